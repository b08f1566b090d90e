import Derived.Test.YtlddglajdcednaaZr2
import Derived.RangeFuncNested
import Derived.RangeFuncBound
import Derived.RangeFuncCalls
import Derived.RangeFuncLeaves
import Derived.RangeFuncBox
import Derived.Shelf.Abstract
import Derived.Shelf.RegionOpen
import Derived.WalkKit
import Derived.OwnWalkIn
import Derived.TacticsInMore
import Derived.LoopNIn
import Derived.LoopIn
import Derived.Maps.AppendAt
import Derived.Test.YtlddglajdcednaaRows
import Derived.Shelf.SortM.Plain
import Derived.Shelf.SortM.SortNone
import Derived.Shelf.SlicesE.Compact
import Derived.Maps.OwnOps
import Derived.Maps.OwnSet
import Derived.Maps.OwnIn

namespace Go.Proofs.Ytlddglajdcednaa
open Go.RowKit
attribute [local go_sem] Oper.semAt_some

theorem OwnX.of {β : Type} {B : Nat} {I : β → World → Prop} (h : OwnFrom B I) : OwnX B none I := fun s A C row hs hg hr => h s A C row hs hg (fun r e => (hr r e).resolve_left (fun q => by cases q))
theorem ownX_fr {β : Type} {B : Nat} {us : List Nat} {w : World} (hB : w.heap.size ≤ B) : OwnX B none (fun (_ : β) W => Fr us w W) := OwnX.of (fun _ A C row hs hg hr =>
  ⟨hg.os.trans hs.os, hg.tape.trans hs.tape, hg.output.trans hs.output, Nat.le_trans hs.size hg.size, fun k hk hn =>
    (hg.block k (Nat.lt_of_lt_of_le hk hs.size) (fun e => by have := (hr k e.symm).1; omega)).trans (hs.block k hk hn)⟩)

/-- what a round keeps: the blocks below a place in the heap, but some -/
structure KpN (N : Nat) (us : List Nat) (W W' : World) : Prop where
  os : W'.os = W.os
  tape : W'.tape = W.tape
  output : W'.output = W.output
  size : W.heap.size ≤ W'.heap.size
  block : ∀ k, k < N → k ∉ us → W'.heap[k]? = W.heap[k]?
section
variable {N : Nat} {us : List Nat} {A W W' : World}
theorem KpN.refl (N : Nat) (us : List Nat) (W : World) : KpN N us W W := ⟨rfl, rfl, rfl, Nat.le_refl _, fun _ _ _ => rfl⟩
theorem KpN.trans (h : KpN N us A W) (k : KpN N us W W') : KpN N us A W' :=
  ⟨k.os.trans h.os, k.tape.trans h.tape, k.output.trans h.output, Nat.le_trans h.size k.size, fun i hi hn => (k.block i hi hn).trans (h.block i hi hn)⟩
theorem KpN.of (h : Below N W W') : KpN N us W W' := ⟨h.os, h.tape, h.output, h.size, fun k hk _ => h.block k hk⟩
theorem KpN.fr {w : World} (h : Fr us w W) (k : KpN N us W W') (hN : w.heap.size ≤ N) : Fr us w W' :=
  ⟨k.os.trans h.os, k.tape.trans h.tape, k.output.trans h.output, Nat.le_trans h.size k.size, fun i hi hn => (k.block i (by omega) hn).trans (h.block i hi hn)⟩
theorem KpN.le {M : Nat} (k : KpN N us W W') (h : M ≤ N) : KpN M us W W' := ⟨k.os, k.tape, k.output, k.size, fun i hi hu => k.block i (by omega) hu⟩
theorem KpN.cell {b o : Nat} {v : Value} (k : KpN N us W W') (h : b < N ∧ b ∉ us) (hc : W.cell? ⟨b, o, none⟩ = some v) : W'.cell? ⟨b, o, none⟩ = some v := (World.cell?_of_block (a := ⟨b, o, none⟩) (k.block _ h.1 h.2)).trans hc
theorem ownX_kpn {β : Type} {B : Nat} (hN : N ≤ W.heap.size) (hB : N ≤ B) : OwnX B none (fun (_ : β) W' => KpN N us W W') := OwnX.of (fun _ A C row hs hg hr =>
  ⟨hg.os.trans hs.os, hg.tape.trans hs.tape, hg.output.trans hs.output, Nat.le_trans hs.size hg.size, fun k hk hn =>
    (hg.block k (by have := hs.size; omega) (fun e => by have := (hr k e.symm).1; omega)).trans (hs.block k hk hn)⟩)
theorem KpN.two {D : Nat} (k : KpN N us W W') (h : D + 2 ≤ N) (hu : D ∉ us ∧ D + 1 ∉ us) : Two D W W' := ⟨k.block _ (by omega) hu.1, k.block _ (by omega) hu.2⟩
theorem KpN.kpf {n₀ B1 B2 : Nat} (k : KpN N us W W') (hn : n₀ ≤ N) (h1 : B1 < N ∧ B1 ∉ us) (h2 : B2 < N ∧ B2 ∉ us) : KpF n₀ us B1 B2 W W' :=
  ⟨k.os, k.tape, k.output, k.size, fun i hi hu => k.block i (by omega) hu, k.block _ h1.1 h1.2, k.block _ h2.1 h2.2⟩
theorem KpN.boxed {B : Nat} {t : TypeId} {v : Value} (k : KpN N us W W') (h : B < N ∧ B ∉ us) (hb : Boxed W B t v) : Boxed W' B t v := (k.block _ h.1 h.2).trans hb
end

theorem parts1_own (F : Fence) (n : Nat) (hF : F.fn 84) (h82 : F.fn 82) (hro : F.round = none) (hn : 2 ≤ n) (B1 B2 : Nat) (us : List Nat) (w : World) {C u s m : Nat} {l : List Cel} (hC : Cls (veil us w) C u s m l (endsL l)) (hG : Good l) (hl : l.length ≤ 1000) (p : Nat) (hp : p < l.length)
    (w1 : World) (hw1 : Fr us w w1) (hB1 : w1.cell? ⟨B1, 0, none⟩ = some (.int .i64 p)) (hB2 : w1.cell? ⟨B2, 0, none⟩ = some (.pointer (some ⟨C, 0, none⟩))) :
    SeqOwn F n (n - 1) none Try.prog 84 #[.pointer (some ⟨B1, 0, none⟩), .pointer (some ⟨B2, 0, none⟩)] (fun x : Place l.length => #[.int .i64 (x.1 : Int)]) (KpF w.heap.size us B1 B2)
      (fun pre x _ => valsP (pre ++ [x]) <+: argsL l p) (fun zs => valsP zs = argsL l p) (fun _ => True) w1 := by
  intro l0 J Jx W hW _ hJ _ hY h0
  have h := parts1_in F n hF h82 hro hn l0 B1 B2 us w hC hG hl p hp J Jx W (hw1.trans (Fr.of hW)) (abides_of_own hJ.own) (fun pre x W1 h1 h2 => (hY pre x W1 h1 h2).mono (fun e w' h => h.imp id (fun q => ⟨q.1, q.2.1⟩)))
    ((hW.cell (p := ⟨B1, 0, none⟩) (cell_lt hB1)).trans hB1) ((hW.cell (p := ⟨B2, 0, none⟩) (cell_lt hB2)).trans hB2) h0
  refine h.mono ?_
  rintro e W' ⟨hv, hh⟩
  exact ⟨hv, hh.imp id (fun ⟨pre, _, hx⟩ => ⟨pre, trivial, hx⟩)⟩

set_option maxRecDepth 100000 in
set_option maxHeartbeats 4000000 in
theorem pairs1_own (F : Fence) (n : Nat) (h83 : F.fn 83) (h68 : F.fn 68) (h84 : F.fn 84) (h82 : F.fn 82) (hro : F.round = none) (hn : 6 ≤ n) (By Bc Bx : Nat) (us : List Nat) (w : World) {C u s m : Nat} {l : List Cel} (hC : Cls (veil us w) C u s m l (endsL l)) (hG : Good l) (hl : l.length ≤ 1000) (p q : Nat) (hp : p < l.length) (hq : q < l.length) (har : ar l[p] = ar l[q])
    (w1 : World) (hw1 : Fr us w w1) (cy : w1.cell? ⟨By, 0, none⟩ = some (.int .i64 q)) (cc : w1.cell? ⟨Bc, 0, none⟩ = some (.pointer (some ⟨C, 0, none⟩))) (cx : w1.cell? ⟨Bx, 0, none⟩ = some (.int .i64 p)) (hus : ∀ k ∈ us, k < w1.heap.size + 2) (hcu : Bc ∉ us) :
    SeqOwn F n (n - 1 - 1 - 1) (some 1) Try.prog 83 #[.pointer (some ⟨By, 0, none⟩), .pointer (some ⟨Bc, 0, none⟩), .pointer (some ⟨Bx, 0, none⟩)] (fun e : Place l.length × Place l.length => #[.int .i64 (e.1.1 : Int), .int .i64 (e.2.1 : Int)]) (KpN (w1.heap.size + 8) us)
      (fun pre _ W => pre.length < ar l[p] ∧ w1.heap.size + 8 ≤ W.heap.size) (fun zs => zs.map (fun e => e.1.1) = argsL l p ∧ zs.map (fun e => e.2.1) = argsL l q) (fun _ => True) w1 := by
  intro l0 J Jx W hW hsz hJ hJx hY h0
  have h1n : 1 ≤ n := by omega
  have HS := mkHid hsz
  clear hsz
  have HG := mkHid hG
  have hq0 : (0 : Int) ≤ (q : Int) := by omega
  have hq1 : (q : Int) < (l.length : Int) := by omega
  have c1 := (hW.cell (p := ⟨By, 0, none⟩) (cell_lt cy)).trans cy
  have c2 := (hW.cell (p := ⟨Bc, 0, none⟩) (cell_lt cc)).trans cc
  have c3 := (hW.cell (p := ⟨Bx, 0, none⟩) (cell_lt cx)).trans cx
  have b1 := cell_lt c1
  have b2 := cell_lt c2
  have b3 := cell_lt c3
  have hFW : Fr us w W := hw1.trans (Fr.of hW)
  clear hG
  refine callsIn_of_wp_marks Try.func83 rfl h83 ?_ hro
  simp only [Try.ntmps83, List.size_toArray, List.length_cons, List.length_nil, Nat.reduceAdd, Nat.reduceSub, Array.replicate_succ, Array.replicate_zero, List.push_toArray, List.append_toArray, List.nil_append, List.cons_append]
  gi_wp2
  gi_wp2_with (gi_at_call 68; refine (parts_in F (n - 1) h68 hro (some ⟨C, 0, none⟩) p _).mono ?_; rintro e w' ⟨rfl, rfl⟩)
  have bY := (((Boxed.new W 57 (.func (.yield l0) #[] #[])).alloc (.cells #[.int .i64 ((q : Int) + 1)] 3)).alloc (.cells #[.pointer (some ⟨C, 0, none⟩)] 55)).alloc (.cells #[.int .i64 (p : Int)] 3)
  have bR := ((Boxed.new (W.alloc (.cells #[.func (.yield l0) #[] #[]] 57)) 3 (.int .i64 ((q : Int) + 1))).alloc (.cells #[.pointer (some ⟨C, 0, none⟩)] 55)).alloc (.cells #[.int .i64 (p : Int)] 3)
  have bC := (Boxed.new ((W.alloc (.cells #[.func (.yield l0) #[] #[]] 57)).alloc (.cells #[.int .i64 ((q : Int) + 1)] 3)) 55 (.pointer (some ⟨C, 0, none⟩))).alloc (.cells #[.int .i64 (p : Int)] 3)
  have bP := Boxed.new (((W.alloc (.cells #[.func (.yield l0) #[] #[]] 57)).alloc (.cells #[.int .i64 ((q : Int) + 1)] 3)).alloc (.cells #[.pointer (some ⟨C, 0, none⟩)] 55)) 3 (.int .i64 (p : Int))
  have hJs := hJ.own.alloc (.cells #[.int .i64 (p : Int)] 3) (hJ.own.alloc (.cells #[.pointer (some ⟨C, 0, none⟩)] 55) (hJ.own.alloc (.cells #[.int .i64 ((q : Int) + 1)] 3) (hJ.own.alloc (.cells #[.func (.yield l0) #[] #[]] 57) h0)))
  have hBs := ((((Below.refl W.heap.size W).new (.cells #[.func (.yield l0) #[] #[]] 57)).new (.cells #[.int .i64 ((q : Int) + 1)] 3)).new (.cells #[.pointer (some ⟨C, 0, none⟩)] 55)).new (.cells #[.int .i64 (p : Int)] 3)
  have hss : ((((W.alloc (.cells #[.func (.yield l0) #[] #[]] 57)).alloc (.cells #[.int .i64 ((q : Int) + 1)] 3)).alloc (.cells #[.pointer (some ⟨C, 0, none⟩)] 55)).alloc (.cells #[.int .i64 (p : Int)] 3)).heap.size = W.heap.size + 4 := by simp
  simp only [World.size_alloc] at bR bC bP
  generalize (((W.alloc (.cells #[.func (.yield l0) #[] #[]] 57)).alloc (.cells #[.int .i64 ((q : Int) + 1)] 3)).alloc (.cells #[.pointer (some ⟨C, 0, none⟩)] 55)).alloc (.cells #[.int .i64 (p : Int)] 3) = Ws at bY bR bC bP hJs hBs hss ⊢
  have hwW := hFW.size
  have hsz1 := Nat.le_of_eq HS.out
  have hsz2 := Nat.le_of_eq HS.out.symm
  have hss1 := Nat.le_of_eq hss
  have hss2 := Nat.le_of_eq hss.symm
  clear hss
  have mixed : Try.prog.follows Departure.mixedOrders = true := by kernel_rfl
  have hus2 : ∀ k, W.heap.size ≤ k → k ∉ us := fun k hk hm => by have := hus k hm; omega
  refine range_own hro h1n (gf := 84) (lb := #[.pointer (some ⟨W.heap.size + 1 + 1 + 1, 0, none⟩), .pointer (some ⟨W.heap.size + 1 + 1, 0, none⟩)]) rfl h84 (enters_of Try.func84 (by kernel_rfl) rfl)
    (parts1_own F (n - 1) h84 h82 hro (by omega) (W.heap.size + 1 + 1 + 1) (W.heap.size + 1 + 1) us w hC HG.out hl p hp Ws (hFW.trans (Fr.of hBs)) bP.cell bC.cell)
    KpF.trans (fun A o o' _ => ⟨rfl, rfl, rfl, by simp, fun k hk _ => World.putObj_heap_other (by omega), World.putObj_heap_other (by omega), World.putObj_heap_other (by omega)⟩) (fun _ => rfl)
    (I := fun pre W' => (∃ ps : List (Place l.length × Place l.length), ps.map (fun e => e.1) = pre ∧ ps.map (fun e => e.2.1) = (List.range pre.length).map (argP l q) ∧ J ps W') ∧ (Boxed W' (W.heap.size + 1) 3 (.int .i64 (afterI l (q + 1) pre.length)) ∧ (Boxed W' W.heap.size 57 (.func (.yield l0) #[] #[]) ∧ KpN W.heap.size us W W')))
    (Ix := fun c pre W' => c = .ret ∧ ∃ ps, Jx ps W')
    ?hI ?hIx ?h0 (fun x => { tmps := #[.func (.yield l0) #[] #[], .pointer (some ⟨By, 0, none⟩), .pointer (some ⟨Bc, 0, none⟩), .pointer (some ⟨Bx, 0, none⟩), .pointer (some ⟨W.heap.size, 0, none⟩), .pointer (some ⟨W.heap.size + 1, 0, none⟩), .int .i64 (x.1 : Int), .int .i64 (q : Int), .int .i64 ((q : Int) + 1), .pointer (some ⟨C, 0, none⟩), .int .i64 (p : Int), .func (.func 84) #[] #[.pointer (some ⟨W.heap.size + 1 + 1 + 1, 0, none⟩), .pointer (some ⟨W.heap.size + 1 + 1, 0, none⟩)], .int .i64 (x.1 : Int), undef, undef, undef, undef, undef, undef, undef, undef, undef, undef, undef, undef], defers := [] }) ?assign ?body ?done ?stop
  case hI =>
    refine OwnX.and (fun s A C' row hs hg hr => ?_) (OwnX.and (OwnX.of (Own.from (boxed_own _ _ _) _)) (OwnX.and (OwnX.of (Own.from (boxed_own _ _ _) _)) (ownX_kpn (Nat.le_refl _) (by omega))))
    obtain ⟨ps, e1, e2, e3⟩ := hs
    exact ⟨ps, e1, e2, hJ.drop.more (by omega) ps A C' row e3 hg hr⟩
  case hIx =>
    rintro c s A C' row ⟨e1, ps, e3⟩ hg hr
    exact ⟨e1, ps, hJx.drop.more (by omega) ps A C' row e3 hg hr⟩
  case h0 => exact ⟨⟨[], rfl, rfl, hJs⟩, by rw [show ([] : List (Place l.length)).length = 0 from rfl, afterI_zero (by omega)]; exact bR, bY, KpN.of hBs⟩
  case assign =>
    intro l2 x W' K hK
    gi_wp2
    exact hK
  case body =>
    rintro l2 pre x W' hsz3 ⟨⟨ps, e1, e2, hJ'⟩, bR', bY', hK'⟩ ⟨Wt, hT, hst⟩
    have hL : argsL l p = (List.range (ar l[p])).map (argP l p) := by unfold argsL; rw [List.getElem?_eq_getElem hp]
    have hlt : pre.length < ar l[p] := by
      have h1 := hT.length_le
      rw [hL] at h1
      simp [valsP] at h1
      omega
    have hps : ps.length = pre.length := by rw [← e1]; simp
    obtain ⟨g1, g2, g3⟩ := good_after HG.out hq (j := pre.length) (by omega)
    have g4 := g3 (by omega)
    have HAR := mkHid har
    obtain ⟨n1, hn1⟩ : ∃ n1 : Nat, afterI l (q + 1) pre.length = (n1 : Int) := ⟨(afterI l (q + 1) pre.length).toNat, by omega⟩
    have HN : Hid ((endI l n1 : Int) = afterI l (q + 1) (pre.length + 1)) := by
      rw [Hid, ← good_next HG.out hq (by omega), hn1]; rfl
    have HAP : Hid (argP l q pre.length = n1) := by unfold argP; rw [hn1]; rfl
    rw [hn1] at bR' g1 g2 g4
    have hnl : n1 < l.length := by omega
    obtain ⟨fn, tmps, assign, body, hy, hR⟩ := hY ps (x, ⟨n1, hnl⟩) W' hJ' ⟨by omega, by omega⟩
    have cY := bY'.cell
    have cR := bR'.cell
    have HE1 := mkHid e1
    have HE2 := mkHid e2
    have HPS := mkHid hps
    have HST := mkHid hst
    have h1' : 1 ≤ n - 1 - 1 := by omega
    clear hn1 g3 e1 e2 hps hst hL har
    dsimp only at hy
    gi_wp2
    refine hR.mono ?_
    have nR : W.heap.size + 1 < w1.heap.size + 8 ∧ W.heap.size + 1 ∉ us := ⟨by omega, hus2 _ (by omega)⟩
    have nY : W.heap.size < w1.heap.size + 8 ∧ W.heap.size ∉ us := ⟨by omega, hus2 _ (by omega)⟩
    have nP : W.heap.size + 1 + 1 + 1 < w1.heap.size + 8 ∧ W.heap.size + 1 + 1 + 1 ∉ us := ⟨by omega, hus2 _ (by omega)⟩
    have nC : W.heap.size + 1 + 1 < w1.heap.size + 8 ∧ W.heap.size + 1 + 1 ∉ us := ⟨by omega, hus2 _ (by omega)⟩
    rintro e W3 (⟨rfl, hJ3, hk3⟩ | ⟨rfl, hJx3, hk3⟩)
    · have bR3 := hk3.boxed nR bR'
      have bY3 := hk3.boxed nY bY'
      have hK3 := hK'.trans (hk3.le (by omega : W.heap.size ≤ w1.heap.size + 8))
      have c23 := hK3.cell ⟨b2, hcu⟩ c2
      have hF3 := hK3.fr hFW hwW
      have hC3 := hC.keeps hF3.keeps
      obtain ⟨ae, cape, e1, er⟩ := hC3.behind
      have c1 := (veil_cell e1).2
      have hel := Row.keeps er (veil_keeps us W3)
      have hem := hel.max
      have hele := hel.le
      rw [endsL_length] at c1 hele
      have hnl2 : n1 < (endsL l).length := by rw [endsL_length]; exact hnl
      obtain ⟨be, offe, rfl, _, hate⟩ := hel.cases.resolve_left (fun e => by rw [e] at hnl2; simp at hnl2)
      obtain ⟨f0, _, _⟩ := int_at hate (Below.refl _ _) hnl2
      rw [endsL_get] at f0
      obtain ⟨r1, r2⟩ := end_range HG.out hnl
      have cR3 := bR3.cell
      have fR3 := bR3.frozen
      clear hC3 e1 er hel hate hem hR hy hY cR cY
      have hW3 : W.heap.size + 1 < W3.heap.size := bR3.lt
      gi_wp2
      generalize hA : Act.mk _ _ = A0
      refine Code.wpIn_mono (Q := fun e A' W4 => e = .normal ∧ W4 = W3.drew.setCell ⟨W.heap.size + 1, 0, none⟩ (.int .i64 (endI l n1))) ?_ ?_
      · rintro e A' W4 ⟨rfl, rfl⟩
        have hSet : ∀ N, N ≤ W.heap.size + 1 → Below N W3 (W3.drew.setCell ⟨W.heap.size + 1, 0, none⟩ (.int .i64 (endI l n1))) := fun N hN => ((Below.refl N W3).drew).setCell (p := ⟨W.heap.size + 1, 0, none⟩) hN _
        have hoth : ∀ k, k ≠ W.heap.size + 1 → (W3.drew.setCell ⟨W.heap.size + 1, 0, none⟩ (.int .i64 (endI l n1))).heap[k]? = W3.heap[k]? := fun k hk => Below.heap_setCell W3.drew ⟨W.heap.size + 1, 0, none⟩ _ k hk
        have hT3 := hk3.two (D := Ws.heap.size) (by omega) ⟨hus2 _ (by omega), hus2 _ (by omega)⟩
        refine ⟨⟨(hoth _ (by omega)).trans hT3.1, (hoth _ (by omega)).trans hT3.2⟩, ?_, ⟨ps ++ [(x, ⟨n1, hnl⟩)], ?_, ?_, ?_⟩, ?_, ?_, hK3.trans (KpN.of (hSet _ (by omega)))⟩
        · have h2 := hk3.kpf (n₀ := w.heap.size) (by omega) nP nC
          have h3 := hSet w.heap.size (by omega)
          exact h2.trans ⟨h3.os, h3.tape, h3.output, h3.size, fun k hk _ => h3.block k hk, hoth _ (by omega), hoth _ (by omega)⟩
        · rw [List.map_append, HE1.out]; rfl
        · rw [List.map_append, HE2.out, List.length_append, List.length_singleton, List.range_succ, List.map_append]
          simp [HAP.out]
        · have h3 := hSet w.heap.size (by omega)
          exact hJ _ W3 _ (some (W.heap.size + 1)) hJ3 ⟨h3.os, h3.tape, h3.output, h3.size, fun k _ hne => hoth k (fun e => hne (by rw [e]))⟩ (fun r e => by cases e; exact .inl rfl)
        · rw [List.length_append, List.length_singleton, ← HN.out]
          exact bR3.set _
        · exact (hoth _ (by omega)).trans bY3
      · subst hA
        gi_region_with_o (fail)
        all_goals
          exact ⟨rfl, rfl⟩
    · gi_wp2
      exact ⟨hk3.two (D := Ws.heap.size) (by omega) ⟨hus2 _ (by omega), hus2 _ (by omega)⟩, hk3.kpf (by omega) nP nC, rfl, _, hJx3⟩
  case done =>
    rintro D zs W' hD hS ⟨⟨ps, e1, e2, hJ'⟩, _, _, _⟩ hK
    have hL : argsL l p = (List.range (ar l[p])).map (argP l p) := by unfold argsL; rw [List.getElem?_eq_getElem hp]
    have hL2 : argsL l q = (List.range (ar l[q])).map (argP l q) := by unfold argsL; rw [List.getElem?_eq_getElem hq]
    have hzl : zs.length = ar l[p] := by
      have h1 := congrArg List.length hS
      rw [hL] at h1
      simpa [valsP] using h1
    have HA : Hid (ps.map (fun e => e.1.1) = argsL l p) := by
      rw [Hid, ← hS, ← e1]
      simp [valsP]
    have HB : Hid (ps.map (fun e => e.2.1) = argsL l q) := by
      rw [Hid, e2, hL2, hzl, har]
    have hJ2 : J ps (W'.putObj D (.deferred none)) := hJ.own.putObj _ hJ' (by omega) hK rfl
    clear hL hL2 hzl hS e1 e2
    gi_wp2
    refine ⟨by simp, .inl ⟨_, _, rfl, run_takeDeferred hK, ?_⟩⟩
    exact ⟨_, results_none rfl _ _ _, ⟨_, rfl⟩, .inl ⟨ps, ⟨HA.out, HB.out⟩, hJ2⟩⟩
  case stop =>
    rintro D c pre W' hD _ ⟨rfl, ps, hJ'⟩ hK
    have hJ2 : Jx ps (W'.putObj D (.deferred none)) := hJx.own.putObj _ hJ' (by omega) hK rfl
    gi_wp2
    refine ⟨by simp, .inl ⟨_, _, rfl, run_takeDeferred hK, ?_⟩⟩
    exact ⟨_, results_none rfl _ _ _, ⟨_, rfl⟩, .inr ⟨ps, trivial, hJ2⟩⟩
end Go.Proofs.Ytlddglajdcednaa

namespace Go.Proofs.Ytlddglajdcednaa
open Go.RowKit
attribute [local go_sem] Oper.semAt_some

/-! ### a loop in whose rounds a range over a function stands: each round pushes a mark; at the return all of them are shut -/
section
variable {F : Fence} {n : Nat} {P : Program}
def marksOf (Ds : List Nat) : List Deferred := Ds.map fun D => { target := .collected D, args := #[] }
def shutAll : List Nat → World → World
  | [], w => w
  | D :: Ds, w => shutAll Ds (w.putObj D (.deferred none))
theorem shutAll_heap : ∀ (Ds : List Nat) (w : World) (k : Nat), k ∉ Ds → (shutAll Ds w).heap[k]? = w.heap[k]?
  | [], _, _, _ => rfl
  | D :: Ds, w, k, h => (shutAll_heap Ds _ k (fun e => h (List.mem_cons_of_mem _ e))).trans (World.putObj_heap_other (fun e => h (by rw [e]; exact List.mem_cons_self)))
theorem shutAll_size : ∀ (Ds : List Nat) (w : World), (shutAll Ds w).heap.size = w.heap.size
  | [], _ => rfl
  | _ :: Ds, w => (shutAll_size Ds _).trans (by simp)
theorem shutAll_rest : ∀ (Ds : List Nat) (w : World), (shutAll Ds w).os = w.os ∧ (shutAll Ds w).tape = w.tape ∧ (shutAll Ds w).output = w.output
  | [], _ => ⟨rfl, rfl, rfl⟩
  | D :: Ds, w => shutAll_rest Ds (w.putObj D (.deferred none))
theorem shutAll_kpn {Ds : List Nat} {w : World} {us : List Nat} {N : Nat} (h : ∀ D ∈ Ds, N ≤ D ∨ D ∈ us) : KpN N us w (shutAll Ds w) :=
  ⟨(shutAll_rest Ds w).1, (shutAll_rest Ds w).2.1, (shutAll_rest Ds w).2.2, Nat.le_of_eq (shutAll_size Ds w).symm, fun k hk hn => shutAll_heap Ds w k (fun e => by rcases h k e with q | q; omega; exact hn q)⟩
/-- at the return: the marks one after another -/
theorem leaves_marks {fn : Func} {tmps : Array Value} {R : Ending → World → Prop} : ∀ (Ds : List Nat) (w : World), Ds.Nodup → (∀ D ∈ Ds, w.heap[D]? = some (.deferred (some []))) →
    LeavesIn F n P fn tmps R [] .returning (shutAll Ds w) → LeavesInM F n P fn tmps R (marksOf Ds) .returning w
  | [], _, _, _, h => h
  | D :: Ds, w, hn, hD, h => by
    obtain ⟨h1, h2⟩ := List.nodup_cons.1 hn
    refine ⟨by simp, .inl ⟨D, _, rfl, run_takeDeferred (hD D List.mem_cons_self), leaves_marks Ds _ h2 (fun E hE => ?_) h⟩⟩
    exact (World.putObj_heap_other (fun e => h1 (by rw [← e]; exact hE))).trans (hD E (List.mem_cons_of_mem _ hE))
end
end Go.Proofs.Ytlddglajdcednaa
namespace Go.Proofs.Ytlddglajdcednaa
open Go.RowKit
attribute [local go_sem] Oper.semAt_some

/-- a number that may be -/
abbrev IntF := { n : Int // -9223372036854775808 ≤ n ∧ n ≤ 9223372036854775807 }
def valsI (l : List IntF) : List Int := l.map Subtype.val
theorem valsI_append (a b : List IntF) : valsI (a ++ b) = valsI a ++ valsI b := by simp [valsI]
theorem valsI_fit (l : List IntF) : ∀ n ∈ valsI l, -9223372036854775808 ≤ n ∧ n ≤ 9223372036854775807 := by
  intro n hn
  obtain ⟨x, _, rfl⟩ := List.mem_map.1 hn
  exact x.2

set_option maxHeartbeats 1000000 in
theorem values_in (F : Fence) (n : Nat) (hF : F.fn 71) (hro : F.round = none) (a : Option Addr) (len cap : Nat) (w : World) :
    CallsIn F n Try.prog 71 #[.slice a len cap] w fun e w' => e = .returned (.func (.func 87) #[] #[.pointer (some ⟨w.heap.size, 0, none⟩)]) ∧ w' = w.alloc (.cells #[.slice a len cap] 36) := by
  refine callsIn_of_wp Try.func71 rfl hF ?_ hro
  simp only [Try.ntmps71, List.size_toArray, List.length_cons, List.length_nil, Nat.reduceAdd, Nat.reduceSub, Array.replicate_succ, Array.replicate_zero, List.push_toArray, List.append_toArray, List.nil_append, List.cons_append]
  gi_wp2
  go_ret
  exact ⟨rfl, rfl⟩

set_option maxRecDepth 100000 in
set_option maxHeartbeats 4000000 in
theorem values1_in (F : Fence) (n : Nat) (hF : F.fn 87) (hro : F.round = none) (hn : 1 ≤ n) (l Bs n₀ : Nat) (w : World) (a : Option Addr) (cap : Nat) (xs : List Int) (hx : Row w a cap xs) (hwn : w.heap.size ≤ n₀)
    (J Jx : List IntF → World → Prop) (W : World) (hW : Below w.heap.size w W)
    (hY : ∀ pre x W, J pre W → pre.length < xs.length → YieldAt F (n - 1) Try.prog l #[.int .i64 x.1] W fun e W' =>
      (e = .returned (.bool true) ∧ J (pre ++ [x]) W' ∧ Below n₀ W W') ∨ (e = .returned (.bool false) ∧ Jx (pre ++ [x]) W'))
    (hBs : W.cell? ⟨Bs, 0, none⟩ = some (.slice a xs.length cap)) (h0 : J [] W) :
    CallsIn F n Try.prog 87 #[.func (.yield l) #[] #[], .pointer (some ⟨Bs, 0, none⟩)] W fun e W' => (∃ v, e = .returned v) ∧
      ((∃ ys, valsI ys = xs ∧ J ys W') ∨ (∃ pre, valsI pre <+: xs ∧ Jx pre W')) := by
  have hm := hx.max
  have hm2 := hx.le
  refine callsIn_of_wp Try.func87 rfl hF ?_ hro
  simp only [Try.ntmps87, List.size_toArray, List.length_cons, List.length_nil, Nat.reduceAdd, Nat.reduceSub, Array.replicate_succ, Array.replicate_zero, List.push_toArray, List.append_toArray, List.nil_append, List.cons_append]
  gi_wp2
  gi_loopw [7] (fun i wr => ∃ (k : Nat) (pre : List IntF), k ≤ xs.length ∧ i = .int .i64 k ∧ Hid (valsI pre = xs.take k) ∧ J pre wr ∧ Below n₀ W wr) (fun i _ => xs.length - (intOf i).toNat)
  case atStart => exact ⟨0, [], Nat.zero_le _, rfl, by simp [Hid, valsI], h0, Below.refl _ _⟩
  case round =>
    obtain ⟨k, pre, hk, rfl, HP, hJs, hnx⟩ := hrel
    by_cases hlt : k < xs.length
    · obtain ⟨b, off, rfl, hb, hat⟩ := hx.cases.resolve_left (fun e => by simp [e] at hlt)
      obtain ⟨d0, n1, n2⟩ := int_at hat (hW.trans (hnx.mono hwn)) hlt
      have hroom : pre.length < xs.length := by
        have h1 : pre.length = (valsI pre).length := by simp [valsI]
        rw [h1, HP.out]; simp; omega
      have HV : Hid (valsI (pre ++ [⟨xs[k], n1, n2⟩]) = xs.take (k + 1)) := by
        rw [Hid, valsI_append, HP.out, List.take_succ_eq_append_getElem hlt]; rfl
      obtain ⟨fn, tmps, assign, body, hy, hR⟩ := hY pre ⟨xs[k], n1, n2⟩ wr hJs hroom
      dsimp only at hy
      clear hroom
      gi_wp2
      refine hR.mono ?_
      rintro e W3 (⟨rfl, hJ3, hk3⟩ | ⟨rfl, hJx3⟩)
      · gi_wp2
        go_roundw
        case rel => exact ⟨k + 1, _, by omega, by simp, HV, hJ3, hnx.trans hk3⟩
        case measure => simp [intOf]; omega
      · gi_wp2
        refine bodyPost_ret (results_none rfl _ _ _) rfl ?_
        exact ⟨⟨_, rfl⟩, .inr ⟨_, by rw [HV.out]; exact List.take_prefix _ _, hJx3⟩⟩
    · have HV : Hid (valsI pre = xs) := by rw [Hid, HP.out, List.take_of_length_le (by omega)]
      gi_wp2
      go_end0
      exact ⟨⟨_, rfl⟩, .inl ⟨_, HV.out, hJs⟩⟩
end Go.Proofs.Ytlddglajdcednaa
namespace Go.Proofs.Ytlddglajdcednaa
open Go.RowKit
attribute [local go_sem] Oper.semAt_some

/-- what a round of AppendSeq finds -/
def SeqI (w : World) (pre : List IntF) (W : World) : Prop := ∃ v, Boxed W w.heap.size 36 v ∧ W.ownsRow w.heap.size 3 1 v (valsI pre).length ((valsI pre).map (Value.int .i64)) ∧ True
theorem SeqI.own (w : World) : Own (SeqI w) := holdsRow_own w.heap.size w.heap.size 36 3 1 (fun pre : List IntF => (valsI pre).length) (fun pre => (valsI pre).map (Value.int .i64)) (fun _ _ => True)

set_option maxRecDepth 100000 in
set_option maxHeartbeats 4000000 in
theorem appendseq_in (F : Fence) (n : Nat) (h90 : F.fn 90) (h87 : F.fn 87) (hro : F.round = none) (hn : 3 ≤ n) (Bs : Nat) (w0 w : World) (a : Option Addr) (cap : Nat) (xs : List Int) (hx : Row w0 a cap xs) (hl : xs.length ≤ 1000000) (hw : Below w0.heap.size w0 w) (hBs : w.cell? ⟨Bs, 0, none⟩ = some (.slice a xs.length cap)) :
    CallsIn F n Try.prog 90 #[.slice none 0 0, .func (.func 87) #[] #[.pointer (some ⟨Bs, 0, none⟩)]] w fun e w' => ∃ v, e = .returned v ∧ AccInv w.heap.size 3 xs v w' ∧ Below w.heap.size w w' := by
  have h1 : 1 ≤ n := by omega
  have hBl := cell_lt hBs
  refine callsIn_of_wp_marks Try.func90 rfl h90 ?_ hro
  simp only [Try.ntmps90, List.size_toArray, List.length_cons, List.length_nil, Nat.reduceAdd, Nat.reduceSub, Array.replicate_succ, Array.replicate_zero, List.push_toArray, List.append_toArray, List.nil_append, List.cons_append]
  gi_wp2
  have bS := Boxed.new w 36 (.slice none 0 0)
  have hB0 := (Below.refl w.heap.size w).new (.cells #[.slice none 0 0] 36)
  refine wpIn_rangeFunc_ownG hro h1 (gf := 87) (lb := #[.pointer (some ⟨Bs, 0, none⟩)]) rfl h87 (enters_of Try.func87 (by kernel_rfl) rfl)
    (α := IntF) (encs := fun x => #[.int .i64 x.1]) (Kp := Below w.heap.size) (S := fun ys => valsI ys = xs) (Sp := fun pre => valsI pre <+: xs) (N := xs.length) (w0 := w.alloc (.cells #[.slice none 0 0] 36))
    (fun l J Jx W hW hJ _ hY h0 => values1_in F (n - 1) h87 hro (by omega) l Bs w.heap.size w0 a cap xs hx hw.size J Jx W ((hw.then hB0).then hW) hY
      ((hW.cell (p := ⟨Bs, 0, none⟩) (by simp; omega)).trans (keep hBs hB0)) h0)
    belowK_t (belowK_b (by simp)) (Below.refl _ _) (fun _ => rfl)
    (fun pre W => (SeqI w pre W ∧ Below w.heap.size w W) ∧ pre.length ≤ 1000000)
    (fun _ _ _ => False)
    (OwnFrom.and (OwnFrom.and ((SeqI.own w).from _) (ownFrom_below (Nat.le_refl _) hB0.size)) (ownFrom_pure _ _))
    (fun _ _ _ _ _ hs _ _ => hs)
    ⟨⟨⟨_, bS, World.ownsRow_nil _ _ _ _, trivial⟩, hB0⟩, by simp⟩
    (fun x => { tmps := #[.slice none 0 0, .func (.func 87) #[] #[.pointer (some ⟨Bs, 0, none⟩)], .pointer (some ⟨w.heap.size, 0, none⟩), undef, .slice none 0 0, .int .i64 x.1, .func (.func 87) #[] #[.pointer (some ⟨Bs, 0, none⟩)], .int .i64 x.1, undef, undef, undef, undef, undef], defers := [] })
    ?assign ?body ?done ?stop
  case assign =>
    intro l x W K hK
    gi_wp2
    exact hK
  case body =>
    rintro l pre x W ⟨⟨⟨v, hb, hown, _⟩, hB⟩, hlen⟩ hlt
    obtain ⟨av, capv, rfl, hrow⟩ := own_rowI hown (valsI_fit pre)
    have c6 : W.cell? ⟨w.heap.size, 0, none⟩ = some (.slice av (valsI pre).length capv) := hb.cell
    have hvl : (valsI pre).length = pre.length := by simp [valsI]
    have hv2 : (valsI pre).length ≤ 1000000 := by omega
    have HVL := mkHid hvl
    have HPL : Hid ((pre ++ [x]).length ≤ 1000000) := by rw [Hid, List.length_append]; simp; omega
    clear hvl
    obtain ⟨i0, hi, hz0, hz1, hz2⟩ := info_parts Try.infoInt
    gi_wp2_with (gi_at_builtin; refine wpListIn_append_own _ rfl _ _ 36 rfl w.heap.size 3 i0 _ 1 8 Try.underlying36 hi hz0 hz1 hz2 rfl (by decide) (.slice av (valsI pre).length capv) (valsI pre).length ((valsI pre).map (Value.int .i64)) rfl (hown.alloc _) ⟨W.heap.size, 0, none⟩ 1 1 [.int .i64 x.1] rfl rfl ((src_new W #[.int .i64 x.1] _ 1 rfl (by simp [Value.oneCell'])).cells _ rfl) (by simp [Value.oneCell']) (by unfold maxLen; omega) (by omega) (by have := hB.size; simp; omega) ?_; intro v' w1 hown' hgrow _; obtain ⟨g', cap', rfl⟩ := ownsRow_succ hown'; obtain ⟨hv1, hv2', hr2, hk2, hb2⟩ := hb.appended (by decide) hown hB.size (by omega) hown' hgrow; have hc1 : w1.cell? ⟨w.heap.size, 0, none⟩ = _ := hv1.cell; have hf1 : w1.frozen? ⟨w.heap.size, 0, none⟩ = _ := hv1.frozen)
    refine ⟨hk2.from _, hb2, ⟨⟨⟨_, hv2', ?_, trivial⟩, hB.trans hb2⟩, HPL.out⟩⟩
    rw [valsI_append, List.map_append, List.length_append]
    exact hr2
  case done =>
    rintro D zs W hD hS ⟨⟨⟨v, hb, hown, _⟩, hB⟩, hlen⟩ hK
    have c6 := hb.cell
    have o3 := ownsRow_putObj hown (.deferred none) hK rfl
    have HA : AccInv w.heap.size 3 xs v (W.putObj D (.deferred none)) := by
      subst hS
      exact ⟨_, o3, crows_ints _ (valsI_fit zs)⟩
    clear o3 hown
    gi_wp2
    refine ⟨by simp, .inl ⟨_, _, rfl, run_takeDeferred hK, ?_⟩⟩
    exact ⟨_, results_tmp rfl _ _ _, v, rfl, HA, hB.trans (belowK_b (w := w) (Nat.le_refl _) W D _ _ (by simp at hD; omega) hK rfl rfl)⟩
  case stop =>
    rintro D c pre W _ _ h _
    exact h.elim
end Go.Proofs.Ytlddglajdcednaa
namespace Go.Proofs.Ytlddglajdcednaa
open Go.Shelf
def Try.sortI_ren : Go.Shelf.Ren := ⟨fun | 5 => 86 | 8 => 92 | 7 => 91 | 19 => 102 | 20 => 103 | 10 => 93 | 11 => 94 | 12 => 95 | 13 => 96 | 14 => 97 | 15 => 98 | 16 => 99 | 17 => 100 | 18 => 101 | 30 => 104 | 31 => 105 | 32 => 106 | 33 => 107 | 34 => 108 | 35 => 109 | 40 => 110 | n => n, fun | 23 => 36 | 25 => 3 | 3 => 3 | 32 => 108 | 22 => 36 | 0 => 0 | 44 => 117 | 46 => 119 | 4 => 4 | 36 => 111 | 35 => 110 | 41 => 80 | 5 => 5 | 9 => 9 | 53 => 120 | 57 => 124 | 63 => 126 | 64 => 127 | n => n, fun | n => n⟩
theorem Try.sortI : Go.Proofs.SlLaysM.n5 Try.prog Try.sortI_ren := {
  mixed := by kernel_rfl
  f5 := ⟨Try.f86.name, by decide, Try.func86.trans (congrArg some (by kernel_rfl))⟩
  f7 := ⟨Try.f91.name, by decide, Try.func91.trans (congrArg some (by kernel_rfl))⟩
  f8 := Try.func92.trans (congrArg some (by kernel_rfl))
  f10 := ⟨Try.f93.name, by decide, Try.func93.trans (congrArg some (by kernel_rfl))⟩
  f11 := ⟨Try.f94.name, by decide, Try.func94.trans (congrArg some (by kernel_rfl))⟩
  f12 := ⟨Try.f95.name, by decide, Try.func95.trans (congrArg some (by kernel_rfl))⟩
  f13 := ⟨Try.f96.name, by decide, Try.func96.trans (congrArg some (by kernel_rfl))⟩
  f14 := ⟨Try.f97.name, by decide, Try.func97.trans (congrArg some (by kernel_rfl))⟩
  f15 := ⟨Try.f98.name, by decide, Try.func98.trans (congrArg some (by kernel_rfl))⟩
  f16 := ⟨Try.f99.name, by decide, Try.func99.trans (congrArg some (by kernel_rfl))⟩
  f17 := ⟨Try.f100.name, by decide, Try.func100.trans (congrArg some (by kernel_rfl))⟩
  f18 := ⟨Try.f101.name, by decide, Try.func101.trans (congrArg some (by kernel_rfl))⟩
  f19 := Try.func102.trans (congrArg some (by kernel_rfl))
  f20 := Try.func103.trans (congrArg some (by kernel_rfl))
  f30 := ⟨Try.f104.name, by decide, Try.func104.trans (congrArg some (by kernel_rfl))⟩
  f31 := Try.func105.trans (congrArg some (by kernel_rfl))
  f32 := Try.func106.trans (congrArg some (by kernel_rfl))
  f33 := ⟨Try.f107.name, by decide, Try.func107.trans (congrArg some (by kernel_rfl))⟩
  f34 := ⟨Try.f108.name, by decide, Try.func108.trans (congrArg some (by kernel_rfl))⟩
  f35 := ⟨Try.f109.name, by decide, Try.func109.trans (congrArg some (by kernel_rfl))⟩
  f40 := ⟨Try.f110.name, by decide, Try.func110.trans (congrArg some (by kernel_rfl))⟩
  t0 := Try.underlying0
  a0 := Try.isAgg0
  z0 := Try.sizeOf0
  v0 := Try.zeroValue0
  t3 := Try.underlying3
  a3 := Try.isAgg3
  z3 := Try.sizeOf3
  v3 := Try.zeroValue3
  t4 := Try.underlying4
  a4 := Try.isAgg4
  z4 := Try.sizeOf4
  v4 := Try.zeroValue4
  t5 := Try.underlying5
  a5 := Try.isAgg5
  z5 := Try.sizeOf5
  v5 := Try.zeroValue5
  t9 := Try.underlying9
  a9 := Try.isAgg9
  z9 := Try.sizeOf9
  v9 := Try.zeroValue9
  t22 := Try.underlying36
  a22 := Try.isAgg36
  z22 := Try.sizeOf36
  v22 := Try.zeroValue36
  t23 := Try.underlying36
  a23 := Try.isAgg36
  z23 := Try.sizeOf36
  v23 := Try.zeroValue36
  t25 := Try.underlying3
  a25 := Try.isAgg3
  z25 := Try.sizeOf3
  v25 := Try.zeroValue3
  t32 := Try.underlying108
  a32 := Try.isAgg108
  z32 := Try.sizeOf108
  v32 := Try.zeroValue108
  t35 := Try.underlying110
  a35 := Try.isAgg110
  z35 := Try.sizeOf110
  v35 := Try.zeroValue110
  t36 := Try.underlying111
  a36 := Try.isAgg111
  z36 := Try.sizeOf111
  v36 := Try.zeroValue111
  t41 := Try.underlying80
  a41 := Try.isAgg80
  z41 := Try.sizeOf80
  v41 := Try.zeroValue80
  t44 := Try.underlying117
  a44 := Try.isAgg117
  z44 := Try.sizeOf117
  v44 := Try.zeroValue117
  t46 := Try.underlying119
  a46 := Try.isAgg119
  z46 := Try.sizeOf119
  v46 := Try.zeroValue119
  t53 := Try.underlying120
  a53 := Try.isAgg120
  z53 := Try.sizeOf120
  v53 := Try.zeroValue120
  t57 := Try.underlying124
  a57 := Try.isAgg124
  z57 := Try.sizeOf124
  v57 := Try.zeroValue124
  t63 := Try.underlying126
  a63 := Try.isAgg126
  z63 := Try.sizeOf126
  v63 := Try.zeroValue126
  t64 := Try.underlying127
  a64 := Try.isAgg127
  z64 := Try.sizeOf127
  v64 := Try.zeroValue127 }
end Go.Proofs.Ytlddglajdcednaa
namespace Go.Proofs.Ytlddglajdcednaa
open Go.Shelf
def Try.compI_ren : Go.Shelf.Ren := ⟨fun | 43 => 69 | n => n, fun | 22 => 36 | 23 => 3 | 3 => 3 | 4 => 4 | 0 => 0 | n => n, fun | n => n⟩
theorem Try.compI : Go.Proofs.SlLaysE.n43 Try.prog Try.compI_ren := {
  mixed := by kernel_rfl
  f43 := ⟨Try.f69.name, by decide, Try.func69.trans (congrArg some (by kernel_rfl))⟩
  t0 := Try.underlying0
  a0 := Try.isAgg0
  z0 := Try.sizeOf0
  v0 := Try.zeroValue0
  t3 := Try.underlying3
  a3 := Try.isAgg3
  z3 := Try.sizeOf3
  v3 := Try.zeroValue3
  t4 := Try.underlying4
  a4 := Try.isAgg4
  z4 := Try.sizeOf4
  v4 := Try.zeroValue4
  t22 := Try.underlying36
  a22 := Try.isAgg36
  z22 := Try.sizeOf36
  v22 := Try.zeroValue36
  a23 := Try.isAgg3
  z23 := Try.sizeOf3 }
end Go.Proofs.Ytlddglajdcednaa
namespace Go.Proofs.Ytlddglajdcednaa
open Go.RowKit Go.Shelf Go.Lib
open Go.Sort (grow putRow Holds)

def sortI (xs : List Int) : List Int := xs.mergeSort fun x y => decide (x ≤ y)
theorem sortI_length (xs : List Int) : (sortI xs).length = xs.length := List.length_mergeSort xs
theorem putRow_grown (w : World) (n g off : Nat) (d : Array Int) : w.grownBy (putRow (Value.int .i64) (Go.Sort.ahead w n) g off d) (some g) := by
  refine ⟨rfl, rfl, rfl, by simp [Go.Sort.ahead], fun k hk hne => ?_⟩
  have : k ≠ g := fun e => hne (by rw [e])
  simp [putRow, Go.Sort.mapBlock, Go.Sort.ahead, Array.getElem?_modify, Ne.symm this]
theorem grow_below (w : World) (os : Array Obj) : Below w.heap.size w (grow w os) :=
  ⟨rfl, rfl, rfl, by simp [grow], fun k hk => by simp [grow, Array.getElem?_append, hk]⟩
/-- a row of numbers of the call's own, at the head of its block -/
structure OwnI (B : Nat) (w : World) (v : Value) (xs : List Int) : Prop where
  ex : (v = .slice none 0 0 ∧ xs = []) ∨ ∃ g cap, v = .slice (some ⟨g, 0, none⟩) xs.length cap ∧ B ≤ g ∧ g < w.heap.size ∧ xs.length ≤ cap ∧ cap ≤ 9223372036854775807 ∧ Holds (Value.int .i64) w g 0 xs.toArray
  fit : ∀ n ∈ xs, -9223372036854775808 ≤ n ∧ n ≤ 9223372036854775807
theorem OwnI.row {B : Nat} {w : World} {v : Value} {xs : List Int} (h : OwnI B w v xs) : ∃ a cap, v = .slice a xs.length cap ∧ NewRow B w a cap xs := by
  rcases h.ex with ⟨rfl, rfl⟩ | ⟨g, cap, rfl, hB, _, h1, h2, h3⟩
  · exact ⟨none, 0, rfl, NewRow.empty _ _ _ _ (by omega) (fun _ => rfl)⟩
  · refine ⟨_, cap, rfl, ⟨h1, h2, (fun e => by cases e), fun i x hi => ⟨g, 0, rfl, ?_⟩⟩⟩
    obtain ⟨hl, hx⟩ := List.getElem?_eq_some_iff.1 hi
    have h4 := (h3 i (by simpa using hl)).1
    have h5 := h.fit x (by rw [← hx]; exact List.getElem_mem hl)
    refine ⟨?_, h5.1, h5.2⟩
    show (under B w).cell? ⟨g, 0 + i * 1, none⟩ = _
    rw [Nat.mul_one]
    refine under_of hB ?_
    rw [h4]
    simp [hl, hx]
theorem AccInv.ownI {B : Nat} {w : World} {v : Value} {xs : List Int} (h : AccInv B 3 xs v w) : OwnI B w v xs := by
  obtain ⟨a, cap, rfl, hr⟩ := h.row
  have hf : ∀ n ∈ xs, -9223372036854775808 ≤ n ∧ n ≤ 9223372036854775807 := by
    intro n hn
    obtain ⟨i, hi, rfl⟩ := List.getElem_of_mem hn
    rcases hr.cases with rfl | ⟨b, off, rfl, _, hat⟩
    · simp at hi
    · obtain ⟨_, h1, h2⟩ := int_at hat (Below.refl _ _) hi
      exact ⟨h1, h2⟩
  refine ⟨?_, hf⟩
  obtain ⟨vs, hown, hc⟩ := h.ex
  rcases hown.2 with ⟨e, hn⟩ | ⟨g, cap2, cur, e, hb, hg, hn, hm, hsz, ht⟩
  · obtain rfl : xs = [] := List.eq_nil_of_length_eq_zero hn
    exact .inl ⟨e, rfl⟩
  · refine .inr ⟨g, cap2, e, hb, (Array.getElem?_eq_some_iff.1 hg).1, hn, by unfold maxLen at hm; omega, fun j hj => ?_⟩
    injection e with e1 _ e2
    subst e1; subst e2
    have hj' : j < xs.length := by simpa using hj
    obtain ⟨b, off, e3, _, hat⟩ := hr.cases.resolve_left (fun e => by simp [e] at hj')
    cases e3
    obtain ⟨d0, _, _⟩ := int_at hat (Below.refl _ _) hj'
    refine ⟨by rw [d0]; simp [hj'], ?_⟩
    simp [World.frozen?, hg]

set_option maxHeartbeats 1000000 in
theorem sort_any (B : Nat) (w : World) (v : Value) (xs : List Int) (h : OwnI B w v xs) (hl : xs.length ≤ 1000000) :
    Calls Try.prog 86 #[v] w fun e w' => e = .returned (.tuple #[]) ∧ OwnI B w' v (sortI xs) ∧ (B ≤ w.heap.size → Below B w w') := by
  rcases h.ex with ⟨rfl, rfl⟩ | ⟨g, cap, rfl, hB, hg, h1, h2, h3⟩
  · exact (AnyM.slices_Sort_int_none Try.sortI none 0 w).mono fun e w' ⟨he, hw⟩ => ⟨he, by subst hw; exact ⟨.inl ⟨rfl, by simp [sortI]⟩, by simp [sortI]⟩, by subst hw; intro _; exact Below.refl _ _⟩
  · refine (AnyM.slices_Sort_int Try.sortI g 0 cap xs w h3 hg (by omega)).mono ?_
    rintro e w' ⟨he, n, os, hw⟩
    have hlen := sortI_length xs
    have hH : Holds (Value.int .i64) (putRow (Value.int .i64) (Go.Sort.ahead w n) g 0 (sortI xs).toArray) g 0 (sortI xs).toArray :=
      Go.Sort.holds_putRow _ (Go.Sort.ahead w n) g 0 xs.toArray (sortI xs).toArray (fun j hj => h3 j hj) (by simp [hlen])
    have hgr := putRow_grown w n g 0 (sortI xs).toArray
    have hw2 : w' = grow (putRow (Value.int .i64) (Go.Sort.ahead w n) g 0 (sortI xs).toArray) os := hw
    have hbg := grow_below (putRow (Value.int .i64) (Go.Sort.ahead w n) g 0 (sortI xs).toArray) os
    have hsz : (putRow (Value.int .i64) (Go.Sort.ahead w n) g 0 (sortI xs).toArray).heap.size = w.heap.size := by simp [Go.Sort.ahead]
    rw [← hw2] at hbg
    refine ⟨he, ⟨.inr ⟨g, cap, by rw [hlen], hB, by have := hbg.size; omega, by rw [hlen]; exact h1, h2, fun j hj => ?_⟩, fun n hn => h.fit n ((List.mergeSort_perm xs _).mem_iff.1 hn)⟩, fun hBw => ?_⟩
    · obtain ⟨q1, q2⟩ := hH j hj
      exact ⟨(hbg.cell (p := ⟨g, 0 + j, none⟩) (by rw [hsz]; exact hg)).trans q1, (hbg.frozen (p := ⟨g, 0 + j, none⟩) (by rw [hsz]; exact hg)).trans q2⟩
    · exact ((Below.refl B w).grown hgr hBw (fun k hk => by cases hk; exact hB)).trans (hbg.mono (by rw [hsz]; exact hBw))

set_option maxHeartbeats 1000000 in
theorem sorted_any (Bs : Nat) (w0 w : World) (a : Option Addr) (cap : Nat) (xs : List Int) (hx : Row w0 a cap xs) (hl : xs.length ≤ 1000000) (hw : Below w0.heap.size w0 w) (hBs : w.cell? ⟨Bs, 0, none⟩ = some (.slice a xs.length cap)) :
    Calls Try.prog 70 #[.func (.func 87) #[] #[.pointer (some ⟨Bs, 0, none⟩)]] w fun e w' => ∃ v, e = .returned v ∧ OwnI w.heap.size w' v (sortI xs) ∧ Below w.heap.size w w' := by
  have hcol : Calls Try.prog 85 #[.func (.func 87) #[] #[.pointer (some ⟨Bs, 0, none⟩)]] w fun e w' => ∃ v, e = .returned v ∧ AccInv w.heap.size 3 xs v w' ∧ Below w.heap.size w w' := by
    have happ : Calls Try.prog 90 #[.slice none 0 0, .func (.func 87) #[] #[.pointer (some ⟨Bs, 0, none⟩)]] w fun e w' => ∃ v, e = .returned v ∧ AccInv w.heap.size 3 xs v w' ∧ Below w.heap.size w w' :=
      (callsIn_wide (n := 3)).1 (appendseq_in _ 3 trivial trivial rfl (Nat.le_refl _) Bs w0 w a cap xs hx hl hw hBs)
    go_enter Try.func85, Try.ntmps85
    go_wp2_with (go_at_call 90; refine happ.mono ?_; rintro e w1 ⟨v, rfl, ha, hb⟩)
    go_ret
    exact ⟨v, rfl, ha, hb⟩
  go_enter Try.func70, Try.ntmps70
  go_wp2_with fail
  refine hcol.mono ?_; rintro e w1 ⟨v, rfl, ha, hb⟩
  go_wp2_with fail
  refine (sort_any w.heap.size w1 v xs ha.ownI hl).mono ?_; rintro e w2 ⟨rfl, ho, hb2⟩
  go_wp2_with fail
  go_ret
  exact ⟨v, rfl, ho, hb.trans (hb2 hb.size)⟩
/-- rising, each once -/
def riseI (xs : List Int) : List Int := compactUpTo (sortI xs).toArray (sortI xs).length
theorem compact_sub (d : Array Int) (m : Nat) (hm : m ≤ d.size) : ∀ n ∈ compactUpTo d m, n ∈ d.toList := by
  intro n hn
  unfold compactUpTo at hn
  obtain ⟨i, hi, rfl⟩ := List.mem_map.1 hn
  have h1 := List.mem_range.1 (List.mem_filter.1 hi).1
  rw [getElem!_pos d i (by omega)]
  simp
theorem compact_le (d : Array Int) (m : Nat) : (compactUpTo d m).length ≤ m := by
  unfold compactUpTo
  rw [List.length_map]
  exact Nat.le_trans (List.length_filter_le _ _) (by simp)
set_option maxHeartbeats 1000000 in
theorem compact_any (B : Nat) (w : World) (v : Value) (xs : List Int) (h : OwnI B w v xs) (hl : xs.length ≤ 1000000) (hB : B ≤ w.heap.size) :
    Calls Try.prog 69 #[v] w fun e w' => ∃ v', e = .returned v' ∧ OwnI B w' v' (compactUpTo xs.toArray xs.length) ∧ Below B w w' := by
  rcases h.ex with ⟨rfl, rfl⟩ | ⟨g, cap, rfl, hBg, hg, h1, h2, h3⟩
  · go_enter Try.func69, Try.ntmps69
    go_wp2_with fail
    go_ret
    exact ⟨_, rfl, ⟨.inl ⟨rfl, rfl⟩, by simp [compactUpTo]⟩, Below.refl _ _⟩
  · have hC := AnyE.slices_Compact Try.compI (Value.int .i64) (fun _ => rfl) (EqlAt.intD _ _ .i64) (NeqAt.intD _ _ .i64) 0 (fun w => by kernel_rfl) g 0 cap xs.toArray w h3 (by simp; omega) (by simpa using h1)
    have hcl := compact_le xs.toArray xs.length
    refine Calls.mono (show Calls Try.prog 69 #[.slice (some ⟨g, 0, none⟩) xs.toArray.size cap] w _ from hC) ?_
    rintro e w' ⟨he, q, hw⟩
    have hgr := putRow_grown w q g 0 (compactUpTo xs.toArray xs.length ++ List.replicate (xs.length - (compactUpTo xs.toArray xs.length).length) 0).toArray
    have hw2 : w' = putRow (Value.int .i64) (Go.Sort.ahead w q) g 0 (compactUpTo xs.toArray xs.length ++ List.replicate (xs.length - (compactUpTo xs.toArray xs.length).length) 0).toArray := by simpa using hw
    rw [← hw2] at hgr
    have hH : Holds (Value.int .i64) w' g 0 (compactUpTo xs.toArray xs.length ++ List.replicate (xs.length - (compactUpTo xs.toArray xs.length).length) 0).toArray := by
      rw [hw2]
      exact Go.Sort.holds_putRow _ (Go.Sort.ahead w q) g 0 xs.toArray _ (fun j hj => h3 j hj) (by simp; omega)
    refine ⟨_, by simpa using he, ⟨.inr ⟨g, cap, rfl, hBg, Nat.lt_of_lt_of_le hg hgr.size, by omega, h2, fun j hj => ?_⟩, fun n hn => h.fit n (by simpa using compact_sub xs.toArray xs.length (by simp) n hn)⟩, (Below.refl B w).grown hgr hB (fun k hk => by cases hk; exact hBg)⟩
    have hj' : j < (compactUpTo xs.toArray xs.length).length := by simpa using hj
    have h5 := hH j (by simp; omega)
    refine ⟨h5.1.trans ?_, h5.2⟩
    congr 2
    simp [hj', getElem!_pos]
    rw [List.getElem?_append_left hj', List.getElem?_eq_getElem hj']; rfl
end Go.Proofs.Ytlddglajdcednaa
namespace Go.Proofs.Ytlddglajdcednaa
open Go.RowKit

/-- how a value reads that is held as it stands -/
def heldElem (v : Value) : Option (DataW Value × List MemPlace) := some (.held v, [])
/-- block b of w is a map from int to values of at most n entries -/
structure MapV (P : Program) (k : TypeId) (w : World) (b n : Nat) (f : Int → Option Value) : Prop where
  ex : ∃ D : DataW Value, w.ownsMap P k heldElem b n D ∧ ∀ i, (Lit.int .i64 i).wf = true → Go.Maps.has D (.int .i64 i) = (f i).isSome ∧ ∀ z, D.atKey (.int .i64 i) (.held z) = .held ((f i).getD z)
section
variable {P : Program} {k e t : TypeId} {w w' : World} {b n : Nat} {f : Int → Option Value}
theorem MapV.made (P : Program) (k : TypeId) (w : World) : MapV P k (w.alloc (.map #[] 0)) w.heap.size 0 (fun _ => none) :=
  ⟨.map [], World.ownsMap_made w P k _, fun _ _ => ⟨rfl, fun _ => rfl⟩⟩
theorem MapV.lt (h : MapV P k w b n f) : b < w.heap.size := let ⟨_, h, _⟩ := h.ex; h.lt
theorem MapV.kept {row : Option Nat} (h : MapV P k w b n f) (hg : w.grownBy w' row) (hne : some b ≠ row) : MapV P k w' b n f :=
  let ⟨D, h, hf⟩ := h.ex; ⟨D, h.kept hg hne, hf⟩
theorem MapV.below (h : MapV P k w b n f) (hb : Below w.heap.size w w') : MapV P k w' b n f :=
  h.kept (row := none) ⟨hb.os, hb.tape, hb.output, hb.size, fun k hk _ => hb.block k hk⟩ (by simp)
theorem MapV.alloc (h : MapV P k w b n f) (o : Obj) : MapV P k (w.alloc o) b n f := let ⟨D, h, hf⟩ := h.ex; ⟨D, h.alloc o, hf⟩
theorem MapV.mono {m : Nat} (h : MapV P k w b n f) (hm : n ≤ m) : MapV P k w b m f := let ⟨D, h, hf⟩ := h.ex; ⟨D, h.mono hm, hf⟩
theorem MapV.put_at {D : DataW Value} (hD : Go.Maps.IsMap D) (hf : ∀ i, (Lit.int .i64 i).wf = true → Go.Maps.has D (.int .i64 i) = (f i).isSome ∧ ∀ z, D.atKey (.int .i64 i) (.held z) = .held ((f i).getD z)) (i : Int) (x : Value) :
    ∀ j, (Lit.int .i64 j).wf = true → Go.Maps.has (D.put (.int .i64 i) (.held x)) (.int .i64 j) = (if j = i then some x else f j).isSome ∧ ∀ z, (D.put (.int .i64 i) (.held x)).atKey (.int .i64 j) (.held z) = .held ((if j = i then some x else f j).getD z) := by
  intro j hj
  by_cases e : j = i
  · subst e
    rw [if_pos rfl]
    exact ⟨Go.Maps.has_put_same hD (by simp [WideAt.IsKeyLit]) _, fun z => Go.Maps.atKey_put_same hD (by simp [WideAt.IsKeyLit]) _ _⟩
  · rw [if_neg e]
    obtain ⟨h1, h2⟩ := hf j hj
    exact ⟨by rw [← h1]; exact Go.Maps.has_put_other (by simp; exact e) _, fun z => by rw [← h2 z]; exact Go.Maps.atKey_put_other (by simp; exact e) _ _⟩
theorem MapV.run_ok (h : MapV P k w b n f) (hk : P.underlying k = some (.int .i64)) (ht : P.underlying t = some (.map k e)) {z : Value} (hz : (zeroValue e).run P w = .ok z w)
    {i : Int} (hi : (Lit.int .i64 i).wf = true) : (Instr.lookup t (.map (some b)) (.int .i64 i) true).run P w = .ok (.tuple #[(f i).getD z, .bool (f i).isSome]) w := by
  obtain ⟨D, h, hf⟩ := h.ex
  obtain ⟨v, ps, hrun, hv⟩ := h.look_ok (Go.Maps.int_keyed hk) ht hz (zd := .held z) (zp := []) rfl (Go.Maps.keyOf_int_mk hk hi)
  rw [(hf i hi).1] at hrun
  rw [(hf i hi).2 z] at hv
  unfold heldElem at hv
  simp at hv
  rw [hrun, hv.1]
theorem MapV.run_look (h : MapV P k w b n f) (hk : P.underlying k = some (.int .i64)) (ht : P.underlying t = some (.map k e)) {z : Value} (hz : (zeroValue e).run P w = .ok z w)
    {i : Int} (hi : (Lit.int .i64 i).wf = true) : (Instr.lookup t (.map (some b)) (.int .i64 i) false).run P w = .ok ((f i).getD z) w := by
  obtain ⟨D, h, hf⟩ := h.ex
  obtain ⟨v, ps, hrun, hv⟩ := h.lookup (Go.Maps.int_keyed hk) ht hz (zd := .held z) (zp := []) rfl (Go.Maps.keyOf_int_mk hk hi)
  rw [(hf i hi).2 z] at hv
  unfold heldElem at hv
  simp at hv
  rw [hrun, hv.1]
theorem MapV.wpl_ok {ops : Array Oper} {rest : List Oper} {o : Oper} {a : Act} {Q : Exit → Act → World → Prop}
    (hg : o.guard = none) (m x : Operand) (hop : o.op = Op.lookup t m x true)
    (hk : P.underlying k = some (.int .i64)) (ht : P.underlying t = some (.map k e)) {z : Value} (hz : (zeroValue e).run P w = .ok z w)
    (hm : a.eval m = .map (some b)) (h : MapV P k w b n f) (i : Int) (hx : a.eval x = .int .i64 i) (hi : (Lit.int .i64 i).wf = true)
    (hK : wpList P ops Q rest (a.put o.dst (.tuple #[(f i).getD z, .bool (f i).isSome])) w) :
    wpList P ops Q (o :: rest) a w := by
  refine wpList_plain hg fun K' hK' => ?_
  unfold Oper.wp
  simp only [execOp, hop, hm, hx, Sem.run_bind, h.run_ok hk ht hz hi, Result.andThen_ok, Sem.run_pure]
  exact hK' _ _ hK
theorem MapV.wpl_look {ops : Array Oper} {rest : List Oper} {o : Oper} {a : Act} {Q : Exit → Act → World → Prop}
    (hg : o.guard = none) (m x : Operand) (hop : o.op = Op.lookup t m x false)
    (hk : P.underlying k = some (.int .i64)) (ht : P.underlying t = some (.map k e)) {z : Value} (hz : (zeroValue e).run P w = .ok z w)
    (hm : a.eval m = .map (some b)) (h : MapV P k w b n f) (i : Int) (hx : a.eval x = .int .i64 i) (hi : (Lit.int .i64 i).wf = true)
    (hK : wpList P ops Q rest (a.put o.dst ((f i).getD z)) w) :
    wpList P ops Q (o :: rest) a w := by
  refine wpList_plain hg fun K' hK' => ?_
  unfold Oper.wp
  simp only [execOp, hop, hm, hx, Sem.run_bind, h.run_look hk ht hz hi, Result.andThen_ok, Sem.run_pure]
  exact hK' _ _ hK
theorem MapV.wpl_update {ops : Array Oper} {rest : List Oper} {o : Oper} {a : Act} {Q : Exit → Act → World → Prop}
    (hg : o.guard = none) (m x y : Operand) (hop : o.op = Op.mapUpdate t m x y)
    (hk : P.underlying k = some (.int .i64)) (ht : P.underlying t = some (.map k e))
    (hm : a.eval m = .map (some b)) (h : MapV P k w b n f) (hn : n < 9223372036854775807) (i : Int) (hx : a.eval x = .int .i64 i) (hi : (Lit.int .i64 i).wf = true) (z : Value) (hy : a.eval y = z)
    (hK : ∀ w', MapV P k w' b (n + 1) (fun j => if j = i then some z else f j) → w.grownBy w' (some b) → wpList P ops Q rest (a.put o.dst undef) w') :
    wpList P ops Q (o :: rest) a w := by
  obtain ⟨D, h, hf⟩ := h.ex
  refine wpList_mapUpdate_own w hg m x y t hop k e (Go.Maps.int_keyed hk) ht _ b n D hm h (by unfold maxLen; omega) _ _ _ hx hy (Go.Maps.keyOf_int_mk hk hi) (.held z) [] rfl ?_
  intro w' h' hg'
  exact hK w' ⟨_, h', MapV.put_at h.isMap hf i z⟩ hg'
end
end Go.Proofs.Ytlddglajdcednaa
namespace Go.Proofs.Ytlddglajdcednaa
open Go.RowKit

theorem Try.zeroCells2 (w : World) : (zeroValue 22).run Try.prog w = .ok (.slice none 0 0) w := by kernel_rfl
theorem right_sk2 {xs : List Cel} (h : rightB xs = true) : sk 1 xs = some [] := by
  obtain ⟨c, l, rfl, hc, hs, hl⟩ := right_sk h
  have : sk 1 (c :: l) = sk (0 + ar c) l := by simp [sk, hc]
  rw [this, Nat.zero_add]; exact hs
/-! ### what each variable of one term stands for in another one -/
def updF (f : Int → Option (List Cel)) (n : Int) (t : List Cel) : Int → Option (List Cel) := fun i => if i = n then some t else f i
def imgGo : List Cel → List Cel → (Int → Option (List Cel)) → Option (Int → Option (List Cel))
  | [], _, f => some f
  | c :: p, t, f =>
    if c.k = 1 then
      match sk 1 t with
      | none => none
      | some r =>
        if (f c.n).all (fun q => decide (q = t.take (t.length - r.length))) then imgGo p r (updF f c.n (t.take (t.length - r.length))) else none
    else match t with
      | [] => none
      | d :: t' => if c = d then imgGo p t' f else none
/-- the map that images fills -/
structure MapTB (w0 w : World) (m n : Nat) (f : Int → Option (List Cel)) : Prop where
  ex : ∃ (g : Int → Option Value), MapV Try.prog 3 w m n g ∧ ∀ i, match f i with
    | none => g i = none
    | some t => ∃ a cap, g i = some (.slice a t.length cap) ∧ Row w0 a cap t
section
variable {w0 w w' : World} {m n : Nat} {f : Int → Option (List Cel)}
theorem MapTB.below (h : MapTB w0 w m n f) (hb : Below w.heap.size w w') : MapTB w0 w' m n f := let ⟨g, h1, h2⟩ := h.ex; ⟨g, h1.below hb, h2⟩
theorem MapTB.look (h : MapTB w0 w m n f) {i : Int} (hi : (Lit.int .i64 i).wf = true) :
    ∃ v, (Instr.lookup 66 (.map (some m)) (.int .i64 i) true).run Try.prog w = .ok (.tuple #[v, .bool (f i).isSome]) w ∧ ∀ q, f i = some q → ∃ a cap, v = .slice a q.length cap ∧ Row w0 a cap q := by
  obtain ⟨g, h1, h2⟩ := h.ex
  have h3 := h2 i
  have hr := h1.run_ok (t := 66) (e := 22) Try.underlying3 Try.underlying66 (Try.zeroCells2 w) hi
  cases hf : f i with
  | none =>
    rw [hf] at h3
    rw [h3] at hr
    exact ⟨_, hr, fun q e => by cases e⟩
  | some q =>
    rw [hf] at h3
    obtain ⟨a, cap, e, hrow⟩ := h3
    rw [e] at hr
    exact ⟨_, hr, fun q' e' => by cases e'; exact ⟨a, cap, rfl, hrow⟩⟩
theorem MapTB.upd {g : Int → Option Value} {i : Int} {t : List Cel} {a : Option Addr} {cap : Nat} (h : ∀ i, match f i with
    | none => g i = none
    | some t => ∃ a cap, g i = some (.slice a t.length cap) ∧ Row w0 a cap t) (hr : Row w0 a cap t) (h1 : MapV Try.prog 3 w' m n (fun j => if j = i then some (.slice a t.length cap) else g j)) : MapTB w0 w' m n (updF f i t) :=
  ⟨_, h1, fun j => by
    unfold updF
    by_cases e : j = i
    · rw [if_pos e, if_pos e]; exact ⟨a, cap, rfl, hr⟩
    · rw [if_neg e, if_neg e]; exact h j⟩
end
/-- both have as many terms left -/
def Left (p t : List Cel) : Prop := ∃ m, sk m p = some [] ∧ sk m t = some []
theorem left_right {p t : List Cel} (hp : rightB p = true) (ht : rightB t = true) : Left p t := ⟨1, right_sk2 hp, right_sk2 ht⟩
theorem left_var {c : Cel} {p t : List Cel} (h : Left (c :: p) t) (h1 : c.k = 1) : ∃ r, sk 1 t = some r ∧ Left p r := by
  obtain ⟨m, h2, h3⟩ := h
  cases m with
  | zero => simp [sk] at h2
  | succ m =>
    simp only [sk] at h2
    split at h2
    · have : ar c = 0 := by unfold ar; rw [if_neg (by omega)]
      rw [this, Nat.add_zero] at h2
      rw [Nat.add_comm, sk_add] at h3
      cases h4 : sk 1 t with
      | none => rw [h4] at h3; simp at h3
      | some r => rw [h4] at h3; exact ⟨r, rfl, m, h2, h3⟩
    · cases h2
theorem left_cons {c : Cel} {p t : List Cel} (h : Left (c :: p) t) : ∃ d r, t = d :: r ∧ (c = d → Left p r) := by
  obtain ⟨m, h2, h3⟩ := h
  cases m with
  | zero => simp [sk] at h2
  | succ m =>
    cases t with
    | nil => simp [sk] at h3
    | cons d r =>
      refine ⟨d, r, rfl, fun e => ?_⟩
      subst e
      simp only [sk] at h2 h3
      split at h2
      · next hc => rw [if_pos hc] at h3; exact ⟨_, h2, h3⟩
      · cases h2
end Go.Proofs.Ytlddglajdcednaa
namespace Go.Proofs.Ytlddglajdcednaa
open Go.RowKit

theorem right_good {t : List Cel} (h : rightB t = true) : Good t := fun i hi => sk_good t 1 [] (right_sk2 h) i (by simpa using hi)

theorem same_lit2 {w : World} {a a' : Option Addr} {cap cap' m : Nat} {xs ys : List Cel} {b : Bool} (hm : m = ys.length) (hx : Row w a cap xs) (hy : Row w a' cap' ys) (hb : decide (xs = ys) = b) :
    Calls Try.prog 54 #[.slice a xs.length cap, .slice a' m cap'] w fun e w' => e = .returned (.bool b) ∧ Below w.heap.size w w' := by
  subst hm; subst hb; exact same_any a cap a' cap' w xs ys hx hy
theorem RowU.grown {w w' : World} {u : Nat} {U : List Int} {row : Option Nat} (h : RowU w u U) (hg : w.grownBy w' row) (hne : some u ≠ row) : RowU w' u U := (hg.block u h.lt hne).trans h

set_option maxHeartbeats 3200000 in
set_option maxRecDepth 100000 in
theorem images_any (a : Option Addr) (cap : Nat) (a' : Option Addr) (cap' : Nat) (w : World) (p t : List Cel) (hp : Row w a cap p) (ht : Row w a' cap' t) (rp : rightB p = true) (rt : rightB t = true) :
    Calls Try.prog 49 #[.slice a p.length cap, .slice a' t.length cap'] w fun e w' => Below w.heap.size w w' ∧ ((imgGo p t (fun _ => none) = none ∧ e = .returned (.tuple #[.map none, .bool false])) ∨ ∃ f m n, imgGo p t (fun _ => none) = some f ∧ e = .returned (.tuple #[.map (some m), .bool true]) ∧ MapTB w w' m n f) := by
  have hm := hp.max
  have hle := hp.le
  have hm2 := ht.max
  have hle2 := ht.le
  have hpl : p.length ≤ 200 := (right_sk rp).elim fun c h => h.elim fun l h => by obtain ⟨rfl, _, _, h⟩ := h; exact h
  have htl : t.length ≤ 200 := (right_sk rt).elim fun c h => h.elim fun l h => by obtain ⟨rfl, _, _, h⟩ := h; exact h
  have HL0 := mkHid (left_right rp rt)
  have HG := mkHid (right_good rt)
  have hmm := @run_makeMap Try.prog
  have hm0 : MapTB w (w.alloc (.map #[] 0)) w.heap.size 0 (fun _ => none) := ⟨_, MapV.made Try.prog 3 w, fun _ => rfl⟩
  have hb0 := (Below.refl w.heap.size w).new (.map #[] 0)
  clear rp rt
  generalize hI : imgGo p t (fun _ => none) = I
  have HI0 : Hid (I = imgGo (p.drop 0) (t.drop 0) (fun _ => none)) := hI.symm
  clear hI
  go_enter Try.func49, Try.ntmps49
  go_wp2_with fail
  refine (ends_any a' cap' _ t (ht.below hb0) HG.out (by omega)).mono ?_; rintro e w1 ⟨g, rfl, hg, hE, hb1⟩
  have HE := mkHid hE
  clear hE
  replace hm0 := hm0.below hb1
  replace hb0 := hb0.then hb1
  have hgl := HE.out.lt
  simp only [World.size_alloc] at hg
  go_wp2_with fail
  go_loopw [8, 10, 11, 12, 13, 19] (fun at_ c part met is i wr => ∃ (k j n : Nat) (f : Int → Option (List Cel)), k ≤ p.length ∧ j ≤ t.length ∧ n ≤ k ∧ i = .int .i64 k ∧ at_ = .int .i64 j ∧ MapTB w wr w.heap.size n f ∧ Hid (RowU wr g (endsL t)) ∧ Below w.heap.size w wr ∧ Hid (Left (p.drop k) (t.drop j)) ∧ Hid (I = imgGo (p.drop k) (t.drop j) f)) (fun at_ c part met is i wr => p.length - (intOf i).toNat)
  case atStart => exact ⟨0, 0, 0, _, Nat.zero_le _, Nat.zero_le _, Nat.zero_le _, rfl, rfl, hm0, HE, hb0, HL0, HI0⟩
  case round =>
    clear hm0 hb0
    obtain ⟨k, j, n, f, hk, hj, hn, rfl, rfl, hmap, HU, hbl, HL, HI⟩ := hrel
    by_cases hlt : k < p.length
    · have hdp : p.drop k = p[k] :: p.drop (k + 1) := List.drop_eq_getElem_cons hlt
      have HL1 : Left (p[k] :: p.drop (k + 1)) (t.drop j) := by rw [← hdp]; exact HL.out
      have HI1 : I = imgGo (p[k] :: p.drop (k + 1)) (t.drop j) f := by rw [← hdp]; exact HI.out
      clear hdp HI
      obtain ⟨b, off, rfl, hb, hat⟩ := hp.cases.resolve_left (fun e => by simp [e] at hlt)
      obtain ⟨c0, c1, c2, hf⟩ := cel_at hat hbl hlt
      have hbx := hbl.new (.cells #[.int .i64 p[k].k, .string p[k].s, .int .i64 p[k].n] 42)
      have hmx := hmap.below ((Below.refl _ _).new (.cells #[.int .i64 p[k].k, .string p[k].s, .int .i64 p[k].n] 42))
      have HU1 := mkHid (HU.out.alloc (.cells #[.int .i64 p[k].k, .string p[k].s, .int .i64 p[k].n] 42))
      by_cases h1 : p[k].k = 1
      · have t1 : (p[k].k == 1) = true := by simp [h1]
        obtain ⟨r, hr, HL2⟩ := left_var HL1 h1
        have hjl : j < t.length := by
          rcases Nat.lt_or_ge j t.length with h | h
          · exact h
          · rw [List.drop_of_length_le h] at hr; simp [sk] at hr
        have hj0 : (0 : Int) ≤ (j : Int) := by omega
        have hj1 : (j : Int) < (t.length : Int) := by omega
        obtain ⟨hr1, hr2⟩ := sk_at (Nat.le_of_lt hjl) hr
        have hrp := sk_pos (m := 0) hr
        rw [List.length_drop] at hrp
        have hend : endI t j = ((t.length - r.length : Nat) : Int) := by unfold endI; rw [hr]; simp; omega
        obtain ⟨q, hq⟩ : ∃ q, q = t.length - r.length := ⟨_, rfl⟩
        have hjq : j < q := by omega
        have hql : q ≤ t.length := by omega
        rw [← hq] at hend hr2
        have hpart : (t.drop j).take ((t.drop j).length - r.length) = (t.drop j).take (q - j) := by
          congr 1; rw [List.length_drop]; omega
        have HI2 : I = if (f p[k].n).all (fun z => decide (z = (t.drop j).take (q - j))) then imgGo (p.drop (k + 1)) r (updF f p[k].n ((t.drop j).take (q - j))) else none := by
          rw [HI1]; simp only [imgGo]; rw [if_pos h1, hr]; simp only [hpart]
        rw [← hr2] at HL2 HI2
        obtain ⟨b', off', rfl, hb', hat'⟩ := ht.cases.resolve_left (fun e => by simp [e] at hjl)
        have hpr : Row w (some ⟨b', off' + j * 3, none⟩) (cap' - j) ((t.drop j).take (q - j)) := ht.slice (i := j) (j := q) (by omega) (by omega)
        have hpn : ((t.drop j).take (q - j)).length = q - j := by simp; omega
        have d0 : (wr.alloc (.cells #[.int .i64 p[k].k, .string p[k].s, .int .i64 p[k].n] 42)).cell? ⟨g, j, none⟩ = some (.int .i64 q) := by
          have h := HU1.out.read (k := j) (by rw [endsL_length]; exact hjl)
          rwa [endsL_get, hend] at h
        have hwf : (Lit.int .i64 p[k].n).wf = true := wf64 hf.n1 hf.n2
        obtain ⟨v, hrun, hv⟩ := hmx.look hwf
        obtain ⟨G, hG1, hG2⟩ := hmx.ex
        have e2 : (wr.alloc (.cells #[.int .i64 p[k].k, .string p[k].s, .int .i64 p[k].n] 42)).cell? ⟨wr.heap.size, 2, none⟩ = some (.int .i64 p[k].n) := World.cell?_alloc_at _ _ _ 2 rfl
        have HLz := mkHid HL2
        have HIz := mkHid HI2
        have HPN := mkHid hpn
        have HEN := mkHid hend
        have HPR := mkHid hpr
        have HV := mkHid hv
        have HGG := mkHid hG2
        clear HI1 HL1 HI2 HL2 hpart hr hr1 hr2 hrp hend h1 hq hpn hpr hv hG2
        cases hfn : (f p[k].n).isSome with
        | false =>
          rw [hfn] at hrun
          have HIn : Hid (I = imgGo (p.drop (k + 1)) (t.drop q) (updF f p[k].n ((t.drop j).take (q - j)))) := by
            rw [Hid, HIz.out, if_pos]
            cases hz : f p[k].n with
            | none => rfl
            | some z => rw [hz] at hfn; cases hfn
          clear hfn
          go_wp2_with (at_mapUpdate; refine hG1.wpl_update rfl _ _ _ rfl Try.underlying3 Try.underlying66 rfl (by omega) p[k].n rfl hwf _ rfl ?_; intro w3 hG3 hg3; have HU3 := mkHid (HU1.out.grown hg3 (fun e => by cases e; omega)); have d3 : w3.cell? ⟨g, j, none⟩ = some (.int .i64 q) := (by have h := HU3.out.read (k := j) (by rw [endsL_length]; exact hjl); rwa [endsL_get, HEN.out] at h); have hb3 := hbx.trans ((Below.refl w.heap.size _).grown hg3 hbx.size (fun j hj => by cases hj; exact Nat.le_refl _)))
          go_round
          case rel => exact ⟨k + 1, q, n + 1, _, by omega, by omega, by omega, by go_num, by go_num, MapTB.upd HGG.out HPR.out (by rw [HPN.out]; exact hG3), HU3, hb3, HLz, HIn⟩
          case measure => simp [intOf]; omega
        | true =>
          rw [hfn] at hrun
          obtain ⟨z, hz⟩ := Option.isSome_iff_exists.1 hfn
          obtain ⟨az, capz, rfl, hzr⟩ := HV.out z hz
          by_cases he : z = (t.drop j).take (q - j)
          · have HIn : Hid (I = imgGo (p.drop (k + 1)) (t.drop q) (updF f p[k].n ((t.drop j).take (q - j)))) := by
              rw [Hid, HIz.out, if_pos]
              rw [hz]; simp [he]
            have HD : Hid (decide (z = (t.drop j).take (q - j)) = true) := decide_eq_true he
            have hbx1 := hbx
            clear hfn hz he
            go_wp2_with (first
              | (go_at_call 54; refine (same_lit2 HPN.out.symm (hzr.below hbx) (HPR.out.below hbx) HD.out).mono ?_; rintro e w2 ⟨rfl, hb2⟩; have e3 := keep e2 hb2; have HU2 := mkHid (HU1.out.below hb2); have hmx2 := hmx.below hb2; obtain ⟨G2, hG12, hG22⟩ := hmx2.ex; have hbx2 := hbx.then hb2; clear e2)
              | (at_mapUpdate; refine hG12.wpl_update rfl _ _ _ rfl Try.underlying3 Try.underlying66 rfl (by omega) p[k].n rfl hwf _ rfl ?_; intro w3 hG3 hg3; have HU3 := mkHid (HU2.out.grown hg3 (fun e => by cases e; omega)); have d3 : w3.cell? ⟨g, j, none⟩ = some (.int .i64 q) := (by have h := HU3.out.read (k := j) (by rw [endsL_length]; exact hjl); rwa [endsL_get, HEN.out] at h); have hb3 := hbx2.trans ((Below.refl w.heap.size _).grown hg3 hbx2.size (fun j hj => by cases hj; exact Nat.le_refl _))))
            go_round
            case rel => exact ⟨k + 1, q, n + 1, _, by omega, by omega, by omega, by go_num, by go_num, MapTB.upd hG22 HPR.out (by rw [HPN.out]; exact hG3), HU3, hb3, HLz, HIn⟩
            case measure => simp [intOf]; omega
          · have HIn : Hid (I = none) := by
              rw [Hid, HIz.out, if_neg]
              rw [hz]; simp [he]
            have HD : Hid (decide (z = (t.drop j).take (q - j)) = false) := decide_eq_false he
            clear hfn hz he
            go_wp2_with (go_at_call 54; refine (same_lit2 HPN.out.symm (hzr.below hbx) (HPR.out.below hbx) HD.out).mono ?_; rintro e w2 ⟨rfl, hb2⟩)
            go_ret2
            exact ⟨hbx.then hb2, .inl ⟨HIn.out, rfl⟩⟩
      · have t1 : (p[k].k == 1) = false := by simp [h1]
        obtain ⟨d, r, hd, hL⟩ := left_cons HL1
        have hjl : j < t.length := by
          rcases Nat.lt_or_ge j t.length with h | h
          · exact h
          · rw [List.drop_of_length_le h] at hd; cases hd
        have hdt : t.drop j = t[j] :: t.drop (j + 1) := List.drop_eq_getElem_cons hjl
        rw [hdt] at hd HI1
        obtain ⟨rfl, rfl⟩ := List.cons.inj hd
        have hj0 : (0 : Int) ≤ (j : Int) := by omega
        have hj1 : (j : Int) < (t.length : Int) := by omega
        obtain ⟨b', off', rfl, hb', hat'⟩ := ht.cases.resolve_left (fun e => by simp [e] at hjl)
        obtain ⟨d0, d1, d2, hf2⟩ := cel_at hat' hbx hjl
        have e0 : (wr.alloc (.cells #[.int .i64 p[k].k, .string p[k].s, .int .i64 p[k].n] 42)).cell? ⟨wr.heap.size, 0, none⟩ = some (.int .i64 p[k].k) := World.cell?_alloc_at _ _ _ 0 rfl
        have e1 : (wr.alloc (.cells #[.int .i64 p[k].k, .string p[k].s, .int .i64 p[k].n] 42)).cell? ⟨wr.heap.size, 1, none⟩ = some (.string p[k].s) := World.cell?_alloc_at _ _ _ 1 rfl
        have e2 : (wr.alloc (.cells #[.int .i64 p[k].k, .string p[k].s, .int .i64 p[k].n] 42)).cell? ⟨wr.heap.size, 2, none⟩ = some (.int .i64 p[k].n) := World.cell?_alloc_at _ _ _ 2 rfl
        have HI2 : I = if p[k] = t[j] then imgGo (p.drop (k + 1)) (t.drop (j + 1)) f else none := by
          rw [HI1]; simp only [imgGo]; rw [if_neg h1]
        clear HI1 HL1 hd hdt h1
        by_cases he : p[k] = t[j]
        · have HLz := mkHid (hL he)
          have HIz : Hid (I = imgGo (p.drop (k + 1)) (t.drop (j + 1)) f) := by rw [Hid, HI2, if_pos he]
          have hdc : decide (p[k] = t[j]) = true := decide_eq_true he
          have hne := fun w => run_neq_cel p[k] t[j] w
          rw [hdc] at hne
          clear he hdc HI2 hL
          go_wp2
          go_quiet (fail)
          go_wp2
          go_round
          case rel => exact ⟨k + 1, j + 1, n, f, by omega, by omega, by omega, by go_num, by go_num, hmx.below ⟨rfl, rfl, rfl, Nat.le_refl _, fun _ _ => rfl⟩, HU1, ⟨hbx.os, hbx.tape, hbx.output, hbx.size, hbx.block⟩, HLz, HIz⟩
          case measure => simp [intOf]; omega
        · have HIz : Hid (I = none) := by rw [Hid, HI2, if_neg he]
          have hdc : decide (p[k] = t[j]) = false := decide_eq_false he
          have hne := fun w => run_neq_cel p[k] t[j] w
          rw [hdc] at hne
          clear he hdc HI2 hL
          go_wp2
          go_quiet (fail)
          go_wp2
          go_ret2
          exact ⟨⟨hbx.os, hbx.tape, hbx.output, hbx.size, hbx.block⟩, .inl ⟨HIz.out, rfl⟩⟩
    · have hd : p.drop k = [] := List.drop_of_length_le (by omega)
      have HF : Hid (I = some f) := by rw [Hid, HI.out, hd]; rfl
      clear hd HI HL
      go_wp2
      go_ret2
      exact ⟨hbl, .inr ⟨f, _, n, HF.out, rfl, hmap⟩⟩
end Go.Proofs.Ytlddglajdcednaa
namespace Go.Proofs.Ytlddglajdcednaa
open Go.RowKit

mutual
/-- a tree with its cells changed -/
def mapT (f : Cel → Cel) : Tm → Tm
  | .mk c ts => .mk (f c) (mapTs f ts)
def mapTs (f : Cel → Cel) : List Tm → List Tm
  | [] => []
  | t :: ts => mapT f t :: mapTs f ts
end
mutual
theorem mapT_flat (f : Cel → Cel) : ∀ t : Tm, (mapT f t).flat = t.flat.map f
  | .mk c ts => by simp only [mapT, Tm.flat, List.map_cons]; rw [mapTs_flat f ts]
theorem mapTs_flat (f : Cel → Cel) : ∀ ts : List Tm, flats (mapTs f ts) = (flats ts).map f
  | [] => rfl
  | t :: ts => by simp only [mapTs, flats, List.map_append]; rw [mapT_flat f t, mapTs_flat f ts]
end
theorem mapTs_length (f : Cel → Cel) (ts : List Tm) : (mapTs f ts).length = ts.length := by
  induction ts with
  | nil => rfl
  | cons t ts ih => simp [mapTs, ih]
mutual
theorem mapT_depth (f : Cel → Cel) : ∀ t : Tm, (mapT f t).depth = t.depth
  | .mk c ts => by simp only [mapT, Tm.depth]; rw [mapTs_depth f ts]
theorem mapTs_depth (f : Cel → Cel) : ∀ ts : List Tm, depths (mapTs f ts) = depths ts
  | [] => rfl
  | t :: ts => by simp only [mapTs, depths]; rw [mapT_depth f t, mapTs_depth f ts]
end
mutual
theorem mapT_ok (f : Cel → Cel) : ∀ t : Tm, t.ok → (∀ c ∈ t.flat, cellOk (f c) = true ∧ ar (f c) = ar c) → (mapT f t).ok
  | .mk c ts, h, hf => by
    obtain ⟨h1, h2, h3⟩ := h
    have hc := hf c (by simp [Tm.flat])
    exact ⟨hc.1, by rw [mapTs_length, h2, hc.2], mapTs_ok f ts h3 (fun d hd => hf d (by simp only [Tm.flat]; exact List.mem_cons_of_mem _ hd))⟩
theorem mapTs_ok (f : Cel → Cel) : ∀ ts : List Tm, oks ts → (∀ c ∈ flats ts, cellOk (f c) = true ∧ ar (f c) = ar c) → oks (mapTs f ts)
  | [], _, _ => trivial
  | t :: ts, h, hf => ⟨mapT_ok f t h.1 (fun c hc => hf c (by simp only [flats]; exact List.mem_append_left _ hc)), mapTs_ok f ts h.2 (fun c hc => hf c (by simp only [flats]; exact List.mem_append_right _ hc))⟩
end
mutual
theorem ok_cells : ∀ t : Tm, t.ok → ∀ c ∈ t.flat, cellOk c = true
  | .mk c ts, h, d, hd => by
    simp only [Tm.flat, List.mem_cons] at hd
    rcases hd with rfl | hd
    · exact h.1
    · exact oks_cells ts h.2.2 d hd
theorem oks_cells : ∀ ts : List Tm, oks ts → ∀ c ∈ flats ts, cellOk c = true
  | [], _, d, hd => by simp [flats] at hd
  | t :: ts, h, d, hd => by
    simp only [flats, List.mem_append] at hd
    rcases hd with hd | hd
    · exact ok_cells t h.1 d hd
    · exact oks_cells ts h.2 d hd
end
theorem right_cells {xs : List Cel} (h : rightB xs = true) : ∀ c ∈ xs, cellOk c = true := by
  obtain ⟨t, ht, rfl, _⟩ := right_tm h
  exact ok_cells t ht
theorem var_range {c : Cel} (h : cellOk c = true) (h1 : c.k = 1) : 0 ≤ c.n ∧ c.n ≤ 999 := by
  simp [cellOk, h1] at h; omega

/-- the variables of a term, shifted -/
def shiftI (d : Int) (c : Cel) : Cel := if c.k = 1 then ⟨c.k, c.s, c.n + d⟩ else c
theorem shiftC_eq {d : Int} (hd : -100000 ≤ d ∧ d ≤ 100000) {c : Cel} (h : c.k = 1 → -100000 ≤ c.n ∧ c.n ≤ 100000) : shiftC d c = shiftI d c := by
  unfold shiftC shiftI
  by_cases h1 : c.k = 1
  · have := h h1
    rw [if_pos h1, if_pos h1, IntWalk.wrap64_in _ (by constructor <;> omega)]
  · rw [if_neg h1, if_neg h1]
theorem map_shift {xs : List Cel} {d : Int} (hd : -100000 ≤ d ∧ d ≤ 100000) (h : ∀ c ∈ xs, c.k = 1 → -100000 ≤ c.n ∧ c.n ≤ 100000) : xs.map (shiftC d) = xs.map (shiftI d) :=
  List.map_congr_left (fun c hc => shiftC_eq hd (h c hc))
theorem varsGo_shift (d : Int) (xs : List Cel) : ∀ acc : List Int, varsGo (acc.map (· + d)) (xs.map (shiftI d)) = (varsGo acc xs).map (· + d) := by
  induction xs with
  | nil => intro acc; rfl
  | cons c xs ih =>
    intro acc
    simp only [List.map_cons, varsGo]
    have hk : (shiftI d c).k = c.k := by unfold shiftI; split <;> rfl
    have hm : ∀ n : Int, n + d ∈ acc.map (· + d) ↔ n ∈ acc := by
      intro n
      rw [List.mem_map]
      constructor
      · rintro ⟨m, hm, e⟩
        have : m = n := by omega
        rw [← this]; exact hm
      · intro h; exact ⟨n, h, rfl⟩
    by_cases h1 : c.k = 1
    · have hn : (shiftI d c).n = c.n + d := by unfold shiftI; rw [if_pos h1]
      by_cases h2 : c.n ∈ acc
      · rw [if_neg (by rw [hk, hn]; simp only [hm]; exact fun h => h.2 h2), if_neg (fun h => h.2 h2)]
        exact ih acc
      · rw [if_pos (by rw [hk, hn]; simp only [hm]; exact ⟨h1, h2⟩), if_pos ⟨h1, h2⟩, hn]
        have := ih (acc ++ [c.n])
        rw [List.map_append] at this
        exact this
    · rw [if_neg (by rw [hk]; exact fun h => h1 h.1), if_neg (fun h => h1 h.1)]
      exact ih acc
theorem vars_shift {xs : List Cel} (d : Int) : varsL (xs.map (shiftI d)) = (varsL xs).map (· + d) := varsGo_shift d xs []
theorem mem_vars_of (xs : List Cel) : ∀ (acc : List Int) (n : Int), n ∈ varsGo acc xs → n ∈ acc ∨ ∃ c ∈ xs, c.k = 1 ∧ c.n = n := by
  induction xs with
  | nil => intro acc n h; exact .inl h
  | cons c xs ih =>
    intro acc n h
    simp only [varsGo] at h
    rcases ih _ _ h with h | ⟨e, he, h1, h2⟩
    · split at h
      · rename_i hc
        rcases List.mem_append.1 h with h | h
        · exact .inl h
        · simp at h; exact .inr ⟨c, List.mem_cons_self, hc.1, h.symm⟩
      · exact .inl h
    · exact .inr ⟨e, List.mem_cons_of_mem _ he, h1, h2⟩
theorem vars_range {xs : List Cel} (h : rightB xs = true) : ∀ n ∈ varsL xs, 0 ≤ n ∧ n ≤ 999 := by
  intro n hn
  rcases mem_vars_of xs [] n hn with h' | ⟨c, hc, h1, rfl⟩
  · simp at h'
  · exact var_range (right_cells h c hc) h1
theorem shift_ok {c : Cel} {d : Int} (h : cellOk c = true) (hr : c.k = 1 → 0 ≤ c.n + d ∧ c.n + d ≤ 999) : cellOk (shiftI d c) = true ∧ ar (shiftI d c) = ar c := by
  unfold shiftI
  by_cases h1 : c.k = 1
  · rw [if_pos h1]
    have := hr h1
    refine ⟨?_, by simp [ar, h1]⟩
    simp [cellOk, h1] at h ⊢
    exact ⟨⟨h.1.1, this.1⟩, this.2⟩
  · rw [if_neg h1]; exact ⟨h, rfl⟩
theorem mem_varsL {xs : List Cel} {c : Cel} (hc : c ∈ xs) (h1 : c.k = 1) : c.n ∈ varsL xs := by
  have : ∀ (xs : List Cel) (acc : List Int), c ∈ xs → c.n ∈ varsGo acc xs := by
    intro xs
    induction xs with
    | nil => intro acc h; simp at h
    | cons e l ih =>
      intro acc h
      rcases List.mem_cons.1 h with rfl | h
      · simp only [varsGo]
        have sub : ∀ (l : List Cel) (acc : List Int) (n : Int), n ∈ acc → n ∈ varsGo acc l := by
          intro l
          induction l with
          | nil => intro acc n h; exact h
          | cons f l ih => intro acc n h; refine ih _ _ ?_; split; exact List.mem_append_left _ h; exact h
        refine sub _ _ _ ?_
        by_cases h2 : c.n ∈ acc
        · rw [if_neg (fun h => h.2 h2)]; exact h2
        · rw [if_pos ⟨h1, h2⟩]; simp
      · exact ih _ h
  exact this xs [] hc
theorem small_vars {xs : List Cel} (h : rightB xs = true) : ∀ c ∈ xs, c.k = 1 → -100000 ≤ c.n ∧ c.n ≤ 100000 := fun c hc h1 => by
  have := var_range (right_cells h c hc) h1; omega

/-- all variables stay within the limits -/
def stays (vs : List Int) (d : Int) : Bool := vs.all fun n => decide (0 ≤ n + d) && decide (n + d ≤ 999)
theorem shift_stays {t : Tm} (ht : t.ok) (h200 : t.flat.length ≤ 200) {d : Int} (hd : -100000 ≤ d ∧ d ≤ 100000) (h : stays (varsL t.flat) d = true) :
    shiftL t.flat d = (mapT (shiftI d) t).flat ∧ (mapT (shiftI d) t).ok ∧ (mapT (shiftI d) t).flat.length = t.flat.length := by
  have hR := right_flat ht h200
  have hok : (mapT (shiftI d) t).ok := mapT_ok _ t ht (fun c hc => shift_ok (ok_cells t ht c hc) (fun h1 => by
    have := List.all_eq_true.1 h c.n (mem_varsL hc h1)
    simpa using this))
  have hl : (mapT (shiftI d) t).flat.length = t.flat.length := by rw [mapT_flat, List.length_map]
  refine ⟨?_, hok, hl⟩
  unfold shiftL
  rw [map_shift hd (small_vars hR), ← mapT_flat, if_pos (right_flat hok (by omega))]
theorem shift_leaves {t : Tm} (ht : t.ok) (h200 : t.flat.length ≤ 200) {d : Int} (hd : -100000 ≤ d ∧ d ≤ 100000) (h : stays (varsL t.flat) d = false) : shiftL t.flat d = [] := by
  have hR := right_flat ht h200
  unfold shiftL
  rw [map_shift hd (small_vars hR), if_neg]
  intro hr
  obtain ⟨n, hn, hb⟩ := List.all_eq_false.1 h
  rcases mem_vars_of t.flat [] n hn with h' | ⟨c, hc, h1, rfl⟩
  · simp at h'
  · have h2 := right_cells hr (shiftI d c) (List.mem_map_of_mem hc)
    have h3 : (shiftI d c).k = 1 := by unfold shiftI; rw [if_pos h1]; exact h1
    have h4 := var_range h2 h3
    have h5 : (shiftI d c).n = c.n + d := by unfold shiftI; rw [if_pos h1]
    rw [h5] at h4
    exact hb (by simp; exact h4)
theorem shift_back {t : Tm} (ht : t.ok) (h200 : t.flat.length ≤ 200) {d : Int} (hd : -100000 ≤ d ∧ d ≤ 99000) (hd2 : -99000 ≤ d) (h : stays (varsL t.flat) d = true) : shiftL (mapT (shiftI d) t).flat (-d) = t.flat := by
  obtain ⟨_, hok, hl⟩ := shift_stays ht h200 ⟨hd.1, by omega⟩ h
  have hR := right_flat ht h200
  have hR2 := right_flat hok (by omega)
  have e : (mapT (shiftI d) t).flat.map (shiftC (-d)) = t.flat := by
    rw [map_shift ⟨by omega, by omega⟩ (small_vars hR2), mapT_flat, List.map_map]
    have : ∀ c ∈ t.flat, (shiftI (-d) ∘ shiftI d) c = c := by
      intro c _
      show shiftI (-d) (shiftI d c) = c
      unfold shiftI
      by_cases h1 : c.k = 1
      · rw [if_pos h1, if_pos h1]
        exact (Cel.eq_iff _ _).2 ⟨rfl, rfl, by show c.n + d + -d = c.n; omega⟩
      · rw [if_neg h1, if_neg h1]
    exact (List.map_congr_left this).trans (List.map_id _)
  unfold shiftL
  rw [e, if_pos hR]
theorem shift_zero {t : Tm} (ht : t.ok) (h200 : t.flat.length ≤ 200) : shiftL t.flat 0 = t.flat := by
  have hR := right_flat ht h200
  have e : t.flat.map (shiftC 0) = t.flat := by
    rw [map_shift ⟨by omega, by omega⟩ (small_vars hR)]
    have : ∀ c ∈ t.flat, shiftI 0 c = c := by
      intro c _
      unfold shiftI
      by_cases h1 : c.k = 1
      · rw [if_pos h1]
        exact (Cel.eq_iff _ _).2 ⟨rfl, rfl, by show c.n + 0 = c.n; omega⟩
      · rw [if_neg h1]
    exact (List.map_congr_left this).trans (List.map_id _)
  unfold shiftL
  rw [e, if_pos hR]
end Go.Proofs.Ytlddglajdcednaa
namespace Go.Proofs.Ytlddglajdcednaa
open Go.RowKit

/-- what stands for a variable -/
structure Bnd where
  v : Int
  t : List Cel
  deriving DecidableEq
structure BndE (w : World) (b o : Nat) (x : Bnd) : Prop where
  ex : ∃ a cap, w.cell? ⟨b, o, none⟩ = some (.int .i64 x.v) ∧ w.cell? ⟨b, o + 1, none⟩ = some (.slice a x.t.length cap) ∧ Row w a cap x.t
  lo : -9223372036854775808 ≤ x.v
  hi : x.v ≤ 9223372036854775807
instance : RepC Bnd where
  sz := 2
  E := BndE
  mono h hb := let ⟨a, cap, h0, h1, hr⟩ := h.ex; ⟨⟨a, cap, hb _ _ _ h0, hb _ _ _ h1, hr.keeps hb⟩, h.lo, h.hi⟩
  lt h := let ⟨_, _, h0, _⟩ := h.ex; cell_lt h0
  C w cs x := (∃ a cap, cs = [.int .i64 x.v, .slice a x.t.length cap] ∧ Row w a cap x.t) ∧ -9223372036854775808 ≤ x.v ∧ x.v ≤ 9223372036854775807
  len := by rintro w cs x ⟨⟨a, cap, rfl, _⟩, _⟩; rfl
  one := by rintro w cs x ⟨⟨a, cap, rfl, _⟩, _⟩ u hu; simp at hu; rcases hu with rfl | rfl <;> rfl
  cmono := by rintro w w' cs x ⟨⟨a, cap, rfl, h⟩, h2⟩ hk; exact ⟨⟨a, cap, rfl, h.keeps hk⟩, h2⟩
  toE := by
    rintro w cs x b o ⟨⟨a, cap, rfl, h⟩, h2, h3⟩ hat
    exact ⟨⟨a, cap, hat 0 _ rfl, hat 1 _ rfl, h⟩, h2, h3⟩
  ofE := by
    rintro w x b o ⟨⟨a, cap, h0, h1, h⟩, h2, h3⟩
    refine ⟨_, ⟨⟨a, cap, rfl, h⟩, h2, h3⟩, fun j u hj => ?_⟩
    match j with
    | 0 => simp at hj; subst hj; exact h0
    | 1 => simp at hj; subst hj; exact h1
    | j + 2 => simp at hj
  pos := by decide
theorem bnd_at {w wr : World} {b off : Nat} {xs : List Bnd} (hat : ∀ i (hi : i < xs.length), Rep.E w b (off + i * Rep.sz Bnd) xs[i]) (hb : Below w.heap.size w wr) {k : Nat} (hk : k < xs.length) :
    ∃ a cap, wr.cell? ⟨b, off + k * 2, none⟩ = some (.int .i64 xs[k].v) ∧ wr.cell? ⟨b, off + k * 2 + 1, none⟩ = some (.slice a xs[k].t.length cap) ∧ Row wr a cap xs[k].t ∧ -9223372036854775808 ≤ xs[k].v ∧ xs[k].v ≤ 9223372036854775807 := by
  have h : BndE w b (off + k * 2) xs[k] := hat k hk
  obtain ⟨a, cap, h0, h1, hr⟩ := h.ex
  exact ⟨a, cap, keep h0 hb, keep h1 hb, hr.below hb, h.lo, h.hi⟩

/-! ### plain mathematics -/
def varC (n : Int) : Cel := ⟨1, ⟨#[]⟩, n⟩
/-- the program's own word: just its own variable -/
def ownB (b : Bnd) : Bool := decide (b.t = [varC b.v])
/-- the document's -/
def ownR (v : Int) : List Cel → Bool
  | [c] => c.k == 1 && c.n == v
  | _ => false
def placeB (s : List Bnd) (n : Int) : Int := match s.findIdx? (fun b => decide (b.v = n)) with
  | some i => i
  | none => -1
def look (s : List Bnd) (n : Int) : Option (List Cel) := (s.find? fun b => decide (b.v = n)).map Bnd.t
/-- right from a least variable on -/
def rightG : Int → List Bnd → Bool
  | _, [] => true
  | m, b :: s => decide (m ≤ b.v) && decide (b.v ≤ 999) && rightB b.t && !ownB b && rightG (b.v + 1) s
def rightS (s : List Bnd) : Bool := rightG 0 s
def fewB (s : List Bnd) : Bool := s.all (fun b => decide (b.t.length ≤ 300)) && decide (s.length ≤ 30)
def idemB (s : List Bnd) : Bool := s.all fun b => b.t.all fun c => !(c.k == 1 && (look s c.n).isSome)

theorem cellOk_var {c : Cel} (h : cellOk c = true) (h1 : c.k = 1) : c = varC c.n := by
  obtain ⟨k, s, n⟩ := c
  dsimp only at h1
  subst h1
  simp [cellOk] at h
  have : s = ⟨#[]⟩ := (toList_inj s ⟨#[]⟩).1 (by rw [h.1.1]; simp)
  rw [this]; rfl

/-! scans -/
section
variable {α : Type} {xs : List α} {p : α → Bool} {k : Nat}
theorem scan_next (h : (xs.take k).all p = true) (hk : k < xs.length) (hp : p xs[k] = true) : (xs.take (k + 1)).all p = true := by
  rw [List.take_succ_eq_append_getElem hk, List.all_append, h]; simp [hp]
theorem scan_bad (hk : k < xs.length) (hp : p xs[k] = false) : xs.all p = false := by
  rw [List.all_eq_false]; exact ⟨xs[k], List.getElem_mem hk, by simp [hp]⟩
theorem scan_end (h : (xs.take k).all p = true) (hk : xs.length ≤ k) : xs.all p = true := by
  rwa [List.take_of_length_le hk] at h
theorem find_none {n : Int} {s : List Bnd} (h : (s.take k).all (fun b => !decide (b.v = n)) = true) (hk : s.length ≤ k) : placeB s n = -1 := by
  have h := scan_end h hk
  have : s.findIdx? (fun b => decide (b.v = n)) = none := by
    rw [List.findIdx?_eq_none_iff]
    intro x hx
    have := List.all_eq_true.1 h x hx
    simpa using this
  unfold placeB; rw [this]
theorem find_at {n : Int} {s : List Bnd} (h : (s.take k).all (fun b => !decide (b.v = n)) = true) (hk : k < s.length) (he : s[k].v = n) : placeB s n = k := by
  have : s.findIdx? (fun b => decide (b.v = n)) = some k := by
    rw [List.findIdx?_eq_some_iff_getElem]
    refine ⟨hk, by simpa using he, fun j hj => ?_⟩
    have := List.all_eq_true.1 h s[j] (by rw [List.mem_take_iff_getElem]; exact ⟨j, by omega, rfl⟩)
    simpa using this
  unfold placeB; rw [this]
end
theorem place_look (s : List Bnd) (n : Int) : (placeB s n = -1 ∧ look s n = none ∧ ∀ b ∈ s, b.v ≠ n) ∨ ∃ (i : Nat) (h : i < s.length), placeB s n = i ∧ s[i].v = n ∧ look s n = some s[i].t := by
  cases h : s.findIdx? (fun b => decide (b.v = n)) with
  | none =>
    left
    rw [List.findIdx?_eq_none_iff] at h
    refine ⟨by unfold placeB; rw [List.findIdx?_eq_none_iff.2 h], ?_, fun b hb e => by have := h b hb; simp [e] at this⟩
    unfold look
    rw [List.find?_eq_none.2 (fun x hx => by simpa using h x hx)]; rfl
  | some i =>
    right
    have h' := h
    rw [List.findIdx?_eq_some_iff_getElem] at h'
    obtain ⟨hi, h1, h2⟩ := h'
    refine ⟨i, hi, by unfold placeB; rw [h], by simpa using h1, ?_⟩
    unfold look
    have hf : s.find? (fun b => decide (b.v = n)) = some s[i] := List.find?_eq_some_iff_getElem.2 ⟨h1, i, hi, rfl, fun j hj => by simpa using h2 j hj⟩
    rw [hf]; rfl
theorem ownR_own {b : Bnd} (h : rightB b.t = true) : ownR b.v b.t = ownB b := by
  unfold ownR ownB
  split
  · rename_i c e
    rw [e] at h ⊢
    have hc := right_cells h c (by simp)
    by_cases h1 : c.k = 1
    · by_cases h2 : c.n = b.v
      · have := cellOk_var hc h1
        rw [h2] at this
        rw [this]; simp [varC]
      · have : ¬ c = varC b.v := fun e => h2 (by rw [e]; rfl)
        simp [h1, h2, this]
    · have : ¬ c = varC b.v := fun e => h1 (by rw [e]; rfl)
      simp [h1, this]
  · rename_i hne
    symm
    rw [decide_eq_false_iff_not]
    intro e
    exact hne _ e
/-- the document's way of asking, place by place -/
def okAt (s : List Bnd) (i : Nat) (b : Bnd) : Bool := decide (0 ≤ b.v) && decide (b.v ≤ 999) && (match i with | 0 => true | j + 1 => match s[j]? with | some c => decide (c.v < b.v) | none => true) && rightB b.t && !ownR b.v b.t
theorem rightG_bad {m : Int} {s : List Bnd} {k : Nat} (hk : k < s.length) (h : rightB s[k].t = false ∨ ownB s[k] = true ∨ 999 < s[k].v) : rightG m s = false := by
  induction s generalizing m k with
  | nil => simp at hk
  | cons b s ih =>
    cases k with
    | zero =>
      simp at h
      unfold rightG
      rcases h with h | h | h
      · simp [h]
      · simp [h]
      · simp [show ¬ b.v ≤ 999 by omega]
    | succ k =>
      simp at h hk
      have := ih (m := b.v + 1) hk h
      unfold rightG; simp [this]
theorem rightG_split {m : Int} {s : List Bnd} {k : Nat} (hk : k < s.length) (h : rightG m s = true) : rightG s[k].v (s.drop k) = true ∧ m ≤ s[k].v := by
  induction s generalizing m k with
  | nil => simp at hk
  | cons b s ih =>
    cases k with
    | zero =>
      unfold rightG at h
      simp at h
      refine ⟨?_, by simp; omega⟩
      rw [List.drop_zero]
      unfold rightG
      simp [h]
    | succ k =>
      unfold rightG at h
      simp at h hk
      obtain ⟨h1, h2⟩ := ih hk h.2
      refine ⟨by simpa using h1, by simp; omega⟩

/-- the least variable that may stand at a place -/
def mOf (xs : List Bnd) : Nat → Int
  | 0 => 0
  | j + 1 => match xs[j]? with
    | some c => c.v + 1
    | none => 0
theorem mOf_succ {xs : List Bnd} {k : Nat} (hk : k < xs.length) : mOf xs (k + 1) = xs[k].v + 1 := by
  simp [mOf, List.getElem?_eq_getElem hk]
theorem rightG_step {xs : List Bnd} {k : Nat} (hk : k < xs.length) (h : rightS xs = rightG (mOf xs k) (xs.drop k)) :
    rightS xs = (decide (mOf xs k ≤ xs[k].v) && decide (xs[k].v ≤ 999) && rightB xs[k].t && !ownB xs[k] && rightG (mOf xs (k + 1)) (xs.drop (k + 1))) := by
  rw [h, List.drop_eq_getElem_cons hk, mOf_succ hk]; rfl
theorem right_l1 {xs : List Bnd} {k : Nat} (hk : k < xs.length) (h : rightS xs = rightG (mOf xs k) (xs.drop k)) (e : ¬ mOf xs k ≤ xs[k].v ∨ ¬ xs[k].v ≤ 999 ∨ rightB xs[k].t = false ∨ ownB xs[k] = true) : rightS xs = false := by
  rw [rightG_step hk h]
  rcases e with e | e | e | e <;> simp [e]
theorem right_l2 {xs : List Bnd} {k : Nat} (hk : k < xs.length) (h : rightS xs = rightG (mOf xs k) (xs.drop k)) (e1 : mOf xs k ≤ xs[k].v) (e2 : xs[k].v ≤ 999) (e3 : rightB xs[k].t = true) (e4 : ownB xs[k] = false) : rightS xs = rightG (mOf xs (k + 1)) (xs.drop (k + 1)) := by
  rw [rightG_step hk h]; simp [e1, e2, e3, e4]
theorem right_l3 {xs : List Bnd} {k : Nat} (hk : xs.length ≤ k) (h : rightS xs = rightG (mOf xs k) (xs.drop k)) : rightS xs = true := by
  rw [h, List.drop_eq_nil_of_le hk]; rfl
end Go.Proofs.Ytlddglajdcednaa
namespace Go.Proofs.Ytlddglajdcednaa
open Go.RowKit

/-- the bindings of rising variables, but for those that stand for themselves -/
def bindC (F : Int → List Cel) (v : Int) : List Bnd := if (F v).head? = some ⟨1, ⟨#[]⟩, v⟩ then [] else [⟨v, F v⟩]
def bindL (F : Int → List Cel) (R : List Int) : List Bnd := R.flatMap (bindC F)
theorem bind_take {F : Int → List Cel} {R : List Int} {k : Nat} (hk : k < R.length) : bindL F (R.take (k + 1)) = bindL F (R.take k) ++ bindC F R[k] := by
  unfold bindL; rw [List.take_succ_eq_append_getElem hk, List.flatMap_append]; simp
theorem bind_le (F : Int → List Cel) (R : List Int) : (bindL F R).length ≤ R.length := by
  induction R with
  | nil => simp [bindL]
  | cons v R ih =>
    unfold bindL at ih ⊢
    rw [List.flatMap_cons, List.length_append, List.length_cons]
    have : (bindC F v).length ≤ 1 := by unfold bindC; split <;> simp
    omega
theorem riseI_le (xs : List Int) : (riseI xs).length ≤ xs.length := by
  have := compact_le (sortI xs).toArray (sortI xs).length
  rw [sortI_length] at this
  unfold riseI; rw [sortI_length]; exact this

theorem Try.infoBind2 : (Try.prog.info? 39).map (fun i => (i.zero, i.size, i.bytes)) = some (some (.agg #[.int .i64 0, .slice none 0 0]), 2, 32) := by kernel_rfl

set_option maxHeartbeats 3200000 in
set_option maxRecDepth 100000 in
theorem bindingsM_any (T6 : Nat) (a : Option Addr) (cap : Nat) (w : World) (V R : List Int) (F : Int → List Cel) (hR : riseI V = R) (hV : Row w a cap V) (hl : V.length ≤ 1000)
    (hst : ∀ (W : World) (v : Int), Below w.heap.size w W → v ∈ R → Calls Try.prog 50 #[.int .i64 v, .pointer (some ⟨T6, 0, none⟩)] W fun e W' => ∃ a cap, e = .returned (.tuple #[.slice a (F v).length cap, .bool true]) ∧ NewRow W.heap.size W' a cap (F v) ∧ 1 ≤ (F v).length ∧ (F v).length ≤ 1000 ∧ Below W.heap.size W W') :
    Calls Try.prog 38 #[.slice a V.length cap, .func (.func 50) #[] #[.pointer (some ⟨T6, 0, none⟩)]] w fun e w' => ∃ a2 cap2, e = .returned (.tuple #[.slice a2 (bindL F R).length cap2, .bool true]) ∧ Row w' a2 cap2 (bindL F R) ∧ Below w.heap.size w w' := by
  have hm := hV.max
  have hle := hV.le
  have HST := mkHid hst
  have hRl := riseI_le V
  rw [hR] at hRl
  have HR := mkHid hR
  clear hR
  clear hst
  go_enter Try.func38, Try.ntmps38
  go_wp2_with fail
  refine (callsIn_wide (n := 2)).1 (values_in _ 2 trivial rfl a V.length cap w) |>.mono ?_
  rintro e w1 ⟨rfl, rfl⟩
  have hb1 := (Below.refl w.heap.size w).new (.cells #[.slice a V.length cap] 36)
  go_wp2_with fail
  refine (sorted_any w.heap.size w _ a cap V hV (by omega) hb1 (World.cell?_alloc_at _ _ _ 0 rfl)).mono ?_
  rintro e w2 ⟨v2, rfl, ho2, hb2⟩
  have hsl := sortI_length V
  have HO2 := mkHid ho2
  clear ho2
  go_wp2_with fail
  refine (compact_any _ w2 v2 (sortI V) HO2.out (by omega) hb2.size).mono ?_
  rintro e w3 ⟨v3, rfl, ho3, hb3⟩
  have hb := hb1.trans ((hb2.trans hb3).mono (by simp))
  obtain ⟨a3, cap3, rfl, hr3⟩ := ho3.row
  have hr3 := hr3.row
  have hR : Hid (Lib.compactUpTo (sortI V).toArray (sortI V).length = R) := HR.out
  rw [hR.out] at hr3 ⊢
  clear hsl hb1 hb2 hb3 ho3
  have hacc0 := AccInv.nil (α := Bnd) w3.heap.size 39 w3
  go_wp2_with fail
  go_loopw [6, 8, 9, 10, 16] (fun s v t fits i wr => ∃ k : Nat, k ≤ R.length ∧ i = .int .i64 k ∧ AccInv w3.heap.size 39 (bindL F (R.take k)) s wr ∧ Below w3.heap.size w3 wr) (fun s v t fits i wr => R.length - (intOf i).toNat)
  case atStart => exact ⟨0, Nat.zero_le _, rfl, by simpa [bindL] using hacc0, Below.refl _ _⟩
  case round =>
    clear hacc0
    obtain ⟨k, hk, rfl, hacc, hbl⟩ := hrel
    by_cases hlt : k < R.length
    · obtain ⟨b, off, rfl, hb', hat⟩ := hr3.cases.resolve_left (fun e => by simp [e] at hlt)
      obtain ⟨d0, n1, n2⟩ := int_at hat hbl hlt
      have HT := mkHid (bind_take (F := F) hlt)
      have hle2 := bind_le F (R.take k)
      have hlk : (R.take k).length ≤ k := List.length_take_le _ _
      have hmem : Hid (R[k] ∈ R) := List.getElem_mem hlt
      go_wp2_with fail
      refine (HST.out wr R[k] (hb.trans (hbl.mono hb.size)) hmem.out).mono ?_
      rintro e w4 ⟨a4, cap4, rfl, hr4, h41, h42, hb4⟩
      have hbl2 := hbl.then hb4
      have hacc2 := hacc.below hb4
      have hC := hacc.newer (Nat.le_refl _) hr4
      obtain ⟨b4, off4, rfl, _, hat4⟩ := hr4.row.cases.resolve_left (fun e => by simp [e] at h41)
      obtain ⟨e0, e1, e2, hf4⟩ := cel_at hat4 (Below.refl _ _) (k := 0) h41
      simp only [Nat.zero_mul, Nat.add_zero] at e0 e1 e2
      have hh : (F R[k]).head? = some (F R[k])[0] := by
        rw [List.head?_eq_getElem?, List.getElem?_eq_getElem h41]
      by_cases he : (F R[k])[0] = ⟨1, ⟨#[]⟩, R[k]⟩
      · have hdc : decide ((F R[k])[0] = (⟨1, ⟨#[]⟩, R[k]⟩ : Cel)) = true := decide_eq_true he
        have hne := fun w => run_neq_cel (F R[k])[0] ⟨1, ⟨#[]⟩, R[k]⟩ w
        rw [hdc] at hne
        have HB : Hid (bindL F (R.take (k + 1)) = bindL F (R.take k)) := by
          rw [Hid, HT.out]; unfold bindC; rw [hh, he, if_pos rfl, List.append_nil]
        clear hh he hdc
        go_wp2_with fail
        go_round
        case rel => exact ⟨k + 1, by omega, by go_num, hacc2.lit HB.out.symm, hbl2⟩
        case measure => simp [intOf]; omega
      · have hdc : decide ((F R[k])[0] = (⟨1, ⟨#[]⟩, R[k]⟩ : Cel)) = false := decide_eq_false he
        have hne := fun w => run_neq_cel (F R[k])[0] ⟨1, ⟨#[]⟩, R[k]⟩ w
        rw [hdc] at hne
        have HB : Hid (bindL F (R.take (k + 1)) = bindL F (R.take k) ++ [⟨R[k], F R[k]⟩]) := by
          rw [Hid, HT.out]; unfold bindC; rw [hh, if_neg (fun e => he (Option.some.inj e))]
        clear hh he hdc
        go_wp2_with (at_builtin; refine wpList_acc (α := Bnd) rfl _ _ 25 rfl w3.heap.size 39 32 _ Try.underlying25 Try.infoBind2 rfl (by decide) _ (bindL F (R.take k)) hacc2 (by rfl) _ #[.int .i64 R[k], .slice (some ⟨b4, off4, none⟩) (F R[k]).length cap4] ⟨R[k], F R[k]⟩ ⟨⟨_, cap4, rfl, hC⟩, n1, n2⟩ (by rfl) (by omega) hbl2.size ?_; intro v' w5 hacc3 hb5)
        go_round
        case rel => exact ⟨k + 1, by omega, by go_num, hacc3.lit HB.out.symm, hbl2.trans hb5⟩
        case measure => simp [intOf]; omega
    · have HL : Hid (R.take k = R) := List.take_of_length_le (by omega)
      obtain ⟨a5, cap5, rfl, hrow⟩ := hacc.row
      rw [HL.out] at hrow ⊢
      clear hacc
      go_wp2_with fail
      go_ret2
      exact ⟨a5, cap5, rfl, hrow, hb.trans (hbl.mono hb.size)⟩
end Go.Proofs.Ytlddglajdcednaa
namespace Go.Proofs.Ytlddglajdcednaa
open Go.RowKit

set_option maxHeartbeats 1600000 in
theorem refnumber_any (a : Option Addr) (cap : Nat) (w : World) (xs : List Cel) (hr : Row w a cap xs) (hl : xs.length ≤ 1000000) (h0 : 0 < xs.length) :
    Calls Try.prog 30 #[.slice a xs.length cap] w fun e w' => ∃ a' cap', e = .returned (.slice a' (numL xs).length cap') ∧ Row w' a' cap' (numL xs) ∧ Below w.heap.size w w' := by
  have hm := hr.max
  have hle := hr.le
  have hfit := mkHid hr.fit
  have hvl := varsGo_length xs []
  rw [show varsGo [] xs = varsL xs from rfl, List.length_nil, Nat.zero_add] at hvl
  go_enter Try.func30, Try.ntmps30
  go_wp2_with (first
    | (go_at_call 24; refine (refvars_any a cap _ xs hr hl).mono ?_; rintro e w1 ⟨av, capv, rfl, hrv, hb1⟩)
    | (at_builtin; refine wpList_app rfl _ _ 22 rfl w1.heap.size 42 3 32 _ Try.underlying22 Try.infoCell rfl (by decide) (by decide) _ 0 [] rfl (World.ownsRow_made (base := w1.heap.size) (e := 42) (size := 3) w1 #[] 0 (Nat.le_refl _) (by unfold maxLen; omega) rfl) a xs.length cap (flat xs) rfl ((hr.below (hb1.new _)).src) (by omega) (by simp) ?_; intro v w2 hown _ hb2))
  rw [Nat.zero_add, List.nil_append] at hown
  have hb12 := ((Below.refl w1.heap.size w1).new (.cells #[] 42)).trans hb2
  have hbl2 := hb1.then hb12
  obtain ⟨g, cp, rfl, hg1, hg2, hg3, hg4⟩ := own_form hown h0
  have hrv2 := hrv.keeps (fresh_keeps (Keeps.of hb12) hg1)
  have hsz := hb1.size
  go_loopw [5] (fun i wr => ∃ k : Nat, k ≤ xs.length ∧ i = .int .i64 k ∧ wr.ownsRow w.heap.size 42 3 (.slice (some ⟨g, 0, none⟩) xs.length cp) xs.length (flat (upTo (numC (varsL xs)) xs k)) ∧ Below w.heap.size w wr ∧ Row (hide (some g) wr) av capv (varsL xs)) (fun i wr => xs.length - (intOf i).toNat)
  case atStart => exact ⟨0, Nat.zero_le _, rfl, by rw [upTo_zero]; exact own_mono hown hsz, hbl2, hrv2⟩
  case round =>
    clear hown hrv2
    obtain ⟨k, hk, rfl, hown, hbl, hrv⟩ := hrel
    have hgl := (hown.lt g rfl).2
    have hgb := (hown.lt g rfl).1
    by_cases hlt : k < xs.length
    · obtain ⟨o0, _, o2⟩ := own_cel hown (upTo_at _ _ hlt)
      have hf := hfit.out _ (List.getElem_mem hlt)
      by_cases h1 : xs[k].k = 1
      · have t1 : (xs[k].k == 1) = true := by simp [h1]
        go_wp2_with (go_at_call 60; refine (refplace_any av capv xs[k].n _ (varsL xs) (hrv.keeps (hide_keeps _ _))).mono ?_; rintro e w3 ⟨rfl, hb3⟩; have hown3 := own_below hown hb3; have o2' := keep o2 hb3; have hfz := own_free hown3 (k * 3 + 2); have HS := mkHid (own_store hown3 hlt (show numC (varsL xs) xs[k] = ⟨xs[k].k, xs[k].s, placeI (varsL xs) xs[k].n⟩ from if_pos h1)); clear h1 o0 o2)
        go_round
        case rel => exact ⟨k + 1, by omega, by go_num, HS.out, (hbl.then hb3).setCell (by show w.heap.size ≤ g; omega) _, (hrv.keeps (below_hide hb3 _)).keeps (grown_keeps (grown_set w3 g (k * 3 + 2) _))⟩
        case measure => simp [intOf]; omega
      · have t1 : (xs[k].k == 1) = false := by simp [h1]
        have HE := mkHid (upTo_same (numC (varsL xs)) xs hlt (if_neg h1))
        clear h1
        go_wp2
        go_round
        case rel => exact ⟨k + 1, by omega, by go_num, by rw [HE.out]; exact hown, hbl, hrv⟩
        case measure => simp [intOf]; omega
    · have hu := upTo_all (numC (varsL xs)) xs (k := k) (by omega)
      rw [hu] at hown
      have hml : (xs.map (numC (varsL xs))).length = xs.length := by simp
      have hfm : ∀ c ∈ xs.map (numC (varsL xs)), c.fit := fun c hc => by
        obtain ⟨c', hc', rfl⟩ := List.mem_map.1 hc
        exact numC_fit (by omega) (hfit.out c' hc')
      obtain ⟨a2, cap2, ev, hrow⟩ := own_row (xs := xs.map (numC (varsL xs))) (by rw [hml]; exact hown) hfm
      rw [hml] at ev
      injection ev with ev1 _ ev2
      subst ev1
      subst ev2
      have HM := mkHid (show (numL xs).length = xs.length from hml)
      clear hu hml
      go_wp2
      go_ret
      exact ⟨some ⟨g, 0, none⟩, cp, by rw [HM.out]; rfl, hrow, hbl⟩

/-- what a name and arguments make -/
def madeL (nm : ByteArray) (l : List (List Cel)) : List Cel := ⟨3, nm, l.length⟩ :: l.flatten
def makeL (nm : ByteArray) (l : List (List Cel)) : List Cel := if l.all rightB && rightB (madeL nm l) then madeL nm l else []
theorem right_len {xs : List Cel} (h : rightB xs = true) : xs.length ≤ 200 := by
  obtain ⟨_, _, _, _, _, h200⟩ := right_sk h
  exact h200
theorem make_bad {nm : ByteArray} {l : List (List Cel)} {k : Nat} (hk : k < l.length) (h : rightB l[k] = false) : makeL nm l = [] := by
  unfold makeL
  rw [if_neg]
  intro h2
  simp only [Bool.and_eq_true, List.all_eq_true] at h2
  have := h2.1 _ (List.getElem_mem hk)
  rw [h] at this; cases this
theorem make_head {nm : ByteArray} {l : List (List Cel)} (h : cellOk ⟨3, nm, l.length⟩ = false) : makeL nm l = [] := by
  unfold makeL
  rw [if_neg]
  intro h2
  simp only [Bool.and_eq_true] at h2
  obtain ⟨c, r, e, hc, _⟩ := right_sk h2.2
  unfold madeL at e
  rw [← (List.cons.inj e).1, h] at hc; cases hc
theorem all_take {l : List (List Cel)} {k : Nat} (hk : k < l.length) (h : (l.take k).all rightB = true) (h2 : rightB l[k] = true) : (l.take (k + 1)).all rightB = true := by
  rw [List.take_succ_eq_append_getElem hk, List.all_append, h]; simp [h2]
theorem flatten_take {l : List (List Cel)} {k : Nat} (hk : k < l.length) : (l.take (k + 1)).flatten = (l.take k).flatten ++ l[k] := by
  rw [List.take_succ_eq_append_getElem hk, List.flatten_append]; simp
theorem made_length {l : List (List Cel)} (h : l.all rightB = true) : l.flatten.length ≤ 200 * l.length := by
  induction l with
  | nil => simp
  | cons p l ih =>
    simp only [List.all_cons, Bool.and_eq_true] at h
    obtain ⟨_, _, _, _, _, h200⟩ := right_sk h.1
    have := ih h.2
    simp only [List.flatten_cons, List.length_append, List.length_cons]; omega

/-- what holds when k arguments stand behind the name -/
structure MakeInv (w : World) (nm : ByteArray) (l : List (List Cel)) (k : Nat) (v : Value) (wr : World) : Prop where
  all : (l.take k).all rightB = true
  own : wr.ownsRow w.heap.size 42 3 v (1 + (l.take k).flatten.length) (flat (⟨3, nm, l.length⟩ :: (l.take k).flatten))
  bel : Below w.heap.size w wr
  fit : Hid (∀ c ∈ (l.take k).flatten, c.fit)

set_option maxHeartbeats 1600000 in
theorem refmake_any (a : Option Addr) (cap : Nat) (nm : ByteArray) (w : World) (l : List (List Cel)) (hr : Row w a cap l) (hl : l.length ≤ 1000) (hn : nm.size ≤ 9223372036854775807) :
    Calls Try.prog 26 #[.string nm, .slice a l.length cap] w fun e w' => ∃ a' cap', e = .returned (.slice a' (makeL nm l).length cap') ∧ Row w' a' cap' (makeL nm l) ∧ Below w.heap.size w w' := by
  have hm := hr.max
  have hle := hr.le
  have hcf : (⟨3, nm, l.length⟩ : Cel).fit := ⟨by simp, by simp, by show (-9223372036854775808 : Int) ≤ l.length; omega, by show (l.length : Int) ≤ 9223372036854775807; omega, hn⟩
  have hb0 := (Below.refl w.heap.size w).new (.cells #[.int .i64 3, .string nm, .int .i64 l.length] 42)
  have hown0 : (w.alloc (.cells #[.int .i64 3, .string nm, .int .i64 l.length] 42)).ownsRow w.heap.size 42 3 (.slice (some ⟨w.heap.size, 0, none⟩) 1 1) 1 (flat (⟨3, nm, l.length⟩ :: (l.take 0).flatten)) := by
    have := World.ownsRow_lit (base := w.heap.size) (e := 42) (size := 3) w #[.int .i64 3, .string nm, .int .i64 l.length] 1 (Nat.le_refl _) (by unfold maxLen; omega) rfl
    simpa [flat] using this
  go_enter Try.func26, Try.ntmps26
  go_wp2_with fail
  have hown1 := hown0
  have hb01 := hb0
  go_loopw [5, 6] (fun v i wr => ∃ k : Nat, k ≤ l.length ∧ i = .int .i64 k ∧ MakeInv w nm l k v wr) (fun v i wr => l.length - (intOf i).toNat)
  case atStart => exact ⟨0, Nat.zero_le _, rfl, ⟨rfl, hown1, hb01, by simp [Hid]⟩⟩
  case round =>
    clear hown0 hown1
    obtain ⟨k, hk, rfl, ⟨HA, hown, hbl, HF⟩⟩ := hrel
    have hlen := made_length HA
    rw [List.length_take, Nat.min_eq_left hk] at hlen
    by_cases hlt : k < l.length
    · obtain ⟨b, off, rfl, hb, hat⟩ := hr.cases.resolve_left (fun e => by simp [e] at hlt)
      obtain ⟨a1, cap1, c0, hr1⟩ := list_at hat hbl hlt
      cases hR : rightB l[k] with
      | false =>
        have HE := mkHid (make_bad (nm := nm) hlt hR)
        have HR := mkHid hR
        clear hR HA
        go_wp2_with (go_at_call 32; refine (refright_any a1 cap1 _ l[k] hr1).mono ?_; rintro e w2 ⟨rfl, hb2⟩; rw [HR.out])
        go_ret
        rw [HE.out]
        exact ⟨none, 0, rfl, Row.empty _ _ _ (by omega) (fun _ => rfl), hbl.then hb2⟩
      | true =>
        have h200 := right_len hR
        have HA' := mkHid (all_take hlt HA hR)
        have HT := mkHid (flatten_take hlt)
        have HF' : Hid (∀ c ∈ (l.take (k + 1)).flatten, c.fit) := by
          rw [Hid, HT.out]
          intro c hc
          rcases List.mem_append.1 hc with h | h
          · exact HF.out c h
          · exact hr1.fit c h
        have HR := mkHid hR
        clear hR HA
        go_wp2_with (first
          | (go_at_call 32; refine (refright_any a1 cap1 _ l[k] hr1).mono ?_; rintro e w2 ⟨rfl, hb2⟩; rw [HR.out]; have hown2 := own_below hown hb2; have hbl2 := hbl.then hb2; have c0' := keep c0 hb2; clear c0)
          | (at_builtin; refine wpList_app rfl _ _ 22 rfl w.heap.size 42 3 32 _ Try.underlying22 Try.infoCell rfl (by decide) (by decide) _ _ _ rfl hown2 a1 l[k].length cap1 (flat l[k]) rfl ((hr1.below hb2).src) (by omega) hbl2.size ?_; intro v' w3 hown3 _ hb3))
        rw [← flat_append, List.cons_append] at hown3
        go_round
        case rel => exact ⟨k + 1, by omega, by go_num, ⟨HA'.out, by rw [HT.out, List.length_append, ← Nat.add_assoc]; exact hown3, hbl2.trans hb3, HF'⟩⟩
        case measure => simp [intOf]; omega
    · have hkl : l.take k = l := List.take_of_length_le (by omega)
      rw [hkl] at hown HA HF
      have hML : (madeL nm l).length = 1 + l.flatten.length := by simp [madeL]; omega
      have hfm : ∀ c ∈ madeL nm l, c.fit := fun c hc => by
        rcases List.mem_cons.1 hc with rfl | hc
        · exact hcf
        · exact HF.out c hc
      obtain ⟨a2, cap2, rfl, hrow⟩ := own_row (xs := madeL nm l) (by rw [hML]; exact hown) hfm
      have HA' := mkHid HA
      clear hkl hML HA
      cases hR : rightB (madeL nm l) with
      | true =>
        have HZ : Hid (makeL nm l = madeL nm l) := if_pos (by rw [HA'.out, hR]; rfl)
        have HR := mkHid hR
        clear hR
        go_wp2_with (go_at_call 32; refine (refright_any a2 cap2 _ (madeL nm l) hrow).mono ?_; rintro e w2 ⟨rfl, hb2⟩; rw [HR.out])
        go_ret
        rw [HZ.out]
        exact ⟨a2, cap2, rfl, hrow.below hb2, hbl.then hb2⟩
      | false =>
        have HZ : Hid (makeL nm l = []) := if_neg (by rw [hR]; simp)
        have HR := mkHid hR
        clear hR
        go_wp2_with (go_at_call 32; refine (refright_any a2 cap2 _ (madeL nm l) hrow).mono ?_; rintro e w2 ⟨rfl, hb2⟩; rw [HR.out])
        go_ret
        rw [HZ.out]
        exact ⟨none, 0, rfl, Row.empty _ _ _ (by omega) (fun _ => rfl), hbl.then hb2⟩
end Go.Proofs.Ytlddglajdcednaa
namespace Go.Proofs.Ytlddglajdcednaa
open Go.RowKit

def oneL : List Cel := [⟨3, ⟨#[102]⟩, 3⟩, ⟨1, ⟨#[]⟩, 3⟩, ⟨3, ⟨#[103]⟩, 1⟩, ⟨1, ⟨#[]⟩, 1⟩, ⟨1, ⟨#[]⟩, 3⟩]
def oneT : Tm := .mk ⟨3, ⟨#[102]⟩, 3⟩ [.mk ⟨1, ⟨#[]⟩, 3⟩ [], .mk ⟨3, ⟨#[103]⟩, 1⟩ [.mk ⟨1, ⟨#[]⟩, 1⟩ []], .mk ⟨1, ⟨#[]⟩, 3⟩ []]
theorem one_right : rightB oneL = true := by decide +kernel
theorem one_flat : oneT.flat = oneL := by simp [oneT, Tm.flat, flats, oneL]
theorem one_ok : oneT.ok := by simp [oneT, Tm.ok, oks]; decide +kernel
theorem one_depth : oneT.depth = 3 := by simp [oneT, Tm.depth, depths]
theorem one_parts : partsL oneL = [[⟨1, ⟨#[]⟩, 3⟩], [⟨3, ⟨#[103]⟩, 1⟩, ⟨1, ⟨#[]⟩, 1⟩], [⟨1, ⟨#[]⟩, 3⟩]] := by decide +kernel
theorem one_vars : varsL oneL = [3, 1] := by decide +kernel
theorem one_num : numL oneL = [⟨3, ⟨#[102]⟩, 3⟩, ⟨1, ⟨#[]⟩, 0⟩, ⟨3, ⟨#[103]⟩, 1⟩, ⟨1, ⟨#[]⟩, 1⟩, ⟨1, ⟨#[]⟩, 0⟩] := by decide +kernel
theorem one_shift : shiftL oneL 2 = [⟨3, ⟨#[102]⟩, 3⟩, ⟨1, ⟨#[]⟩, 5⟩, ⟨3, ⟨#[103]⟩, 1⟩, ⟨1, ⟨#[]⟩, 3⟩, ⟨1, ⟨#[]⟩, 5⟩] := by decide +kernel
theorem one_shift997 : shiftL oneL 997 = [] := by decide +kernel
theorem one_cut : rightB [⟨3, ⟨#[102]⟩, 3⟩, ⟨1, ⟨#[]⟩, 3⟩, ⟨3, ⟨#[103]⟩, 1⟩, ⟨1, ⟨#[]⟩, 1⟩] = false := by decide +kernel
theorem nil_right : rightB [] = false := by decide +kernel
theorem one_ground : groundB oneL = false := by decide +kernel
theorem make_a : makeL ⟨#[97]⟩ [] = [⟨3, ⟨#[97]⟩, 0⟩] := by decide +kernel
theorem make_none : makeL ⟨#[]⟩ [] = [] := by decide +kernel
theorem comp_a7 : compP [⟨3, ⟨#[97]⟩, 0⟩] [⟨2, ⟨#[]⟩, 7⟩] = 1 := by decide +kernel
theorem comp_77 : compP [⟨2, ⟨#[]⟩, 7⟩] [⟨2, ⟨#[]⟩, 7⟩] = 0 := by decide +kernel
theorem ground_a : groundB [⟨3, ⟨#[97]⟩, 0⟩] = true := by decide +kernel

end Go.Proofs.Ytlddglajdcednaa
namespace Go.Proofs.Ytlddglajdcednaa
open Go.RowKit

theorem later_of {w0 : World} {x : Later w0} {w' : World} (h : Below x.w'.heap.size x.w' w') : ∃ y : Later w0, w' = y.w' := ⟨⟨w', x.ok.then h⟩, rfl⟩
theorem later_first {w0 w' : World} (h : Below w0.heap.size w0 w') : ∃ y : Later w0, w' = y.w' := ⟨⟨w', h⟩, rfl⟩
theorem nilRow {α : Type} [Rep α] (w : World) : Row w none 0 ([] : List α) := Row.empty _ _ _ (by omega) (fun _ => rfl)

section lit
variable {n : Nat} {xs : List Cel} {a : Option Addr} {cap : Nat} {w : World}
theorem right_lit (hn : n = xs.length) (hr : Row w a cap xs) {b : Bool} (hb : rightB xs = b) :
    Calls Try.prog 34 #[.slice a n cap] w fun e w' => e = .returned (.bool b) ∧ Below w.heap.size w w' := by
  subst hn; subst hb; exact right_any a cap w xs hr
theorem number_lit (hn : n = xs.length) (hr : Row w a cap xs) (hl : xs.length ≤ 1000000) (h0 : 0 < xs.length) {m : Nat} {ps : List Cel} (hp : numL xs = ps) (hm : m = ps.length) :
    Calls Try.prog 55 #[.slice a n cap] w fun e w' => ∃ a' cap', e = .returned (.slice a' m cap') ∧ Row w' a' cap' ps ∧ Below w.heap.size w w' := by
  subst hn; subst hm; subst hp; exact number_any a cap w xs hr hl h0
theorem vars_lit (hn : n = xs.length) (hr : Row w a cap xs) (hl : xs.length ≤ 1000000) {m : Nat} {ps : List Int} (hp : varsL xs = ps) (hm : m = ps.length) :
    Calls Try.prog 40 #[.slice a n cap] w fun e w' => ∃ a' cap', e = .returned (.slice a' m cap') ∧ Row w' a' cap' ps ∧ Below w.heap.size w w' := by
  subst hn; subst hm; subst hp; exact vars_any a cap w xs hr hl
theorem same_lit {m : Nat} {ys : List Cel} {a' : Option Addr} {cap' : Nat} (hn : n = xs.length) (hr : Row w a cap xs) (hm : m = ys.length) (hr' : Row w a' cap' ys) {d : Bool} (hd : decide (xs = ys) = d) :
    Calls Try.prog 54 #[.slice a n cap, .slice a' m cap'] w fun e w' => e = .returned (.bool d) ∧ Below w.heap.size w w' := by
  subst hn; subst hm; subst hd; exact same_any a cap a' cap' w xs ys hr hr'
end lit

end Go.Proofs.Ytlddglajdcednaa
