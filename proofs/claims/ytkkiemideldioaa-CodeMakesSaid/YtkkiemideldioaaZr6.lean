import Derived.Test.YtkkiemideldioaaZr5
import Derived.Deep.LoopGhost
import Derived.OrdersHeld
import Derived.Deep.RegionHeld3
import Derived.Laws.OwnMore
import Derived.Laws.IdiomCopy
set_option linter.unusedVariables false
namespace Go.Proofs.Ytkkiemideldioaa
open Go.RowKit

theorem own_typeG {α : Type} [RepC α] {w : World} {B e : Nat} {v : Value} {acc : List α} (h : AccInv B e acc v w) {b : Nat} (hb : v.ownBlock = some b) : ∃ cs, w.heap[b]? = some (.cells cs e (0, 0)) := by
  obtain ⟨vs, ho, _⟩ := h.ex
  rcases ho.2 with ⟨e1, _⟩ | ⟨g, cap, cur, e1, _, hg, _⟩
  · rw [e1] at hb; cases hb
  · rw [e1] at hb; cases hb; exact ⟨cur, hg⟩
structure BdC (W0 w : World) (R fm bm : Nat) (S : TS) (kv : Nat → Value) (B : BL) (rest : List Ins) (bad : Bool) (built : Int → Option Nat) (nb : Nat) (ls : List LitV) (H1 : Nat → Option NdS) (kv1 : Nat → Value) (vo : Value) (W : World) : Prop where
  tr : Tr W0 w R fm bm S kv W { S with rest := rest, built := built, bad := bad, nb := nb, H := H1 } kv1
  bt : BtOk H1 built B
  row : AccInv w.heap.size 55 ls vo W
  off : offP (Own R fm bm { S with rest := rest, built := built, bad := bad, nb := nb, H := H1 } kv1) vo
  nbl : nb + rest.length ≤ S.nb + S.rest.length
  w0 : W0.heap.size ≤ w.heap.size
theorem BdC.turn {W0 w W W' : World} {R fm bm : Nat} {S : TS} {kv kv1 kv2 : Nat → Value} {B B' : BL} {rest rest' : List Ins} {bad bad' : Bool} {built built' : Int → Option Nat} {nb nb' : Nat} {ls : List LitV} {H1 H2 : Nat → Option NdS} {vo : Value} (h : BdC W0 w R fm bm S kv B rest bad built nb ls H1 kv1 vo W)
    (ht : Tr W0 W R fm bm { S with rest := rest, built := built, bad := bad, nb := nb, H := H1 } kv1 W' { S with rest := rest', built := built', bad := bad', nb := nb', H := H2 } kv2) (hb : BtOk H2 built' B') (hn : nb' + rest'.length ≤ S.nb + S.rest.length) : BdC W0 w R fm bm S kv B' rest' bad' built' nb' ls H2 kv2 vo W' := by
  refine ⟨h.tr.trans ht, hb, ht.fr.acc (fun h => h) h.row h.off, fun b hb e => ?_, hn, h.w0⟩
  rcases ht.new b e with e | e
  · exact h.off b hb e
  · have := (h.row.lt b hb).2
    omega
/-- one literal more stands in the row -/
theorem BdC.push {W0 w W W' : World} {R fm bm : Nat} {S : TS} {kv kv1 : Nat → Value} {B : BL} {rest : List Ins} {bad : Bool} {built : Int → Option Nat} {nb : Nat} {ls : List LitV} {x : LitV} {lits : List (Bool × Tm)} {H1 : Nat → Option NdS} {vo vo' : Value} {T : Nat} {cs : Array Value} (h : BdC W0 w R fm bm S kv B rest bad built nb ls H1 kv1 vo W)
    (ha : AccInv w.heap.size 55 (ls ++ [x]) vo' W') (hg : (W.alloc (.cells cs T)).grownBy W' vo.ownBlock) (hw : vo'.ownBlock = vo.ownBlock ∨ vo'.ownBlock = some (W.heap.size + 1)) (hok : bad = false → LitsOk (Own R fm bm { S with rest := rest, built := built, bad := bad, nb := nb, H := H1 } kv1) W w.heap.size (ls ++ [x]) lits) :
    BdC W0 w R fm bm S kv B rest bad built nb (ls ++ [x]) H1 kv1 vo' W' ∧ (bad = false → LitsOk (Own R fm bm { S with rest := rest, built := built, bad := bad, nb := nb, H := H1 } kv1) W' w.heap.size (ls ++ [x]) lits) := by
  have hb1 := (Below.refl W.heap.size W).new (.cells cs T)
  have hf : Fr vo.ownBlock.toList W W' := ((Fr.of hb1).trans (grown_frN hg)).sub (by simp)
  refine ⟨⟨h.tr.other h.w0 hf (fun b hb => by simp at hb; exact ⟨h.off b hb, (h.row.lt b hb).1⟩), h.bt, ha, fun b hb e => ?_, h.nbl, h.w0⟩, fun hbad => (hok hbad).fr hf fun l hl b hb e => ?_⟩
  · rcases hw with e2 | e2
    · exact h.off b (e2 ▸ hb) e
    · rw [hb] at e2; injection e2 with e2
      have := (h.tr.tw.ownB b e).2
      omega
  · simp at e
    obtain ⟨cs1, h1⟩ := own_typeG h.row e
    obtain ⟨t, ht⟩ := (hok hbad).of hl
    obtain ⟨cs2, h2⟩ := own_typeG ht hb
    rw [h1] at h2
    simp at h2
/-- what a body is told of -/
def BdPost (W0 w : World) (R fm bm : Nat) (S : TS) (kv : Nat → Value) (e : Ending) (W' : World) : Prop :=
  ∃ (a : Option Addr) (n c : Nat) (ls : List LitV) (lits : List (Bool × Tm)) (rest : List Ins) (bad : Bool) (built : Int → Option Nat) (nb : Nat) (H1 : Nat → Option NdS) (kv1 : Nat → Value), e = .returned (.slice a n c) ∧ Tr W0 w R fm bm S kv W' { S with rest := rest, built := built, bad := bad, nb := nb, H := H1 } kv1 ∧ AccInv w.heap.size 55 ls (.slice a n c) W' ∧ offP (Own R fm bm { S with rest := rest, built := built, bad := bad, nb := nb, H := H1 } kv1) (.slice a n c) ∧
    (bad = false → LitsOk (Own R fm bm { S with rest := rest, built := built, bad := bad, nb := nb, H := H1 } kv1) W' w.heap.size ls lits) ∧ sumT lits ≤ S.rest.length + 1 ∧ ∀ bs0, BodyR S.rest (fun _ => none) bs0 → bad = false ∧ bs0 = lits
theorem MapP_upd (built : Int → Option Nat) (x : Int) (p : Nat) : ∀ i, (if i = x then some (Value.pointer (some ⟨p, 0, none⟩)) else MapP built i) = MapP (updP built x p) i := fun i => by
  unfold MapP updP
  split <;> rfl
set_option maxRecDepth 100000 in
set_option maxHeartbeats 12800000 in
theorem body_any (W0 w : World) (R fm bm : Nat) (S : TS) (kv : Nat → Value) (hT : TW W0 w R fm bm S kv) (hbad : S.bad = false) (hbt : ∀ i, S.built i = none) (hnb : S.nb ≤ 100000) :
    Calls Try.prog 125 #[.pointer (some ⟨R, 0, none⟩)] w (BdPost W0 w R fm bm S kv) := by
  have hSL : S.rest.length ≤ 100000 := by obtain ⟨n, hn, _⟩ := hT.bt; exact hn.2
  have HSL : Hid (S.rest.length ≤ 100000 ∧ S.nb ≤ 100000) := ⟨hSL, hnb⟩
  have hC0 : BdC W0 w R fm bm S kv [] S.rest S.bad S.built S.nb [] S.H kv (.slice none 0 0) w := ⟨Tr.refl hT, fun i => .inl ⟨hbt i, rfl⟩, AccInv.nil _ _ _, fun b hb => (by cases hb), Nat.le_refl _, hT.B0⟩
  have hP0 := BP.start S hbad
  rw [hbad] at hC0 hP0
  have HC0 := mkHid hC0
  have HP0 := mkHid hP0
  clear hT hbad hbt hnb hSL hC0 hP0
  go_enter Try.func125, Try.ntmps125
  go_wp2_with fail
  go_loopg [3] (1 + S.rest.length) (fun kk vo wr => ∃ (B : BL) (lits : List (Bool × Tm)) (rest : List Ins) (bad : Bool) (built : Int → Option Nat) (nb : Nat) (ls : List LitV) (H1 : Nat → Option NdS) (kv1 : Nat → Value), Hid (BdC W0 w R fm bm S kv B rest bad built nb ls H1 kv1 vo wr) ∧ Hid (BP S B lits rest bad) ∧ Hid (bad = false → LitsOk (Own R fm bm { S with rest := rest, built := built, bad := bad, nb := nb, H := H1 } kv1) wr w.heap.size ls lits) ∧ Hid (ls.length + rest.length ≤ S.rest.length) ∧ Hid (bad = false → kk = 1 + rest.length))
  case atStart => exact ⟨[], [], S.rest, false, S.built, S.nb, [], S.H, kv, HC0, HP0, fun _ => LitsOk.nil _ _ _, by simp [Hid], fun _ => rfl⟩
  case round =>
    clear HC0 HP0
    obtain ⟨B, lits, rest, bad, built, nb, ls, H1, kv1, HC, HP, HO, HL, HK⟩ := hrel
    obtain ⟨oa, on, oc, rfl⟩ := slice_ofN HC.out.row
    obtain ⟨ra, rc, r0, _, _, r3, _, _⟩ := HC.out.tr.tw.cR
    dsimp only at r0 r3
    have EXIT : Hid (bad = true ∨ rest = [] → BdPost W0 w R fm bm S kv (.returned (.slice oa on oc)) wr) := fun he => by
      have h1 := HP.out.len
      refine ⟨oa, on, oc, ls, lits, rest, bad, built, nb, H1, kv1, rfl, HC.out.tr, HC.out.row, HC.out.off, HO.out, ?_, HP.out.ends he⟩
      split at h1 <;> omega
    cases rest with
    | nil =>
      have HPX := mkHid (EXIT.out (.inr rfl))
      clear EXIT
      go_wp2_with fail
      go_ret
      exact HPX.out
    | cons i l =>
      rw [List.length_cons] at r0
      cases bad with
      | true =>
        have HPX := mkHid (EXIT.out (.inl rfl))
        clear EXIT
        go_wp2_with fail
        go_ret
        exact HPX.out
      | false =>
        clear EXIT
        have HKK := mkHid (HK.out rfl)
        have HOK := mkHid (HO.out rfl)
        clear HK HO
        go_wp2_with fail
        have hift := nextI_fit HC.out.tr.tw
        have HIF : Hid (i.fit) := hift
        clear hift
        refine (next_any W0 _ R fm bm _ _ HC.out.tr.tw).mono ?_
        rintro e w4 ⟨rfl, kv4, hT4, hF4, hN4⟩
        have hT4' : Tr W0 wr R fm bm { S with rest := i :: l, built := built, bad := false, nb := nb, H := H1 } kv1 w4 { S with rest := l, built := built, bad := false, nb := nb, H := H1 } kv4 := ⟨hT4, hF4, hN4⟩
        have HT4 := mkHid hT4'
        clear hT4 hF4 hN4 hT4' r0 r3
        have en : nextI (i :: l) = i := rfl
        dsimp only
        rw [en]
        clear en
        have hb9 := (Below.refl w4.heap.size w4).new (.cells #[.int .i64 i.op, .int .i64 i.x, .int .i64 i.a, .string i.s, .int .i64 i.n, .bool i.neg] 48)
        have HT5 := mkHid (HT4.out.below hb9)
        have HNB : Hid (nb + (l.length + 1) ≤ S.nb + S.rest.length) := HC.out.nbl
        have HLL : Hid (ls.length + (l.length + 1) ≤ S.rest.length) := HL.out
        have HBO : Hid (¬ Own R fm bm { S with rest := l, built := built, bad := false, nb := nb, H := H1 } kv4 w4.heap.size) := fun e => by have := (HT4.out.tw.ownB _ e).2; omega
        obtain ⟨o1, o2, x1', x2', a1, a2, hsz, hn1, hn2⟩ := HIF.out
        clear hb9
        dsimp only [Ins.v]
        by_cases h8 : i.op = 8
        · have t8 : (i.op == 8) = true := by simp [h8]
          have HP8 := mkHid (HP.out.put h8)
          clear h8
          go_wp2_with fail
          have hbd : Below (w4.alloc (.cells #[.int .i64 i.op, .int .i64 i.x, .int .i64 i.a, .string i.s, .int .i64 i.n, .bool i.neg] 48)).heap.size (w4.alloc (.cells #[.int .i64 i.op, .int .i64 i.x, .int .i64 i.a, .string i.s, .int .i64 i.n, .bool i.neg] 48)) (w4.alloc (.cells #[.int .i64 i.op, .int .i64 i.x, .int .i64 i.a, .string i.s, .int .i64 i.n, .bool i.neg] 48)).drew := (Below.refl _ _).drew
          have HT6 := mkHid (HT5.out.below hbd)
          have hbox : (w4.alloc (.cells #[.int .i64 i.op, .int .i64 i.x, .int .i64 i.a, .string i.s, .int .i64 i.n, .bool i.neg] 48)).drew.heap[w4.heap.size]? = some (.cells #[.int .i64 i.op, .int .i64 i.x, .int .i64 i.a, .string i.s, .int .i64 i.n, .bool i.neg] 48 (0, 0)) := (hbd.block _ (by simp)).trans (heap_alloc_new _ _)
          obtain ⟨v0, hx0⟩ : ∃ X, (w4.alloc (.cells #[.int .i64 i.op, .int .i64 i.x, .int .i64 i.a, .string i.s, .int .i64 i.n, .bool i.neg] 48)).drew = X := ⟨_, rfl⟩
          rw [hx0] at HT6 hbox
          have HX0 := mkHid hx0
          clear hx0 hbd
          have r2 : v0.cell? ⟨R, 2, none⟩ = some (.map (some bm)) := by obtain ⟨_, _, _, _, r2, _⟩ := HT6.out.tw.cR; exact r2
          have b0 : v0.cell? ⟨w4.heap.size, 0, none⟩ = some (.int .i64 i.op) := by rw [cell_of_row v0 _ 0 _ _ _ hbox]; rfl
          have b1 : v0.cell? ⟨w4.heap.size, 1, none⟩ = some (.int .i64 i.x) := by rw [cell_of_row v0 _ 1 _ _ _ hbox]; rfl
          have b2 : v0.cell? ⟨w4.heap.size, 2, none⟩ = some (.int .i64 i.a) := by rw [cell_of_row v0 _ 2 _ _ _ hbox]; rfl
          have b3 : v0.cell? ⟨w4.heap.size, 3, none⟩ = some (.string i.s) := by rw [cell_of_row v0 _ 3 _ _ _ hbox]; rfl
          have b4 : v0.cell? ⟨w4.heap.size, 4, none⟩ = some (.int .i64 i.n) := by rw [cell_of_row v0 _ 4 _ _ _ hbox]; rfl
          have b5 : v0.cell? ⟨w4.heap.size, 5, none⟩ = some (.bool i.neg) := by rw [cell_of_row v0 _ 5 _ _ _ hbox]; rfl
          refine wp_region_noPanic ?_
          refine wp_region_held_drew (S := fun X => X.cell? ⟨R, 2, none⟩ = some (.map (some bm)) ∧ X.cell? ⟨w4.heap.size, 0, none⟩ = some (.int .i64 i.op) ∧ X.cell? ⟨w4.heap.size, 1, none⟩ = some (.int .i64 i.x) ∧ X.cell? ⟨w4.heap.size, 2, none⟩ = some (.int .i64 i.a) ∧ X.cell? ⟨w4.heap.size, 3, none⟩ = some (.string i.s) ∧ X.cell? ⟨w4.heap.size, 4, none⟩ = some (.int .i64 i.n) ∧ X.cell? ⟨w4.heap.size, 5, none⟩ = some (.bool i.neg)) (by kernel_rfl) (by rw [HX0.out]; exact ⟨r2, b0, b1, b2, b3, b4, b5⟩) (fun hSd => ?_)
          rw [HX0.out] at hSd ⊢
          clear r2 b0 b1 b2 b3 b4 b5
          refine wpAnyH_take (i := 0) (oi := _) (v := ?_) rfl (by kernel_rfl) (by kernel_rfl) (by kernel_rfl) (fun _ _ _ h => h) (Or.inl ⟨by rfl, ?_⟩) (by assumption) ?_
          rotate_left
          · (intro w' hSw; obtain ⟨z0, z1, z2, z3, z4, z5, z6⟩ := hSw; go_simp; try with_reducible rfl)
          (try simp only [List.getElem_toArray, List.getElem_cons_succ, List.getElem_cons_zero, Act.put, List.setIfInBounds_toArray, List.set_cons_zero, List.set_cons_succ])
          refine wpAnyH_take (i := 1) (oi := _) (v := ?_) rfl (by kernel_rfl) (by kernel_rfl) (by kernel_rfl) (fun _ _ _ h => h) (Or.inl ⟨by rfl, ?_⟩) (by assumption) ?_
          rotate_left
          · (intro w' hSw; obtain ⟨z0, z1, z2, z3, z4, z5, z6⟩ := hSw; go_simp; try with_reducible rfl)
          (try simp only [List.getElem_toArray, List.getElem_cons_succ, List.getElem_cons_zero, Act.put, List.setIfInBounds_toArray, List.set_cons_zero, List.set_cons_succ])
          refine wpAnyH_take (i := 2) (oi := _) (v := ?_) rfl (by kernel_rfl) (by kernel_rfl) (by kernel_rfl) (fun _ _ _ h => h) (Or.inl ⟨by rfl, ?_⟩) (by assumption) ?_
          rotate_left
          · (intro w' hSw; obtain ⟨z0, z1, z2, z3, z4, z5, z6⟩ := hSw; go_simp; try with_reducible rfl)
          (try simp only [List.getElem_toArray, List.getElem_cons_succ, List.getElem_cons_zero, Act.put, List.setIfInBounds_toArray, List.set_cons_zero, List.set_cons_succ])
          refine wpAnyH_take (i := 3) (oi := _) (v := ?_) rfl (by kernel_rfl) (by kernel_rfl) (by kernel_rfl) (fun _ _ _ h => h) (Or.inl ⟨by rfl, ?_⟩) (by assumption) ?_
          rotate_left
          · (intro w' hSw; obtain ⟨z0, z1, z2, z3, z4, z5, z6⟩ := hSw; go_simp; try with_reducible rfl)
          (try simp only [List.getElem_toArray, List.getElem_cons_succ, List.getElem_cons_zero, Act.put, List.setIfInBounds_toArray, List.set_cons_zero, List.set_cons_succ])
          refine wpAnyH_take (i := 4) (oi := _) (v := ?_) rfl (by kernel_rfl) (by kernel_rfl) (by kernel_rfl) (fun _ _ _ h => h) (Or.inl ⟨by rfl, ?_⟩) (by assumption) ?_
          rotate_left
          · (intro w' hSw; obtain ⟨z0, z1, z2, z3, z4, z5, z6⟩ := hSw; go_simp; try with_reducible rfl)
          (try simp only [List.getElem_toArray, List.getElem_cons_succ, List.getElem_cons_zero, Act.put, List.setIfInBounds_toArray, List.set_cons_zero, List.set_cons_succ])
          refine wpAnyH_take (i := 5) (oi := _) (v := ?_) rfl (by kernel_rfl) (by kernel_rfl) (by kernel_rfl) (fun _ _ _ h => h) (Or.inl ⟨by rfl, ?_⟩) (by assumption) ?_
          rotate_left
          · (intro w' hSw; obtain ⟨z0, z1, z2, z3, z4, z5, z6⟩ := hSw; go_simp; try with_reducible rfl)
          (try simp only [List.getElem_toArray, List.getElem_cons_succ, List.getElem_cons_zero, Act.put, List.setIfInBounds_toArray, List.set_cons_zero, List.set_cons_succ])
          refine wpAnyH_take (i := 6) (oi := _) (v := ?_) rfl (by kernel_rfl) (by kernel_rfl) (by kernel_rfl) (fun _ _ _ h => h) (Or.inl ⟨by rfl, ?_⟩) (by assumption) ?_
          rotate_left
          · (intro w' hSw; obtain ⟨z0, z1, z2, z3, z4, z5, z6⟩ := hSw; go_simp; try with_reducible rfl)
          (try simp only [List.getElem_toArray, List.getElem_cons_succ, List.getElem_cons_zero, Act.put, List.setIfInBounds_toArray, List.set_cons_zero, List.set_cons_succ])
          refine wpAnyH_take (i := 7) (oi := _) (v := ?_) rfl (by kernel_rfl) (by kernel_rfl) (by kernel_rfl) (fun _ _ _ h => h) (Or.inl ⟨by rfl, ?_⟩) (by assumption) ?_
          rotate_left
          · (intro w' hSw; obtain ⟨z0, z1, z2, z3, z4, z5, z6⟩ := hSw; go_simp; try with_reducible rfl)
          (try simp only [List.getElem_toArray, List.getElem_cons_succ, List.getElem_cons_zero, Act.put, List.setIfInBounds_toArray, List.set_cons_zero, List.set_cons_succ])
          refine wpAnyH_ready (rs := [8]) (by kernel_rfl) (by simp) ?_
          refine AllReadyH.cons (o := _) rfl (fun K hK => ?_) AllReadyH.nil
          go_simp
          refine (structure_any W0 v0 R fm bm _ _ HT6.out.tw i HIF.out rfl B HC.out.bt).mono ?_
          rintro e w7 ⟨p, built7, H7, kv7, rfl, hT7, hp7, hk7, ht7, hb7⟩
          dsimp only at hT7 hb7
          have hbox7 := (hT7.fr.block w4.heap.size (by have := (Array.getElem?_eq_some_iff.1 hbox).1; exact this) (fun e => HBO.out e)).trans hbox
          obtain ⟨_, _, _, _, r2, _⟩ := hT7.tw.cR
          have b0 : w7.cell? ⟨w4.heap.size, 0, none⟩ = some (.int .i64 i.op) := by rw [cell_of_row w7 _ 0 _ _ _ hbox7]; rfl
          have b1 : w7.cell? ⟨w4.heap.size, 1, none⟩ = some (.int .i64 i.x) := by rw [cell_of_row w7 _ 1 _ _ _ hbox7]; rfl
          have b2 : w7.cell? ⟨w4.heap.size, 2, none⟩ = some (.int .i64 i.a) := by rw [cell_of_row w7 _ 2 _ _ _ hbox7]; rfl
          have b3 : w7.cell? ⟨w4.heap.size, 3, none⟩ = some (.string i.s) := by rw [cell_of_row w7 _ 3 _ _ _ hbox7]; rfl
          have b4 : w7.cell? ⟨w4.heap.size, 4, none⟩ = some (.int .i64 i.n) := by rw [cell_of_row w7 _ 4 _ _ _ hbox7]; rfl
          have b5 : w7.cell? ⟨w4.heap.size, 5, none⟩ = some (.bool i.neg) := by rw [cell_of_row w7 _ 5 _ _ _ hbox7]; rfl
          obtain ⟨n7, hn7, hm7⟩ := hT7.tw.bt
          dsimp only at hn7 hm7
          have hnn := HNB.out
          have hss := HSL.out
          obtain ⟨w8, hrun, hm8, hg8⟩ := hm7.run_updN (t := 175) (e := 196) Try.underlying3 Try.underlying175 (by omega) i.a (wf64 a1 a2) (.pointer (some ⟨p, 0, none⟩))
          have hT8 := Tr.of (hT7.tw.blkB (grown_frN hg8) (built := updP built7 i.a p) (nb := nb + 1) ⟨by omega, hn7.2⟩ (hm8.congr (MapP_upd built7 i.a p)))
          have HT9 := mkHid ((HT6.out.trans hT7).trans hT8)
          obtain ⟨_, _, _, _, r8, _⟩ := hT8.tw.cR
          have hbox8 := (hg8.block w4.heap.size (Array.getElem?_eq_some_iff.1 hbox7).1 (fun e => HBO.out (.inr (.inr (.inl (by injection e)))))).trans hbox7
          have d0 : w8.cell? ⟨w4.heap.size, 0, none⟩ = some (.int .i64 i.op) := by rw [cell_of_row w8 _ 0 _ _ _ hbox8]; rfl
          have d1 : w8.cell? ⟨w4.heap.size, 1, none⟩ = some (.int .i64 i.x) := by rw [cell_of_row w8 _ 1 _ _ _ hbox8]; rfl
          have d2 : w8.cell? ⟨w4.heap.size, 2, none⟩ = some (.int .i64 i.a) := by rw [cell_of_row w8 _ 2 _ _ _ hbox8]; rfl
          have d3 : w8.cell? ⟨w4.heap.size, 3, none⟩ = some (.string i.s) := by rw [cell_of_row w8 _ 3 _ _ _ hbox8]; rfl
          have d4 : w8.cell? ⟨w4.heap.size, 4, none⟩ = some (.int .i64 i.n) := by rw [cell_of_row w8 _ 4 _ _ _ hbox8]; rfl
          have d5 : w8.cell? ⟨w4.heap.size, 5, none⟩ = some (.bool i.neg) := by rw [cell_of_row w8 _ 5 _ _ _ hbox8]; rfl
          have HS8 : Hid (w8.cell? ⟨R, 2, none⟩ = some (.map (some bm)) ∧ w8.cell? ⟨w4.heap.size, 0, none⟩ = some (.int .i64 i.op) ∧ w8.cell? ⟨w4.heap.size, 1, none⟩ = some (.int .i64 i.x) ∧ w8.cell? ⟨w4.heap.size, 2, none⟩ = some (.int .i64 i.a) ∧ w8.cell? ⟨w4.heap.size, 3, none⟩ = some (.string i.s) ∧ w8.cell? ⟨w4.heap.size, 4, none⟩ = some (.int .i64 i.n) ∧ w8.cell? ⟨w4.heap.size, 5, none⟩ = some (.bool i.neg)) := ⟨r8, d0, d1, d2, d3, d4, d5⟩
          clear r8 hbox8 d0 d1 d2 d3 d4 d5
          have HC9 := mkHid (HC.out.turn (rest' := (setsM i.n.toNat B l).2.2.1) (nb' := nb + 1) HT9.out (hb7.put i.a ht7) (by have := (setsM_len i.n.toNat B l).2; omega))
          have HSM := mkHid (setsM_len i.n.toNat B l).2
          clear hT7 hp7 hk7 ht7 hb7 hbox7 hm7 hn7 hm8 hg8 hT8 hnn hss
          try dsimp only
          refine hK.out _ _ ⟨r2, b0, b1, b2, b3, b4, b5⟩ (fun _ => ?_)
          clear hK K r2 b0 b1 b2 b3 b4 b5
          (try simp only [List.getElem_toArray, List.getElem_cons_succ, List.getElem_cons_zero, Act.put, List.setIfInBounds_toArray, List.set_cons_zero, List.set_cons_succ])
          refine wpAnyH_ready (rs := [9]) (by kernel_rfl) (by simp) ?_
          refine AllReadyH.cons (o := _) rfl (fun K hK => ?_) AllReadyH.nil
          (rw [if_pos (by rfl)]; simp [Oper.wp, execOp, resolve, invoke, Oper.upon, Act.eval, hrun, Result.andThen, Sem.run_bind])
          try dsimp only
          refine hK.out _ _ HS8.out (fun _ => ?_)
          clear hK K
          (try simp only [List.getElem_toArray, List.getElem_cons_succ, List.getElem_cons_zero, Act.put, List.setIfInBounds_toArray, List.set_cons_zero, List.set_cons_succ])
          refine wpAnyH_done (by kernel_rfl) (NoPanic.normal ?_) _
          clear hrun HS8
          go_wp2_with fail
          go_roundg (1 + (setsM i.n.toNat B l).2.2.1.length)
          case rel => exact ⟨_, _, _, _, _, _, _, _, _, HC9, HP8, fun h => (by have h2 := HOK.out.turn HT9.out.fr HT9.out.new; rw [h] at h2; rw [h]; exact h2), by have h1 := HLL.out; have h2 := HSM.out; rw [Hid]; omega, fun _ => rfl⟩
          case measure => have := HKK.out; have h2 := HSM.out; rw [List.length_cons] at this; omega
        · by_cases h12 : i.op = 12
          · have t8 : (i.op == 8) = false := by simp [h8]
            have t12 : (i.op == 12) = true := by simp [h12]
            have hw5 : w.heap.size ≤ wr.heap.size := HC.out.tr.fr.size
            have hw4 : wr.heap.size ≤ w4.heap.size := HT4.out.fr.size
            have hll : ls.length + 1 ≤ 100000 := by have h1 := HLL.out; have h2 := HSL.out; omega
            rcases HC.out.bt i.a with ⟨hb0, hg0⟩ | ⟨p, t, hb1, hg1, ht1⟩
            · have HP7 := mkHid (HP.out.lost (B' := dropB B i.a) (dropB_le _ _) h8 (fun _ => hg0))
              have HB0 := mkHid hb0
              clear h8 h12 hb0 hg0
              go_wp2_with fail
              refine (tlit_any W0 _ R fm bm _ _ HT5.out.tw i HIF.out (.mk zeroC []) (fun p hp => by have h : built i.a = some p := hp; rw [HB0.out] at h; cases h) (by rw [leaf_len]; omega)).mono ?_
              rintro e w6 hLP
              obtain ⟨rfl, hT6⟩ : e = .returned (.agg #[.bool false, .slice none 0 0]) ∧ Tr W0 (w4.alloc (.cells #[.int .i64 i.op, .int .i64 i.x, .int .i64 i.a, .string i.s, .int .i64 i.n, .bool i.neg] 48)) R fm bm { S with rest := l, built := built, bad := false, nb := nb, H := H1 } kv4 w6 { S with rest := l, built := delP built i.a, bad := true, nb := nb, H := H1 } kv4 := by
                rcases hLP with ⟨_, e1, e2⟩ | ⟨_, _, _, e1, _⟩
                · exact ⟨e1, e2⟩
                · have h9 : (built i.a).isSome = true := e1
                  rw [HB0.out] at h9; cases h9
              have HT7 := mkHid (HT5.out.trans hT6)
              have HC7 := mkHid (HC.out.turn (rest' := l) (nb' := nb) HT7.out (HC.out.bt.drop i.a) (by have := HNB.out; omega))
              have HB7 : Hid (w.heap.size ≤ w6.heap.size) := HC7.out.tr.fr.size
              clear hLP hT6
              go_wp2_with (at_builtin; go_loud (refine wpList_accN (α := LitV) rfl _ _ 23 rfl w.heap.size 55 32 _ Try.underlying23 Try.infoLitN rfl (by decide) _ ls HC7.out.row (by rfl) _ #[.bool false, .slice none 0 0] ⟨false, .slice none 0 0⟩ ⟨rfl, rfl⟩ (by rfl) (by omega) HB7.out ?_; intro v' w8 ha8 hg8 hw8; obtain ⟨h9, h10⟩ := HC7.out.push (lits := lits) ha8 hg8 hw8 (fun h => by cases h); have HC9 := mkHid h9; clear ha8 hg8 hw8 h9 h10))
              go_roundg 0
              case rel => exact ⟨_, _, _, _, _, _, _, _, _, HC9, HP7, fun h => (by cases h), by have := HLL.out; rw [Hid, List.length_append, List.length_singleton]; omega, fun h => (by cases h)⟩
              case measure => have := HKK.out; omega
            · have HP7 := mkHid (HP.out.call h12 hg1)
              have HFL : Hid (t.flat.length ≤ 900000000) := by
                have h1 := dropB_get hg1
                have h2 := HP.out.len
                have h3 := HSL.out
                simp only [Bool.false_eq_true, if_false] at h2
                rw [Hid]; omega
              have HB0 := mkHid hb1
              have HTT := mkHid ht1
              clear h8 h12 hb1 hg1 ht1
              go_wp2_with fail
              refine (tlit_any W0 _ R fm bm _ _ HT5.out.tw i HIF.out t (fun p' hp' => by have h : built i.a = some p' := hp'; rw [HB0.out] at h; cases h; exact HTT.out) HFL.out).mono ?_
              rintro e w6 hLP
              obtain ⟨a5, n5, c5, rfl, hT6, hA6⟩ : ∃ a5 n5 c5, e = .returned (.agg #[.bool i.neg, .slice a5 n5 c5]) ∧ Tr W0 (w4.alloc (.cells #[.int .i64 i.op, .int .i64 i.x, .int .i64 i.a, .string i.s, .int .i64 i.n, .bool i.neg] 48)) R fm bm { S with rest := l, built := built, bad := false, nb := nb, H := H1 } kv4 w6 { S with rest := l, built := delP built i.a, bad := false, nb := nb, H := H1 } kv4 ∧ AccInv (w4.alloc (.cells #[.int .i64 i.op, .int .i64 i.x, .int .i64 i.a, .string i.s, .int .i64 i.n, .bool i.neg] 48)).heap.size 45 t.flat (.slice a5 n5 c5) w6 := by
                rcases hLP with ⟨e1, _⟩ | ⟨a5, n5, c5, _, e1, e2, e3⟩
                · have h9 : built i.a = none := e1
                  rw [HB0.out] at h9; cases h9
                · exact ⟨a5, n5, c5, e1, e2, e3⟩
              have HT7 := mkHid (HT5.out.trans hT6)
              have HC7 := mkHid (HC.out.turn (rest' := l) (nb' := nb) HT7.out (HC.out.bt.drop i.a) (by have := HNB.out; omega))
              have HB7 : Hid (w.heap.size ≤ w6.heap.size) := HC7.out.tr.fr.size
              have hok7 := HOK.out.turn HT7.out.fr HT7.out.new
              have hok8 := hok7.snoc (l := ⟨i.neg, .slice a5 n5 c5⟩) (x := (i.neg, t)) rfl hA6 (by simp; omega) (fun b hb e => by
                have h1 := (hA6.lt b hb).1
                have h2 := (HT4.out.tw.ownB b (show Own R fm bm { S with rest := l, built := built, bad := false, nb := nb, H := H1 } kv4 b from e)).2
                simp at h1
                omega) (fun y hy b hb => by
                obtain ⟨x, hx⟩ := HOK.out.of hy
                have := (hx.lt b hb).2
                simp; omega)
              have HOK8 := mkHid hok8
              clear hLP hT6 hA6 hok7 hok8
              go_wp2_with (at_builtin; go_loud (refine wpList_accN (α := LitV) rfl _ _ 23 rfl w.heap.size 55 32 _ Try.underlying23 Try.infoLitN rfl (by decide) _ ls HC7.out.row (by rfl) _ #[.bool i.neg, .slice a5 n5 c5] ⟨i.neg, .slice a5 n5 c5⟩ ⟨rfl, rfl⟩ (by rfl) (by omega) HB7.out ?_; intro v' w8 ha8 hg8 hw8; obtain ⟨h9, h10⟩ := HC7.out.push (lits := lits ++ [(i.neg, t)]) ha8 hg8 hw8 (fun _ => HOK8.out); have HC9 := mkHid h9; have HO9 := mkHid (h10 rfl); clear ha8 hg8 hw8 h9 h10))
              go_roundg (1 + l.length)
              case rel => exact ⟨_, _, _, _, _, _, _, _, _, HC9, HP7, fun _ => HO9.out, by have := HLL.out; rw [Hid, List.length_append, List.length_singleton]; omega, fun _ => rfl⟩
              case measure => have := HKK.out; rw [List.length_cons] at this; omega
          · have t8 : (i.op == 8) = false := by simp [h8]
            have t12 : (i.op == 12) = false := by simp [h12]
            obtain ⟨_, _, _, _, _, t3, tf, _⟩ := HT5.out.tw.cR
            have tf3 := tf 3
            have HT7 := mkHid (HT5.out.trans (Tr.of HT5.out.tw.setBad))
            have HP7 := mkHid (HP.out.lost (B' := B) (Nat.le_refl _) h8 (fun e => absurd e h12))
            have HC7 := mkHid (HC.out.turn (rest' := l) (nb' := nb) HT7.out HC.out.bt (by have := HNB.out; omega))
            clear h8 h12 tf HT7
            go_wp2_with fail
            go_roundg 0
            case rel => exact ⟨_, _, _, _, _, _, _, _, _, HC7, HP7, fun h => (by cases h), by have := HLL.out; rw [Hid]; omega, fun h => (by cases h)⟩
            case measure => have := HKK.out; omega

end Go.Proofs.Ytkkiemideldioaa
namespace Go.Proofs.Ytkkiemideldioaa
open Go.RowKit

section
variable {α : Type} [RepC α]
theorem CRows.get {w : World} {vs : List Value} {xs : List α} (h : CRows w vs xs) : ∀ {j : Nat} (hj : j < xs.length), ∃ cs, RepC.C w cs xs[j] ∧ ∀ q u, cs[q]? = some u → vs[j * Rep.sz α + q]? = some u := by
  induction h with
  | nil => intro j hj; simp at hj
  | @cons cs x vs xs hc _ ih =>
    intro j hj
    cases j with
    | zero =>
      refine ⟨cs, hc, fun q u hq => ?_⟩
      rw [Nat.zero_mul, Nat.zero_add, List.getElem?_append_left (List.getElem?_eq_some_iff.1 hq).1]; exact hq
    | succ j =>
      obtain ⟨cs', hc', hat⟩ := ih (j := j) (by simpa using hj)
      refine ⟨cs', by simpa using hc', fun q u hq => ?_⟩
      rw [List.getElem?_append_right (by rw [RepC.len hc, Nat.succ_mul]; omega), RepC.len hc, show (j + 1) * Rep.sz α + q - Rep.sz α = j * Rep.sz α + q by rw [Nat.succ_mul]; omega]
      exact hat q u hq
/-- one element is another one -/
theorem CRows.set {w : World} {vs : List Value} {xs : List α} (h : CRows w vs xs) : ∀ {i : Nat} (_ : i < xs.length) {cs : List Value} {y : α}, RepC.C w cs y → ∀ {us : List Value}, us.length = vs.length → (∀ q, q < Rep.sz α → us[i * Rep.sz α + q]? = cs[q]?) → (∀ q, q < i * Rep.sz α ∨ (i + 1) * Rep.sz α ≤ q → us[q]? = vs[q]?) → CRows w us (xs.set i y) := by
  induction h with
  | nil => intro i hi; simp at hi
  | @cons cs0 x vs xs hc hr ih =>
    intro i hi cs y hy us hl hat hout
    have hlc := RepC.len hc
    have hly := RepC.len hy
    have hsplit : us = us.take (Rep.sz α) ++ us.drop (Rep.sz α) := (List.take_append_drop _ _).symm
    have hul : us.length = Rep.sz α + vs.length := by rw [hl, List.length_append, hlc]
    cases i with
    | zero =>
      rw [List.set_cons_zero, hsplit]
      have h1 : us.take (Rep.sz α) = cs := by
        refine List.ext_getElem? fun q => ?_
        by_cases hq : q < Rep.sz α
        · rw [List.getElem?_take_of_lt hq]; have := hat q hq; rwa [Nat.zero_mul, Nat.zero_add] at this
        · rw [List.getElem?_eq_none (by simp; omega), List.getElem?_eq_none (by omega)]
      have h2 : us.drop (Rep.sz α) = vs := by
        refine List.ext_getElem? fun q => ?_
        rw [List.getElem?_drop, hout (Rep.sz α + q) (.inr (by omega)), List.getElem?_append_right (by omega), hlc, Nat.add_sub_cancel_left]
      rw [h1, h2]
      exact .cons hy hr
    | succ i =>
      rw [List.set_cons_succ, hsplit]
      have h1 : us.take (Rep.sz α) = cs0 := by
        refine List.ext_getElem? fun q => ?_
        by_cases hq : q < Rep.sz α
        · rw [List.getElem?_take_of_lt hq, hout q (.inl (by rw [Nat.succ_mul]; omega)), List.getElem?_append_left (by omega)]
        · rw [List.getElem?_eq_none (by simp; omega), List.getElem?_eq_none (by omega)]
      rw [h1]
      refine .cons hc (ih (i := i) (by simpa using hi) hy (by rw [List.length_drop, hul]; omega) (fun q hq => ?_) (fun q hq => ?_))
      · rw [List.getElem?_drop, show Rep.sz α + (i * Rep.sz α + q) = (i + 1) * Rep.sz α + q by rw [Nat.succ_mul]; omega]; exact hat q hq
      · rw [List.getElem?_drop, hout (Rep.sz α + q) (by rcases hq with h | h; exact .inl (by rw [Nat.succ_mul]; omega); exact .inr (by rw [Nat.succ_mul] at h ⊢; rw [Nat.succ_mul]; omega)), List.getElem?_append_right (by omega), hlc, Nat.add_sub_cancel_left]
variable {B e : Nat} {acc : List α} {w w' : World} {g n cap : Nat}
theorem AccInv.take (h : AccInv B e acc (.slice (some ⟨g, 0, none⟩) n cap) w) {k : Nat} (hk : k ≤ acc.length) : AccInv B e (acc.take k) (.slice (some ⟨g, 0, none⟩) k cap) w := by
  obtain ⟨vs, ⟨h1, h2⟩, hc⟩ := h.ex
  refine ⟨vs.take (k * Rep.sz α), ⟨?_, ?_⟩, hc.takeL k⟩
  · rw [List.length_take, List.length_take, h1, Nat.min_eq_left hk, Nat.min_eq_left (Nat.mul_le_mul_right _ hk)]
  · rcases h2 with ⟨h, _⟩ | ⟨g', cap', cur, e1, hb, hg, hn, hm, hs, ht⟩
    · cases h
    · injection e1 with e1 e2 e3
      injection e1 with e1
      injection e1 with e1
      subst e1; subst e3
      refine .inr ⟨g, cap, cur, by rw [List.length_take, Nat.min_eq_left hk], hb, hg, by rw [List.length_take]; omega, hm, hs, ?_⟩
      rw [← ht, List.take_take, List.length_take, Nat.min_eq_left hk, Nat.min_eq_left (Nat.mul_le_mul_right _ hk)]
theorem AccInv.len (h : AccInv B e acc (.slice (some ⟨g, 0, none⟩) n cap) w) : n = acc.length := by
  obtain ⟨vs, ⟨h1, h2⟩, hc⟩ := h.ex
  rcases h2 with ⟨h, _⟩ | ⟨g', cap', cur, e1, _⟩
  · cases h
  · injection e1
end
end Go.Proofs.Ytkkiemideldioaa
set_option linter.unusedVariables false
namespace Go.Proofs.Ytkkiemideldioaa
open Go.RowKit

/-! ### numbered in place -/
structure MapC (P : Program) (k : TypeId) (w : World) (b : Nat) (f : Int → Option Value) (cnt : Nat) : Prop where
  ex : ∃ D : DataW Value, w.ownsMap P k heldElem b cnt D ∧ Go.Maps.size D = cnt ∧ ∀ i, (Lit.int .i64 i).wf = true → Go.Maps.has D (.int .i64 i) = (f i).isSome ∧ ∀ z, D.atKey (.int .i64 i) (.held z) = .held ((f i).getD z)
section
variable {P : Program} {k e t : TypeId} {w w' : World} {b cnt : Nat} {f : Int → Option Value}
theorem MapC.v (h : MapC P k w b f cnt) : MapV P k w b cnt f := let ⟨D, h1, _, h2⟩ := h.ex; ⟨D, h1, h2⟩
theorem MapC.made (P : Program) (k : TypeId) (w : World) : MapC P k (w.alloc (.map #[] 0)) w.heap.size (fun _ => none) 0 :=
  ⟨.map [], World.ownsMap_made w P k _, rfl, fun _ _ => ⟨rfl, fun _ => rfl⟩⟩
theorem MapC.blockM (h : MapC P k w b f cnt) (hb : w'.heap[b]? = w.heap[b]?) : MapC P k w' b f cnt := by
  obtain ⟨D, ⟨es, clock, h1, h2⟩, hs, hf⟩ := h.ex
  exact ⟨D, ⟨es, clock, hb.trans h1, h2⟩, hs, hf⟩
theorem MapC.congr {g : Int → Option Value} (h : MapC P k w b f cnt) (e : ∀ i, f i = g i) : MapC P k w b g cnt := by
  obtain rfl : f = g := funext e
  exact h
theorem MapC.run_len (h : MapC P k w b f cnt) (ht : P.underlying t = some (.map k e)) (ty : TypeId) : (Builtin.len_ #[t] ty #[.map (some b)]).run P w = .ok (.int .i64 cnt) w := by
  obtain ⟨D, h1, hs, _⟩ := h.ex
  rw [h1.len ht ty, hs]
theorem MapC.run_upd (h : MapC P k w b f cnt) (hk : P.underlying k = some (.int .i64)) (ht : P.underlying t = some (.map k e)) (hn : cnt < 9223372036854775807) (i : Int) (hi : (Lit.int .i64 i).wf = true) (hnone : f i = none) (z : Value) :
    ∃ w', (Instr.mapUpdate t (.map (some b)) (.int .i64 i) z).run P w = .ok () w' ∧ MapC P k w' b (fun j => if j = i then some z else f j) (cnt + 1) ∧ w.grownBy w' (some b) := by
  obtain ⟨D, h, hs, hf⟩ := h.ex
  obtain ⟨w', hrun, h1, h2⟩ := h.update (Go.Maps.int_keyed hk) ht (by unfold maxLen; omega) (Go.Maps.keyOf_int_mk hk hi) (show heldElem z = some (.held z, []) from rfl)
  refine ⟨w', hrun, ⟨_, h1, ?_, MapV.put_at h.isMap hf i z⟩, h2⟩
  rw [Go.Maps.size_put (h.tidy (Go.Maps.int_keyed hk)), (hf i hi).1, hnone, hs]
  rfl
end
abbrev NumS := (Int → Option Int) × Nat
def nuC (s : NumS) (c : Cel) : Cel × NumS :=
  if c.k = 1 then
    match s.1 c.n with
    | some r => (⟨c.k, c.s, r⟩, s)
    | none => (⟨c.k, c.s, (s.2 : Int)⟩, (fun j => if j = c.n then some (s.2 : Int) else s.1 j, s.2 + 1))
  else (c, s)
def nuL (s : NumS) : List Cel → List Cel × NumS
  | [] => ([], s)
  | c :: l => ((nuC s c).1 :: (nuL (nuC s c).2 l).1, (nuL (nuC s c).2 l).2)
theorem nuL_append : ∀ (s : NumS) (a b : List Cel), nuL s (a ++ b) = ((nuL s a).1 ++ (nuL (nuL s a).2 b).1, (nuL (nuL s a).2 b).2)
  | s, [], b => rfl
  | s, c :: a, b => by simp [nuL, nuL_append]
theorem nuL_len : ∀ (s : NumS) (a : List Cel), (nuL s a).1.length = a.length
  | s, [] => rfl
  | s, c :: a => by simp [nuL, nuL_len]
theorem nuC_cnt (s : NumS) (c : Cel) : (nuC s c).2.2 ≤ s.2 + 1 := by
  unfold nuC
  split
  · split <;> simp
  · simp
theorem nuL_cnt : ∀ (s : NumS) (a : List Cel), (nuL s a).2.2 ≤ s.2 + a.length
  | s, [] => by simp [nuL]
  | s, c :: a => by
    have h1 := nuC_cnt s c
    have h2 := nuL_cnt (nuC s c).2 a
    simp only [nuL, List.length_cons]; omega
def NumOk (s : NumS) : Prop := ∀ j r, s.1 j = some r → 0 ≤ r ∧ r < s.2
theorem NumOk.one {s : NumS} (h : NumOk s) (c : Cel) : NumOk (nuC s c).2 := by
  unfold nuC
  split
  · split
    · exact h
    · intro j r hj
      dsimp only at hj ⊢
      split at hj
      · cases hj; omega
      · have := h j r hj; omega
  · exact h
theorem NumOk.all : ∀ {s : NumS}, NumOk s → ∀ a : List Cel, NumOk (nuL s a).2
  | s, h, [] => h
  | s, h, c :: a => by unfold nuL; exact (h.one c).all a
theorem nuL_next (s : NumS) {xs : List Cel} {k : Nat} (hk : k < xs.length) : nuL s (xs.take (k + 1)) = ((nuL s (xs.take k)).1 ++ [(nuC (nuL s (xs.take k)).2 xs[k]).1], (nuC (nuL s (xs.take k)).2 xs[k]).2) := by
  rw [List.take_succ_eq_append_getElem hk, nuL_append]
  simp [nuL]
def MapI (f : Int → Option Int) : Int → Option Value := fun i => (f i).map fun r => .int .i64 r
section
variable {B g n cap : Nat} {acc : List Cel} {w : World}
theorem AccInv.getC (h : AccInv B 45 acc (.slice (some ⟨g, 0, none⟩) n cap) w) {j : Nat} (hj : j < acc.length) :
    w.cell? ⟨g, j * 3, none⟩ = some (.int .i64 acc[j].k) ∧ w.cell? ⟨g, j * 3 + 1, none⟩ = some (.string acc[j].s) ∧ w.cell? ⟨g, j * 3 + 2, none⟩ = some (.int .i64 acc[j].n) ∧ acc[j].fit ∧ ∀ q, w.frozen? ⟨g, q, none⟩ = false := by
  obtain ⟨vs, ho, hc⟩ := h.ex
  obtain ⟨cs, ⟨rfl, hf⟩, hat⟩ := hc.get hj
  have hl : n = acc.length := h.len
  subst hl
  exact ⟨own_cells ho _ _ (hat 0 _ rfl), own_cells ho _ _ (hat 1 _ rfl), own_cells ho _ _ (hat 2 _ rfl), hf, fun q => ho.frozenAt q⟩
theorem AccInv.setCn (h : AccInv B 45 acc (.slice (some ⟨g, 0, none⟩) n cap) w) {i : Nat} (hi : i < acc.length) (y : Int) (h1 : -9223372036854775808 ≤ y) (h2 : y ≤ 9223372036854775807) :
    AccInv B 45 (acc.set i ⟨acc[i].k, acc[i].s, y⟩) (.slice (some ⟨g, 0, none⟩) n cap) (w.setCell ⟨g, i * 3 + 2, none⟩ (.int .i64 y)) := by
  obtain ⟨_, _, _, hfit, _⟩ := h.getC hi
  obtain ⟨vs, ho, hc⟩ := h.ex
  have hl : n = acc.length := h.len
  subst hl
  obtain ⟨o1, hg⟩ := ho.stored (i * 3 + 2) (.int .i64 y)
  refine ⟨_, by rw [List.length_set]; exact o1, ?_⟩
  have hk : Keeps (hide (some g) w) (hide (some g) _) := grown_keeps hg
  have hvl : vs.length = acc.length * 3 := hc.len
  obtain ⟨cs, ⟨rfl, hf⟩, hat⟩ := hc.get hi
  have hy : RepC.C (hide (some g) (w.setCell ⟨g, i * 3 + 2, none⟩ (.int .i64 y))) [.int .i64 acc[i].k, .string acc[i].s, .int .i64 y] (⟨acc[i].k, acc[i].s, y⟩ : Cel) := ⟨rfl, ⟨hfit.k1, hfit.k2, h1, h2, hfit.s⟩⟩
  refine CRows.set (hc.keeps hk) hi hy (us := vs.set (i * 3 + 2) (.int .i64 y)) (by rw [List.length_set]) (fun q hq => ?_) (fun q hq => ?_)
  · have hq' : q < 3 := hq
    show (vs.set (i * 3 + 2) _)[i * 3 + q]? = _
    match q, hq' with
    | 0, _ => rw [List.getElem?_set_ne (by omega)]; exact hat 0 _ rfl
    | 1, _ => rw [List.getElem?_set_ne (by omega)]; exact hat 1 _ rfl
    | 2, _ => rw [List.getElem?_set_self (by first | omega | (simp; omega))]; rfl
  · have hq' : q < i * 3 ∨ (i + 1) * 3 ≤ q := hq
    rw [List.getElem?_set_ne (by omega)]
end
end Go.Proofs.Ytkkiemideldioaa
set_option linter.unusedVariables false
namespace Go.Proofs.Ytkkiemideldioaa
open Go.RowKit

structure WGo (w : World) (pb g gb : Nat) (B c : Nat) (s : NumS) (xs : List Cel) (k : Nat) (W : World) : Prop where
  acc : AccInv B 45 ((nuL s (xs.take k)).1 ++ xs.drop k) (.slice (some ⟨gb, 0, none⟩) xs.length c) W
  pc : W.cell? ⟨pb, 0, none⟩ = some (.map (some g))
  mp : MapC Try.prog 3 W g (MapI (nuL s (xs.take k)).2.1) (nuL s (xs.take k)).2.2
  fr : Fr [gb, g] w W
theorem nu_mid (s : NumS) {xs : List Cel} {k : Nat} (hk : k < xs.length) : ∃ h : k < ((nuL s (xs.take k)).1 ++ xs.drop k).length, ((nuL s (xs.take k)).1 ++ xs.drop k)[k] = xs[k] := by
  have hl : (nuL s (xs.take k)).1.length = k := by rw [nuL_len, List.length_take]; omega
  refine ⟨by rw [List.length_append, hl, List.length_drop]; omega, ?_⟩
  rw [List.getElem_append_right (by omega)]
  simp [hl]
theorem nu_set (s : NumS) {xs : List Cel} {k : Nat} (hk : k < xs.length) (y : Cel) (hy : (nuC (nuL s (xs.take k)).2 xs[k]).1 = y) : ((nuL s (xs.take k)).1 ++ xs.drop k).set k y = (nuL s (xs.take (k + 1))).1 ++ xs.drop (k + 1) := by
  have hl : (nuL s (xs.take k)).1.length = k := by rw [nuL_len, List.length_take]; omega
  rw [nuL_next s hk, hy, List.set_append_right _ _ (by omega), hl, Nat.sub_self, List.drop_eq_getElem_cons hk, List.set_cons_zero]
  simp
theorem nu_same (s : NumS) {xs : List Cel} {k : Nat} (hk : k < xs.length) (hy : nuC (nuL s (xs.take k)).2 xs[k] = (xs[k], (nuL s (xs.take k)).2)) : (nuL s (xs.take k)).1 ++ xs.drop k = (nuL s (xs.take (k + 1))).1 ++ xs.drop (k + 1) ∧ (nuL s (xs.take (k + 1))).2 = (nuL s (xs.take k)).2 := by
  rw [nuL_next s hk, hy]
  refine ⟨?_, rfl⟩
  simp only [List.append_assoc, List.singleton_append]
  rw [← List.drop_eq_getElem_cons hk]
set_option maxRecDepth 100000 in
set_option maxHeartbeats 6400000 in
theorem withinC_any (w : World) (pb g gb B c : Nat) (s : NumS) (xs : List Cel) (hA : AccInv B 45 xs (.slice (some ⟨gb, 0, none⟩) xs.length c) w) (hpc : w.cell? ⟨pb, 0, none⟩ = some (.map (some g))) (hm : MapC Try.prog 3 w g (MapI s.1) s.2) (hpg : pb ≠ g) (hpb : pb ≠ gb) (hs : s.2 + xs.length ≤ 100000000) (hok : NumOk s) :
    Calls Try.prog 158 #[.slice (some ⟨gb, 0, none⟩) xs.length c, .pointer (some ⟨pb, 0, none⟩)] w fun e W' => e = .returned (.tuple #[]) ∧ WGo w pb g gb B c s xs xs.length W' := by
  have hgg : g ≠ gb := by
    rintro rfl
    obtain ⟨cs, h1⟩ := own_typeG hA (b := g) rfl
    obtain ⟨_, _, h2⟩ := map_type hm.v
    rw [h1] at h2; cases h2
  have HGG := mkHid hgg
  have HPG := mkHid hpg
  have HG0 : Hid (WGo w pb g gb B c s xs 0 w) := ⟨by simpa [nuL] using hA, hpc, by simpa [nuL] using hm, Fr.refl _ _⟩
  have hmx : xs.length ≤ 100000000 := by omega
  have HS := mkHid hs
  have HOK := mkHid hok
  have hpb' : ¬ gb = pb := fun e => hpb e.symm
  have hpb1 : ¬ pb = gb := hpb
  clear hA hpc hm hs hok hgg hpg hpb
  go_enter Try.func158, Try.ntmps158
  go_wp2_with fail
  go_loopw [9] (fun i wr => ∃ (k : Nat), i = .int .i64 k ∧ k ≤ xs.length ∧ Hid (WGo w pb g gb B c s xs k wr)) (fun i wr => xs.length - (intOf i).toNat)
  case atStart => exact ⟨0, rfl, Nat.zero_le _, HG0⟩
  case round =>
    clear HG0
    obtain ⟨k, rfl, hk, HG⟩ := hrel
    by_cases hlt : k < xs.length
    · obtain ⟨hyl, hye⟩ := nu_mid s hlt
      obtain ⟨c0, c1, c2, hfit, hfz⟩ := HG.out.acc.getC hyl
      rw [hye] at c0 c1 c2 hfit
      have f2 := hfz (k * 3 + 2)
      have hpc := HG.out.pc
      have HNX := mkHid (nuL_next s hlt)
      have HFIT := mkHid hfit
      have hn1 := hfit.n1
      have hn2 := hfit.n2
      have HNE : Hid (∀ c', (nuC (nuL s (xs.take k)).2 xs[k]).1 = c' → ((nuL s (xs.take k)).1 ++ xs.drop k).set k c' = (nuL s (xs.take (k + 1))).1 ++ xs.drop (k + 1)) := fun c' h => nu_set s hlt c' h
      have HSM : Hid (nuC (nuL s (xs.take k)).2 xs[k] = (xs[k], (nuL s (xs.take k)).2) → (nuL s (xs.take k)).1 ++ xs.drop k = (nuL s (xs.take (k + 1))).1 ++ xs.drop (k + 1) ∧ (nuL s (xs.take (k + 1))).2 = (nuL s (xs.take k)).2) := fun h => nu_same s hlt h
      have HYE := mkHid hye
      clear hfz hfit
      by_cases hk1 : xs[k].k = 1
      · have t1 : (xs[k].k == 1) = true := by simp [hk1]
        have hlt1 : k < ((nuL s (xs.take k)).1 ++ xs.drop k).length := hyl
        have hcnt := nuL_cnt s (xs.take k)
        rw [List.length_take] at hcnt
        have hb3 := (Below.refl wr.heap.size wr).new (.cells #[.int .i64 xs[k].k, .string xs[k].s, .int .i64 xs[k].n] 45)
        have hmp := HG.out.mp.blockM (hb3.block g HG.out.mp.v.lt)
        have hacc := HG.out.acc.below hb3
        have hpc3 := keep hpc hb3
        have hgw : gb < wr.heap.size := (HG.out.acc.lt gb rfl).2
        have hxw : ¬ gb = wr.heap.size := by omega
        have hxw' : ¬ wr.heap.size = gb := by omega
        have hgm := HG.out.mp.v.lt
        have hOK : NumOk (nuL s (xs.take k)).2 := HOK.out.all _
        have hF3 : Fr [gb, g] w (wr.alloc (.cells #[.int .i64 xs[k].k, .string xs[k].s, .int .i64 xs[k].n] 45)) := HG.out.fr.trans (Fr.of hb3)
        have hlk := hmp.v.run_ok (t := 86) (e := 3) Try.underlying3 Try.underlying86 (Try.zeroInt _) (wf64 hn1 hn2)
        cases hs1 : (nuL s (xs.take k)).2.1 xs[k].n with
        | some r =>
          obtain ⟨hr1, hr2⟩ := hOK _ _ hs1
          have hlk2 := hmp.v.run_look (t := 86) (e := 3) Try.underlying3 Try.underlying86 (Try.zeroInt _) (wf64 hn1 hn2)
          rw [show MapI (nuL s (xs.take k)).2.1 xs[k].n = some (.int .i64 r) by unfold MapI; rw [hs1]; rfl] at hlk hlk2
          simp only [Option.getD_some, Option.isSome_some] at hlk hlk2
          have hnc : nuC (nuL s (xs.take k)).2 xs[k] = (⟨xs[k].k, xs[k].s, r⟩, (nuL s (xs.take k)).2) := by unfold nuC; rw [if_pos hk1, hs1]
          have HG1 : Hid (WGo w pb g gb B c s xs (k + 1) ((wr.alloc (.cells #[.int .i64 xs[k].k, .string xs[k].s, .int .i64 xs[k].n] 45)).setCell ⟨gb, k * 3 + 2, none⟩ (.int .i64 r))) := by
            have h1 := hacc.setCn hlt1 r (by omega) (by have := HS.out; omega)
            rw [HYE.out, HNE.out _ (by rw [hnc])] at h1
            have h2 : (nuL s (xs.take (k + 1))).2 = (nuL s (xs.take k)).2 := by rw [HNX.out, hnc]
            refine ⟨h1, ?_, ?_, hF3.set (by simp) _⟩
            · exact (World.cell?_setCell_far _ _ _ _ hpb').trans hpc3
            · rw [h2]
              exact hmp.blockM (Below.heap_setCell _ _ _ _ HGG.out)
          have hg1 := HG1.out
          rw [World.setCell_alloc_past _ _ _ _ hgw] at hg1
          have HG2 := mkHid hg1
          clear hg1
          clear hmp hacc hF3 hOK hnc hk1 hs1 hcnt hb3
          go_wp2_with fail
          go_round
          case rel => exact ⟨k + 1, by go_num, by omega, HG2⟩
          case measure => simp [intOf]; omega
        | none =>
          have hlen := hmp.run_len (t := 86) (e := 3) Try.underlying86 3
          obtain ⟨w4, hrun, hm4, hg4⟩ := hmp.run_upd (t := 86) (e := 3) Try.underlying3 Try.underlying86 (by have := HS.out; omega) xs[k].n (wf64 hn1 hn2) (by unfold MapI; rw [hs1]; rfl) (.int .i64 ((nuL s (xs.take k)).2.2 : Int))
          have hm4' := hm4.congr (g := MapI (nuC (nuL s (xs.take k)).2 xs[k]).2.1) (fun i => by unfold MapI nuC; rw [if_pos hk1, hs1]; dsimp only; split <;> rfl)
          have hlk2 := hm4'.v.run_look (t := 86) (e := 3) Try.underlying3 Try.underlying86 (Try.zeroInt _) (wf64 hn1 hn2)
          rw [show MapI (nuC (nuL s (xs.take k)).2 xs[k]).2.1 xs[k].n = some (.int .i64 ((nuL s (xs.take k)).2.2 : Int)) by unfold MapI nuC; rw [if_pos hk1, hs1]; simp] at hlk2
          rw [show MapI (nuL s (xs.take k)).2.1 xs[k].n = none by unfold MapI; rw [hs1]; rfl] at hlk
          simp only [Option.getD_some, Option.getD_none, Option.isSome_none] at hlk hlk2
          have hnc : nuC (nuL s (xs.take k)).2 xs[k] = (⟨xs[k].k, xs[k].s, ((nuL s (xs.take k)).2.2 : Int)⟩, (nuC (nuL s (xs.take k)).2 xs[k]).2) := by unfold nuC; rw [if_pos hk1, hs1]
          have key4 : ∀ b, b < (wr.alloc (.cells #[.int .i64 xs[k].k, .string xs[k].s, .int .i64 xs[k].n] 45)).heap.size → b ≠ g → w4.heap[b]? = (wr.alloc (.cells #[.int .i64 xs[k].k, .string xs[k].s, .int .i64 xs[k].n] 45)).heap[b]? := fun b h1 h2 => hg4.block b h1 (by simp; exact h2)
          have hpl : pb < (wr.alloc (.cells #[.int .i64 xs[k].k, .string xs[k].s, .int .i64 xs[k].n] 45)).heap.size := cell_lt hpc3
          have hgl : gb < (wr.alloc (.cells #[.int .i64 xs[k].k, .string xs[k].s, .int .i64 xs[k].n] 45)).heap.size := (hacc.lt gb rfl).2
          have hpc4 : w4.cell? ⟨pb, 0, none⟩ = some (.map (some g)) := (World.cell?_of_block (a := ⟨pb, 0, none⟩) (key4 pb hpl HPG.out)).trans hpc3
          have hx4 : w4.cell? ⟨wr.heap.size, 2, none⟩ = some (.int .i64 xs[k].n) := (World.cell?_of_block (a := ⟨wr.heap.size, 2, none⟩) (key4 wr.heap.size (by simp) (by omega))).trans (World.cell?_alloc_at _ _ _ _ rfl)
          have hacc4 := hacc.blockN (w' := w4) (fun h => h) (fun b hb => by cases hb; exact key4 gb hgl HGG.out.symm)
          obtain ⟨_, _, c24, _, hf4⟩ := hacc4.getC hlt1
          rw [HYE.out] at c24
          have f24 := hf4 (k * 3 + 2)
          have HG1 : Hid (WGo w pb g gb B c s xs (k + 1) (w4.setCell ⟨gb, k * 3 + 2, none⟩ (.int .i64 ((nuL s (xs.take k)).2.2 : Int)))) := by
            have h1 := hacc4.setCn hlt1 ((nuL s (xs.take k)).2.2 : Int) (by omega) (by have := HS.out; omega)
            rw [HYE.out, HNE.out _ (by rw [hnc])] at h1
            have h2 : (nuL s (xs.take (k + 1))).2 = (nuC (nuL s (xs.take k)).2 xs[k]).2 := by rw [HNX.out]
            have h3 : (nuC (nuL s (xs.take k)).2 xs[k]).2.2 = (nuL s (xs.take k)).2.2 + 1 := by unfold nuC; rw [if_pos hk1, hs1]
            refine ⟨h1, ?_, ?_, (hF3.trans ((grown_frN hg4).sub (by simp))).set (by simp) _⟩
            · exact (World.cell?_setCell_far _ _ _ _ hpb').trans hpc4
            · rw [h2, h3]
              exact hm4'.blockM (Below.heap_setCell _ _ _ _ HGG.out)
          clear hmp hacc hF3 hOK hnc hk1 hs1 hcnt hb3 hm4 hm4' hg4 key4 hacc4 hf4 hpl hgl
          go_wp2_with fail
          go_round
          case rel => exact ⟨k + 1, by go_num, by omega, HG1⟩
          case measure => simp [intOf]; omega
      · have HK1 := mkHid hk1
        have hb3 := (Below.refl wr.heap.size wr).new (.cells #[.int .i64 xs[k].k, .string xs[k].s, .int .i64 xs[k].n] 45)
        have HG1 : Hid (WGo w pb g gb B c s xs (k + 1) (wr.alloc (.cells #[.int .i64 xs[k].k, .string xs[k].s, .int .i64 xs[k].n] 45))) := by
          have hnc : nuC (nuL s (xs.take k)).2 xs[k] = (xs[k], (nuL s (xs.take k)).2) := by unfold nuC; rw [if_neg HK1.out]
          obtain ⟨h1, h2⟩ := HSM.out hnc
          refine ⟨by rw [← h1]; exact HG.out.acc.below hb3, keep hpc hb3, by rw [h2]; exact HG.out.mp.blockM (hb3.block g HG.out.mp.v.lt), HG.out.fr.trans (Fr.of hb3)⟩
        have t1 : (xs[k].k == 1) = false := by simp [hk1]
        clear hk1 hb3
        go_wp2_with fail
        go_round
        case rel => exact ⟨k + 1, by go_num, by omega, HG1⟩
        case measure => simp [intOf]; omega
    · obtain rfl : k = xs.length := by omega
      go_wp2_with fail
      refine bodyPost_end (results_none rfl _ _ _) rfl ?_
      exact ⟨rfl, HG.out⟩
end Go.Proofs.Ytkkiemideldioaa
set_option linter.unusedVariables false
namespace Go.Proofs.Ytkkiemideldioaa
open Go.RowKit

/-! ### a clause numbered in place -/
def nuLs (s : NumS) : List (List Cel) → List (List Cel) × NumS
  | [] => ([], s)
  | c :: l => ((nuL s c).1 :: (nuLs (nuL s c).2 l).1, (nuLs (nuL s c).2 l).2)
theorem nuLs_append : ∀ (s : NumS) (a b : List (List Cel)), nuLs s (a ++ b) = ((nuLs s a).1 ++ (nuLs (nuLs s a).2 b).1, (nuLs (nuLs s a).2 b).2)
  | s, [], b => rfl
  | s, c :: a, b => by simp [nuLs, nuLs_append]
theorem nuLs_len : ∀ (s : NumS) (a : List (List Cel)), (nuLs s a).1.length = a.length
  | s, [] => rfl
  | s, c :: a => by simp [nuLs, nuLs_len]
def sumL (a : List (List Cel)) : Nat := (a.map List.length).sum
theorem nuLs_cnt : ∀ (s : NumS) (a : List (List Cel)), (nuLs s a).2.2 ≤ s.2 + sumL a
  | s, [] => by simp [nuLs, sumL]
  | s, c :: a => by
    have h1 := nuL_cnt s c
    have h2 := nuLs_cnt (nuL s c).2 a
    simp only [nuLs, sumL, List.map_cons, List.sum_cons] at h2 ⊢; omega
theorem NumOk.alls : ∀ {s : NumS}, NumOk s → ∀ a : List (List Cel), NumOk (nuLs s a).2
  | s, h, [] => h
  | s, h, c :: a => by unfold nuLs; exact (h.all c).alls a
theorem nuLs_next (s : NumS) {xs : List (List Cel)} {k : Nat} (hk : k < xs.length) : nuLs s (xs.take (k + 1)) = ((nuLs s (xs.take k)).1 ++ [(nuL (nuLs s (xs.take k)).2 xs[k]).1], (nuL (nuLs s (xs.take k)).2 xs[k]).2) := by
  rw [List.take_succ_eq_append_getElem hk, nuLs_append]
  simp [nuLs]
theorem sumL_take (xs : List (List Cel)) {k : Nat} (hk : k < xs.length) : sumL (xs.take k) + xs[k].length ≤ sumL xs := by
  have h := congrArg sumL (List.take_append_drop (k + 1) xs)
  have h2 : ∀ a b, sumL (a ++ b) = sumL a + sumL b := fun a b => by simp [sumL]
  rw [h2, List.take_succ_eq_append_getElem hk, h2] at h
  simp [sumL] at h ⊢
  omega
theorem nus_mid (s : NumS) {xs : List (List Cel)} {k j : Nat} (hk : k ≤ xs.length) (hj : k ≤ j) : ((nuLs s (xs.take k)).1 ++ xs.drop k)[j]? = xs[j]? := by
  have hl : (nuLs s (xs.take k)).1.length = k := by rw [nuLs_len, List.length_take]; omega
  rw [List.getElem?_append_right (by omega), List.getElem?_drop, hl]
  congr 1; omega
theorem nus_step (s : NumS) {xs : List (List Cel)} {k : Nat} (hk : k < xs.length) (j : Nat) : ((nuLs s (xs.take (k + 1))).1 ++ xs.drop (k + 1))[j]? = if j = k then some (nuL (nuLs s (xs.take k)).2 xs[k]).1 else ((nuLs s (xs.take k)).1 ++ xs.drop k)[j]? := by
  have hl : (nuLs s (xs.take k)).1.length = k := by rw [nuLs_len, List.length_take]; omega
  rw [nuLs_next s hk]
  by_cases h : j = k
  · subst h
    rw [if_pos rfl, List.append_assoc, List.getElem?_append_right (by omega), hl, Nat.sub_self]
    rfl
  · rw [if_neg h]
    by_cases h2 : j < k
    · rw [List.append_assoc, List.getElem?_append_left (by omega), List.getElem?_append_left (by omega)]
    · have e1 : (((nuLs s (xs.take k)).1 ++ [(nuL (nuLs s (xs.take k)).2 xs[k]).1]) ++ xs.drop (k + 1))[j]? = (xs.drop (k + 1))[j - (k + 1)]? := by
        have hl2 : ((nuLs s (xs.take k)).1 ++ [(nuL (nuLs s (xs.take k)).2 xs[k]).1]).length = k + 1 := by rw [List.length_append, hl]; rfl
        rw [List.getElem?_append_right (by omega), hl2]
      have e2 : ((nuLs s (xs.take k)).1 ++ xs.drop k)[j]? = (xs.drop k)[j - k]? := by rw [List.getElem?_append_right (by omega), hl]
      rw [e2, List.getElem?_drop]
      show (((nuLs s (xs.take k)).1 ++ [(nuL (nuLs s (xs.take k)).2 xs[k]).1]) ++ xs.drop (k + 1))[j]? = _
      rw [e1, List.getElem?_drop]
      congr 1; omega
/-- rows of cells, each its own -/
structure RowsN (W : World) (B0 : Nat) (ls : List LitV) (cs : List (List Cel)) : Prop where
  at_ : ∀ (k : Nat) l c, ls[k]? = some l → cs[k]? = some c → AccInv B0 45 c l.v W
theorem RowsN.blocks {W W' : World} {B0 : Nat} {ls : List LitV} {cs : List (List Cel)} (h : RowsN W B0 ls cs) (hb : ∀ l ∈ ls, ∀ b, l.v.ownBlock = some b → W'.heap[b]? = W.heap[b]?) : RowsN W' B0 ls cs :=
  ⟨fun k l c h1 h2 => (h.at_ k l c h1 h2).blockN (fun h => h) (fun b e => hb l (List.mem_of_getElem? h1) b e)⟩
theorem row_lit {α : Type} [RepC α] {B e : Nat} {v : Value} {acc : List α} {w : World} (h : AccInv B e acc v w) (hne : acc ≠ []) : ∃ g c, v = .slice (some ⟨g, 0, none⟩) acc.length c := by
  obtain ⟨vs, ho, hc⟩ := h.ex
  rcases ho.2 with ⟨e1, h0⟩ | ⟨g, cap, cur, e1, _⟩
  · exact absurd (List.eq_nil_of_length_eq_zero h0) hne
  · exact ⟨g, cap, e1⟩
structure NGo (w : World) (pb g gh B ch : Nat) (h : List Cel) (ls : List LitV) (cs : List (List Cel)) (s : NumS) (k : Nat) (W : World) : Prop where
  hd : AccInv B 45 h (.slice (some ⟨gh, 0, none⟩) h.length ch) W
  rows : RowsN W B ls ((nuLs s (cs.take k)).1 ++ cs.drop k)
  pc : W.cell? ⟨pb, 0, none⟩ = some (.map (some g))
  mp : MapC Try.prog 3 W g (MapI (nuLs s (cs.take k)).2.1) (nuLs s (cs.take k)).2.2
  bel : ∀ b, b < w.heap.size → b ≠ gh → (∀ l ∈ ls, l.v.ownBlock ≠ some b) → W.heap[b]? = w.heap[b]?
  os : W.os = w.os ∧ W.tape = w.tape ∧ W.output = w.output ∧ w.heap.size ≤ W.heap.size
  gw : w.heap.size ≤ g ∧ w.heap.size ≤ pb ∧ g ≠ pb
/-- a literal's row was numbered -/
theorem NGo.step {w W W' : World} {pb g gh B ch : Nat} {h : List Cel} {ls : List LitV} {cs : List (List Cel)} {s : NumS} {k : Nat} (H : NGo w pb g gh B ch h ls cs s k W) (hk : k < cs.length) (hl : ls.length = cs.length) (hgh : ∀ l ∈ ls, l.v.ownBlock ≠ some gh) (hsep : ls.Pairwise fun a b => ∀ g, a.v.ownBlock = some g → b.v.ownBlock ≠ some g) (hlt : ∀ l ∈ ls, ∀ b, l.v.ownBlock = some b → b < w.heap.size) (hg : gh < w.heap.size)
    {gb c : Nat} (hv : ∀ l, ls[k]? = some l → l.v = .slice (some ⟨gb, 0, none⟩) cs[k].length c) (hw : WGo W pb g gb B c (nuLs s (cs.take k)).2 cs[k] cs[k].length W') : NGo w pb g gh B ch h ls cs s (k + 1) W' := by
  have hkl : k < ls.length := by omega
  have hvk := hv ls[k] (List.getElem?_eq_getElem hkl)
  have hmem : ls[k] ∈ ls := List.getElem_mem hkl
  have hob : (ls[k]).v.ownBlock = some gb := by rw [hvk]; rfl
  have hgbw := hlt _ hmem _ hob
  have hgg : gh ≠ gb := fun e => hgh _ hmem (by rw [hob, e])
  have key : ∀ b, b < W.heap.size → b ≠ gb → b ≠ g → W'.heap[b]? = W.heap[b]? := fun b h1 h2 h3 => hw.fr.block b h1 (by simp; exact ⟨h2, h3⟩)
  have hne : ∀ j l, ls[j]? = some l → j ≠ k → l.v.ownBlock ≠ some gb := fun j l hj hjk e => by
    obtain ⟨hjl, e1⟩ := List.getElem?_eq_some_iff.1 hj
    rcases Nat.lt_or_gt_of_ne hjk with h1 | h1
    · exact List.pairwise_iff_getElem.1 hsep j k hjl hkl h1 gb (by rw [e1]; exact e) hob
    · exact List.pairwise_iff_getElem.1 hsep k j hkl hjl h1 gb hob (by rw [e1]; exact e)
  have hwf := hw.acc
  rw [List.take_length, List.drop_length, List.append_nil] at hwf
  have hmp := hw.mp
  rw [List.take_length] at hmp
  refine ⟨H.hd.blockN (fun h => h) (fun b e => ?_), ⟨fun j l c' h1 h2 => ?_⟩, hw.pc, ?_, fun b h1 h2 h3 => ?_, ⟨hw.fr.os.trans H.os.1, hw.fr.tape.trans H.os.2.1, hw.fr.output.trans H.os.2.2.1, Nat.le_trans H.os.2.2.2 hw.fr.size⟩, H.gw⟩
  · cases e
    exact key gh (Nat.lt_of_lt_of_le hg H.os.2.2.2) hgg (by have := H.gw.1; omega)
  · rw [nus_step s hk] at h2
    by_cases e : j = k
    · subst e
      rw [if_pos rfl] at h2
      cases h2
      rw [hv l h1]
      exact hwf
    · rw [if_neg e] at h2
      refine (H.rows.at_ j l c' h1 h2).blockN (fun h => h) fun b eb => ?_
      have hbw := hlt l (List.mem_of_getElem? h1) b eb
      exact key b (Nat.lt_of_lt_of_le hbw H.os.2.2.2) (fun e2 => hne j l h1 e (by rw [eb, e2])) (by have := H.gw.1; omega)
  · rw [nuLs_next s hk]
    exact hmp
  · rw [key b (Nat.lt_of_lt_of_le h1 H.os.2.2.2) (fun e => h3 _ hmem (by rw [hob, e])) (by have := H.gw.1; omega)]
    exact H.bel b h1 h2 h3
end Go.Proofs.Ytkkiemideldioaa
set_option linter.unusedVariables false
namespace Go.Proofs.Ytkkiemideldioaa
open Go.RowKit

/-! ### numbered in place is renamed -/
def renC (F : Int → Int) (c : Cel) : Cel := if c.k = 1 then ⟨c.k, c.s, F c.n⟩ else c
/-- what was numbered stays so -/
def NuLe (s s' : NumS) : Prop := ∀ j r, s.1 j = some r → s'.1 j = some r
theorem nuC_le (s : NumS) (c : Cel) : NuLe s (nuC s c).2 := by
  intro j r h
  unfold nuC
  split
  · split
    · exact h
    · rename_i hn
      dsimp only
      split
      · rename_i e; rw [e, hn] at h; cases h
      · exact h
  · exact h
theorem nuL_le : ∀ (s : NumS) (xs : List Cel), NuLe s (nuL s xs).2
  | s, [] => fun _ _ h => h
  | s, c :: xs => fun j r h => nuL_le (nuC s c).2 xs j r (nuC_le s c j r h)
theorem nuLs_le : ∀ (s : NumS) (cs : List (List Cel)), NuLe s (nuLs s cs).2
  | s, [] => fun _ _ h => h
  | s, c :: cs => fun j r h => nuLs_le (nuL s c).2 cs j r (nuL_le s c j r h)
/-- a variable that was numbered -/
theorem nuC_at (s : NumS) (c : Cel) (h : c.k = 1) : ∃ r, (nuC s c).2.1 c.n = some r ∧ (nuC s c).1 = ⟨c.k, c.s, r⟩ := by
  unfold nuC
  rw [if_pos h]
  split
  · rename_i r hr
    exact ⟨r, hr, rfl⟩
  · exact ⟨(s.2 : Int), by simp, rfl⟩
theorem nuL_ren {G : NumS} {F : Int → Int} (hF : ∀ j r, G.1 j = some r → F j = r) : ∀ (s : NumS) (xs : List Cel), NuLe (nuL s xs).2 G → (nuL s xs).1 = xs.map (renC F)
  | s, [], _ => rfl
  | s, c :: xs, h => by
    have ih := nuL_ren hF (nuC s c).2 xs h
    have hc : (nuC s c).1 = renC F c := by
      by_cases hk : c.k = 1
      · obtain ⟨r, h1, h2⟩ := nuC_at s c hk
        have h3 := hF c.n r (h c.n r (nuL_le (nuC s c).2 xs c.n r h1))
        rw [h2, renC, if_pos hk, h3]
      · unfold nuC renC
        rw [if_neg hk, if_neg hk]
    show (nuC s c).1 :: (nuL (nuC s c).2 xs).1 = _
    rw [hc, ih, List.map_cons]
theorem nuLs_ren {G : NumS} {F : Int → Int} (hF : ∀ j r, G.1 j = some r → F j = r) : ∀ (s : NumS) (cs : List (List Cel)), NuLe (nuLs s cs).2 G → (nuLs s cs).1 = cs.map fun c => c.map (renC F)
  | s, [], _ => rfl
  | s, c :: cs, h => by
    have ih := nuLs_ren hF (nuL s c).2 cs h
    have h1 : NuLe (nuL s c).2 G := fun j r e => h j r (nuLs_le (nuL s c).2 cs j r e)
    show (nuL s c).1 :: (nuLs (nuL s c).2 cs).1 = _
    rw [nuL_ren hF s c h1, ih, List.map_cons]
/-- no two variables have one number -/
def NuInj (s : NumS) : Prop := NumOk s ∧ ∀ a b r, s.1 a = some r → s.1 b = some r → a = b
theorem NuInj.one {s : NumS} (h : NuInj s) (c : Cel) : NuInj (nuC s c).2 := by
  refine ⟨h.1.one c, fun a b r h1 h2 => ?_⟩
  unfold nuC at h1 h2
  split at h1
  · split at h1
    · rename_i hk _ _ hs
      rw [if_pos hk, hs] at h2
      exact h.2 a b r h1 h2
    · rename_i hk _ hs
      rw [if_pos hk, hs] at h2
      dsimp only at h1 h2
      split at h1
      · split at h2
        · rename_i e1 e2; rw [e1, e2]
        · cases h1
          have := (h.1 b _ h2).2
          omega
      · split at h2
        · cases h2
          have := (h.1 a _ h1).2
          omega
        · exact h.2 a b r h1 h2
  · rename_i hk
    rw [if_neg hk] at h2
    exact h.2 a b r h1 h2
theorem NuInj.all : ∀ {s : NumS}, NuInj s → ∀ xs : List Cel, NuInj (nuL s xs).2
  | s, h, [] => h
  | s, h, c :: xs => (h.one c).all xs
theorem NuInj.alls : ∀ {s : NumS}, NuInj s → ∀ cs : List (List Cel), NuInj (nuLs s cs).2
  | s, h, [] => h
  | s, h, c :: cs => (h.all c).alls cs
end Go.Proofs.Ytkkiemideldioaa
set_option linter.unusedVariables false
namespace Go.Proofs.Ytkkiemideldioaa
open Go.RowKit

theorem NGo.below {w W W' : World} {pb g gh B ch : Nat} {h : List Cel} {ls : List LitV} {cs : List (List Cel)} {s : NumS} {k : Nat} (H : NGo w pb g gh B ch h ls cs s k W) (hb : Below W.heap.size W W') (hlt : ∀ l ∈ ls, ∀ b, l.v.ownBlock = some b → b < w.heap.size) : NGo w pb g gh B ch h ls cs s k W' :=
  ⟨H.hd.below hb, H.rows.blocks fun l hl b e => hb.block b (Nat.lt_of_lt_of_le (hlt l hl b e) H.os.2.2.2), keep H.pc hb, H.mp.blockM (hb.block g H.mp.v.lt), fun b h1 h2 h3 => (hb.block b (Nat.lt_of_lt_of_le h1 H.os.2.2.2)).trans (H.bel b h1 h2 h3), ⟨hb.os.trans H.os.1, hb.tape.trans H.os.2.1, hb.output.trans H.os.2.2.1, Nat.le_trans H.os.2.2.2 hb.size⟩, H.gw⟩
theorem AccInv.getL {B g n cap : Nat} {acc : List LitV} {w : World} (h : AccInv B 55 acc (.slice (some ⟨g, 0, none⟩) n cap) w) {j : Nat} (hj : j < acc.length) : w.cell? ⟨g, j * 2, none⟩ = some (.bool acc[j].neg) ∧ w.cell? ⟨g, j * 2 + 1, none⟩ = some acc[j].v := by
  obtain ⟨vs, ho, hc⟩ := h.ex
  obtain ⟨cs, ⟨rfl, hf⟩, hat⟩ := hc.get hj
  have hl : n = acc.length := h.len
  subst hl
  exact ⟨own_cells ho _ _ (hat 0 _ rfl), own_cells ho _ _ (hat 1 _ rfl)⟩
def nu0 : NumS := (fun _ => none, 0)
theorem nu0_ok : NumOk nu0 := fun j r h => by cases h
/-- what number makes of a clause's rows -/
structure NPost (w : World) (gh B ch : Nat) (h : List Cel) (ls : List LitV) (cs : List (List Cel)) (W' : World) : Prop where
  hd : AccInv B 45 (nuL nu0 h).1 (.slice (some ⟨gh, 0, none⟩) h.length ch) W'
  rows : RowsN W' B ls (nuLs (nuL nu0 h).2 cs).1
  bel : ∀ b, b < w.heap.size → b ≠ gh → (∀ l ∈ ls, l.v.ownBlock ≠ some b) → W'.heap[b]? = w.heap[b]?
  os : W'.os = w.os ∧ W'.tape = w.tape ∧ W'.output = w.output ∧ w.heap.size ≤ W'.heap.size
set_option maxRecDepth 100000 in
set_option maxHeartbeats 6400000 in
theorem numberC_any (w : World) (gh B ch B2 : Nat) (h : List Cel) (ls : List LitV) (cs : List (List Cel)) (ab : Option Addr) (nb cb : Nat) (hA : AccInv B 45 h (.slice (some ⟨gh, 0, none⟩) h.length ch) w) (hB : AccInv B2 55 ls (.slice ab nb cb) w) (hR : RowsN w B ls cs) (hl : ls.length = cs.length) (hne : ∀ c ∈ cs, c ≠ [])
    (hgh : ∀ l ∈ ls, l.v.ownBlock ≠ some gh) (hsep : ls.Pairwise fun a b => ∀ g, a.v.ownBlock = some g → b.v.ownBlock ≠ some g) (hsz : h.length + sumL cs ≤ 100000000) (hls : ls.length ≤ 100000000) :
    Calls Try.prog 126 #[.agg #[.slice (some ⟨gh, 0, none⟩) h.length ch, .slice ab nb cb]] w fun e W' => e = .returned (.tuple #[]) ∧ NPost w gh B ch h ls cs W' := by
  have hgw : gh < w.heap.size := (hA.lt gh rfl).2
  have hlt : ∀ l ∈ ls, ∀ b, l.v.ownBlock = some b → b < w.heap.size := fun l hm b e => by
    obtain ⟨k, hk, e1⟩ := List.getElem_of_mem hm
    exact ((hR.at_ k l cs[k] (by rw [List.getElem?_eq_getElem hk, e1]) (List.getElem?_eq_getElem (by omega))).lt b e).2
  obtain rfl : nb = ls.length := by
    obtain ⟨a', c', e, _⟩ := hB.row
    cases e
    rfl
  have hb3 := (((Below.refl w.heap.size w).new (.cells #[.slice (some ⟨gh, 0, none⟩) h.length ch, .slice ab ls.length cb] 25)).new (.map #[] 0)).new (.cells #[.map (some (w.heap.size + 1))] 86)
  obtain ⟨w1, hw1⟩ : ∃ X, (((w.alloc (.cells #[.slice (some ⟨gh, 0, none⟩) h.length ch, .slice ab ls.length cb] 25)).alloc (.map #[] 0)).alloc (.cells #[.map (some (w.heap.size + 1))] 86)) = X := ⟨_, rfl⟩
  have hpc : w1.cell? ⟨w.heap.size + 2, 0, none⟩ = some (.map (some (w.heap.size + 1))) := by rw [← hw1]; exact World.cell?_alloc_at _ _ _ 0 (by simp)
  have hmp : MapC Try.prog 3 w1 (w.heap.size + 1) (MapI nu0.1) nu0.2 := by
    have h1 := MapC.made Try.prog 3 (w.alloc (.cells #[.slice (some ⟨gh, 0, none⟩) h.length ch, .slice ab ls.length cb] 25))
    rw [World.size_alloc] at h1
    refine (h1.blockM (w' := w1) ?_).congr fun i => rfl
    rw [← hw1]
    exact heap_alloc_old _ _ (by simp)
  have hx1 : w1.cell? ⟨w.heap.size, 1, none⟩ = some (.slice ab ls.length cb) := by
    rw [← hw1]
    refine keep (World.cell?_alloc_at _ _ w.heap.size 1 rfl) (((Below.refl _ _).new _).new _)
  rw [hw1] at hb3
  have hs1 : w1.heap.size = w.heap.size + 3 := by rw [← hw1]; simp
  have HW1 := mkHid hw1
  have HA := mkHid (hA.below hb3)
  have HPC := mkHid hpc
  have HMP := mkHid hmp
  have HX1 := mkHid hx1
  have HB3 := mkHid hb3
  have HBR := mkHid hB
  have HR := mkHid hR
  have HLT := mkHid hlt
  have HGH := mkHid hgh
  have HSEP := mkHid hsep
  have HNE := mkHid hne
  have HS1 := mkHid hs1
  have HSZ := mkHid hsz
  have HLL := mkHid hl
  clear hA hB hR hw1 hpc hmp hx1 hb3 hlt hgh hsep hne hs1 hl
  have hmm := @run_makeMap Try.prog
  go_enter Try.func126, Try.ntmps126
  go_wp2_with fail
  clear hmm
  rw [HW1.out]
  refine (withinC_any w1 (w.heap.size + 2) (w.heap.size + 1) gh B ch nu0 h HA.out HPC.out HMP.out (by omega) (by omega) (by have := HSZ.out; show 0 + _ ≤ _; omega) nu0_ok).mono ?_
  rintro e w2 ⟨rfl, hW2⟩
  have hkey : ∀ b, b < w.heap.size → b ≠ gh → w2.heap[b]? = w.heap[b]? := fun b h1 h2 => by
    rw [hW2.fr.block b (by have := HS1.out; omega) (by simp; exact ⟨h2, by omega⟩)]
    exact HB3.out.block b h1
  have hx2 : w2.cell? ⟨w.heap.size, 1, none⟩ = some (.slice ab ls.length cb) := (World.cell?_of_block (a := ⟨w.heap.size, 1, none⟩) (hW2.fr.block w.heap.size (by have := HS1.out; omega) (by simp; omega))).trans HX1.out
  have hN0 : NGo w (w.heap.size + 2) (w.heap.size + 1) gh B ch (nuL nu0 h).1 ls cs (nuL nu0 h).2 0 w2 := by
    have h1 := hW2.acc
    rw [List.take_length, List.drop_length, List.append_nil] at h1
    have h2 := hW2.mp
    rw [List.take_length] at h2
    refine ⟨by rw [nuL_len]; exact h1, ?_, hW2.pc, by simpa [nuLs] using h2, fun b h1 h2 _ => hkey b h1 h2, ⟨hW2.fr.os.trans HB3.out.os, hW2.fr.tape.trans HB3.out.tape, hW2.fr.output.trans HB3.out.output, Nat.le_trans HB3.out.size hW2.fr.size⟩, ⟨by omega, by omega, by omega⟩⟩
    simp only [List.take_zero, List.drop_zero, nuLs, List.nil_append]
    exact HR.out.blocks fun l hl b e => hkey b (HLT.out l hl b e) (fun e2 => HGH.out l hl (by rw [e, e2]))
  have HN0 := mkHid hN0
  clear hN0 hkey hW2
  go_wp2_with fail
  go_loopw [5, 15] (fun _ i wr => ∃ (k : Nat), i = .int .i64 k ∧ k ≤ ls.length ∧ Hid (NGo w (w.heap.size + 2) (w.heap.size + 1) gh B ch (nuL nu0 h).1 ls cs (nuL nu0 h).2 k wr)) (fun _ i wr => ls.length - (intOf i).toNat)
  case atStart => exact ⟨0, rfl, Nat.zero_le _, HN0⟩
  case round =>
    clear HN0 hx2
    obtain ⟨k, rfl, hk, HG⟩ := hrel
    by_cases hlt : k < ls.length
    · have hkc : k < cs.length := by rw [← HLL.out]; exact hlt
      obtain ⟨bg, cb', hab⟩ := row_lit HBR.out (by intro e; rw [e] at hlt; simp at hlt)
      injection hab with hab1 _ hab3
      subst hab1
      subst hab3
      obtain ⟨q0, q1⟩ := HBR.out.getL hlt
      have hmem : ls[k] ∈ ls := List.getElem_mem hlt
      have hbgw : bg < w.heap.size := cell_lt q0
      have hbgl : ∀ l ∈ ls, l.v.ownBlock ≠ some bg := fun l hl e => by
        obtain ⟨j, hj, e1⟩ := List.getElem_of_mem hl
        obtain ⟨cs1, h1⟩ := own_typeG (HR.out.at_ j l cs[j] (by rw [List.getElem?_eq_getElem hj, e1]) (List.getElem?_eq_getElem (by rw [← HLL.out]; exact hj))) e
        obtain ⟨cs2, h2⟩ := own_typeG HBR.out (b := bg) rfl
        rw [h1] at h2; simp at h2
      have hbgh : bg ≠ gh := by
        rintro rfl
        obtain ⟨cs1, h1⟩ := own_typeG HBR.out (b := bg) rfl
        obtain ⟨cs2, h2⟩ := own_typeG HA.out (b := bg) rfl
        rw [HB3.out.block bg hbgw, h1] at h2
        simp at h2
      have hbl := HG.out.bel bg hbgw hbgh hbgl
      have q0' := (World.cell?_of_block (a := ⟨bg, k * 2, none⟩) hbl).trans q0
      have q1' := (World.cell?_of_block (a := ⟨bg, k * 2 + 1, none⟩) hbl).trans q1
      have hcne : cs[k] ≠ [] := HNE.out _ (List.getElem_mem hkc)
      obtain ⟨gb, cc, hv⟩ := row_lit (HR.out.at_ k ls[k] cs[k] (List.getElem?_eq_getElem hlt) (List.getElem?_eq_getElem hkc)) hcne
      rw [hv] at q1'
      have HV := mkHid hv
      have hgg : gb ≠ gh := fun e => HGH.out _ hmem (by rw [hv, ← e]; rfl)
      have hgbw : gb < w.heap.size := HLT.out _ hmem gb (by rw [hv]; rfl)
      have HHY := mkHid hgbw
      have hcl := sumL_take cs hkc
      have hcl2 : cs[k].length ≤ 100000000 := by omega
      have HSK : Hid ((nuLs (nuL nu0 h).2 (cs.take k)).2.2 + cs[k].length ≤ 100000000) := by
        have h1 := nuLs_cnt (nuL nu0 h).2 (cs.take k)
        have h2 := nuL_cnt nu0 h
        have h3 : nu0.2 = 0 := rfl
        rw [Hid]; omega
      have HOK : Hid (NumOk (nuLs (nuL nu0 h).2 (cs.take k)).2) := (nu0_ok.all h).alls _
      have HRK : Hid (AccInv B 45 cs[k] (.slice (some ⟨gb, 0, none⟩) cs[k].length cc) wr) := by
        have h1 := HG.out.rows.at_ k ls[k] cs[k] (List.getElem?_eq_getElem hlt) (by rw [nus_mid _ (by omega) (Nat.le_refl _)]; exact List.getElem?_eq_getElem hkc)
        rw [hv] at h1
        exact h1
      obtain ⟨ng, hng⟩ : ∃ x, ls[k].neg = x := ⟨_, rfl⟩
      rw [hng] at q0'
      have hb5 := (Below.refl wr.heap.size wr).new (.cells #[.bool ng, .slice (some ⟨gb, 0, none⟩) cs[k].length cc] 55)
      have HG5 := mkHid (HG.out.below hb5 HLT.out)
      have HRK5 := mkHid (HRK.out.below hb5)
      clear hb5 hbl q0 q1 hbgl hbgh hcne hv hgbw hcl hng hgg
      go_wp2_with fail
      refine (withinC_any _ (w.heap.size + 2) (w.heap.size + 1) gb B cc (nuLs (nuL nu0 h).2 (cs.take k)).2 cs[k] HRK5.out HG5.out.pc HG5.out.mp (by omega) (by have := HHY.out; omega) HSK.out HOK.out).mono ?_
      rintro e w7 ⟨rfl, hW7⟩
      have HG7 := mkHid (HG5.out.step hkc HLL.out HGH.out HSEP.out HLT.out hgw (gb := gb) (c := cc) (fun l e => by rw [List.getElem?_eq_getElem hlt] at e; cases e; exact HV.out) hW7)
      clear hW7
      go_wp2_with fail
      go_round
      case rel => exact ⟨k + 1, by go_num, by omega, HG7⟩
      case measure => simp [intOf]; omega
    · obtain rfl : k = ls.length := by omega
      go_wp2_with fail
      refine bodyPost_end (results_none rfl _ _ _) rfl ?_
      have h1 := HG.out.rows
      have h2 := HG.out.hd
      rw [HLL.out, List.take_length, List.drop_length, List.append_nil] at h1
      rw [nuL_len] at h2
      exact ⟨rfl, h2, h1, HG.out.bel, HG.out.os⟩
end Go.Proofs.Ytkkiemideldioaa
set_option linter.unusedVariables false
namespace Go.Proofs.Ytkkiemideldioaa
open Go.RowKit

theorem nuL_some : ∀ (s : NumS) (xs : List Cel), ∀ c ∈ xs, c.k = 1 → ∃ r, (nuL s xs).2.1 c.n = some r
  | s, [], c, h, _ => by cases h
  | s, d :: xs, c, h, hk => by
    rcases List.mem_cons.1 h with rfl | h
    · obtain ⟨r, h1, _⟩ := nuC_at s c hk
      exact ⟨r, nuL_le (nuC s c).2 xs c.n r h1⟩
    · exact nuL_some (nuC s d).2 xs c h hk
theorem nuLs_some : ∀ (s : NumS) (cs : List (List Cel)), ∀ xs ∈ cs, ∀ c ∈ xs, c.k = 1 → ∃ r, (nuLs s cs).2.1 c.n = some r
  | s, [], xs, h, _, _, _ => by cases h
  | s, d :: cs, xs, h, c, hc, hk => by
    rcases List.mem_cons.1 h with rfl | h
    · obtain ⟨r, h1⟩ := nuL_some s xs c hc hk
      exact ⟨r, nuLs_le (nuL s xs).2 cs c.n r h1⟩
    · exact nuLs_some (nuL s d).2 cs xs h c hc hk
mutual
/-- variables and ints bear no names -/
def NoName : Tm → Prop
  | .mk c ts => (c.k ≠ 3 → c.s = ⟨#[]⟩) ∧ NoNames ts
def NoNames : List Tm → Prop
  | [] => True
  | t :: ts => NoName t ∧ NoNames ts
end
mutual
theorem ren_flat (F : Int → Int) : ∀ t : Tm, Kinds t → NoName t → (renT F t).flat = t.flat.map (renC F)
  | .mk c ts, hk, hn => by
    have hk' : c.k = 1 ∨ c.k = 2 ∨ c.k = 3 := hk.1
    have hn1 := hn.1
    obtain ⟨k, s, n⟩ := c
    dsimp only at hk' hn1
    unfold renT
    rcases hk' with h | h | h
    · subst h
      rw [if_pos rfl, hk.2.1 (by simp), hn1 (by decide)]
      simp [vT, Tm.flat, flats, renC]
    · subst h
      rw [if_neg (by simp), if_pos rfl, hk.2.1 (by simp), hn1 (by decide)]
      simp [Tm.flat, flats, renC]
    · subst h
      rw [if_neg (by simp), if_neg (by simp)]
      simp only [Tm.flat, List.map_cons]
      rw [ren_flats F ts hk.2.2 hn.2]
      simp [renC]
theorem ren_flats (F : Int → Int) : ∀ ts : List Tm, KindsL ts → NoNames ts → flats (renTs F ts) = (flats ts).map (renC F)
  | [], _, _ => by unfold renTs; rfl
  | t :: ts, hk, hn => by
    unfold renTs flats
    rw [ren_flat F t hk.1 hn.1, ren_flats F ts hk.2 hn.2, List.map_append]
end
/-! #### numbering behind an injective renaming is numbering -/
structure NuR (F : Int → Int) (P : Int → Prop) (s s' : NumS) : Prop where
  cnt : s'.2 = s.2
  at_ : ∀ n, P n → s'.1 (F n) = s.1 n
theorem nuC_of {F : Int → Int} {P : Int → Prop} (hF : InjP F P) {s s' : NumS} (h : NuR F P s s') (c : Cel) (hc : c.k = 1 → P c.n) : (nuC s' (renC F c)).1 = (nuC s c).1 ∧ NuR F P (nuC s c).2 (nuC s' (renC F c)).2 := by
  by_cases hk : c.k = 1
  · have hp := hc hk
    have e : renC F c = ⟨c.k, c.s, F c.n⟩ := by unfold renC; rw [if_pos hk]
    rw [e]
    unfold nuC
    rw [if_pos hk, if_pos hk]
    dsimp only
    rw [h.at_ c.n hp]
    cases hs : s.1 c.n with
    | some r => exact ⟨rfl, h⟩
    | none =>
      dsimp only
      refine ⟨by rw [h.cnt], ⟨by dsimp only; rw [h.cnt], fun k hkP => ?_⟩⟩
      dsimp only
      by_cases e2 : k = c.n
      · subst e2; rw [if_pos rfl, if_pos rfl, h.cnt]
      · rw [if_neg e2, if_neg (fun e3 => e2 (hF k c.n hkP hp e3)), h.at_ k hkP]
  · have e : renC F c = c := by unfold renC; rw [if_neg hk]
    rw [e]
    unfold nuC
    rw [if_neg hk, if_neg hk]
    exact ⟨rfl, h⟩
theorem nuL_of {F : Int → Int} {P : Int → Prop} (hF : InjP F P) : ∀ {s s' : NumS} (h : NuR F P s s') (xs : List Cel) (hx : ∀ c ∈ xs, c.k = 1 → P c.n), (nuL s' (xs.map (renC F))).1 = (nuL s xs).1 ∧ NuR F P (nuL s xs).2 (nuL s' (xs.map (renC F))).2
  | s, s', h, [], _ => ⟨rfl, h⟩
  | s, s', h, c :: xs, hx => by
    obtain ⟨a, b⟩ := nuC_of hF h c (hx c List.mem_cons_self)
    obtain ⟨a2, b2⟩ := nuL_of hF b xs (fun d hd => hx d (List.mem_cons_of_mem _ hd))
    exact ⟨by show (nuC s' (renC F c)).1 :: _ = (nuC s c).1 :: _; rw [a, a2], b2⟩
theorem nuLs_of {F : Int → Int} {P : Int → Prop} (hF : InjP F P) : ∀ {s s' : NumS} (h : NuR F P s s') (cs : List (List Cel)) (hx : ∀ xs ∈ cs, ∀ c ∈ xs, c.k = 1 → P c.n), (nuLs s' (cs.map fun c => c.map (renC F))).1 = (nuLs s cs).1
  | s, s', h, [], _ => rfl
  | s, s', h, c :: cs, hx => by
    obtain ⟨a, b⟩ := nuL_of hF h c (hx c List.mem_cons_self)
    have ih := nuLs_of hF b cs (fun d hd => hx d (List.mem_cons_of_mem _ hd))
    show (nuL s' (c.map (renC F))).1 :: _ = (nuL s c).1 :: _
    rw [a, ih]
/-- numbering by first place does not see an injective renaming -/
theorem nu_same_of {F : Int → Int} {P : Int → Prop} (hF : InjP F P) (h : List Cel) (cs : List (List Cel)) (hh : ∀ c ∈ h, c.k = 1 → P c.n) (hx : ∀ xs ∈ cs, ∀ c ∈ xs, c.k = 1 → P c.n) : (nuL nu0 (h.map (renC F))).1 = (nuL nu0 h).1 ∧ (nuLs (nuL nu0 (h.map (renC F))).2 (cs.map fun c => c.map (renC F))).1 = (nuLs (nuL nu0 h).2 cs).1 := by
  obtain ⟨a, b⟩ := nuL_of hF (s := nu0) (s' := nu0) ⟨rfl, fun n _ => rfl⟩ h hh
  exact ⟨a, nuLs_of hF b cs hx⟩
end Go.Proofs.Ytkkiemideldioaa
set_option linter.unusedVariables false
namespace Go.Proofs.Ytkkiemideldioaa
open Go.RowKit

/-! ### every variable of a clause has a register -/
def Mp (m : MkS) (n : Int) : Prop := ∃ r, m.at_ n = some r
theorem Mp.keep {m m' : MkS} {n : Int} (h : Mp m n) (k : NewV m m') : Mp m' n := let ⟨r, e⟩ := h; ⟨r, k.keep n r e⟩
mutual
theorem VarsT.imp {P Q : Int → Prop} (h : ∀ n, P n → Q n) : ∀ {t : Tm}, VarsT P t → VarsT Q t
  | .mk c ts, hv => ⟨fun e => h _ (hv.1 e), VarsTs.imp h hv.2⟩
theorem VarsTs.imp {P Q : Int → Prop} (h : ∀ n, P n → Q n) : ∀ {ts : List Tm}, VarsTs P ts → VarsTs Q ts
  | [], _ => trivial
  | t :: ts, hv => ⟨VarsT.imp h hv.1, VarsTs.imp h hv.2⟩
end
theorem VarsTs.all {P : Int → Prop} : ∀ {ts : List Tm}, (∀ t ∈ ts, VarsT P t) → VarsTs P ts
  | [], _ => trivial
  | t :: ts, h => ⟨h t List.mem_cons_self, VarsTs.all fun u hu => h u (List.mem_cons_of_mem _ hu)⟩
theorem var_mp (m : MkS) (n f g a : Int) : Mp (m.var n f g a) n := by
  unfold MkS.var
  cases h : m.at_ n with
  | some r => exact ⟨r, h⟩
  | none => exact ⟨m.next, by simp [MkS.lay]⟩
theorem leafV {P : Int → Prop} {t : Tm} (hk : Kinds t) (h3 : t.hd.k ≠ 3) (h1 : t.hd.k = 1 → P t.hd.n) : VarsT P t := by
  obtain ⟨c, ts⟩ := t
  have e : ts = [] := hk.2.1 h3
  subst e
  exact ⟨h1, trivial⟩
theorem unifyS_mp : ∀ (ts : List Tm) (m : MkS), KindsL ts → ∀ t ∈ ts, (∃ r, (t, r) ∈ (unifyS ts m).2) ∨ VarsT (Mp (unifyS ts m).1) t
  | [], m, _, t, h => by cases h
  | u :: ts, m, hk, t, h => by
    have hu : u.hd.k = 1 ∨ u.hd.k = 2 ∨ u.hd.k = 3 := KindsL.mem hk u List.mem_cons_self
    unfold unifyS
    by_cases h1 : u.hd.k = 1
    · rw [if_pos h1]
      rcases List.mem_cons.1 h with rfl | h
      · exact .inr (leafV hk.1 (by omega) fun _ => (var_mp m t.hd.n 5 6 0).keep (NewV.of_unify ts _))
      · exact unifyS_mp ts _ hk.2 t h
    · rw [if_neg h1]
      by_cases h2 : u.hd.k = 2
      · rw [if_pos h2]
        rcases List.mem_cons.1 h with rfl | h
        · exact .inr (leafV hk.1 (by omega) fun e => absurd e h1)
        · exact unifyS_mp ts _ hk.2 t h
      · rw [if_neg h2, if_pos (by omega)]
        rcases List.mem_cons.1 h with rfl | h
        · exact .inl ⟨m.next, List.mem_cons_self⟩
        · rcases unifyS_mp ts _ hk.2 t h with ⟨r, hr⟩ | hr
          · exact .inl ⟨r, List.mem_cons_of_mem _ hr⟩
          · exact .inr hr
theorem rowS_mp : ∀ (f : Nat) (ps : List (Tm × Int)) (m : MkS), (∀ p ∈ ps, Kinds p.1) → sumF ps ≤ f → ∀ p ∈ ps, VarsT (Mp (rowS f ps m)) p.1
  | 0, [], _, _, _, p, h => by cases h
  | 0, q :: ps, m, hk, hs, p, h => by
    have := flat_pos q.1
    have e1 : sumF (q :: ps) = q.1.flat.length + sumF ps := by simp [sumF]
    omega
  | f + 1, [], _, _, _, p, h => by cases h
  | f + 1, q :: ps, m, hk, hs, p, h => by
    have hq := hk q List.mem_cons_self
    obtain ⟨hg1, hg2, hg3⟩ := getS_len q m hq
    have hqp := flat_pos q.1
    have hsum : sumF (ps ++ (getS q m).2) ≤ f := by
      have e1 : sumF (q :: ps) = q.1.flat.length + sumF ps := by simp [sumF]
      have e2 : sumF (ps ++ (getS q m).2) = sumF ps + sumF (getS q m).2 := by simp [sumF]
      omega
    have hkk : ∀ p ∈ ps ++ (getS q m).2, Kinds p.1 := fun p hp => by
      rcases List.mem_append.1 hp with hp | hp
      · exact hk p (List.mem_cons_of_mem _ hp)
      · have hm := getS_mem q m p hp
        obtain ⟨⟨c, az⟩, r⟩ := q
        exact kindsL_mem hq.2.2 _ hm
    have ih := rowS_mp f (ps ++ (getS q m).2) (getS q m).1 hkk hsum
    show VarsT (Mp (rowS f (ps ++ (getS q m).2) (getS q m).1)) p.1
    have hnv := NewV.of_row f (ps ++ (getS q m).2) (getS q m).1
    rcases List.mem_cons.1 h with rfl | h
    · obtain ⟨⟨c, az⟩, r⟩ := p
      have hk' : c.k = 1 ∨ c.k = 2 ∨ c.k = 3 := hq.1
      rcases hk' with h1 | h1 | h1
      · refine leafV hq (by show c.k ≠ 3; omega) fun _ => ?_
        have e1 : getS (.mk c az, r) m = (m.var c.n 1 2 r, []) := by unfold getS; simp [Tm.hd, h1]
        rw [e1] at hnv ⊢
        exact (var_mp m c.n 1 2 r).keep hnv
      · exact leafV hq (by show c.k ≠ 3; omega) fun e => by have : c.k = 1 := e; omega
      · have e1 : getS (.mk c az, r) m = unifyS az (m.lay ⟨4, 0, r, c.s, c.n, false⟩) := by unfold getS; simp [Tm.hd, Tm.args, h1]
        refine ⟨fun e => by omega, VarsTs.all fun t ht => ?_⟩
        rcases unifyS_mp az (m.lay ⟨4, 0, r, c.s, c.n, false⟩) hq.2.2 t ht with ⟨r', hr'⟩ | hr'
        · exact ih (t, r') (List.mem_append_right _ (by rw [e1]; exact hr'))
        · rw [e1] at hnv ⊢
          exact VarsT.imp (fun n hn => hn.keep hnv) hr'
    · exact ih p (List.mem_append_left _ h)
theorem setS_mp (t : Tm) (r : Int) (m : MkS) (hk : Kinds t) (h3 : t.hd.k ≠ 3) : VarsT (Mp (setS t.hd r m)) t := by
  refine leafV hk h3 fun h1 => ?_
  unfold setS
  rw [if_pos h1]
  exact var_mp m t.hd.n 9 10 0
theorem setsS_mp : ∀ (ts : List Tm) (rs : List Int) (m : MkS), KindsL ts → ts.length = rs.length → ∀ t ∈ ts, t.hd.k ≠ 3 → VarsT (Mp (setsS ts rs m)) t
  | [], _, _, _, _, t, h, _ => by cases h
  | u :: ts, [], _, _, hl, _, _, _ => by simp at hl
  | u :: ts, r :: rs, m, hk, hl, t, h, h3 => by
    unfold setsS
    rcases List.mem_cons.1 h with rfl | h
    · exact VarsT.imp (fun n hn => hn.keep (NewV.of_sets ts rs _)) (setS_mp t r m hk.1 h3)
    · exact setsS_mp ts rs _ hk.2 (by simpa using hl) t h h3
theorem innerS_rl : ∀ (ts : List Tm) (m : MkS), ts.length = (innerS ts m).2.length
  | [], m => by unfold innerS; rfl
  | t :: ts, m => by
    unfold innerS
    split
    · simp only [List.length_cons]; rw [innerS_rl ts]
    · simp only [List.length_cons]; rw [innerS_rl ts]
mutual
theorem structS_mp : ∀ (t : Tm) (m : MkS), Kinds t → t.hd.k = 3 → VarsT (Mp (structS t m).1) t
  | .mk c ts, m, hk, h3 => by
    have h3' : c.k = 3 := h3
    refine ⟨fun e => by omega, VarsTs.all fun t ht => ?_⟩
    unfold structS
    dsimp only
    by_cases h : t.hd.k = 3
    · refine VarsT.imp (fun n hn => hn.keep ?_) (innerS_mp ts m hk.2.2 t ht h)
      exact ((NewV.fresh _).trans (NewV.lay _ _)).trans (NewV.of_sets ts _ _)
    · exact setsS_mp ts _ _ hk.2.2 (innerS_rl ts m) t ht h
theorem innerS_mp : ∀ (ts : List Tm) (m : MkS), KindsL ts → ∀ t ∈ ts, t.hd.k = 3 → VarsT (Mp (innerS ts m).1) t
  | [], _, _, t, h, _ => by cases h
  | u :: ts, m, hk, t, h, h3 => by
    unfold innerS
    by_cases hu : u.hd.k = 3
    · rw [if_pos hu]
      rcases List.mem_cons.1 h with e | h
      · rw [e]
        exact VarsT.imp (fun n hn => hn.keep (NewV.of_inner ts _)) (structS_mp u m hk.1 hu)
      · exact innerS_mp ts _ hk.2 t h h3
    · rw [if_neg hu]
      rcases List.mem_cons.1 h with rfl | h
      · exact absurd h3 hu
      · exact innerS_mp ts _ hk.2 t h h3
end
theorem lits_mp : ∀ (b : List (Bool × Tm)) (m : MkS), (∀ x ∈ b, Kinds x.2 ∧ x.2.hd.k = 3) → ∀ x ∈ b, VarsT (Mp (b.foldl (fun m x => litS x m) m)) x.2
  | [], _, _, x, h => by cases h
  | y :: b, m, hb, x, h => by
    rw [List.foldl_cons]
    rcases List.mem_cons.1 h with rfl | h
    · obtain ⟨h1, h2⟩ := hb x List.mem_cons_self
      refine VarsT.imp (fun n hn => hn.keep ?_) (structS_mp x.2 m h1 h2)
      exact (NewV.lay _ _).trans (NewV.of_lits b _)
    · exact lits_mp b _ (fun z hz => hb z (List.mem_cons_of_mem _ hz)) x h
end Go.Proofs.Ytkkiemideldioaa
set_option linter.unusedVariables false
namespace Go.Proofs.Ytkkiemideldioaa
open Go.RowKit

theorem rowOf_has : ∀ (ts : List Tm) (i : Nat) (t : Tm), t ∈ ts → ∃ r, (t, r) ∈ rowOf ts i
  | [], _, _, h => by cases h
  | u :: ts, i, t, h => by
    unfold rowOf
    rcases List.mem_cons.1 h with rfl | h
    · exact ⟨_, List.mem_cons_self⟩
    · obtain ⟨r, hr⟩ := rowOf_has ts (i + 1) t h
      exact ⟨r, List.mem_cons_of_mem _ hr⟩
theorem compS_dec2 (h : Tm) (b : List (Bool × Tm)) (hh : Kinds h) (ha : Aris h) (h3 : h.hd.k = 3) (hb : ∀ x ∈ b, Kinds x.2 ∧ Aris x.2 ∧ x.2.hd.k = 3) : ∃ (F : Int → Int) (P : Int → Prop) (ch1 ch2 : List Ins), InjP F P ∧ VarsT P h ∧ (∀ x ∈ b, VarsT P x.2) ∧ compS h b = ch1 ++ (ch2 ++ [⟨13, 0, 0, h.hd.s, h.hd.n, false⟩]) ∧ HeadR (funsOf (compS h b)) ch1 ((rowOf h.args 0).map fun p => renT F p.1) ∧ BodyR ch2 (fun _ => none) (b.map fun x => (x.1, renT F x.2)) := by
  cases h with
  | mk c ts =>
    have hn : c.n = (ts.length : Int) := ha.1 h3
    have hf0 : (⟨[], c.n, fun _ => none⟩ : MkS).fit := ⟨by simp only; omega, fun n r hr => by cases hr⟩
    have hps : ∀ p ∈ rowOf ts 0, Kinds p.1 ∧ 0 ≤ p.2 ∧ p.2 < c.n := fun p hp => by
      have := rowOf_low ts 0 p hp
      exact ⟨KindsL.of hh.2.2 _ (rowOf_mem ts 0 p hp), by omega, by omega⟩
    have hsum : sumF (rowOf ts 0) ≤ 2 * (Tm.mk c ts).flat.length + 1 := by rw [rowOf_sums]; simp [Tm.flat]; omega
    have l1 := rowS_lays (2 * (Tm.mk c ts).flat.length + 1) (rowOf ts 0) ⟨[], c.n, fun _ => none⟩ hps hf0
    obtain ⟨s1, es, hsep⟩ := rowS_sep (2 * (Tm.mk c ts).flat.length + 1) (rowOf ts 0) ⟨[], c.n, fun _ => none⟩ (fun p hp => ⟨(hps p hp).1, (hps p hp).2, fun n q e => by cases e⟩) hf0
    obtain ⟨n4, e4, h4⟩ := lits_no4 b (rowS (2 * (Tm.mk c ts).flat.length + 1) (rowOf ts 0) ⟨[], c.n, fun _ => none⟩) (fun x hx => (hb x hx).1)
    have hnv := NewV.of_lits b (rowS (2 * (Tm.mk c ts).flat.length + 1) (rowOf ts 0) ⟨[], c.n, fun _ => none⟩)
    have hF : FOk (fun n => ((b.foldl (fun m x => litS x m) (rowS (2 * (Tm.mk c ts).flat.length + 1) (rowOf ts 0) ⟨[], c.n, fun _ => none⟩)).at_ n).getD 0) (b.foldl (fun m x => litS x m) (rowS (2 * (Tm.mk c ts).flat.length + 1) (rowOf ts 0) ⟨[], c.n, fun _ => none⟩)) := fun n r e => by simp only; rw [e]; rfl
    have hc : compS (Tm.mk c ts) b = (rowS (2 * (Tm.mk c ts).flat.length + 1) (rowOf ts 0) ⟨[], c.n, fun _ => none⟩).code ++ (n4 ++ [⟨13, 0, 0, c.s, c.n, false⟩]) := by
      unfold compS
      show ((b.foldl (fun m x => litS x m) (rowS (2 * (Tm.mk c ts).flat.length + 1) (rowOf ts 0) ⟨[], c.n, fun _ => none⟩)).lay ⟨13, 0, 0, c.s, c.n, false⟩).code = _
      unfold MkS.lay
      rw [e4]
      simp
    have hv : ∀ n r, (rowS (2 * (Tm.mk c ts).flat.length + 1) (rowOf ts 0) ⟨[], c.n, fun _ => none⟩).at_ n = some r → funsOf (compS (Tm.mk c ts) b) r = false := fun n r e => by
      cases hfo : funsOf (compS (Tm.mk c ts) b) r with
      | false => rfl
      | true =>
        obtain ⟨i, hi, o4, oa⟩ := funsOf_iff.1 hfo
        rw [hc] at hi
        rcases List.mem_append.1 hi with hi | hi
        · have hi' : i ∈ s1 := by rw [es] at hi; simpa using hi
          exact absurd oa.symm ((hsep i hi' o4).2 n r e)
        · rcases List.mem_append.1 hi with hi | hi
          · exact absurd o4 (h4 i hi)
          · simp at hi
            subst hi
            simp at o4
    have hfun : ∀ i ∈ (rowS (2 * (Tm.mk c ts).flat.length + 1) (rowOf ts 0) ⟨[], c.n, fun _ => none⟩).code, i.op = 4 → funsOf (compS (Tm.mk c ts) b) i.a = true := fun i hi o4 => funsOf_iff.2 ⟨i, by rw [hc]; exact List.mem_append_left _ hi, o4, rfl⟩
    obtain ⟨ch1, e1, d1⟩ := rowS_dec (funs := funsOf (compS (Tm.mk c ts) b)) (2 * (Tm.mk c ts).flat.length + 1) (rowOf ts 0) ⟨[], c.n, fun _ => none⟩ (fun p hp => ⟨(hps p hp).1, ArisL.of ha.2 _ (rowOf_mem ts 0 p hp)⟩) hsum (hF.back hnv) hv hfun
    obtain ⟨ch2, e2, d2⟩ := lits_dec b (rowS (2 * (Tm.mk c ts).flat.length + 1) (rowOf ts 0) ⟨[], c.n, fun _ => none⟩) hb l1.1 hF
    have e42 : n4 = ch2 := by rw [e4] at e2; exact List.append_cancel_left e2
    have hI : InjM (b.foldl (fun m x => litS x m) (rowS (2 * (Tm.mk c ts).flat.length + 1) (rowOf ts 0) ⟨[], c.n, fun _ => none⟩)) := InjM.ofLits b (InjM.ofRow _ _ ⟨hf0, fun n n' r e => by cases e⟩)
    refine ⟨_, Mp (b.foldl (fun m x => litS x m) (rowS (2 * (Tm.mk c ts).flat.length + 1) (rowOf ts 0) ⟨[], c.n, fun _ => none⟩)), ch1, ch2, ?_, ?_, ?_, ?_, d1, d2 _ ⟨fun _ _ => rfl, fun _ _ _ => rfl⟩⟩
    · rintro x y ⟨r, hx⟩ ⟨r', hy⟩ e
      have e' : r = r' := by
        have := e
        simp only [hx, hy, Option.getD_some] at this
        exact this
      subst e'
      exact hI.2 x y r hx hy
    · have h3' : c.k = 3 := h3
      refine ⟨fun e => by omega, VarsTs.all fun t ht => ?_⟩
      obtain ⟨k, hk, e⟩ := List.getElem_of_mem ht
      have hm : ∃ r, (t, r) ∈ rowOf ts 0 := rowOf_has ts 0 t ht
      obtain ⟨r, hr⟩ := hm
      exact VarsT.imp (fun n hn => hn.keep hnv) (rowS_mp _ (rowOf ts 0) _ (fun p hp => (hps p hp).1) hsum (t, r) hr)
    · exact lits_mp b _ (fun x hx => ⟨(hb x hx).1, (hb x hx).2.2⟩)
    · rw [hc, e42, e1]
      simp [Tm.hd]
end Go.Proofs.Ytkkiemideldioaa
set_option linter.unusedVariables false
namespace Go.Proofs.Ytkkiemideldioaa
open Go.RowKit

mutual
theorem vars_flat {P : Int → Prop} : ∀ (t : Tm), (∀ c ∈ t.flat, c.k = 1 → P c.n) → VarsT P t
  | .mk c ts, h => by
    simp only [Tm.flat] at h
    exact ⟨h c List.mem_cons_self, vars_flats ts fun d hd => h d (List.mem_cons_of_mem _ hd)⟩
theorem vars_flats {P : Int → Prop} : ∀ (ts : List Tm), (∀ c ∈ flats ts, c.k = 1 → P c.n) → VarsTs P ts
  | [], _ => trivial
  | t :: ts, h => by
    simp only [flats] at h
    exact ⟨vars_flat t fun c hc => h c (List.mem_append_left _ hc), vars_flats ts fun c hc => h c (List.mem_append_right _ hc)⟩
end
mutual
theorem flat_vars {P : Int → Prop} : ∀ (t : Tm), VarsT P t → ∀ c ∈ t.flat, c.k = 1 → P c.n
  | .mk c ts, h, d, hd, hk => by
    simp only [Tm.flat] at hd
    rcases List.mem_cons.1 hd with rfl | hd
    · exact h.1 hk
    · exact flats_vars ts h.2 d hd hk
theorem flats_vars {P : Int → Prop} : ∀ (ts : List Tm), VarsTs P ts → ∀ c ∈ flats ts, c.k = 1 → P c.n
  | [], _, d, hd, _ => by simp [flats] at hd
  | t :: ts, h, d, hd, hk => by
    simp only [flats] at hd
    rcases List.mem_append.1 hd with hd | hd
    · exact flat_vars t h.1 d hd hk
    · exact flats_vars ts h.2 d hd hk
end
/-- a clause's cells numbered by first place: the head's, the literals' -/
def numH (h : Tm) : List Cel := (nuL nu0 h.flat).1
def numB (h : Tm) (bl : List (Bool × Tm)) : List (List Cel) := (nuLs (nuL nu0 h.flat).2 (bl.map fun x => x.2.flat)).1
theorem nu0_inj : NuInj nu0 := ⟨nu0_ok, fun a b r h => by cases h⟩
/-- numbered, it is a clause with the same code -/
theorem num_trees (h : Tm) (bl : List (Bool × Tm)) (hh : Kinds h) (hn : NoName h) (h3 : h.hd.k = 3) (hb : ∀ x ∈ bl, Kinds x.2 ∧ x.2.hd.k = 3 ∧ NoName x.2) : ∃ G : Int → Int, numH h = (renT G h).flat ∧ numB h bl = (bl.map (renL G)).map (fun x => x.2.flat) ∧ compS (renT G h) (bl.map (renL G)) = compS h bl := by
  obtain ⟨S, hS⟩ : ∃ S, (nuLs (nuL nu0 h.flat).2 (bl.map fun x => x.2.flat)).2 = S := ⟨_, rfl⟩
  have hI : NuInj S := by rw [← hS]; exact (nu0_inj.all h.flat).alls _
  have hle : NuLe (nuL nu0 h.flat).2 S := by rw [← hS]; exact nuLs_le _ _
  have hle2 : NuLe (nuLs (nuL nu0 h.flat).2 (bl.map fun x => x.2.flat)).2 S := by rw [hS]; exact fun _ _ e => e
  have hG : ∀ j r, S.1 j = some r → (fun n => (S.1 n).getD 0) j = r := fun j r e => by simp only; rw [e]; rfl
  have hinj : InjP (fun n => (S.1 n).getD 0) (fun n => ∃ r, S.1 n = some r) := by
    rintro a b ⟨r, ha⟩ ⟨r', hb'⟩ e
    have e' : r = r' := by
      have := e
      simp only [ha, hb', Option.getD_some] at this
      exact this
    subst e'
    exact hI.2 a b r ha hb'
  have hvh : VarsT (fun n => ∃ r, S.1 n = some r) h := vars_flat h fun c hc hk => by
    obtain ⟨r, hr⟩ := nuL_some nu0 h.flat c hc hk
    exact ⟨r, hle _ _ hr⟩
  have hvb : ∀ x ∈ bl, VarsT (fun n => ∃ r, S.1 n = some r) x.2 := fun x hx => vars_flat x.2 fun c hc hk => by
    obtain ⟨r, hr⟩ := nuLs_some (nuL nu0 h.flat).2 (bl.map fun x => x.2.flat) x.2.flat (List.mem_map.2 ⟨x, hx, rfl⟩) c hc hk
    exact ⟨r, hle2 _ _ hr⟩
  refine ⟨fun n => (S.1 n).getD 0, ?_, ?_, compS_ren hinj h bl hh h3 hvh fun x hx => ⟨(hb x hx).1, (hb x hx).2.1, hvb x hx⟩⟩
  · unfold numH
    rw [nuL_ren hG nu0 h.flat hle, ren_flat _ h hh hn]
  · unfold numB
    rw [nuLs_ren hG _ _ hle2, List.map_map, List.map_map]
    refine List.map_congr_left fun x hx => ?_
    show x.2.flat.map _ = (renT _ x.2).flat
    rw [ren_flat _ x.2 (hb x hx).1 (hb x hx).2.2]
/-- what is told of a clause's code, numbered, is the clause numbered -/
theorem told_num (h : Tm) (bl : List (Bool × Tm)) (hh : Kinds h) (hn : NoName h) (h3 : h.hd.k = 3) (hb : ∀ x ∈ bl, Kinds x.2 ∧ x.2.hd.k = 3 ∧ NoName x.2) {F : Int → Int} {P : Int → Prop} (hF : InjP F P) (hv : VarsT P h) (hvb : ∀ x ∈ bl, VarsT P x.2) : numH (renT F h) = numH h ∧ numB (renT F h) (bl.map (renL F)) = numB h bl := by
  have hx : ∀ xs ∈ (bl.map fun x => x.2.flat), ∀ c ∈ xs, c.k = 1 → P c.n := fun xs hxs c hc hk => by
    obtain ⟨x, hx, rfl⟩ := List.mem_map.1 hxs
    exact flat_vars x.2 (hvb x hx) c hc hk
  obtain ⟨a, b⟩ := nu_same_of hF h.flat (bl.map fun x => x.2.flat) (flat_vars h hv) hx
  unfold numH numB
  rw [ren_flat F h hh hn]
  refine ⟨a, ?_⟩
  rw [← b, List.map_map, List.map_map]
  congr 2
  refine List.map_congr_left fun x hx => ?_
  show (renT F x.2).flat = x.2.flat.map _
  rw [ren_flat F x.2 (hb x hx).1 (hb x hx).2.2]
end Go.Proofs.Ytkkiemideldioaa
set_option linter.unusedVariables false
namespace Go.Proofs.Ytkkiemideldioaa
open Go.RowKit

mutual
theorem ok_noname : ∀ t : Tm, t.ok → NoName t
  | .mk c ts, h => by
    refine ⟨fun h3 => ?_, oks_nonames ts h.2.2⟩
    have h1 := h.1
    unfold cellOk at h1
    simp only [Bool.or_eq_true, Bool.and_eq_true, decide_eq_true_eq] at h1
    rcases h1 with (h1 | h1) | h1
    · exact (toList_inj _ _).1 (h1.1.1.2.trans (by rw [ByteArray.toList, ByteArray.toList.loop]; rfl))
    · exact (toList_inj _ _).1 (h1.1.1.2.trans (by rw [ByteArray.toList, ByteArray.toList.loop]; rfl))
    · exact absurd h1.1.1.1 h3
theorem oks_nonames : ∀ ts : List Tm, oks ts → NoNames ts
  | [], _ => trivial
  | t :: ts, h => ⟨ok_noname t h.1, oks_nonames ts h.2⟩
end
mutual
theorem ok_aris : ∀ t : Tm, t.ok → Aris t
  | .mk c ts, h => by
    refine ⟨fun h3 => ?_, oks_aris ts h.2.2⟩
    have h1 := h.1
    have h2 := h.2.1
    unfold ar at h2
    rw [if_pos h3] at h2
    unfold cellOk at h1
    simp only [Bool.or_eq_true, Bool.and_eq_true, decide_eq_true_eq] at h1
    rcases h1 with (h1 | h1) | h1
    · have := h1.1.1.1; omega
    · have := h1.1.1.1; omega
    · have := h1.1.2; omega
theorem oks_aris : ∀ ts : List Tm, oks ts → ArisL ts
  | [], _ => trivial
  | t :: ts, h => ⟨ok_aris t h.1, oks_aris ts h.2⟩
end
end Go.Proofs.Ytkkiemideldioaa
set_option linter.unusedVariables false
namespace Go.Proofs.Ytkkiemideldioaa
open Go.RowKit

/-! ### told: a row's registers of Funs -/
theorem Row.takeN {w : World} {a : Option Addr} {c : Nat} {xs : List Ins} (h : Row w a c xs) (k : Nat) : Row w a c (xs.take k) := by
  have hle := h.le
  refine ⟨by rw [List.length_take]; omega, h.max, h.nil, fun i x hi => ?_⟩
  rw [List.getElem?_take] at hi
  split at hi
  · exact h.at_ i x hi
  · cases hi
theorem funsOf_next {L : List Ins} {k : Nat} (hk : k < L.length) (r : Int) : funsOf (L.take (k + 1)) r = (funsOf (L.take k) r || (L[k].op == 4 && L[k].a == r)) := by
  unfold funsOf
  rw [List.take_succ_eq_append_getElem hk, List.any_append]
  simp only [List.any_cons, List.any_nil, Bool.or_false]
/-- the teller made anew -/
theorem TW.start {w W : World} {b off c : Nat} {L : List Ins} (hr : Row w (some ⟨b, off, none⟩) c L) (h1 : L.length ≤ 100000) (hW : Below w.heap.size w W) : TW w (((W.alloc (.map #[] 0)).alloc (.map #[] 0)).alloc (.cells #[.slice (some ⟨b, off, none⟩) L.length c, .map (some W.heap.size), .map (some (W.heap.size + 1)), .bool false] 177)) (W.heap.size + 2) W.heap.size (W.heap.size + 1) { rest := L, funs := fun _ => false, built := fun _ => none, bad := false, nb := 0, H := fun _ => none } (fun _ => .slice none 0 0) := by
  have hs := hW.size
  have hm1 := MapV.made Try.prog 3 W
  have hm2 := MapV.made Try.prog 3 (W.alloc (.map #[] 0))
  rw [World.size_alloc] at hm2
  refine ⟨((hW.alloc hs _).alloc (by simp; omega) _).alloc (by simp; omega) _, ⟨some ⟨b, off, none⟩, c, ?_, hr⟩, ⟨0, by omega, ?_⟩, ⟨0, ⟨Nat.le_refl _, h1⟩, ?_⟩, fun p d h => (by cases h), fun p q dp dq h => (by cases h), by omega, by omega, by omega, by omega⟩
  · have e : W.heap.size + 2 = ((W.alloc (.map #[] 0)).alloc (.map #[] 0)).heap.size := by simp
    rw [e]
    exact heap_alloc_new _ _
  · refine ((hm1.alloc _).alloc _).congr fun i => rfl
  · refine (hm2.alloc _).congr fun i => rfl
end Go.Proofs.Ytkkiemideldioaa
set_option linter.unusedVariables false
namespace Go.Proofs.Ytkkiemideldioaa
open Go.RowKit

/-- what told makes of a row -/
def ToldPost (w : World) (L0 : List Ins) (e : Ins) (r : Ending) (W' : World) : Prop :=
  Below w.heap.size w W' ∧ ((r = .returned (.tuple #[.agg #[.slice none 0 0, .slice none 0 0], .bool false]) ∧ ∀ ch us bs r2, L0 = ch ++ r2 → HeadR (funsOf (L0 ++ [e])) ch us → us.length = e.n.toNat → BodyR r2 (fun _ => none) bs → ¬ e.n ≤ 6) ∨ ∃ (gh ch : Nat) (ab : Option Addr) (cb : Nat) (t : Tm) (ls : List LitV) (lits : List (Bool × Tm)),
    r = .returned (.tuple #[.agg #[.slice (some ⟨gh, 0, none⟩) t.flat.length ch, .slice ab ls.length cb], .bool true]) ∧ AccInv w.heap.size 45 (nuL nu0 t.flat).1 (.slice (some ⟨gh, 0, none⟩) t.flat.length ch) W' ∧ AccInv w.heap.size 55 ls (.slice ab ls.length cb) W' ∧ RowsN W' w.heap.size ls (nuLs (nuL nu0 t.flat).2 (lits.map fun x => x.2.flat)).1 ∧ ls.map LitV.neg = lits.map Prod.fst ∧ t.flat.length + sumT lits ≤ 20000 ∧
    ∀ ch us bs r2, L0 = ch ++ r2 → HeadR (funsOf (L0 ++ [e])) ch us → us.length = e.n.toNat → BodyR r2 (fun _ => none) bs → t = .mk (funI e) us ∧ lits = bs)
theorem hl_le : ∀ lits : List (Bool × Tm), lits.length ≤ sumT lits
  | [] => by simp [sumT]
  | x :: l => by
    have h1 := hl_le l
    have h2 := flat_pos x.2
    unfold sumT at *
    simp only [List.map_cons, List.sum_cons, List.length_cons]
    omega
set_option maxHeartbeats 3200000 in
/-- no body is told, where the head was lost -/
theorem body_bad (W0 w : World) (R fm bm : Nat) (S : TS) (kv : Nat → Value) (hT : TW W0 w R fm bm S kv) (hbad : S.bad = true) :
    Calls Try.prog 125 #[.pointer (some ⟨R, 0, none⟩)] w fun e W' => e = .returned (.slice none 0 0) ∧ W' = w := by
  obtain ⟨ra, rc, r0, _, _, r3, _, _⟩ := hT.cR
  rw [hbad] at r3
  clear hT
  go_enter Try.func125, Try.ntmps125
  go_wp2_with fail
  go_loopg [3] 0 (fun kk vo wr => vo = .slice none 0 0 ∧ wr = w)
  case atStart => exact ⟨rfl, rfl⟩
  case round =>
    obtain ⟨rfl, rfl⟩ := hrel
    cases hS : S.rest with
    | nil =>
      rw [hS] at r0
      rw [List.length_nil] at r0
      go_wp2_with fail
      go_ret
      exact ⟨rfl, rfl⟩
    | cons i l =>
      rw [hS] at r0
      rw [List.length_cons] at r0
      clear hS
      go_wp2_with fail
      go_ret
      exact ⟨rfl, rfl⟩
set_option maxRecDepth 100000 in
set_option maxHeartbeats 12800000 in
theorem told_any (w : World) (b off c : Nat) (L0 : List Ins) (e : Ins) (hr : Row w (some ⟨b, off, none⟩) c (L0 ++ [e])) (h1 : L0.length ≤ 3600) :
    Calls Try.prog 63 #[.slice (some ⟨b, off, none⟩) (L0.length + 1) c] w (ToldPost w L0 e) := by
  have hll : (L0 ++ [e]).length = L0.length + 1 := by simp
  have hle := hr.le
  have hmx := hr.max
  rw [hll] at hle
  have hat : ∀ i (hi : i < (L0 ++ [e]).length), Rep.E w b (off + i * Rep.sz Ins) (L0 ++ [e])[i] := fun i hi => by
    obtain ⟨b', off', e1, h2⟩ := hr.at_ i _ (List.getElem?_eq_getElem hi)
    cases e1
    exact h2
  have HAT := mkHid hat
  have HR := mkHid (hr.takeN L0.length)
  have hel : (L0 ++ [e])[L0.length]'(by omega) = e := by simp
  obtain ⟨c0, c1, c2, c3, c4, c5, hfit⟩ := ins_at hat ((Below.refl w.heap.size w).new (.cells #[.slice none 0 0, .slice none 0 0] 25)) (k := L0.length) (by omega)
  rw [hel] at c0 c1 c2 c3 c4 c5 hfit
  have HFIT := mkHid hfit
  obtain ⟨o1, o2, x1', x2', a1, a2, hsz, hn1, hn2⟩ := hfit
  have HLL := mkHid hll
  clear hat hr hll hel
  have hmm := @run_makeMap Try.prog
  go_enter Try.func63, Try.ntmps63
  by_cases h6 : e.n > 6
  · have HN := mkHid h6
    have hbz := ((Below.refl w.heap.size w).new (.cells #[.slice none 0 0, .slice none 0 0] 25)).new (.cells #[.int .i64 e.op, .int .i64 e.x, .int .i64 e.a, .string e.s, .int .i64 e.n, .bool e.neg] 48)
    have HBZ := mkHid hbz
    clear hbz
    go_wp2_with fail
    refine bodyPost_ret (v := .tuple #[.agg #[.slice none 0 0, .slice none 0 0], .bool false]) (by simp [results, Try.results63, go_sem, *]) rfl ⟨?_, .inl ⟨rfl, fun ch us bs r2 _ _ _ _ => by have := HN.out; omega⟩⟩
    exact HBZ.out
  · go_wp2_with fail
    obtain ⟨w2, hw2⟩ : ∃ X, ((w.alloc (.cells #[.slice none 0 0, .slice none 0 0] 25)).alloc (.cells #[.int .i64 e.op, .int .i64 e.x, .int .i64 e.a, .string e.s, .int .i64 e.n, .bool e.neg] 48)) = X := ⟨_, rfl⟩
    have hb2 : Below w.heap.size w w2 := by rw [← hw2]; exact ((Below.refl w.heap.size w).new _).new _
    have hs2 : w2.heap.size = w.heap.size + 2 := by rw [← hw2]; simp
    have hcl : w2.heap[w.heap.size]? = some (.cells #[.slice none 0 0, .slice none 0 0] 25 (0, 0)) := by
      rw [← hw2, heap_alloc_old _ _ (by simp)]; exact heap_alloc_new _ _
    have hbe : w2.heap[w.heap.size + 1]? = some (.cells #[.int .i64 e.op, .int .i64 e.x, .int .i64 e.a, .string e.s, .int .i64 e.n, .bool e.neg] 48 (0, 0)) := by
      rw [← hw2]
      have e1 : w.heap.size + 1 = (w.alloc (.cells #[.slice none 0 0, .slice none 0 0] 25)).heap.size := by simp
      rw [e1]; exact heap_alloc_new _ _
    have hr0 := HR.out
    rw [List.take_left' rfl] at hr0
    have HTS := mkHid (TW.start hr0 (by omega) hb2)
    have HM0 := mkHid (((MapV.made Try.prog 3 w2).alloc (.map #[] 0)).alloc (.cells #[.slice (some ⟨b, off, none⟩) L0.length c, .map (some w2.heap.size), .map (some (w2.heap.size + 1)), .bool false] 177))
    obtain ⟨w3, hw3⟩ : ∃ X, (((w2.alloc (.map #[] 0)).alloc (.map #[] 0)).alloc (.cells #[.slice (some ⟨b, off, none⟩) L0.length c, .map (some w2.heap.size), .map (some (w2.heap.size + 1)), .bool false] 177)) = X := ⟨_, rfl⟩
    have hs3 : w3.heap.size = w.heap.size + 5 := by rw [← hw3]; simp [hs2]
    have hcl3 : w3.heap[w.heap.size]? = some (.cells #[.slice none 0 0, .slice none 0 0] 25 (0, 0)) := by
      rw [← hw3, heap_alloc_old _ _ (by simp; omega), heap_alloc_old _ _ (by simp; omega), heap_alloc_old _ _ (by omega)]; exact hcl
    have hbe3 : w3.heap[w.heap.size + 1]? = some (.cells #[.int .i64 e.op, .int .i64 e.x, .int .i64 e.a, .string e.s, .int .i64 e.n, .bool e.neg] 48 (0, 0)) := by
      rw [← hw3, heap_alloc_old _ _ (by simp; omega), heap_alloc_old _ _ (by simp; omega), heap_alloc_old _ _ (by omega)]; exact hbe
    rw [hw3, hs2] at HTS HM0
    have hb3 : Below w.heap.size w w3 := HTS.out.bel
    have HW : Hid ((((((w.alloc (.cells #[.slice none 0 0, .slice none 0 0] 25)).alloc (.cells #[.int .i64 e.op, .int .i64 e.x, .int .i64 e.a, .string e.s, .int .i64 e.n, .bool e.neg] 48)).alloc (.map #[] 0)).alloc (.map #[] 0)).alloc (.cells #[.slice (some ⟨b, off, none⟩) L0.length c, .map (some (w.heap.size + 2)), .map (some (w.heap.size + 3)), .bool false] 177)) = w3) := by
      rw [Hid, hw2, ← hw3, hs2]
    have HT0 := mkHid (Tr.refl HTS.out)
    have HS3 := mkHid hs3
    have HCL := mkHid hcl3
    have HBE := mkHid hbe3
    have HN6 := mkHid h6
    have HMM := mkHid (show MapV Try.prog 3 w3 (w.heap.size + 2) 0 (MapF (funsOf ((L0 ++ [e]).take 0))) from HM0.out.congr fun i => rfl)
    clear hw2 hb2 hs2 hcl hbe hr0 hw3 hs3 hcl3 hbe3 hb3 h6 c0 c1 c2 c3 c4 c5 hmm HM0
    obtain ⟨kv0, hkv0⟩ : ∃ x : Nat → Value, x = fun _ => .slice none 0 0 := ⟨_, rfl⟩
    rw [← hkv0] at HT0 HTS
    clear hkv0
    have hre : Hid (w.heap.size + 1 + 1 + 1 + 1 = w.heap.size + 4) := by rw [Hid]
    try rw [hre.out]
    clear hre
    obtain ⟨S0, hS0⟩ : ∃ S0 : Nat → TS, ∀ k, S0 k = { rest := L0, funs := funsOf ((L0 ++ [e]).take k), built := fun _ => none, bad := false, nb := 0, H := fun _ => none } := ⟨_, fun _ => rfl⟩
    have HS0 := mkHid hS0
    have HT0' : Hid (Tr w w3 (w.heap.size + 4) (w.heap.size + 2) (w.heap.size + 3) (S0 0) kv0 w3 (S0 0) kv0) := by
      rw [Hid, hS0]; exact HT0.out
    clear HT0 hS0
    first | rw [HW.out] | skip
    go_loopw [7, 32] (fun _ i wr => ∃ k : Nat, i = .int .i64 k ∧ k ≤ L0.length + 1 ∧ Hid (Tr w w3 (w.heap.size + 4) (w.heap.size + 2) (w.heap.size + 3) (S0 0) kv0 wr (S0 k) kv0) ∧ Hid (∃ n, n ≤ k ∧ MapV Try.prog 3 wr (w.heap.size + 2) n (MapF (funsOf ((L0 ++ [e]).take k))))) (fun _ i wr => (L0.length + 1) - (intOf i).toNat)
    case atStart => exact ⟨0, rfl, Nat.zero_le _, HT0', mkHid ⟨0, Nat.le_refl _, HMM.out⟩⟩
    case round =>
      clear HT0'
      obtain ⟨k, rfl, hk, HT, HMK⟩ := hrel
      by_cases hlt : k < L0.length + 1
      · have hkl : k < (L0 ++ [e]).length := by rw [HLL.out]; exact hlt
        obtain ⟨c0, c1, c2, c3, c4, c5, hfx⟩ := ins_at HAT.out HT.out.tw.bel hkl
        have HNX := mkHid (fun r => funsOf_next hkl r)
        obtain ⟨x, hx⟩ : ∃ x, (L0 ++ [e])[k] = x := ⟨_, rfl⟩
        rw [hx] at c0 c1 c2 c3 c4 c5 hfx HNX
        clear hx
        have hxa1 := hfx.a1
        have hxa2 := hfx.a2
        clear hfx
        have hb5 := (Below.refl wr.heap.size wr).new (.cells #[.int .i64 x.op, .int .i64 x.x, .int .i64 x.a, .string x.s, .int .i64 x.n, .bool x.neg] 48)
        have HT5 := mkHid (HT.out.below hb5)
        obtain ⟨n, hn, hm⟩ := HMK.out
        have hm5 := hm.below hb5
        by_cases h4 : x.op = 4
        · have t4 : (x.op == 4) = true := by simp [h4]
          have HF : Hid (∀ r, funsOf ((L0 ++ [e]).take (k + 1)) r = (funsOf ((L0 ++ [e]).take k) r || (x.a == r))) := fun r => by rw [HNX.out, h4]; simp
          clear h4 hb5 hm
          go_wp2_with fail
          obtain ⟨w5, hw5⟩ : ∃ X, wr.alloc (.cells #[.int .i64 x.op, .int .i64 x.x, .int .i64 x.a, .string x.s, .int .i64 x.n, .bool x.neg] 48) = X := ⟨_, rfl⟩
          have hx2 : w5.cell? ⟨wr.heap.size, 2, none⟩ = some (.int .i64 x.a) := by rw [← hw5]; exact World.cell?_alloc_at _ _ _ _ rfl
          rw [hw5] at HT5 hm5 ⊢
          clear hw5
          obtain ⟨_, _, _, r1, _, _, _, _⟩ := HT5.out.tw.cR
          have hbd : Below w5.heap.size w5 w5.drew := (Below.refl _ _).drew
          have HT6 := mkHid (HT5.out.below hbd)
          obtain ⟨w8, hrun, hm8, hg8⟩ := (hm5.below hbd).run_updN (t := 174) (e := 4) Try.underlying3 Try.underlying174 (by omega) x.a (wf64 hxa1 hxa2) (.bool true)
          have hm8' := hm8.congr (g := MapF (funsOf ((L0 ++ [e]).take (k + 1)))) (fun i => by
            unfold MapF
            rw [HF.out]
            by_cases hi : i = x.a
            · subst hi; simp
            · have : (x.a == i) = false := by simpa using fun e => hi e.symm
              rw [if_neg hi, this, Bool.or_false])
          have hf8 : Fr [w.heap.size + 2] w5.drew w8 := grown_frN hg8
          have HT8 : Hid (Tr w w3 (w.heap.size + 4) (w.heap.size + 2) (w.heap.size + 3) (S0 0) kv0 w8 (S0 (k + 1)) kv0) := by
            have h1 := Tr.of (HT6.out.tw.blkF hf8 (funs := funsOf ((L0 ++ [e]).take (k + 1))) (by omega : n + 1 ≤ 100000) hm8')
            have h2 := HT6.out.trans h1
            rw [HS0.out k] at h2
            rw [Hid, HS0.out (k + 1)]
            exact h2
          have HM8 : Hid (∃ n, n ≤ k + 1 ∧ MapV Try.prog 3 w8 (w.heap.size + 2) n (MapF (funsOf ((L0 ++ [e]).take (k + 1))))) := ⟨n + 1, by omega, hm8'⟩
          have hx8 : w8.cell? ⟨wr.heap.size, 2, none⟩ = some (.int .i64 x.a) := by
            have h5 := HT.out.fr.size
            have h6 := HS3.out
            exact (World.cell?_of_block (a := ⟨wr.heap.size, 2, none⟩) (hg8.block wr.heap.size (cell_lt (keep hx2 hbd)) (by simp; omega))).trans (keep hx2 hbd)
          have HX8 := mkHid hx8
          clear hm8 hm8' hg8 hf8 hm5 c0 c1 c2 c3 c4 c5 hx8
          refine wp_region_noPanic ?_
          refine wp_region_held_drew (S := fun X => X.cell? ⟨w.heap.size + 4, 1, none⟩ = some (.map (some (w.heap.size + 2))) ∧ X.cell? ⟨wr.heap.size, 2, none⟩ = some (.int .i64 x.a)) (by kernel_rfl) ⟨keep r1 hbd, keep hx2 hbd⟩ (fun hSd => ?_)
          refine wpAnyH_take (i := 0) (oi := _) (v := ?_) rfl (by kernel_rfl) (by kernel_rfl) (by kernel_rfl) (fun _ _ _ h => h) (Or.inl ⟨by rfl, ?_⟩) (by assumption) ?_
          rotate_left
          · (intro w' hSw; obtain ⟨z0, z1⟩ := hSw; go_simp; try with_reducible rfl)
          (try simp only [List.getElem_toArray, List.getElem_cons_succ, List.getElem_cons_zero, Act.put, List.setIfInBounds_toArray, List.set_cons_zero, List.set_cons_succ])
          refine wpAnyH_take (i := 1) (oi := _) (v := ?_) rfl (by kernel_rfl) (by kernel_rfl) (by kernel_rfl) (fun _ _ _ h => h) (Or.inl ⟨by rfl, ?_⟩) (by assumption) ?_
          rotate_left
          · (intro w' hSw; obtain ⟨z0, z1⟩ := hSw; go_simp; try with_reducible rfl)
          (try simp only [List.getElem_toArray, List.getElem_cons_succ, List.getElem_cons_zero, Act.put, List.setIfInBounds_toArray, List.set_cons_zero, List.set_cons_succ])
          refine wpAnyH_take (i := 2) (oi := _) (v := ?_) rfl (by kernel_rfl) (by kernel_rfl) (by kernel_rfl) (fun _ _ _ h => h) (Or.inl ⟨by rfl, ?_⟩) (by assumption) ?_
          rotate_left
          · (intro w' hSw; obtain ⟨z0, z1⟩ := hSw; go_simp; try with_reducible rfl)
          (try simp only [List.getElem_toArray, List.getElem_cons_succ, List.getElem_cons_zero, Act.put, List.setIfInBounds_toArray, List.set_cons_zero, List.set_cons_succ])
          refine wpAnyH_take (i := 3) (oi := _) (v := ?_) rfl (by kernel_rfl) (by kernel_rfl) (by kernel_rfl) (fun _ _ _ h => h) (Or.inl ⟨by rfl, ?_⟩) (by assumption) ?_
          rotate_left
          · (intro w' hSw; obtain ⟨z0, z1⟩ := hSw; go_simp; try with_reducible rfl)
          (try simp only [List.getElem_toArray, List.getElem_cons_succ, List.getElem_cons_zero, Act.put, List.setIfInBounds_toArray, List.set_cons_zero, List.set_cons_succ])
          refine wpAnyH_take (i := 4) (oi := _) (v := ?_) rfl (by kernel_rfl) (by kernel_rfl) (by kernel_rfl) (fun _ _ _ h => h) (Or.inl ⟨by rfl, ?_⟩) (by assumption) ?_
          rotate_left
          · (intro w' hSw; obtain ⟨z0, z1⟩ := hSw; go_simp; try with_reducible rfl)
          (try simp only [List.getElem_toArray, List.getElem_cons_succ, List.getElem_cons_zero, Act.put, List.setIfInBounds_toArray, List.set_cons_zero, List.set_cons_succ])
          refine wpAnyH_take (i := 5) (oi := _) (v := ?_) rfl (by kernel_rfl) (by kernel_rfl) (by kernel_rfl) (fun _ _ _ h => h) (Or.inl ⟨by rfl, ?_⟩) (by assumption) ?_
          rotate_left
          · (intro w' hSw; obtain ⟨z0, z1⟩ := hSw; go_simp; try with_reducible rfl)
          (try simp only [List.getElem_toArray, List.getElem_cons_succ, List.getElem_cons_zero, Act.put, List.setIfInBounds_toArray, List.set_cons_zero, List.set_cons_succ])
          have HS8 : Hid (w8.cell? ⟨w.heap.size + 4, 1, none⟩ = some (.map (some (w.heap.size + 2))) ∧ w8.cell? ⟨wr.heap.size, 2, none⟩ = some (.int .i64 x.a)) := by
            obtain ⟨_, _, _, r8, _⟩ := HT8.out.tw.cR
            exact ⟨r8, HX8.out⟩
          refine wpAnyH_ready (rs := [6]) (by kernel_rfl) (by simp) ?_
          refine AllReadyH.cons (o := _) rfl (fun K hK => ?_) AllReadyH.nil
          (rw [if_pos (by rfl)]; simp [Oper.wp, execOp, resolve, invoke, Oper.upon, Act.eval, hrun, Result.andThen, Sem.run_bind])
          try dsimp only
          refine hK.out _ _ HS8.out (fun _ => ?_)
          clear hK K
          (try simp only [List.getElem_toArray, List.getElem_cons_succ, List.getElem_cons_zero, Act.put, List.setIfInBounds_toArray, List.set_cons_zero, List.set_cons_succ])
          refine wpAnyH_done (by kernel_rfl) (NoPanic.normal ?_) _
          clear hrun HS8
          go_wp2_with fail
          go_round
          case rel => exact ⟨k + 1, by go_num, by omega, HT8, HM8⟩
          case measure => simp [intOf]; omega
        · have t4 : (x.op == 4) = false := by simp [h4]
          have HF : Hid (funsOf ((L0 ++ [e]).take (k + 1)) = funsOf ((L0 ++ [e]).take k)) := funext fun r => by rw [HNX.out, t4]; simp
          have HT6 : Hid (Tr w w3 (w.heap.size + 4) (w.heap.size + 2) (w.heap.size + 3) (S0 0) kv0 (wr.alloc (.cells #[.int .i64 x.op, .int .i64 x.x, .int .i64 x.a, .string x.s, .int .i64 x.n, .bool x.neg] 48)) (S0 (k + 1)) kv0) := by
            have h2 := HT5.out
            rw [HS0.out k] at h2
            rw [Hid, HS0.out (k + 1), HF.out]
            exact h2
          have HM6 : Hid (∃ n, n ≤ k + 1 ∧ MapV Try.prog 3 (wr.alloc (.cells #[.int .i64 x.op, .int .i64 x.x, .int .i64 x.a, .string x.s, .int .i64 x.n, .bool x.neg] 48)) (w.heap.size + 2) n (MapF (funsOf ((L0 ++ [e]).take (k + 1))))) := by
            rw [Hid, HF.out]; exact ⟨n, by omega, hm5⟩
          clear h4 hb5 hm hm5
          go_wp2_with fail
          go_round
          case rel => exact ⟨k + 1, by go_num, by omega, HT6, HM6⟩
          case measure => simp [intOf]; omega
      · obtain rfl : k = L0.length + 1 := by omega
        have hno : ∀ b', b' < w.heap.size + 2 → ¬ Own (w.heap.size + 4) (w.heap.size + 2) (w.heap.size + 3) (S0 0) kv0 b' := fun b' hb' hO => by
          rw [HS0.out 0] at hO
          rcases hO with h | h | h | ⟨d, h⟩ | ⟨p, d, h, _⟩
          · omega
          · omega
          · omega
          · cases h
          · cases h
        have hcl := (HT.out.fr.block w.heap.size (by have := HS3.out; omega) (hno _ (by omega))).trans HCL.out
        have hbe := (HT.out.fr.block (w.heap.size + 1) (by have := HS3.out; omega) (hno _ (by omega))).trans HBE.out
        have hws : w.heap.size + 5 ≤ wr.heap.size := by have h5 := HT.out.fr.size; have h6 := HS3.out; omega
        have hTW : TW w wr (w.heap.size + 4) (w.heap.size + 2) (w.heap.size + 3) { rest := L0, funs := funsOf (L0 ++ [e]), built := fun _ => none, bad := false, nb := 0, H := fun _ => none } kv0 := by
          have h := HT.out.tw
          rw [HS0.out, List.take_of_length_le (by have := HLL.out; omega)] at h
          exact h
        have HNO : Hid (∀ b', b' < w.heap.size + 2 → ¬ Own (w.heap.size + 4) (w.heap.size + 2) (w.heap.size + 3) { rest := L0, funs := funsOf (L0 ++ [e]), built := fun _ => none, bad := false, nb := 0, H := fun _ => none } kv0 b') := fun b' hb' hO => by
          rcases hO with h | h | h | ⟨d, h⟩ | ⟨p, d, h, _⟩
          · omega
          · omega
          · omega
          · cases h
          · cases h
        have HTW := mkHid hTW
        have HCL' := mkHid hcl
        have HWS := mkHid hws
        have d0 : wr.cell? ⟨w.heap.size + 1, 0, none⟩ = some (.int .i64 e.op) := by rw [cell_of_row wr _ 0 _ _ _ hbe]; rfl
        have d1 : wr.cell? ⟨w.heap.size + 1, 1, none⟩ = some (.int .i64 e.x) := by rw [cell_of_row wr _ 1 _ _ _ hbe]; rfl
        have d2 : wr.cell? ⟨w.heap.size + 1, 2, none⟩ = some (.int .i64 e.a) := by rw [cell_of_row wr _ 2 _ _ _ hbe]; rfl
        have d3 : wr.cell? ⟨w.heap.size + 1, 3, none⟩ = some (.string e.s) := by rw [cell_of_row wr _ 3 _ _ _ hbe]; rfl
        have d4 : wr.cell? ⟨w.heap.size + 1, 4, none⟩ = some (.int .i64 e.n) := by rw [cell_of_row wr _ 4 _ _ _ hbe]; rfl
        have d5 : wr.cell? ⟨w.heap.size + 1, 5, none⟩ = some (.bool e.neg) := by rw [cell_of_row wr _ 5 _ _ _ hbe]; rfl
        clear hno hcl hbe hTW hws
        go_wp2_with fail
        refine (thead_any w wr _ _ _ _ kv0 HTW.out e HFIT.out (by have := HN6.out; omega) rfl).mono ?_
        rintro e5 w5 ⟨a5, n5, c5, t, rest5, bad5, H5, kv5, rfl, hT5, hA5, ho5, hl5, hc5⟩
        have HT5 := mkHid hT5
        have HA5 := mkHid hA5
        have HO5 := mkHid ho5
        have HC5 := mkHid hc5
        have HL5 := mkHid hl5
        clear hT5 hA5 ho5 hc5 hl5 d0 d1 d2 d3 d4 d5
        go_wp2_with fail
        cases bad5 with
        | true =>
          refine (body_bad w w5 _ _ _ _ kv5 HT5.out.tw rfl).mono ?_
          rintro e6 w6 ⟨rfl, hw6⟩
          subst hw6
          obtain ⟨_, _, _, _, _, r3, _, _⟩ := HT5.out.tw.cR
          dsimp only at r3
          have hcl6 := (HT5.out.fr.block w.heap.size (by have := HWS.out; omega) (HNO.out _ (by omega))).trans HCL'.out
          have l0 : w6.cell? ⟨w.heap.size, 0, none⟩ = some (.slice none 0 0) := by rw [cell_of_row w6 _ 0 _ _ _ hcl6]; rfl
          have l1 : w6.cell? ⟨w.heap.size, 1, none⟩ = some (.slice none 0 0) := by rw [cell_of_row w6 _ 1 _ _ _ hcl6]; rfl
          have g0 : w6.frozen? ⟨w.heap.size, 0, none⟩ = false := by simp [World.frozen?, hcl6]
          have g1 : w6.frozen? ⟨w.heap.size, 1, none⟩ = false := by simp [World.frozen?, hcl6]
          clear hcl6
          go_wp2_with fail
          refine bodyPost_ret (v := .tuple #[.agg #[.slice none 0 0, .slice none 0 0], .bool false]) (by simp [results, Try.results63, go_sem, *]) rfl ⟨?_, .inl ⟨rfl, fun ch us bs r2 h1 h2 h3 h4 => ?_⟩⟩
          · exact (HT5.out.tw.bel.setCell (by simp) _).setCell (by simp) _
          · have := (HC5.out ch us r2 h1 h2 h3).1
            cases this
        | false =>
          refine (body_any w w5 _ _ _ _ kv5 HT5.out.tw rfl (fun i => rfl) (Nat.zero_le _)).mono ?_
          rintro e6 w6 ⟨a6, n6, c6, ls, lits, rest6, bad6, built6, nb6, H6, kv6, rfl, hT6, hA6, ho6, hok6, hl6, hc6⟩
          have hTT := HT5.out.trans hT6
          have HT6 := mkHid hTT
          have HA6 := mkHid hA6
          have HOK6 := mkHid hok6
          have HC6 := mkHid hc6
          have HL6 := mkHid hl6
          have HA56 := mkHid (hT6.fr.acc (fun h => h) HA5.out HO5.out)
          have hcl6 := (hTT.fr.block w.heap.size (by have := HWS.out; omega) (HNO.out _ (by omega))).trans HCL'.out
          have l0 : w6.cell? ⟨w.heap.size, 0, none⟩ = some (.slice none 0 0) := by rw [cell_of_row w6 _ 0 _ _ _ hcl6]; rfl
          have l1 : w6.cell? ⟨w.heap.size, 1, none⟩ = some (.slice none 0 0) := by rw [cell_of_row w6 _ 1 _ _ _ hcl6]; rfl
          have g0 : w6.frozen? ⟨w.heap.size, 0, none⟩ = false := by simp [World.frozen?, hcl6]
          have g1 : w6.frozen? ⟨w.heap.size, 1, none⟩ = false := by simp [World.frozen?, hcl6]
          obtain ⟨_, _, _, _, _, r3, _, _⟩ := hTT.tw.cR
          dsimp only at r3
          have h56 : w5.heap.size ≤ w6.heap.size := hT6.fr.size
          have h35 : wr.heap.size ≤ w5.heap.size := HT5.out.fr.size
          have HSZ := mkHid (And.intro h35 h56)
          clear hTT hT6 hA6 ho6 hok6 hc6 hl6 h56 h35
          cases bad6 with
          | true =>
            clear hcl6
            go_wp2_with fail
            refine bodyPost_ret (v := .tuple #[.agg #[.slice none 0 0, .slice none 0 0], .bool false]) (by simp [results, Try.results63, go_sem, *]) rfl ⟨?_, .inl ⟨rfl, fun ch us bs r2 h1 h2 h3 h4 => ?_⟩⟩
            · exact (HT6.out.tw.bel.setCell (by simp) _).setCell (by simp) _
            · obtain ⟨_, hr5, _⟩ := HC5.out ch us r2 h1 h2 h3
              subst hr5
              have := (HC6.out bs h4).1
              cases this
          | false =>
            have hok := HOK6.out rfl
            have hll := hok.len
            obtain ⟨gh, ch, hgh⟩ := row_lit HA56.out (List.ne_nil_of_length_pos (flat_pos t))
            injection hgh with hg1 hg2 hg3
            subst hg1
            subst hg2
            subst hg3
            have hn6 : n6 = ls.length := by
              obtain ⟨a', c', e9, _⟩ := HA6.out.row
              cases e9
              rfl
            subst hn6
            have hghl : gh < w5.heap.size := (HA5.out.lt gh rfl).2
            have hneq : ∀ l ∈ ls, l.v.ownBlock ≠ some gh := fun l hl e9 => by
              obtain ⟨x9, hx9⟩ := hok.of hl
              have := (hx9.lt gh e9).1
              omega
            have hrows : RowsN w6 wr.heap.size ls (lits.map fun x => x.2.flat) := ⟨fun k9 l9 c9 q1 q2 => by
              rw [List.getElem?_map] at q2
              cases q3 : lits[k9]? with
              | none => rw [q3] at q2; cases q2
              | some x9 =>
                rw [q3] at q2
                cases q2
                exact (hok.at_ k9 l9 x9 q1 q3).baseN HSZ.out.1⟩
            have hsz : t.flat.length + sumL (lits.map fun x => x.2.flat) ≤ 20000 := by
              have q1 := HL5.out
              have q2 := HL6.out
              dsimp only at q1 q2
              have q3 : sumL (lits.map fun x => x.2.flat) = sumT lits := by unfold sumL sumT; rw [List.map_map]; rfl
              omega
            have hlls : ls.length ≤ 20000 := by
              have q1 := hl_le lits
              have q3 : sumL (lits.map fun x => x.2.flat) = sumT lits := by unfold sumL sumT; rw [List.map_map]; rfl
              omega
            have hb7 := (Below.refl w6.heap.size w6).new (.cells #[.slice (some ⟨gh, 0, none⟩) t.flat.length c5, .slice a6 ls.length c6] 25)
            have hlbl : ∀ l ∈ ls, ∀ b9, l.v.ownBlock = some b9 → w5.heap.size ≤ b9 ∧ b9 < w6.heap.size := fun l hl b9 e9 => by
              obtain ⟨x9, hx9⟩ := hok.of hl
              exact hx9.lt b9 e9
            have hghr : wr.heap.size ≤ gh := (HA5.out.lt gh rfl).1
            have HA7 := mkHid (HA56.out.below hb7)
            have HL7 := mkHid (HA6.out.below hb7)
            have HR7 := mkHid (hrows.blocks (W' := (w6.alloc (.cells #[.slice (some ⟨gh, 0, none⟩) t.flat.length c5, .slice a6 ls.length c6] 25))) (fun l hl b9 e9 => hb7.block b9 (hlbl l hl b9 e9).2))
            have HLB := mkHid hlbl
            have HOK := mkHid hok
            have HNQ := mkHid hneq
            have HSS := mkHid hsz
            have HGG := mkHid (And.intro hghl hghr)
            have HCL6 := mkHid hcl6
            have HLLL := mkHid hll
            have HN3 := mkHid hlls
            clear hb7 hlbl hok hneq hsz hrows hghl hghr hcl6 l0 l1 g0 g1 hll hlls
            have hnum := numberC_any (w6.alloc (.cells #[.slice (some ⟨gh, 0, none⟩) t.flat.length c5, .slice a6 ls.length c6] 25)) gh wr.heap.size c5 w5.heap.size t.flat ls (lits.map fun x => x.2.flat) a6 ls.length c6 HA7.out HL7.out HR7.out (by rw [List.length_map]; exact HLLL.out) (fun c9 hc9 => by
              obtain ⟨x9, _, rfl⟩ := List.mem_map.1 hc9
              exact List.ne_nil_of_length_pos (flat_pos _)) HNQ.out HOK.out.sep (by have := HSS.out; omega) (by have := HN3.out; omega)
            have HNUM := mkHid hnum
            clear hnum
            go_wp2_with fail
            refine HNUM.out.mono ?_
            rintro e8 w8 ⟨rfl, hN8⟩
            have z1 := HWS.out
            have z2 := HSZ.out.1
            have z3 := HSZ.out.2
            have z4 := HGG.out.1
            have z5 := HGG.out.2
            have hcl8 : w8.heap[w.heap.size]? = some (.cells #[.slice none 0 0, .slice none 0 0] 25 (0, 0)) := by
              rw [hN8.bel w.heap.size (by simp; omega) (by omega) (fun l hl e9 => by have := (HLB.out l hl _ e9).1; omega), heap_alloc_old _ _ (by omega)]; exact HCL6.out
            have hcb8 : w8.heap[w6.heap.size]? = some (.cells #[.slice (some ⟨gh, 0, none⟩) t.flat.length c5, .slice a6 ls.length c6] 25 (0, 0)) := by
              rw [hN8.bel w6.heap.size (by simp) (by omega) (fun l hl e9 => by have := (HLB.out l hl _ e9).2; omega)]; exact heap_alloc_new _ _
            have k0 : w8.cell? ⟨w6.heap.size, 0, none⟩ = some (.slice (some ⟨gh, 0, none⟩) t.flat.length c5) := by rw [cell_of_row w8 _ 0 _ _ _ hcb8]; rfl
            have k1 : w8.cell? ⟨w6.heap.size, 1, none⟩ = some (.slice a6 ls.length c6) := by rw [cell_of_row w8 _ 1 _ _ _ hcb8]; rfl
            have l0 : w8.cell? ⟨w.heap.size, 0, none⟩ = some (.slice none 0 0) := by rw [cell_of_row w8 _ 0 _ _ _ hcl8]; rfl
            have l1 : w8.cell? ⟨w.heap.size, 1, none⟩ = some (.slice none 0 0) := by rw [cell_of_row w8 _ 1 _ _ _ hcl8]; rfl
            have g0 : w8.frozen? ⟨w.heap.size, 0, none⟩ = false := by simp [World.frozen?, hcl8]
            have g1 : w8.frozen? ⟨w.heap.size, 1, none⟩ = false := by simp [World.frozen?, hcl8]
            have hb8 : Below w.heap.size w w8 := by
              refine ⟨hN8.os.1.trans HT6.out.tw.bel.os, hN8.os.2.1.trans HT6.out.tw.bel.tape, hN8.os.2.2.1.trans HT6.out.tw.bel.output, by have := hN8.os.2.2.2; simp at this; omega, fun k9 hk9 => ?_⟩
              rw [hN8.bel k9 (by simp; omega) (by omega) (fun l hl e9 => by have := (HLB.out l hl _ e9).1; omega), heap_alloc_old _ _ (by omega)]
              exact HT6.out.tw.bel.block k9 hk9
            have HB8 := mkHid hb8
            have HL8 : Hid (AccInv w5.heap.size 55 ls (.slice a6 ls.length c6) w8) := HL7.out.blockN (fun h => h) fun b9 e9 => by
              have q1 := (HL7.out.lt b9 e9).1
              refine hN8.bel b9 (HL7.out.lt b9 e9).2 (by omega) fun l hl e10 => ?_
              obtain ⟨x9, hx9⟩ := HOK.out.of hl
              obtain ⟨cs1, q2⟩ := own_typeG hx9 e10
              obtain ⟨cs2, q3⟩ := own_typeG HA6.out e9
              rw [q2] at q3
              simp at q3
            have HN8 := mkHid hN8
            clear hcl8 hcb8 hb8 hN8 z1 z2 z3 z4 z5
            go_wp2_with fail
            have hf : Fr [w.heap.size] w8 ((w8.setCell ⟨w.heap.size, 0, none⟩ (.slice (some ⟨gh, 0, none⟩) t.flat.length c5)).setCell ⟨w.heap.size, 1, none⟩ (.slice a6 ls.length c6)) := ((Fr.refl _ _).set (by simp) _).set (by simp) _
            have z1 := HWS.out
            have z2 := HSZ.out.1
            refine bodyPost_ret (v := .tuple #[.agg #[.slice (some ⟨gh, 0, none⟩) t.flat.length c5, .slice a6 ls.length c6], .bool true]) (by simp [results, Try.results63, go_sem, *]) rfl ⟨?_, .inr ⟨gh, c5, a6, c6, t, ls, lits, rfl, ?_, ?_, ?_, HOK.out.neg, ?_, fun ch us bs r2 h1 h2 h3 h4 => ?_⟩⟩
            · exact (HB8.out.setCell (by simp) _).setCell (by simp) _
            · exact (HN8.out.hd.blockN (fun h => h) fun b9 e9 => hf.block b9 (HN8.out.hd.lt b9 e9).2 (by have := (HN8.out.hd.lt b9 e9).1; simp; omega)).baseN (by omega)
            · exact (HL8.out.blockN (fun h => h) fun b9 e9 => hf.block b9 (HL8.out.lt b9 e9).2 (by have := (HL8.out.lt b9 e9).1; simp; omega)).baseN (by omega)
            · have hr8 := HN8.out.rows.blocks (W' := ((w8.setCell ⟨w.heap.size, 0, none⟩ (.slice (some ⟨gh, 0, none⟩) t.flat.length c5)).setCell ⟨w.heap.size, 1, none⟩ (.slice a6 ls.length c6))) (fun l hl b9 e9 => hf.block b9 (by have q1 := (HLB.out l hl b9 e9).2; have q2 := HN8.out.os.2.2.2; simp at q2; omega) (by have q1 := (HLB.out l hl b9 e9).1; simp; omega))
              exact ⟨fun k9 l9 c9 q1 q2 => (hr8.at_ k9 l9 c9 q1 q2).baseN (by omega)⟩
            · have q3 : sumL (lits.map fun x => x.2.flat) = sumT lits := by unfold sumL sumT; rw [List.map_map]; rfl
              have := HSS.out
              omega
            · obtain ⟨_, hr5, ht5⟩ := HC5.out ch us r2 h1 h2 h3
              subst hr5
              exact ⟨ht5, ((HC6.out bs h4).2).symm⟩

end Go.Proofs.Ytkkiemideldioaa
set_option linter.unusedVariables false
namespace Go.Proofs.Ytkkiemideldioaa
open Go.RowKit

theorem drewN_belowI (w : World) (n : Nat) : Below w.heap.size w (w.drewN n) := ⟨rfl, rfl, rfl, Nat.le_refl _, fun _ _ => rfl⟩
theorem Ins.eq_iff (x y : Ins) : x = y ↔ x.op = y.op ∧ x.x = y.x ∧ x.a = y.a ∧ x.s = y.s ∧ x.n = y.n ∧ x.neg = y.neg := by
  constructor
  · rintro rfl; exact ⟨rfl, rfl, rfl, rfl, rfl, rfl⟩
  · obtain ⟨_, _, _, _, _, _⟩ := x
    obtain ⟨_, _, _, _, _, _⟩ := y
    rintro ⟨h1, h2, h3, h4, h5, h6⟩
    simp only at h1 h2 h3 h4 h5 h6
    subst h1; subst h2; subst h3; subst h4; subst h5; subst h6
    rfl
instance instDecIns : DecidableEq Ins := fun x y => decidable_of_iff _ (Ins.eq_iff x y).symm
set_option maxHeartbeats 1600000 in
theorem run_neq_ins (x y : Ins) (w : World) : (binOp .neq 48 (.agg #[.int .i64 x.op, .int .i64 x.x, .int .i64 x.a, .string x.s, .int .i64 x.n, .bool x.neg]) (.agg #[.int .i64 y.op, .int .i64 y.x, .int .i64 y.a, .string y.s, .int .i64 y.n, .bool y.neg])).run Try.prog w = .ok (.bool (!decide (x = y))) w := by
  by_cases h1 : x.op = y.op
  · by_cases h2 : x.x = y.x
    · by_cases h3 : x.a = y.a
      · by_cases h4 : x.s = y.s
        · by_cases h5 : x.n = y.n
          · by_cases h6 : x.neg = y.neg
            · go_simp
              exact (Ins.eq_iff x y).2 ⟨h1, h2, h3, h4, h5, h6⟩
            · have g4 : ¬ x = y := fun e => h6 (by rw [e])
              have g5 : (x.neg == y.neg) = false := by simp [h6]
              go_simp
          · have g4 : ¬ x = y := fun e => h5 (by rw [e])
            have g5 : (x.n == y.n) = false := by simp [h5]
            go_simp
        · have g4 : ¬ x = y := fun e => h4 (by rw [e])
          have g5 : (x.s.toList == y.s.toList) = false := by simp [toList_inj, h4]
          go_simp
      · have g4 : ¬ x = y := fun e => h3 (by rw [e])
        have g5 : (x.a == y.a) = false := by simp [h3]
        go_simp
    · have g4 : ¬ x = y := fun e => h2 (by rw [e])
      have g5 : (x.x == y.x) = false := by simp [h2]
      go_simp
  · have g4 : ¬ x = y := fun e => h1 (by rw [e])
    have g5 : (x.op == y.op) = false := by simp [h1]
    go_simp
set_option maxRecDepth 100000 in
set_option maxHeartbeats 3200000 in
theorem refsamei_any (a : Option Addr) (cap : Nat) (a' : Option Addr) (cap' : Nat) (w : World) (xs ys : List Ins) (hx : Row w a cap xs) (hy : Row w a' cap' ys) :
    Calls Try.prog 19 #[.slice a xs.length cap, .slice a' ys.length cap'] w fun e w' => e = .returned (.bool (decide (xs = ys))) ∧ Below w.heap.size w w' := by
  have hm := hx.max
  have hm2 := hx.le
  have hm3 := hy.max
  have hm4 := hy.le
  by_cases hlen : xs.length = ys.length
  · have hlt2 : ys.length ≤ xs.length := by omega
    have hlt3 : xs.length ≤ ys.length := by omega
    have hne : ((xs.length : Int) != (ys.length : Int)) = false := by simp [hlen]
    clear hlen
    go_enter Try.func19, Try.ntmps19
    go_wp2
    go_loopw [5] (fun i wr => ∃ k : Nat, k ≤ xs.length ∧ i = .int .i64 k ∧ Below w.heap.size w wr ∧ Hid (xs.take k = ys.take k)) (fun i wr => xs.length - (intOf i).toNat)
    case atStart => exact ⟨0, Nat.zero_le _, rfl, Below.refl _ _, rfl⟩
    case round =>
      obtain ⟨k, hk, rfl, hbl, HS⟩ := hrel
      by_cases hlt : k < xs.length
      · have hlt' : k < ys.length := by omega
        obtain ⟨b, off, rfl, hb, hat⟩ := hx.cases.resolve_left (fun e => by simp [e] at hlt)
        obtain ⟨b', off', rfl, hb', hat'⟩ := hy.cases.resolve_left (fun e => by simp [e] at hlt')
        obtain ⟨c0, c1, c2, c3, c4, c5, _⟩ := ins_at hat hbl hlt
        obtain ⟨d0, d1, d2, d3, d4, d5, _⟩ := ins_at hat' hbl hlt'
        have hne := fun w => run_neq_ins xs[k] ys[k] w
        by_cases he : xs[k] = ys[k]
        · have HT : Hid (xs.take (k + 1) = ys.take (k + 1)) := take_eq_snoc HS.out hlt hlt' he
          rw [decide_eq_true he] at hne
          clear he HS
          go_wp2
          go_quiet (fail)
          go_wp2
          go_round
          case rel => exact ⟨k + 1, by omega, by go_num, hbl.then (drewN_belowI _ _), HT⟩
          case measure => simp [intOf]; omega
        · have HE : Hid (false = decide (xs = ys)) := by
            rw [Hid, decide_eq_false]; intro e; subst e; exact he rfl
          rw [decide_eq_false he] at hne
          clear he HS
          go_wp2
          go_quiet (fail)
          go_wp2
          go_ret
          exact ⟨ret_bool HE.out, hbl.then (drewN_belowI _ _)⟩
      · have HE : Hid (true = decide (xs = ys)) := by
          rw [Hid, decide_eq_true (take_all HS.out (by omega) (by omega))]
        clear HS
        go_wp2
        go_ret
        exact ⟨ret_bool HE.out, hbl⟩
  · have HE : Hid (false = decide (xs = ys)) := by
      rw [Hid, decide_eq_false]; intro e; rw [e] at hlen; exact hlen rfl
    have hne : ((xs.length : Int) != (ys.length : Int)) = true := by simp; omega
    clear hlen
    go_enter Try.func19, Try.ntmps19
    go_wp2
    go_ret
    exact ⟨ret_bool HE.out, Below.refl _ _⟩
set_option maxRecDepth 100000 in
set_option maxHeartbeats 3200000 in
theorem equal_any (a : Option Addr) (cap : Nat) (a' : Option Addr) (cap' : Nat) (w : World) (xs ys : List Ins) (hx : Row w a cap xs) (hy : Row w a' cap' ys) :
    Calls Try.prog 64 #[.slice a xs.length cap, .slice a' ys.length cap'] w fun e w' => e = .returned (.bool (decide (xs = ys))) ∧ Below w.heap.size w w' := by
  have hm := hx.max
  have hm2 := hx.le
  have hm3 := hy.max
  have hm4 := hy.le
  by_cases hlen : xs.length = ys.length
  · have hlt2 : ys.length ≤ xs.length := by omega
    have hlt3 : xs.length ≤ ys.length := by omega
    have hne : ((xs.length : Int) != (ys.length : Int)) = false := by simp [hlen]
    clear hlen
    go_enter Try.func64, Try.ntmps64
    go_wp2
    go_loopw [5, 13] (fun _ i wr => ∃ k : Nat, k ≤ xs.length ∧ i = .int .i64 k ∧ Below w.heap.size w wr ∧ Hid (xs.take k = ys.take k)) (fun _ i wr => xs.length - (intOf i).toNat)
    case atStart => exact ⟨0, Nat.zero_le _, rfl, Below.refl _ _, rfl⟩
    case round =>
      obtain ⟨k, hk, rfl, hbl, HS⟩ := hrel
      by_cases hlt : k < xs.length
      · have hlt' : k < ys.length := by omega
        obtain ⟨b, off, rfl, hb, hat⟩ := hx.cases.resolve_left (fun e => by simp [e] at hlt)
        obtain ⟨b', off', rfl, hb', hat'⟩ := hy.cases.resolve_left (fun e => by simp [e] at hlt')
        obtain ⟨c0, c1, c2, c3, c4, c5, _⟩ := ins_at hat hbl hlt
        obtain ⟨d0, d1, d2, d3, d4, d5, _⟩ := ins_at hat' hbl hlt'
        have hne := fun w => run_neq_ins xs[k] ys[k] w
        by_cases he : xs[k] = ys[k]
        · have HT : Hid (xs.take (k + 1) = ys.take (k + 1)) := take_eq_snoc HS.out hlt hlt' he
          rw [decide_eq_true he] at hne
          clear he HS
          go_wp2
          go_quiet (fail)
          go_wp2
          go_round
          case rel => exact ⟨k + 1, by omega, by go_num, hbl.then (drewN_belowI _ _), HT⟩
          case measure => simp [intOf]; omega
        · have HE : Hid (false = decide (xs = ys)) := by
            rw [Hid, decide_eq_false]; intro e; subst e; exact he rfl
          rw [decide_eq_false he] at hne
          clear he HS
          go_wp2
          go_quiet (fail)
          go_wp2
          go_ret
          exact ⟨ret_bool HE.out, hbl.then (drewN_belowI _ _)⟩
      · have HE : Hid (true = decide (xs = ys)) := by
          rw [Hid, decide_eq_true (take_all HS.out (by omega) (by omega))]
        clear HS
        go_wp2
        go_ret
        exact ⟨ret_bool HE.out, hbl⟩
  · have HE : Hid (false = decide (xs = ys)) := by
      rw [Hid, decide_eq_false]; intro e; rw [e] at hlen; exact hlen rfl
    have hne : ((xs.length : Int) != (ys.length : Int)) = true := by simp; omega
    clear hlen
    go_enter Try.func64, Try.ntmps64
    go_wp2
    go_ret
    exact ⟨ret_bool HE.out, Below.refl _ _⟩
end Go.Proofs.Ytkkiemideldioaa
set_option linter.unusedVariables false
namespace Go.Proofs.Ytkkiemideldioaa
open Go.RowKit

set_option maxHeartbeats 1600000 in
theorem standsx_any (w : World) (op : Int) : Calls Try.prog 60 #[.int .i64 op] w fun e w' => e = .returned (.bool (op == 1 || op == 2 || op == 5 || op == 6 || op == 9 || op == 10)) ∧ w' = w := by
  by_cases h1 : op = 1
  · subst h1
    go_enter Try.func60, Try.ntmps60
    go_wp2
    go_ret
    exact ⟨rfl, rfl⟩
  · by_cases h2 : op = 2
    · subst h2
      go_enter Try.func60, Try.ntmps60
      go_wp2
      go_ret
      exact ⟨rfl, rfl⟩
    · by_cases h5 : op = 5
      · subst h5
        go_enter Try.func60, Try.ntmps60
        go_wp2
        go_ret
        exact ⟨rfl, rfl⟩
      · by_cases h6 : op = 6
        · subst h6
          go_enter Try.func60, Try.ntmps60
          go_wp2
          go_ret
          exact ⟨rfl, rfl⟩
        · by_cases h9 : op = 9
          · subst h9
            go_enter Try.func60, Try.ntmps60
            go_wp2
            go_ret
            exact ⟨rfl, rfl⟩
          · by_cases h10 : op = 10
            · subst h10
              go_enter Try.func60, Try.ntmps60
              go_wp2
              go_ret
              exact ⟨rfl, rfl⟩
            · have t1 : (op == 1) = false := by simp [h1]
              have t2 : (op == 2) = false := by simp [h2]
              have t5 : (op == 5) = false := by simp [h5]
              have t6 : (op == 6) = false := by simp [h6]
              have t9 : (op == 9) = false := by simp [h9]
              have t10 : (op == 10) = false := by simp [h10]
              rw [t1, t2, t5, t6, t9, t10]
              go_enter Try.func60, Try.ntmps60
              go_wp2
              go_ret
              exact ⟨rfl, rfl⟩
set_option maxHeartbeats 1600000 in
theorem standsa_any (w : World) (op : Int) : Calls Try.prog 61 #[.int .i64 op] w fun e w' => e = .returned (.bool (op == 1 || op == 2 || op == 3 || op == 4 || op == 8 || op == 12)) ∧ w' = w := by
  by_cases h1 : op = 1
  · subst h1
    go_enter Try.func61, Try.ntmps61
    go_wp2
    go_ret
    exact ⟨rfl, rfl⟩
  · by_cases h2 : op = 2
    · subst h2
      go_enter Try.func61, Try.ntmps61
      go_wp2
      go_ret
      exact ⟨rfl, rfl⟩
    · by_cases h3 : op = 3
      · subst h3
        go_enter Try.func61, Try.ntmps61
        go_wp2
        go_ret
        exact ⟨rfl, rfl⟩
      · by_cases h4 : op = 4
        · subst h4
          go_enter Try.func61, Try.ntmps61
          go_wp2
          go_ret
          exact ⟨rfl, rfl⟩
        · by_cases h8 : op = 8
          · subst h8
            go_enter Try.func61, Try.ntmps61
            go_wp2
            go_ret
            exact ⟨rfl, rfl⟩
          · by_cases h12 : op = 12
            · subst h12
              go_enter Try.func61, Try.ntmps61
              go_wp2
              go_ret
              exact ⟨rfl, rfl⟩
            · have t1 : (op == 1) = false := by simp [h1]
              have t2 : (op == 2) = false := by simp [h2]
              have t3 : (op == 3) = false := by simp [h3]
              have t4 : (op == 4) = false := by simp [h4]
              have t8 : (op == 8) = false := by simp [h8]
              have t12 : (op == 12) = false := by simp [h12]
              rw [t1, t2, t3, t4, t8, t12]
              go_enter Try.func61, Try.ntmps61
              go_wp2
              go_ret
              exact ⟨rfl, rfl⟩
theorem regsL_next {xs : List Ins} {k : Nat} (hk : k < xs.length) : regsL (xs.take (k + 1)) = regs1 (regsL (xs.take k)) xs[k] := by
  unfold regsL
  rw [List.take_succ_eq_append_getElem hk, List.foldl_append]
  rfl
set_option maxRecDepth 100000 in
set_option maxHeartbeats 6400000 in
theorem regs_any (a : Option Addr) (cap : Nat) (w : World) (xs : List Ins) (hx : Row w a cap xs) (hb : ∀ i ∈ xs, i.x < 9223372036854775807 ∧ i.a < 9223372036854775807) :
    Calls Try.prog 20 #[.slice a xs.length cap] w fun e w' => e = .returned (.int .i64 (regsL xs)) ∧ Below w.heap.size w w' := by
  have hm := hx.max
  have hm2 := hx.le
  have HBB := mkHid hb
  clear hb
  go_enter Try.func20, Try.ntmps20
  go_wp2_with fail
  go_loopw [3, 5, 8] (fun m _ i wr => ∃ k : Nat, k ≤ xs.length ∧ i = .int .i64 k ∧ m = .int .i64 (regsL (xs.take k)) ∧ Below w.heap.size w wr) (fun _ _ i wr => xs.length - (intOf i).toNat)
  case atStart => exact ⟨0, Nat.zero_le _, rfl, rfl, Below.refl _ _⟩
  case round =>
    obtain ⟨k, hk, rfl, rfl, hbl⟩ := hrel
    by_cases hlt : k < xs.length
    · obtain ⟨b, off, rfl, hb, hat⟩ := hx.cases.resolve_left (fun e => by simp [e] at hlt)
      obtain ⟨c0, c1, c2, c3, c4, c5, hfx⟩ := ins_at hat hbl hlt
      have hbb := HBB.out xs[k] (List.getElem_mem hlt)
      have HNX := mkHid (regsL_next hlt)
      obtain ⟨m, hmm⟩ : ∃ m, regsL (xs.take k) = m := ⟨_, rfl⟩
      rw [hmm] at HNX ⊢
      clear hmm
      obtain ⟨x, hxx⟩ : ∃ x, xs[k] = x := ⟨_, rfl⟩
      rw [hxx] at c0 c1 c2 c3 c4 c5 hfx hbb HNX
      clear hxx
      obtain ⟨o1, o2, x1, x2, a1, a2, _, _, _⟩ := hfx
      obtain ⟨hb1, hb2⟩ := hbb
      have hb5 := mkHid (hbl.then ((Below.refl wr.heap.size wr).new (.cells #[.int .i64 x.op, .int .i64 x.x, .int .i64 x.a, .string x.s, .int .i64 x.n, .bool x.neg] 48)))
      have e1 : (x.op == 1 || x.op == 2 || x.op == 5 || x.op == 6 || x.op == 9 || x.op == 10) = inX x := rfl
      have e2 : (x.op == 1 || x.op == 2 || x.op == 3 || x.op == 4 || x.op == 8 || x.op == 12) = inA x := rfl
      have E1 := mkHid e1
      have E2 := mkHid e2
      clear e1 e2
      go_wp2_with fail
      refine (standsx_any _ x.op).mono ?_
      rintro e w5 ⟨rfl, rfl⟩
      rw [E1.out]
      cases hX : inX x with
      | true =>
        by_cases hm1 : m < x.x + 1
        · skip
          go_wp2_with fail
          refine (standsa_any _ x.op).mono ?_
          rintro e w6 ⟨rfl, rfl⟩
          rw [E2.out]
          cases hA : inA x with
          | true =>
            by_cases hm2 : x.x + 1 < x.a + 1
            · go_wp2_with fail
              go_round
              case rel => exact ⟨k + 1, by omega, by go_num, by rw [HNX.out]; unfold regs1; simp only [hX, hA, if_true, Bool.false_eq_true, if_false]; try (congr 1; omega), hb5.out⟩
              case measure => simp [intOf]; omega
            · go_wp2_with fail
              go_round
              case rel => exact ⟨k + 1, by omega, by go_num, by rw [HNX.out]; unfold regs1; simp only [hX, hA, if_true, Bool.false_eq_true, if_false]; try (congr 1; omega), hb5.out⟩
              case measure => simp [intOf]; omega
          | false =>
            go_wp2_with fail
            go_round
            case rel => exact ⟨k + 1, by omega, by go_num, by rw [HNX.out]; unfold regs1; simp only [hX, hA, if_true, Bool.false_eq_true, if_false]; try (congr 1; omega), hb5.out⟩
            case measure => simp [intOf]; omega
        · skip
          go_wp2_with fail
          refine (standsa_any _ x.op).mono ?_
          rintro e w6 ⟨rfl, rfl⟩
          rw [E2.out]
          cases hA : inA x with
          | true =>
            by_cases hm2 : m < x.a + 1
            · go_wp2_with fail
              go_round
              case rel => exact ⟨k + 1, by omega, by go_num, by rw [HNX.out]; unfold regs1; simp only [hX, hA, if_true, Bool.false_eq_true, if_false]; try (congr 1; omega), hb5.out⟩
              case measure => simp [intOf]; omega
            · go_wp2_with fail
              go_round
              case rel => exact ⟨k + 1, by omega, by go_num, by rw [HNX.out]; unfold regs1; simp only [hX, hA, if_true, Bool.false_eq_true, if_false]; try (congr 1; omega), hb5.out⟩
              case measure => simp [intOf]; omega
          | false =>
            go_wp2_with fail
            go_round
            case rel => exact ⟨k + 1, by omega, by go_num, by rw [HNX.out]; unfold regs1; simp only [hX, hA, if_true, Bool.false_eq_true, if_false]; try (congr 1; omega), hb5.out⟩
            case measure => simp [intOf]; omega
      | false =>
        go_wp2_with fail
        refine (standsa_any _ x.op).mono ?_
        rintro e w6 ⟨rfl, rfl⟩
        rw [E2.out]
        cases hA : inA x with
        | true =>
          by_cases hm2 : m < x.a + 1
          · go_wp2_with fail
            go_round
            case rel => exact ⟨k + 1, by omega, by go_num, by rw [HNX.out]; unfold regs1; simp only [hX, hA, if_true, Bool.false_eq_true, if_false]; try (congr 1; omega), hb5.out⟩
            case measure => simp [intOf]; omega
          · go_wp2_with fail
            go_round
            case rel => exact ⟨k + 1, by omega, by go_num, by rw [HNX.out]; unfold regs1; simp only [hX, hA, if_true, Bool.false_eq_true, if_false]; try (congr 1; omega), hb5.out⟩
            case measure => simp [intOf]; omega
        | false =>
          go_wp2_with fail
          go_round
          case rel => exact ⟨k + 1, by omega, by go_num, by rw [HNX.out]; unfold regs1; simp only [hX, hA, if_true, Bool.false_eq_true, if_false]; try (congr 1; omega), hb5.out⟩
          case measure => simp [intOf]; omega
    · obtain rfl : k = xs.length := by omega
      rw [List.take_length]
      go_wp2_with fail
      go_ret
      exact ⟨rfl, hbl⟩
end Go.Proofs.Ytkkiemideldioaa
set_option linter.unusedVariables false
namespace Go.Proofs.Ytkkiemideldioaa
open Go.RowKit

/-! ### what was told, as a clause that Compile reads -/
def ltOf (l : LitV) (c : List Cel) : Lt := ⟨l.neg, c⟩
theorem lits_row {w : World} {B B2 cb : Nat} {ls : List LitV} {cs : List (List Cel)} {ab : Option Addr} (hB : AccInv B2 55 ls (.slice ab ls.length cb) w) (hR : RowsN w B ls cs) (hl : ls.length = cs.length) : Row w ab cb (List.zipWith ltOf ls cs) := by
  obtain ⟨a, cap, e, hr⟩ := hB.row
  injection e with e1 e2 e3
  subst e1
  subst e3
  have hlen : (List.zipWith ltOf ls cs).length = ls.length := by rw [List.length_zipWith]; omega
  refine ⟨by rw [hlen]; exact hr.le, hr.max, hr.nil, fun i x hi => ?_⟩
  have hi1 : i < (List.zipWith ltOf ls cs).length := (List.getElem?_eq_some_iff.1 hi).1
  have hil : i < ls.length := by omega
  have hic : i < cs.length := by omega
  rw [List.getElem?_eq_getElem hi1] at hi
  cases hi
  rw [List.getElem_zipWith]
  obtain ⟨b, off, e1, hE⟩ := hr.at_ i ls[i] (List.getElem?_eq_getElem hil)
  have hE' : LitVE w b (off + i * 2) ls[i] := hE
  obtain ⟨a', c', hv, hr'⟩ := (hR.at_ i ls[i] cs[i] (List.getElem?_eq_getElem hil) (List.getElem?_eq_getElem hic)).row
  refine ⟨b, off, e1, ?_⟩
  have h1 := hE'.c1
  rw [hv] at h1
  exact (⟨⟨a', c', hE'.c0, h1, hr'⟩⟩ : LtE w b (off + i * 2) (ltOf ls[i] cs[i]))
/-- the cells of trees, numbered, one row after the other -/
theorem zip_map {ls : List LitV} {lits : List (Bool × Tm)} (h : ls.map LitV.neg = lits.map Prod.fst) : ∀ cs : List (List Cel), cs.length = lits.length → List.zipWith ltOf ls cs = List.zipWith (fun (p : Bool × Tm) c => (⟨p.1, c⟩ : Lt)) lits cs := by
  induction ls generalizing lits with
  | nil => cases lits with
    | nil => intro cs _; simp
    | cons p l => simp at h
  | cons x ls ih => cases lits with
    | nil => simp at h
    | cons p l =>
      intro cs hc
      cases cs with
      | nil => simp at hc
      | cons c cs =>
        simp only [List.map_cons, List.cons.injEq] at h
        simp only [List.length_cons, Nat.add_right_cancel_iff] at hc
        rw [List.zipWith_cons_cons, List.zipWith_cons_cons, ih h.2 cs hc, ltOf, h.1]
end Go.Proofs.Ytkkiemideldioaa
