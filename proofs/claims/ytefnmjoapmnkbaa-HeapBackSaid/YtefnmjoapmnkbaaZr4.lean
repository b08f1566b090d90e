import Derived.Test.YtefnmjoapmnkbaaZr3
import Derived.Scope
import Derived.Deep.RegionHeld3
set_option linter.unusedVariables false
namespace Go.Proofs.Ytefnmjoapmnkbaa
open Go.RowKit

/-! ### a heap while terms in it are made alike -/
theorem grown_fr {w w' : World} {r : Option Nat} (h : w.grownBy w' r) : Fr r.toList w w' :=
  ⟨h.os, h.tape, h.output, h.size, fun k hk hn => h.block k hk (fun e => hn (by rw [← e]; simp))⟩
/-- an append of one element, which tells which block turned and where the row lies -/
theorem wpList_accW {α : Type} [RepC α] {P : Program} {w : World} {ops : Array Oper} {rest : List Oper} {o : Oper} {a : Act} {Q : Exit → Act → World → Prop} (hgd : o.guard = none) (s x : Operand) (t : TypeId)
    (ho : o.op = .call { callee := .builtin .append, args := #[s, x], argTypes := #[t, t] })
    (B e bytes : Nat) (z : Value) (ht : P.underlying t = some (.slice e)) (hinfo : (P.info? e).map (fun i => (i.zero, i.size, i.bytes)) = some (some z, Rep.sz α, bytes))
    (hzs : z.cells.size = Rep.sz α) (hby : bytes ≤ 1000)
    (v : Value) (acc : List α) (hacc : AccInv B e acc v w) (hs : a.eval s = v) (T : Nat) (cs : Array Value) (y : α) (hcs : RepC.C (hide v.ownBlock w) cs.toList y)
    (hx : a.eval x = .slice (some ⟨w.heap.size, 0, none⟩) 1 1)
    (hmax : acc.length + 1 ≤ 1000000000) (hB : B ≤ w.heap.size)
    (h : ∀ v' w', AccInv B e (acc ++ [y]) v' w' → (w.alloc (.cells cs T)).grownBy w' v.ownBlock → (v'.ownBlock = v.ownBlock ∨ v'.ownBlock = some (w.heap.size + 1)) → wpList P ops Q rest (a.put o.dst v') w') : wpList P ops Q (o :: rest) a (w.alloc (.cells cs T)) := by
  obtain ⟨vs, hown, hc⟩ := hacc.ex
  have hsrc := src_new w cs T (Rep.sz α) (by have := RepC.len hcs; simpa using this) (fun u hu => RepC.one hcs u hu)
  obtain ⟨i, hi, hz0, hz1, hz2⟩ := info_parts hinfo
  have hb : (acc.length + 1) * bytes ≤ 140737488355328 := Nat.le_trans (Nat.mul_le_mul hmax hby) (by decide)
  refine wpList_plain hgd fun K hK => ?_
  obtain ⟨v', w', hr, h2, h3, h4⟩ := run_append_where (P := P) (w.alloc (.cells cs T)) B t o.type e i z (Rep.sz α) bytes ht hi hz0 hz1 hz2 hzs RepC.pos v acc.length vs (hown.alloc _) ⟨w.heap.size, 0, none⟩ 1 1 cs.toList hsrc.len (hsrc.cells _ rfl) hsrc.one (by unfold maxLen; omega) hb (Nat.le_trans hB (by simp))
  unfold Oper.wp execOp
  simp only [ho, resolve, invoke, builtin, Sem.run_bind, Sem.run_pure, Result.andThen_ok, List.map_toArray, List.map_cons, List.map_nil, hs, hx, hr]
  refine hK _ _ (h v' w' ⟨vs ++ cs.toList, by rw [List.length_append]; exact h2, ?_⟩ h3 (by rwa [World.size_alloc] at h4))
  have hk := hide_next h3 h4
  exact ((hc.keeps (alloc_hide w _ _)).keeps hk).snoc (RepC.cmono (RepC.cmono hcs (alloc_hide w _ _)) hk)
theorem own_block {w w' : World} {B e size n : Nat} {v : Value} {xs : List Value} (h : w.ownsRow B e size v n xs) (hb : ∀ b, v.ownBlock = some b → w'.heap[b]? = w.heap[b]?) : w'.ownsRow B e size v n xs := by
  refine ⟨h.1, ?_⟩
  rcases h.2 with hn | ⟨g, cap, cur, rfl, hB, hgg, rest⟩
  · exact .inl hn
  · exact .inr ⟨g, cap, cur, rfl, hB, (hb g rfl).trans hgg, rest⟩
theorem AccInv.blockI {w w' : World} {B e : Nat} {v : Value} {acc : List Int} (h : AccInv B e acc v w) (hb : ∀ b, v.ownBlock = some b → w'.heap[b]? = w.heap[b]?) : AccInv B e acc v w' := by
  obtain ⟨vs, ho, hc⟩ := h.ex
  obtain ⟨rfl, hf⟩ := crows_int hc
  exact ⟨_, own_block ho hb, crows_ints _ hf⟩
theorem OwnS.block {w w' : World} {B g cap : Nat} {xs : List Cel} (h : OwnS B w g cap xs) (e : w'.heap[g]? = w.heap[g]?) : OwnS B w' g cap xs := by
  obtain ⟨cur, T, hc⟩ := h.cells
  refine ⟨h.hb, ⟨h.row.le, h.row.max, h.row.nil, fun i x hi => ?_⟩, cur, T, e.trans hc⟩
  obtain ⟨b, off, he, c0, c1, c2, hf⟩ := h.row.at_ i x hi
  cases he
  exact ⟨g, 0, rfl, (World.cell?_of_block e).trans c0, (World.cell?_of_block e).trans c1, (World.cell?_of_block e).trans c2, hf⟩
theorem OwnS.lt {w : World} {B g cap : Nat} {xs : List Cel} (h : OwnS B w g cap xs) : g < w.heap.size := by
  obtain ⟨cur, T, hc⟩ := h.cells
  exact (Array.getElem?_eq_some_iff.1 hc).1

structure UM (W : World) (B U g cap : Nat) (vt : Value) (xs : List Cel) (ts : List Int) : Prop where
  blk : W.heap[U]? = some (.cells #[.slice (some ⟨g, 0, none⟩) xs.length cap, vt] 109 (0, 0))
  cells : OwnS B W g cap xs
  trail : AccInv B 3 ts vt W
  gU : g ≠ U
  tU : vt.ownBlock ≠ some U
  tg : vt.ownBlock ≠ some g
  hB : B ≤ U
/-- the blocks that making alike turns -/
def uB (U g : Nat) (vt : Value) : List Nat := U :: g :: vt.ownBlock.toList
section
variable {W W' : World} {B U g cap : Nat} {vt : Value} {xs : List Cel} {ts : List Int}
theorem UM.lt (h : UM W B U g cap vt xs ts) : U < W.heap.size := (Array.getElem?_eq_some_iff.1 h.blk).1
theorem UM.c0 (h : UM W B U g cap vt xs ts) : W.cell? ⟨U, 0, none⟩ = some (.slice (some ⟨g, 0, none⟩) xs.length cap) := by
  rw [cell_of_row W U 0 _ _ _ h.blk]; rfl
theorem UM.c1 (h : UM W B U g cap vt xs ts) : W.cell? ⟨U, 1, none⟩ = some vt := by
  rw [cell_of_row W U 1 _ _ _ h.blk]; rfl
theorem UM.f1 (h : UM W B U g cap vt xs ts) : W.frozen? ⟨U, 1, none⟩ = false := by
  have := h.blk
  simp [World.frozen?, this]
theorem UM.fr {us : List Nat} (h : UM W B U g cap vt xs ts) (hf : Fr us W W') (hn : ∀ b ∈ uB U g vt, b ∉ us) : UM W' B U g cap vt xs ts :=
  ⟨(hf.block U h.lt (hn U (by simp [uB]))).trans h.blk, h.cells.block (hf.block g h.cells.lt (hn g (by simp [uB]))), h.trail.blockI fun b hb => hf.block b (h.trail.lt b hb).2 (hn b (by simp [uB, hb])), h.gU, h.tU, h.tg, h.hB⟩
theorem UM.below (h : UM W B U g cap vt xs ts) (hb : Below W.heap.size W W') : UM W' B U g cap vt xs ts := h.fr (us := []) (Fr.of hb) (by simp)
theorem UM.allB (h : UM W B U g cap vt xs ts) : ∀ b ∈ uB U g vt, B ≤ b ∧ b < W.heap.size := by
  intro b hb
  simp [uB] at hb
  rcases hb with rfl | rfl | hb
  · exact ⟨h.hB, h.lt⟩
  · exact ⟨h.cells.hb, h.cells.lt⟩
  · exact h.trail.lt b hb
/-- one place is bound: the slot is set -/
theorem UM.setN (h : UM W B U g cap vt xs ts) {k : Nat} (hk : k < xs.length) {v : Int} (h1 : -9223372036854775808 ≤ v) (h2 : v ≤ 9223372036854775807) : UM (W.setCell ⟨g, 0 + k * 3 + 2, none⟩ (.int .i64 v)) B U g cap vt (xs.set k ⟨xs[k].k, xs[k].s, v⟩) ts := by
  have hf : Fr [g] W (W.setCell ⟨g, 0 + k * 3 + 2, none⟩ (.int .i64 v)) := (Fr.refl _ _).set (by simp) _
  refine ⟨?_, h.cells.set hk h1 h2, h.trail.blockI fun b hb => hf.block b (h.trail.lt b hb).2 (by simp; intro e; exact h.tg (by rw [hb, e])), h.gU, h.tU, h.tg, h.hB⟩
  rw [hf.block U h.lt (by simp; exact fun e => h.gU e.symm), List.length_set]
  exact h.blk
end
set_option maxHeartbeats 1600000 in
theorem ufree_any (U : Nat) (a : Option Addr) (cap : Nat) (w : World) (l : List Cel) (hU : w.cell? ⟨U, 0, none⟩ = some (.slice a l.length cap)) (hr : Row w a cap l) (k : Nat) (hk : k < l.length) :
    Calls Try.prog 116 #[.pointer (some ⟨U, 0, none⟩), .int .i64 k] w fun e w' => e = .returned (.bool (sfreeB l[k] k)) ∧ Below w.heap.size w w' := by
  have hm := hr.max
  have hm2 := hr.le
  obtain ⟨b, off, rfl, hb, hat⟩ := hr.cases.resolve_left (fun e => by simp [e] at hk)
  obtain ⟨c0, c1, c2, hf⟩ := cel_at hat (Below.refl _ _) hk
  go_enter Try.func116, Try.ntmps116
  go_wp2_with (go_at_call 106; refine (sfree_any l[k] _ _ hf).mono ?_; rintro e w1 ⟨rfl, hb1⟩)
  go_ret
  exact ⟨rfl, hb1⟩
end Go.Proofs.Ytefnmjoapmnkbaa
set_option linter.unusedVariables false
namespace Go.Proofs.Ytefnmjoapmnkbaa
open Go.RowKit

/-! ### binding -/
def bindS (xs : List Cel) (a b : Nat) : List Cel := match xs[a]? with
  | none => xs
  | some c => xs.set a ⟨c.k, c.s, (b : Int)⟩
theorem bindS_at {xs : List Cel} {a b : Nat} (h : a < xs.length) : bindS xs a b = xs.set a ⟨xs[a].k, xs[a].s, (b : Int)⟩ := by
  unfold bindS; rw [List.getElem?_eq_getElem h]
theorem bindS_length (xs : List Cel) (a b : Nat) : (bindS xs a b).length = xs.length := by
  unfold bindS; split <;> simp
/-- which of two places is bound, and to which -/
def giveA (xs : List Cel) (x y : Nat) : Nat := if sfreeB (xs.getD y ⟨0, ⟨#[]⟩, 0⟩) y = true then y else x
def giveT (xs : List Cel) (x y : Nat) : Nat := if sfreeB (xs.getD y ⟨0, ⟨#[]⟩, 0⟩) y = true then x else y
def GPost (W : World) (B U g cap : Nat) (vt : Value) (xs : List Cel) (ts : List Int) (x y : Nat) (e : Ending) (W' : World) : Prop :=
  (e = .returned (.bool false) ∧ Reach xs (giveT xs x y) (giveA xs x y) ∧ Below W.heap.size W W') ∨
  (e = .returned (.bool true) ∧ ¬ Reach xs (giveT xs x y) (giveA xs x y) ∧ ∃ vt', UM W' B U g cap vt' (bindS xs (giveA xs x y) (giveT xs x y)) (ts ++ [(giveA xs x y : Int)]) ∧ Fr (uB U g vt) W W' ∧ (vt'.ownBlock = vt.ownBlock ∨ ∃ b, vt'.ownBlock = some b ∧ W.heap.size ≤ b))
/-- the trail grows: the new row is laid in its field -/
theorem UM.trailed {W w' : World} {B U g cap : Nat} {vt v' : Value} {xs : List Cel} {ts : List Int} {x : Int} {T : Nat} (h : UM W B U g cap vt xs ts) (ha : AccInv B 3 (ts ++ [x]) v' w') (hg : (W.alloc (.cells #[.int .i64 x] T)).grownBy w' vt.ownBlock) (hw : v'.ownBlock = vt.ownBlock ∨ v'.ownBlock = some (W.heap.size + 1)) :
    UM (w'.setCell ⟨U, 1, none⟩ v') B U g cap v' xs (ts ++ [x]) ∧ Fr (uB U g vt) W (w'.setCell ⟨U, 1, none⟩ v') ∧ (v'.ownBlock = vt.ownBlock ∨ ∃ b, v'.ownBlock = some b ∧ W.heap.size ≤ b) ∧ w'.cell? ⟨U, 1, none⟩ = some vt ∧ w'.frozen? ⟨U, 1, none⟩ = false := by
  have hf0 : Fr vt.ownBlock.toList W w' := (Fr.of ((Below.refl _ _).new _)).trans (grown_fr hg) |>.sub (by simp)
  have hU : U ∉ vt.ownBlock.toList := by simp; exact h.tU
  have hG : g ∉ vt.ownBlock.toList := by simp; exact h.tg
  have eU := hf0.block U h.lt hU
  have eG := hf0.block g h.cells.lt hG
  have hvU : v'.ownBlock ≠ some U := by
    rcases hw with e | e
    · rw [e]; exact h.tU
    · rw [e]; have := h.lt; intro e2; injection e2 with e2; omega
  have hvG : v'.ownBlock ≠ some g := by
    rcases hw with e | e
    · rw [e]; exact h.tg
    · rw [e]; have := h.cells.lt; intro e2; injection e2 with e2; omega
  refine ⟨⟨?_, h.cells.block ?_, ha.blockI fun b hb => ?_, h.gU, hvU, hvG, h.hB⟩, ?_, ?_, (World.cell?_of_block eU).trans h.c1, (World.frozen?_of_block eU).trans h.f1⟩
  · have hb := eU.trans h.blk
    simp only [World.setCell, Array.getElem?_modify, if_true, hb, Option.map_some]
    simp
  · exact (Below.heap_setCell w' ⟨U, 1, none⟩ _ g h.gU).trans eG
  · exact Below.heap_setCell w' ⟨U, 1, none⟩ _ b (fun e => hvU (by rw [hb, show b = U from e]))
  · exact (hf0.sub (by intro k hk; simp [uB]; simp at hk; exact .inr (.inr hk))).set (by simp [uB]) _
  · rcases hw with e | e
    · exact .inl e
    · exact .inr ⟨_, e, by omega⟩
set_option maxHeartbeats 3200000 in
theorem give_any (W : World) (B U g cap : Nat) (vt : Value) (xs : List Cel) (ts : List Int) (x y : Nat) (hM : UM W B U g cap vt xs ts) (hl : xs.length ≤ 5000) (hts : ts.length ≤ 1000000) (hx : x < xs.length) (hy : y < xs.length) :
    Calls Try.prog 117 #[.pointer (some ⟨U, 0, none⟩), .int .i64 x, .int .i64 y] W (GPost W B U g cap vt xs ts x y) := by
  obtain ⟨ta, tc, rfl, htr⟩ := hM.trail.row
  have htm := htr.max
  have hte := htr.le
  have hBW : B ≤ W.heap.size := by have := hM.hB; have := hM.lt; omega
  clear htr
  have c0 := hM.c0
  have HM := mkHid hM
  clear hM
  obtain ⟨at_, hat⟩ : ∃ q, q = giveA xs x y := ⟨_, rfl⟩
  obtain ⟨to, hto⟩ : ∃ q, q = giveT xs x y := ⟨_, rfl⟩
  have hal : at_ < xs.length := by rw [hat]; unfold giveA; split <;> assumption
  have htl : to < xs.length := by rw [hto]; unfold giveT; split <;> assumption
  have hgd : xs.getD y ⟨0, ⟨#[]⟩, 0⟩ = xs[y] := by rw [List.getD_eq_getElem?_getD, List.getElem?_eq_getElem hy]; rfl
  have HAT : Hid ((sfreeB xs[y] y = true → at_ = y ∧ to = x) ∧ (sfreeB xs[y] y = false → at_ = x ∧ to = y)) := by
    rw [Hid, hat, hto]
    unfold giveA giveT
    rw [hgd]
    exact ⟨fun h => by rw [if_pos h, if_pos h]; exact ⟨rfl, rfl⟩, fun h => by rw [if_neg (by simp [h]), if_neg (by simp [h])]; exact ⟨rfl, rfl⟩⟩
  unfold GPost
  rw [← hat, ← hto]
  clear hat hto hgd
  have HRCH := fun (w1 : World) (hb : Below W.heap.size W w1) => reaches_any U (some ⟨g, 0, none⟩) cap w1 xs (keep c0 hb) (HM.out.cells.row.below hb) hl to at_ htl (by omega)
  have HRCH := mkHid HRCH
  have HFREE := mkHid (ufree_any U (some ⟨g, 0, none⟩) cap W xs c0 HM.out.cells.row y hy)
  generalize hfq : sfreeB xs[y] y = fq at HAT HFREE
  clear hfq
  have hto0 : (0 : Int) ≤ (to : Int) := by omega
  have hat0 : (0 : Int) ≤ (at_ : Int) := by omega
  have hat1 : (at_ : Int) < (xs.length : Int) := by omega
  -- what comes behind the search
  have key : ∀ (w1 : World), Below W.heap.size W w1 → w1.cell? ⟨U, 0, none⟩ = some (.slice (some ⟨g, 0, none⟩) xs.length cap) := fun w1 hb => keep c0 hb
  cases fq with
  | true =>
    obtain ⟨rfl, rfl⟩ := HAT.out.1 rfl
    go_enter Try.func117, Try.ntmps117
    go_wp2_with fail
    refine HFREE.out.mono ?_
    rintro e w1 ⟨rfl, hb1⟩
    go_wp2_with fail
    refine (HRCH.out w1 hb1).mono ?_
    rintro e w2 ⟨⟨b, rfl, hbr⟩, hb2⟩
    have HBR := mkHid hbr
    clear hbr
    have hb3 := hb1.then hb2
    cases b with
    | true =>
      go_wp2_with fail
      go_ret
      exact .inl ⟨rfl, HBR.out.1 (by first | rfl | trivial), hb3⟩
    | false =>
      have hM2 := HM.out.below hb3
      have d0 := hM2.c0
      have hcm := hM2.cells.row.max
      have hcl := hM2.cells.row.le
      have hz := hM2.cells.frozen (0 + at_ * 3 + 2)
      have hM3 := hM2.setN hal (v := (to : Int)) (by omega) (by omega)
      rw [← bindS_at hal] at hM3
      obtain ⟨b5, off5, e5, q0, q1, q2, hf⟩ := hM2.cells.row.at_ at_ xs[at_] (List.getElem?_eq_getElem hal)
      cases e5
      have q2' : w2.cell? ⟨g, 0 + at_ * 3 + 2, none⟩ = some (.int .i64 xs[at_].n) := q2
      have hF3 : Fr (uB U g (.slice ta ts.length tc)) w2 (w2.setCell ⟨g, 0 + at_ * 3 + 2, none⟩ (.int .i64 to)) := (Fr.refl _ _).set (by simp [uB]) _
      simp only [Nat.zero_add] at hM3 hz q2' hF3
      have d1 := hM3.c1
      have z1 := hM3.f1
      have HM3 := mkHid hM3
      have HF3 := mkHid ((Fr.of hb3).trans hF3)
      have hsz : B ≤ (w2.setCell ⟨g, at_ * 3 + 2, none⟩ (.int .i64 to)).heap.size := by have := hM3.hB; have := hM3.lt; omega
      have HSE : Hid ((w2.setCell ⟨g, at_ * 3 + 2, none⟩ (.int .i64 to)).heap.size = w2.heap.size) := by rw [Hid]; simp [World.setCell]
      have HNB : Hid (¬ Reach xs to at_) := fun h => by have := HBR.out.2 h; cases this
      clear q0 q1 q2 hf hM2 hM3 hF3
      go_wp2_with (at_builtin; refine wpList_accW (α := Int) rfl _ _ 23 rfl B 3 8 _ Try.underlying23 Try.infoInt rfl (by decide) (.slice ta ts.length tc) ts HM3.out.trail (by rfl) _ #[.int .i64 at_] (at_ : Int) ⟨rfl, by omega, by omega⟩ (by rw [HSE.out]; rfl) (by omega) hsz ?_; intro v' w4 ha hg hw; obtain ⟨ta2, tc2, rfl, _⟩ := ha.row; obtain ⟨hM4, hF4, hw4, k1, k2⟩ := HM3.out.trailed ha hg hw; rw [show (ts ++ [(at_ : Int)]).length = ts.length + 1 by simp] at hM4 hF4 hw4; have HM4 := mkHid hM4; have HF4 := mkHid hF4; have HW4 := mkHid hw4; clear hM4 hF4 hw4 ha hg hw)
      go_ret
      refine .inr ⟨rfl, HNB.out, _, HM4.out, HF3.out.trans HF4.out, ?_⟩
      rcases HW4.out with e | ⟨b, e, hb⟩
      · exact .inl e
      · exact .inr ⟨b, e, Nat.le_trans HF3.out.size hb⟩
  | false =>
    obtain ⟨rfl, rfl⟩ := HAT.out.2 rfl
    go_enter Try.func117, Try.ntmps117
    go_wp2_with fail
    refine HFREE.out.mono ?_
    rintro e w1 ⟨rfl, hb1⟩
    go_wp2_with fail
    refine (HRCH.out w1 hb1).mono ?_
    rintro e w2 ⟨⟨b, rfl, hbr⟩, hb2⟩
    have HBR := mkHid hbr
    clear hbr
    have hb3 := hb1.then hb2
    cases b with
    | true =>
      go_wp2_with fail
      go_ret
      exact .inl ⟨rfl, HBR.out.1 (by first | rfl | trivial), hb3⟩
    | false =>
      have hM2 := HM.out.below hb3
      have d0 := hM2.c0
      have hcm := hM2.cells.row.max
      have hcl := hM2.cells.row.le
      have hz := hM2.cells.frozen (0 + at_ * 3 + 2)
      have hM3 := hM2.setN hal (v := (to : Int)) (by omega) (by omega)
      rw [← bindS_at hal] at hM3
      obtain ⟨b5, off5, e5, q0, q1, q2, hf⟩ := hM2.cells.row.at_ at_ xs[at_] (List.getElem?_eq_getElem hal)
      cases e5
      have q2' : w2.cell? ⟨g, 0 + at_ * 3 + 2, none⟩ = some (.int .i64 xs[at_].n) := q2
      have hF3 : Fr (uB U g (.slice ta ts.length tc)) w2 (w2.setCell ⟨g, 0 + at_ * 3 + 2, none⟩ (.int .i64 to)) := (Fr.refl _ _).set (by simp [uB]) _
      simp only [Nat.zero_add] at hM3 hz q2' hF3
      have d1 := hM3.c1
      have z1 := hM3.f1
      have HM3 := mkHid hM3
      have HF3 := mkHid ((Fr.of hb3).trans hF3)
      have hsz : B ≤ (w2.setCell ⟨g, at_ * 3 + 2, none⟩ (.int .i64 to)).heap.size := by have := hM3.hB; have := hM3.lt; omega
      have HSE : Hid ((w2.setCell ⟨g, at_ * 3 + 2, none⟩ (.int .i64 to)).heap.size = w2.heap.size) := by rw [Hid]; simp [World.setCell]
      have HNB : Hid (¬ Reach xs to at_) := fun h => by have := HBR.out.2 h; cases this
      clear q0 q1 q2 hf hM2 hM3 hF3
      go_wp2_with (at_builtin; refine wpList_accW (α := Int) rfl _ _ 23 rfl B 3 8 _ Try.underlying23 Try.infoInt rfl (by decide) (.slice ta ts.length tc) ts HM3.out.trail (by rfl) _ #[.int .i64 at_] (at_ : Int) ⟨rfl, by omega, by omega⟩ (by rw [HSE.out]; rfl) (by omega) hsz ?_; intro v' w4 ha hg hw; obtain ⟨ta2, tc2, rfl, _⟩ := ha.row; obtain ⟨hM4, hF4, hw4, k1, k2⟩ := HM3.out.trailed ha hg hw; rw [show (ts ++ [(at_ : Int)]).length = ts.length + 1 by simp] at hM4 hF4 hw4; have HM4 := mkHid hM4; have HF4 := mkHid hF4; have HW4 := mkHid hw4; clear hM4 hF4 hw4 ha hg hw)
      go_ret
      refine .inr ⟨rfl, HNB.out, _, HM4.out, HF3.out.trans HF4.out, ?_⟩
      rcases HW4.out with e | ⟨b, e, hb⟩
      · exact .inl e
      · exact .inr ⟨b, e, Nat.le_trans HF3.out.size hb⟩
end Go.Proofs.Ytefnmjoapmnkbaa
set_option linter.unusedVariables false
namespace Go.Proofs.Ytefnmjoapmnkbaa
open Go.RowKit

/-! ### rows of pairs of numbers -/
structure PairE (w : World) (b o : Nat) (p : Int × Int) : Prop where
  c0 : w.cell? ⟨b, o, none⟩ = some (.int .i64 p.1)
  c1 : w.cell? ⟨b, o + 1, none⟩ = some (.int .i64 p.2)
  fit : pfit p
instance repPairH : Rep (Int × Int) where
  sz := 2
  E := PairE
  mono h hb := ⟨hb _ _ _ h.c0, hb _ _ _ h.c1, h.fit⟩
  lt h := cell_lt h.c0
instance repcPairH : RepC (Int × Int) where
  C _ cs p := cs = [.int .i64 p.1, .int .i64 p.2] ∧ pfit p
  len := by rintro w cs c ⟨rfl, _⟩; rfl
  one := by rintro w cs c ⟨rfl, _⟩ u hu; simp at hu; rcases hu with rfl | rfl <;> rfl
  cmono := by rintro w w' cs c h _; exact h
  toE := by
    rintro w cs c b o ⟨rfl, hf⟩ hat
    exact ⟨hat 0 _ rfl, hat 1 _ rfl, hf⟩
  ofE := by
    rintro w c b o ⟨h0, h1, hf⟩
    refine ⟨_, ⟨rfl, hf⟩, fun j u hj => ?_⟩
    match j with
    | 0 => simp at hj; subst hj; exact h0
    | 1 => simp at hj; subst hj; exact h1
    | j + 2 => simp at hj
  pos := by decide
theorem Try.infoPairH : (Try.prog.info? 111).map (fun i => (i.zero, i.size, i.bytes)) = some (some (.agg #[.int .i64 0, .int .i64 0]), 2, 16) := by kernel_rfl
def flatQ (t : List (Int × Int)) : List Value := t.flatMap fun p => [.int .i64 p.1, .int .i64 p.2]
theorem flatQ_len (t : List (Int × Int)) : (flatQ t).length = t.length * 2 := by
  induction t with
  | nil => rfl
  | cons p t ih => unfold flatQ at ih ⊢; rw [List.flatMap_cons, List.length_append, ih, List.length_cons]; simp; omega
theorem crows_pair {w : World} : ∀ {vs : List Value} {xs : List (Int × Int)}, CRows w vs xs → vs = flatQ xs ∧ ∀ p ∈ xs, pfit p := by
  intro vs xs h
  induction h with
  | nil => exact ⟨rfl, by simp⟩
  | @cons cs x vs xs hc _ ih =>
    obtain ⟨rfl, h1⟩ := hc
    obtain ⟨rfl, h2⟩ := ih
    refine ⟨by simp [flatQ], fun n hn => ?_⟩
    rcases List.mem_cons.1 hn with rfl | hn
    · exact h1
    · exact h2 n hn
theorem crows_pairs (w : World) {xs : List (Int × Int)} (h : ∀ p ∈ xs, pfit p) : CRows w (flatQ xs) xs := by
  induction xs with
  | nil => exact .nil
  | cons c xs ih => exact .cons (cs := [.int .i64 c.1, .int .i64 c.2]) ⟨rfl, h c (by simp)⟩ (ih fun d hd => h d (by simp [hd]))
section
variable {B e g cap : Nat} {acc : List (Int × Int)} {y : Int × Int} {v : Value} {w w' : World}
theorem AccInv.someP (h : AccInv B e (acc ++ [y]) v w) : ∃ g cap, v = .slice (some ⟨g, 0, none⟩) (acc.length + 1) cap ∧ B ≤ g ∧ g < w.heap.size := by
  obtain ⟨vs, ho, hc⟩ := h.ex
  rcases ho.2 with ⟨rfl, hn⟩ | ⟨g, cap, cur, rfl, hb, hg, _⟩
  · simp at hn
  · exact ⟨g, cap, by simp, hb, (Array.getElem?_eq_some_iff.1 hg).1⟩
theorem AccInv.popP (h : AccInv B e (acc ++ [y]) (.slice (some ⟨g, 0, none⟩) (acc.length + 1) cap) w) : AccInv B e acc (.slice (some ⟨g, 0, none⟩) acc.length cap) w := by
  obtain ⟨vs, ho, hc⟩ := h.ex
  obtain ⟨rfl, hf⟩ := crows_pair hc
  rw [show flatQ (acc ++ [y]) = flatQ acc ++ [.int .i64 y.1, .int .i64 y.2] by simp [flatQ], show (acc ++ [y]).length = acc.length + 1 by simp] at ho
  exact ⟨flatQ acc, ownsRow_pop (by rw [flatQ_len]; rfl) ho, crows_pairs _ fun n hn => hf n (List.mem_append_left _ hn)⟩
theorem AccInv.blockP (h : AccInv B e acc v w) (hb : ∀ b, v.ownBlock = some b → w'.heap[b]? = w.heap[b]?) : AccInv B e acc v w' := by
  obtain ⟨vs, ho, hc⟩ := h.ex
  obtain ⟨rfl, hf⟩ := crows_pair hc
  exact ⟨_, own_block ho hb, crows_pairs _ hf⟩
theorem AccInv.frP {us : List Nat} (h : AccInv B e acc v w) (hf : Fr us w w') (hn : ∀ b, v.ownBlock = some b → b ∉ us) : AccInv B e acc v w' := h.blockP fun b hb => hf.block b (h.lt b hb).2 (hn b hb)
theorem AccInv.oneP (w : World) (p : Int × Int) (hp : pfit p) (hB : B ≤ w.heap.size) : AccInv B 111 [p] (.slice (some ⟨w.heap.size, 0, none⟩) 1 1) (w.alloc (.cells #[.int .i64 p.1, .int .i64 p.2] 111)) :=
  ⟨[.int .i64 p.1, .int .i64 p.2], ⟨rfl, .inr ⟨w.heap.size, 1, #[.int .i64 p.1, .int .i64 p.2], rfl, hB, heap_alloc_new w _, Nat.le_refl _, by unfold maxLen; omega, rfl, rfl⟩⟩, crows_pairs _ (xs := [p]) (by simp; exact hp)⟩
end
/-- pairs of two tops' slots, the last one first -/
def argsD (hi : Int) (x y : Nat) (m : Nat) : List (Int × Int) := (List.range m).map fun i : Nat => (hi - 1 - i, hi - 1 - i - x + y)
theorem argsD_succ (hi : Int) (x y m : Nat) : argsD hi x y (m + 1) = argsD hi x y m ++ [(hi - 1 - m, hi - 1 - m - x + y)] := by unfold argsD; rw [List.range_succ, List.map_append]; rfl
theorem argsD_length (hi : Int) (x y m : Nat) : (argsD hi x y m).length = m := by simp [argsD]
def argsU (xs : List Cel) (x y : Nat) : List (Int × Int) := match xs[x]? with
  | none => []
  | some c => argsD (leads2 xs x c) x y (leads2 xs x c - leads1 xs x c).toNat
/-- one block more turns: the row's, or one that came since -/
theorem Fr.grown {us : List Nat} {w w1 w2 : World} {o : Obj} {r : Option Nat} (h : Fr us w w1) (hg : (w1.alloc o).grownBy w2 r) (hr : ∀ b, r = some b → b ∈ us ∨ w.heap.size ≤ b) : Fr us w w2 := by
  have ha := h.alloc o
  refine ⟨hg.os.trans ha.os, hg.tape.trans ha.tape, hg.output.trans ha.output, Nat.le_trans ha.size hg.size, fun k hk hn => ?_⟩
  rw [hg.block k (Nat.lt_of_lt_of_le hk ha.size) (fun e => by rcases hr k e.symm with h1 | h1; exact hn h1; omega)]
  exact ha.block k hk hn
theorem leads_low (l : List Cel) (k : Nat) (hk : k < l.length) (hf : l[k].fit) : -9223372036854775807 ≤ leads2 l k l[k] := by
  have := hf.n1
  unfold leads2
  split
  · omega
  · split <;> omega
/-- where a row lies that may have moved -/
def NewAt (w : World) (v v' : Value) : Prop := v'.ownBlock = v.ownBlock ∨ ∃ b, v'.ownBlock = some b ∧ w.heap.size ≤ b

set_option maxHeartbeats 3200000 in
theorem hargs_any (W : World) (U g cap : Nat) (xs : List Cel) (hU : W.cell? ⟨U, 0, none⟩ = some (.slice (some ⟨g, 0, none⟩) xs.length cap)) (hr : Row W (some ⟨g, 0, none⟩) cap xs) (hl : xs.length ≤ 5000) (B2 : Nat) (ps : List (Int × Int)) (vp : Value) (hp : AccInv B2 111 ps vp W) (hB2 : B2 ≤ W.heap.size) (hps : ps.length ≤ 900000000) (x y : Nat) (hx : x < xs.length) (hy : y < xs.length)
    (hgp : vp.ownBlock ≠ some g) (hUp : vp.ownBlock ≠ some U) :
    Calls Try.prog 118 #[.pointer (some ⟨U, 0, none⟩), vp, .int .i64 x, .int .i64 y] W fun e W' => ∃ vp', e = .returned vp' ∧ AccInv B2 111 (ps ++ argsU xs x y) vp' W' ∧ Fr vp.ownBlock.toList W W' ∧ NewAt W vp vp' := by
  obtain ⟨pa, pc, rfl, hpr⟩ := hp.row
  have hpm := hpr.max
  have hpl := hpr.le
  clear hpr
  have HP := mkHid hp
  clear hp
  have HAU : Hid (argsU xs x y = argsD (leads2 xs x xs[x]) x y (leads2 xs x xs[x] - leads1 xs x xs[x]).toNat) := by rw [Hid, argsU, List.getElem?_eq_getElem hx]
  have HLE := mkHid (leads_any (some ⟨g, 0, none⟩) cap x W xs hr hx)
  obtain ⟨q1, q2, q3⟩ := leads_range xs x hx
  have hfew := leads_few xs x hx
  have hlow := leads_low xs x hx (hr.fit _ (List.getElem_mem hx))
  generalize argsU xs x y = AU at *
  generalize leads1 xs x xs[x] = L1 at *
  generalize leads2 xs x xs[x] = L2 at *
  go_enter Try.func118, Try.ntmps118
  go_wp2_with fail
  refine HLE.out.mono ?_
  rintro e w1 ⟨rfl, hb1⟩
  have HP1 := mkHid (HP.out.below hb1)
  have HF1 : Hid (Fr (Value.slice pa ps.length pc).ownBlock.toList W w1) := Fr.of hb1
  go_wp2_with fail
  go_loopw [1, 11] (fun v i wz => ∃ (av : Option Addr) (cv n m : Nat), i = .int .i64 (L2 - 1 - m) ∧ v = .slice av n cv ∧ Hid (n = ps.length + m) ∧ (m : Int) ≤ max (L2 - L1) 0 ∧ Hid (AccInv B2 111 (ps ++ argsD L2 x y m) v wz) ∧ Hid (Fr (Value.slice pa ps.length pc).ownBlock.toList W wz) ∧ Hid (NewAt W (Value.slice pa ps.length pc) v)) (fun v i wz => (intOf i - L1 + 1).toNat)
  case atStart => exact ⟨pa, pc, ps.length, 0, by (rw [show L2 - 1 - ((0 : Nat) : Int) = L2 - 1 by omega]; try go_num), rfl, rfl, by omega, by rw [Hid]; simpa [argsD] using HP1.out, HF1, .inl rfl⟩
  case round =>
    obtain ⟨av, cv, n, m, rfl, rfl, HN, hm, HA, HF, HW⟩ := hrel
    have hsz := HF.out.size
    by_cases hlt : L1 ≤ L2 - 1 - m
    · have HLN : Hid ((ps ++ argsD L2 x y m).length + 1 ≤ 1000000000) := by
        rw [Hid, List.length_append, argsD_length]
        omega
      go_wp2_with (at_builtin; refine wpList_accW (α := Int × Int) rfl _ _ 112 rfl B2 111 16 _ Try.underlying112 Try.infoPairH rfl (by decide) _ (ps ++ argsD L2 x y m) HA.out (by rfl) _ #[.int .i64 (L2 - 1 - m), .int .i64 (L2 - 1 - m - x + y)] (L2 - 1 - m, L2 - 1 - m - x + y) ⟨rfl, ⟨by omega, by omega⟩, by omega, by omega⟩ (by rfl) HLN.out (by omega) ?_; intro v' w3 hacc3 hg3 hw3)
      go_round
      case rel =>
        obtain ⟨a4, c4, e4, _⟩ := hacc3.row
        rw [List.append_assoc, ← argsD_succ] at hacc3
        have hlt4 := HA.out.lt
        refine ⟨a4, c4, ps.length + (m + 1), m + 1, by go_num, ?_, rfl, by omega, hacc3, HF.out.grown hg3 (fun b hb => ?_), ?_⟩
        · rw [e4]; simp [argsD_length, Nat.add_assoc]
        · rcases HW.out with e | ⟨b', e, hb'⟩
          · left; rw [← e, hb]; simp
          · right; rw [hb] at e; injection e with e; omega
        · rcases hw3 with e | e
          · rcases HW.out with e2 | ⟨b', e2, hb'⟩
            · exact .inl (e.trans e2)
            · exact .inr ⟨b', e.trans e2, hb'⟩
          · exact .inr ⟨_, e, by omega⟩
      case measure => simp [intOf]; omega
    · go_wp2_with fail
      go_ret
      have hmE : m = (L2 - L1).toNat := by omega
      refine ⟨_, rfl, ?_, HF.out, HW.out⟩
      rw [HAU.out, ← hmE]
      exact HA.out
end Go.Proofs.Ytefnmjoapmnkbaa
set_option linter.unusedVariables false
namespace Go.Proofs.Ytefnmjoapmnkbaa
open Go.RowKit

/-! ### making alike, step by step -/
def cellN (xs : List Cel) (x : Nat) : Cel := xs.getD x ⟨0, ⟨#[]⟩, 0⟩
theorem cellN_at {xs : List Cel} {x : Nat} (h : x < xs.length) : cellN xs x = xs[x] := by
  unfold cellN; rw [List.getD_eq_getElem?_getD, List.getElem?_eq_getElem h]; rfl
/-- both places of a pair, followed, the lesser one first -/
def Fol (xs : List Cel) (a b : Int) (x y : Nat) : Prop := ∃ i j : Nat, followL xs xs.length a = some (i : Int) ∧ followL xs xs.length b = some (j : Int) ∧ x = min i j ∧ y = max i j
inductive URun : List Cel → List Int → List (Int × Int) → List (Int × Int) → Option (List Cel × List Int) → Prop where
  | done (xs : List Cel) (ts : List Int) (met : List (Int × Int)) : URun xs ts [] met (some (xs, ts))
  | off {xs : List Cel} {ts : List Int} {a b : Int} {ps met : List (Int × Int)} (h : followL xs xs.length a = none ∨ followL xs xs.length b = none) : URun xs ts ((a, b) :: ps) met none
  | skip {xs : List Cel} {ts : List Int} {a b : Int} {ps met : List (Int × Int)} {x y : Nat} {r : Option (List Cel × List Int)} (hf : Fol xs a b x y) (h : x = y ∨ ((x : Int), (y : Int)) ∈ met) (hr : URun xs ts ps met r) : URun xs ts ((a, b) :: ps) met r
  | circle {xs : List Cel} {ts : List Int} {a b : Int} {ps met : List (Int × Int)} {x y : Nat} (hf : Fol xs a b x y) (h : ¬ (x = y ∨ ((x : Int), (y : Int)) ∈ met)) (h2 : sfreeB (cellN xs x) x = true ∨ sfreeB (cellN xs y) y = true) (h3 : Reach xs (giveT xs x y) (giveA xs x y)) : URun xs ts ((a, b) :: ps) met none
  | bind {xs : List Cel} {ts : List Int} {a b : Int} {ps met : List (Int × Int)} {x y : Nat} {r : Option (List Cel × List Int)} (hf : Fol xs a b x y) (h : ¬ (x = y ∨ ((x : Int), (y : Int)) ∈ met)) (h2 : sfreeB (cellN xs x) x = true ∨ sfreeB (cellN xs y) y = true) (h3 : ¬ Reach xs (giveT xs x y) (giveA xs x y))
      (hr : URun (bindS xs (giveA xs x y) (giveT xs x y)) (ts ++ [(giveA xs x y : Int)]) ps met r) : URun xs ts ((a, b) :: ps) met r
  | unlike {xs : List Cel} {ts : List Int} {a b : Int} {ps met : List (Int × Int)} {x y : Nat} (hf : Fol xs a b x y) (h : ¬ (x = y ∨ ((x : Int), (y : Int)) ∈ met)) (h2 : ¬ (sfreeB (cellN xs x) x = true ∨ sfreeB (cellN xs y) y = true)) (h3 : cellN xs x ≠ cellN xs y) : URun xs ts ((a, b) :: ps) met none
  | plain {xs : List Cel} {ts : List Int} {a b : Int} {ps met : List (Int × Int)} {x y : Nat} {r : Option (List Cel × List Int)} (hf : Fol xs a b x y) (h : ¬ (x = y ∨ ((x : Int), (y : Int)) ∈ met)) (h2 : ¬ (sfreeB (cellN xs x) x = true ∨ sfreeB (cellN xs y) y = true)) (h3 : cellN xs x = cellN xs y) (h4 : (cellN xs x).k ≠ 4)
      (hr : URun xs ts ps met r) : URun xs ts ((a, b) :: ps) met r
  | tops {xs : List Cel} {ts : List Int} {a b : Int} {ps met : List (Int × Int)} {x y : Nat} {r : Option (List Cel × List Int)} (hf : Fol xs a b x y) (h : ¬ (x = y ∨ ((x : Int), (y : Int)) ∈ met)) (h2 : ¬ (sfreeB (cellN xs x) x = true ∨ sfreeB (cellN xs y) y = true)) (h3 : cellN xs x = cellN xs y) (h4 : (cellN xs x).k = 4)
      (hr : URun xs ts ((argsU xs x y).reverse ++ ps) (((x : Int), (y : Int)) :: met) r) : URun xs ts ((a, b) :: ps) met r

theorem Fol.lt {xs : List Cel} {a b : Int} {x y : Nat} (h : Fol xs a b x y) : x < xs.length ∧ y < xs.length ∧ x ≤ y := by
  obtain ⟨i, j, h1, h2, rfl, rfl⟩ := h
  have := follow_rng h1
  have := follow_rng h2
  omega
/-! #### it ends -/
def freeN (xs : List Cel) : Nat := ((List.range xs.length).filter fun k => sfreeB (cellN xs k) k).length
def pairsN (n : Nat) : List (Int × Int) := (List.range n).flatMap fun x : Nat => (List.range n).map fun y : Nat => ((x : Int), (y : Int))
def unmetN (n : Nat) (met : List (Int × Int)) : Nat := ((pairsN n).filter fun p => !decide (p ∈ met)).length
theorem filter_leH {α : Type} (p q : α → Bool) : ∀ l : List α, (∀ a ∈ l, q a = true → p a = true) → (l.filter q).length ≤ (l.filter p).length
  | [], _ => by simp
  | a :: l, h => by
    have ih := filter_leH p q l fun b hb => h b (List.mem_cons_of_mem _ hb)
    have h1 := h a List.mem_cons_self
    cases hq : q a <;> cases hp : p a <;> simp [hq, hp] <;> simp_all <;> omega
theorem filter_ltH {α : Type} (p q : α → Bool) : ∀ l : List α, (∀ a ∈ l, q a = true → p a = true) → (∃ a ∈ l, p a = true ∧ q a = false) → (l.filter q).length < (l.filter p).length
  | [], _, h => by obtain ⟨a, ha, _⟩ := h; cases ha
  | a :: l, h, hx => by
    have h1 := h a List.mem_cons_self
    have hl := filter_leH p q l fun b hb => h b (List.mem_cons_of_mem _ hb)
    obtain ⟨b, hb, hp, hq⟩ := hx
    rcases List.mem_cons.1 hb with rfl | hb
    · simp [hp, hq]; omega
    · have ih := filter_ltH p q l (fun b hb => h b (List.mem_cons_of_mem _ hb)) ⟨b, hb, hp, hq⟩
      cases hq2 : q a <;> cases hp2 : p a <;> simp [hq2, hp2] <;> simp_all <;> omega
theorem mem_pairsN {n x y : Nat} (hx : x < n) (hy : y < n) : ((x : Int), (y : Int)) ∈ pairsN n := by
  unfold pairsN
  rw [List.mem_flatMap]
  exact ⟨x, List.mem_range.2 hx, List.mem_map.2 ⟨y, List.mem_range.2 hy, rfl⟩⟩
theorem pairsN_length (n : Nat) : (pairsN n).length = n * n := by
  unfold pairsN
  have : ∀ l : List Nat, (l.flatMap fun x : Nat => (List.range n).map fun y : Nat => ((x : Int), (y : Int))).length = l.length * n := by
    intro l
    induction l with
    | nil => simp
    | cons a l ih => rw [List.flatMap_cons, List.length_append, ih, List.length_cons, Nat.succ_mul]; simp; omega
  rw [this, List.length_range]
theorem unmetN_le (n : Nat) (met : List (Int × Int)) : unmetN n met ≤ n * n := by
  unfold unmetN; exact Nat.le_trans (List.length_filter_le _ _) (Nat.le_of_eq (pairsN_length n))
theorem unmetN_lt {n x y : Nat} {met : List (Int × Int)} (hx : x < n) (hy : y < n) (h : ((x : Int), (y : Int)) ∉ met) : unmetN n (((x : Int), (y : Int)) :: met) < unmetN n met := by
  unfold unmetN
  refine filter_ltH _ _ _ (fun a _ ha => ?_) ⟨_, mem_pairsN hx hy, by simp [h], by simp⟩
  simp at ha ⊢
  exact ha.2
theorem freeN_le (xs : List Cel) : freeN xs ≤ xs.length := by
  unfold freeN; exact Nat.le_trans (List.length_filter_le _ _) (by simp)
theorem giveA_lt {xs : List Cel} {x y : Nat} (hx : x < xs.length) (hy : y < xs.length) : giveA xs x y < xs.length := by unfold giveA; split <;> assumption
theorem giveT_lt {xs : List Cel} {x y : Nat} (hx : x < xs.length) (hy : y < xs.length) : giveT xs x y < xs.length := by unfold giveT; split <;> assumption
theorem give_ne {xs : List Cel} {x y : Nat} (h : x ≠ y) : giveA xs x y ≠ giveT xs x y := by unfold giveA giveT; split; exact fun e => h e.symm; exact h
theorem giveA_free {xs : List Cel} {x y : Nat} (h : sfreeB (cellN xs x) x = true ∨ sfreeB (cellN xs y) y = true) : sfreeB (cellN xs (giveA xs x y)) (giveA xs x y) = true := by
  unfold giveA
  by_cases hy : sfreeB (xs.getD y ⟨0, ⟨#[]⟩, 0⟩) y = true
  · rw [if_pos hy]; exact hy
  · rw [if_neg hy]
    rcases h with h | h
    · exact h
    · exact absurd h hy
theorem cellN_bind {xs : List Cel} {a b k : Nat} (ha : a < xs.length) : cellN (bindS xs a b) k = if k = a then ⟨(cellN xs a).k, (cellN xs a).s, (b : Int)⟩ else cellN xs k := by
  rw [bindS_at ha]
  unfold cellN
  simp only [List.getD_eq_getElem?_getD]
  by_cases e : k = a
  · subst e
    rw [List.getElem?_set_self ha, if_pos rfl, List.getElem?_eq_getElem ha]; rfl
  · rw [List.getElem?_set_ne (fun h => e h.symm), if_neg e]
theorem freeN_bind {xs : List Cel} {a b : Nat} (ha : a < xs.length) (hf : sfreeB (cellN xs a) a = true) (hab : a ≠ b) : freeN (bindS xs a b) < freeN xs := by
  unfold freeN
  rw [bindS_length]
  refine filter_ltH _ _ _ (fun k _ hk => ?_) ⟨a, List.mem_range.2 ha, hf, ?_⟩
  · rw [cellN_bind ha] at hk
    by_cases e : k = a
    · subst e; exact hf
    · rwa [if_neg e] at hk
  · rw [cellN_bind ha, if_pos rfl]
    simp [sfreeB] at hf ⊢
    intro _; omega
/-- tops of few slots -/
def Few (xs : List Cel) : Prop := ∀ k, (cellN xs k).k = 4 → (cellN xs k).n ≤ 6
theorem Few.bind {xs : List Cel} {a b : Nat} (h : Few xs) (ha : a < xs.length) (hf : sfreeB (cellN xs a) a = true) : Few (bindS xs a b) := by
  intro k hk
  rw [cellN_bind ha] at hk ⊢
  by_cases e : k = a
  · rw [if_pos e] at hk
    simp [sfreeB] at hf
    have hk' : (cellN xs a).k = 4 := hk
    omega
  · rw [if_neg e] at hk ⊢
    exact h k hk
theorem argsU_length {xs : List Cel} (h : Few xs) {x y : Nat} (hx : x < xs.length) : (argsU xs x y).length ≤ 6 := by
  unfold argsU
  rw [List.getElem?_eq_getElem hx, argsD_length]
  have h1 := h x
  rw [cellN_at hx] at h1
  unfold leads1 leads2
  by_cases h4 : xs[x].k = 4
  · rw [if_pos h4, if_pos h4]
    have := h1 h4
    omega
  · rw [if_neg h4, if_neg h4]
    split <;> omega
end Go.Proofs.Ytefnmjoapmnkbaa
set_option linter.unusedVariables false
namespace Go.Proofs.Ytefnmjoapmnkbaa
open Go.RowKit

/-! ### the memory while pairs are made alike -/
structure AS (w : World) (B U g cap m : Nat) (vt vp : Value) (xs : List Cel) (ts : List Int) (ps met : List (Int × Int)) (W : World) : Prop where
  um : UM W B U g cap vt xs ts
  prs : AccInv w.heap.size 111 ps.reverse vp W
  map : ∃ k, k ≤ met.length ∧ MapPB W m k (fun p => decide (p ∈ met))
  pu : ∀ b, vp.ownBlock = some b → b ∉ uB U g vt
  mu : m ∉ uB U g vt
  pm : vp.ownBlock ≠ some m
  fr : Below B w W
section
variable {w W W' : World} {B U g cap m : Nat} {vt vp : Value} {xs xs' : List Cel} {ts ts' : List Int} {ps ps' met met' : List (Int × Int)}
theorem AS.calm (h : AS w B U g cap m vt vp xs ts ps met W) (hb : Below W.heap.size W W') : AS w B U g cap m vt vp xs ts ps met W' := by
  obtain ⟨k, hk, hm⟩ := h.map
  refine ⟨h.um.below hb, h.prs.frP (us := []) (Fr.of hb) (by simp), ⟨k, hk, hm.below hb⟩, h.pu, h.mu, h.pm, h.fr.trans (hb.mono ?_)⟩
  have := h.um.hB
  have := h.um.lt
  omega
theorem AS.hB (h : AS w B U g cap m vt vp xs ts ps met W) : B ≤ W.heap.size := by
  have := h.um.hB
  have := h.um.lt
  omega
/-- the pairs that are to do are others, in the same row -/
theorem AS.todo (h : AS w B U g cap m vt vp xs ts ps met W) {vp' : Value} (hp : AccInv w.heap.size 111 ps'.reverse vp' W) (hv : vp'.ownBlock = vp.ownBlock) : AS w B U g cap m vt vp' xs ts ps' met W :=
  ⟨h.um, hp, h.map, by rw [hv]; exact h.pu, h.mu, by rw [hv]; exact h.pm, h.fr⟩
/-- a variable was bound -/
theorem AS.bound (h : AS w B U g cap m vt vp xs ts ps met W) {vt' : Value} (hM : UM W' B U g cap vt' xs' ts') (hf : Fr (uB U g vt) W W') (hn : NewAt W vt vt') : AS w B U g cap m vt' vp xs' ts' ps met W' := by
  obtain ⟨k, hk, hm⟩ := h.map
  have hml := hm.lt
  have hnew : ∀ b, b ∉ uB U g vt → b < W.heap.size → b ∉ uB U g vt' := by
    intro b hb hbl hb'
    simp [uB] at hb hb'
    rcases hb' with e | e | e
    · exact hb.1 e
    · exact hb.2.1 e
    · rcases hn with e2 | ⟨b', e2, hb2⟩
      · rw [e2] at e; exact hb.2.2 e
      · rw [e2] at e; injection e with e; omega
  refine ⟨hM, h.prs.frP hf h.pu, ⟨k, hk, hm.block (hf.block m hml h.mu)⟩, fun b hb => hnew b (h.pu b hb) (h.prs.lt b hb).2, hnew m h.mu hml, h.pm, h.fr.trans ?_⟩
  exact hf.below h.hB fun b hb => (h.um.allB b hb).1
/-- pairs were put behind the others -/
theorem AS.pushed (h : AS w B U g cap m vt vp xs ts ps met W) {vp' : Value} (hwB : B ≤ w.heap.size) (hp : AccInv w.heap.size 111 ps'.reverse vp' W') (hf : Fr vp.ownBlock.toList W W') (hn : NewAt W vp vp') : AS w B U g cap m vt vp' xs ts ps' met W' := by
  obtain ⟨k, hk, hm⟩ := h.map
  have hml := hm.lt
  have hu : ∀ b ∈ uB U g vt, b ∉ vp.ownBlock.toList := fun b hb hb' => by
    simp at hb'
    exact h.pu b hb' hb
  refine ⟨h.um.fr hf hu, hp, ⟨k, hk, hm.block (hf.block m hml (by simp; exact h.pm))⟩, fun b hb hb' => ?_, h.mu, fun e => ?_, h.fr.trans (hf.below h.hB fun b hb => ?_)⟩
  · rcases hn with e | ⟨b', e, hb2⟩
    · exact h.pu b (by rw [← e]; exact hb) hb'
    · rw [hb] at e; injection e with e
      have := (h.um.allB b hb').2
      omega
  · rcases hn with e2 | ⟨b', e2, hb2⟩
    · exact h.pm (by rw [← e2]; exact e)
    · rw [e] at e2; injection e2 with e2; omega
  · simp at hb
    have := (h.prs.lt b hb).1
    omega
/-- a pair of tops was marked -/
theorem AS.marked (h : AS w B U g cap m vt vp xs ts ps met W) (hmB : B ≤ m) {p : Int × Int} {k : Nat} (hk : k ≤ met.length) (hm : MapPB W' m (k + 1) (fun q => if q = p then true else decide (q ∈ met))) (hg : W.grownBy W' (some m)) : AS w B U g cap m vt vp xs ts ps (p :: met) W' := by
  have hf := grown_fr hg
  refine ⟨h.um.fr hf fun b hb e => ?_, h.prs.frP hf fun b hb e => ?_, ⟨k + 1, by simp; omega, ?_⟩, h.pu, h.mu, h.pm, h.fr.trans (hf.below h.hB fun b hb => ?_)⟩
  · simp at e; subst e; exact h.mu hb
  · simp at e; subst e; exact h.pm hb
  · have : (fun q => if q = p then true else decide (q ∈ met)) = fun q : Int × Int => decide (q ∈ p :: met) := by
      funext q
      by_cases e : q = p <;> simp [e]
    rwa [this] at hm
  · simp at hb; omega
end
end Go.Proofs.Ytefnmjoapmnkbaa
set_option linter.unusedVariables false
namespace Go.Proofs.Ytefnmjoapmnkbaa
open Go.RowKit

theorem AccInv.fitP {B e : Nat} {acc : List (Int × Int)} {v : Value} {w : World} (h : AccInv B e acc v w) : ∀ p ∈ acc, pfit p := by
  obtain ⟨vs, ho, hc⟩ := h.ex
  exact (crows_pair hc).2
section
variable {U g cap : Nat} {W : World} {xs : List Cel} {p q : Int} {x y : Nat}
theorem followed_some (hU : W.cell? ⟨U, 0, none⟩ = some (.slice (some ⟨g, 0, none⟩) xs.length cap)) (hr : Row W (some ⟨g, 0, none⟩) cap xs) (hl : xs.length ≤ 5000) (hf : pfit (p, q)) (hF : Fol xs p q x y) :
    Calls Try.prog 115 #[.pointer (some ⟨U, 0, none⟩), .agg #[.int .i64 p, .int .i64 q]] W fun e w' => e = .returned (.tuple #[.int .i64 x, .int .i64 y, .bool true]) ∧ Below W.heap.size W w' := by
  obtain ⟨i, j, h1, h2, rfl, rfl⟩ := hF
  refine (followed_any U _ cap W xs hU hr hl p q hf.1.1 hf.1.2 hf.2.1 hf.2.2 (some (i : Int)) (some (j : Int)) h1.symm h2.symm).mono fun e w' ⟨he, hb⟩ => ⟨?_, hb⟩
  rw [he]
  exact ret_iib (by simp; omega) (by simp; omega) rfl
theorem followed_none (hU : W.cell? ⟨U, 0, none⟩ = some (.slice (some ⟨g, 0, none⟩) xs.length cap)) (hr : Row W (some ⟨g, 0, none⟩) cap xs) (hl : xs.length ≤ 5000) (hf : pfit (p, q)) (hF : followL xs xs.length p = none ∨ followL xs xs.length q = none) :
    Calls Try.prog 115 #[.pointer (some ⟨U, 0, none⟩), .agg #[.int .i64 p, .int .i64 q]] W fun e w' => (∃ u v : Int, e = .returned (.tuple #[.int .i64 u, .int .i64 v, .bool false])) ∧ Below W.heap.size W w' := by
  refine (followed_any U _ cap W xs hU hr hl p q hf.1.1 hf.1.2 hf.2.1 hf.2.2 _ _ rfl rfl).mono fun e w' ⟨he, hb⟩ => ⟨⟨_, _, he.trans (ret_iib rfl rfl ?_)⟩, hb⟩
  rcases hF with h | h <;> simp [h]
end
def APost (w : World) (B U g cap : Nat) (xs : List Cel) (ts : List Int) (a b : Int) (e : Ending) (W' : World) : Prop :=
  ∃ r, URun xs ts [(a, b)] [] r ∧ Below B w W' ∧ ((r = none ∧ e = .returned (.bool false)) ∨ ∃ xs' ts' vt', r = some (xs', ts') ∧ e = .returned (.bool true) ∧ xs'.length = xs.length ∧ UM W' B U g cap vt' xs' ts')

/-- between two rounds -/
structure AR (w : World) (B U g cap : Nat) (xs0 : List Cel) (ts0 : List Int) (a b : Int) (kk : Nat) (vt vp : Value) (xs : List Cel) (ts : List Int) (ps met : List (Int × Int)) (W : World) : Prop where
  s : AS w B U g cap (w.heap.size + 1) vt vp xs ts ps met W
  len : xs.length = xs0.length
  few : Few xs
  run : ∀ r, URun xs ts ps met r → URun xs0 ts0 [(a, b)] [] r
  fuel : kk = (freeN xs + unmetN xs.length met) * 7 + ps.length
  le : kk ≤ 180000000
  trail : ts.length + freeN xs ≤ 900000
  mets : met.length + unmetN xs.length met ≤ 25000000
section
variable {w : World} {B U g cap kk x y : Nat} {xs0 xs : List Cel} {ts0 ts : List Int} {a b p q : Int} {vt vp vp' vt' : Value} {ps met : List (Int × Int)} {W W' : World}
/-- the pair plays no part -/
theorem AR.skip (h : AR w B U g cap xs0 ts0 a b kk vt vp xs ts ((p, q) :: ps) met W) (hs : AS w B U g cap (w.heap.size + 1) vt vp' xs ts ps met W') (hr : ∀ r, URun xs ts ps met r → URun xs ts ((p, q) :: ps) met r) :
    AR w B U g cap xs0 ts0 a b (kk - 1) vt vp' xs ts ps met W' := by
  have h1 := h.fuel
  have h2 := h.le
  rw [List.length_cons] at h1
  exact ⟨hs, h.len, h.few, fun r hr' => h.run r (hr r hr'), by omega, by omega, h.trail, h.mets⟩
theorem AR.bound (h : AR w B U g cap xs0 ts0 a b kk vt vp xs ts ((p, q) :: ps) met W) (hF : Fol xs p q x y) (hn : ¬ (x = y ∨ ((x : Int), (y : Int)) ∈ met)) (hfr : sfreeB (cellN xs x) x = true ∨ sfreeB (cellN xs y) y = true) (hR : ¬ Reach xs (giveT xs x y) (giveA xs x y))
    (hs : AS w B U g cap (w.heap.size + 1) vt' vp' (bindS xs (giveA xs x y) (giveT xs x y)) (ts ++ [(giveA xs x y : Int)]) ps met W') :
    ∃ k', k' < kk ∧ AR w B U g cap xs0 ts0 a b k' vt' vp' (bindS xs (giveA xs x y) (giveT xs x y)) (ts ++ [(giveA xs x y : Int)]) ps met W' := by
  obtain ⟨hx, hy, _⟩ := hF.lt
  have hxy : x ≠ y := fun e => hn (.inl e)
  have h1 := h.fuel
  have h2 := h.le
  have h3 := freeN_bind (giveA_lt hx hy) (giveA_free hfr) (give_ne hxy)
  have h4 := h.trail
  have hl : (bindS xs (giveA xs x y) (giveT xs x y)).length = xs.length := bindS_length _ _ _
  rw [List.length_cons] at h1
  refine ⟨(freeN (bindS xs (giveA xs x y) (giveT xs x y)) + unmetN xs.length met) * 7 + ps.length, by omega, ⟨hs, hl.trans h.len, h.few.bind (giveA_lt hx hy) (giveA_free hfr), fun r hr => h.run r (.bind hF hn hfr hR hr), by rw [hl], by omega, by simp; omega, by rw [hl]; exact h.mets⟩⟩
theorem AR.topped (h : AR w B U g cap xs0 ts0 a b kk vt vp xs ts ((p, q) :: ps) met W) (hF : Fol xs p q x y) (hn : ¬ (x = y ∨ ((x : Int), (y : Int)) ∈ met)) (hfr : ¬ (sfreeB (cellN xs x) x = true ∨ sfreeB (cellN xs y) y = true)) (he : cellN xs x = cellN xs y) (h4 : (cellN xs x).k = 4)
    (hs : AS w B U g cap (w.heap.size + 1) vt vp' xs ts ((argsU xs x y).reverse ++ ps) (((x : Int), (y : Int)) :: met) W') :
    ∃ k', k' < kk ∧ AR w B U g cap xs0 ts0 a b k' vt vp' xs ts ((argsU xs x y).reverse ++ ps) (((x : Int), (y : Int)) :: met) W' := by
  obtain ⟨hx, hy, _⟩ := hF.lt
  have h1 := h.fuel
  have h2 := h.le
  have h3 := unmetN_lt hx hy (fun e => hn (.inr e))
  have h5 := argsU_length h.few hx (y := y)
  have h6 := h.mets
  rw [List.length_cons] at h1
  have hl : ((argsU xs x y).reverse ++ ps).length = (argsU xs x y).length + ps.length := by simp
  refine ⟨(freeN xs + unmetN xs.length (((x : Int), (y : Int)) :: met)) * 7 + ((argsU xs x y).reverse ++ ps).length, by rw [hl]; omega, ⟨hs, h.len, h.few, fun r hr => h.run r (.tops hF hn hfr he h4 hr), rfl, by rw [hl]; omega, h.trail, by rw [List.length_cons]; omega⟩⟩
end
end Go.Proofs.Ytefnmjoapmnkbaa
set_option linter.unusedVariables false
namespace Go.Proofs.Ytefnmjoapmnkbaa
open Go.RowKit

theorem Fol.ex {xs : List Cel} {p q : Int} : (followL xs xs.length p = none ∨ followL xs xs.length q = none) ∨ ∃ x y, Fol xs p q x y := by
  cases h1 : followL xs xs.length p with
  | none => exact .inl (.inl rfl)
  | some i =>
    cases h2 : followL xs xs.length q with
    | none => exact .inl (.inr rfl)
    | some j =>
      have := follow_rng h1
      have := follow_rng h2
      exact .inr ⟨min i.toNat j.toNat, max i.toNat j.toNat, i.toNat, j.toNat, by rw [h1]; congr 1; omega, by rw [h2]; congr 1; omega, rfl, rfl⟩
theorem OwnS.cellsAt {B g cap : Nat} {w : World} {xs : List Cel} (h : OwnS B w g cap xs) {k : Nat} (hk : k < xs.length) : w.cell? ⟨g, k * 3, none⟩ = some (.int .i64 xs[k].k) ∧ w.cell? ⟨g, k * 3 + 1, none⟩ = some (.string xs[k].s) ∧ w.cell? ⟨g, k * 3 + 2, none⟩ = some (.int .i64 xs[k].n) ∧ xs[k].fit := by
  obtain ⟨b, off, e, c0, c1, c2, hf⟩ := h.row.at_ k xs[k] (List.getElem?_eq_getElem hk)
  cases e
  rw [show Rep.sz Cel = 3 from rfl, Nat.zero_add] at c0 c1 c2
  exact ⟨c0, c1, c2, hf⟩
set_option maxRecDepth 100000 in
set_option maxHeartbeats 16000000 in
theorem alike_any (w : World) (B U g cap : Nat) (vt : Value) (xs : List Cel) (ts : List Int) (a b : Int) (hM : UM w B U g cap vt xs ts) (hl : xs.length ≤ 5000) (hts : ts.length ≤ 800000) (hf : pfit (a, b)) (hw : Few xs) :
    Calls Try.prog 73 #[.pointer (some ⟨U, 0, none⟩), .int .i64 a, .int .i64 b] w (APost w B U g cap xs ts a b) := by
  have hBw : B ≤ w.heap.size := by have := hM.hB; have := hM.lt; omega
  have hf1 := freeN_le xs
  have hu1 := unmetN_le xs.length []
  have hnn := prod_bound (a := xs.length) (n := xs.length) (Nat.le_refl _) hl
  have hS0 : AS w B U g cap (w.heap.size + 1) vt (.slice (some ⟨w.heap.size, 0, none⟩) 1 1) xs ts [(a, b)] [] ((w.alloc (.cells #[.int .i64 a, .int .i64 b] 111)).alloc (.map #[] 0)) := by
    have hP := AccInv.oneP w (a, b) hf (Nat.le_refl _)
    have hMp := MapPB.made (w.alloc (.cells #[.int .i64 a, .int .i64 b] 111))
    rw [World.size_alloc] at hMp
    refine ⟨(hM.below ((Below.refl _ _).new _)).below ((Below.refl _ _).new _), hP.frP (us := []) (Fr.of ((Below.refl _ _).new _)) (by simp), ⟨0, Nat.le_refl _, ?_⟩, fun b' hb hb2 => ?_, fun hb2 => ?_, by simp [Value.ownBlock], ((Below.refl _ _).alloc hBw _).alloc (by simp; omega) _⟩
    · simpa using hMp
    · simp [Value.ownBlock] at hb
      have := (hM.allB _ hb2).2
      omega
    · have := (hM.allB _ hb2).2
      omega
  have HS0 := mkHid hS0
  have HW := mkHid hw
  have HM := mkHid hM
  clear hS0 hw hM
  have hmm := @run_makeMap Try.prog
  go_enter Try.func73, Try.ntmps73
  go_wp2_with fail
  refine wp_scope_straight ?_
  go_wp2_with fail
  refine wp_label ?_
  go_wp2_with fail
  go_loopg [7, 9, 10, 11, 12] ((freeN xs + unmetN xs.length []) * 7 + 1) (fun kk v f x1 x2 x3 wr => f = .bool false ∧ ∃ (av : Option Addr) (cv n : Nat) (vt' : Value) (xs' : List Cel) (ts' : List Int) (ps met : List (Int × Int)), v = .slice av n cv ∧ Hid (n = ps.length) ∧ Hid (AR w B U g cap xs ts a b kk vt' (.slice av n cv) xs' ts' ps met wr))
  case atStart =>
    exact ⟨rfl, _, _, _, vt, xs, ts, [(a, b)], [], rfl, rfl, ⟨HS0.out, rfl, HW.out, fun r hr => hr, rfl, by omega, by omega, by simp; omega⟩⟩
  case round =>
    obtain ⟨rfl, av, cv, n, vt', xs', ts', ps, met, rfl, HN, HA⟩ := hrel
    have hl' : xs'.length ≤ 5000 := by rw [HA.out.len]; exact hl
    cases ps with
    | nil =>
      obtain rfl : n = 0 := HN.out
      go_wp2_with fail
      go_ret
      exact ⟨some (xs', ts'), HA.out.run _ (.done _ _ _), HA.out.s.fr, .inr ⟨xs', ts', vt', rfl, rfl, HA.out.len, HA.out.s.um⟩⟩
    | cons pq ps =>
      obtain ⟨p, q⟩ := pq
      obtain rfl : n = ps.length + 1 := by have := HN.out; simpa using this
      have hpr := HA.out.s.prs
      rw [List.reverse_cons] at hpr
      obtain ⟨gp, cp, e1, hgB, hgl⟩ := hpr.someP
      rw [List.length_reverse] at e1
      cases e1
      have hfit := hpr.fitP (p, q) (by simp)
      obtain ⟨a9, c9, e9, hrow⟩ := hpr.row
      rw [show (ps.reverse ++ [(p, q)]).length = ps.length + 1 by simp] at e9
      cases e9
      obtain ⟨b8, o8, e8, hE⟩ := hrow.at_ ps.length (p, q) (by rw [List.getElem?_append_right (by simp)]; simp)
      cases e8
      have d0 : wr.cell? ⟨gp, ps.length * 2, none⟩ = some (.int .i64 p) := by
        have := hE.c0
        simpa [show Rep.sz (Int × Int) = 2 from rfl] using this
      have d1 : wr.cell? ⟨gp, ps.length * 2 + 1, none⟩ = some (.int .i64 q) := by
        have := hE.c1
        simpa [show Rep.sz (Int × Int) = 2 from rfl] using this
      have hcap := hrow.le
      have hcap2 := hrow.max
      rw [show (ps.reverse ++ [(p, q)]).length = ps.length + 1 by simp] at hcap
      have hP : AccInv w.heap.size 111 ps.reverse (.slice (some ⟨gp, 0, none⟩) ps.length cv) wr := by
        have := AccInv.popP (acc := ps.reverse) (y := (p, q)) (by rw [List.length_reverse]; exact hpr)
        rwa [List.length_reverse] at this
      have HS1 := mkHid (HA.out.s.todo hP rfl)
      have HFIT := mkHid hfit
      have hpsl : ps.length ≤ 180000000 := by have := HA.out.fuel; have := HA.out.le; rw [List.length_cons] at *; omega
      have HKK : Hid (1 ≤ gk) := by have := HA.out.fuel; rw [List.length_cons] at this; rw [Hid]; omega
      clear hpr hrow hE hP hfit
      go_wp2_with fail
      rcases Fol.ex (xs := xs') (p := p) (q := q) with hno | ⟨x, y, hF⟩
      · have HNO := mkHid hno
        clear hno
        refine (followed_none HS1.out.um.c0 HS1.out.um.cells.row hl' HFIT.out HNO.out).mono ?_
        rintro e w1 ⟨⟨u, v, rfl⟩, hb1⟩
        have HS2 := mkHid (HS1.out.calm hb1)
        clear d0 d1
        go_wp2_with fail
        go_ret
        exact ⟨none, HA.out.run _ (.off HNO.out), HS2.out.fr, .inl ⟨rfl, rfl⟩⟩
      · obtain ⟨hx, hy, hxy0⟩ := hF.lt
        have HF := mkHid hF
        clear hF
        refine (followed_some HS1.out.um.c0 HS1.out.um.cells.row hl' HFIT.out HF.out).mono ?_
        rintro e w1 ⟨rfl, hb1⟩
        have HS2 := mkHid (HS1.out.calm hb1)
        clear d0 d1 hb1
        by_cases hxy : x = y
        · have t1 : ((x : Int) == (y : Int)) = true := by simp [hxy]
          have HXY := mkHid hxy
          clear hxy
          go_wp2_with fail
          go_roundg (gk - 1)
          case measure => have := HKK.out; omega
          case rel => exact ⟨rfl, _, _, _, _, _, _, _, _, rfl, rfl, HA.out.skip HS2.out (fun r hr => .skip HF.out (.inl HXY.out) hr)⟩
        · have t1 : ((x : Int) == (y : Int)) = false := by simp; omega
          have HXY := mkHid hxy
          clear hxy
          obtain ⟨km, hkm, hmp⟩ := HS2.out.map
          have hlk : (Instr.lookup 158 (.map (some (w.heap.size + 1))) (.agg #[.int .i64 x, .int .i64 y]) false).run Try.prog w1 = .ok (.bool (decide (((x : Int), (y : Int)) ∈ met))) w1 := hmp.run_lookup (p := ((x : Int), (y : Int))) ⟨⟨by show (_ : Int) ≤ (x : Int); omega, by show (x : Int) ≤ _; omega⟩, by show (_ : Int) ≤ (y : Int); omega, by show (y : Int) ≤ _; omega⟩
          clear hmp
          by_cases hmem : ((x : Int), (y : Int)) ∈ met
          · rw [decide_eq_true hmem] at hlk
            have HMEM := mkHid hmem
            clear hmem
            go_wp2_with fail
            go_roundg (gk - 1)
            case measure => have := HKK.out; omega
            case rel => exact ⟨rfl, _, _, _, _, _, _, _, _, rfl, rfl, HA.out.skip HS2.out (fun r hr => .skip HF.out (.inr HMEM.out) hr)⟩
          · rw [decide_eq_false hmem] at hlk
            have HNM : Hid (¬ (x = y ∨ ((x : Int), (y : Int)) ∈ met)) := fun h => h.elim HXY.out hmem
            clear hmem
            have HU1 := mkHid (ufree_any U (some ⟨g, 0, none⟩) cap w1 xs' HS2.out.um.c0 HS2.out.um.cells.row x hx)
            have HU2 := fun (w2 : World) (hb : Below w1.heap.size w1 w2) => ufree_any U (some ⟨g, 0, none⟩) cap w2 xs' (HS2.out.calm hb).um.c0 (HS2.out.calm hb).um.cells.row y hy
            have HU2 := mkHid HU2
            generalize hq1 : sfreeB xs'[x] x = q1 at HU1
            generalize hq2 : sfreeB xs'[y] y = q2 at HU2
            have HQ1 : Hid (sfreeB (cellN xs' x) x = q1) := by rw [Hid, cellN_at hx]; exact hq1
            have HQ2 : Hid (sfreeB (cellN xs' y) y = q2) := by rw [Hid, cellN_at hy]; exact hq2
            clear hq1 hq2
            go_wp2_with fail
            with_reducible refine HU1.out.mono ?_
            rintro e w2 ⟨rfl, hb2⟩
            have HS3 := mkHid (HS2.out.calm hb2)
            clear HU1 hlk
            cases q1 with
            | true =>
              have HFR : Hid (sfreeB (cellN xs' x) x = true ∨ sfreeB (cellN xs' y) y = true) := .inl HQ1.out
              clear hb2
              go_wp2_with fail
              with_reducible refine (give_any w2 B U g cap vt' xs' ts' x y HS3.out.um hl' (by have := HA.out.trail; omega) hx hy).mono ?_
              rintro e w4 (⟨rfl, hR, hb4⟩ | ⟨rfl, hR, vt2, hM4, hF4, hn4⟩)
              · have HR := mkHid hR
                have HB4 := mkHid (HS3.out.calm hb4)
                clear hR hb4
                go_wp2_with fail
                go_ret
                exact ⟨none, HA.out.run _ (.circle HF.out HNM.out HFR.out HR.out), HB4.out.fr, .inl ⟨rfl, rfl⟩⟩
              · have HR := mkHid hR
                have HS4 := mkHid (HS3.out.bound hM4 hF4 hn4)
                obtain ⟨k', hk', hAR⟩ := HA.out.bound HF.out HNM.out HFR.out HR.out HS4.out
                have HAR := mkHid hAR
                clear hR hM4 hF4 hn4 hAR
                go_wp2_with fail
                go_roundg k'
                case measure => exact hk'
                case rel => exact ⟨rfl, _, _, _, _, _, _, _, _, rfl, rfl, HAR⟩
            | false =>
              go_wp2_with fail
              with_reducible refine (HU2.out w2 hb2).mono ?_
              rintro e w3 ⟨rfl, hb3⟩
              have HS3b := mkHid (HS3.out.calm hb3)
              clear HU2 hb2 hb3
              cases q2 with
              | true =>
                have HFR : Hid (sfreeB (cellN xs' x) x = true ∨ sfreeB (cellN xs' y) y = true) := .inr HQ2.out
                go_wp2_with fail
                with_reducible refine (give_any w3 B U g cap vt' xs' ts' x y HS3b.out.um hl' (by have := HA.out.trail; omega) hx hy).mono ?_
                rintro e w4 (⟨rfl, hR, hb4⟩ | ⟨rfl, hR, vt2, hM4, hF4, hn4⟩)
                · have HR := mkHid hR
                  have HB4 := mkHid (HS3b.out.calm hb4)
                  clear hR hb4
                  go_wp2_with fail
                  go_ret
                  exact ⟨none, HA.out.run _ (.circle HF.out HNM.out HFR.out HR.out), HB4.out.fr, .inl ⟨rfl, rfl⟩⟩
                · have HR := mkHid hR
                  have HS4 := mkHid (HS3b.out.bound hM4 hF4 hn4)
                  obtain ⟨k', hk', hAR⟩ := HA.out.bound HF.out HNM.out HFR.out HR.out HS4.out
                  have HAR := mkHid hAR
                  clear hR hM4 hF4 hn4 hAR
                  go_wp2_with fail
                  go_roundg k'
                  case measure => exact hk'
                  case rel => exact ⟨rfl, _, _, _, _, _, _, _, _, rfl, rfl, HAR⟩
              | false =>
                have HFR : Hid (¬ (sfreeB (cellN xs' x) x = true ∨ sfreeB (cellN xs' y) y = true)) := by
                  rw [Hid, HQ1.out, HQ2.out]; simp
                have c0 := HS3b.out.um.c0
                obtain ⟨r0, r1, r2, hfx⟩ := HS3b.out.um.cells.cellsAt hx
                obtain ⟨s0, s1, s2, hfy⟩ := HS3b.out.um.cells.cellsAt hy
                have hcm := HS3b.out.um.cells.row.max
                have hcl := HS3b.out.um.cells.row.le
                have hx0 : (0 : Int) ≤ (x : Int) := by omega
                have hy0 : (0 : Int) ≤ (y : Int) := by omega
                have hx1 : (x : Int) < (xs'.length : Int) := by omega
                have hy1 : (y : Int) < (xs'.length : Int) := by omega
                have HCX : Hid (cellN xs' x = xs'[x]) := cellN_at hx
                have HCY : Hid (cellN xs' y = xs'[y]) := cellN_at hy
                generalize xs'[x] = cx at *
                generalize xs'[y] = cy at *
                have hne := fun w => run_neq_slot cx cy w
                by_cases he : cx = cy
                · rw [decide_eq_true he] at hne
                  have HE : Hid (cellN xs' x = cellN xs' y) := by rw [Hid, HCX.out, HCY.out, he]
                  clear he
                  go_wp2_with fail
                  go_quiet (fail)
                  have HS4 := mkHid (HS3b.out.calm (below_drewN (Below.refl w3.heap.size w3) nq))
                  clear c0 r0 r1 r2 s0 s1 s2 hne
                  generalize w3.drewN nq = W4 at HS4 ⊢
                  have c0 := HS4.out.um.c0
                  have r0 := (HS4.out.um.cells.cellsAt hx).1
                  rw [← cellN_at hx, HCX.out] at r0
                  by_cases h4 : cx.k = 4
                  · have t4 : (cx.k == 4) = true := by simp [h4]
                    have HK4 : Hid ((cellN xs' x).k = 4) := by rw [Hid, HCX.out]; exact h4
                    clear h4
                    obtain ⟨km2, hkm2, hmp2⟩ := HS4.out.map
                    have HMP := mkHid hmp2
                    have hmets : met.length ≤ 25000000 := by have := HA.out.mets; omega
                    have hpf : pfit ((x : Int), (y : Int)) := ⟨⟨by show (_ : Int) ≤ (x : Int); omega, by show (x : Int) ≤ _; omega⟩, by show (_ : Int) ≤ (y : Int); omega, by show (y : Int) ≤ _; omega⟩
                    have HPF := mkHid hpf
                    clear hmp2 hpf
                    go_wp2_with (at_mapUpdate; refine HMP.out.wpl_update rfl _ _ _ rfl (by rfl) (by omega) ((x : Int), (y : Int)) (by rfl) HPF.out true (by rfl) ?_; intro w5 hm5 hg5)
                    have HS5 := mkHid (HS4.out.marked (by omega) hkm2 hm5 hg5)
                    clear hm5 hg5
                    have hz5 : w.heap.size ≤ w5.heap.size := by have := HS5.out.prs.lt gp rfl; omega
                    with_reducible refine (hargs_any w5 U g cap xs' HS5.out.um.c0 HS5.out.um.cells.row hl' w.heap.size ps.reverse (.slice (some ⟨gp, 0, none⟩) ps.length cv) HS5.out.prs hz5 (by rw [List.length_reverse]; omega) x y hx hy (fun e => absurd (show g ∈ uB U g vt' by simp [uB]) (HS5.out.pu g e)) (fun e => absurd (show U ∈ uB U g vt' by simp [uB]) (HS5.out.pu U e))).mono ?_
                    rintro e w6 ⟨vp', rfl, hacc, hF6, hN6⟩
                    obtain ⟨a7, c7, rfl, _⟩ := hacc.row
                    have HS6 := mkHid (HS5.out.pushed hBw (ps' := (argsU xs' x y).reverse ++ ps) (by rw [List.reverse_append, List.reverse_reverse]; exact hacc) hF6 hN6)
                    obtain ⟨k', hk', hAR⟩ := HA.out.topped HF.out HNM.out HFR.out HE.out HK4.out HS6.out
                    rw [show (ps.reverse ++ argsU xs' x y).length = ps.length + (argsU xs' x y).length by simp] at hAR
                    have HAR := mkHid hAR
                    clear hacc hF6 hN6 hAR
                    go_wp2_with fail
                    go_roundg k'
                    case measure => exact hk'
                    case rel => exact ⟨rfl, _, _, _, _, _, _, _, _, rfl, (show ps.length + (argsU xs' x y).length = ((argsU xs' x y).reverse ++ ps).length by rw [List.length_append, List.length_reverse]; omega), HAR⟩
                  · have t4 : (cx.k == 4) = false := by simp [h4]
                    have HK4 : Hid ((cellN xs' x).k ≠ 4) := by rw [Hid, HCX.out]; exact h4
                    clear h4
                    go_wp2_with fail
                    go_roundg (gk - 1)
                    case measure => have := HKK.out; omega
                    case rel => exact ⟨rfl, _, _, _, _, _, _, _, _, rfl, rfl, HA.out.skip HS4.out (fun r hr => .plain HF.out HNM.out HFR.out HE.out HK4.out hr)⟩
                · rw [decide_eq_false he] at hne
                  have HE : Hid (cellN xs' x ≠ cellN xs' y) := by rw [Hid, HCX.out, HCY.out]; exact he
                  clear he
                  go_wp2_with fail
                  go_quiet (fail)
                  go_wp2_with fail
                  go_ret
                  exact ⟨none, HA.out.run _ (.unlike HF.out HNM.out HFR.out HE.out), (HS3b.out.calm (below_drewN (Below.refl _ _) _)).fr, .inl ⟨rfl, rfl⟩⟩
end Go.Proofs.Ytefnmjoapmnkbaa
set_option linter.unusedVariables false
namespace Go.Proofs.Ytefnmjoapmnkbaa
open Go.RowKit

theorem follow_nil (f : Nat) (i : Int) : followL [] f i = none := follow_off (by simp)
def NoPost (w : World) (e : Ending) (w' : World) : Prop := e = .returned (.bool false) ∧ Below w.heap.size w w'
set_option maxRecDepth 100000 in
set_option maxHeartbeats 3200000 in
theorem alike_empty (w : World) (U : Nat) (sa : Option Addr) (cap : Nat) (a b : Int) (hU : w.cell? ⟨U, 0, none⟩ = some (.slice sa 0 cap)) (hr : Row w sa cap ([] : List Cel)) (hf : pfit (a, b)) :
    Calls Try.prog 73 #[.pointer (some ⟨U, 0, none⟩), .int .i64 a, .int .i64 b] w (NoPost w) := by
  have hb1 := ((Below.refl w.heap.size w).new (.cells #[.int .i64 a, .int .i64 b] 111)).new (.map #[] 0)
  have e0 : ((w.alloc (.cells #[.int .i64 a, .int .i64 b] 111)).alloc (.map #[] 0)).cell? ⟨w.heap.size, 0, none⟩ = some (.int .i64 a) := keep (World.cell?_alloc_at _ _ w.heap.size 0 rfl) ((Below.refl _ _).new _)
  have e1 : ((w.alloc (.cells #[.int .i64 a, .int .i64 b] 111)).alloc (.map #[] 0)).cell? ⟨w.heap.size, 1, none⟩ = some (.int .i64 b) := keep (World.cell?_alloc_at _ _ w.heap.size 1 rfl) ((Below.refl _ _).new _)
  have hmm := @run_makeMap Try.prog
  have HF := mkHid hf
  have HR := mkHid hr
  clear hf hr
  go_enter Try.func73, Try.ntmps73
  go_wp2_with fail
  refine wp_scope_straight ?_
  go_wp2_with fail
  refine wp_label ?_
  go_wp2_with fail
  obtain ⟨W, hW⟩ : ∃ W, ((w.alloc (.cells #[.int .i64 a, .int .i64 b] 111)).alloc (.map #[] 0)) = W := ⟨_, rfl⟩
  rw [hW] at hb1 e0 e1 ⊢
  clear hW
  go_loopg [7, 9, 10, 11, 12] 0 (fun kk v f x1 x2 x3 wr => f = .bool false ∧ v = .slice (some ⟨w.heap.size, 0, none⟩) 1 1 ∧ Hid (wr = W))
  case atStart => exact ⟨rfl, rfl, rfl⟩
  case round =>
    obtain ⟨rfl, rfl, HW⟩ := hrel
    have hW2 := HW.out
    subst hW2
    go_wp2_with fail
    refine (followed_any U sa cap _ [] (keep hU hb1) (HR.out.below hb1) (by simp) a b HF.out.1.1 HF.out.1.2 HF.out.2.1 HF.out.2.2 none none (follow_nil _ _).symm (follow_nil _ _).symm).mono ?_
    rintro e w1 ⟨he, hb2⟩
    have he2 : e = .returned (.tuple #[.int .i64 0, .int .i64 0, .bool false]) := he.trans (ret_iib (by decide) (by decide) rfl)
    clear he
    subst he2
    go_wp2_with fail
    go_ret
    exact ⟨rfl, hb1.then hb2⟩
theorem AccInv.monoB {α : Type} [RepC α] {B B' e : Nat} {acc : List α} {v : Value} {w : World} (h : AccInv B e acc v w) (hB : B' ≤ B) : AccInv B' e acc v w := by
  obtain ⟨vs, ⟨h1, h2⟩, hc⟩ := h.ex
  refine ⟨vs, ⟨h1, ?_⟩, hc⟩
  rcases h2 with h2 | ⟨g, cap, cur, e1, hb, rest⟩
  · exact .inl h2
  · exact .inr ⟨g, cap, cur, e1, Nat.le_trans hB hb, rest⟩
theorem OwnS.monoB {B B' g cap : Nat} {w : World} {xs : List Cel} (h : OwnS B w g cap xs) (hB : B' ≤ B) : OwnS B' w g cap xs := ⟨Nat.le_trans hB h.hb, h.row, h.cells⟩
/-- what Unify tells -/
def UOut (xs : List Cel) (ts : List Int) (a b : Int) (xs' : List Cel) (ts' : List Int) (t : Bool) : Prop :=
  (t = false ∧ URun xs ts [(a, b)] [] none ∧ xs' = xs ∧ ts' = ts) ∨ (t = true ∧ URun xs ts [(a, b)] [] (some (xs', ts')))
end Go.Proofs.Ytefnmjoapmnkbaa
set_option linter.unusedVariables false
namespace Go.Proofs.Ytefnmjoapmnkbaa
open Go.RowKit

/-! ### Unify, whole -/
theorem AccInv.newIq {B e : Nat} {acc : List Int} {v : Value} {w : World} (h : AccInv B e acc v w) : ∃ a cap, v = .slice a acc.length cap ∧ NewRow B w a cap acc := by
  obtain ⟨vs, ho, hc⟩ := h.ex
  obtain ⟨rfl, hf⟩ := crows_int hc
  exact own_newG (α := Int) ho (crows_ints _ hf)
theorem OwnS.newQ {B g cap : Nat} {w : World} {xs : List Cel} (h : OwnS B w g cap xs) : NewRow B w (some ⟨g, 0, none⟩) cap xs := h.newRow
def HUPost (w : World) (r : Int) (xs : List Cel) (ts : List Int) (a b : Int) (e : Ending) (w' : World) : Prop :=
  ∃ xs' ts' t a2 c2 a3 c3, e = .returned (.tuple #[hv a2 xs'.length c2 a3 ts'.length c3 r, .bool t]) ∧ UOut xs ts a b xs' ts' t ∧ NewRow w.heap.size w' a2 c2 xs' ∧ NewRow w.heap.size w' a3 c3 ts' ∧ Below w.heap.size w w'
set_option maxRecDepth 100000 in
set_option maxHeartbeats 6400000 in
theorem hunify_any (a : Option Addr) (cap : Nat) (a' : Option Addr) (cap' : Nat) (r : Int) (p q : Int) (w : World) (xs : List Cel) (ts : List Int) (hx : Row w a cap xs) (ht : Row w a' cap' ts) (hl : xs.length ≤ 5000) (hl2 : ts.length ≤ 800000) (hf : pfit (p, q)) (hw : Few xs) (hpos : 0 < xs.length) :
    Calls Try.prog 24 #[hv a xs.length cap a' ts.length cap' r, .int .i64 p, .int .i64 q] w (HUPost w r xs ts p q) := by
  have hb1 := ((Below.refl w.heap.size w).new (.cells #[.slice a xs.length cap, .slice a' ts.length cap', .int .i64 r] 25)).new (.cells #[.slice none 0 0, .slice none 0 0, .int .i64 0] 25)
  have e0 : ((w.alloc (.cells #[.slice a xs.length cap, .slice a' ts.length cap', .int .i64 r] 25)).alloc (.cells #[.slice none 0 0, .slice none 0 0, .int .i64 0] 25)).cell? ⟨w.heap.size, 0, none⟩ = some (.slice a xs.length cap) := keep (World.cell?_alloc_at _ _ w.heap.size 0 rfl) ((Below.refl _ _).new _)
  have e1 : ((w.alloc (.cells #[.slice a xs.length cap, .slice a' ts.length cap', .int .i64 r] 25)).alloc (.cells #[.slice none 0 0, .slice none 0 0, .int .i64 0] 25)).cell? ⟨w.heap.size, 1, none⟩ = some (.slice a' ts.length cap') := keep (World.cell?_alloc_at _ _ w.heap.size 1 rfl) ((Below.refl _ _).new _)
  have e2 : ((w.alloc (.cells #[.slice a xs.length cap, .slice a' ts.length cap', .int .i64 r] 25)).alloc (.cells #[.slice none 0 0, .slice none 0 0, .int .i64 0] 25)).cell? ⟨w.heap.size, 2, none⟩ = some (.int .i64 r) := keep (World.cell?_alloc_at _ _ w.heap.size 2 rfl) ((Below.refl _ _).new _)
  have f2 : ((w.alloc (.cells #[.slice a xs.length cap, .slice a' ts.length cap', .int .i64 r] 25)).alloc (.cells #[.slice none 0 0, .slice none 0 0, .int .i64 0] 25)).cell? ⟨w.heap.size + 1, 0, none⟩ = some (.slice none 0 0) := World.cell?_alloc_at _ _ _ 0 (by simp)
  have f3 : ((w.alloc (.cells #[.slice a xs.length cap, .slice a' ts.length cap', .int .i64 r] 25)).alloc (.cells #[.slice none 0 0, .slice none 0 0, .int .i64 0] 25)).cell? ⟨w.heap.size + 1, 1, none⟩ = some (.slice none 0 0) := World.cell?_alloc_at _ _ _ 1 (by simp)
  have f4 : ((w.alloc (.cells #[.slice a xs.length cap, .slice a' ts.length cap', .int .i64 r] 25)).alloc (.cells #[.slice none 0 0, .slice none 0 0, .int .i64 0] 25)).cell? ⟨w.heap.size + 1, 2, none⟩ = some (.int .i64 0) := World.cell?_alloc_at _ _ _ 2 (by simp)
  have z2 : ((w.alloc (.cells #[.slice a xs.length cap, .slice a' ts.length cap', .int .i64 r] 25)).alloc (.cells #[.slice none 0 0, .slice none 0 0, .int .i64 0] 25)).frozen? ⟨w.heap.size + 1, 0, none⟩ = false := by simp [go_sem]
  have z3 : ((w.alloc (.cells #[.slice a xs.length cap, .slice a' ts.length cap', .int .i64 r] 25)).alloc (.cells #[.slice none 0 0, .slice none 0 0, .int .i64 0] 25)).frozen? ⟨w.heap.size + 1, 1, none⟩ = false := by simp [go_sem]
  have z4 : ((w.alloc (.cells #[.slice a xs.length cap, .slice a' ts.length cap', .int .i64 r] 25)).alloc (.cells #[.slice none 0 0, .slice none 0 0, .int .i64 0] 25)).frozen? ⟨w.heap.size + 1, 2, none⟩ = false := by simp [go_sem]
  have HF := mkHid hf
  have HW := mkHid hw
  clear hf hw
  go_enter Try.func24, Try.ntmps24
  go_wp2_with fail
  obtain ⟨W, hW⟩ : ∃ W, (w.alloc (.cells #[.slice a xs.length cap, .slice a' ts.length cap', .int .i64 r] 25)).alloc (.cells #[.slice none 0 0, .slice none 0 0, .int .i64 0] 25) = W := ⟨_, rfl⟩
  have hsz : W.heap.size = w.heap.size + 2 := by rw [← hW]; simp
  rw [hW] at e0 e1 e2 f2 f3 f4 z2 z3 z4 hb1 ⊢
  have HSZ := mkHid hsz
  clear hW hsz
  have hxW : Row W.drew a cap xs := (hx.below hb1).below (Below.refl _ _).drew
  have htW : Row W.drew a' cap' ts := (ht.below hb1).below (Below.refl _ _).drew
  have hdr : Below w.heap.size w W.drew := hb1.trans (Below.refl _ _).drew
  go_region_held3 (fun w' => w'.cell? ⟨w.heap.size, 0, none⟩ = some (.slice a xs.length cap) ∧ w'.cell? ⟨w.heap.size, 1, none⟩ = some (.slice a' ts.length cap'))
    (first
      | exact ⟨e0, e1⟩
      | exact ⟨keep (w := W.drew) e0 hb2, keep (w := W.drew) e1 hb2⟩
      | exact ⟨keep (keep (w := W.drew) e0 hb2) hb3, keep (keep (w := W.drew) e1 hb2) hb3⟩
      | exact ⟨keep (keep (keep (w := W.drew) e0 hb2) hb3) ((Below.refl _ _).new _), keep (keep (keep (w := W.drew) e1 hb2) hb3) ((Below.refl _ _).new _)⟩)
    (first
      | (go_at_call 61; refine (cloneS_own a cap _ _ xs rfl hxW (by omega)).mono ?_; rintro e w2 ⟨v, rfl, hown, hb2⟩; obtain ⟨g, cap2, rfl, hos⟩ := ownS_of hown hx.fit hpos; have HOS := mkHid hos; clear hown hos)
      | (go_at_call 64; refine (cloneI_own a' cap' _ _ ts rfl (htW.below hb2) (by omega)).mono ?_; rintro e w3 ⟨v3, rfl, hown3, hb3⟩; obtain ⟨a3, cap3, rfl, hrow3⟩ := own_rowG (α := Int) hown3 (crows_ints _ ht.srcI.2); have HA3 : Hid (AccInv w2.heap.size 3 ts (.slice a3 ts.length cap3) w3) := ⟨_, hown3, crows_ints _ ht.srcI.2⟩; clear hown3 hrow3))
  have k2 : Hid (W.drew.heap.size = w.heap.size + 2) := HSZ.out
  have hs2 : Hid (w.heap.size + 2 ≤ w2.heap.size) := by have := hb2.size; have := k2.out; rw [Hid]; omega
  have hs3 : Hid (w2.heap.size ≤ w3.heap.size) := hb3.size
  have hM : UM (w3.alloc (.cells #[.slice (some ⟨g, 0, none⟩) xs.length cap2, .slice a3 ts.length cap3] 109)) (w.heap.size + 2) w3.heap.size g cap2 (.slice a3 ts.length cap3) xs ts := by
    have hgl := HOS.out.lt
    have hbn := (Below.refl w3.heap.size w3).new (.cells #[.slice (some ⟨g, 0, none⟩) xs.length cap2, .slice a3 ts.length cap3] 109)
    refine ⟨heap_alloc_new w3 _, ((HOS.out.below hb3).below hbn).monoB (by have := k2.out; omega), (HA3.out.below hbn).monoB hs2.out, by have := hs3.out; omega, fun e => ?_, fun e => ?_, by have := hs2.out; have := hs3.out; omega⟩
    · have := (HA3.out.lt _ e).2; omega
    · have := (HA3.out.lt _ e).1; omega
  have HM := mkHid hM
  have hb4 : Below W.drew.heap.size W.drew (w3.alloc (.cells #[.slice (some ⟨g, 0, none⟩) xs.length cap2, .slice a3 ts.length cap3] 109)) := (hb2.then hb3).new _
  have hW4 := hdr.then hb4
  have E0 := keep (w := W.drew) e0 hb4
  have E1 := keep (w := W.drew) e1 hb4
  have E2 := keep (w := W.drew) e2 hb4
  have F2 := keep (w := W.drew) f2 hb4
  have F3 := keep (w := W.drew) f3 hb4
  have F4 := keep (w := W.drew) f4 hb4
  have hfr : ∀ k, (w3.alloc (.cells #[.slice (some ⟨g, 0, none⟩) xs.length cap2, .slice a3 ts.length cap3] 109)).frozen? ⟨w.heap.size + 1, k, none⟩ = W.frozen? ⟨w.heap.size + 1, k, none⟩ := fun k => hb4.frozen (p := ⟨w.heap.size + 1, k, none⟩) (by have := HSZ.out; simp; omega)
  have Z2 := (hfr 0).trans z2
  have Z3 := (hfr 1).trans z3
  have Z4 := (hfr 2).trans z4
  have HU2 : Hid (w.heap.size + 2 ≤ w3.heap.size) := Nat.le_trans hs2.out hs3.out
  clear hM hb2 hb3 hb4 hdr hxW htW e0 e1 e2 f2 f3 f4 z2 z3 z4 hfr HOS HA3
  rename_i hHeld
  clear hHeld
  go_wp2_with fail
  generalize (w3.alloc (.cells #[.slice (some ⟨g, 0, none⟩) xs.length cap2, .slice a3 ts.length cap3] 109)) = W4 at *
  generalize hUU : w3.heap.size = U at *
  refine (alike_any W4 (w.heap.size + 2) U g cap2 _ xs ts p q HM.out hl hl2 HF.out HW.out).mono ?_
  rintro e W5 ⟨o, hrun, hbl, hcase⟩
  have hwl : Below w.heap.size w W5 := hW4.trans (hbl.mono (by omega))
  have X0 := (hbl.cell (p := ⟨w.heap.size, 0, none⟩) (by simp)).trans E0
  have X1 := (hbl.cell (p := ⟨w.heap.size, 1, none⟩) (by simp)).trans E1
  have X2 := (hbl.cell (p := ⟨w.heap.size, 2, none⟩) (by simp)).trans E2
  have G2 := (hbl.cell (p := ⟨w.heap.size + 1, 0, none⟩) (by simp)).trans F2
  have G3 := (hbl.cell (p := ⟨w.heap.size + 1, 1, none⟩) (by simp)).trans F3
  have G4 := (hbl.cell (p := ⟨w.heap.size + 1, 2, none⟩) (by simp)).trans F4
  have Y2 := (hbl.frozen (p := ⟨w.heap.size + 1, 0, none⟩) (by simp)).trans Z2
  have Y3 := (hbl.frozen (p := ⟨w.heap.size + 1, 1, none⟩) (by simp)).trans Z3
  have Y4 := (hbl.frozen (p := ⟨w.heap.size + 1, 2, none⟩) (by simp)).trans Z4
  have HRUN := mkHid hrun
  have hsz5 : w.heap.size + 2 ≤ W5.heap.size := by have := HM.out.lt; have := hbl.size; have := HU2.out; omega
  have HS5 := mkHid hsz5
  clear hrun E0 E1 E2 F2 F3 F4 Z2 Z3 Z4 hsz5
  rcases hcase with ⟨rfl, rfl⟩ | ⟨xs', ts', vt', rfl, rfl, hlen, hM5⟩
  · go_wp2_with fail
    refine (hcopied_any a cap a' cap' r W5 xs ts (hx.below hwl) (ht.below hwl) (by omega) (by omega)).mono ?_
    rintro e w6 ⟨a6, c6, a7, c7, rfl, hn6, hn7, hb6⟩
    have g2 := keep G2 hb6
    have g3 := keep G3 hb6
    have g4 := keep G4 hb6
    have y2 := (hb6.frozen (p := ⟨w.heap.size + 1, 0, none⟩) (by have := HS5.out; simp; omega)).trans Y2
    have y3 := (hb6.frozen (p := ⟨w.heap.size + 1, 1, none⟩) (by have := HS5.out; simp; omega)).trans Y3
    have y4 := (hb6.frozen (p := ⟨w.heap.size + 1, 2, none⟩) (by have := HS5.out; simp; omega)).trans Y4
    go_wp2_with fail
    refine bodyPost_ret (v := .tuple #[hv a6 xs.length c6 a7 ts.length c7 r, .bool false]) (by simp [results, Try.results24, go_sem, g2, g3, g4]) rfl ⟨xs, ts, false, a6, c6, a7, c7, rfl, .inl ⟨rfl, HRUN.out, rfl, rfl⟩, ?_, ?_, ?_⟩
    · exact (hn6.grown (set3_grown (w.heap.size + 1) _ _ _ _) (fun g e => by cases e; have := HS5.out; omega)).mono (by have := HS5.out; omega)
    · exact (hn7.grown (set3_grown (w.heap.size + 1) _ _ _ _) (fun g e => by cases e; have := HS5.out; omega)).mono (by have := HS5.out; omega)
    · exact (hwl.then hb6).trans ((set3 (w.heap.size + 1) _ _ _ _).mono (by omega))
  · have HLEN := mkHid hlen
    clear hlen
    obtain ⟨ta, tc, rfl, htr⟩ := hM5.trail.row
    have c0 := hM5.c0
    have c1 := hM5.c1
    have HM5 := mkHid hM5
    have HUL : Hid (U < W5.drew.heap.size) := hM5.lt
    have HUN : Hid (some U ≠ some (w.heap.size + 1)) := fun e => by injection e with e; have := HU2.out; omega
    have HKU : Hid (∀ (x y z : Value) (k : Nat) (v : Value), W5.cell? ⟨U, k, none⟩ = some v → (((W5.drew.setCell ⟨w.heap.size + 1, 0, none⟩ x).setCell ⟨w.heap.size + 1, 1, none⟩ y).setCell ⟨w.heap.size + 1, 2, none⟩ z).cell? ⟨U, k, none⟩ = some v) := fun x y z k v h =>
      (World.cell?_of_block (a := ⟨U, k, none⟩) ((set3_grown (w.heap.size + 1) W5.drew x y z).block U HUL.out HUN.out)).trans h
    clear htr hM5
    go_wp2_with fail
    go_region_held3 (fun w' => w'.cell? ⟨w.heap.size, 2, none⟩ = some (.int .i64 r) ∧ w'.cell? ⟨U, 0, none⟩ = some (.slice (some ⟨g, 0, none⟩) xs'.length cap2) ∧ w'.cell? ⟨U, 1, none⟩ = some (.slice ta ts'.length tc))
      (first
        | exact ⟨X2, c0, c1⟩
        | exact ⟨((set3 (w.heap.size + 1) W5.drew _ _ _).cell (p := ⟨w.heap.size, 2, none⟩) (Nat.lt_succ_self _)).trans X2, HKU.out _ _ _ 0 _ c0, HKU.out _ _ _ 1 _ c1⟩)
      (fail)
    go_wp2_with fail
    have hM6 := HM5.out.below (W' := W5.drew) (Below.refl _ _).drew
    obtain ⟨ta2, tc2, e9, htr⟩ := hM6.trail.row
    cases e9
    refine bodyPost_ret (v := .tuple #[hv (some ⟨g, 0, none⟩) xs'.length cap2 ta ts'.length tc r, .bool true]) (by simp [results, Try.results24, go_sem, G2, G3, G4]) rfl ⟨xs', ts', true, some ⟨g, 0, none⟩, cap2, ta, tc, rfl, .inr ⟨rfl, HRUN.out⟩, ?_, ?_, ?_⟩
    · refine (hM6.cells.block ((set3_grown (w.heap.size + 1) W5.drew _ _ _).block g hM6.cells.lt (fun e => ?_))).newQ.mono (by omega)
      injection e with e
      have := hM6.cells.hb
      omega
    · have hT := hM6.trail.blockI (w' := ((W5.drew.setCell ⟨w.heap.size + 1, 0, none⟩ (.slice (some ⟨g, 0, none⟩) xs'.length cap2)).setCell ⟨w.heap.size + 1, 1, none⟩ (.slice ta ts'.length tc)).setCell ⟨w.heap.size + 1, 2, none⟩ (.int .i64 r)) (fun b hb => (set3_grown (w.heap.size + 1) W5.drew _ _ _).block b (hM6.trail.lt b hb).2 (fun e => by
        injection e with e
        have := (hM6.trail.lt b hb).1
        omega))
      obtain ⟨ta3, tc3, e8, htr3⟩ := hT.newIq
      cases e8
      exact htr3.mono (by omega)
    · exact (hwl.trans (Below.refl _ _).drew).trans ((set3 (w.heap.size + 1) W5.drew _ _ _).mono (by omega))
end Go.Proofs.Ytefnmjoapmnkbaa
set_option linter.unusedVariables false
namespace Go.Proofs.Ytefnmjoapmnkbaa
open Go.RowKit

set_option maxRecDepth 100000 in
set_option maxHeartbeats 6400000 in
theorem hunify_empty (a : Option Addr) (cap : Nat) (a' : Option Addr) (cap' : Nat) (r : Int) (p q : Int) (w : World) (xs : List Cel) (ts : List Int) (h0 : xs = []) (hx : Row w a cap xs) (ht : Row w a' cap' ts) (hl2 : ts.length ≤ 800000) (hf : pfit (p, q)) :
    Calls Try.prog 24 #[hv a xs.length cap a' ts.length cap' r, .int .i64 p, .int .i64 q] w (HUPost w r xs ts p q) := by
  have hb1 := ((Below.refl w.heap.size w).new (.cells #[.slice a xs.length cap, .slice a' ts.length cap', .int .i64 r] 25)).new (.cells #[.slice none 0 0, .slice none 0 0, .int .i64 0] 25)
  have e0 : ((w.alloc (.cells #[.slice a xs.length cap, .slice a' ts.length cap', .int .i64 r] 25)).alloc (.cells #[.slice none 0 0, .slice none 0 0, .int .i64 0] 25)).cell? ⟨w.heap.size, 0, none⟩ = some (.slice a xs.length cap) := keep (World.cell?_alloc_at _ _ w.heap.size 0 rfl) ((Below.refl _ _).new _)
  have e1 : ((w.alloc (.cells #[.slice a xs.length cap, .slice a' ts.length cap', .int .i64 r] 25)).alloc (.cells #[.slice none 0 0, .slice none 0 0, .int .i64 0] 25)).cell? ⟨w.heap.size, 1, none⟩ = some (.slice a' ts.length cap') := keep (World.cell?_alloc_at _ _ w.heap.size 1 rfl) ((Below.refl _ _).new _)
  have e2 : ((w.alloc (.cells #[.slice a xs.length cap, .slice a' ts.length cap', .int .i64 r] 25)).alloc (.cells #[.slice none 0 0, .slice none 0 0, .int .i64 0] 25)).cell? ⟨w.heap.size, 2, none⟩ = some (.int .i64 r) := keep (World.cell?_alloc_at _ _ w.heap.size 2 rfl) ((Below.refl _ _).new _)
  have f2 : ((w.alloc (.cells #[.slice a xs.length cap, .slice a' ts.length cap', .int .i64 r] 25)).alloc (.cells #[.slice none 0 0, .slice none 0 0, .int .i64 0] 25)).cell? ⟨w.heap.size + 1, 0, none⟩ = some (.slice none 0 0) := World.cell?_alloc_at _ _ _ 0 (by simp)
  have f3 : ((w.alloc (.cells #[.slice a xs.length cap, .slice a' ts.length cap', .int .i64 r] 25)).alloc (.cells #[.slice none 0 0, .slice none 0 0, .int .i64 0] 25)).cell? ⟨w.heap.size + 1, 1, none⟩ = some (.slice none 0 0) := World.cell?_alloc_at _ _ _ 1 (by simp)
  have f4 : ((w.alloc (.cells #[.slice a xs.length cap, .slice a' ts.length cap', .int .i64 r] 25)).alloc (.cells #[.slice none 0 0, .slice none 0 0, .int .i64 0] 25)).cell? ⟨w.heap.size + 1, 2, none⟩ = some (.int .i64 0) := World.cell?_alloc_at _ _ _ 2 (by simp)
  have z2 : ((w.alloc (.cells #[.slice a xs.length cap, .slice a' ts.length cap', .int .i64 r] 25)).alloc (.cells #[.slice none 0 0, .slice none 0 0, .int .i64 0] 25)).frozen? ⟨w.heap.size + 1, 0, none⟩ = false := by simp [go_sem]
  have z3 : ((w.alloc (.cells #[.slice a xs.length cap, .slice a' ts.length cap', .int .i64 r] 25)).alloc (.cells #[.slice none 0 0, .slice none 0 0, .int .i64 0] 25)).frozen? ⟨w.heap.size + 1, 1, none⟩ = false := by simp [go_sem]
  have z4 : ((w.alloc (.cells #[.slice a xs.length cap, .slice a' ts.length cap', .int .i64 r] 25)).alloc (.cells #[.slice none 0 0, .slice none 0 0, .int .i64 0] 25)).frozen? ⟨w.heap.size + 1, 2, none⟩ = false := by simp [go_sem]
  have H0 := mkHid h0
  have hl : xs.length ≤ 5000 := by rw [h0]; simp
  clear h0
  have HF := mkHid hf
  clear hf
  go_enter Try.func24, Try.ntmps24
  go_wp2_with fail
  obtain ⟨W, hW⟩ : ∃ W, (w.alloc (.cells #[.slice a xs.length cap, .slice a' ts.length cap', .int .i64 r] 25)).alloc (.cells #[.slice none 0 0, .slice none 0 0, .int .i64 0] 25) = W := ⟨_, rfl⟩
  have hsz : W.heap.size = w.heap.size + 2 := by rw [← hW]; simp
  rw [hW] at e0 e1 e2 f2 f3 f4 z2 z3 z4 hb1 ⊢
  have HSZ := mkHid hsz
  clear hW hsz
  have hxW : Row W.drew a cap xs := (hx.below hb1).below (Below.refl _ _).drew
  have htW : Row W.drew a' cap' ts := (ht.below hb1).below (Below.refl _ _).drew
  have hdr : Below w.heap.size w W.drew := hb1.trans (Below.refl _ _).drew
  go_region_held3 (fun w' => w'.cell? ⟨w.heap.size, 0, none⟩ = some (.slice a xs.length cap) ∧ w'.cell? ⟨w.heap.size, 1, none⟩ = some (.slice a' ts.length cap'))
    (first
      | exact ⟨e0, e1⟩
      | exact ⟨keep (w := W.drew) e0 hb2, keep (w := W.drew) e1 hb2⟩
      | exact ⟨keep (keep (w := W.drew) e0 hb2) hb3, keep (keep (w := W.drew) e1 hb2) hb3⟩
      | exact ⟨keep (keep (keep (w := W.drew) e0 hb2) hb3) ((Below.refl _ _).new _), keep (keep (keep (w := W.drew) e1 hb2) hb3) ((Below.refl _ _).new _)⟩)
    (first
      | (go_at_call 61; refine (cloneS_new _ a cap _ xs rfl hxW (by omega)).mono ?_; rintro e w2 ⟨ga, cap2, rfl, hn2, hb2⟩; have HN2 := mkHid hn2; clear hn2)
      | (go_at_call 64; refine (cloneI_own a' cap' _ _ ts rfl (htW.below hb2) (by omega)).mono ?_; rintro e w3 ⟨v3, rfl, hown3, hb3⟩; obtain ⟨a3, cap3, rfl, hrow3⟩ := own_rowG (α := Int) hown3 (crows_ints _ ht.srcI.2); have HA3 : Hid (AccInv w2.heap.size 3 ts (.slice a3 ts.length cap3) w3) := ⟨_, hown3, crows_ints _ ht.srcI.2⟩; clear hown3 hrow3))
  have k2 : Hid (W.drew.heap.size = w.heap.size + 2) := HSZ.out
  have hs2 : Hid (w.heap.size + 2 ≤ w2.heap.size) := by have := hb2.size; have := k2.out; rw [Hid]; omega
  have hs3 : Hid (w2.heap.size ≤ w3.heap.size) := hb3.size
  have hbn := (Below.refl w3.heap.size w3).new (.cells #[.slice ga xs.length cap2, .slice a3 ts.length cap3] 109)
  have hr4 := ((HN2.out.below hb3).below hbn).row
  have c4 : (w3.alloc (.cells #[.slice ga xs.length cap2, .slice a3 ts.length cap3] 109)).cell? ⟨w3.heap.size, 0, none⟩ = some (.slice ga xs.length cap2) := World.cell?_alloc_at _ _ _ 0 rfl
  have HR4 := mkHid hr4
  have HC4 := mkHid c4
  have hb4 : Below W.drew.heap.size W.drew (w3.alloc (.cells #[.slice ga xs.length cap2, .slice a3 ts.length cap3] 109)) := (hb2.then hb3).new _
  have hW4 := hdr.then hb4
  have E0 := keep (w := W.drew) e0 hb4
  have E1 := keep (w := W.drew) e1 hb4
  have E2 := keep (w := W.drew) e2 hb4
  have F2 := keep (w := W.drew) f2 hb4
  have F3 := keep (w := W.drew) f3 hb4
  have F4 := keep (w := W.drew) f4 hb4
  have hfr : ∀ k, (w3.alloc (.cells #[.slice ga xs.length cap2, .slice a3 ts.length cap3] 109)).frozen? ⟨w.heap.size + 1, k, none⟩ = W.frozen? ⟨w.heap.size + 1, k, none⟩ := fun k => hb4.frozen (p := ⟨w.heap.size + 1, k, none⟩) (by have := HSZ.out; simp; omega)
  have Z2 := (hfr 0).trans z2
  have Z3 := (hfr 1).trans z3
  have Z4 := (hfr 2).trans z4
  have HU2 : Hid (w.heap.size + 2 ≤ w3.heap.size) := Nat.le_trans hs2.out hs3.out
  have HSW : Hid (w3.heap.size < (w3.alloc (.cells #[.slice ga xs.length cap2, .slice a3 ts.length cap3] 109)).heap.size) := by rw [Hid]; simp
  clear hbn hr4 c4 hb2 hb3 hb4 hdr hxW htW e0 e1 e2 f2 f3 f4 z2 z3 z4 hfr HN2 HA3
  rename_i hHeld
  clear hHeld
  go_wp2_with fail
  generalize (w3.alloc (.cells #[.slice ga xs.length cap2, .slice a3 ts.length cap3] 109)) = W4 at *
  generalize hUU : w3.heap.size = U at *
  have hae : Calls Try.prog 73 #[.pointer (some ⟨U, 0, none⟩), .int .i64 p, .int .i64 q] W4 (NoPost W4) := by
    have h1 := HC4.out
    have h2 := HR4.out
    rw [H0.out] at h1 h2
    exact alike_empty W4 U ga cap2 p q h1 h2 HF.out
  refine hae.mono ?_
  rintro e W5 ⟨rfl, hbl⟩
  have hwl : Below w.heap.size w W5 := hW4.then hbl
  have X0 := keep E0 hbl
  have X1 := keep E1 hbl
  have X2 := keep E2 hbl
  have G2 := keep F2 hbl
  have G3 := keep F3 hbl
  have G4 := keep F4 hbl
  have Y2 := (hbl.frozen (p := ⟨w.heap.size + 1, 0, none⟩) (by have := HSW.out; have := HU2.out; simp; omega)).trans Z2
  have Y3 := (hbl.frozen (p := ⟨w.heap.size + 1, 1, none⟩) (by have := HSW.out; have := HU2.out; simp; omega)).trans Z3
  have Y4 := (hbl.frozen (p := ⟨w.heap.size + 1, 2, none⟩) (by have := HSW.out; have := HU2.out; simp; omega)).trans Z4
  have hsz5 : w.heap.size + 2 ≤ W5.heap.size := by have := HSW.out; have := hbl.size; have := HU2.out; omega
  have HS5 := mkHid hsz5
  clear E0 E1 E2 F2 F3 F4 Z2 Z3 Z4 hsz5
  go_wp2_with fail
  refine (hcopied_any a cap a' cap' r W5 xs ts (hx.below hwl) (ht.below hwl) (by omega) (by omega)).mono ?_
  rintro e w6 ⟨a6, c6, a7, c7, rfl, hn6, hn7, hb6⟩
  have g2 := keep G2 hb6
  have g3 := keep G3 hb6
  have g4 := keep G4 hb6
  have y2 := (hb6.frozen (p := ⟨w.heap.size + 1, 0, none⟩) (by have := HS5.out; simp; omega)).trans Y2
  have y3 := (hb6.frozen (p := ⟨w.heap.size + 1, 1, none⟩) (by have := HS5.out; simp; omega)).trans Y3
  have y4 := (hb6.frozen (p := ⟨w.heap.size + 1, 2, none⟩) (by have := HS5.out; simp; omega)).trans Y4
  go_wp2_with fail
  refine bodyPost_ret (v := .tuple #[hv a6 xs.length c6 a7 ts.length c7 r, .bool false]) (by simp [results, Try.results24, go_sem, g2, g3, g4]) rfl ⟨xs, ts, false, a6, c6, a7, c7, rfl, .inl ⟨rfl, .off (.inl (by rw [H0.out]; exact follow_nil _ _)), rfl, rfl⟩, ?_, ?_, ?_⟩
  · exact (hn6.grown (set3_grown (w.heap.size + 1) _ _ _ _) (fun g e => by cases e; have := HS5.out; omega)).mono (by have := HS5.out; omega)
  · exact (hn7.grown (set3_grown (w.heap.size + 1) _ _ _ _) (fun g e => by cases e; have := HS5.out; omega)).mono (by have := HS5.out; omega)
  · exact (hwl.then hb6).trans ((set3 (w.heap.size + 1) _ _ _ _).mono (by omega))
theorem hunify (a : Option Addr) (cap : Nat) (a' : Option Addr) (cap' : Nat) (r : Int) (p q : Int) (w : World) (xs : List Cel) (ts : List Int) (hx : Row w a cap xs) (ht : Row w a' cap' ts) (hl : xs.length ≤ 5000) (hl2 : ts.length ≤ 800000) (hf : pfit (p, q)) (hw : Few xs) :
    Calls Try.prog 24 #[hv a xs.length cap a' ts.length cap' r, .int .i64 p, .int .i64 q] w (HUPost w r xs ts p q) := by
  rcases Nat.eq_zero_or_pos xs.length with h | h
  · exact hunify_empty a cap a' cap' r p q w xs ts (List.eq_nil_of_length_eq_zero h) hx ht hl2 hf
  · exact hunify_any a cap a' cap' r p q w xs ts hx ht hl hl2 hf hw h
end Go.Proofs.Ytefnmjoapmnkbaa
set_option linter.unusedVariables false
namespace Go.Proofs.Ytefnmjoapmnkbaa
open Go.RowKit

/-! ### getting a term -/
theorem AccInv.run_push {α : Type} [RepC α] {P : Program} {w : World} (t ty B e bytes : Nat) (z : Value) (ht : P.underlying t = some (.slice e)) (hinfo : (P.info? e).map (fun i => (i.zero, i.size, i.bytes)) = some (some z, Rep.sz α, bytes))
    (hzs : z.cells.size = Rep.sz α) (hby : bytes ≤ 1000) (v : Value) (acc : List α) (hacc : AccInv B e acc v w) (T : Nat) (cs : Array Value) (y : α) (hcs : RepC.C (hide v.ownBlock w) cs.toList y) (hmax : acc.length + 1 ≤ 1000000000) (hB : B ≤ w.heap.size) :
    ∃ v' w', (Builtin.append_ #[t, t] ty #[v, .slice (some ⟨w.heap.size, 0, none⟩) 1 1]).run P (w.alloc (.cells cs T)) = .ok v' w' ∧ AccInv B e (acc ++ [y]) v' w' ∧ (w.alloc (.cells cs T)).grownBy w' v.ownBlock ∧ (v'.ownBlock = v.ownBlock ∨ v'.ownBlock = some (w.heap.size + 1)) := by
  obtain ⟨vs, hown, hc⟩ := hacc.ex
  have hsrc := src_new w cs T (Rep.sz α) (by have := RepC.len hcs; simpa using this) (fun u hu => RepC.one hcs u hu)
  obtain ⟨i, hi, hz0, hz1, hz2⟩ := info_parts hinfo
  have hb : (acc.length + 1) * bytes ≤ 140737488355328 := Nat.le_trans (Nat.mul_le_mul hmax hby) (by decide)
  obtain ⟨v', w', hr, h2, h3, h4⟩ := run_append_where (P := P) (w.alloc (.cells cs T)) B t ty e i z (Rep.sz α) bytes ht hi hz0 hz1 hz2 hzs RepC.pos v acc.length vs (hown.alloc _) ⟨w.heap.size, 0, none⟩ 1 1 cs.toList hsrc.len (hsrc.cells _ rfl) hsrc.one (by unfold maxLen; omega) hb (Nat.le_trans hB (by simp))
  refine ⟨v', w', hr, ⟨vs ++ cs.toList, by rw [List.length_append]; exact h2, ?_⟩, h3, by rwa [World.size_alloc] at h4⟩
  have hk := hide_next h3 h4
  exact ((hc.keeps (alloc_hide w _ _)).keeps hk).snoc (RepC.cmono (RepC.cmono hcs (alloc_hide w _ _)) hk)
/-- what is laid of a place's term, behind what is there -/
def layG (l : List Cel) : Nat → List Cel → Int → List Cel
  | 0, acc, _ => acc
  | f + 1, acc, i => match followL l l.length i with
    | none => acc
    | some j => if acc.length > 200 then acc else
        (fromI (leads1 l j.toNat (cellN l j.toNat)) (leads2 l j.toNat (cellN l j.toNat) - leads1 l j.toNat (cellN l j.toNat)).toNat).foldl (fun acc x => layG l f acc x) (acc ++ [termC (cellN l j.toNat)])
structure GM (w : World) (a : Option Addr) (cap : Nat) (l : List Cel) (acc : List Cel) (v : Value) (W : World) : Prop where
  fr : Below w.heap.size w W
  c1 : W.cell? ⟨w.heap.size, 0, none⟩ = some (.slice a l.length cap)
  bx : W.heap[w.heap.size + 1]? = some (.cells #[v] 26 (0, 0))
  c3 : W.cell? ⟨w.heap.size + 1 + 1, 0, none⟩ = some (.func (.func 68) #[] #[.pointer (some ⟨w.heap.size, 0, none⟩), .pointer (some ⟨w.heap.size + 1, 0, none⟩), .pointer (some ⟨w.heap.size + 1 + 1, 0, none⟩)])
  acc : AccInv (w.heap.size + 3) 54 acc v W
section
variable {w W W' w2 w3 : World} {a : Option Addr} {cap : Nat} {l acc : List Cel} {v v' : Value} {c : Cel}
theorem GM.calm (h : GM w a cap l acc v W) (hb : Below W.heap.size W W') : GM w a cap l acc v W' := by
  have h3 := cell_lt h.c3
  exact ⟨h.fr.then hb, keep h.c1 hb, (hb.block _ (by omega)).trans h.bx, keep h.c3 hb, h.acc.below hb⟩
theorem GM.c2 (h : GM w a cap l acc v W) : W.cell? ⟨w.heap.size + 1, 0, none⟩ = some v := by
  rw [cell_of_row W _ 0 _ _ _ h.bx]; rfl
theorem GM.f2 (h : GM w a cap l acc v W) : W.frozen? ⟨w.heap.size + 1, 0, none⟩ = false := by
  have := h.bx
  simp [World.frozen?, this]
theorem GM.push (h : GM w a cap l acc v W) {T : Nat} {cs : Array Value} (ha : AccInv (w.heap.size + 3) 54 (acc ++ [c]) v' w3) (hg : (W.alloc (.cells cs T)).grownBy w3 v.ownBlock) (hw : v'.ownBlock = v.ownBlock ∨ v'.ownBlock = some (W.heap.size + 1)) :
    GM w a cap l (acc ++ [c]) v' (w3.setCell ⟨w.heap.size + 1, 0, none⟩ v') ∧ w3.cell? ⟨w.heap.size + 1, 0, none⟩ = some v ∧ w3.frozen? ⟨w.heap.size + 1, 0, none⟩ = false ∧ (∀ k, k ≤ w.heap.size → w3.heap[k]? = W.heap[k]?) := by
  have h3 := cell_lt h.c3
  have hvo : ∀ b, v.ownBlock = some b → w.heap.size + 3 ≤ b := fun b hb => (h.acc.lt b hb).1
  have hold : ∀ k, k < w.heap.size + 3 → k < W.heap.size → w3.heap[k]? = W.heap[k]? := fun k hk hkl =>
    (hg.block k (by simp; omega) (fun e => by have := hvo k e.symm; omega)).trans (heap_alloc_old W _ hkl)
  have e2 := hold (w.heap.size + 1) (by omega) (by omega)
  have hv'n : v'.ownBlock ≠ some (w.heap.size + 1) := by
    rcases hw with e | e
    · intro e2; rw [e] at e2; have := hvo _ e2; omega
    · rw [e]; intro e2; injection e2 with e2; omega
  refine ⟨⟨?_, ?_, ?_, ?_, ?_⟩, (World.cell?_of_block e2).trans h.c2, (World.frozen?_of_block e2).trans h.f2, fun k hk => hold k (by omega) (by omega)⟩
  · refine h.fr.trans ⟨hg.os, hg.tape, hg.output, by have := hg.size; simp [World.setCell] at this ⊢; omega, fun k hk => ?_⟩
    rw [Below.heap_setCell w3 ⟨w.heap.size + 1, 0, none⟩ _ k (by show k ≠ w.heap.size + 1; omega)]
    exact hold k (by omega) (by omega)
  · have := (World.cell?_of_block (a := ⟨w.heap.size, 0, none⟩) (hold w.heap.size (by omega) (by omega))).trans h.c1
    rw [World.cell?_setCell_other _ _ _ _ (by intro e; simp at e)]; exact this
  · have hb := e2.trans h.bx
    simp only [World.setCell, Array.getElem?_modify, if_true, hb, Option.map_some]
    simp
  · have := (World.cell?_of_block (a := ⟨w.heap.size + 1 + 1, 0, none⟩) (hold (w.heap.size + 1 + 1) (by omega) h3)).trans h.c3
    rw [World.cell?_setCell_other _ _ _ _ (by intro e; simp at e)]; exact this
  · obtain ⟨vs, ho, hc⟩ := ha.ex
    refine ⟨vs, own_block ho fun b hb => Below.heap_setCell w3 ⟨w.heap.size + 1, 0, none⟩ _ b (fun e => hv'n (by rw [hb, show b = w.heap.size + 1 from e])), ?_⟩
    have hf : vs = flat (acc ++ [c]) ∧ ∀ d ∈ acc ++ [c], d.fit := by
      have key : ∀ {vs : List Value} {xs : List Cel} {w : World}, CRows w vs xs → vs = flat xs ∧ ∀ d ∈ xs, d.fit := by
        intro vs xs w h
        induction h with
        | nil => exact ⟨rfl, by simp⟩
        | @cons cs x vs xs hc _ ih =>
          obtain ⟨rfl, h1⟩ := hc
          obtain ⟨rfl, h2⟩ := ih
          refine ⟨by simp [flat], fun n hn => ?_⟩
          rcases List.mem_cons.1 hn with rfl | hn
          · exact h1
          · exact h2 n hn
      exact key hc
    rw [hf.1]
    exact crows_flat _ hf.2
end
end Go.Proofs.Ytefnmjoapmnkbaa
set_option linter.unusedVariables false
namespace Go.Proofs.Ytefnmjoapmnkbaa
open Go.RowKit

theorem foldl_grow {α β : Type} (g : List α → β → List α) (h : ∀ acc x, acc.length ≤ (g acc x).length) : ∀ (xs : List β) (acc : List α), acc.length ≤ (xs.foldl g acc).length
  | [], _ => Nat.le_refl _
  | x :: xs, acc => Nat.le_trans (h acc x) (foldl_grow g h xs (g acc x))
theorem layG_grow (l : List Cel) : ∀ (f : Nat) (acc : List Cel) (i : Int), acc.length ≤ (layG l f acc i).length
  | 0, _, _ => Nat.le_refl _
  | f + 1, acc, i => by
    unfold layG
    split
    · exact Nat.le_refl _
    · split
      · exact Nat.le_refl _
      · exact Nat.le_trans (by simp) (foldl_grow _ (layG_grow l f) _ _)
theorem foldl_few {α β : Type} {m : Nat} (g : List α → β → List α) (h : ∀ acc x, acc.length ≤ m → (g acc x).length ≤ m) : ∀ (xs : List β) (acc : List α), acc.length ≤ m → (xs.foldl g acc).length ≤ m
  | [], _, ha => ha
  | x :: xs, acc, ha => foldl_few g h xs (g acc x) (h acc x ha)
theorem layG_few (l : List Cel) : ∀ (f : Nat) (acc : List Cel) (i : Int), acc.length ≤ 201 → (layG l f acc i).length ≤ 201
  | 0, _, _, h => h
  | f + 1, acc, i, h => by
    unfold layG
    split
    · exact h
    · split
      · exact h
      · exact foldl_few _ (layG_few l f) _ _ (by simp; omega)
theorem layG_off {l : List Cel} {f : Nat} {acc : List Cel} {i : Int} (h : followL l l.length i = none) : layG l f acc i = acc := by
  cases f with
  | zero => rfl
  | succ f => unfold layG; rw [h]
theorem layG_full {l : List Cel} {f : Nat} {acc : List Cel} {i : Int} (h : acc.length > 200) : layG l f acc i = acc := by
  cases f with
  | zero => rfl
  | succ f =>
    unfold layG
    cases followL l l.length i with
    | none => rfl
    | some j => simp only; rw [if_pos h]
theorem layG_on {l : List Cel} {f k : Nat} {acc : List Cel} {i : Int} (h : followL l l.length i = some (k : Int)) (hk : k < l.length) (ha : ¬ acc.length > 200) : layG l (f + 1) acc i = (fromI (leads1 l k l[k]) (leads2 l k l[k] - leads1 l k l[k]).toNat).foldl (fun acc x => layG l f acc x) (acc ++ [termC l[k]]) := by
  conv => lhs; unfold layG
  rw [h]
  simp only [Int.toNat_natCast]
  rw [if_neg ha, cellN_at hk]
theorem termC_fit {c : Cel} (h : c.fit) : (termC c).fit := by
  obtain ⟨h1, h2, h3, h4, h5⟩ := h
  unfold termC kindI
  refine ⟨?_, ?_, h3, h4, h5⟩ <;> (dsimp only; repeat' split) <;> omega
def GetPost (w : World) (a : Option Addr) (cap : Nat) (l : List Cel) (f : Nat) (acc : List Cel) (i : Int) (e : Ending) (W' : World) : Prop := e = .returned (.tuple #[]) ∧ ∃ v', GM w a cap l (layG l f acc i) v' W'
set_option maxRecDepth 100000 in
set_option maxHeartbeats 6400000 in
theorem get1_any (w : World) (a : Option Addr) (cap : Nat) (l : List Cel) (hr : Row w a cap l) (hl : l.length ≤ 5000) : ∀ (f : Nat) (acc : List Cel) (v : Value) (i : Int) (W : World), 201 < f + acc.length → acc.length ≤ 201 → GM w a cap l acc v W → -9223372036854775808 ≤ i → i ≤ 9223372036854775807 →
    Calls Try.prog 68 #[.int .i64 i, .pointer (some ⟨w.heap.size, 0, none⟩), .pointer (some ⟨w.heap.size + 1, 0, none⟩), .pointer (some ⟨w.heap.size + 1 + 1, 0, none⟩)] W (GetPost w a cap l f acc i) := by
  intro f
  induction f with
  | zero => intro acc v i W h1 h2; omega
  | succ f ih =>
    intro acc v i W hf hacc hM i1 i2
    obtain ⟨va, vc, rfl, hvr⟩ := hM.acc.row
    have hvm := hvr.max
    have hvl := hvr.le
    have hm := hr.max
    have hm2 := hr.le
    have c1 := hM.c1
    have IH := mkHid ih
    have HM := mkHid hM
    have HR := mkHid hr
    clear ih hM hvr hr
    cases hfo : followL l l.length i with
    | none =>
      have HL := mkHid (layG_off (f := f + 1) (acc := acc) hfo)
      have HFO := mkHid hfo
      clear hfo
      go_enter Try.func68, Try.ntmps68
      go_wp2_with fail
      refine (follow_v a cap i _ l (HR.out.below HM.out.fr) i1 i2 none HFO.out.symm).mono ?_
      rintro e w1 ⟨rfl, hb1⟩
      have HM1 := mkHid (HM.out.calm hb1)
      simp only [Option.getD, Option.isSome]
      go_wp2_with fail
      refine bodyPost_ret (results_none rfl _ _ _) rfl ⟨rfl, .slice va acc.length vc, ?_⟩
      rw [HL.out]
      exact HM1.out
    | some j =>
      obtain ⟨k, rfl⟩ : ∃ k : Nat, j = k := ⟨j.toNat, by have := follow_rng hfo; omega⟩
      have hk : k < l.length := by have := follow_rng hfo; omega
      by_cases hfull : acc.length > 200
      · have HL := mkHid (layG_full (l := l) (f := f + 1) (i := i) hfull)
        have HFO := mkHid hfo
        clear hfo
        go_enter Try.func68, Try.ntmps68
        go_wp2_with fail
        refine (follow_v a cap i _ l (HR.out.below HM.out.fr) i1 i2 (some (k : Int)) HFO.out.symm).mono ?_
        rintro e w1 ⟨rfl, hb1⟩
        have HM1 := mkHid (HM.out.calm hb1)
        have c2 := HM1.out.c2
        simp only [Option.getD, Option.isSome]
        go_wp2_with fail
        refine bodyPost_ret (results_none rfl _ _ _) rfl ⟨rfl, .slice va acc.length vc, ?_⟩
        rw [HL.out]
        exact HM1.out
      · have HL := mkHid (layG_on (f := f) hfo hk hfull)
        have HFO := mkHid hfo
        clear hfo
        go_enter Try.func68, Try.ntmps68
        go_wp2_with fail
        refine (follow_v a cap i _ l (HR.out.below HM.out.fr) i1 i2 (some (k : Int)) HFO.out.symm).mono ?_
        rintro e w1 ⟨rfl, hb1⟩
        have HM1 := mkHid (HM.out.calm hb1)
        have c2 := HM1.out.c2
        simp only [Option.getD, Option.isSome]
        go_wp2_with fail
        obtain ⟨b, off, rfl, hb, hat⟩ := HR.out.cases.resolve_left (fun e => by simp [e] at hk)
        obtain ⟨d0, d1, d2, hfit⟩ := cel_at hat HM1.out.fr hk
        have e1 := HM1.out.c1
        have hbB : b ≤ w.heap.size := Nat.le_of_lt hb
        have HMd : Hid (GM w (some ⟨b, off, none⟩) cap l acc (.slice va acc.length vc) w1.drew) := HM1.out.calm (Below.refl _ _).drew
        have HFC := mkHid (termC_fit hfit)
        have HFT := mkHid hfit
        have HHB := mkHid hbB
        clear hat hb hbB c1 hfit
        generalize hck : l[k] = c at *
        have HCK := mkHid hck
        clear hck
        have hblk : ∀ w3 : World, (∀ k', k' ≤ w.heap.size → w3.heap[k']? = w1.drew.heap[k']?) → w3.cell? ⟨w.heap.size, 0, none⟩ = some (.slice (some ⟨b, off, none⟩) l.length cap) ∧ w3.cell? ⟨b, off + k * 3, none⟩ = some (.int .i64 c.k) ∧ w3.cell? ⟨b, off + k * 3 + 1, none⟩ = some (.string c.s) ∧ w3.cell? ⟨b, off + k * 3 + 2, none⟩ = some (.int .i64 c.n) := fun w3 h =>
          ⟨(World.cell?_of_block (w := w1.drew) (a := ⟨w.heap.size, 0, none⟩) (h _ (Nat.le_refl _))).trans e1, (World.cell?_of_block (w := w1.drew) (a := ⟨b, off + k * 3, none⟩) (h _ HHB.out)).trans d0, (World.cell?_of_block (w := w1.drew) (a := ⟨b, off + k * 3 + 1, none⟩) (h _ HHB.out)).trans d1, (World.cell?_of_block (w := w1.drew) (a := ⟨b, off + k * 3 + 2, none⟩) (h _ HHB.out)).trans d2⟩
        have HBLK := mkHid hblk
        have HSZ : Hid (w.heap.size < w1.drew.heap.size) := by have := cell_lt HM1.out.c3; show w.heap.size < w1.heap.size; omega
        clear hblk
        have HS1 : Hid ((fun w' : World => w'.cell? ⟨w.heap.size, 0, none⟩ = some (.slice (some ⟨b, off, none⟩) l.length cap) ∧ w'.cell? ⟨b, off + k * 3, none⟩ = some (.int .i64 c.k) ∧ w'.cell? ⟨b, off + k * 3 + 1, none⟩ = some (.string c.s) ∧ w'.cell? ⟨b, off + k * 3 + 2, none⟩ = some (.int .i64 c.n)) w1.drew) := ⟨e1, d0, d1, d2⟩
        have hs1h := HS1.out
        refine wp_region_noPanic ?_
        refine wp_region_held_drew (S := (fun w' : World => w'.cell? ⟨w.heap.size, 0, none⟩ = some (.slice (some ⟨b, off, none⟩) l.length cap) ∧ w'.cell? ⟨b, off + k * 3, none⟩ = some (.int .i64 c.k) ∧ w'.cell? ⟨b, off + k * 3 + 1, none⟩ = some (.string c.s) ∧ w'.cell? ⟨b, off + k * 3 + 2, none⟩ = some (.int .i64 c.n))) (by kernel_rfl) (hs1h) (fun hSd => ?_)
        clear hs1h
        refine wpAnyH_take (i := 1) (oi := _) (v := ?_) rfl (by kernel_rfl) (by kernel_rfl) (by kernel_rfl) (fun _ _ _ h => h) (Or.inl ⟨by rfl, ?_⟩) (by assumption) ?_
        rotate_left
        · (intro w' hSw; (try dsimp only at hSw); go_simp; try with_reducible rfl)
        (try simp only [Act.put, List.setIfInBounds_toArray, List.set_cons_zero, List.set_cons_succ])
        refine wpAnyH_take (i := 2) (oi := _) (v := ?_) rfl (by kernel_rfl) (by kernel_rfl) (by kernel_rfl) (fun _ _ _ h => h) (Or.inl ⟨by rfl, ?_⟩) (by assumption) ?_
        rotate_left
        · (intro w' hSw; (try dsimp only at hSw); go_simp; try with_reducible rfl)
        (try simp only [Act.put, List.setIfInBounds_toArray, List.set_cons_zero, List.set_cons_succ])
        refine wpAnyH_take (i := 3) (oi := _) (v := ?_) rfl (by kernel_rfl) (by kernel_rfl) (by kernel_rfl) (fun _ _ _ h => h) (Or.inl ⟨by rfl, ?_⟩) (by assumption) ?_
        rotate_left
        · (intro w' hSw; (try dsimp only at hSw); go_simp; try with_reducible rfl)
        (try simp only [Act.put, List.setIfInBounds_toArray, List.set_cons_zero, List.set_cons_succ])
        refine wpAnyH_take (i := 4) (oi := _) (v := ?_) rfl (by kernel_rfl) (by kernel_rfl) (by kernel_rfl) (fun _ _ _ h => h) (Or.inl ⟨by rfl, ?_⟩) (by assumption) ?_
        rotate_left
        · (intro w' hSw; (try dsimp only at hSw); go_simp; try with_reducible rfl)
        (try simp only [Act.put, List.setIfInBounds_toArray, List.set_cons_zero, List.set_cons_succ])
        refine wpAnyH_take (i := 5) (oi := _) (v := ?_) rfl (by kernel_rfl) (by kernel_rfl) (by kernel_rfl) (fun _ _ _ h => h) (Or.inl ⟨by rfl, ?_⟩) (by assumption) ?_
        rotate_left
        · (intro w' hSw; (try dsimp only at hSw); go_simp; try with_reducible rfl)
        (try simp only [Act.put, List.setIfInBounds_toArray, List.set_cons_zero, List.set_cons_succ])
        refine wpAnyH_ready (rs := [0, 6]) (by kernel_rfl) (by simp) ?_
        refine AllReadyH.cons (o := _) rfl (fun K hK => ?_) ?_
        · go_simp
          refine hK.out _ _ HS1.out (fun hS3 => ?_)
          clear hK K
          (try simp only [Act.put, List.setIfInBounds_toArray, List.set_cons_zero, List.set_cons_succ])
          refine wpAnyH_ready (rs := [6]) (by kernel_rfl) (by simp) ?_
          refine AllReadyH.cons (o := _) rfl (fun K hK => ?_) AllReadyH.nil
          go_simp
          refine (termC_any c _ HFT.out).mono ?_
          rintro e w2 ⟨rfl, hb2⟩
          have HM2 := mkHid (HMd.out.calm hb2)
          have HB2 := mkHid hb2
          obtain ⟨v', w3, hrun, ha3, hg3, hw3⟩ := AccInv.run_push (P := Try.prog) (w := w2) 26 26 (w.heap.size + 3) 54 32 (.agg #[.int .i64 0, .string ⟨#[]⟩, .int .i64 0]) Try.underlying26 Try.infoCell rfl (by decide) _ acc HM2.out.acc 54 #[.int .i64 (termC c).k, .string (termC c).s, .int .i64 (termC c).n] (termC c) ⟨rfl, HFC.out⟩ (by omega) (by have := cell_lt HM2.out.c3; omega)
          obtain ⟨a3, c3, rfl, _⟩ := ha3.row
          obtain ⟨hM4, k1, k2, k3⟩ := HM2.out.push ha3 hg3 hw3
          rw [show (acc ++ [termC c]).length = acc.length + 1 by simp] at hM4 hrun
          have HM4 := mkHid hM4
          have HS2 := mkHid (HBLK.out w2 (fun k' hk' => hb2.block k' (Nat.lt_of_le_of_lt hk' HSZ.out)))
          have HS2b := mkHid (HBLK.out (w2.alloc (.cells #[.int .i64 (termC c).k, .string (termC c).s, .int .i64 (termC c).n] 54)) (fun k' hk' => (heap_alloc_old w2 _ (Nat.lt_of_lt_of_le (Nat.lt_of_le_of_lt hk' HSZ.out) hb2.size)).trans (hb2.block k' (Nat.lt_of_le_of_lt hk' HSZ.out))))
          have HS3 := mkHid (HBLK.out w3 (fun k' hk' => (k3 k' hk').trans (hb2.block k' (Nat.lt_of_le_of_lt hk' HSZ.out))))
          have HS4 := mkHid (HBLK.out (w3.setCell ⟨w.heap.size + 1, 0, none⟩ (.slice a3 (acc.length + 1) c3)) (fun k' hk' => (Below.heap_setCell w3 ⟨w.heap.size + 1, 0, none⟩ _ k' (by show k' ≠ w.heap.size + 1; omega)).trans ((k3 k' hk').trans (hb2.block k' (Nat.lt_of_le_of_lt hk' HSZ.out)))))
          have c22 := HM2.out.c2
          have c22b : (w2.alloc (.cells #[.int .i64 (termC c).k, .string (termC c).s, .int .i64 (termC c).n] 54)).cell? ⟨w.heap.size + 1, 0, none⟩ = some (.slice va acc.length vc) := keep c22 ((Below.refl _ _).new _)
          clear ha3 hg3 hw3 hM4 k3 hb2
          try dsimp only
          refine hK.out _ _ HS2.out (fun hS3 => ?_)
          clear hK K
          (try simp only [Act.put, List.setIfInBounds_toArray, List.set_cons_zero, List.set_cons_succ])
          refine wpAnyH_ready (rs := [7]) (by kernel_rfl) (by simp) ?_
          refine AllReadyH.cons (o := _) rfl (fun K hK => ?_) AllReadyH.nil
          go_simp
          refine hK.out _ _ HS2b.out (fun hS3 => ?_)
          clear hK K
          (try simp only [Act.put, List.setIfInBounds_toArray, List.set_cons_zero, List.set_cons_succ])
          refine wpAnyH_ready (rs := [8]) (by kernel_rfl) (by simp) ?_
          refine AllReadyH.cons (o := _) rfl (fun K hK => ?_) AllReadyH.nil
          (rw [if_pos (by rfl)]; simp [Oper.wp, execOp, resolve, invoke, builtin, Oper.upon, Act.eval, hrun, Result.andThen, Sem.run_bind])
          refine hK.out _ _ HS3.out (fun hS3 => ?_)
          clear hK K
          (try simp only [Act.put, List.setIfInBounds_toArray, List.set_cons_zero, List.set_cons_succ])
          refine wpAnyH_ready (rs := [9]) (by kernel_rfl) (by simp) ?_
          refine AllReadyH.cons (o := _) rfl (fun K hK => ?_) AllReadyH.nil
          go_simp
          refine hK.out _ _ HS4.out (fun hS3 => ?_)
          clear hK K
          (try simp only [Act.put, List.setIfInBounds_toArray, List.set_cons_zero, List.set_cons_succ])
          refine wpAnyH_done (by kernel_rfl) (NoPanic.normal ?_) _
          clear c22 c22b hrun HS1 HS2 HS2b HS3 HS4
          generalize hW5 : (w3.setCell ⟨w.heap.size + 1, 0, none⟩ (.slice a3 (acc.length + 1) c3)) = W5 at *
          clear hW5
          have p1 := HM4.out.c1
          go_wp2_with fail
          refine (leads_any (some ⟨b, off, none⟩) cap k _ l (HR.out.below HM4.out.fr) hk).mono ?_
          rintro e w6 ⟨rfl, hb6⟩
          have HM6 := mkHid (HM4.out.calm hb6)
          obtain ⟨q1, q2, q3⟩ := leads_range l k hk
          obtain ⟨L1, hL1⟩ : ∃ x, x = leads1 l k l[k] := ⟨_, rfl⟩
          obtain ⟨L2, hL2⟩ : ∃ x, x = leads2 l k l[k] := ⟨_, rfl⟩
          rw [← hL1, ← hL2]
          rw [← hL1] at q1 q2
          rw [← hL2] at q3
          have HLL : Hid (layG l (f + 1) acc i = (fromI L1 (L2 - L1).toNat).foldl (fun acc x => layG l f acc x) (acc ++ [termC c])) := by rw [Hid, HL.out, hL1, hL2, HCK.out]
          clear hL1 hL2 p1
          have HA1 : Hid ((acc ++ [termC c]).length = acc.length + 1) := by rw [Hid]; simp
          generalize hacc1 : acc ++ [termC c] = acc1 at *
          clear hacc1
          go_wp2_with fail
          go_loopw [8] (fun p wr => ∃ (m : Nat) (vv : Value), p = .int .i64 (L1 + m) ∧ (m : Int) ≤ max (L2 - L1) 0 ∧ Hid (GM w (some ⟨b, off, none⟩) cap l ((fromI L1 m).foldl (fun acc x => layG l f acc x) acc1) vv wr)) (fun p wr => (L2 - intOf p).toNat)
          case atStart => exact ⟨0, _, by (rw [show L1 + ((0 : Nat) : Int) = L1 by omega]), by omega, HM6⟩
          case round =>
            obtain ⟨m, vv, rfl, hm9, HMr⟩ := hrel
            by_cases hlt : L1 + m < L2
            · have r3 := HMr.out.c3
              have h7 := foldl_grow _ (layG_grow l f) (fromI L1 m) acc1
              have h8 := foldl_few (m := 201) _ (layG_few l f) (fromI L1 m) acc1 (by have := HA1.out; omega)
              go_wp2_with fail
              refine (IH.out _ vv (L1 + m) _ (by have := HA1.out; omega) h8 HMr.out (by omega) (by omega)).mono ?_
              rintro e w7 ⟨rfl, v7, hM7⟩
              have HM7 := mkHid hM7
              clear hM7
              go_wp2_with fail
              go_round
              case rel =>
                refine ⟨m + 1, v7, by go_num, by omega, ?_⟩
                rw [fromI_succ, List.foldl_append]
                exact HM7
              case measure => simp [intOf]; omega
            · go_wp2_with fail
              refine bodyPost_ret (results_none rfl _ _ _) rfl ⟨rfl, vv, ?_⟩
              rw [HLL.out, show (L2 - L1).toNat = m by omega]
              exact HMr.out
        · refine AllReadyH.cons (o := _) rfl (fun K hK => ?_) AllReadyH.nil
          go_simp
          refine (termC_any c _ HFT.out).mono ?_
          rintro e w2 ⟨rfl, hb2⟩
          have HM2 := mkHid (HMd.out.calm hb2)
          have HB2 := mkHid hb2
          obtain ⟨v', w3, hrun, ha3, hg3, hw3⟩ := AccInv.run_push (P := Try.prog) (w := w2) 26 26 (w.heap.size + 3) 54 32 (.agg #[.int .i64 0, .string ⟨#[]⟩, .int .i64 0]) Try.underlying26 Try.infoCell rfl (by decide) _ acc HM2.out.acc 54 #[.int .i64 (termC c).k, .string (termC c).s, .int .i64 (termC c).n] (termC c) ⟨rfl, HFC.out⟩ (by omega) (by have := cell_lt HM2.out.c3; omega)
          obtain ⟨a3, c3, rfl, _⟩ := ha3.row
          obtain ⟨hM4, k1, k2, k3⟩ := HM2.out.push ha3 hg3 hw3
          rw [show (acc ++ [termC c]).length = acc.length + 1 by simp] at hM4 hrun
          have HM4 := mkHid hM4
          have HS2 := mkHid (HBLK.out w2 (fun k' hk' => hb2.block k' (Nat.lt_of_le_of_lt hk' HSZ.out)))
          have HS2b := mkHid (HBLK.out (w2.alloc (.cells #[.int .i64 (termC c).k, .string (termC c).s, .int .i64 (termC c).n] 54)) (fun k' hk' => (heap_alloc_old w2 _ (Nat.lt_of_lt_of_le (Nat.lt_of_le_of_lt hk' HSZ.out) hb2.size)).trans (hb2.block k' (Nat.lt_of_le_of_lt hk' HSZ.out))))
          have HS3 := mkHid (HBLK.out w3 (fun k' hk' => (k3 k' hk').trans (hb2.block k' (Nat.lt_of_le_of_lt hk' HSZ.out))))
          have HS4 := mkHid (HBLK.out (w3.setCell ⟨w.heap.size + 1, 0, none⟩ (.slice a3 (acc.length + 1) c3)) (fun k' hk' => (Below.heap_setCell w3 ⟨w.heap.size + 1, 0, none⟩ _ k' (by show k' ≠ w.heap.size + 1; omega)).trans ((k3 k' hk').trans (hb2.block k' (Nat.lt_of_le_of_lt hk' HSZ.out)))))
          have c22 := HM2.out.c2
          have c22b : (w2.alloc (.cells #[.int .i64 (termC c).k, .string (termC c).s, .int .i64 (termC c).n] 54)).cell? ⟨w.heap.size + 1, 0, none⟩ = some (.slice va acc.length vc) := keep c22 ((Below.refl _ _).new _)
          clear ha3 hg3 hw3 hM4 k3 hb2
          try dsimp only
          refine hK.out _ _ HS2.out (fun hS3 => ?_)
          clear hK K
          (try simp only [Act.put, List.setIfInBounds_toArray, List.set_cons_zero, List.set_cons_succ])
          refine wpAnyH_ready (rs := [0, 7]) (by kernel_rfl) (by simp) ?_
          refine AllReadyH.cons (o := _) rfl (fun K hK => ?_) ?_
          · go_simp
            refine hK.out _ _ HS2.out (fun hS3 => ?_)
            clear hK K
            (try simp only [Act.put, List.setIfInBounds_toArray, List.set_cons_zero, List.set_cons_succ])
            refine wpAnyH_ready (rs := [7]) (by kernel_rfl) (by simp) ?_
            refine AllReadyH.cons (o := _) rfl (fun K hK => ?_) AllReadyH.nil
            go_simp
            refine hK.out _ _ HS2b.out (fun hS3 => ?_)
            clear hK K
            (try simp only [Act.put, List.setIfInBounds_toArray, List.set_cons_zero, List.set_cons_succ])
            refine wpAnyH_ready (rs := [8]) (by kernel_rfl) (by simp) ?_
            refine AllReadyH.cons (o := _) rfl (fun K hK => ?_) AllReadyH.nil
            (rw [if_pos (by rfl)]; simp [Oper.wp, execOp, resolve, invoke, builtin, Oper.upon, Act.eval, hrun, Result.andThen, Sem.run_bind])
            refine hK.out _ _ HS3.out (fun hS3 => ?_)
            clear hK K
            (try simp only [Act.put, List.setIfInBounds_toArray, List.set_cons_zero, List.set_cons_succ])
            refine wpAnyH_ready (rs := [9]) (by kernel_rfl) (by simp) ?_
            refine AllReadyH.cons (o := _) rfl (fun K hK => ?_) AllReadyH.nil
            go_simp
            refine hK.out _ _ HS4.out (fun hS3 => ?_)
            clear hK K
            (try simp only [Act.put, List.setIfInBounds_toArray, List.set_cons_zero, List.set_cons_succ])
            refine wpAnyH_done (by kernel_rfl) (NoPanic.normal ?_) _
            clear c22 c22b hrun HS1 HS2 HS2b HS3 HS4
            generalize hW5 : (w3.setCell ⟨w.heap.size + 1, 0, none⟩ (.slice a3 (acc.length + 1) c3)) = W5 at *
            clear hW5
            have p1 := HM4.out.c1
            go_wp2_with fail
            refine (leads_any (some ⟨b, off, none⟩) cap k _ l (HR.out.below HM4.out.fr) hk).mono ?_
            rintro e w6 ⟨rfl, hb6⟩
            have HM6 := mkHid (HM4.out.calm hb6)
            obtain ⟨q1, q2, q3⟩ := leads_range l k hk
            obtain ⟨L1, hL1⟩ : ∃ x, x = leads1 l k l[k] := ⟨_, rfl⟩
            obtain ⟨L2, hL2⟩ : ∃ x, x = leads2 l k l[k] := ⟨_, rfl⟩
            rw [← hL1, ← hL2]
            rw [← hL1] at q1 q2
            rw [← hL2] at q3
            have HLL : Hid (layG l (f + 1) acc i = (fromI L1 (L2 - L1).toNat).foldl (fun acc x => layG l f acc x) (acc ++ [termC c])) := by rw [Hid, HL.out, hL1, hL2, HCK.out]
            clear hL1 hL2 p1
            have HA1 : Hid ((acc ++ [termC c]).length = acc.length + 1) := by rw [Hid]; simp
            generalize hacc1 : acc ++ [termC c] = acc1 at *
            clear hacc1
            go_wp2_with fail
            go_loopw [8] (fun p wr => ∃ (m : Nat) (vv : Value), p = .int .i64 (L1 + m) ∧ (m : Int) ≤ max (L2 - L1) 0 ∧ Hid (GM w (some ⟨b, off, none⟩) cap l ((fromI L1 m).foldl (fun acc x => layG l f acc x) acc1) vv wr)) (fun p wr => (L2 - intOf p).toNat)
            case atStart => exact ⟨0, _, by (rw [show L1 + ((0 : Nat) : Int) = L1 by omega]), by omega, HM6⟩
            case round =>
              obtain ⟨m, vv, rfl, hm9, HMr⟩ := hrel
              by_cases hlt : L1 + m < L2
              · have r3 := HMr.out.c3
                have h7 := foldl_grow _ (layG_grow l f) (fromI L1 m) acc1
                have h8 := foldl_few (m := 201) _ (layG_few l f) (fromI L1 m) acc1 (by have := HA1.out; omega)
                go_wp2_with fail
                refine (IH.out _ vv (L1 + m) _ (by have := HA1.out; omega) h8 HMr.out (by omega) (by omega)).mono ?_
                rintro e w7 ⟨rfl, v7, hM7⟩
                have HM7 := mkHid hM7
                clear hM7
                go_wp2_with fail
                go_round
                case rel =>
                  refine ⟨m + 1, v7, by go_num, by omega, ?_⟩
                  rw [fromI_succ, List.foldl_append]
                  exact HM7
                case measure => simp [intOf]; omega
              · go_wp2_with fail
                refine bodyPost_ret (results_none rfl _ _ _) rfl ⟨rfl, vv, ?_⟩
                rw [HLL.out, show (L2 - L1).toNat = m by omega]
                exact HMr.out
          · refine AllReadyH.cons (o := _) rfl (fun K hK => ?_) AllReadyH.nil
            go_simp
            refine hK.out _ _ HS2b.out (fun hS3 => ?_)
            clear hK K
            (try simp only [Act.put, List.setIfInBounds_toArray, List.set_cons_zero, List.set_cons_succ])
            refine wpAnyH_ready (rs := [0]) (by kernel_rfl) (by simp) ?_
            refine AllReadyH.cons (o := _) rfl (fun K hK => ?_) AllReadyH.nil
            go_simp
            refine hK.out _ _ HS2b.out (fun hS3 => ?_)
            clear hK K
            (try simp only [Act.put, List.setIfInBounds_toArray, List.set_cons_zero, List.set_cons_succ])
            refine wpAnyH_ready (rs := [8]) (by kernel_rfl) (by simp) ?_
            refine AllReadyH.cons (o := _) rfl (fun K hK => ?_) AllReadyH.nil
            (rw [if_pos (by rfl)]; simp [Oper.wp, execOp, resolve, invoke, builtin, Oper.upon, Act.eval, hrun, Result.andThen, Sem.run_bind])
            refine hK.out _ _ HS3.out (fun hS3 => ?_)
            clear hK K
            (try simp only [Act.put, List.setIfInBounds_toArray, List.set_cons_zero, List.set_cons_succ])
            refine wpAnyH_ready (rs := [9]) (by kernel_rfl) (by simp) ?_
            refine AllReadyH.cons (o := _) rfl (fun K hK => ?_) AllReadyH.nil
            go_simp
            refine hK.out _ _ HS4.out (fun hS3 => ?_)
            clear hK K
            (try simp only [Act.put, List.setIfInBounds_toArray, List.set_cons_zero, List.set_cons_succ])
            refine wpAnyH_done (by kernel_rfl) (NoPanic.normal ?_) _
            clear c22 c22b hrun HS1 HS2 HS2b HS3 HS4
            generalize hW5 : (w3.setCell ⟨w.heap.size + 1, 0, none⟩ (.slice a3 (acc.length + 1) c3)) = W5 at *
            clear hW5
            have p1 := HM4.out.c1
            go_wp2_with fail
            refine (leads_any (some ⟨b, off, none⟩) cap k _ l (HR.out.below HM4.out.fr) hk).mono ?_
            rintro e w6 ⟨rfl, hb6⟩
            have HM6 := mkHid (HM4.out.calm hb6)
            obtain ⟨q1, q2, q3⟩ := leads_range l k hk
            obtain ⟨L1, hL1⟩ : ∃ x, x = leads1 l k l[k] := ⟨_, rfl⟩
            obtain ⟨L2, hL2⟩ : ∃ x, x = leads2 l k l[k] := ⟨_, rfl⟩
            rw [← hL1, ← hL2]
            rw [← hL1] at q1 q2
            rw [← hL2] at q3
            have HLL : Hid (layG l (f + 1) acc i = (fromI L1 (L2 - L1).toNat).foldl (fun acc x => layG l f acc x) (acc ++ [termC c])) := by rw [Hid, HL.out, hL1, hL2, HCK.out]
            clear hL1 hL2 p1
            have HA1 : Hid ((acc ++ [termC c]).length = acc.length + 1) := by rw [Hid]; simp
            generalize hacc1 : acc ++ [termC c] = acc1 at *
            clear hacc1
            go_wp2_with fail
            go_loopw [8] (fun p wr => ∃ (m : Nat) (vv : Value), p = .int .i64 (L1 + m) ∧ (m : Int) ≤ max (L2 - L1) 0 ∧ Hid (GM w (some ⟨b, off, none⟩) cap l ((fromI L1 m).foldl (fun acc x => layG l f acc x) acc1) vv wr)) (fun p wr => (L2 - intOf p).toNat)
            case atStart => exact ⟨0, _, by (rw [show L1 + ((0 : Nat) : Int) = L1 by omega]), by omega, HM6⟩
            case round =>
              obtain ⟨m, vv, rfl, hm9, HMr⟩ := hrel
              by_cases hlt : L1 + m < L2
              · have r3 := HMr.out.c3
                have h7 := foldl_grow _ (layG_grow l f) (fromI L1 m) acc1
                have h8 := foldl_few (m := 201) _ (layG_few l f) (fromI L1 m) acc1 (by have := HA1.out; omega)
                go_wp2_with fail
                refine (IH.out _ vv (L1 + m) _ (by have := HA1.out; omega) h8 HMr.out (by omega) (by omega)).mono ?_
                rintro e w7 ⟨rfl, v7, hM7⟩
                have HM7 := mkHid hM7
                clear hM7
                go_wp2_with fail
                go_round
                case rel =>
                  refine ⟨m + 1, v7, by go_num, by omega, ?_⟩
                  rw [fromI_succ, List.foldl_append]
                  exact HM7
                case measure => simp [intOf]; omega
              · go_wp2_with fail
                refine bodyPost_ret (results_none rfl _ _ _) rfl ⟨rfl, vv, ?_⟩
                rw [HLL.out, show (L2 - L1).toNat = m by omega]
                exact HMr.out
end Go.Proofs.Ytefnmjoapmnkbaa
set_option linter.unusedVariables false
namespace Go.Proofs.Ytefnmjoapmnkbaa
open Go.RowKit

def gotL (l : List Cel) (i : Int) : List Cel := layG l 202 [] i
def getB (l : List Cel) (i : Int) : Bool := rightB (gotL l i)
def getL (l : List Cel) (i : Int) : List Cel := if getB l i = true then gotL l i else []
theorem GM.init (w : World) (a : Option Addr) (cap : Nat) (l : List Cel) (x y : Value) (A C : TypeId) : GM w a cap l [] (.slice none 0 0)
    (((w.alloc (.cells #[.slice a l.length cap, x, y] A)).alloc (.cells #[.slice none 0 0] 26)).alloc (.cells #[.func (.func 68) #[] #[.pointer (some ⟨w.heap.size, 0, none⟩), .pointer (some ⟨w.heap.size + 1, 0, none⟩), .pointer (some ⟨w.heap.size + 1 + 1, 0, none⟩)]] C)) := by
  refine ⟨(((Below.refl _ _).new _).new _).new _, ?_, ?_, World.cell?_alloc_at _ _ _ 0 (by simp), AccInv.nil _ _ _⟩
  · exact keep (keep (World.cell?_alloc_at _ _ _ 0 rfl) ((Below.refl _ _).new _)) ((Below.refl _ _).new _)
  · rw [heap_alloc_old _ _ (by simp)]
    have := heap_alloc_new (w.alloc (.cells #[.slice a l.length cap, x, y] A)) (.cells #[.slice none 0 0] 26)
    rw [World.size_alloc] at this
    exact this
set_option maxHeartbeats 3200000 in
/-- heap.Get, whole -/
theorem hget_any (a : Option Addr) (cap : Nat) (a' : Option Addr) (n' cap' : Nat) (r i : Int) (w : World) (l : List Cel) (hr : Row w a cap l) (hl : l.length ≤ 5000) (i1 : -9223372036854775808 ≤ i) (i2 : i ≤ 9223372036854775807) :
    Calls Try.prog 22 #[hv a l.length cap a' n' cap' r, .int .i64 i] w fun e w' => ∃ a2 c2, e = .returned (.tuple #[.slice a2 (getL l i).length c2, .bool (getB l i)]) ∧ Row w' a2 c2 (getL l i) ∧ Below w.heap.size w w' := by
  have hG0 := GM.init w a cap l (.slice a' n' cap') (.int .i64 r) 25 100
  have HG0 := mkHid hG0
  have c3 := hG0.c3
  have HR := mkHid hr
  have h9 := mkHid (layG_few l 202 [] i (by simp))
  clear hG0 hr
  go_enter Try.func22, Try.ntmps22
  go_wp2_with fail
  refine (get1_any w a cap l HR.out hl 202 [] _ i _ (by simp) (by simp) HG0.out i1 i2).mono ?_
  rintro e W ⟨rfl, v, hM⟩
  obtain ⟨va, vc, rfl, hvr⟩ := hM.acc.row
  have c2 := hM.c2
  have hvm := hvr.max
  have hvl := hvr.le
  have HM := mkHid hM
  have HVR := mkHid hvr
  clear c3 hM hvr
  have hlen : (layG l 202 [] i).length ≤ 1000000 := by have := h9.out; omega
  cases hq : getB l i with
  | true =>
    have HQ : Hid (rightB (layG l 202 [] i) = true) := hq
    have HL : Hid (getL l i = layG l 202 [] i) := by rw [Hid, getL, if_pos hq]; rfl
    have HB := mkHid hq
    clear hq
    generalize layG l 202 [] i = L at *
    go_wp2_with fail
    refine (right_any va vc _ L HVR.out).mono ?_
    rintro e w2 ⟨rfl, hb2⟩
    rw [HQ.out]
    have d2 := keep c2 hb2
    go_wp2_with fail
    go_ret2
    rw [HL.out, HB.out]
    exact ⟨va, vc, rfl, HVR.out.below hb2, HM.out.fr.then hb2⟩
  | false =>
    have HQ : Hid (rightB (layG l 202 [] i) = false) := hq
    have HL : Hid (getL l i = []) := by rw [Hid, getL, if_neg (by rw [hq]; simp)]
    have HB := mkHid hq
    clear hq
    generalize layG l 202 [] i = L at *
    go_wp2_with fail
    refine (right_any va vc _ L HVR.out).mono ?_
    rintro e w2 ⟨rfl, hb2⟩
    rw [HQ.out]
    go_wp2_with fail
    go_ret2
    rw [HL.out, HB.out]
    exact ⟨none, 0, rfl, Row.empty _ _ _ (by omega) (fun _ => rfl), HM.out.fr.then hb2⟩
end Go.Proofs.Ytefnmjoapmnkbaa
set_option linter.unusedVariables false
namespace Go.Proofs.Ytefnmjoapmnkbaa
open Go.RowKit

/-! ### laying a term's slots: the memory -/
theorem crows_celH {w : World} : ∀ {vs : List Value} {xs : List Cel}, CRows w vs xs → vs = flat xs ∧ ∀ d ∈ xs, d.fit := by
  intro vs xs h
  induction h with
  | nil => exact ⟨rfl, by simp⟩
  | @cons cs x vs xs hc _ ih =>
    obtain ⟨rfl, h1⟩ := hc
    obtain ⟨rfl, h2⟩ := ih
    refine ⟨by simp [flat], fun n hn => ?_⟩
    rcases List.mem_cons.1 hn with rfl | hn
    · exact h1
    · exact h2 n hn
theorem AccInv.blockC {w w' : World} {B e : Nat} {v : Value} {acc : List Cel} (h : AccInv B e acc v w) (hb : ∀ b, v.ownBlock = some b → w'.heap[b]? = w.heap[b]?) : AccInv B e acc v w' := by
  obtain ⟨vs, ho, hc⟩ := h.ex
  obtain ⟨rfl, hf⟩ := crows_celH hc
  exact ⟨_, own_block ho hb, crows_flat _ hf⟩
theorem AccInv.fitC {w : World} {B e : Nat} {v : Value} {acc : List Cel} (h : AccInv B e acc v w) : ∀ d ∈ acc, d.fit := by
  obtain ⟨vs, ho, hc⟩ := h.ex
  exact (crows_celH hc).2
structure LM (W : World) (B L : Nat) (vc va : Value) (xs : List Cel) (ps : List Int) : Prop where
  blk : W.heap[L]? = some (.cells #[vc, va] 91 (0, 0))
  cells : AccInv B 80 xs vc W
  at_ : AccInv B 3 ps va W
  cL : vc.ownBlock ≠ some L
  aL : va.ownBlock ≠ some L
  ca : ∀ b, vc.ownBlock = some b → va.ownBlock ≠ some b
  hB : B ≤ L
def lB (L : Nat) (vc va : Value) : List Nat := L :: (vc.ownBlock.toList ++ va.ownBlock.toList)
section
variable {W W' w2 w3 : World} {B L : Nat} {vc va v' : Value} {xs xs' : List Cel} {ps ps' : List Int} {c : Cel}
theorem LM.lt (h : LM W B L vc va xs ps) : L < W.heap.size := (Array.getElem?_eq_some_iff.1 h.blk).1
theorem LM.c0 (h : LM W B L vc va xs ps) : W.cell? ⟨L, 0, none⟩ = some vc := by rw [cell_of_row W L 0 _ _ _ h.blk]; rfl
theorem LM.c1 (h : LM W B L vc va xs ps) : W.cell? ⟨L, 1, none⟩ = some va := by rw [cell_of_row W L 1 _ _ _ h.blk]; rfl
theorem LM.f0 (h : LM W B L vc va xs ps) (k : Nat) : W.frozen? ⟨L, k, none⟩ = false := by
  have := h.blk
  simp [World.frozen?, this]
theorem LM.allB (h : LM W B L vc va xs ps) : ∀ b ∈ lB L vc va, B ≤ b ∧ b < W.heap.size := by
  intro b hb
  simp [lB] at hb
  rcases hb with rfl | hb | hb
  · exact ⟨h.hB, h.lt⟩
  · exact h.cells.lt b hb
  · exact h.at_.lt b hb
theorem LM.fr {us : List Nat} (h : LM W B L vc va xs ps) (hf : Fr us W W') (hn : ∀ b ∈ lB L vc va, b ∉ us) : LM W' B L vc va xs ps :=
  ⟨(hf.block L h.lt (hn L (by simp [lB]))).trans h.blk, h.cells.blockC fun b hb => hf.block b (h.cells.lt b hb).2 (hn b (by simp [lB, hb])), h.at_.blockI fun b hb => hf.block b (h.at_.lt b hb).2 (hn b (by simp [lB, hb])), h.cL, h.aL, h.ca, h.hB⟩
theorem LM.below (h : LM W B L vc va xs ps) (hb : Below W.heap.size W W') : LM W' B L vc va xs ps := h.fr (us := []) (Fr.of hb) (by simp)
theorem LM.BW (h : LM W B L vc va xs ps) : B ≤ W.heap.size := by
  have := h.hB
  have := h.lt
  omega
/-- a slot was put behind the others, and the row laid in its field -/
theorem LM.push (h : LM W B L vc va xs ps) {T : Nat} {cs : Array Value} (ha : AccInv B 80 (xs ++ [c]) v' w3) (hg : (W.alloc (.cells cs T)).grownBy w3 vc.ownBlock) (hw : v'.ownBlock = vc.ownBlock ∨ v'.ownBlock = some (W.heap.size + 1)) :
    LM (w3.setCell ⟨L, 0, none⟩ v') B L v' va (xs ++ [c]) ps ∧ (Fr (lB L vc va) W (w3.setCell ⟨L, 0, none⟩ v') ∧ NewAt W vc v') ∧ w3.heap[L]? = W.heap[L]? ∧ w3.cell? ⟨L, 0, none⟩ = some vc ∧ w3.cell? ⟨L, 1, none⟩ = some va ∧ w3.frozen? ⟨L, 0, none⟩ = false := by
  have hf0 : Fr vc.ownBlock.toList W w3 := ((Fr.of ((Below.refl _ _).new _)).trans (grown_fr hg) |>.sub (by simp))
  have eL := hf0.block L h.lt (by simp; exact h.cL)
  have hv'L : v'.ownBlock ≠ some L := by
    rcases hw with e | e
    · rw [e]; exact h.cL
    · rw [e]; have := h.lt; intro e2; injection e2 with e2; omega
  refine ⟨⟨?_, ha.blockC fun b hb => Below.heap_setCell w3 ⟨L, 0, none⟩ _ b (fun e => hv'L (by rw [hb, show b = L from e])), h.at_.blockI fun b hb => ?_, hv'L, h.aL, fun b hb e => ?_, h.hB⟩, ?_, eL, (World.cell?_of_block eL).trans h.c0, (World.cell?_of_block eL).trans h.c1, (World.frozen?_of_block eL).trans (h.f0 0)⟩
  · have hb := eL.trans h.blk
    simp only [World.setCell, Array.getElem?_modify, if_true, hb, Option.map_some]
    simp
  · rw [Below.heap_setCell w3 ⟨L, 0, none⟩ _ b (fun e => h.aL (by rw [hb, show b = L from e]))]
    exact hf0.block b (h.at_.lt b hb).2 (by simp; exact fun e => h.ca b e hb)
  · rcases hw with e2 | e2
    · exact h.ca b (by rw [← e2]; exact hb) e
    · have := (h.at_.lt b e).2
      rw [hb] at e2; injection e2 with e2; omega
  · refine ⟨(hf0.sub (by intro k hk; simp [lB]; simp at hk; exact .inr (.inl hk))).set (by simp [lB]) _, ?_⟩
    rcases hw with e | e
    · exact .inl e
    · exact .inr ⟨_, e, by omega⟩
/-- what lies in none of the blocks that laying turns is read as it was -/
theorem lB_keeps (h : LM W B L vc va xs ps) (hf : Fr (lB L vc va) W W') (hn : NewAt W vc v') : Keeps (veil (lB L vc va) W) (veil (lB L v' va) W') := by
  intro b o v hc
  have h1 := hf.keeps b o v hc
  obtain ⟨hb, hc'⟩ := veil_cell hc
  have hl := cell_lt hc'
  refine veil_of (fun e => ?_) (veil_cell h1).2
  simp [lB] at hb e
  rcases e with e | e | e
  · exact hb.1 e
  · rcases hn with e2 | ⟨b', e2, hb2⟩
    · rw [e2] at e; exact hb.2.1 e
    · rw [e] at e2; injection e2 with e2; omega
  · exact hb.2.2 e
theorem LM.frB (h : LM W B L vc va xs ps) (hf : Fr (lB L vc va) W W') : Below B W W' := hf.below h.BW fun b hb => (h.allB b hb).1
end
end Go.Proofs.Ytefnmjoapmnkbaa
set_option linter.unusedVariables false
namespace Go.Proofs.Ytefnmjoapmnkbaa
open Go.RowKit

def AddPost (w : World) (B L : Nat) (vc va : Value) (xs : List Cel) (ps : List Int) (c : Cel) (e : Ending) (W' : World) : Prop := e = .returned (.int .i64 (xs.length : Int)) ∧ ∃ vc', LM W' B L vc' va (xs ++ [c]) ps ∧ Fr (lB L vc va) w W' ∧ NewAt w vc vc'
set_option maxRecDepth 100000 in
set_option maxHeartbeats 3200000 in
theorem add_any (w : World) (B L : Nat) (vc va : Value) (xs : List Cel) (ps : List Int) (c : Cel) (hM : LM w B L vc va xs ps) (hf : c.fit) (hl : xs.length ≤ 1000000) :
    Calls Try.prog 140 #[.pointer (some ⟨L, 0, none⟩), c.v] w (AddPost w B L vc va xs ps c) := by
  have hb1 := (Below.refl w.heap.size w).new (.cells #[.int .i64 c.k, .string c.s, .int .i64 c.n] 80)
  have e0 : (w.alloc (.cells #[.int .i64 c.k, .string c.s, .int .i64 c.n] 80)).cell? ⟨w.heap.size, 0, none⟩ = some (.int .i64 c.k) := World.cell?_alloc_at _ _ _ 0 rfl
  have e1 : (w.alloc (.cells #[.int .i64 c.k, .string c.s, .int .i64 c.n] 80)).cell? ⟨w.heap.size, 1, none⟩ = some (.string c.s) := World.cell?_alloc_at _ _ _ 1 rfl
  have e2 : (w.alloc (.cells #[.int .i64 c.k, .string c.s, .int .i64 c.n] 80)).cell? ⟨w.heap.size, 2, none⟩ = some (.int .i64 c.n) := World.cell?_alloc_at _ _ _ 2 rfl
  have hsz : (w.alloc (.cells #[.int .i64 c.k, .string c.s, .int .i64 c.n] 80)).heap.size = w.heap.size + 1 := by simp
  have hM1 := hM.below hb1
  obtain ⟨ca, cc, rfl, hcr⟩ := hM.cells.row
  have hcm := hcr.max
  have hcl := hcr.le
  have hBw := hM.BW
  have HB1 := mkHid hb1
  have hLw := hM.lt
  have HVL : Hid (∀ b, (Value.slice ca xs.length cc).ownBlock = some b → b < w.heap.size) := fun b hb => (hM.cells.lt b hb).2
  clear hM hb1 hcr
  go_enter Try.func140, Try.ntmps140
  dsimp only [Cel.v]
  go_wp2_with fail
  obtain ⟨W, hW⟩ : ∃ W, w.alloc (.cells #[.int .i64 c.k, .string c.s, .int .i64 c.n] 80) = W := ⟨_, rfl⟩
  rw [hW] at e0 e1 e2 hM1 HB1 hsz ⊢
  clear hW
  have HSZ := mkHid hsz
  have HWN : Hid (∀ {x : Value}, NewAt W.drew (.slice ca xs.length cc) x → NewAt w (.slice ca xs.length cc) x) := fun {x} h => by
    rcases h with h | ⟨b, h, hb⟩
    · exact .inl h
    · exact .inr ⟨b, h, by have : W.drew.heap.size = W.heap.size := rfl; have := HSZ.out; omega⟩
  have hMd : LM W.drew B L (.slice ca xs.length cc) va xs ps := hM1.below (Below.refl _ _).drew
  have HMd := mkHid hMd
  have c0 := hM1.c0
  obtain ⟨v', w3, hrun, ha3, hg3, hw3⟩ := AccInv.run_push (P := Try.prog) (w := W.drew) 22 22 B 80 32 (.agg #[.int .i64 0, .string ⟨#[]⟩, .int .i64 0]) Try.underlying22 Try.infoSlot rfl (by decide) _ xs hMd.cells 80 #[.int .i64 c.k, .string c.s, .int .i64 c.n] c ⟨rfl, hf⟩ (by omega) hMd.BW
  obtain ⟨a3, c3, rfl, _⟩ := ha3.row
  obtain ⟨hM4, hB4, k0, k1, k2, k3⟩ := hMd.push ha3 hg3 hw3
  have hc4 := hM4.c0
  rw [show (xs ++ [c]).length = xs.length + 1 by simp] at hM4 hrun hB4 hc4
  have hrun2 : (Builtin.append_ #[22, 22] 22 #[.slice ca xs.length cc, .slice (some ⟨W.heap.size, 0, none⟩) 1 1]).run Try.prog (W.drew.alloc (.cells #[.int .i64 c.k, .string c.s, .int .i64 c.n] 80)) = .ok (.slice a3 (xs.length + 1) c3) w3 := hrun
  have hrun := hrun2
  have hrunB : (Builtin.append_ #[22, 22] 22 #[.slice ca xs.length cc, .slice (some ⟨W.heap.size, 0, none⟩) 1 1]).run Try.prog (W.alloc (.cells #[.int .i64 c.k, .string c.s, .int .i64 c.n] 80)).drew = .ok (.slice a3 (xs.length + 1) c3) w3 := hrun2
  have HM4 := mkHid hM4
  have HB4 := mkHid hB4
  have hwb : ∀ k, k = w.heap.size → w3.heap[k]? = W.drew.heap[k]? := fun k hk => by
    have hkl : k < W.drew.heap.size := by show k < W.heap.size; have := HSZ.out; omega
    refine (hg3.block k (by simp; show k < W.heap.size + 1; have := HSZ.out; omega) (fun e => ?_)).trans (heap_alloc_old W.drew _ hkl)
    have := HVL.out k e.symm
    omega
  clear hM4 hB4 hM1 hMd ha3 hg3 hw3 hrun2 hsz
  have HS1 : Hid ((fun w' : World => w'.cell? ⟨w.heap.size, 0, none⟩ = some (.int .i64 c.k) ∧ w'.cell? ⟨w.heap.size, 1, none⟩ = some (.string c.s) ∧ w'.cell? ⟨w.heap.size, 2, none⟩ = some (.int .i64 c.n)) W.drew) := ⟨e0, e1, e2⟩
  have c0c : (W.alloc (.cells #[.int .i64 c.k, .string c.s, .int .i64 c.n] 80)).cell? ⟨L, 0, none⟩ = some (.slice ca xs.length cc) := keep c0 ((Below.refl _ _).new _)
  have c0b : (W.drew.alloc (.cells #[.int .i64 c.k, .string c.s, .int .i64 c.n] 80)).cell? ⟨L, 0, none⟩ = some (.slice ca xs.length cc) := keep (w := W.drew) c0 ((Below.refl _ _).new _)
  have HS2 : Hid ((fun w' : World => w'.cell? ⟨w.heap.size, 0, none⟩ = some (.int .i64 c.k) ∧ w'.cell? ⟨w.heap.size, 1, none⟩ = some (.string c.s) ∧ w'.cell? ⟨w.heap.size, 2, none⟩ = some (.int .i64 c.n)) (W.drew.alloc (.cells #[.int .i64 c.k, .string c.s, .int .i64 c.n] 80))) := ⟨keep (w := W.drew) e0 ((Below.refl _ _).new _), keep (w := W.drew) e1 ((Below.refl _ _).new _), keep (w := W.drew) e2 ((Below.refl _ _).new _)⟩
  have HS3 : Hid ((fun w' : World => w'.cell? ⟨w.heap.size, 0, none⟩ = some (.int .i64 c.k) ∧ w'.cell? ⟨w.heap.size, 1, none⟩ = some (.string c.s) ∧ w'.cell? ⟨w.heap.size, 2, none⟩ = some (.int .i64 c.n)) w3) := ⟨(World.cell?_of_block (w := W.drew) (a := ⟨w.heap.size, 0, none⟩) (hwb _ rfl)).trans e0, (World.cell?_of_block (w := W.drew) (a := ⟨w.heap.size, 1, none⟩) (hwb _ rfl)).trans e1, (World.cell?_of_block (w := W.drew) (a := ⟨w.heap.size, 2, none⟩) (hwb _ rfl)).trans e2⟩
  have HS4 : Hid ((fun w' : World => w'.cell? ⟨w.heap.size, 0, none⟩ = some (.int .i64 c.k) ∧ w'.cell? ⟨w.heap.size, 1, none⟩ = some (.string c.s) ∧ w'.cell? ⟨w.heap.size, 2, none⟩ = some (.int .i64 c.n)) (w3.setCell ⟨L, 0, none⟩ (.slice a3 (xs.length + 1) c3))) := by
    have hn : w.heap.size ≠ L := by omega
    obtain ⟨x0, x1, x2⟩ := HS3.out
    exact ⟨(World.cell?_of_block (a := ⟨w.heap.size, 0, none⟩) (Below.heap_setCell w3 ⟨L, 0, none⟩ _ _ hn)).trans x0, (World.cell?_of_block (a := ⟨w.heap.size, 1, none⟩) (Below.heap_setCell w3 ⟨L, 0, none⟩ _ _ hn)).trans x1, (World.cell?_of_block (a := ⟨w.heap.size, 2, none⟩) (Below.heap_setCell w3 ⟨L, 0, none⟩ _ _ hn)).trans x2⟩
  have hs1h := HS1.out
  clear hwb
  refine wp_region_noPanic ?_
  refine wp_region_held_drew (S := (fun w' : World => w'.cell? ⟨w.heap.size, 0, none⟩ = some (.int .i64 c.k) ∧ w'.cell? ⟨w.heap.size, 1, none⟩ = some (.string c.s) ∧ w'.cell? ⟨w.heap.size, 2, none⟩ = some (.int .i64 c.n))) (by kernel_rfl) (hs1h) (fun hSd => ?_)
  clear hs1h
  refine wpAnyH_take (i := 0) (oi := _) (v := ?_) rfl (by kernel_rfl) (by kernel_rfl) (by kernel_rfl) (fun _ _ _ h => h) (Or.inl ⟨by rfl, ?_⟩) (by assumption) ?_
  rotate_left
  · (intro w' hSw; (try dsimp only at hSw); go_simp; try with_reducible rfl)
  (try simp only [Act.put, List.setIfInBounds_toArray, List.set_cons_zero, List.set_cons_succ])
  refine wpAnyH_take (i := 1) (oi := _) (v := ?_) rfl (by kernel_rfl) (by kernel_rfl) (by kernel_rfl) (fun _ _ _ h => h) (Or.inl ⟨by rfl, ?_⟩) (by assumption) ?_
  rotate_left
  · (intro w' hSw; (try dsimp only at hSw); go_simp; try with_reducible rfl)
  (try simp only [Act.put, List.setIfInBounds_toArray, List.set_cons_zero, List.set_cons_succ])
  refine wpAnyH_take (i := 2) (oi := _) (v := ?_) rfl (by kernel_rfl) (by kernel_rfl) (by kernel_rfl) (fun _ _ _ h => h) (Or.inl ⟨by rfl, ?_⟩) (by assumption) ?_
  rotate_left
  · (intro w' hSw; (try dsimp only at hSw); go_simp; try with_reducible rfl)
  (try simp only [Act.put, List.setIfInBounds_toArray, List.set_cons_zero, List.set_cons_succ])
  refine wpAnyH_take (i := 3) (oi := _) (v := ?_) rfl (by kernel_rfl) (by kernel_rfl) (by kernel_rfl) (fun _ _ _ h => h) (Or.inl ⟨by rfl, ?_⟩) (by assumption) ?_
  rotate_left
  · (intro w' hSw; (try dsimp only at hSw); go_simp; try with_reducible rfl)
  (try simp only [Act.put, List.setIfInBounds_toArray, List.set_cons_zero, List.set_cons_succ])
  refine wpAnyH_take (i := 5) (oi := _) (v := ?_) rfl (by kernel_rfl) (by kernel_rfl) (by kernel_rfl) (fun _ _ _ h => h) (Or.inl ⟨by rfl, ?_⟩) (by assumption) ?_
  rotate_left
  · (intro w' hSw; (try dsimp only at hSw); go_simp; try with_reducible rfl)
  (try simp only [Act.put, List.setIfInBounds_toArray, List.set_cons_zero, List.set_cons_succ])
  refine wpAnyH_ready (rs := [4, 6]) (by kernel_rfl) (by simp) ?_
  refine AllReadyH.cons (o := _) rfl (fun K hK => ?_) ?_
  · go_simp
    refine hK.out _ _ HS1.out (fun hS3 => ?_)
    clear hK K
    (try simp only [Act.put, List.setIfInBounds_toArray, List.set_cons_zero, List.set_cons_succ])
    refine wpAnyH_ready (rs := [6]) (by kernel_rfl) (by simp) ?_
    refine AllReadyH.cons (o := _) rfl (fun K hK => ?_) AllReadyH.nil
    go_simp
    refine hK.out _ _ HS2.out (fun hS3 => ?_)
    clear hK K
    (try simp only [Act.put, List.setIfInBounds_toArray, List.set_cons_zero, List.set_cons_succ])
    refine wpAnyH_ready (rs := [7]) (by kernel_rfl) (by simp) ?_
    refine AllReadyH.cons (o := _) rfl (fun K hK => ?_) AllReadyH.nil
    (rw [if_pos (by rfl)]; simp [Oper.wp, execOp, resolve, invoke, builtin, Oper.upon, Act.eval, hrun, hrunB, Result.andThen, Sem.run_bind])
    refine hK.out _ _ HS3.out (fun hS3 => ?_)
    clear hK K
    (try simp only [Act.put, List.setIfInBounds_toArray, List.set_cons_zero, List.set_cons_succ])
    refine wpAnyH_ready (rs := [8]) (by kernel_rfl) (by simp) ?_
    refine AllReadyH.cons (o := _) rfl (fun K hK => ?_) AllReadyH.nil
    go_simp
    refine hK.out _ _ HS3.out (fun hS3 => ?_)
    clear hK K
    (try simp only [Act.put, List.setIfInBounds_toArray, List.set_cons_zero, List.set_cons_succ])
    refine wpAnyH_ready (rs := [9]) (by kernel_rfl) (by simp) ?_
    refine AllReadyH.cons (o := _) rfl (fun K hK => ?_) AllReadyH.nil
    go_simp
    refine hK.out _ _ HS3.out (fun hS3 => ?_)
    clear hK K
    (try simp only [Act.put, List.setIfInBounds_toArray, List.set_cons_zero, List.set_cons_succ])
    refine wpAnyH_ready (rs := [10]) (by kernel_rfl) (by simp) ?_
    refine AllReadyH.cons (o := _) rfl (fun K hK => ?_) AllReadyH.nil
    go_simp
    refine hK.out _ _ HS4.out (fun hS3 => ?_)
    clear hK K
    (try simp only [Act.put, List.setIfInBounds_toArray, List.set_cons_zero, List.set_cons_succ])
    refine wpAnyH_done (by kernel_rfl) (NoPanic.normal ?_) _
    clear c0 c0b c0c hrun hrunB HS1 HS2 HS3 HS4
    generalize hW5 : (w3.setCell ⟨L, 0, none⟩ (.slice a3 (xs.length + 1) c3)) = W5 at *
    clear hW5
    go_wp2_with fail
    go_ret
    exact ⟨ret_int (by first | rfl | omega), _, HM4.out, (Fr.of HB1.out).trans ((Fr.of (Below.refl _ W).drew).trans HB4.out.1), HWN.out HB4.out.2⟩
  · refine AllReadyH.cons (o := _) rfl (fun K hK => ?_) AllReadyH.nil
    go_simp
    refine hK.out _ _ HS2.out (fun hS3 => ?_)
    clear hK K
    (try simp only [Act.put, List.setIfInBounds_toArray, List.set_cons_zero, List.set_cons_succ])
    refine wpAnyH_ready (rs := [4]) (by kernel_rfl) (by simp) ?_
    refine AllReadyH.cons (o := _) rfl (fun K hK => ?_) AllReadyH.nil
    go_simp
    refine hK.out _ _ HS2.out (fun hS3 => ?_)
    clear hK K
    (try simp only [Act.put, List.setIfInBounds_toArray, List.set_cons_zero, List.set_cons_succ])
    refine wpAnyH_ready (rs := [7]) (by kernel_rfl) (by simp) ?_
    refine AllReadyH.cons (o := _) rfl (fun K hK => ?_) AllReadyH.nil
    (rw [if_pos (by rfl)]; simp [Oper.wp, execOp, resolve, invoke, builtin, Oper.upon, Act.eval, hrun, hrunB, Result.andThen, Sem.run_bind])
    refine hK.out _ _ HS3.out (fun hS3 => ?_)
    clear hK K
    (try simp only [Act.put, List.setIfInBounds_toArray, List.set_cons_zero, List.set_cons_succ])
    refine wpAnyH_ready (rs := [8]) (by kernel_rfl) (by simp) ?_
    refine AllReadyH.cons (o := _) rfl (fun K hK => ?_) AllReadyH.nil
    go_simp
    refine hK.out _ _ HS3.out (fun hS3 => ?_)
    clear hK K
    (try simp only [Act.put, List.setIfInBounds_toArray, List.set_cons_zero, List.set_cons_succ])
    refine wpAnyH_ready (rs := [9]) (by kernel_rfl) (by simp) ?_
    refine AllReadyH.cons (o := _) rfl (fun K hK => ?_) AllReadyH.nil
    go_simp
    refine hK.out _ _ HS3.out (fun hS3 => ?_)
    clear hK K
    (try simp only [Act.put, List.setIfInBounds_toArray, List.set_cons_zero, List.set_cons_succ])
    refine wpAnyH_ready (rs := [10]) (by kernel_rfl) (by simp) ?_
    refine AllReadyH.cons (o := _) rfl (fun K hK => ?_) AllReadyH.nil
    go_simp
    refine hK.out _ _ HS4.out (fun hS3 => ?_)
    clear hK K
    (try simp only [Act.put, List.setIfInBounds_toArray, List.set_cons_zero, List.set_cons_succ])
    refine wpAnyH_done (by kernel_rfl) (NoPanic.normal ?_) _
    clear c0 c0b c0c hrun hrunB HS1 HS2 HS3 HS4
    generalize hW5 : (w3.setCell ⟨L, 0, none⟩ (.slice a3 (xs.length + 1) c3)) = W5 at *
    clear hW5
    go_wp2_with fail
    go_ret
    exact ⟨ret_int (by first | rfl | omega), _, HM4.out, (Fr.of HB1.out).trans ((Fr.of (Below.refl _ W).drew).trans HB4.out.1), HWN.out HB4.out.2⟩
end Go.Proofs.Ytefnmjoapmnkbaa
set_option linter.unusedVariables false
namespace Go.Proofs.Ytefnmjoapmnkbaa
open Go.RowKit

/-! ### rows that are set in place -/
theorem own_setH {w : World} {B e size n g cap : Nat} {xs : List Value} (h : w.ownsRow B e size (.slice (some ⟨g, 0, none⟩) n cap) n xs) {j : Nat} (hj : j < n * size) (u : Value) : (w.setCell ⟨g, j, none⟩ u).ownsRow B e size (.slice (some ⟨g, 0, none⟩) n cap) n (xs.set j u) := by
  obtain ⟨h1, h2⟩ := h
  refine ⟨by rw [List.length_set]; exact h1, ?_⟩
  rcases h2 with ⟨h0, _⟩ | ⟨g', cap', cur, hv, hb, hg, hn, hm, hs, ht⟩
  · cases h0
  · cases hv
    refine .inr ⟨g, cap, cur.set! j u, rfl, hb, ?_, hn, hm, by simp [hs], ?_⟩
    · simp only [World.setCell, Array.getElem?_modify, if_true, hg, Option.map_some]
      simp
    · rw [← ht, show (cur.set! j u).toList = cur.toList.set j u by simp, List.take_set]
theorem own_frozenH {w : World} {B e size n g cap : Nat} {xs : List Value} (h : w.ownsRow B e size (.slice (some ⟨g, 0, none⟩) n cap) n xs) (k : Nat) : w.frozen? ⟨g, k, none⟩ = false := by
  rcases h.2 with ⟨h0, _⟩ | ⟨g', cap', cur, hv, hb, hg, _⟩
  · cases h0
  · cases hv
    simp [World.frozen?, hg]
theorem flat_setN (xs : List Cel) {k : Nat} (hk : k < xs.length) (v : Int) : (flat xs).set (k * 3 + 2) (.int .i64 v) = flat (xs.set k ⟨xs[k].k, xs[k].s, v⟩) := by
  induction xs generalizing k with
  | nil => simp at hk
  | cons c xs ih =>
    cases k with
    | zero => simp [flat]
    | succ k =>
      have := ih (k := k) (by simpa using hk)
      rw [show (k + 1) * 3 + 2 = (k * 3 + 2) + 3 by omega]
      simp only [flat, List.flatMap_cons, List.set_cons_succ, List.getElem_cons_succ] at this ⊢
      simp only [List.cons_append, List.nil_append, List.set_cons_succ, this]
section
variable {w : World} {B e g cap : Nat} {ps : List Int} {xs : List Cel} {va : Value}
theorem AccInv.setI (h : AccInv B e ps (.slice (some ⟨g, 0, none⟩) ps.length cap) w) {k : Nat} (hk : k < ps.length) {v : Int} (h1 : -9223372036854775808 ≤ v) (h2 : v ≤ 9223372036854775807) : AccInv B e (ps.set k v) (.slice (some ⟨g, 0, none⟩) ps.length cap) (w.setCell ⟨g, k, none⟩ (.int .i64 v)) := by
  obtain ⟨vs, ho, hc⟩ := h.ex
  obtain ⟨rfl, hf⟩ := crows_int hc
  have := own_setH ho (j := k) (by show k < ps.length * 1; omega) (.int .i64 v)
  rw [show (ps.map (Value.int .i64)).set k (.int .i64 v) = (ps.set k v).map (Value.int .i64) by rw [List.map_set]] at this
  refine ⟨_, by rw [List.length_set]; exact this, crows_ints _ fun n hn => ?_⟩
  rcases List.mem_or_eq_of_mem_set hn with hn | rfl
  · exact hf n hn
  · exact ⟨h1, h2⟩
theorem AccInv.setN (h : AccInv B e xs (.slice (some ⟨g, 0, none⟩) xs.length cap) w) {k : Nat} (hk : k < xs.length) {v : Int} (h1 : -9223372036854775808 ≤ v) (h2 : v ≤ 9223372036854775807) : AccInv B e (xs.set k ⟨xs[k].k, xs[k].s, v⟩) (.slice (some ⟨g, 0, none⟩) xs.length cap) (w.setCell ⟨g, k * 3 + 2, none⟩ (.int .i64 v)) := by
  obtain ⟨vs, ho, hc⟩ := h.ex
  obtain ⟨rfl, hf⟩ := crows_celH hc
  have := own_setH ho (j := k * 3 + 2) (by show k * 3 + 2 < xs.length * 3; omega) (.int .i64 v)
  rw [flat_setN xs hk] at this
  refine ⟨_, by rw [List.length_set]; exact this, crows_flat _ fun n hn => ?_⟩
  rcases List.mem_or_eq_of_mem_set hn with hn | rfl
  · exact hf n hn
  · have := hf xs[k] (List.getElem_mem hk)
    exact ⟨this.k1, this.k2, h1, h2, this.s⟩
theorem AccInv.atI (h : AccInv B e ps va w) (hp : 0 < ps.length) : ∃ g cap, va = .slice (some ⟨g, 0, none⟩) ps.length cap ∧ (∀ k, w.frozen? ⟨g, k, none⟩ = false) ∧ ∀ (k : Nat) (hk : k < ps.length), w.cell? ⟨g, k, none⟩ = some (.int .i64 ps[k]) := by
  obtain ⟨a, c, rfl, hr⟩ := h.row
  obtain ⟨vs, ho, hc⟩ := h.ex
  rcases nil_or_snoc ps with rfl | ⟨s, y, rfl⟩
  · simp at hp
  · obtain ⟨g, cap, e1, _⟩ := h.someI
    have e2 : Value.slice a (s ++ [y]).length c = .slice (some ⟨g, 0, none⟩) (s ++ [y]).length cap := by rw [e1]; simp
    cases e2
    refine ⟨g, c, rfl, own_frozenH ho, fun k hk => ?_⟩
    obtain ⟨b, o, e3, hE⟩ := hr.at_ k _ (List.getElem?_eq_getElem hk)
    cases e3
    have := hE.c
    simpa [show Rep.sz Int = 1 from rfl] using this
theorem AccInv.atC (h : AccInv B e xs va w) (hp : 0 < xs.length) : ∃ g cap, va = .slice (some ⟨g, 0, none⟩) xs.length cap ∧ (∀ k, w.frozen? ⟨g, k, none⟩ = false) ∧ ∀ (k : Nat) (hk : k < xs.length), w.cell? ⟨g, k * 3, none⟩ = some (.int .i64 xs[k].k) ∧ w.cell? ⟨g, k * 3 + 1, none⟩ = some (.string xs[k].s) ∧ w.cell? ⟨g, k * 3 + 2, none⟩ = some (.int .i64 xs[k].n) := by
  obtain ⟨a, c, rfl, hr⟩ := h.row
  obtain ⟨vs, ho, hc⟩ := h.ex
  have hx : ∃ g, a = some ⟨g, 0, none⟩ := by
    rcases ho.2 with ⟨e1, hn⟩ | ⟨g, cap, cur, e1, _⟩
    · omega
    · cases e1; exact ⟨g, rfl⟩
  obtain ⟨g, rfl⟩ := hx
  refine ⟨g, c, rfl, own_frozenH ho, fun k hk => ?_⟩
  obtain ⟨b, o, e3, c0, c1, c2, hf⟩ := hr.at_ k _ (List.getElem?_eq_getElem hk)
  cases e3
  rw [show Rep.sz Cel = 3 from rfl, Nat.zero_add] at c0 c1 c2
  exact ⟨c0, c1, c2⟩
end
/-- the slot of an argument, and where variables stand behind it -/
def slotM (n : Nat) (ps : List Int) (c : Cel) : Cel × List Int :=
  if c.k = 1 then (if ps.getD c.n.toNat 0 = -1 then (⟨1, ⟨#[]⟩, (n : Int)⟩, ps.set c.n.toNat (n : Int)) else (⟨1, ⟨#[]⟩, ps.getD c.n.toNat 0⟩, ps))
  else if c.k = 2 then (⟨2, ⟨#[]⟩, c.n⟩, ps) else (⟨3, ⟨#[]⟩, 0⟩, ps)
def SlotPost (w : World) (B L : Nat) (vc va : Value) (xs : List Cel) (ps : List Int) (c : Cel) (e : Ending) (W' : World) : Prop :=
  e = .returned (slotM xs.length ps c).1.v ∧ LM W' B L vc va xs (slotM xs.length ps c).2 ∧ Fr (lB L vc va) w W'
/-- a place of the row of places is set -/
theorem LM.setP {W : World} {B L g cap : Nat} {vc : Value} {xs : List Cel} {ps : List Int} (h : LM W B L vc (.slice (some ⟨g, 0, none⟩) ps.length cap) xs ps) {k : Nat} (hk : k < ps.length) {v : Int} (h1 : -9223372036854775808 ≤ v) (h2 : v ≤ 9223372036854775807) :
    LM (W.setCell ⟨g, k, none⟩ (.int .i64 v)) B L vc (.slice (some ⟨g, 0, none⟩) ps.length cap) xs (ps.set k v) := by
  have hgL : g ≠ L := fun e => h.aL (by rw [← e]; rfl)
  refine ⟨(Below.heap_setCell W ⟨g, k, none⟩ _ L (fun e => hgL e.symm)).trans h.blk, h.cells.blockC fun b hb => Below.heap_setCell W ⟨g, k, none⟩ _ b (fun e => h.ca b hb (by rw [show b = g from e]; rfl)), h.at_.setI hk h1 h2, h.cL, h.aL, h.ca, h.hB⟩
/-- a slot's number is set -/
theorem LM.setS {W : World} {B L g cap : Nat} {va : Value} {xs : List Cel} {ps : List Int} (h : LM W B L (.slice (some ⟨g, 0, none⟩) xs.length cap) va xs ps) {k : Nat} (hk : k < xs.length) {v : Int} (h1 : -9223372036854775808 ≤ v) (h2 : v ≤ 9223372036854775807) :
    LM (W.setCell ⟨g, k * 3 + 2, none⟩ (.int .i64 v)) B L (.slice (some ⟨g, 0, none⟩) xs.length cap) va (xs.set k ⟨xs[k].k, xs[k].s, v⟩) ps := by
  have hgL : g ≠ L := fun e => h.cL (by rw [← e]; rfl)
  refine ⟨(Below.heap_setCell W ⟨g, k * 3 + 2, none⟩ _ L (fun e => hgL e.symm)).trans h.blk, h.cells.setN hk h1 h2, h.at_.blockI fun b hb => Below.heap_setCell W ⟨g, k * 3 + 2, none⟩ _ b (fun e => h.ca g rfl (by rw [hb, show b = g from e])), h.cL, h.aL, h.ca, h.hB⟩
end Go.Proofs.Ytefnmjoapmnkbaa
