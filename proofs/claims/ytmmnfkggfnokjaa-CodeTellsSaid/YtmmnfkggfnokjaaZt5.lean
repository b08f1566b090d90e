import Derived.Test.YtmmnfkggfnokjaaZt4
import Derived.Deep.RegionHeld3
import Derived.ArgAppend
import Derived.Deep.LoopGhost
import Derived.OrdersHeld
set_option linter.unusedVariables false
namespace Go.Proofs.Ytmmnfkggfnokjaa
open Go.RowKit
def getM (funs : Int → Bool) (c0 : Cel) (l : List Ins) : Cel × (List (Cel × Bool) × List Ins × Bool) :=
  if (nextI l).op = 1 ∨ (nextI l).op = 2 then (varI (nextI l), ([], l.tail, false))
  else if (nextI l).op = 3 then (intI (nextI l), ([], l.tail, false))
  else if (nextI l).op = 4 then (funI (nextI l), unisM funs (nextI l).n.toNat l.tail)
  else (c0, ([], l.tail, true))
theorem AccInv.baseN {α : Type} [RepC α] {B B' e : Nat} {v : Value} {acc : List α} {w : World} (h : AccInv B' e acc v w) (hB : B ≤ B') : AccInv B e acc v w :=
  let ⟨vs, ho, hc⟩ := h.ex
  ⟨vs, own_baseN ho hB, hc⟩
/-- nothing is still to be told of it -/
theorem UTPost.none {W0 w W : World} {R fm bm : Nat} {S : TS} {kv kv' : Nat → Value} {p : Nat} {c c' : Cel} {l : List Ins} {bad : Bool} {H' : Nat → Option NdS} (hp : S.H p = some ⟨c, []⟩) (hw : TW W0 w R fm bm S kv) (ht : Tr W0 w R fm bm S kv W { S with rest := l, bad := bad, H := H' } kv') (h1 : H' p = some ⟨c', []⟩) (h2 : ∀ b, b ≠ p → H' b = S.H b) : UTPost W0 w R fm bm S kv p c' ([], l, bad) (.returned (.slice none 0 0)) W := by
  have hpl := (hw.ownB p (.inr (.inr (.inr (.inl ⟨_, hp⟩))))).2
  exact ⟨[], _, kv', H', rfl, ht.tw, ⟨h1, rfl, fun k q hq => by simp at hq, fun b hb _ => h2 b hb, fun q hq => (by cases hq), hpl, List.nodup_nil⟩, by simp only [List.map_nil, opensOf]; exact AccInv.nil _ _ _, fun b hb => (by cases hb), ht.fr, ht.new⟩
set_option maxRecDepth 100000 in
set_option maxHeartbeats 6400000 in
theorem tget_any (W0 w : World) (R fm bm : Nat) (S : TS) (kv : Nat → Value) (hT : TW W0 w R fm bm S kv) (p : Nat) (c : Cel) (hp : S.H p = some ⟨c, []⟩) (hbad : S.bad = false) :
    Calls Try.prog 194 #[.pointer (some ⟨R, 0, none⟩), .pointer (some ⟨p, 0, none⟩)] w (UTPost W0 w R fm bm S kv p (getM S.funs c S.rest).1 (getM S.funs c S.rest).2) := by
  have HT := mkHid hT
  have HP := mkHid hp
  have HIF := mkHid (nextI_fit hT)
  have HBD := mkHid hbad
  clear hT hp hbad
  go_enter Try.func194, Try.ntmps194
  go_wp2_with fail
  refine (next_any W0 w R fm bm S kv HT.out).mono ?_
  rintro e w4 ⟨rfl, kv4, hT4, hF4, hN4⟩
  have HT4 : Hid (Tr W0 w R fm bm S kv w4 { S with rest := S.rest.tail, bad := false, H := S.H } kv4) := by
    have e : ({ S with rest := S.rest.tail } : TS) = { S with rest := S.rest.tail, bad := false, H := S.H } := by have := HBD.out; cases S; simp_all
    rw [← e]
    exact ⟨hT4, hF4, hN4⟩
  clear hT4 hF4 hN4
  have HGM : Hid (getM S.funs c S.rest = if (nextI S.rest).op = 1 ∨ (nextI S.rest).op = 2 then (varI (nextI S.rest), ([], S.rest.tail, false)) else if (nextI S.rest).op = 3 then (intI (nextI S.rest), ([], S.rest.tail, false)) else if (nextI S.rest).op = 4 then (funI (nextI S.rest), unisM S.funs (nextI S.rest).n.toNat S.rest.tail) else (c, ([], S.rest.tail, true))) := rfl
  obtain ⟨i, hi⟩ : ∃ x, nextI S.rest = x := ⟨_, rfl⟩
  rw [hi] at HGM HIF ⊢
  clear hi
  obtain ⟨o1, o2, x1', x2', a1, a2, hsz, hn1, hn2⟩ := HIF.out
  have hb9 := (Below.refl w4.heap.size w4).new (.cells #[.int .i64 i.op, .int .i64 i.x, .int .i64 i.a, .string i.s, .int .i64 i.n, .bool i.neg] 90)
  have HT5 := mkHid (HT4.out.below hb9)
  clear hb9
  dsimp only [Ins.v]
  obtain ⟨io, ix, ia, is_, inn, ing⟩ := i
  dsimp only at o1 o2 x1' x2' a1 a2 hsz hn1 hn2 HT5 HGM ⊢
  by_cases h1 : io = 1
  · subst h1
    replace HGM : Hid (getM S.funs c S.rest = (⟨1, ⟨#[]⟩, ix⟩, ([], S.rest.tail, false))) := by have h := HGM.out; rw [Hid]; simpa [varI] using h
    go_wp2_with fail
    refine (varC_any _ ⟨1, ix, ia, is_, inn, ing⟩).mono ?_
    rintro e w5 ⟨rfl, hb5⟩
    have HT6 := mkHid (HT5.out.below hb5)
    obtain ⟨q0, q1, q2, _, qf⟩ := HT6.out.tw.cN (p := p) HP.out
    have qf0 := qf 0
    have qf1 := qf 1
    have qf2 := qf 2
    have hcf : (⟨1, ⟨#[]⟩, ix⟩ : Cel).fit := celF (by omega) (by omega)
    have HT7 := mkHid (HT6.out.trans (Tr.of (HT6.out.tw.cellSet (p := p) HP.out hcf)))
    have HQ4 : Hid (w4.heap.size ≠ p) := by have h1 := (HT4.out.tw.ownB p (.inr (.inr (.inr (.inl ⟨_, HP.out⟩))))).2; rw [Hid]; omega
    have HB5 := mkHid hb5
    clear hb5 qf hcf HT6
    go_wp2_with fail
    go_ret
    rw [HGM.out]
    exact UTPost.none HP.out HT.out HT7.out (updH_at _ _ _) (fun b hb => updH_ne _ hb)
  · by_cases h2 : io = 2
    · subst h2
      replace HGM : Hid (getM S.funs c S.rest = (⟨1, ⟨#[]⟩, ix⟩, ([], S.rest.tail, false))) := by have h := HGM.out; rw [Hid]; simpa [varI] using h
      go_wp2_with fail
      refine (varC_any _ ⟨2, ix, ia, is_, inn, ing⟩).mono ?_
      rintro e w5 ⟨rfl, hb5⟩
      have HT6 := mkHid (HT5.out.below hb5)
      obtain ⟨q0, q1, q2, _, qf⟩ := HT6.out.tw.cN (p := p) HP.out
      have qf0 := qf 0
      have qf1 := qf 1
      have qf2 := qf 2
      have hcf : (⟨1, ⟨#[]⟩, ix⟩ : Cel).fit := celF (by omega) (by omega)
      have HT7 := mkHid (HT6.out.trans (Tr.of (HT6.out.tw.cellSet (p := p) HP.out hcf)))
      have HQ4 : Hid (w4.heap.size ≠ p) := by have h1 := (HT4.out.tw.ownB p (.inr (.inr (.inr (.inl ⟨_, HP.out⟩))))).2; rw [Hid]; omega
      have HB5 := mkHid hb5
      clear hb5 qf hcf HT6
      go_wp2_with fail
      go_ret
      rw [HGM.out]
      exact UTPost.none HP.out HT.out HT7.out (updH_at _ _ _) (fun b hb => updH_ne _ hb)
    · by_cases h3 : io = 3
      · subst h3
        replace HGM : Hid (getM S.funs c S.rest = (⟨2, ⟨#[]⟩, inn⟩, ([], S.rest.tail, false))) := by have h := HGM.out; rw [Hid]; simpa [intI] using h
        go_wp2_with fail
        refine (intC_any _ ⟨3, ix, ia, is_, inn, ing⟩).mono ?_
        rintro e w5 ⟨rfl, hb5⟩
        have HT6 := mkHid (HT5.out.below hb5)
        obtain ⟨q0, q1, q2, _, qf⟩ := HT6.out.tw.cN (p := p) HP.out
        have qf0 := qf 0
        have qf1 := qf 1
        have qf2 := qf 2
        have hcf : (⟨2, ⟨#[]⟩, inn⟩ : Cel).fit := celF (by omega) (by omega)
        have HT7 := mkHid (HT6.out.trans (Tr.of (HT6.out.tw.cellSet (p := p) HP.out hcf)))
        have HQ4 : Hid (w4.heap.size ≠ p) := by have h1 := (HT4.out.tw.ownB p (.inr (.inr (.inr (.inl ⟨_, HP.out⟩))))).2; rw [Hid]; omega
        have HB5 := mkHid hb5
        clear hb5 qf hcf HT6
        go_wp2_with fail
        go_ret
        rw [HGM.out]
        exact UTPost.none HP.out HT.out HT7.out (updH_at _ _ _) (fun b hb => updH_ne _ hb)
      · by_cases h4 : io = 4
        · subst h4
          replace HGM : Hid (getM S.funs c S.rest = (⟨3, is_, inn⟩, unisM S.funs inn.toNat S.rest.tail)) := by have h := HGM.out; rw [Hid]; simpa [funI] using h
          go_wp2_with fail
          refine (funC_any _ ⟨4, ix, ia, is_, inn, ing⟩).mono ?_
          rintro e w5 ⟨rfl, hb5⟩
          have HT6 := mkHid (HT5.out.below hb5)
          obtain ⟨q0, q1, q2, _, qf⟩ := HT6.out.tw.cN (p := p) HP.out
          have qf0 := qf 0
          have qf1 := qf 1
          have qf2 := qf 2
          have hcf : (⟨3, is_, inn⟩ : Cel).fit := ⟨by show _ ≤ (3 : Int); omega, by show (3 : Int) ≤ _; omega, hn1, hn2, hsz⟩
          have HT7 := mkHid (HT6.out.trans (Tr.of (HT6.out.tw.cellSet (p := p) HP.out hcf)))
          have HQ4 : Hid (w4.heap.size ≠ p) := by have h1 := (HT4.out.tw.ownB p (.inr (.inr (.inr (.inl ⟨_, HP.out⟩))))).2; rw [Hid]; omega
          have HB5 := mkHid hb5
          clear hb5 qf hcf HT6
          have bx : w5.cell? ⟨w4.heap.size, 4, none⟩ = some (.int .i64 inn) := keep (World.cell?_alloc_at _ _ w4.heap.size 4 rfl) HB5.out
          have hbz : w4.heap.size < w5.heap.size := by have := HB5.out.size; simp at this; omega
          have hq4 : ¬ w4.heap.size = p := HQ4.out
          go_wp2_with fail
          obtain ⟨w7, hW7⟩ : ∃ V, (((w5.setCell ⟨p, 0, none⟩ (.int .i64 3)).setCell ⟨p, 1, none⟩ (.string is_)).setCell ⟨p, 2, none⟩ (.int .i64 inn)) = V := ⟨_, rfl⟩
          have hT7 := HT7.out
          try dsimp only at hT7
          rw [hW7] at hT7 ⊢
          have HT8 := mkHid hT7
          clear hW7 hT7 q0 q1 q2 qf0 qf1 qf2 HT7
          refine (tunify_any W0 w7 R fm bm _ _ HT8.out.tw p ⟨3, is_, inn⟩ (updH_at _ _ _) inn hn1 hn2 rfl).mono ?_
          rintro e w9 ⟨qs, vo, kv9, H9, rfl, hT9, hk9, ho9, hf9, hF9, hN9⟩
          have hT := HT8.out.trans ⟨hT9, hF9, hN9⟩
          have HPP : Hid (UTPost W0 w R fm bm S kv p ⟨3, is_, inn⟩ (unisM S.funs inn.toNat S.rest.tail) (.returned vo) w9) := by
            have hpl := (HT.out.ownB p (.inr (.inr (.inr (.inl ⟨_, HP.out⟩))))).2
            have hs := HT8.out.fr.size
            exact ⟨qs, vo, kv9, H9, rfl, hT.tw, ⟨hk9.at_, hk9.len, hk9.leaf, fun b h1 h2 => (hk9.other b h1 h2).trans (updH_ne _ h1), fun q hq => Nat.le_trans hs (hk9.new q hq), hpl, hk9.nodup⟩, ho9.baseN hs, hf9, hT.fr, hT.new⟩
          clear hT9 hk9 ho9 hf9 hF9 hN9 hT
          go_wp2_with fail
          go_ret
          rw [HGM.out]
          exact HPP.out
        · replace HGM : Hid (getM S.funs c S.rest = (c, ([], S.rest.tail, true))) := by have h := HGM.out; rw [Hid]; simpa [h1, h2, h3, h4] using h
          have t1 : (io == 1) = false := by simp [h1]
          have t2 : (io == 2) = false := by simp [h2]
          have t3 : (io == 3) = false := by simp [h3]
          have t4 : (io == 4) = false := by simp [h4]
          obtain ⟨_, _, _, _, _, r3, tf, _⟩ := HT5.out.tw.cR
          have tf3 := tf 3
          have HT7 := mkHid (HT5.out.trans (Tr.of HT5.out.tw.setBad))
          clear h1 h2 h3 h4 tf
          go_wp2_with fail
          go_ret
          rw [HGM.out]
          exact UTPost.none HP.out HT.out HT7.out HP.out (fun b hb => rfl)
end Go.Proofs.Ytmmnfkggfnokjaa
set_option linter.unusedVariables false
namespace Go.Proofs.Ytmmnfkggfnokjaa
open Go.RowKit
mutual
/-- the tree at a node -/
inductive TrH (H : Nat → Option NdS) : Nat → Tm → Prop where
  | mk {p : Nat} {c : Cel} {ks : List PtN} {ts : List Tm} (h : H p = some ⟨c, ks⟩) (hs : TrHs H ks ts) : TrH H p (.mk c ts)
inductive TrHs (H : Nat → Option NdS) : List PtN → List Tm → Prop where
  | nil : TrHs H [] []
  | cons {k : PtN} {ks : List PtN} {t : Tm} {ts : List Tm} (h : TrH H k.p t) (hs : TrHs H ks ts) : TrHs H (k :: ks) (t :: ts)
end
theorem TrHs.length {H : Nat → Option NdS} : ∀ {ks : List PtN} {ts : List Tm}, TrHs H ks ts → ks.length = ts.length
  | _, _, .nil => rfl
  | _, _, .cons _ hs => by simp [hs.length]
theorem TrHs.at_ {H : Nat → Option NdS} : ∀ {ks : List PtN} {ts : List Tm} (_ : TrHs H ks ts) (k : Nat) (h1 : k < ks.length) (h2 : k < ts.length), TrH H ks[k].p ts[k]
  | _, _, .cons h hs, 0, _, _ => h
  | _, _, .cons h hs, k + 1, h1, h2 => hs.at_ k (by simpa using h1) (by simpa using h2)
/-- cells while they are laid -/
structure CM (w : World) (acc : List Cel) (v : Value) (W : World) : Prop where
  fr : Below w.heap.size w W
  bx : W.heap[w.heap.size]? = some (.cells #[v] 22 (0, 0))
  c3 : W.cell? ⟨w.heap.size + 1, 0, none⟩ = some (.func (.func 219) #[] #[.pointer (some ⟨w.heap.size, 0, none⟩), .pointer (some ⟨w.heap.size + 1, 0, none⟩)])
  acc : AccInv (w.heap.size + 2) 79 acc v W
section
variable {w W W' w3 : World} {acc : List Cel} {v v' : Value} {c : Cel}
theorem CM.calm (h : CM w acc v W) (hb : Below W.heap.size W W') : CM w acc v W' := by
  have h3 := cell_lt h.c3
  exact ⟨h.fr.then hb, (hb.block _ (by omega)).trans h.bx, keep h.c3 hb, h.acc.below hb⟩
theorem CM.c2 (h : CM w acc v W) : W.cell? ⟨w.heap.size, 0, none⟩ = some v := by
  rw [cell_of_row W _ 0 _ _ _ h.bx]; rfl
theorem CM.push (h : CM w acc v W) {T : Nat} {cs : Array Value} (ha : AccInv (w.heap.size + 2) 79 (acc ++ [c]) v' w3) (hg : (W.alloc (.cells cs T)).grownBy w3 v.ownBlock) (hw : v'.ownBlock = v.ownBlock ∨ v'.ownBlock = some (W.heap.size + 1)) :
    CM w (acc ++ [c]) v' (w3.setCell ⟨w.heap.size, 0, none⟩ v') ∧ w3.cell? ⟨w.heap.size, 0, none⟩ = some v ∧ w3.frozen? ⟨w.heap.size, 0, none⟩ = false ∧ (∀ k, k < w.heap.size → w3.heap[k]? = W.heap[k]?) := by
  have h3 := cell_lt h.c3
  have hvo : ∀ b, v.ownBlock = some b → w.heap.size + 2 ≤ b := fun b hb => (h.acc.lt b hb).1
  have hold : ∀ k, k < w.heap.size + 2 → k < W.heap.size → w3.heap[k]? = W.heap[k]? := fun k hk hkl =>
    (hg.block k (by simp; omega) (fun e => by have := hvo k e.symm; omega)).trans (heap_alloc_old W _ hkl)
  have e2 := hold w.heap.size (by omega) (by omega)
  have hv'n : v'.ownBlock ≠ some w.heap.size := by
    rcases hw with e | e
    · intro e2; rw [e] at e2; have := hvo _ e2; omega
    · rw [e]; intro e2; injection e2 with e2; omega
  refine ⟨⟨?_, ?_, ?_, ha.blockN (fun h => h) fun b hb => Below.heap_setCell w3 ⟨w.heap.size, 0, none⟩ _ b (fun e => hv'n (by rw [hb, show b = w.heap.size from e]))⟩, (World.cell?_of_block e2).trans h.c2, ?_, fun k hk => hold k (by omega) (by omega)⟩
  · refine h.fr.trans ⟨hg.os, hg.tape, hg.output, by have := hg.size; simp [World.setCell] at this ⊢; omega, fun k hk => ?_⟩
    rw [Below.heap_setCell w3 ⟨w.heap.size, 0, none⟩ _ k (by show k ≠ w.heap.size; omega)]
    exact hold k (by omega) (by omega)
  · have hb := e2.trans h.bx
    simp only [World.setCell, Array.getElem?_modify, if_true, hb, Option.map_some]
    simp
  · have := (World.cell?_of_block (a := ⟨w.heap.size + 1, 0, none⟩) (hold (w.heap.size + 1) (by omega) h3)).trans h.c3
    rw [World.cell?_setCell_other _ _ _ _ (by intro e; simp at e)]; exact this
  · have : W.frozen? ⟨w.heap.size, 0, none⟩ = false := by
      have := h.bx
      simp [World.frozen?, this]
    exact (World.frozen?_of_block e2).trans this
end
def CPost (w : World) (acc : List Cel) (e : Ending) (W' : World) : Prop := e = .returned (.tuple #[]) ∧ ∃ v', CM w acc v' W'
theorem flats_next {ts : List Tm} {k : Nat} (hk : k < ts.length) : flats (ts.take (k + 1)) = flats (ts.take k) ++ ts[k].flat := by
  rw [List.take_succ_eq_append_getElem hk, flats_append]; simp [flats]
theorem flats_len_ge : ∀ ts : List Tm, ts.length ≤ (flats ts).length
  | [] => by simp
  | t :: ts => by have := flat_pos t; have := flats_len_ge ts; simp only [flats, List.length_append, List.length_cons]; omega
set_option maxRecDepth 100000 in
set_option maxHeartbeats 6400000 in
theorem cells1_any (W0 w : World) (R fm bm : Nat) (S : TS) (kv : Nat → Value) (hT : TW W0 w R fm bm S kv) : ∀ (n : Nat) (t : Tm) (p : Nat) (acc : List Cel) (v : Value) (W : World), t.flat.length ≤ n → TrH S.H p t → acc.length + t.flat.length ≤ 900000000 → CM w acc v W →
    Calls Try.prog 219 #[.pointer (some ⟨p, 0, none⟩), .pointer (some ⟨w.heap.size, 0, none⟩), .pointer (some ⟨w.heap.size + 1, 0, none⟩)] W (CPost w (acc ++ t.flat)) := by
  intro n
  induction n with
  | zero => intro t p acc v W h; have := flat_pos t; omega
  | succ n ih =>
    intro t p acc v W hn hH hl hM
    obtain ⟨va, vc, rfl, hvr⟩ := hM.acc.row
    have hvm := hvr.max
    have hvl := hvr.le
    have IH := mkHid ih
    have HT := mkHid hT
    cases hH with
    | @mk _ c ks ts hp hks =>
      have HP := mkHid hp
      have HKS := mkHid hks
      have hlk := hks.length
      have HLK := mkHid hlk
      have hfl : (Tm.mk c ts).flat.length = (flats ts).length + 1 := by simp [Tm.flat]
      have HFE : Hid ((Tm.mk c ts).flat = c :: flats ts) := rfl
      have hn' : (flats ts).length + 1 ≤ n + 1 := by omega
      have hl' : acc.length + (flats ts).length + 1 ≤ 900000000 := by omega
      have hM1 : CM w acc (.slice va acc.length vc) W.drew := hM.calm (Below.refl _ _).drew
      have hTW := hT.below hM1.fr
      obtain ⟨n0, n1, n2, n3, nfz⟩ := hTW.cN hp
      have hfit := (hTW.nd p _ hp).2.1
      have hpw := (hT.ownB p (.inr (.inr (.inr (.inl ⟨_, hp⟩))))).2
      dsimp only at n0 n1 n2 n3 hfit
      obtain ⟨ka, kc, hkv, hk1, hk2⟩ := hTW.kid_lit hp
      dsimp only at hkv hk1
      have HKV := mkHid hkv
      have c2d := hM1.c2
      obtain ⟨v', w3, hrun, ha3, hg3, hw3⟩ := AccInv.run_pushN (P := Try.prog) (w := W.drew) 22 22 (w.heap.size + 2) 79 32 (.agg #[.int .i64 0, .string ⟨#[]⟩, .int .i64 0]) Try.underlying22 Try.infoCell rfl (by decide) _ acc hM1.acc 79 #[.int .i64 c.k, .string c.s, .int .i64 c.n] c ⟨rfl, hfit⟩ (by omega) (by have := cell_lt hM1.c3; omega)
      obtain ⟨a3, m9, c3, rfl⟩ := slice_ofN ha3
      obtain ⟨hM4, k1, k2, k3⟩ := hM1.push ha3 hg3 hw3
      have HM4 := mkHid hM4
      have hblk : ∀ X : World, (∀ k, k < w.heap.size → X.heap[k]? = W.drew.heap[k]?) → X.cell? ⟨p, 0, none⟩ = some (.int .i64 c.k) ∧ X.cell? ⟨p, 1, none⟩ = some (.string c.s) ∧ X.cell? ⟨p, 2, none⟩ = some (.int .i64 c.n) := fun X h =>
        ⟨(World.cell?_of_block (w := W.drew) (a := ⟨p, 0, none⟩) (h p hpw)).trans n0, (World.cell?_of_block (w := W.drew) (a := ⟨p, 1, none⟩) (h p hpw)).trans n1, (World.cell?_of_block (w := W.drew) (a := ⟨p, 2, none⟩) (h p hpw)).trans n2⟩
      have hsz : w.heap.size ≤ W.heap.size := hM.fr.size
      have HS1 := mkHid (hblk W.drew (fun _ _ => rfl))
      have HS2 := mkHid (hblk (W.drew.alloc (.cells #[.int .i64 c.k, .string c.s, .int .i64 c.n] 79)) (fun k hk => heap_alloc_old W.drew _ (Nat.lt_of_lt_of_le hk hsz)))
      have HS3 := mkHid (hblk w3 k3)
      have HS4 := mkHid (hblk (w3.setCell ⟨w.heap.size, 0, none⟩ (.slice a3 m9 c3)) (fun k hk => (Below.heap_setCell w3 ⟨w.heap.size, 0, none⟩ _ k (by show k ≠ w.heap.size; omega)).trans (k3 k hk)))
      have c2b : (W.drew.alloc (.cells #[.int .i64 c.k, .string c.s, .int .i64 c.n] 79)).cell? ⟨w.heap.size, 0, none⟩ = some (.slice va acc.length vc) := keep (w := W.drew) c2d ((Below.refl _ _).new _)
      have hrunB : (Builtin.append_ #[22, 22] 22 #[.slice va acc.length vc, .slice (some ⟨W.heap.size, 0, none⟩) 1 1]).run Try.prog (W.alloc (.cells #[.int .i64 c.k, .string c.s, .int .i64 c.n] 79)).drew = .ok (.slice a3 m9 c3) w3 := hrun
      have c2e : (W.alloc (.cells #[.int .i64 c.k, .string c.s, .int .i64 c.n] 79)).cell? ⟨w.heap.size, 0, none⟩ = some (.slice va acc.length vc) := c2b
      clear hM hM1 hTW hvr ih hp hks hT hlk hkv ha3 hg3 hw3 hM4 k3 hblk n0 n1 n2 n3 nfz hfl hn hl
      go_enter Try.func219, Try.ntmps219
      go_wp2_with fail
      refine wp_region_noPanic ?_
      refine wp_region_held_drew (S := fun X => X.cell? ⟨p, 0, none⟩ = some (.int .i64 c.k) ∧ X.cell? ⟨p, 1, none⟩ = some (.string c.s) ∧ X.cell? ⟨p, 2, none⟩ = some (.int .i64 c.n)) (by kernel_rfl) HS1.out (fun hSd => ?_)
      refine wpAnyH_take (i := 1) (oi := _) (v := ?_) rfl (by kernel_rfl) (by kernel_rfl) (by kernel_rfl) (fun _ _ _ h => h) (Or.inl ⟨by rfl, ?_⟩) (by assumption) ?_
      rotate_left
      · (intro w' hSw; obtain ⟨z0, z1, z2⟩ := hSw; go_simp; try with_reducible rfl)
      (try simp only [List.getElem_toArray, List.getElem_cons_succ, List.getElem_cons_zero, Act.put, List.setIfInBounds_toArray, List.set_cons_zero, List.set_cons_succ])
      refine wpAnyH_take (i := 2) (oi := _) (v := ?_) rfl (by kernel_rfl) (by kernel_rfl) (by kernel_rfl) (fun _ _ _ h => h) (Or.inl ⟨by rfl, ?_⟩) (by assumption) ?_
      rotate_left
      · (intro w' hSw; obtain ⟨z0, z1, z2⟩ := hSw; go_simp; try with_reducible rfl)
      (try simp only [List.getElem_toArray, List.getElem_cons_succ, List.getElem_cons_zero, Act.put, List.setIfInBounds_toArray, List.set_cons_zero, List.set_cons_succ])
      refine wpAnyH_take (i := 3) (oi := _) (v := ?_) rfl (by kernel_rfl) (by kernel_rfl) (by kernel_rfl) (fun _ _ _ h => h) (Or.inl ⟨by rfl, ?_⟩) (by assumption) ?_
      rotate_left
      · (intro w' hSw; obtain ⟨z0, z1, z2⟩ := hSw; go_simp; try with_reducible rfl)
      (try simp only [List.getElem_toArray, List.getElem_cons_succ, List.getElem_cons_zero, Act.put, List.setIfInBounds_toArray, List.set_cons_zero, List.set_cons_succ])
      refine wpAnyH_take (i := 4) (oi := _) (v := ?_) rfl (by kernel_rfl) (by kernel_rfl) (by kernel_rfl) (fun _ _ _ h => h) (Or.inl ⟨by rfl, ?_⟩) (by assumption) ?_
      rotate_left
      · (intro w' hSw; obtain ⟨z0, z1, z2⟩ := hSw; go_simp; try with_reducible rfl)
      (try simp only [List.getElem_toArray, List.getElem_cons_succ, List.getElem_cons_zero, Act.put, List.setIfInBounds_toArray, List.set_cons_zero, List.set_cons_succ])
      refine wpAnyH_ready (rs := [0, 5]) (by kernel_rfl) (by simp) ?_
      refine AllReadyH.cons (o := _) rfl (fun K hK => ?_) ?_
      · skip
        go_simp
        refine hK.out _ _ HS1.out (fun hS3 => ?_)
        clear hK K
        (try simp only [List.getElem_toArray, List.getElem_cons_succ, List.getElem_cons_zero, Act.put, List.setIfInBounds_toArray, List.set_cons_zero, List.set_cons_succ])
        refine wpAnyH_ready (rs := [5]) (by kernel_rfl) (by simp) ?_
        refine AllReadyH.cons (o := _) rfl (fun K hK => ?_) AllReadyH.nil
        go_simp
        refine hK.out _ _ HS2.out (fun hS3 => ?_)
        clear hK K
        (try simp only [List.getElem_toArray, List.getElem_cons_succ, List.getElem_cons_zero, Act.put, List.setIfInBounds_toArray, List.set_cons_zero, List.set_cons_succ])
        refine wpAnyH_ready (rs := [6]) (by kernel_rfl) (by simp) ?_
        refine AllReadyH.cons (o := _) rfl (fun K hK => ?_) AllReadyH.nil
        (rw [if_pos (by rfl)]; simp [Oper.wp, execOp, resolve, invoke, builtin, Oper.upon, Act.eval, hrun, hrunB, Result.andThen, Sem.run_bind])
        refine hK.out _ _ HS3.out (fun hS3 => ?_)
        clear hK K
        (try simp only [List.getElem_toArray, List.getElem_cons_succ, List.getElem_cons_zero, Act.put, List.setIfInBounds_toArray, List.set_cons_zero, List.set_cons_succ])
        refine wpAnyH_ready (rs := [7]) (by kernel_rfl) (by simp) ?_
        refine AllReadyH.cons (o := _) rfl (fun K hK => ?_) AllReadyH.nil
        go_simp
        refine hK.out _ _ HS4.out (fun hS3 => ?_)
        clear hK K
        (try simp only [List.getElem_toArray, List.getElem_cons_succ, List.getElem_cons_zero, Act.put, List.setIfInBounds_toArray, List.set_cons_zero, List.set_cons_succ])
        refine wpAnyH_done (by kernel_rfl) (NoPanic.normal ?_) _
        clear c2d c2b c2e hrun hrunB HS1 HS2 HS3 HS4 k1 k2 hSd
        have HM5 := mkHid HM4.out
        generalize hW5 : (w3.setCell ⟨w.heap.size, 0, none⟩ (.slice a3 m9 c3)) = W5 at *
        clear hW5 HM4
        have hTW := HT.out.below HM5.out.fr
        obtain ⟨_, _, _, n3, _⟩ := hTW.cN HP.out
        rw [HKV.out] at n3
        have hkr := (hTW.nd p _ HP.out).2.2.2
        rw [HKV.out] at hkr
        have HKR := mkHid hkr
        have hks : ks.length ≤ 900000000 := by
          have h1 := HLK.out
          have h2 := flats_len_ge ts
          omega
        clear hTW hkr
        go_wp2_with fail
        go_loopw [5, 18] (fun _ i wr => ∃ (k : Nat) (vv : Value), i = .int .i64 k ∧ k ≤ ks.length ∧ Hid (CM w ((acc ++ [c]) ++ flats (ts.take k)) vv wr)) (fun _ i wr => ks.length - (intOf i).toNat)
        case atStart => exact ⟨0, _, rfl, Nat.zero_le _, by rw [Hid]; simpa [flats] using HM5.out⟩
        case round =>
          obtain ⟨k, vv, rfl, hk, HMr⟩ := hrel
          by_cases hlt : k < ks.length
          · have hlt2 : k < ts.length := by have := HLK.out; omega
            have hTr := HT.out.below HMr.out.fr
            have hkr := (hTr.nd p _ HP.out).2.2.2
            rw [HKV.out] at hkr
            obtain ⟨_, _, e9, hrow⟩ := hkr.row
            cases e9
            obtain ⟨b8, o8, e8, hE⟩ := hrow.at_ k _ (List.getElem?_eq_getElem hlt)
            subst e8
            have hE' : PtE _ _ _ _ := hE
            have p0 := hE'.c
            rw [show Rep.sz PtN = 1 from rfl, Nat.mul_one] at p0
            have f9 := HMr.out.c3
            have HTK := mkHid (HKS.out.at_ k hlt hlt2)
            have HNX := mkHid (flats_next hlt2)
            have hfk := flats_take_le ts k hlt2
            clear hTr hkr hrow hE hE'
            generalize ks[k] = q at *
            generalize ts[k] = u at *
            obtain ⟨q⟩ := q
            dsimp only at p0 HTK
            have hacl : ((acc ++ [c]) ++ flats (ts.take k)).length + u.flat.length ≤ 900000000 := by simp only [List.length_append, List.length_cons, List.length_nil]; omega
            have hun : u.flat.length ≤ n := by omega
            clear hfk
            go_wp2_with fail
            refine (IH.out u q _ vv wr hun HTK.out hacl HMr.out).mono ?_
            rintro e w7 ⟨rfl, v7, hM7⟩
            have HM7 := mkHid hM7
            clear hM7
            go_wp2_with fail
            go_round
            case rel => exact ⟨k + 1, v7, by go_num, by omega, by rw [HNX.out, ← List.append_assoc]; exact HM7⟩
            case measure => simp [intOf]; omega
          · go_wp2_with fail
            refine bodyPost_ret (results_none rfl _ _ _) rfl ⟨rfl, vv, ?_⟩
            rw [HFE.out]
            have hM := HMr.out
            rw [List.take_of_length_le (by have := HLK.out; omega)] at hM
            simpa using hM
      · skip
        refine AllReadyH.cons (o := _) rfl (fun K hK => ?_) AllReadyH.nil
        go_simp
        refine hK.out _ _ HS2.out (fun hS3 => ?_)
        clear hK K
        (try simp only [List.getElem_toArray, List.getElem_cons_succ, List.getElem_cons_zero, Act.put, List.setIfInBounds_toArray, List.set_cons_zero, List.set_cons_succ])
        refine wpAnyH_ready (rs := [0]) (by kernel_rfl) (by simp) ?_
        refine AllReadyH.cons (o := _) rfl (fun K hK => ?_) AllReadyH.nil
        go_simp
        refine hK.out _ _ HS2.out (fun hS3 => ?_)
        clear hK K
        (try simp only [List.getElem_toArray, List.getElem_cons_succ, List.getElem_cons_zero, Act.put, List.setIfInBounds_toArray, List.set_cons_zero, List.set_cons_succ])
        refine wpAnyH_ready (rs := [6]) (by kernel_rfl) (by simp) ?_
        refine AllReadyH.cons (o := _) rfl (fun K hK => ?_) AllReadyH.nil
        (rw [if_pos (by rfl)]; simp [Oper.wp, execOp, resolve, invoke, builtin, Oper.upon, Act.eval, hrun, hrunB, Result.andThen, Sem.run_bind])
        refine hK.out _ _ HS3.out (fun hS3 => ?_)
        clear hK K
        (try simp only [List.getElem_toArray, List.getElem_cons_succ, List.getElem_cons_zero, Act.put, List.setIfInBounds_toArray, List.set_cons_zero, List.set_cons_succ])
        refine wpAnyH_ready (rs := [7]) (by kernel_rfl) (by simp) ?_
        refine AllReadyH.cons (o := _) rfl (fun K hK => ?_) AllReadyH.nil
        go_simp
        refine hK.out _ _ HS4.out (fun hS3 => ?_)
        clear hK K
        (try simp only [List.getElem_toArray, List.getElem_cons_succ, List.getElem_cons_zero, Act.put, List.setIfInBounds_toArray, List.set_cons_zero, List.set_cons_succ])
        refine wpAnyH_done (by kernel_rfl) (NoPanic.normal ?_) _
        clear c2d c2b c2e hrun hrunB HS1 HS2 HS3 HS4 k1 k2 hSd
        have HM5 := mkHid HM4.out
        generalize hW5 : (w3.setCell ⟨w.heap.size, 0, none⟩ (.slice a3 m9 c3)) = W5 at *
        clear hW5 HM4
        have hTW := HT.out.below HM5.out.fr
        obtain ⟨_, _, _, n3, _⟩ := hTW.cN HP.out
        rw [HKV.out] at n3
        have hkr := (hTW.nd p _ HP.out).2.2.2
        rw [HKV.out] at hkr
        have HKR := mkHid hkr
        have hks : ks.length ≤ 900000000 := by
          have h1 := HLK.out
          have h2 := flats_len_ge ts
          omega
        clear hTW hkr
        go_wp2_with fail
        go_loopw [5, 18] (fun _ i wr => ∃ (k : Nat) (vv : Value), i = .int .i64 k ∧ k ≤ ks.length ∧ Hid (CM w ((acc ++ [c]) ++ flats (ts.take k)) vv wr)) (fun _ i wr => ks.length - (intOf i).toNat)
        case atStart => exact ⟨0, _, rfl, Nat.zero_le _, by rw [Hid]; simpa [flats] using HM5.out⟩
        case round =>
          obtain ⟨k, vv, rfl, hk, HMr⟩ := hrel
          by_cases hlt : k < ks.length
          · have hlt2 : k < ts.length := by have := HLK.out; omega
            have hTr := HT.out.below HMr.out.fr
            have hkr := (hTr.nd p _ HP.out).2.2.2
            rw [HKV.out] at hkr
            obtain ⟨_, _, e9, hrow⟩ := hkr.row
            cases e9
            obtain ⟨b8, o8, e8, hE⟩ := hrow.at_ k _ (List.getElem?_eq_getElem hlt)
            subst e8
            have hE' : PtE _ _ _ _ := hE
            have p0 := hE'.c
            rw [show Rep.sz PtN = 1 from rfl, Nat.mul_one] at p0
            have f9 := HMr.out.c3
            have HTK := mkHid (HKS.out.at_ k hlt hlt2)
            have HNX := mkHid (flats_next hlt2)
            have hfk := flats_take_le ts k hlt2
            clear hTr hkr hrow hE hE'
            generalize ks[k] = q at *
            generalize ts[k] = u at *
            obtain ⟨q⟩ := q
            dsimp only at p0 HTK
            have hacl : ((acc ++ [c]) ++ flats (ts.take k)).length + u.flat.length ≤ 900000000 := by simp only [List.length_append, List.length_cons, List.length_nil]; omega
            have hun : u.flat.length ≤ n := by omega
            clear hfk
            go_wp2_with fail
            refine (IH.out u q _ vv wr hun HTK.out hacl HMr.out).mono ?_
            rintro e w7 ⟨rfl, v7, hM7⟩
            have HM7 := mkHid hM7
            clear hM7
            go_wp2_with fail
            go_round
            case rel => exact ⟨k + 1, v7, by go_num, by omega, by rw [HNX.out, ← List.append_assoc]; exact HM7⟩
            case measure => simp [intOf]; omega
          · go_wp2_with fail
            refine bodyPost_ret (results_none rfl _ _ _) rfl ⟨rfl, vv, ?_⟩
            rw [HFE.out]
            have hM := HMr.out
            rw [List.take_of_length_le (by have := HLK.out; omega)] at hM
            simpa using hM
end Go.Proofs.Ytmmnfkggfnokjaa
set_option linter.unusedVariables false
namespace Go.Proofs.Ytmmnfkggfnokjaa
open Go.RowKit
/-- the cells of a node's tree: a row of its own -/
def CellsPost (w : World) (t : Tm) (e : Ending) (W' : World) : Prop := ∃ a n c, e = .returned (.slice a n c) ∧ AccInv w.heap.size 79 t.flat (.slice a n c) W' ∧ Below w.heap.size w W'
set_option maxHeartbeats 3200000 in
theorem cells_any (W0 w : World) (R fm bm : Nat) (S : TS) (kv : Nat → Value) (hT : TW W0 w R fm bm S kv) (p : Nat) (t : Tm) (hH : TrH S.H p t) (hl : t.flat.length ≤ 900000000) :
    Calls Try.prog 195 #[.pointer (some ⟨p, 0, none⟩)] w (CellsPost w t) := by
  have hM0 : CM w [] (.slice none 0 0) ((w.alloc (.cells #[.slice none 0 0] 22)).alloc (.cells #[.func (.func 219) #[] #[.pointer (some ⟨w.heap.size, 0, none⟩), .pointer (some ⟨w.heap.size + 1, 0, none⟩)]] 244)) := by
    refine ⟨((Below.refl _ _).new _).new _, ?_, World.cell?_alloc_at _ _ _ 0 (by simp), AccInv.nil _ _ _⟩
    rw [heap_alloc_old _ _ (by simp)]
    exact heap_alloc_new w _
  have HM0 := mkHid hM0
  have f3 := hM0.c3
  have HT := mkHid hT
  have HH := mkHid hH
  clear hM0 hT hH
  go_enter Try.func195, Try.ntmps195
  go_wp2_with fail
  refine (cells1_any W0 w R fm bm S kv HT.out _ t p [] _ _ (Nat.le_refl _) HH.out (by simpa using hl) HM0.out).mono ?_
  rintro e w2 ⟨rfl, v, hM⟩
  rw [List.nil_append] at hM
  obtain ⟨a, n, c, rfl⟩ := slice_ofN hM.acc
  have c2 := hM.c2
  have HM := mkHid hM
  clear hM f3
  go_wp2_with fail
  go_ret
  exact ⟨a, n, c, rfl, HM.out.acc.baseN (by omega), HM.out.fr⟩
end Go.Proofs.Ytmmnfkggfnokjaa
set_option linter.unusedVariables false
namespace Go.Proofs.Ytmmnfkggfnokjaa
open Go.RowKit
/-! ### a head's terms, told from the front -/
theorem TrHs.append {H : Nat → Option NdS} : ∀ {a : List PtN} {x : List Tm} {b : List PtN} {y : List Tm}, TrHs H a x → TrHs H b y → TrHs H (a ++ b) (x ++ y)
  | _, _, _, _, .nil, h => h
  | _, _, _, _, .cons h1 h2, h => .cons h1 (h2.append h)
theorem TrHs.split {H : Nat → Option NdS} : ∀ {a b : List PtN} {z : List Tm}, TrHs H (a ++ b) z → TrHs H a (z.take a.length) ∧ TrHs H b (z.drop a.length)
  | [], _, _, h => ⟨by simpa using TrHs.nil, by simpa using h⟩
  | _ :: a, _, _, .cons h1 h2 => by
    obtain ⟨x, y⟩ := h2.split
    exact ⟨.cons h1 x, y⟩
/-- arguments: leaves, but those that are still to be told -/
def plug : List Cel → List Bool → List Tm → List Tm
  | _ :: cs, true :: fs, t :: ts => t :: plug cs fs ts
  | c :: cs, false :: fs, ts => .mk c [] :: plug cs fs ts
  | _, _, _ => []
structure HQ (H : Nat → Option NdS) (p0 : Nat) (ps : List Nat) (fill : List Tm → Tm) : Prop where
  leaf : ∀ p ∈ ps, ∃ c, H p = some ⟨c, []⟩
  nd : ps.Nodup
  fl : ∀ (H2 : Nat → Option NdS) (ts : List Tm), (∀ b d, b ∉ ps → H b = some d → H2 b = some d) → TrHs H2 (ps.map PtN.mk) ts → TrH H2 p0 (fill ts)
theorem opensOf_sub : ∀ (qs : List Nat) (fs : List Bool), ∀ q ∈ opensOf qs fs, q ∈ qs
  | [], _, q, h => by simp [opensOf] at h
  | x :: qs, [], q, h => by simp [opensOf] at h
  | x :: qs, f :: fs, q, h => by
    unfold opensOf at h
    split at h
    · rcases List.mem_cons.1 h with rfl | h
      · exact List.mem_cons_self
      · exact List.mem_cons_of_mem _ (opensOf_sub qs fs q h)
    · exact List.mem_cons_of_mem _ (opensOf_sub qs fs q h)
theorem opensOf_nodup : ∀ (qs : List Nat) (fs : List Bool), qs.Nodup → (opensOf qs fs).Nodup
  | [], _, _ => by simp [opensOf]
  | x :: qs, [], _ => by simp [opensOf]
  | x :: qs, f :: fs, h => by
    unfold opensOf
    have h1 := (List.nodup_cons.1 h)
    split
    · exact List.nodup_cons.2 ⟨fun e => h1.1 (opensOf_sub qs fs x e), opensOf_nodup qs fs h1.2⟩
    · exact opensOf_nodup qs fs h1.2
theorem plug_trees {H2 : Nat → Option NdS} : ∀ (qs : List Nat) (cs : List Cel) (fs : List Bool) (ts : List Tm), qs.length = cs.length → cs.length = fs.length → qs.Nodup → (∀ (k : Nat) (q : Nat), qs[k]? = some q → q ∉ opensOf qs fs → ∃ d, cs[k]? = some d ∧ H2 q = some ⟨d, []⟩) → TrHs H2 ((opensOf qs fs).map PtN.mk) ts → TrHs H2 (qs.map PtN.mk) (plug cs fs ts)
  | [], [], [], ts, _, _, _, _, h => by simpa [plug] using TrHs.nil
  | [], _ :: _, _, _, h, _, _, _, _ => by simp at h
  | _ :: _, [], _, _, h, _, _, _, _ => by simp at h
  | [], [], _ :: _, _, _, h, _, _, _ => by simp at h
  | _ :: _, _ :: _, [], _, _, h, _, _, _ => by simp at h
  | q :: qs, c :: cs, f :: fs, ts, h1, h2, hn, hl, h => by
    have hn' := List.nodup_cons.1 hn
    cases f with
    | true =>
      simp only [opensOf, if_true, List.map_cons] at h
      cases h with
      | @cons _ _ t ts' ht hts =>
        simp only [plug, List.map_cons]
        refine .cons ht (plug_trees qs cs fs ts' (by simpa using h1) (by simpa using h2) hn'.2 (fun k x hx hno => ?_) hts)
        have := hl (k + 1) x (by simpa using hx) (by
          simp only [opensOf, if_true, List.mem_cons, not_or]
          exact ⟨fun e => hn'.1 (e ▸ List.mem_of_getElem? hx), hno⟩)
        simpa using this
    | false =>
      simp only [opensOf, Bool.false_eq_true, if_false] at h
      simp only [plug, List.map_cons]
      obtain ⟨d, hd, hH⟩ := hl 0 q rfl (by
        simp only [opensOf, Bool.false_eq_true, if_false]
        exact fun e => hn'.1 (opensOf_sub qs fs q e))
      simp at hd
      subst hd
      refine .cons (.mk hH .nil) (plug_trees qs cs fs ts (by simpa using h1) (by simpa using h2) hn'.2 (fun k x hx hno => ?_) h)
      have := hl (k + 1) x (by simpa using hx) (by simpa [opensOf] using hno)
      simpa using this
def fillN (fill : List Tm → Tm) (n : Nat) (c : Cel) (cs : List Cel) (fs : List Bool) : List Tm → Tm := fun ts => fill (.mk c (plug cs fs (ts.drop n)) :: ts.take n)
theorem HQ.step {H H' : Nat → Option NdS} {p0 p : Nat} {ps qs : List Nat} {fill : List Tm → Tm} {c : Cel} {cs : List Cel} {fs : List Bool} {B : Nat} (h : HQ H p0 (p :: ps) fill) (hk : KidsOf H H' p c qs cs B) (hf : cs.length = fs.length) (hB : ∀ b d, H b = some d → b < B) : HQ H' p0 (ps ++ opensOf qs fs) (fillN fill ps.length c cs fs) := by
  have hn := List.nodup_cons.1 h.nd
  have hpsB : ∀ x ∈ ps, x < B := fun x hx => by obtain ⟨d, hd⟩ := h.leaf x (List.mem_cons_of_mem _ hx); exact hB x _ hd
  have hpB := hk.pB
  have hosB : ∀ x ∈ opensOf qs fs, B ≤ x := fun x hx => hk.new x (opensOf_sub qs fs x hx)
  refine ⟨fun x hx => ?_, ?_, fun H2 ts hag htr => ?_⟩
  · rcases List.mem_append.1 hx with hx | hx
    · obtain ⟨d, hd⟩ := h.leaf x (List.mem_cons_of_mem _ hx)
      exact ⟨d, by rw [hk.other x (fun e => hn.1 (e ▸ hx)) (fun e => by have := hk.new x e; have := hpsB x hx; omega)]; exact hd⟩
    · obtain ⟨k, hkl, e⟩ := List.getElem_of_mem (opensOf_sub qs fs x hx)
      obtain ⟨d, _, hd⟩ := hk.leaf k x (by rw [List.getElem?_eq_getElem hkl, e])
      exact ⟨d, hd⟩
  · rw [List.nodup_append]
    refine ⟨hn.2, opensOf_nodup qs fs hk.nodup, fun a ha b hb e => ?_⟩
    have := hpsB a ha
    have := hosB b hb
    omega
  · rw [List.map_append] at htr
    obtain ⟨t1, t2⟩ := htr.split
    rw [List.length_map] at t1 t2
    have hpno : p ∉ ps ++ opensOf qs fs := fun e => by
      rcases List.mem_append.1 e with e | e
      · exact hn.1 e
      · have := hosB p e; omega
    refine h.fl H2 _ (fun b d hb hd => ?_) (.cons (.mk (hag p _ hpno hk.at_) ?_) t1)
    · simp only [List.mem_cons, not_or] at hb
      have hbB := hB b d hd
      refine hag b d (fun e => ?_) ((hk.other b hb.1 (fun e => by have := hk.new b e; omega)).trans hd)
      rcases List.mem_append.1 e with e | e
      · exact hb.2 e
      · have := hosB b e; omega
    · refine plug_trees qs cs fs _ hk.len hf hk.nodup (fun k x hx hno => ?_) t2
      obtain ⟨d, hd, hH⟩ := hk.leaf k x hx
      refine ⟨d, hd, hag x _ (fun e => ?_) hH⟩
      rcases List.mem_append.1 e with e | e
      · have := hpsB x e; have := hk.new x (List.mem_of_getElem? hx); omega
      · exact hno e
/-- what is not told is a leaf -/
theorem HQ.ends {H : Nat → Option NdS} {p0 : Nat} {ps : List Nat} {fill : List Tm → Tm} (h : HQ H p0 ps fill) : ∃ ts, ts.length = ps.length ∧ (flats ts).length = ps.length ∧ TrH H p0 (fill ts) := by
  have key : ∀ l : List Nat, (∀ p ∈ l, ∃ c, H p = some ⟨c, []⟩) → ∃ ts : List Tm, ts.length = l.length ∧ (flats ts).length = l.length ∧ TrHs H (l.map PtN.mk) ts := by
    intro l
    induction l with
    | nil => intro _; exact ⟨[], rfl, rfl, .nil⟩
    | cons p l ih =>
      intro hl
      obtain ⟨ts, h1, h2, h3⟩ := ih fun q hq => hl q (List.mem_cons_of_mem _ hq)
      obtain ⟨c, hc⟩ := hl p List.mem_cons_self
      exact ⟨.mk c [] :: ts, by simp [h1], by simp [flats, Tm.flat, h2], .cons (.mk hc .nil) h3⟩
  obtain ⟨ts, h1, h2, h3⟩ := key ps h.leaf
  exact ⟨ts, h1, h2, h.fl H ts (fun b d _ hd => hd) h3⟩
/-! #### how many cells -/
theorem plug_len : ∀ (cs : List Cel) (fs : List Bool) (ts : List Tm), cs.length = fs.length → ts.length = (fs.filter id).length → (flats (plug cs fs ts)).length + (fs.filter id).length = cs.length + (flats ts).length
  | [], [], ts, _, h => by
    have : ts = [] := List.eq_nil_of_length_eq_zero (by simpa using h)
    subst this; simp [plug, flats]
  | [], _ :: _, _, h, _ => by simp at h
  | _ :: _, [], _, h, _ => by simp at h
  | c :: cs, true :: fs, [], _, h => by simp at h
  | c :: cs, true :: fs, t :: ts, h1, h2 => by
    have := plug_len cs fs ts (by simpa using h1) (by simpa using h2)
    simp only [plug, flats, List.length_append, List.filter_cons, id, if_true, List.length_cons] at this ⊢
    omega
  | c :: cs, false :: fs, ts, h1, h2 => by
    have := plug_len cs fs ts (by simpa using h1) (by simpa using h2)
    simp only [plug, flats, Tm.flat, List.length_append, List.filter_cons, id, Bool.false_eq_true, if_false, List.length_cons, List.length_nil] at this ⊢
    omega
theorem opens_count : ∀ (qs : List Nat) (fs : List Bool), qs.length = fs.length → (opensOf qs fs).length = (fs.filter id).length
  | [], [], _ => rfl
  | [], _ :: _, h => by simp at h
  | _ :: _, [], h => by simp at h
  | q :: qs, true :: fs, h => by simp [opensOf, opens_count qs fs (by simpa using h)]
  | q :: qs, false :: fs, h => by simp [opensOf, opens_count qs fs (by simpa using h)]
theorem unisM_len (funs : Int → Bool) : ∀ (m : Nat) (l : List Ins), (unisM funs m l).1.length + (unisM funs m l).2.1.length ≤ l.length + (if (unisM funs m l).2.2 = true then 1 else 0)
  | 0, l => by simp [unisM]
  | m + 1, l => by
    rw [unisM_step]
    have ih := unisM_len funs m l.tail
    have hne : (nextI l).op ≠ 0 → l.tail.length + 1 = l.length := by
      cases l with
      | nil => intro h; exact absurd rfl h
      | cons a l => intro _; rfl
    by_cases h5 : (nextI l).op = 5
    · have := hne (by omega); simp only [if_pos h5, List.length_cons]; omega
    · by_cases h6 : (nextI l).op = 6
      · have := hne (by omega); simp only [if_neg h5, if_pos h6, List.length_cons]; omega
      · by_cases h7 : (nextI l).op = 7
        · have := hne (by omega); simp only [if_neg h5, if_neg h6, if_pos h7, List.length_cons]; omega
        · simp only [if_neg h5, if_neg h6, if_neg h7, List.length_cons, List.length_nil, List.length_tail, if_true]; omega
/-- what the code of arguments tells -/
theorem UnisR.told {funs : Int → Bool} {us : List Ins} {os az : List Tm} (h : UnisR funs us os az) : ∀ l : List Ins, (unisM funs us.length (us ++ l)).2 = (l, false) ∧ plug ((unisM funs us.length (us ++ l)).1.map Prod.fst) ((unisM funs us.length (us ++ l)).1.map Prod.snd) os = az ∧ (((unisM funs us.length (us ++ l)).1.map Prod.snd).filter id).length = os.length := by
  induction h with
  | nil => intro l; exact ⟨rfl, rfl, rfl⟩
  | @fn i us t os ts h hf hr ih =>
    intro l
    obtain ⟨a, b, c⟩ := ih l
    have e : nextI (i :: us ++ l) = i := rfl
    have et : (i :: us ++ l).tail = us ++ l := rfl
    rw [List.length_cons, unisM_step, e, et, if_pos h]
    simp only [List.map_cons, hf, plug, a, b, List.filter_cons, id, if_true, List.length_cons, c, and_self]
  | @vr i us os ts h hf hr ih =>
    intro l
    obtain ⟨a, b, c⟩ := ih l
    have e : nextI (i :: us ++ l) = i := rfl
    have et : (i :: us ++ l).tail = us ++ l := rfl
    rw [List.length_cons, unisM_step, e, et, if_pos h]
    simp only [List.map_cons, hf, plug, a, b, List.filter_cons, id, Bool.false_eq_true, if_false, c, and_self, and_true, vT, varI]
  | @vl i us os ts h hr ih =>
    intro l
    obtain ⟨a, b, c⟩ := ih l
    have e : nextI (i :: us ++ l) = i := rfl
    have et : (i :: us ++ l).tail = us ++ l := rfl
    rw [List.length_cons, unisM_step, e, et, if_neg (by omega), if_pos h]
    simp only [List.map_cons, plug, a, b, List.filter_cons, id, Bool.false_eq_true, if_false, c, and_self, and_true, vT, varI]
  | @int i us os ts h hr ih =>
    intro l
    obtain ⟨a, b, c⟩ := ih l
    have e : nextI (i :: us ++ l) = i := rfl
    have et : (i :: us ++ l).tail = us ++ l := rfl
    rw [List.length_cons, unisM_step, e, et, if_neg (by omega), if_neg (by omega), if_pos h]
    simp only [List.map_cons, plug, a, b, List.filter_cons, id, Bool.false_eq_true, if_false, c, and_self, and_true, intI]
end Go.Proofs.Ytmmnfkggfnokjaa
set_option linter.unusedVariables false
namespace Go.Proofs.Ytmmnfkggfnokjaa
open Go.RowKit
/-! ### a row of nodes that wait, taken from the front -/
def ptv (x : PtN) : Value := .pointer (some ⟨x.p, 0, none⟩)
structure RowQ (W : World) (B : Nat) (xs : List PtN) (v : Value) : Prop where
  ex : (v = .slice none 0 0 ∧ xs = []) ∨ ∃ g off cap cur, v = .slice (some ⟨g, off, none⟩) xs.length cap ∧ B ≤ g ∧ W.heap[g]? = some (.cells cur 223 (0, 0)) ∧ xs.length ≤ cap ∧ cap ≤ 9223372036854775807 ∧ off + cap ≤ cur.size ∧ (cur.toList.drop off).take xs.length = xs.map ptv
theorem RowQ.nil (W : World) (B : Nat) : RowQ W B [] (.slice none 0 0) := ⟨.inl ⟨rfl, rfl⟩⟩
section
variable {W W' : World} {B : Nat} {xs ys : List PtN} {v v' : Value}
theorem RowQ.block (h : RowQ W B xs v) (hb : ∀ b, v.ownBlock = some b → W'.heap[b]? = W.heap[b]?) : RowQ W' B xs v := by
  refine ⟨h.ex.imp id fun ⟨g, off, cap, cur, e, hB, hg, rest⟩ => ⟨g, off, cap, cur, e, hB, (hb g (by rw [e]; rfl)).trans hg, rest⟩⟩
theorem RowQ.lt (h : RowQ W B xs v) : ∀ b, v.ownBlock = some b → B ≤ b ∧ b < W.heap.size := by
  intro b hb
  rcases h.ex with ⟨e, _⟩ | ⟨g, off, cap, cur, e, hB, hg, _⟩
  · rw [e] at hb; cases hb
  · rw [e] at hb; cases hb
    exact ⟨hB, (Array.getElem?_eq_some_iff.1 hg).1⟩
theorem RowQ.below (h : RowQ W B xs v) (hb : Below W.heap.size W W') : RowQ W' B xs v := h.block fun b e => hb.block b (h.lt b e).2
theorem RowQ.fr {us : List Nat} (h : RowQ W B xs v) (hf : Fr us W W') (hu : ∀ b, v.ownBlock = some b → b ∉ us) : RowQ W' B xs v := h.block fun b e => hf.block b (h.lt b e).2 (hu b e)
theorem RowQ.frP {P : Nat → Prop} (h : RowQ W B xs v) (hf : FrP P W W') (hu : offP P v) : RowQ W' B xs v := h.block fun b e => hf.block b (h.lt b e).2 (hu b e)
theorem RowQ.mono {B' : Nat} (h : RowQ W B xs v) (hB : B' ≤ B) : RowQ W B' xs v := ⟨h.ex.imp id fun ⟨g, off, cap, cur, e, h1, rest⟩ => ⟨g, off, cap, cur, e, Nat.le_trans hB h1, rest⟩⟩
theorem RowQ.slice (h : RowQ W B xs v) : ∃ a cap, v = .slice a xs.length cap ∧ xs.length ≤ cap ∧ cap ≤ 9223372036854775807 := by
  rcases h.ex with ⟨rfl, rfl⟩ | ⟨g, off, cap, cur, rfl, hB, hg, h1, h2, _⟩
  · exact ⟨none, 0, rfl, Nat.le_refl _, by omega⟩
  · exact ⟨_, cap, rfl, h1, h2⟩
theorem ptv_rows {w : World} : ∀ {vs : List Value} {xs : List PtN}, CRows w vs xs → vs = xs.map ptv
  | _, _, .nil => rfl
  | _, _, .cons hx hr => by
    have h1 := ptv_rows hr
    have h2 : _ = [ptv _] := hx
    rw [h1, h2]; rfl
theorem RowQ.ofAcc {w : World} {v : Value} {xs : List PtN} (h : AccInv B 223 xs v w) : RowQ w B xs v := by
  obtain ⟨vs, ho, hc⟩ := h.ex
  have hv := ptv_rows hc
  rcases ho.2 with ⟨e1, h0⟩ | ⟨g, cap, cur, e1, hb2, hgg, h1, h2, h3, h4⟩
  · exact ⟨.inl ⟨e1, List.eq_nil_of_length_eq_zero h0⟩⟩
  · refine ⟨.inr ⟨g, 0, cap, cur, e1, hb2, hgg, h1, by unfold maxLen at h2; omega, ?_, ?_⟩⟩
    · have h3' := h3
      change cur.size = cap * 1 at h3'
      omega
    · rw [List.drop_zero, ← hv, ← h4]
      change _ = cur.toList.take (xs.length * 1)
      rw [Nat.mul_one]
theorem RowQ.cells {g off : Nat} {cur : Array Value} (hb : W.heap[g]? = some (.cells cur 223 (0, 0))) (h4 : (cur.toList.drop off).take xs.length = xs.map ptv) : ∀ j u, (xs.map ptv)[j]? = some u → W.cell? ⟨g, off + j, none⟩ = some u := by
  intro j u hj
  rw [← h4, List.getElem?_take] at hj
  split at hj
  · rw [List.getElem?_drop] at hj
    rw [cell_of_row W g (off + j) _ _ _ hb, ← Array.getElem?_toList]
    exact hj
  · cases hj
theorem RowQ.head {x : PtN} (h : RowQ W B (x :: xs) v) : ∃ g off cap, v = .slice (some ⟨g, off, none⟩) (xs.length + 1) cap ∧ W.cell? ⟨g, off, none⟩ = some (.pointer (some ⟨x.p, 0, none⟩)) := by
  rcases h.ex with ⟨_, e⟩ | ⟨g, off, cap, cur, e, hB, hb, h1, h2, h3, h4⟩
  · cases e
  · exact ⟨g, off, cap, e, RowQ.cells hb h4 0 _ rfl⟩
theorem RowQ.tail {x : PtN} {g off cap : Nat} (h : RowQ W B (x :: xs) (.slice (some ⟨g, off, none⟩) (xs.length + 1) cap)) {off' : Nat} (ho : off' = off + 1 ∨ cap - 1 = 0 ∧ off' = off) : RowQ W B xs (.slice (some ⟨g, off', none⟩) xs.length (cap - 1)) := by
  rcases h.ex with ⟨_, e⟩ | ⟨g', off1, cap', cur, e, hB, hb, h1, h2, h3, h4⟩
  · cases e
  · cases e
    simp only [List.length_cons] at h1 h4
    refine ⟨.inr ⟨g, off', cap - 1, cur, rfl, hB, hb, by omega, by omega, by omega, ?_⟩⟩
    rcases ho with rfl | ⟨h0, rfl⟩
    · have e2 := congrArg (List.drop 1) h4
      rw [List.drop_take, List.drop_drop, List.map_cons, List.drop_one, List.tail_cons] at e2
      rw [← e2]; congr 1
    · have hx0 : xs = [] := List.eq_nil_of_length_eq_zero (by omega)
      subst hx0; simp
theorem run_append_nilQ (w : World) (ty : TypeId) (ao : Option Addr) (n cap : Nat) (h : n ≤ cap) : (Builtin.append_ #[225, 225] ty #[.slice ao n cap, .slice none 0 0]).run Try.prog w = .ok (.slice ao n cap) w := by
  obtain ⟨i, hi, hz0, hz1, hz2⟩ := info_parts Try.infoPtN
  cases ao with
  | none => simp [Builtin.append_, run_underlying Try.underlying225, sizeOf, typeInfo, hi, Builtin.lenOf, Builtin.firstCells, loadCells, loadCellsFrom, h]
  | some a => simp [Builtin.append_, run_underlying Try.underlying225, sizeOf, typeInfo, hi, Builtin.lenOf, Builtin.firstCells, loadCells, loadCellsFrom, h, storeCells]
end
set_option maxRecDepth 100000 in
set_option maxHeartbeats 1600000 in
theorem RowQ.run_append {W : World} {B : Nat} {xs ys : List PtN} {v : Value} (h : RowQ W B xs v) (hB : B ≤ W.heap.size) (ty : TypeId) {a : Addr} {m c : Nat} (hm : m = ys.length)
    (hnews : ∀ j u, (ys.map ptv)[j]? = some u → W.cell? (a.add j) = some u) (hmax : xs.length + ys.length ≤ 1000000) :
    ∃ v' W', (Builtin.append_ #[225, 225] ty #[v, .slice (some a) m c]).run Try.prog W = .ok v' W' ∧ RowQ W' B (xs ++ ys) v' ∧ W.grownBy W' v.ownBlock ∧ NewAtN W v v' := by
  subst hm
  obtain ⟨i, hi, hz0, hz1, hz2⟩ := info_parts Try.infoPtN
  have hnl : (ys.map ptv).length = ys.length := List.length_map _
  have hone : ∀ u ∈ ys.map ptv, u.oneCell' = true := fun u hu => by
    obtain ⟨x, _, rfl⟩ := List.mem_map.1 hu
    rfl
  have hbytes : (xs.length + ys.length) * 8 ≤ 140737488355328 := by omega
  rcases h.ex with ⟨rfl, rfl⟩ | ⟨g, off, cap, cur, rfl, hgB, hb, h1, h2, h3, h4⟩
  · obtain ⟨v', W', hr, ho, hg, hw⟩ := run_append_where (P := Try.prog) W W.heap.size 225 ty 223 i (.pointer none) 1 8 Try.underlying225 hi hz0 hz1 hz2 rfl (by decide) (.slice none 0 0) 0 [] (World.ownsRow_nil _ _ _ _) a ys.length c (ys.map ptv) (by omega) hnews hone (by unfold maxLen; omega) (by simpa using hbytes) (Nat.le_refl _)
    refine ⟨v', W', hr, ?_, hg, hw.elim .inl (fun e => .inr ⟨_, e, Nat.le_refl _⟩)⟩
    simp only [List.nil_append, Nat.zero_add] at ho ⊢
    rcases ho.2 with ⟨e1, h0⟩ | ⟨g, cap, cur, rfl, hb2, hgg, h1, h2, h3, h4⟩
    · exact ⟨.inl ⟨e1, List.eq_nil_of_length_eq_zero h0⟩⟩
    · refine ⟨.inr ⟨g, 0, cap, cur, rfl, by omega, hgg, h1, by unfold maxLen at h2; omega, by omega, ?_⟩⟩
      rw [List.drop_zero, ← h4, Nat.mul_one]
  · by_cases hroom : xs.length + ys.length ≤ cap
    · have hin : ∀ j, j < (ys.map ptv).length → (W.cell? ⟨g, off + xs.length * i.size + j, none⟩).isSome = true ∧ W.frozen? ⟨g, off + xs.length * i.size + j, none⟩ = false := fun j hj => by
        rw [hz1]
        have hlt : off + xs.length * 1 + j < cur.size := by omega
        refine ⟨?_, by simp [World.frozen?, hb]⟩
        rw [cell_of_row W g _ _ _ _ hb, Array.getElem?_eq_getElem hlt]; rfl
      have hr := run_append_room_cells (P := Try.prog) W 225 ty 223 i Try.underlying225 hi g off xs.length cap a ys.length c (ys.map ptv) (by rw [hz1]; omega) hnews hone hroom (fun j hj => (hin j hj).1) (fun j hj => (hin j hj).2)
      rw [hz1, Nat.mul_one] at hr
      have hset : ∀ (vs : List Value) (o : Nat) (w : World), (w.setCells g o vs).heap.size = w.heap.size ∧ (∀ k, k ≠ g → (w.setCells g o vs).heap[k]? = w.heap[k]?) ∧ (w.setCells g o vs).os = w.os ∧ (w.setCells g o vs).tape = w.tape ∧ (w.setCells g o vs).output = w.output ∧ (∀ cur : Array Value, w.heap[g]? = some (.cells cur 223 (0, 0)) → o + vs.length ≤ cur.size → ∃ cur' : Array Value, (w.setCells g o vs).heap[g]? = some (.cells cur' 223 (0, 0)) ∧ cur'.size = cur.size ∧ cur'.toList = cur.toList.take o ++ vs ++ cur.toList.drop (o + vs.length)) := by
        intro vs
        induction vs with
        | nil => intro o w; exact ⟨rfl, fun _ _ => rfl, rfl, rfl, rfl, fun cur h _ => ⟨cur, h, rfl, by simp⟩⟩
        | cons x vs ih =>
          intro o w
          obtain ⟨i1, i2, i3, i4, i5, i6⟩ := ih (o + 1) (w.setCell ⟨g, o, none⟩ x)
          refine ⟨i1.trans (by simp [World.setCell]), fun k hk => (i2 k hk).trans (Below.heap_setCell w ⟨g, o, none⟩ x k hk), i3, i4, i5, fun cur hcur hle => ?_⟩
          simp only [List.length_cons] at hle
          have hb' : (w.setCell ⟨g, o, none⟩ x).heap[g]? = some (.cells (cur.set! o x) 223 (0, 0)) := by
            simp only [World.setCell, Array.getElem?_modify, if_true, hcur, Option.map_some]
            simp
          obtain ⟨cur', h1, h2, h3⟩ := i6 (cur.set! o x) hb' (by simp; omega)
          refine ⟨cur', h1, by rw [h2]; simp, ?_⟩
          rw [h3]
          have e1 : (cur.set! o x).toList = cur.toList.set o x := by simp
          rw [e1]
          have htl : cur.toList.length = cur.size := by simp
          have hol : o < cur.toList.length := by omega
          rw [List.take_set, List.drop_set_of_lt (by omega)]
          rw [show (cur.toList.take (o + 1)).set o x = cur.toList.take o ++ [x] by
            rw [List.take_succ_eq_append_getElem hol, List.set_append]
            have h9 : (cur.toList.take o).length = o := by rw [List.length_take]; omega
            simp [h9]]
          simp [List.append_assoc, Nat.add_assoc, Nat.add_comm 1]
      obtain ⟨s1, s2, s3, s4, s5, s6⟩ := hset (ys.map ptv) (off + xs.length) W
      obtain ⟨cur', t1, t2, t3⟩ := s6 cur hb (by omega)
      refine ⟨_, _, hr, ?_, ⟨s3, s4, s5, by rw [s1]; exact Nat.le_refl _, fun k hk hne => s2 k (fun e => hne (by rw [e]; rfl))⟩, .inl rfl⟩
      refine ⟨.inr ⟨g, off, cap, cur', by rw [List.length_append], hgB, t1, by rw [List.length_append]; omega, h2, by omega, ?_⟩⟩
      have hcl : off + xs.length ≤ cur.toList.length := by simp; omega
      rw [t3, List.append_assoc, List.drop_append_of_le_length (by rw [List.length_take]; omega), List.length_append, List.map_append, ← h4]
      have e1 : (cur.toList.take (off + xs.length)).drop off = (cur.toList.drop off).take xs.length := by rw [List.drop_take]; congr 1; omega
      rw [e1]
      have hl1 : ((cur.toList.drop off).take xs.length).length = xs.length := by rw [h4, List.length_map]
      rw [List.take_append, hl1, List.take_of_length_le (by omega), List.take_append, hnl]
      simp
      exact List.take_of_length_le (by rw [List.length_map]; exact Nat.le_refl _)
    · obtain ⟨v', W', hr, ho, hg⟩ := run_append_arg_grows (P := Try.prog) W 225 ty 223 i (.pointer none) 1 8 Try.underlying225 hi hz0 hz1 hz2 rfl (by decide) ⟨g, off, none⟩ xs.length cap (xs.map ptv) (by rw [List.length_map]; omega) (fun j u hj => by rw [Addr.add_lit]; exact RowQ.cells hb h4 j u hj) a ys.length c (ys.map ptv) (by omega) hnews (by omega) (by unfold maxLen; omega) hbytes
      refine ⟨v', W', hr, ?_, ⟨hg.os, hg.tape, hg.output, hg.size, fun k hk _ => hg.block k hk (by simp)⟩, ?_⟩
      · rcases ho.2 with ⟨_, h0⟩ | ⟨g', cap', cur', rfl, hb2, hgg, q1, q2, q3, q4⟩
        · omega
        · refine ⟨.inr ⟨g', 0, cap', cur', by rw [List.length_append], by omega, hgg, by rw [List.length_append]; omega, by unfold maxLen at q2; omega, by omega, ?_⟩⟩
          rw [List.drop_zero, List.length_append, List.map_append, ← q4, Nat.mul_one]
      · rcases ho.2 with ⟨_, h0⟩ | ⟨g', cap', cur', rfl, hb2, _⟩
        · omega
        · exact .inr ⟨g', rfl, hb2⟩
theorem RowQ.join {W : World} {B B1 : Nat} {xs ys : List PtN} {v v2 : Value} (h : RowQ W B xs v) (h2 : RowQ W B1 ys v2) (hB : B ≤ W.heap.size) (ty : TypeId) (hmax : xs.length + ys.length ≤ 1000000) :
    ∃ v' W', (Builtin.append_ #[225, 225] ty #[v, v2]).run Try.prog W = .ok v' W' ∧ RowQ W' B (xs ++ ys) v' ∧ W.grownBy W' v.ownBlock ∧ NewAtN W v v' := by
  rcases h2.ex with ⟨rfl, rfl⟩ | ⟨g, off, cap, cur, rfl, hB2, hb, h3, h4, h5, h6⟩
  · obtain ⟨a, cap, rfl, hle, hmx⟩ := h.slice
    exact ⟨_, _, run_append_nilQ W ty a xs.length cap hle, by rw [List.append_nil]; exact h, ⟨rfl, rfl, rfl, Nat.le_refl _, fun _ _ _ => rfl⟩, .inl rfl⟩
  · exact h.run_append hB ty (a := ⟨g, off, none⟩) (m := ys.length) (c := cap) rfl (fun j u hj => by rw [Addr.add_lit]; exact RowQ.cells hb h6 j u hj) hmax
end Go.Proofs.Ytmmnfkggfnokjaa
set_option linter.unusedVariables false
namespace Go.Proofs.Ytmmnfkggfnokjaa
open Go.RowKit
/-! ### between two terms of a head's row -/
theorem flats_split (n : Nat) (ts : List Tm) : (flats ts).length = (flats (ts.take n)).length + (flats (ts.drop n)).length := by
  have h : ∀ a b : List Tm, (flats (a ++ b)).length = (flats a).length + (flats b).length := by
    intro a
    induction a with
    | nil => intro b; simp [flats]
    | cons t a ih => intro b; simp [flats, ih]; omega
  rw [← h, List.take_append_drop]
structure HP (S : TS) (put : Ins) (ps : List Nat) (fill : List Tm → Tm) (rest : List Ins) (bad : Bool) : Prop where
  len : ∃ K, K + ps.length + rest.length ≤ 7 + S.rest.length + (if bad = true then 1 else 0) ∧ ∀ ts : List Tm, ts.length = ps.length → (fill ts).flat.length = K + (flats ts).length
  comp : ∀ (ch0 : List Ins) (us0 : List Tm) (r2 : List Ins), S.rest = ch0 ++ r2 → HeadR S.funs ch0 us0 → us0.length = put.n.toNat → bad = false ∧ ∃ ch us, rest = ch ++ r2 ∧ HeadR S.funs ch us ∧ us.length = ps.length ∧ fill us = .mk (funI put) us0
theorem HP.start {S : TS} {put : Ins} {ps : List Nat} (hp : ps.length = put.n.toNat) (h6 : put.n ≤ 6) (hb : S.bad = false) : HP S put ps (fun ts => .mk (funI put) ts) S.rest S.bad := by
  refine ⟨⟨1, by omega, fun ts h => by simp [Tm.flat]; omega⟩, fun ch0 us0 r2 h1 h2 h3 => ⟨hb, ch0, us0, h1, h2, by omega, rfl⟩⟩
theorem getM_len (funs : Int → Bool) (c0 : Cel) (l : List Ins) : (getM funs c0 l).2.1.length + (getM funs c0 l).2.2.1.length ≤ l.length + (if (getM funs c0 l).2.2.2 = true then 1 else 0) := by
  have ht := List.length_tail (l := l)
  unfold getM
  split
  · simp; 
  · split
    · simp
    · split
      · have := unisM_len funs (nextI l).n.toNat l.tail
        simp only
        omega
      · simp; omega
theorem getM_less (funs : Int → Bool) (c0 : Cel) (l : List Ins) (h : (getM funs c0 l).2.2.2 = false) : (getM funs c0 l).2.1.length + (getM funs c0 l).2.2.1.length ≤ l.length := by
  have := getM_len funs c0 l
  rw [h] at this
  simpa using this
theorem count_le : ∀ fs : List Bool, (fs.filter id).length ≤ fs.length := fun fs => List.length_filter_le _ _
theorem HP.step {S : TS} {put : Ins} {p : Nat} {ps : List Nat} {fill : List Tm → Tm} {rest : List Ins} (h : HP S put (p :: ps) fill rest false) (c0 : Cel) {qs : List Nat} (hq : qs.length = (getM S.funs c0 rest).2.1.length) :
    HP S put (ps ++ opensOf qs ((getM S.funs c0 rest).2.1.map Prod.snd)) (fillN fill ps.length (getM S.funs c0 rest).1 ((getM S.funs c0 rest).2.1.map Prod.fst) ((getM S.funs c0 rest).2.1.map Prod.snd)) (getM S.funs c0 rest).2.2.1 (getM S.funs c0 rest).2.2.2 := by
  have hoc := opens_count qs ((getM S.funs c0 rest).2.1.map Prod.snd) (by rw [List.length_map]; exact hq)
  have hcl := count_le ((getM S.funs c0 rest).2.1.map Prod.snd)
  rw [List.length_map] at hcl
  have hgl := getM_len S.funs c0 rest
  obtain ⟨K, hK, hF⟩ := h.len
  simp only [Bool.false_eq_true, if_false, List.length_cons, Nat.add_zero] at hK
  refine ⟨⟨K + 1 + (getM S.funs c0 rest).2.1.length - (opensOf qs ((getM S.funs c0 rest).2.1.map Prod.snd)).length, ?_, fun ts hts => ?_⟩, fun ch0 us0 r2 h1 h2 h3 => ?_⟩
  · rw [List.length_append]; omega
  · rw [List.length_append] at hts
    have hpl := plug_len ((getM S.funs c0 rest).2.1.map Prod.fst) ((getM S.funs c0 rest).2.1.map Prod.snd) (ts.drop ps.length) (by simp) (by rw [List.length_drop]; omega)
    have hsp := flats_split ps.length ts
    unfold fillN
    rw [hF _ (by simp; omega)]
    simp only [flats, Tm.flat, List.length_append, List.length_cons]
    rw [List.length_map] at hpl
    omega
  · obtain ⟨_, ch, us, e1, e2, e3, e4⟩ := h.comp ch0 us0 r2 h1 h2 h3
    subst e1
    cases e2 with
    | nil => simp at e3
    | @vr i l ts hop hr =>
      have en : nextI (i :: l ++ r2) = i := rfl
      have hg : getM S.funs c0 (i :: l ++ r2) = (varI i, ([], l ++ r2, false)) := by unfold getM; rw [en, if_pos hop]; rfl
      rw [hg] at hq ⊢
      simp only [List.length_cons] at e3
      have e3' : ts.length = ps.length := by omega
      have hq0 : qs = [] := List.eq_nil_of_length_eq_zero hq
      subst hq0
      refine ⟨rfl, l, ts, rfl, hr, by simpa [opensOf] using e3', ?_⟩
      unfold fillN
      rw [← e4, ← e3', List.take_length]
      simp [plug, vT, varI]
    | @int i l ts hop hr =>
      have en : nextI (i :: l ++ r2) = i := rfl
      have hg : getM S.funs c0 (i :: l ++ r2) = (intI i, ([], l ++ r2, false)) := by unfold getM; rw [en, if_neg (by omega), if_pos hop]; rfl
      rw [hg] at hq ⊢
      simp only [List.length_cons] at e3
      have e3' : ts.length = ps.length := by omega
      have hq0 : qs = [] := List.eq_nil_of_length_eq_zero hq
      subst hq0
      refine ⟨rfl, l, ts, rfl, hr, by simpa [opensOf] using e3', ?_⟩
      unfold fillN
      rw [← e4, ← e3', List.take_length]
      simp [plug, intI]
    | @fn i us l os az ts hop hn hu hr =>
      have en : nextI (i :: (us ++ l) ++ r2) = i := rfl
      obtain ⟨u1, u2, u3⟩ := hu.told (l ++ r2)
      have hg : getM S.funs c0 (i :: (us ++ l) ++ r2) = (funI i, unisM S.funs us.length (us ++ (l ++ r2))) := by
        unfold getM
        rw [en, if_neg (by omega), if_neg (by omega), if_pos hop, hn]
        simp
      rw [hg] at hq hoc ⊢
      simp only [List.length_cons] at e3
      have e3' : ts.length = ps.length := by omega
      refine ⟨by rw [u1], l, ts ++ os, by rw [u1], hr, by rw [List.length_append, List.length_append, hoc, u3]; omega, ?_⟩
      unfold fillN
      simp only
      rw [← e4, ← e3', List.take_left, List.drop_left, u2]
      rfl
structure HGo (W0 w : World) (R fm bm : Nat) (S : TS) (kv : Nat → Value) (put : Ins) (p0 : Nat) (ps : List Nat) (fill : List Tm → Tm) (rest : List Ins) (bad : Bool) (H1 : Nat → Option NdS) (kv1 : Nat → Value) (vo : Value) (W : World) : Prop where
  tr : Tr W0 w R fm bm S kv W { S with rest := rest, bad := bad, H := H1 } kv1
  hq : HQ H1 p0 ps fill
  hp : HP S put ps fill rest bad
  op : RowQ W w.heap.size (ps.map PtN.mk) vo
  off : offP (Own R fm bm { S with rest := rest, bad := bad, H := H1 } kv1) vo
  w0 : W0.heap.size ≤ w.heap.size
/-- the term at the row's front was got, and what waits put behind the others -/
theorem HGo.step {W0 w wr W w5 w6 : World} {R fm bm : Nat} {S : TS} {kv kv1 kv5 : Nat → Value} {put : Ins} {p0 p : Nat} {ps qs : List Nat} {fill : List Tm → Tm} {rest : List Ins} {H1 H5 : Nat → Option NdS} {vo vt vo6 : Value} {c0 : Cel}
    (h : HGo W0 w R fm bm S kv put p0 (p :: ps) fill rest false H1 kv1 vo wr) (hbd : Below wr.heap.size wr W) (hto : vt.ownBlock = vo.ownBlock)
    (hT : TW W0 w5 R fm bm { S with rest := (getM S.funs c0 rest).2.2.1, bad := (getM S.funs c0 rest).2.2.2, H := H5 } kv5) (hk : KidsOf H1 H5 p (getM S.funs c0 rest).1 qs ((getM S.funs c0 rest).2.1.map Prod.fst) W.heap.size)
    (hf : FrP (Own R fm bm { S with rest := rest, bad := false, H := H1 } kv1) W w5) (hn : ∀ b, Own R fm bm { S with rest := (getM S.funs c0 rest).2.2.1, bad := (getM S.funs c0 rest).2.2.2, H := H5 } kv5 b → Own R fm bm { S with rest := rest, bad := false, H := H1 } kv1 b ∨ W.heap.size ≤ b)
    (hp6 : RowQ w6 w.heap.size (ps.map PtN.mk ++ (opensOf qs ((getM S.funs c0 rest).2.1.map Prod.snd)).map PtN.mk) vo6) (hg : w5.grownBy w6 vt.ownBlock) (hn6 : NewAtN w5 vt vo6) :
    HGo W0 w R fm bm S kv put p0 (ps ++ opensOf qs ((getM S.funs c0 rest).2.1.map Prod.snd)) (fillN fill ps.length (getM S.funs c0 rest).1 ((getM S.funs c0 rest).2.1.map Prod.fst) ((getM S.funs c0 rest).2.1.map Prod.snd)) (getM S.funs c0 rest).2.2.1 (getM S.funs c0 rest).2.2.2 H5 kv5 vo6 w6 := by
  have hf2 : Fr vt.ownBlock.toList w5 w6 := grown_frN hg
  have hoff : ∀ b, vt.ownBlock = some b → ¬ Own R fm bm { S with rest := (getM S.funs c0 rest).2.2.1, bad := (getM S.funs c0 rest).2.2.2, H := H5 } kv5 b := fun b hb e => by
    rw [hto] at hb
    have hl := h.op.lt b hb
    rcases hn b e with e | e
    · exact h.off b hb e
    · have := hbd.size
      omega
  have hW0w : ∀ b, vt.ownBlock = some b → W0.heap.size ≤ b := fun b hb => by
    rw [hto] at hb
    exact Nat.le_trans h.w0 (h.op.lt b hb).1
  have htr : Tr W0 w R fm bm S kv w5 { S with rest := (getM S.funs c0 rest).2.2.1, bad := (getM S.funs c0 rest).2.2.2, H := H5 } kv5 := (h.tr.below hbd).trans ⟨hT, hf, hn⟩
  refine ⟨?_, ?_, h.hp.step c0 (by rw [hk.len, List.length_map]), by rw [List.map_append]; exact hp6, fun b hb e => ?_, h.w0⟩
  · refine ⟨hT.fr hf2 (fun b hb => by simp at hb; exact hoff b hb) (fun b hb => by simp at hb; exact hW0w b hb), ?_, htr.new⟩
    refine ⟨hf2.os.trans htr.fr.os, hf2.tape.trans htr.fr.tape, hf2.output.trans htr.fr.output, Nat.le_trans htr.fr.size hf2.size, fun k hk hp => ?_⟩
    refine (hf2.block k (Nat.lt_of_lt_of_le hk htr.fr.size) (fun e => ?_)).trans (htr.fr.block k hk hp)
    simp at e
    rw [hto] at e
    have := (h.op.lt k e).1
    omega
  · exact h.hq.step hk (by simp) (fun b d hb => Nat.lt_of_lt_of_le (h.tr.tw.ownB b (.inr (.inr (.inr (.inl ⟨d, hb⟩))))).2 hbd.size)
  · rcases hn6 with e6 | ⟨b', e6, hb'⟩
    · exact hoff b (by rw [← e6]; exact hb) e
    · rw [hb] at e6; injection e6 with e6
      have := (hT.ownB b e).2
      omega
/-- what a head is told of -/
def HeadPost (W0 w : World) (R fm bm : Nat) (S : TS) (kv : Nat → Value) (put : Ins) (e : Ending) (W' : World) : Prop :=
  ∃ (a : Option Addr) (n c : Nat) (t : Tm) (rest : List Ins) (bad : Bool) (H1 : Nat → Option NdS) (kv1 : Nat → Value), e = .returned (.slice a n c) ∧ Tr W0 w R fm bm S kv W' { S with rest := rest, bad := bad, H := H1 } kv1 ∧ AccInv w.heap.size 79 t.flat (.slice a n c) W' ∧ offP (Own R fm bm { S with rest := rest, bad := bad, H := H1 } kv1) (.slice a n c) ∧ t.flat.length + rest.length ≤ 8 + S.rest.length ∧
    ∀ (ch0 : List Ins) (us0 : List Tm) (r2 : List Ins), S.rest = ch0 ++ r2 → HeadR S.funs ch0 us0 → us0.length = put.n.toNat → bad = false ∧ rest = r2 ∧ t = .mk (funI put) us0
theorem HGo.ends {W0 w W : World} {R fm bm : Nat} {S : TS} {kv kv1 : Nat → Value} {put : Ins} {p0 : Nat} {ps : List Nat} {fill : List Tm → Tm} {rest : List Ins} {bad : Bool} {H1 : Nat → Option NdS} {vo : Value} (h : HGo W0 w R fm bm S kv put p0 ps fill rest bad H1 kv1 vo W) (he : bad = true ∨ ps = []) :
    ∃ t, TrH H1 p0 t ∧ t.flat.length + rest.length ≤ 8 + S.rest.length ∧ ∀ (ch0 : List Ins) (us0 : List Tm) (r2 : List Ins), S.rest = ch0 ++ r2 → HeadR S.funs ch0 us0 → us0.length = put.n.toNat → bad = false ∧ rest = r2 ∧ t = .mk (funI put) us0 := by
  obtain ⟨ts, h1, h2, h3⟩ := h.hq.ends
  obtain ⟨K, hK, hF⟩ := h.hp.len
  refine ⟨fill ts, h3, ?_, fun ch0 us0 r2 q1 q2 q3 => ?_⟩
  · rw [hF ts h1]
    split at hK <;> omega
  · obtain ⟨e1, ch, us, e2, e3, e4, e5⟩ := h.hp.comp ch0 us0 r2 q1 q2 q3
    subst e1
    rcases he with he | rfl
    · cases he
    · have hu : us = [] := List.eq_nil_of_length_eq_zero e4
      have ht : ts = [] := List.eq_nil_of_length_eq_zero h1
      subst hu
      subst ht
      cases e3
      exact ⟨rfl, e2, e5⟩
/-- a fresh row of the head's cells -/
theorem HeadPost.of {W0 w W W' : World} {R fm bm : Nat} {S : TS} {kv kv1 : Nat → Value} {put : Ins} {t : Tm} {rest : List Ins} {bad : Bool} {H1 : Nat → Option NdS} {e : Ending} (hT : Tr W0 w R fm bm S kv W { S with rest := rest, bad := bad, H := H1 } kv1) (hl : t.flat.length + rest.length ≤ 8 + S.rest.length)
    (hc : ∀ (ch0 : List Ins) (us0 : List Tm) (r2 : List Ins), S.rest = ch0 ++ r2 → HeadR S.funs ch0 us0 → us0.length = put.n.toNat → bad = false ∧ rest = r2 ∧ t = .mk (funI put) us0) (h : CellsPost W t e W') : HeadPost W0 w R fm bm S kv put e W' := by
  obtain ⟨a, n, c, rfl, hA, hb⟩ := h
  refine ⟨a, n, c, t, rest, bad, H1, kv1, rfl, hT.below hb, hA.baseN hT.fr.size, fun b h1 h2 => ?_, hl, hc⟩
  have := (hA.lt b h1).1
  have := (hT.tw.ownB b h2).2
  omega
end Go.Proofs.Ytmmnfkggfnokjaa
set_option linter.unusedVariables false
namespace Go.Proofs.Ytmmnfkggfnokjaa
open Go.RowKit
theorem wpList_appQ {w : World} {ops : Array Oper} {rest : List Oper} {o : Oper} {a : Act} {Q : Exit → Act → World → Prop} (hgd : o.guard = none) (s x : Operand)
    (ho : o.op = .call { callee := .builtin .append, args := #[s, x], argTypes := #[225, 225] }) {B B1 : Nat} {v v2 : Value} {xs ys : List PtN} (h : RowQ w B xs v) (h2 : RowQ w B1 ys v2) (hB : B ≤ w.heap.size)
    (hs : a.eval s = v) (hx : a.eval x = v2) (hmax : xs.length + ys.length ≤ 1000000)
    (hK : ∀ v' w', RowQ w' B (xs ++ ys) v' → w.grownBy w' v.ownBlock → NewAtN w v v' → wpList Try.prog ops Q rest (a.put o.dst v') w') :
    wpList Try.prog ops Q (o :: rest) a w := by
  refine wpList_plain hgd fun K hK' => ?_
  obtain ⟨v', w', hr, h3, h4, h5⟩ := h.join h2 hB o.type hmax
  unfold Oper.wp execOp
  simp only [ho, resolve, invoke, builtin, Sem.run_bind, Sem.run_pure, Result.andThen_ok, List.map_toArray, List.map_cons, List.map_nil, hs, hx, hr]
  exact hK' _ _ (hK v' w' h3 h4 h5)
/-- the head's arguments, before anything is told of them -/
theorem HQ.start {H H1 : Nat → Option NdS} {p : Nat} {c : Cel} {qs : List Nat} {cs : List Cel} {B : Nat} (h : KidsOf H H1 p c qs cs B) : HQ H1 p qs (fun ts => .mk c ts) :=
  ⟨fun x hx => by
    obtain ⟨k, hk, e⟩ := List.getElem_of_mem hx
    obtain ⟨d, _, hd⟩ := h.leaf k x (by rw [List.getElem?_eq_getElem hk, e])
    exact ⟨d, hd⟩, h.nodup, fun H2 ts ha ht => .mk (ha p _ (fun e => by have := h.new p e; have := h.pB; omega) h.at_) ht⟩
structure HGo1 (W0 w w1 : World) (R fm bm : Nat) (S : TS) (kv : Nat → Value) (p : Nat) (c : Cel) (k : Nat) (qs : List Nat) (H1 : Nat → Option NdS) (kv1 : Nat → Value) (W : World) : Prop where
  tr : Tr W0 w R fm bm S kv W { S with rest := S.rest, bad := S.bad, H := H1 } kv1
  kid : KidsOf (updH S.H p ⟨c, []⟩) H1 p c qs (List.replicate k zeroC) w1.heap.size
  gr : w1.heap.size ≤ W.heap.size
set_option maxRecDepth 100000 in
set_option maxHeartbeats 12800000 in
theorem thead_any (W0 w : World) (R fm bm : Nat) (S : TS) (kv : Nat → Value) (hT : TW W0 w R fm bm S kv) (put : Ins) (hfit : put.fit) (h6 : put.n ≤ 6) (hbad : S.bad = false) :
    Calls Try.prog 153 #[.pointer (some ⟨R, 0, none⟩), put.v] w (HeadPost W0 w R fm bm S kv put) := by
  obtain ⟨o1, o2, x1', x2', a1, a2, hsz, hn1, hn2⟩ := hfit
  have hbx := (Below.refl w.heap.size w).new (.cells #[.int .i64 put.op, .int .i64 put.x, .int .i64 put.a, .string put.s, .int .i64 put.n, .bool put.neg] 90)
  have HT := mkHid hT
  have HBX0 := mkHid hbx
  have HW0 := mkHid hT.B0
  have HSL : Hid (S.rest.length ≤ 100000) := by obtain ⟨n, hn, _⟩ := hT.bt; exact hn.2
  have HBAD := mkHid hbad
  have HCF : Hid ((funI put).fit) := ⟨by show _ ≤ (3 : Int); omega, by show (3 : Int) ≤ _; omega, hn1, hn2, hsz⟩
  clear hT hbad hbx
  go_enter Try.func153, Try.ntmps153
  dsimp only [Ins.v]
  go_wp2_with fail
  refine (funC_any _ put).mono ?_
  rintro e w2 ⟨rfl, hb2⟩
  have HB2 := mkHid (HBX0.out.then hb2)
  have bx : w2.cell? ⟨w.heap.size, 4, none⟩ = some (.int .i64 put.n) := keep (World.cell?_alloc_at _ _ w.heap.size 4 rfl) hb2
  have HT2 := mkHid ((Tr.refl HT.out).below HB2.out)
  have HN2 := mkHid (Tr.newN HT2.out.tw (funI put) HCF.out)
  have HNB : Hid (w2.cell? ⟨w.heap.size, 4, none⟩ = some (.int .i64 put.n)) := bx
  have hlt : w.heap.size < w2.heap.size := by have := hb2.size; simp at this; omega
  have hne : ¬ w2.heap.size = w.heap.size := by omega
  have hne' : ¬ w.heap.size = w2.heap.size := by omega
  clear hb2
  have hG0 : HGo1 W0 w (w2.alloc (.cells #[.int .i64 3, .string put.s, .int .i64 put.n, .slice none 0 0] 227)) R fm bm S kv w2.heap.size (funI put) 0 [] (updH S.H w2.heap.size ⟨funI put, []⟩) (updV kv w2.heap.size (.slice none 0 0)) (w2.alloc (.cells #[.int .i64 3, .string put.s, .int .i64 put.n, .slice none 0 0] 227)) := by
    refine ⟨HT2.out.trans HN2.out, ?_, Nat.le_refl _⟩
    exact KidsOf.nil (updH_at _ _ _) (by simp)
  have HG0 := mkHid hG0
  clear hG0
  go_wp2_with fail
  obtain ⟨w3, hw3⟩ : ∃ X, (w2.alloc (.cells #[.int .i64 3, .string put.s, .int .i64 put.n, .slice none 0 0] 227)) = X := ⟨_, rfl⟩
  have hs3 : w3.heap.size = w2.heap.size + 1 := by rw [← hw3]; simp
  have HG0' := HG0.out
  rw [hw3] at HG0' ⊢
  clear HG0 hw3 bx
  have HG0 := mkHid HG0'
  clear HG0'
  obtain ⟨p, hpp⟩ : ∃ x, w2.heap.size = x := ⟨_, rfl⟩
  rw [hpp] at HG0 hs3 ⊢
  have HS3 := mkHid hs3
  clear hs3 hne hne' hlt HN2 HNB HT2
  go_loopw [13] (fun i wr => ∃ (k : Nat) (qs : List Nat) (H1 : Nat → Option NdS) (kv1 : Nat → Value), i = .int .i64 k ∧ k ≤ put.n.toNat ∧ Hid (HGo1 W0 w w3 R fm bm S kv p (funI put) k qs H1 kv1 wr)) (fun i wr => put.n.toNat - (intOf i).toNat)
  case atStart => exact ⟨0, [], _, _, rfl, Nat.zero_le _, HG0⟩
  case round =>
    clear HG0
    obtain ⟨k, qs, H1, kv1, rfl, hk, HU⟩ := hrel
    have HD := mkHid HU.out.kid.at_
    have HQL : Hid (qs.length = k) := by have := HU.out.kid.len; rw [List.length_replicate] at this; exact this
    obtain ⟨ka, kc, hkv, hk1, hk2⟩ := HU.out.tr.tw.kid_lit HD.out
    rw [List.length_map] at hkv hk1
    obtain ⟨_, _, _, n3, nfz⟩ := HU.out.tr.tw.cN HD.out
    rw [hkv] at n3
    have f3 := nfz 3
    have HKV := mkHid hkv
    clear hkv nfz
    by_cases hlt : (k : Int) < put.n
    · have hqp2 : p ≠ wr.heap.size := by have h1 := HU.out.kid.pB; have := HU.out.gr; omega
      have hqp : wr.heap.size ≠ p := fun e => hqp2 e.symm
      have HQP := mkHid hqp
      have HQP2 := mkHid hqp2
      clear hqp hqp2
      have hN1 := Tr.newN HU.out.tr.tw zeroC ⟨by decide, by decide, by decide, by decide, by decide⟩
      have hA1 : AccInv W0.heap.size 223 (qs.map PtN.mk) (kv1 p) (wr.alloc (.cells #[.int .i64 0, .string ⟨#[]⟩, .int .i64 0, .slice none 0 0] 227)) := (HU.out.tr.tw.nd p _ HD.out).2.2.2.below ((Below.refl _ _).new _)
      rw [HKV.out] at hA1
      have n3' := keep n3 ((Below.refl wr.heap.size wr).new (.cells #[.int .i64 0, .string ⟨#[]⟩, .int .i64 0, .slice none 0 0] 227))
      have HN1 := mkHid hN1
      have HA1 := mkHid hA1
      have hB1 : W0.heap.size ≤ (wr.alloc (.cells #[.int .i64 0, .string ⟨#[]⟩, .int .i64 0, .slice none 0 0] 227)).heap.size := hN1.tw.B0
      have hql9 : qs.length ≤ 100 := by have := HQL.out; omega
      clear hN1 hA1
      go_wp2_with (at_builtin; go_loud (refine wpList_accN (α := PtN) rfl _ _ 225 rfl W0.heap.size 223 8 _ Try.underlying225 Try.infoPtN rfl (by decide) _ (qs.map PtN.mk) HA1.out (by rfl) _ #[.pointer (some ⟨wr.heap.size, 0, none⟩)] ⟨wr.heap.size⟩ rfl (by rw [World.size_alloc]; rfl) (by rw [List.length_map]; omega) hB1 ?_; intro v' w3' ha3 hg3 hw3; obtain ⟨a3, n9, c3, rfl⟩ := slice_ofN ha3; obtain ⟨hT3, x3, y3⟩ := Tr.push HN1.out.tw (p := p) (d := ⟨funI put, qs.map PtN.mk⟩) (vp := .slice ka qs.length kc) (by show updH H1 wr.heap.size _ p = _; rw [updH_ne _ HQP2.out]; exact HD.out) (by rw [updV_ne _ HQP2.out]; exact HKV.out) ha3 hg3 hw3; have HT3 := mkHid (HU.out.tr.trans (HN1.out.trans hT3)); have HSZ := mkHid (HN1.out.trans hT3).fr.size; clear ha3 hg3 hw3 hT3))
      have HQ : Hid (wr.heap.size ∉ qs) := fun e => by
        obtain ⟨kq, hkq, e2⟩ := List.getElem_of_mem e
        obtain ⟨d9, _, h9⟩ := HU.out.kid.leaf kq wr.heap.size (by rw [List.getElem?_eq_getElem hkq, e2])
        have := (HU.out.tr.tw.ownB _ (.inr (.inr (.inr (.inl ⟨_, h9⟩))))).2
        omega
      have hqn : (updH (updH H1 wr.heap.size ⟨zeroC, []⟩) p ⟨funI put, qs.map PtN.mk ++ [⟨wr.heap.size⟩]⟩) wr.heap.size = some ⟨zeroC, []⟩ := by rw [updH_ne _ HQP.out, updH_at]
      have hH : updH (updH (updH H1 wr.heap.size ⟨zeroC, []⟩) p ⟨funI put, qs.map PtN.mk ++ [⟨wr.heap.size⟩]⟩) wr.heap.size ⟨zeroC, []⟩ = updH (updH H1 wr.heap.size ⟨zeroC, []⟩) p ⟨funI put, qs.map PtN.mk ++ [⟨wr.heap.size⟩]⟩ := funext fun b => by
        by_cases e : b = wr.heap.size
        · rw [e, updH_at, hqn]
        · rw [updH_ne _ e]
      have hks := HU.out.kid.snoc (d := zeroC) HU.out.gr HQ.out
      rw [hH] at hks
      have hks' : KidsOf (updH S.H p ⟨funI put, []⟩) (updH (updH H1 wr.heap.size ⟨zeroC, []⟩) p ⟨funI put, qs.map PtN.mk ++ [⟨wr.heap.size⟩]⟩) p (funI put) (qs ++ [wr.heap.size]) (List.replicate (k + 1) zeroC) w3.heap.size := by rw [List.replicate_succ']; exact hks
      have HKS := mkHid hks'
      clear hks hks' hH hqn x3 y3 n3 n3'
      go_wp2_with fail
      go_round
      case rel => exact ⟨k + 1, qs ++ [wr.heap.size], _, _, by go_num, by omega, mkHid ⟨HT3.out, HKS.out, by have := HU.out.gr; have := HSZ.out; omega⟩⟩
      case measure => simp [intOf]; omega
    · have hkn : k = put.n.toNat := by omega
      have HACC : Hid (AccInv W0.heap.size 223 (qs.map PtN.mk) (.slice ka qs.length kc) wr) := by
        have h := (HU.out.tr.tw.nd p _ HD.out).2.2.2
        rw [HKV.out] at h
        exact h
      have hwr : w.heap.size ≤ wr.heap.size := HU.out.tr.fr.size
      have hql9 : qs.length ≤ 6 := by have := HQL.out; omega
      have HKN : Hid (qs.length = put.n.toNat) := HQL.out.trans hkn
      clear hkn f3
      go_wp2_with (at_builtin; go_loud (refine wpList_appQ rfl _ _ rfl (RowQ.nil _ w.heap.size) (RowQ.ofAcc HACC.out) hwr (by rfl) (by rfl) (by simp; omega) ?_; intro v' w4 hp4 hg4 hn4))
      have hb4 : Below wr.heap.size wr w4 := ⟨hg4.os, hg4.tape, hg4.output, hg4.size, fun k hk => hg4.block k hk (fun e => by cases e)⟩
      have hG1 : HGo W0 w R fm bm S kv put p qs (fun ts => .mk (funI put) ts) S.rest S.bad H1 kv1 v' w4 := by
        refine ⟨HU.out.tr.below hb4, HQ.start HU.out.kid, HP.start HKN.out h6 HBAD.out, by simpa using hp4, fun b hb e => ?_, HW0.out⟩
        rcases hn4 with e4 | ⟨b', e4, hb'⟩
        · rw [e4] at hb; cases hb
        · rw [hb] at e4; injection e4 with e4
          have := (HU.out.tr.tw.ownB b e).2
          omega
      rw [HBAD.out] at hG1
      have HG1 := mkHid hG1
      clear hG1 hb4 hp4 hg4 hn4 HACC hk hlt n3
      go_wp2_with fail
      go_loopg [6] (1 + qs.length + S.rest.length) (fun kk vo wz => ∃ (ps : List Nat) (fill : List Tm → Tm) (rest : List Ins) (bad : Bool) (H2 : Nat → Option NdS) (kv2 : Nat → Value), Hid (HGo W0 w R fm bm S kv put p ps fill rest bad H2 kv2 vo wz) ∧ Hid (bad = false → kk = 1 + ps.length + rest.length))
      case atStart => exact ⟨qs, _, S.rest, false, H1, kv1, HG1, fun _ => rfl⟩
      case round =>
        clear HG1
        obtain ⟨ps, fill, rest, bad, H2, kv2, HG, HK⟩ := hrel
        obtain ⟨_, _, _, _, _, r3, rfz, _⟩ := HG.out.tr.tw.cR
        dsimp only at r3
        clear rfz
        have exit : bad = true ∨ ps = [] → ∃ t, Hid (TrH H2 p t) ∧ t.flat.length ≤ 900000000 ∧ ∀ e W', CellsPost wr t e W' → HeadPost W0 w R fm bm S kv put e W' := fun he => by
          obtain ⟨t, h1, h2, h3⟩ := HG.out.ends he
          have := HSL.out
          exact ⟨t, h1, by omega, fun e W' hc => HeadPost.of HG.out.tr h2 h3 hc⟩
        have EXIT := mkHid exit
        clear exit
        cases ps with
        | nil =>
          obtain ⟨so, sc, rfl, hs1, hs2⟩ := HG.out.op.slice
          obtain ⟨t, HTR, hfl, hpost⟩ := EXIT.out (.inr rfl)
          clear HK EXIT
          go_wp2_with fail
          refine (cells_any W0 _ R fm bm _ _ HG.out.tr.tw p t HTR.out hfl).mono ?_
          intro e w9 hc
          have hph := hpost e w9 hc
          obtain ⟨a9, n9, c9, rfl, _, _⟩ := hc
          have HPH := mkHid hph
          clear hph hpost
          go_wp2_with fail
          go_ret
          exact HPH.out
        | cons p1 ps =>
          obtain ⟨so, sc, rfl, hs1, hs2⟩ := HG.out.op.slice
          rw [List.map_cons, List.length_cons] at hs1 ⊢
          cases bad with
          | true =>
            obtain ⟨t, HTR, hfl, hpost⟩ := EXIT.out (.inl rfl)
            clear HK EXIT
            generalize hqs : ps.map PtN.mk = qs2 at *
            have HQS := mkHid hqs
            clear hqs
            go_wp2_with fail
            refine (cells_any W0 _ R fm bm _ _ HG.out.tr.tw p t HTR.out hfl).mono ?_
            intro e w9 hc
            have hph := hpost e w9 hc
            obtain ⟨a9, n9, c9, rfl, _, _⟩ := hc
            have HPH := mkHid hph
            clear hph hpost
            go_wp2_with fail
            go_ret
            exact HPH.out
          | false =>
            clear EXIT
            have HKK := mkHid (HK.out rfl)
            clear HK
            have hG := HG.out
            obtain ⟨K9, hK9, _⟩ := hG.hp.len
            have hpl : ps.length ≤ 200000 := by have h1 := HSL.out; simp only [List.length_cons, Bool.false_eq_true, if_false] at hK9; omega
            have hrl : rest.length ≤ 200000 := by have h1 := HSL.out; simp only [List.length_cons, Bool.false_eq_true, if_false] at hK9; omega
            clear hK9
            have HGL := mkHid (getM_len S.funs)
            have hop := hG.op
            rw [List.map_cons] at hop
            have hln : (ps.map PtN.mk).length ≤ 200000 := by rw [List.length_map]; exact hpl
            generalize hqs : ps.map PtN.mk = qs2 at *
            have HQS := mkHid hqs
            clear hqs
            obtain ⟨gb, off, cq, hsl, c0⟩ := hop.head
            cases hsl
            have HOP := mkHid hop
            have hcap : qs2.length + 1 ≤ sc := hs1
            obtain ⟨cc, hcc⟩ := hG.hq.leaf p1 List.mem_cons_self
            have HCC := mkHid hcc
            have HG9 := mkHid hG
            clear hop hG hcc HG
            go_wp2_with fail
            refine wp_region_noPanic ?_
            refine wp_region_held_drew (S := fun _ => True) (by kernel_rfl) trivial (fun _ => ?_)
            have hbd : Below wr.heap.size wr wr.drew := (Below.refl _ _).drew
            have d0 := keep c0 hbd
            clear c0
            obtain ⟨v0, hx0⟩ : ∃ X, wr.drew = X := ⟨_, rfl⟩
            rw [hx0] at hbd d0 ⊢
            clear hx0
            obtain ⟨off', hoff⟩ : ∃ off', (sc = 1 → off' = off) ∧ (¬ sc = 1 → off' = off + 1) := by
              by_cases h : sc = 1
              · exact ⟨off, fun _ => rfl, fun h2 => absurd h h2⟩
              · exact ⟨off + 1, fun h2 => absurd h2 h, fun _ => rfl⟩
            have hlen1 : (1 : Int) ≤ (qs2.length : Int) + 1 := by omega
            refine wpAnyH_take (i := 0) (oi := _) (v := ?_) rfl (by kernel_rfl) (by kernel_rfl) (by kernel_rfl) (fun _ _ _ h => h) (Or.inl ⟨by rfl, ?_⟩) (by assumption) ?_
            rotate_left
            · (intro w' _; go_simp; try with_reducible rfl)
            (try simp only [List.getElem_toArray, List.getElem_cons_succ, List.getElem_cons_zero, Act.put, List.setIfInBounds_toArray, List.set_cons_zero, List.set_cons_succ])
            have hoff2 : off' = off + 1 ∨ sc - 1 = 0 ∧ off' = off := by
              by_cases h : sc = 1
              · exact .inr ⟨by omega, hoff.1 h⟩
              · exact .inl (hoff.2 h)
            have HOF : Hid ((if sc = 1 then some (⟨gb, off, none⟩ : Addr) else some ⟨gb, off + 1, none⟩) = some ⟨gb, off', none⟩) := by
              by_cases h : sc = 1
              · rw [Hid, if_pos h, hoff.1 h]
              · rw [Hid, if_neg h, hoff.2 h]
            refine wpAnyH_take (i := 1) (oi := _) (v := .slice (some ⟨gb, off', none⟩) qs2.length (sc - 1)) rfl (by kernel_rfl) (by kernel_rfl) (by kernel_rfl) (fun _ _ _ h => h) (Or.inl ⟨by rfl, ?_⟩) (by assumption) ?_
            · (intro w' _; go_simp; try (first | with_reducible rfl | (exact HOF.out)))
            (try simp only [List.getElem_toArray, List.getElem_cons_succ, List.getElem_cons_zero, Act.put, List.setIfInBounds_toArray, List.set_cons_zero, List.set_cons_succ])
            refine wpAnyH_take (i := 2) (oi := _) (v := ?_) rfl (by kernel_rfl) (by kernel_rfl) (by kernel_rfl) (fun _ _ _ h => h) (Or.inl ⟨by rfl, ?_⟩) (by assumption) ?_
            rotate_left
            · (intro w' _; go_simp; try with_reducible rfl)
            (try simp only [List.getElem_toArray, List.getElem_cons_succ, List.getElem_cons_zero, Act.put, List.setIfInBounds_toArray, List.set_cons_zero, List.set_cons_succ])
            refine wpAnyH_take (i := 3) (oi := _) (v := ?_) rfl (by kernel_rfl) (by kernel_rfl) (by kernel_rfl) (fun _ _ _ h => h) (Or.inl ⟨by rfl, ?_⟩) (by assumption) ?_
            rotate_left
            · (intro w' _; go_simp; try with_reducible rfl)
            (try simp only [List.getElem_toArray, List.getElem_cons_succ, List.getElem_cons_zero, Act.put, List.setIfInBounds_toArray, List.set_cons_zero, List.set_cons_succ])
            refine wpAnyH_take (i := 4) (oi := _) (v := ?_) rfl (by kernel_rfl) (by kernel_rfl) (by kernel_rfl) (fun _ _ _ h => h) (Or.inl ⟨by rfl, ?_⟩) (by assumption) ?_
            rotate_left
            · (intro w' _; go_simp; try with_reducible rfl)
            (try simp only [List.getElem_toArray, List.getElem_cons_succ, List.getElem_cons_zero, Act.put, List.setIfInBounds_toArray, List.set_cons_zero, List.set_cons_succ])
            refine wpAnyH_ready (rs := [5]) (by kernel_rfl) (by simp) ?_
            refine AllReadyH.cons (o := _) rfl (fun K hK => ?_) AllReadyH.nil
            go_simp
            try dsimp only
            refine hK.out _ _ trivial (fun _ => ?_)
            clear hK K
            (try simp only [List.getElem_toArray, List.getElem_cons_succ, List.getElem_cons_zero, Act.put, List.setIfInBounds_toArray, List.set_cons_zero, List.set_cons_succ])
            refine wpAnyH_ready (rs := [6]) (by kernel_rfl) (by simp) ?_
            refine AllReadyH.cons (o := _) rfl (fun K hK => ?_) AllReadyH.nil
            go_simp
            have HT0 := mkHid (HG9.out.tr.tw.below hbd)
            have HTL : Hid (RowQ v0 w.heap.size qs2 (.slice (some ⟨gb, off', none⟩) qs2.length (sc - 1))) := (HOP.out.tail hoff2).below hbd
            refine (tget_any W0 v0 R fm bm _ kv2 HT0.out p1 cc HCC.out rfl).mono ?_
            rintro e w5 ⟨qs5, vo5, kv5, H5, rfl, hT5, hk5, ho5, hof5, hF5, hN5⟩
            dsimp only at hT5 hk5 ho5 hof5 hF5 hN5
            have hTL5 : RowQ w5 w.heap.size qs2 (.slice (some ⟨gb, off', none⟩) qs2.length (sc - 1)) := HTL.out.frP hF5 (fun b hb => HG9.out.off b hb)
            have hgl := HGL.out cc rest
            have hol : (opensOf qs5 ((getM S.funs cc rest).2.1.map Prod.snd)).length ≤ 300000 := by
              have h1 := opensOf_len qs5 ((getM S.funs cc rest).2.1.map Prod.snd)
              have h2 := hk5.len
              rw [List.length_map] at h2
              split at hgl <;> omega
            obtain ⟨v6, w6, hrun, hP6, hg6, hn6⟩ := hTL5.join (RowQ.ofAcc ho5) (Nat.le_trans HG9.out.tr.fr.size (Nat.le_trans hbd.size hF5.size)) 225 (by rw [List.length_map]; omega)
            rw [← HQS.out] at hP6
            have hG6 := HG9.out.step (vt := .slice (some ⟨gb, off', none⟩) qs2.length (sc - 1)) hbd rfl hT5 hk5 hF5 hN5 hP6 hg6 hn6
            have HML := mkHid (fun h => getM_less S.funs cc rest h)
            have HOL : Hid ((opensOf qs5 ((getM S.funs cc rest).2.1.map Prod.snd)).length ≤ (getM S.funs cc rest).2.1.length) := by
              have h1 := opensOf_len qs5 ((getM S.funs cc rest).2.1.map Prod.snd)
              have h2 := hk5.len
              rw [List.length_map] at h2
              rw [Hid]; omega
            have HG6 := mkHid hG6
            clear hG6 hP6 hg6 hn6 hT5 hk5 hF5 hN5 ho5 hof5 hTL5 hgl hol
            try dsimp only
            refine hK.out _ _ trivial (fun _ => ?_)
            clear hK K
            (try simp only [List.getElem_toArray, List.getElem_cons_succ, List.getElem_cons_zero, Act.put, List.setIfInBounds_toArray, List.set_cons_zero, List.set_cons_succ])
            refine wpAnyH_ready (rs := [7]) (by kernel_rfl) (by simp) ?_
            refine AllReadyH.cons (o := _) rfl (fun K hK => ?_) AllReadyH.nil
            (rw [if_pos (by rfl)]; simp [Oper.wp, execOp, resolve, invoke, builtin, Oper.upon, Act.eval, hrun, Result.andThen, Sem.run_bind])
            refine hK.out _ _ trivial (fun _ => ?_)
            clear hK K
            (try simp only [List.getElem_toArray, List.getElem_cons_succ, List.getElem_cons_zero, Act.put, List.setIfInBounds_toArray, List.set_cons_zero, List.set_cons_succ])
            refine wpAnyH_take (i := 8) (oi := _) (v := ?_) rfl (by kernel_rfl) (by kernel_rfl) (by kernel_rfl) (fun _ _ _ h => h) (Or.inl ⟨by rfl, ?_⟩) (by assumption) ?_
            rotate_left
            · (intro w' _; go_simp; try with_reducible rfl)
            (try simp only [List.getElem_toArray, List.getElem_cons_succ, List.getElem_cons_zero, Act.put, List.setIfInBounds_toArray, List.set_cons_zero, List.set_cons_succ])
            refine wpAnyH_done (by kernel_rfl) (NoPanic.normal ?_) _
            clear hrun d0
            go_wp2_with fail
            go_roundg (if (getM S.funs cc rest).2.2.2 = true then 0 else 1 + (ps ++ opensOf qs5 ((getM S.funs cc rest).2.1.map Prod.snd)).length + (getM S.funs cc rest).2.2.1.length)
            case rel => exact ⟨_, _, _, _, _, _, HG6, fun h => by rw [h]; simp⟩
            case measure =>
              have h1 := HKK.out
              have h2 := HML.out
              have h3 := HOL.out
              split
              · omega
              · rename_i hb
                have h4 := h2 (by simpa using hb)
                rw [List.length_append]; rw [List.length_cons] at h1; omega
end Go.Proofs.Ytmmnfkggfnokjaa
set_option linter.unusedVariables false
namespace Go.Proofs.Ytmmnfkggfnokjaa
open Go.RowKit
/-! ### taken -/
theorem MapV.run_delN {P : Program} {k e t : TypeId} {w : World} {b n : Nat} {f : Int → Option Value} (h : MapV P k w b n f) (hk : P.underlying k = some (.int .i64)) (ht : P.underlying t = some (.map k e)) {i : Int} (hi : (Lit.int .i64 i).wf = true) (ty : TypeId) :
    ∃ w', (Builtin.delete_ #[t, k] ty #[.map (some b), .int .i64 i]).run P w = .ok (.tuple #[]) w' ∧ MapV P k w' b n (fun j => if j = i then none else f j) ∧ w.grownBy w' (some b) := by
  obtain ⟨D, h, hf⟩ := h.ex
  obtain ⟨w', hrun, h1, h2⟩ := h.drop (Go.Maps.int_keyed hk) ht (Go.Maps.keyOf_int_mk hk hi) ty
  refine ⟨w', hrun, ⟨_, h1, fun j hj => ?_⟩, h2.grown⟩
  by_cases e : j = i
  · subst e
    rw [if_pos rfl]
    exact ⟨Go.Maps.has_del_same, fun z => Go.Maps.atKey_del_same _⟩
  · rw [if_neg e]
    obtain ⟨h1, h2⟩ := hf j hj
    exact ⟨by rw [← h1]; exact Go.Maps.has_del_other (by simp; exact e), fun z => by rw [← h2 z]; exact Go.Maps.atKey_del_other (by simp; exact e) _⟩
def delP (f : Int → Option Nat) (x : Int) : Int → Option Nat := fun j => if j = x then none else f j
def ptO : Option Nat → Value
  | some p => .pointer (some ⟨p, 0, none⟩)
  | none => .pointer none
theorem Try.zeroPtN (w : World) : (zeroValue 223).run Try.prog w = .ok (.pointer none) w := by kernel_rfl
set_option maxHeartbeats 3200000 in
theorem taken_any (W0 w : World) (R fm bm : Nat) (S : TS) (kv : Nat → Value) (hT : TW W0 w R fm bm S kv) (x : Int) (h1 : -9223372036854775808 ≤ x) (h2 : x ≤ 9223372036854775807) :
    Calls Try.prog 220 #[.pointer (some ⟨R, 0, none⟩), .int .i64 x] w fun e W' => e = .returned (.tuple #[ptO (S.built x), .bool (S.built x).isSome]) ∧ Tr W0 w R fm bm S kv W' { S with built := delP S.built x } kv := by
  obtain ⟨_, _, _, _, c2, _, _, _⟩ := hT.cR
  obtain ⟨n, hn, hm⟩ := hT.bt
  have hlk := hm.run_ok (t := 192) (e := 223) Try.underlying3 Try.underlying192 (Try.zeroPtN _) (wf64 h1 h2)
  obtain ⟨w5, hrun, hm5, hg5⟩ := hm.run_delN (t := 192) (e := 223) Try.underlying3 Try.underlying192 (wf64 h1 h2) 0
  have hf5 : Fr [bm] w w5 := grown_frN hg5
  have hT5 := Tr.of (hT.blkB hf5 (built := delP S.built x) hn (hm5.congr fun i => by unfold MapP delP; split <;> rfl))
  have hv : ((MapP S.built x).getD (.pointer none)) = ptO (S.built x) := by unfold MapP; cases S.built x <;> rfl
  have hi : (MapP S.built x).isSome = (S.built x).isSome := by unfold MapP; cases S.built x <;> rfl
  rw [hv, hi] at hlk
  have HT5 := mkHid hT5
  clear hT5 hf5 hg5 hm5 hv hi hm hT
  go_enter Try.func220, Try.ntmps220
  go_wp2_with fail
  exact bodyPost_ret (v := .tuple #[ptO (S.built x), .bool (S.built x).isSome]) (by simp [results, Try.results220, go_sem]) rfl ⟨rfl, HT5.out⟩
end Go.Proofs.Ytmmnfkggfnokjaa
set_option linter.unusedVariables false
namespace Go.Proofs.Ytmmnfkggfnokjaa
open Go.RowKit
/-! ### structures: what is plain of them -/
abbrev BL := List (Int × Tm)
def getB (B : BL) (x : Int) : Option Tm := (B.find? fun e => e.1 == x).map (·.2)
def dropB (B : BL) (x : Int) : BL := B.filter fun e => !(e.1 == x)
def sumB (B : BL) : Nat := (B.map fun e => e.2.flat.length).sum
theorem getB_drop (B : BL) (x j : Int) : getB (dropB B x) j = if j = x then none else getB B j := by
  induction B with
  | nil => simp [getB, dropB]
  | cons e B ih =>
    unfold getB dropB at *
    by_cases h : e.1 = x
    · subst h
      simp only [List.filter_cons, beq_self_eq_true, Bool.not_true, Bool.false_eq_true, if_false]
      rw [ih]
      split
      · rfl
      · rename_i hj
        rw [List.find?_cons_of_neg (by simpa using fun e => hj e.symm)]
    · have h' : (e.1 == x) = false := by simpa using h
      simp only [List.filter_cons, h', Bool.not_false, if_true]
      by_cases h2 : e.1 = j
      · subst h2
        rw [List.find?_cons_of_pos (by simp), List.find?_cons_of_pos (by simp), if_neg h]
      · rw [List.find?_cons_of_neg (by simpa using h2), List.find?_cons_of_neg (by simpa using h2), ih]
theorem dropB_le (B : BL) (x : Int) : sumB (dropB B x) ≤ sumB B := by
  induction B with
  | nil => simp [sumB, dropB]
  | cons e B ih =>
    unfold sumB dropB at *
    rw [List.filter_cons]
    split <;> simp only [List.map_cons, List.sum_cons] <;> omega
theorem dropB_get {B : BL} {x : Int} {t : Tm} (h : getB B x = some t) : sumB (dropB B x) + t.flat.length ≤ sumB B := by
  induction B with
  | nil => simp [getB] at h
  | cons e B ih =>
    by_cases h2 : e.1 = x
    · have ht : e.2 = t := by
        unfold getB at h
        rw [List.find?_cons_of_pos (by simpa using h2)] at h
        simpa using h
      have h3 := dropB_le B x
      unfold sumB dropB at *
      rw [List.filter_cons, if_neg (by simp [h2])]
      simp only [List.map_cons, List.sum_cons, ht]
      omega
    · have h4 : getB B x = some t := by
        unfold getB at h ⊢
        rw [List.find?_cons_of_neg (by simpa using h2)] at h
        exact h
      have h3 := ih h4
      unfold sumB dropB at *
      rw [List.filter_cons, if_pos (by simp [h2])]
      simp only [List.map_cons, List.sum_cons]
      omega
def putB (B : BL) (x : Int) (t : Tm) : BL := (x, t) :: dropB B x
theorem getB_put (B : BL) (x : Int) (t : Tm) (j : Int) : getB (putB B x t) j = if j = x then some t else getB B j := by
  unfold putB
  by_cases h : j = x
  · subst h
    unfold getB
    rw [List.find?_cons_of_pos (by simp)]
    simp
  · rw [if_neg h]
    have := getB_drop B x j
    rw [if_neg h] at this
    rw [← this]
    unfold getB
    rw [List.find?_cons_of_neg (by simpa using fun e => h e.symm)]
theorem sumB_put (B : BL) (x : Int) (t : Tm) : sumB (putB B x t) ≤ sumB B + t.flat.length := by
  have := dropB_le B x
  unfold putB
  unfold sumB at *
  simp only [List.map_cons, List.sum_cons]
  omega
def stepD (i : Ins) (B : BL) : Tm × BL × Bool :=
  if i.op = 9 then (vT i.x, B, false)
  else if i.op = 10 then ((getB B i.x).getD (vT i.x), dropB B i.x, false)
  else if i.op = 11 then (.mk (intI i) [], B, false)
  else (.mk zeroC [], B, true)
theorem leaf_len (c : Cel) : (Tm.mk c []).flat.length = 1 := by simp [Tm.flat, flats]
theorem stepD_len (i : Ins) (B : BL) : (stepD i B).1.flat.length + sumB (stepD i B).2.1 ≤ sumB B + 1 := by
  unfold stepD
  split
  · simp only [vT, leaf_len]; omega
  · split
    · simp only
      cases h : getB B i.x with
      | none => have := dropB_le B i.x; simp only [Option.getD_none, vT, leaf_len]; omega
      | some t => have := dropB_get h; simp only [Option.getD_some]; omega
    · split
      · simp only [leaf_len]; omega
      · simp only [leaf_len]; omega
def setsM : Nat → BL → List Ins → List Tm × BL × List Ins × Bool
  | 0, B, l => ([], B, l, false)
  | m + 1, B, l => if (stepD (nextI l) B).2.2 = true then ([(stepD (nextI l) B).1], (stepD (nextI l) B).2.1, l.tail, true) else ((stepD (nextI l) B).1 :: (setsM m (stepD (nextI l) B).2.1 l.tail).1, (setsM m (stepD (nextI l) B).2.1 l.tail).2)
theorem setsM_step (m : Nat) (B : BL) (l : List Ins) : setsM (m + 1) B l = if (stepD (nextI l) B).2.2 = true then ([(stepD (nextI l) B).1], (stepD (nextI l) B).2.1, l.tail, true) else ((stepD (nextI l) B).1 :: (setsM m (stepD (nextI l) B).2.1 l.tail).1, (setsM m (stepD (nextI l) B).2.1 l.tail).2) := rfl
theorem stepD_nil (B : BL) (l : List Ins) (h : (stepD (nextI l) B).2.2 = false) : l.tail.length + 1 = l.length := by
  cases l with
  | nil => exact absurd h (by simp [stepD, nextI, zeroI])
  | cons a l => rfl
theorem setsM_len : ∀ (m : Nat) (B : BL) (l : List Ins), (flats (setsM m B l).1).length + sumB (setsM m B l).2.1 + (setsM m B l).2.2.1.length ≤ sumB B + l.length + (if (setsM m B l).2.2.2 = true then 1 else 0) ∧ (setsM m B l).2.2.1.length ≤ l.length
  | 0, B, l => by simp [setsM, flats]
  | m + 1, B, l => by
    rw [setsM_step]
    have h1 := stepD_len (nextI l) B
    have ht := List.length_tail (l := l)
    split
    · simp only [flats, List.append_nil, if_true]; omega
    · rename_i hb
      have h2 := stepD_nil B l (by simpa using hb)
      obtain ⟨h3, h4⟩ := setsM_len m (stepD (nextI l) B).2.1 l.tail
      simp only [flats, List.length_append]
      omega
/-- what is left to be told, behind what was -/
def SEq (M : Nat) (B0 : BL) (l0 : List Ins) (done : List Tm) (B : BL) (rest : List Ins) (bad : Bool) : Prop := setsM M B0 l0 = if bad = true then (done, B, rest, true) else (done ++ (setsM (M - done.length) B rest).1, (setsM (M - done.length) B rest).2)
theorem SEq.start (M : Nat) (B0 : BL) (l0 : List Ins) : SEq M B0 l0 [] B0 l0 false := by simp [SEq]
theorem SEq.step {M : Nat} {B0 : BL} {l0 : List Ins} {done : List Tm} {B : BL} {rest : List Ins} (h : SEq M B0 l0 done B rest false) (hm : done.length < M) : SEq M B0 l0 (done ++ [(stepD (nextI rest) B).1]) (stepD (nextI rest) B).2.1 rest.tail (stepD (nextI rest) B).2.2 := by
  unfold SEq at h ⊢
  simp only [Bool.false_eq_true, if_false] at h
  rw [h, show M - done.length = (M - (done.length + 1)) + 1 by omega, setsM_step]
  by_cases hb : (stepD (nextI rest) B).2.2 = true
  · simp [hb]
  · simp only [hb, if_false, Bool.false_eq_true, List.length_append, List.length_cons, List.length_nil]
    simp
theorem SEq.ends {M : Nat} {B0 : BL} {l0 : List Ins} {done : List Tm} {B : BL} {rest : List Ins} {bad : Bool} (h : SEq M B0 l0 done B rest bad) (hm : bad = true ∨ M ≤ done.length) : setsM M B0 l0 = (done, B, rest, bad) := by
  unfold SEq at h
  cases bad with
  | true => simpa using h
  | false =>
    rcases hm with e | hm
    · cases e
    · simp only [Bool.false_eq_true, if_false] at h
      rw [show M - done.length = 0 by omega] at h
      simpa [setsM] using h
theorem SetsR.told {us : List Ins} {G G' : Blt} {ts : List Tm} (h : SetsR us G ts G') : ∀ (B : BL) (l : List Ins), (∀ j, getB B j = G j) → ∃ B', setsM us.length B (us ++ l) = (ts, B', l, false) ∧ ∀ j, getB B' j = G' j := by
  induction h with
  | nil G => intro B l hB; exact ⟨B, rfl, hB⟩
  | @cons i us G G1 G2 t ts h hs ih =>
    intro B l hB
    have key : ∃ B1, stepD i B = (t, B1, false) ∧ ∀ j, getB B1 j = G1 j := by
      unfold setD at h
      unfold stepD
      split at h
      · rename_i h9
        cases h
        rw [if_pos h9]
        exact ⟨B, rfl, hB⟩
      · rename_i h9
        rw [if_neg h9]
        split at h
        · rename_i h10
          cases h
          rw [if_pos h10, hB]
          exact ⟨dropB B i.x, rfl, fun j => by rw [getB_drop, hB]; rfl⟩
        · rename_i h10
          rw [if_neg h10]
          split at h
          · rename_i h11
            cases h
            rw [if_pos h11]
            exact ⟨B, rfl, hB⟩
          · cases h
    obtain ⟨B1, e1, hB1⟩ := key
    obtain ⟨B2, e2, hB2⟩ := ih B1 l hB1
    refine ⟨B2, ?_, hB2⟩
    have en : nextI (i :: us ++ l) = i := rfl
    have et : (i :: us ++ l).tail = us ++ l := rfl
    rw [List.length_cons, setsM_step, en, et, e1]
    simp [e2]
/-! #### trees in memory while a node is put together -/
def hidH (H : Nat → Option NdS) (p : Nat) : Nat → Option NdS := fun b => if b = p then none else H b
mutual
theorem TrH.mono {H H' : Nat → Option NdS} (hH : ∀ b d, H b = some d → H' b = some d) : ∀ {p : Nat} {t : Tm}, TrH H p t → TrH H' p t
  | _, _, .mk h hs => .mk (hH _ _ h) (TrHs.mono hH hs)
theorem TrHs.mono {H H' : Nat → Option NdS} (hH : ∀ b d, H b = some d → H' b = some d) : ∀ {ks : List PtN} {ts : List Tm}, TrHs H ks ts → TrHs H' ks ts
  | _, _, .nil => .nil
  | _, _, .cons h hs => .cons (TrH.mono hH h) (TrHs.mono hH hs)
end
/-- what is built, as trees -/
def BtOk (H : Nat → Option NdS) (built : Int → Option Nat) (B : BL) : Prop := ∀ i, (built i = none ∧ getB B i = none) ∨ ∃ p t, built i = some p ∧ getB B i = some t ∧ TrH H p t
theorem BtOk.mono {H H' : Nat → Option NdS} {built : Int → Option Nat} {B : BL} (h : BtOk H built B) (hH : ∀ b d, H b = some d → H' b = some d) : BtOk H' built B := fun i => (h i).imp id fun ⟨p, t, a, b, c⟩ => ⟨p, t, a, b, c.mono hH⟩
theorem BtOk.drop {H : Nat → Option NdS} {built : Int → Option Nat} {B : BL} (h : BtOk H built B) (x : Int) : BtOk H (delP built x) (dropB B x) := fun i => by
  rw [getB_drop]
  unfold delP
  split
  · exact .inl ⟨rfl, rfl⟩
  · exact h i
theorem hidH_sub (H : Nat → Option NdS) (p : Nat) : ∀ b d, hidH H p b = some d → H b = some d := fun b d h => by
  unfold hidH at h
  split at h
  · cases h
  · exact h
theorem hidH_up {H H' : Nat → Option NdS} {p : Nat} (h : ∀ b d, b ≠ p → H b = some d → H' b = some d) : ∀ b d, hidH H p b = some d → hidH H' p b = some d := fun b d hb => by
  unfold hidH at hb ⊢
  split at hb
  · cases hb
  · rename_i hne
    rw [if_neg hne]
    exact h b d hne hb
end Go.Proofs.Ytmmnfkggfnokjaa
