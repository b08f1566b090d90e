import Derived.Test.YtnpffificfghpaaZr5
import Derived.Deep.Slices
import Derived.Deep.Fields
import Derived.ChangeSame
import Derived.ProofKit
import Derived.OpenShut
import Derived.ShutString
import Derived.ChangeOld
import Derived.Lib.SmallJoins
set_option linter.unusedVariables false
namespace Go.Proofs.Ytnpffificfghpaa
open Go.RowKit

/-! ### begun -/
section
variable {α : Type} [RepC α] {V w : World} {t B e bytes : Nat} {z : Value}
/-- append of one that was laid at a block, and where the row lies then -/
theorem appLitW (ht : Try.prog.underlying t = some (.slice e)) (hinfo : (Try.prog.info? e).map (fun i => (i.zero, i.size, i.bytes)) = some (some z, Rep.sz α, bytes)) (hzs : z.cells.size = Rep.sz α) (hby : bytes ≤ 1000)
    {v : Value} {acc : List α} (h : VOwn V B e acc v w) {cs : Array Value} {y : α} (hcs : RepC.C V cs.toList y) {g T : Nat} (hg : w.heap[g]? = some (.cells cs T (0, 0))) (hmax : acc.length + 1 ≤ 1000000000) (hB : B ≤ w.heap.size) :
    ∃ v' w', (Builtin.append_ #[t, t] t #[v, .slice (some ⟨g, 0, none⟩) 1 1]).run Try.prog w = .ok v' w' ∧ VOwn V B e (acc ++ [y]) v' w' ∧ Below B w w' ∧ w.grownBy w' v.ownBlock ∧ (v'.ownBlock = v.ownBlock ∨ v'.ownBlock = some w.heap.size) := by
  obtain ⟨vs, hown, hc⟩ := h
  obtain ⟨i, hi, hz0, hz1, hz2⟩ := info_parts hinfo
  have hb : (acc.length + 1) * bytes ≤ 140737488355328 := Nat.le_trans (Nat.mul_le_mul hmax hby) (by decide)
  obtain ⟨v', w', hr, h2, h3, h4⟩ := run_append_where (P := Try.prog) w B t t e i z (Rep.sz α) bytes ht hi hz0 hz1 hz2 hzs RepC.pos v acc.length vs hown ⟨g, 0, none⟩ 1 1 cs.toList (by have := RepC.len hcs; simpa using this) (fun j u hj => by
    have e1 : (Addr.mk g 0 none).add j = ⟨g, j, none⟩ := by
      have h := add_litR g 0 j
      rw [Nat.zero_add] at h
      exact h
    rw [e1, cell_of_row w g j _ _ _ hg, ← hj]
    simp) (fun u hu => RepC.one hcs u hu) (by unfold maxLen; omega) hb hB
  exact ⟨v', w', hr, ⟨vs ++ cs.toList, by rw [List.length_append]; exact h2, hc.snoc hcs⟩, grown_below h3 hown hB, h3, h4⟩
end
/-- a change made of any one -/
noncomputable def madeC (c : Lt) : Lt := ⟨c.neg, madeF c.t⟩
theorem made_take {l : List Lt} {k : Nat} (hk : k < l.length) : (l.take (k + 1)).map madeC = (l.take k).map madeC ++ [madeC l[k]] := by
  rw [List.take_succ_eq_append_getElem hk, List.map_append]; rfl
/-- what stands between two rounds -/
structure Beg (w0 w : World) (f : List (List Cel)) (v : Int) (cs : List Lt) (ad : Option Addr) (cd : Nat) : Prop where
  ex : ∃ a2 c2 a3 c3, w.heap[w0.heap.size]? = some (.cells #[.slice a2 f.length c2, .int .i64 v, .bool true, .slice a3 cs.length c3] 25 (0, 0)) ∧ BR (veil (w0.heap.size :: (w0.heap.size + 1) :: (Value.slice ad cs.length cd).ownBlock.toList) w) a2 c2 f a3 c3 cs
  res : w.heap[w0.heap.size + 1]? = some (.cells #[.slice none 0 0, .int .i64 0, .bool false, .slice none 0 0] 25 (0, 0))
  own : VOwn (veil (w0.heap.size :: (w0.heap.size + 1) :: (Value.slice ad cs.length cd).ownBlock.toList) w) (w0.heap.size + 2) 32 cs (.slice ad cs.length cd) w
  bel : Below w0.heap.size w0 w
  size : w0.heap.size + 2 ≤ w.heap.size
theorem Beg.lt {w0 w : World} {f : List (List Cel)} {v : Int} {cs : List Lt} {ad : Option Addr} {cd : Nat} (h : Beg w0 w f v cs ad cd) : ∀ k ∈ w0.heap.size :: (w0.heap.size + 1) :: (Value.slice ad cs.length cd).ownBlock.toList, k < w.heap.size := fun k hk => by
  have h1 := h.size
  rcases List.mem_cons.1 hk with hk | hk
  · omega
  · rcases List.mem_cons.1 hk with hk | hk
    · omega
    · exact (h.own.lt k (by simpa using hk)).2
theorem Beg.below {w0 w w' : World} {f : List (List Cel)} {v : Int} {cs : List Lt} {ad : Option Addr} {cd : Nat} (h : Beg w0 w f v cs ad cd) (hb : Below w.heap.size w w') : Beg w0 w' f v cs ad cd := by
  obtain ⟨a2, c2, a3, c3, h1, h2⟩ := h.ex
  have hs := h.size
  have hs2 := hb.size
  exact ⟨⟨a2, c2, a3, c3, (hb.block _ (by omega)).trans h1, h2.keeps (Fr.of hb).keeps⟩, (hb.block _ (by omega)).trans h.res, (h.own.view (Fr.of hb).keeps).below hb, h.bel.then hb, by omega⟩
/-- the box gets the base that was changed -/
theorem Beg.put {w0 w : World} {f : List (List Cel)} {v : Int} {cs ds : List Lt} {ad : Option Addr} {cd : Nat} (h : Beg w0 w f v cs ad cd) {a5 a6 : Option Addr} {c5 c6 : Nat} (hbr : BR (veil (w0.heap.size :: (w0.heap.size + 1) :: (Value.slice ad cs.length cd).ownBlock.toList) w) a5 c5 f a6 c6 ds) {w' : World}
    (hw : (((w.setCell ⟨w0.heap.size, 0, none⟩ (.slice a5 f.length c5)).setCell ⟨w0.heap.size, 1, none⟩ (.int .i64 v)).setCell ⟨w0.heap.size, 2, none⟩ (.bool true)).setCell ⟨w0.heap.size, 3, none⟩ (.slice a6 ds.length c6) = w') :
    w'.heap[w0.heap.size]? = some (.cells #[.slice a5 f.length c5, .int .i64 v, .bool true, .slice a6 ds.length c6] 25 (0, 0)) ∧
    BR (veil (w0.heap.size :: (w0.heap.size + 1) :: (Value.slice ad cs.length cd).ownBlock.toList) w') a5 c5 f a6 c6 ds ∧
    w'.heap[w0.heap.size + 1]? = some (.cells #[.slice none 0 0, .int .i64 0, .bool false, .slice none 0 0] 25 (0, 0)) ∧
    VOwn (veil (w0.heap.size :: (w0.heap.size + 1) :: (Value.slice ad cs.length cd).ownBlock.toList) w') (w0.heap.size + 2) 32 cs (.slice ad cs.length cd) w' ∧
    Below w0.heap.size w0 w' ∧ w.heap.size ≤ w'.heap.size ∧ Fr [w0.heap.size] w w' := by
  obtain ⟨a2, c2, a3, c3, h1, h2⟩ := h.ex
  have hf : Fr [w0.heap.size] w w' := by rw [← hw]; exact Fr.four (Fr.refl _ _) (by simp) _ _ _ _
  have hfu : Fr (w0.heap.size :: (w0.heap.size + 1) :: (Value.slice ad cs.length cd).ownBlock.toList) w w' := hf.sub fun k hk => by
    rw [List.mem_singleton] at hk; rw [hk]; exact List.mem_cons_self
  have hs := h.size
  refine ⟨by rw [← hw]; exact st_all h1 _ _ _ _, hbr.keeps hfu.keeps, (hf.block _ (by omega) (by simp)).trans h.res, (h.own.view hfu.keeps).far fun k hk => ?_, by rw [← hw]; exact below_four h.bel (Nat.le_refl _) _ _ _ _, hf.size, hf⟩
  have h3 := h.own.lt k hk
  exact hf.block k h3.2 (by simp; omega)
/-- and the change is appended to those that were made -/
theorem Beg.app {w0 w w1 : World} {f : List (List Cel)} {v : Int} {cs : List Lt} {ad a5 a6 ya : Option Addr} {cd c5 c6 yc : Nat} {y : Lt}
    (h1 : w.heap[w0.heap.size]? = some (.cells #[.slice a5 f.length c5, .int .i64 v, .bool true, .slice a6 (cs ++ [y]).length c6] 25 (0, 0)))
    (h2 : BR (veil (w0.heap.size :: (w0.heap.size + 1) :: (Value.slice ad cs.length cd).ownBlock.toList) w) a5 c5 f a6 c6 (cs ++ [y]))
    (h3 : w.heap[w0.heap.size + 1]? = some (.cells #[.slice none 0 0, .int .i64 0, .bool false, .slice none 0 0] 25 (0, 0)))
    (h4 : VOwn (veil (w0.heap.size :: (w0.heap.size + 1) :: (Value.slice ad cs.length cd).ownBlock.toList) w) (w0.heap.size + 2) 32 cs (.slice ad cs.length cd) w)
    (h5 : Below w0.heap.size w0 w) (h6 : w0.heap.size + 2 ≤ w.heap.size) (hl : cs.length ≤ 1000)
    (hy : Row (veil (w0.heap.size :: (w0.heap.size + 1) :: (Value.slice ad cs.length cd).ownBlock.toList) w) ya yc y.t)
    (hw : w.alloc (.cells #[.bool y.neg, .slice ya y.t.length yc] 32) = w1) :
    ∃ ae ce w2, (Builtin.append_ #[23, 23] 23 #[.slice ad cs.length cd, .slice (some ⟨w.heap.size, 0, none⟩) 1 1]).run Try.prog w1 = .ok (.slice ae (cs ++ [y]).length ce) w2 ∧ Beg w0 w2 f v (cs ++ [y]) ae ce := by
  have hba : Below w.heap.size w w1 := by rw [← hw]; exact (Below.refl _ _).new _
  have hlit : w1.heap[w.heap.size]? = some (.cells #[.bool y.neg, .slice ya y.t.length yc] 32 (0, 0)) := by rw [← hw]; exact heap_alloc_new _ _
  have hs1 := hba.size
  obtain ⟨v9, w2, hrun, hv9, hb9, hg9, hwh⟩ := appLitW Try.underlying23 Try.infoChg (by decide) (by decide) ((h4.view (Fr.of hba).keeps).below hba) (lt_cR (hy.keeps (Fr.of hba).keeps)) hlit (by omega) (by omega)
  obtain ⟨ae, ce, rfl, _⟩ := hv9.slice
  have hfu : Fr (w0.heap.size :: (w0.heap.size + 1) :: (Value.slice ad cs.length cd).ownBlock.toList) w1 w2 := ⟨hg9.os, hg9.tape, hg9.output, hg9.size, fun k hk hn => hg9.block k hk fun e => hn (by
    refine List.mem_cons_of_mem _ (List.mem_cons_of_mem _ ?_)
    rw [← e]; simp)⟩
  have hto : ∀ k ∈ w0.heap.size :: (w0.heap.size + 1) :: (Value.slice ae (cs ++ [y]).length ce).ownBlock.toList, k ∈ w0.heap.size :: (w0.heap.size + 1) :: (Value.slice ad cs.length cd).ownBlock.toList ∨ w1.heap.size ≤ k := fun k hk => by
    rcases List.mem_cons.1 hk with hk | hk
    · exact .inl (by rw [hk]; exact List.mem_cons_self)
    · rcases List.mem_cons.1 hk with hk | hk
      · exact .inl (by rw [hk]; exact List.mem_cons_of_mem _ List.mem_cons_self)
      · rcases hwh with e | e
        · left
          rw [e] at hk
          exact List.mem_cons_of_mem _ (List.mem_cons_of_mem _ hk)
        · right
          rw [e] at hk
          simp at hk
          omega
  have hn : ∀ k, k < w0.heap.size + 2 → (Value.slice ad cs.length cd).ownBlock ≠ some k := fun k hk e => by
    have := (h4.lt k e).1
    omega
  refine ⟨ae, ce, w2, hrun, ⟨⟨a5, c5, a6, c6, ?_, veil_br (h2.keeps (Fr.of hba).keeps) hfu hto⟩, ?_, hv9.view (veil_toR hfu hto), ?_, by have := hg9.size; omega⟩⟩
  · exact (hg9.block _ (by omega) fun e => hn _ (by omega) e.symm).trans ((hba.block _ (by omega)).trans h1)
  · exact (hg9.block _ (by omega) fun e => hn _ (by omega) e.symm).trans ((hba.block _ (by omega)).trans h3)
  · exact (h5.then hba).trans (hb9.mono (by omega))

set_option maxHeartbeats 6400000 in
set_option maxRecDepth 100000 in
theorem begun_any (w : World) (a : Option Addr) (c : Nat) (f : List (List Cel)) (v : Int) (a' : Option Addr) (c' : Nat) (la : Option Addr) (lc : Nat) (l : List Lt) (h : BR w a c f a' c' []) (hF : FR f) (hr : Row w la lc l) (cs : List Lt) (hcs : Hid ((l.take 60).map madeC = cs)) :
    Calls Try.prog 33 #[.agg #[.slice a f.length c, .int .i64 v, .bool false, .slice a' 0 c'], .slice la l.length lc] w fun e w' =>
      ∃ a2 c2 a3 c3 a4 c4, e = .returned (.tuple #[.agg #[.slice a2 f.length c2, .int .i64 v, .bool true, .slice a3 cs.length c3], .slice a4 cs.length c4]) ∧ BR w' a2 c2 f a3 c3 cs ∧ Row w' a4 c4 cs ∧ (∀ q ∈ cs, factB q.t = true) ∧ Below w.heap.size w w' := by
  obtain ⟨W, hW⟩ : ∃ W, (w.alloc (.cells #[.slice a f.length c, .int .i64 v, .bool false, .slice a' 0 c'] 25)).alloc (.cells #[.slice none 0 0, .int .i64 0, .bool false, .slice none 0 0] 25) = W := ⟨_, rfl⟩
  have HE : Hid (Ent w W a c f v false a' c' []) := by rw [Hid, ← hW]; exact ent_made h
  have ok0 : OkB f [] := ⟨hF, by simp, by simp⟩
  have HC := mkHid (begin_off W a c f v a' c' [] (h.below HE.out.bel) ok0)
  have hlm := hr.max
  have hll := hr.le
  have HL0 := mkHid hr
  have HFR := mkHid hF
  obtain ⟨e0, e1, e2, e3⟩ := HE.out.arg.cells
  clear h hr ok0 hF
  go_enter Try.func33, Try.ntmps33
  go_wp2_with fail
  first | rw [hW] | skip
  clear hW
  refine HC.out.mono ?_
  rintro e w2 ⟨a2, c2, a3, c3, rfl, hbr2, hb2⟩
  have HA2 := mkHid (HE.out.arg.below hb2)
  have HR2 := mkHid (HE.out.res.below hb2)
  have HBR2 := mkHid hbr2
  have HB2 := mkHid (HE.out.bel.then hb2)
  have HS2 : Hid (w.heap.size + 2 ≤ w2.heap.size) := by have h1 := HE.out.size; have h2 := hb2.size; rw [Hid]; omega
  obtain ⟨l0, l1, l2, l3⟩ := HA2.out.cells
  obtain ⟨k0, k1, k2, k3⟩ := HA2.out.free
  obtain ⟨w3, hw3⟩ : ∃ w3, (((w2.setCell ⟨w.heap.size, 0, none⟩ (.slice a2 f.length c2)).setCell ⟨w.heap.size, 1, none⟩ (.int .i64 v)).setCell ⟨w.heap.size, 2, none⟩ (.bool true)).setCell ⟨w.heap.size, 3, none⟩ (.slice a3 0 c3) = w3 := ⟨_, rfl⟩
  have hne0 : NEf f ∧ NEt [] := ⟨HFR.out.ne, noB_ne.2⟩
  have HX3 : Hid (w3.heap[w.heap.size]? = some (.cells #[.slice a2 f.length c2, .int .i64 v, .bool true, .slice a3 0 c3] 25 (0, 0))) := by rw [Hid, ← hw3]; exact st_all HA2.out.1 _ _ _ _
  have hf3 : Fr [w.heap.size] w2 w3 := by rw [← hw3]; exact Fr.four (Fr.refl _ _) (by simp) _ _ _ _
  have HZ3 : Hid (w3.heap[w.heap.size + 1]? = some (.cells #[.slice none 0 0, .int .i64 0, .bool false, .slice none 0 0] 25 (0, 0))) := (hf3.block _ HR2.out.lt (by simp)).trans HR2.out.1
  have HF3 : Hid (Row (veil [w.heap.size, w.heap.size + 1] w3) a2 c2 f) := by
    have h1 := HA2.out.rows hne0.1 HBR2.out.f
    refine ⟨h1.le, h1.max, h1.nil, fun i x hi => ?_⟩
    obtain ⟨b, off, eo, he⟩ := HBR2.out.f.at_ i x hi
    obtain ⟨aa, cc, hc2, hr2⟩ := (show ListE w2 b _ _ from he).ex
    have hx : x ≠ [] := hne0.1 x (List.mem_of_getElem? hi)
    have n1 : b ≠ w.heap.size := by rintro rfl; exact HA2.out.head (n := 0) hx hc2 hr2
    have n2 : b ≠ w.heap.size + 1 := by rintro rfl; exact HR2.out.head (n := 0) hx hc2 hr2
    have key : ∀ {b o : Nat} {u : Value}, b ≠ w.heap.size → b ≠ w.heap.size + 1 → w2.cell? ⟨b, o, none⟩ = some u → (veil [w.heap.size, w.heap.size + 1] w3).cell? ⟨b, o, none⟩ = some u := fun {b o u} q1 q2 q => by
      refine veil_of (by simp; exact ⟨q1, q2⟩) ?_
      exact (World.cell?_of_block (w := w2) (a := ⟨b, o, none⟩) (hf3.block b (cell_lt q) (by simp; exact q1))).trans q
    refine ⟨b, off, eo, ⟨aa, cc, key n1 n2 hc2, ⟨hr2.le, hr2.max, hr2.nil, fun j q hj => ?_⟩⟩⟩
    obtain ⟨b', off', eo', he'⟩ := hr2.at_ j q hj
    have m1 := HA2.out.cel he'
    have m2 := HR2.out.cel he'
    have he' : CelAt w2 b' _ q := he'
    exact ⟨b', off', eo', ⟨key m1 m2 he'.c0, key m1 m2 he'.c1, key m1 m2 he'.c2, he'.fit⟩⟩
  have HB3 : Hid (Below w.heap.size w w3) := by rw [Hid, ← hw3]; exact below_four HB2.out (Nat.le_refl _) _ _ _ _
  have HT3 : Hid (a3 = none → c3 = 0) := HBR2.out.t.nil
  have hm3 := HBR2.out.t.max
  have HS3 : Hid (w.heap.size + 2 ≤ w3.heap.size) := Nat.le_trans HS2.out hf3.size
  have HBG0 : Hid (Beg w (w3.alloc (.cells #[] 32)) f v [] (some ⟨w3.heap.size, 0, none⟩) 0) := by
    have hba : Below w3.heap.size w3 (w3.alloc (.cells #[] 32)) := (Below.refl _ _).new _
    have hus : (Value.slice (some ⟨w3.heap.size, 0, none⟩) ([] : List Lt).length 0).ownBlock.toList = [w3.heap.size] := rfl
    have h2 := HS3.out
    refine ⟨⟨a2, c2, a3, c3, (hba.block _ (by omega)).trans HX3.out, ⟨HF3.out.keeps ?_, Row.empty _ _ _ hm3 HT3.out⟩⟩, (hba.block _ (by omega)).trans HZ3.out, ?_, HB3.out.then hba, by simp; omega⟩
    · rw [hus]
      exact veil_toR (Fr.of hba) fun k hk => by
        rcases List.mem_cons.1 hk with h | h
        · exact .inl (by rw [h]; simp)
        · rcases List.mem_cons.1 h with h | h
          · exact .inl (by rw [h]; simp)
          · right; rw [List.mem_singleton] at h; omega
    · exact VOwn.made _ w3 h2
  have HI0 : Hid ((l.take 0).map madeC = []) := rfl
  have HQ0 : Hid (∀ q ∈ ([] : List Lt), factB q.t = true) := fun q hq => by simp at hq
  clear hbr2 hb2 e0 e1 e2 e3 HC HE HA2 HR2 HBR2 HB2 HS2 hf3 hne0 HX3 HZ3 HF3 HT3 hm3
  go_wp2_with fail
  first | rw [hw3] | skip
  clear hw3
  go_loopw [6, 7] (fun d i wr => ∃ (k : Nat) (CS : List Lt) (ad : Option Addr) (cd : Nat), k ≤ l.length ∧ k ≤ 60 ∧ i = .int .i64 k ∧ d = .slice ad CS.length cd ∧ Hid (Beg w wr f v CS ad cd) ∧ Hid ((l.take k).map madeC = CS) ∧ Hid (∀ q ∈ CS, factB q.t = true)) (fun d i wr => l.length - (intOf i).toNat)
  case atStart => exact ⟨0, [], some ⟨w3.heap.size, 0, none⟩, 0, Nat.zero_le _, Nat.zero_le _, rfl, rfl, HBG0, HI0, HQ0⟩
  case round =>
    clear HBG0 HI0 HQ0 l0 l1 l2 l3 k0 k1 k2 k3
    obtain ⟨k, CS, ad, cd, hk, hk6, rfl, rfl, HBG, HCS, HCF⟩ := hrel
    have HCL : Hid (CS.length ≤ 60) := by rw [Hid, ← HCS.out, List.length_map, List.length_take]; omega
    by_cases hlt : k < l.length
    · by_cases hl6 : k < 60
      · obtain ⟨lb, lo, rfl, hlb, hat⟩ := HL0.out.cases.resolve_left (fun e => by simp [e] at hlt)
        obtain ⟨xa, xc, d0, d1, hrx⟩ := lt_at hat HBG.out.bel hlt
        obtain ⟨n, hn⟩ : ∃ n, l[k].neg = n := ⟨_, rfl⟩
        obtain ⟨x, hx⟩ : ∃ x, l[k].t = x := ⟨_, rfl⟩
        rw [hn] at d0
        rw [hx] at d1 hrx
        obtain ⟨m, hm⟩ : ∃ m, madeF x = m := ⟨_, rfl⟩
        have HMY : Hid (madeC l[k] = ⟨n, m⟩) := by rw [Hid, ← hn, ← hm, ← hx]; rfl
        have HC1 : Hid ((l.take (k + 1)).map madeC = CS ++ [⟨n, m⟩]) := by rw [Hid, made_take hlt, HCS.out, HMY.out]
        have HMC : Hid (∀ X, Below wr.heap.size wr X → Calls Try.prog 36 #[.slice xa x.length xc] X fun e w' => ∃ a' cap', e = .returned (.slice a' m.length cap') ∧ NewRow X.heap.size w' a' cap' m ∧ factB m = true ∧ Below X.heap.size X w') := fun X hX =>
          (made12_is xa xc X x (hrx.below hX)).mono fun e w' ⟨a', cap', h1, h2, h3, _, _, h6⟩ => by
            rw [hm] at h1 h2 h3
            exact ⟨a', cap', h1, h2, h3, h6⟩
        have hxm := hrx.max
        have hxl := hrx.le
        have hcl := HCL.out
        obtain ⟨y0, hv0⟩ : ∃ X, wr.drew = X := ⟨_, rfl⟩
        have hbd : Below wr.heap.size wr y0 := by rw [← hv0]; exact (Below.refl _ _).drew
        have HS : Hid (∀ X, Below wr.heap.size wr X → (fun X : World => X.cell? ⟨lb, lo + k * 2, none⟩ = some (.bool n) ∧ X.cell? ⟨lb, lo + k * 2 + 1, none⟩ = some (.slice xa x.length xc)) X) := fun X h => ⟨keep d0 h, keep d1 h⟩
        have HZY : Hid (y0.heap.size = wr.heap.size) := by rw [Hid, ← hv0]; rfl
        have HB0 := mkHid hbd
        clear hn hx hm hat hrx hbd d0 d1 HMY HCS
        go_wp2_with fail
        refine wp_region_noPanic ?_
        refine wp_region_held_drew (S := fun X : World => X.cell? ⟨lb, lo + k * 2, none⟩ = some (.bool n) ∧ X.cell? ⟨lb, lo + k * 2 + 1, none⟩ = some (.slice xa x.length xc)) (by kernel_rfl) (by rw [hv0]; exact HS.out _ HB0.out) (fun hSd => ?_)
        rw [hv0] at hSd ⊢
        clear hv0
        refine wpAnyH_take (i := 0) (oi := _) (v := ?_) rfl (by kernel_rfl) (by kernel_rfl) (by kernel_rfl) (fun _ _ _ h => h) (Or.inl ⟨by rfl, ?_⟩) (by assumption) ?_
        rotate_left
        · (intro w' hSw; obtain ⟨z0, z1⟩ := hSw; go_simp; try with_reducible rfl)
        (try simp only [List.getElem_toArray, List.getElem_cons_succ, List.getElem_cons_zero, Act.put, List.setIfInBounds_toArray, List.set_cons_zero, List.set_cons_succ])
        refine wpAnyH_take (i := 1) (oi := _) (v := ?_) rfl (by kernel_rfl) (by kernel_rfl) (by kernel_rfl) (fun _ _ _ h => h) (Or.inl ⟨by rfl, ?_⟩) (by assumption) ?_
        rotate_left
        · (intro w' hSw; obtain ⟨z0, z1⟩ := hSw; go_simp; try with_reducible rfl)
        (try simp only [List.getElem_toArray, List.getElem_cons_succ, List.getElem_cons_zero, Act.put, List.setIfInBounds_toArray, List.set_cons_zero, List.set_cons_succ])
        refine wpAnyH_take (i := 2) (oi := _) (v := ?_) rfl (by kernel_rfl) (by kernel_rfl) (by kernel_rfl) (fun _ _ _ h => h) (Or.inl ⟨by rfl, ?_⟩) (by assumption) ?_
        rotate_left
        · (intro w' hSw; obtain ⟨z0, z1⟩ := hSw; go_simp; try with_reducible rfl)
        (try simp only [List.getElem_toArray, List.getElem_cons_succ, List.getElem_cons_zero, Act.put, List.setIfInBounds_toArray, List.set_cons_zero, List.set_cons_succ])
        refine wpAnyH_take (i := 3) (oi := _) (v := ?_) rfl (by kernel_rfl) (by kernel_rfl) (by kernel_rfl) (fun _ _ _ h => h) (Or.inl ⟨by rfl, ?_⟩) (by assumption) ?_
        rotate_left
        · (intro w' hSw; obtain ⟨z0, z1⟩ := hSw; go_simp; try with_reducible rfl)
        (try simp only [List.getElem_toArray, List.getElem_cons_succ, List.getElem_cons_zero, Act.put, List.setIfInBounds_toArray, List.set_cons_zero, List.set_cons_succ])
        refine wpAnyH_take (i := 4) (oi := _) (v := ?_) rfl (by kernel_rfl) (by kernel_rfl) (by kernel_rfl) (fun _ _ _ h => h) (Or.inl ⟨by rfl, ?_⟩) (by assumption) ?_
        rotate_left
        · (intro w' hSw; obtain ⟨z0, z1⟩ := hSw; go_simp; try with_reducible rfl)
        (try simp only [List.getElem_toArray, List.getElem_cons_succ, List.getElem_cons_zero, Act.put, List.setIfInBounds_toArray, List.set_cons_zero, List.set_cons_succ])
        refine wpAnyH_take (i := 5) (oi := _) (v := ?_) rfl (by kernel_rfl) (by kernel_rfl) (by kernel_rfl) (fun _ _ _ h => h) (Or.inl ⟨by rfl, ?_⟩) (by assumption) ?_
        rotate_left
        · (intro w' hSw; obtain ⟨z0, z1⟩ := hSw; go_simp; try with_reducible rfl)
        (try simp only [List.getElem_toArray, List.getElem_cons_succ, List.getElem_cons_zero, Act.put, List.setIfInBounds_toArray, List.set_cons_zero, List.set_cons_succ])
        refine wpAnyH_take (i := 6) (oi := _) (v := ?_) rfl (by kernel_rfl) (by kernel_rfl) (by kernel_rfl) (fun _ _ _ h => h) (Or.inl ⟨by rfl, ?_⟩) (by assumption) ?_
        rotate_left
        · (intro w' hSw; obtain ⟨z0, z1⟩ := hSw; go_simp; try with_reducible rfl)
        (try simp only [List.getElem_toArray, List.getElem_cons_succ, List.getElem_cons_zero, Act.put, List.setIfInBounds_toArray, List.set_cons_zero, List.set_cons_succ])
        refine wpAnyH_take (i := 7) (oi := _) (v := ?_) rfl (by kernel_rfl) (by kernel_rfl) (by kernel_rfl) (fun _ _ _ h => h) (Or.inl ⟨by rfl, ?_⟩) (by assumption) ?_
        rotate_left
        · (intro w' hSw; obtain ⟨z0, z1⟩ := hSw; go_simp; try with_reducible rfl)
        (try simp only [List.getElem_toArray, List.getElem_cons_succ, List.getElem_cons_zero, Act.put, List.setIfInBounds_toArray, List.set_cons_zero, List.set_cons_succ])
        refine wpAnyH_take (i := 8) (oi := _) (v := ?_) rfl (by kernel_rfl) (by kernel_rfl) (by kernel_rfl) (fun _ _ _ h => h) (Or.inl ⟨by rfl, ?_⟩) (by assumption) ?_
        rotate_left
        · (intro w' hSw; obtain ⟨z0, z1⟩ := hSw; go_simp; try with_reducible rfl)
        (try simp only [List.getElem_toArray, List.getElem_cons_succ, List.getElem_cons_zero, Act.put, List.setIfInBounds_toArray, List.set_cons_zero, List.set_cons_succ])
        refine wpAnyH_take (i := 9) (oi := _) (v := ?_) rfl (by kernel_rfl) (by kernel_rfl) (by kernel_rfl) (fun _ _ _ h => h) (Or.inl ⟨by rfl, ?_⟩) (by assumption) ?_
        rotate_left
        · (intro w' hSw; obtain ⟨z0, z1⟩ := hSw; go_simp; try with_reducible rfl)
        (try simp only [List.getElem_toArray, List.getElem_cons_succ, List.getElem_cons_zero, Act.put, List.setIfInBounds_toArray, List.set_cons_zero, List.set_cons_succ])
        refine wpAnyH_ready (rs := [10, 12]) (by kernel_rfl) (by simp) ?_
        refine AllReadyH.cons (o := _) rfl (fun K hK => ?_) ?_
        · skip
          go_simp
          refine (HMC.out _ HB0.out).mono ?_
          rintro e w11 ⟨ya, yc, rfl, hnr, hmf, hb⟩
          have HN := mkHid hnr
          have HMF := mkHid hmf
          have HB1 := mkHid (HB0.out.then hb)
          clear hnr hb hmf
          try dsimp only
          refine hK.out _ _ (HS.out _ HB1.out) (fun hS1 => ?_)
          clear hK K
          (try simp only [List.getElem_toArray, List.getElem_cons_succ, List.getElem_cons_zero, Act.put, List.setIfInBounds_toArray, List.set_cons_zero, List.set_cons_succ])
          refine wpAnyH_take (i := 11) (oi := _) (v := ?_) rfl (by kernel_rfl) (by kernel_rfl) (by kernel_rfl) (fun _ _ _ h => h) (Or.inl ⟨by rfl, ?_⟩) (by assumption) ?_
          rotate_left
          · (intro w' hSw; obtain ⟨z0, z1⟩ := hSw; go_simp; try with_reducible rfl)
          (try simp only [List.getElem_toArray, List.getElem_cons_succ, List.getElem_cons_zero, Act.put, List.setIfInBounds_toArray, List.set_cons_zero, List.set_cons_succ])
          refine wpAnyH_ready (rs := [12]) (by kernel_rfl) (by simp) ?_
          refine AllReadyH.cons (o := _) rfl (fun K hK => ?_) AllReadyH.nil
          go_simp
          obtain ⟨w12, hw12⟩ : ∃ X, w11.alloc (.cells #[.bool false, .slice none 0 0] 32) = X := ⟨_, rfl⟩
          have hba : Below w11.heap.size w11 w12 := by rw [← hw12]; exact (Below.refl _ _).new _
          have HK2 : Hid (w12.heap[w11.heap.size]? = some (.cells #[.bool false, .slice none 0 0] 32 (0, 0))) := by rw [Hid, ← hw12]; exact heap_alloc_new _ _
          have HZ2 : Hid (w12.heap.size = w11.heap.size + 1) := by rw [Hid, ← hw12]; simp
          have HB2 := mkHid (HB1.out.then hba)
          have HBA := mkHid hba
          first | rw [hw12] | skip
          clear hw12 hba
          try dsimp only
          refine hK.out _ _ (HS.out _ HB2.out) (fun hS2 => ?_)
          clear hK K
          (try simp only [List.getElem_toArray, List.getElem_cons_succ, List.getElem_cons_zero, Act.put, List.setIfInBounds_toArray, List.set_cons_zero, List.set_cons_succ])
          refine wpAnyH_ready (rs := [13]) (by kernel_rfl) (by simp) ?_
          refine AllReadyH.cons (o := _) rfl (fun K hK => ?_) AllReadyH.nil
          obtain ⟨t0, t1⟩ := b2_cells HK2.out
          obtain ⟨s0, s1⟩ := b2_free HK2.out
          go_simp
          obtain ⟨w7, hw7⟩ : ∃ X, (w12.setCell ⟨w11.heap.size, 0, none⟩ (.bool n)).setCell ⟨w11.heap.size, 1, none⟩ (.slice ya m.length yc) = X := ⟨_, rfl⟩
          have HGE : Hid (wr.heap.size ≤ w11.heap.size) := HB1.out.size
          have HB7 : Hid (Below wr.heap.size wr w7) := by rw [Hid, ← hw7]; exact (HB2.out.setCell (p := ⟨w11.heap.size, 0, none⟩) HGE.out _).setCell (p := ⟨w11.heap.size, 1, none⟩) HGE.out _
          have HK7 : Hid (w7.heap[w11.heap.size]? = some (.cells #[.bool n, .slice ya m.length yc] 32 (0, 0))) := by rw [Hid, ← hw7]; exact b2_set1 (b2_set0 HK2.out _) _
          have HN7 : Hid (NewRow wr.heap.size w7 ya yc m) := by
            rw [Hid, ← hw7]
            exact ((HN.out.below ((HBA.out.setCell (p := ⟨w11.heap.size, 0, none⟩) (Nat.le_refl _) _).setCell (p := ⟨w11.heap.size, 1, none⟩) (Nat.le_refl _) _)).mono (Nat.le_of_eq HZY.out.symm))
          first | rw [hw7] | skip
          clear hw7 t0 t1 s0 s1
          try dsimp only
          refine hK.out _ _ (HS.out _ HB7.out) (fun hS3 => ?_)
          clear hK K
          (try simp only [List.getElem_toArray, List.getElem_cons_succ, List.getElem_cons_zero, Act.put, List.setIfInBounds_toArray, List.set_cons_zero, List.set_cons_succ])
          refine wpAnyH_done (by kernel_rfl) (NoPanic.normal ?_) _
          obtain ⟨us, hus⟩ : ∃ us, w.heap.size :: (w.heap.size + 1) :: (Value.slice ad CS.length cd).ownBlock.toList = us := ⟨_, rfl⟩
          have HUS := mkHid hus
          have HG7 := mkHid (HBG.out.below HB7.out)
          obtain ⟨b2, e2, b3, e3, hX7, hR7⟩ := HG7.out.ex
          have HUL : Hid (∀ k ∈ us, k < wr.heap.size) := by rw [Hid, ← hus]; exact HBG.out.lt
          have HU7 : Hid (∀ k ∈ us, k < w7.heap.size) := fun k hk => Nat.lt_of_lt_of_le (HUL.out k hk) HB7.out.size
          rw [hus] at hR7
          have HCH := mkHid (changeV_yes us w7 HU7.out b2 e2 f v b3 e3 CS ya yc ⟨n, m⟩ hR7 ⟨HFR.out, HCF.out, Nat.le_trans hcl (by decide)⟩ HN7.out.row HMF.out)
          obtain ⟨p0, p1, p2, p3⟩ := st_cells hX7
          obtain ⟨z0, z1⟩ := b2_cells HK7.out
          clear HS hSd hX7 hR7 hus
          go_wp2_with fail
          refine HCH.out.mono ?_
          rintro e w8 ⟨a5, c5, a6, c6, rfl, hbr8, hb8⟩
          obtain ⟨w9, hw9⟩ : ∃ X, w8.alloc (.cells #[.slice a5 f.length c5, .int .i64 v, .bool true, .slice a6 (CS.length + 1) c6] 25) = X := ⟨_, rfl⟩
          have hb9 : Below w8.heap.size w8 w9 := by rw [← hw9]; exact (Below.refl _ _).new _
          have hb79 := hb8.then hb9
          have hk9 : w9.heap[w8.heap.size]? = some (.cells #[.slice a5 f.length c5, .int .i64 v, .bool true, .slice a6 (CS.length + 1) c6] 25 (0, 0)) := by rw [← hw9]; exact heap_alloc_new _ _
          have HG9 := mkHid (HG7.out.below hb79)
          have hbr9 : BR (veil us w9) a5 c5 f a6 c6 (CS ++ [⟨n, m⟩]) := hbr8.keeps (Fr.of hb9).keeps
          have hg9 : w9.heap[w11.heap.size]? = some (.cells #[.bool n, .slice ya m.length yc] 32 (0, 0)) := (hb79.block _ (Array.getElem?_eq_some_iff.1 HK7.out).1).trans HK7.out
          obtain ⟨b4, e4, b5, e5, hX9, _⟩ := HG9.out.ex
          obtain ⟨q0, q1, q2, q3⟩ := st_cells hX9
          obtain ⟨f0, f1, f2, f3⟩ := st_free hX9
          obtain ⟨r0, r1, r2, r3⟩ := st_cells hk9
          have hlen : (CS ++ [(⟨n, m⟩ : Lt)]).length = CS.length + 1 := by rw [List.length_append]; rfl
          obtain ⟨w10, hw10⟩ : ∃ X, (((w9.setCell ⟨w.heap.size, 0, none⟩ (.slice a5 f.length c5)).setCell ⟨w.heap.size, 1, none⟩ (.int .i64 v)).setCell ⟨w.heap.size, 2, none⟩ (.bool true)).setCell ⟨w.heap.size, 3, none⟩ (.slice a6 (CS ++ [(⟨n, m⟩ : Lt)]).length c6) = X := ⟨_, rfl⟩
          rw [← HUS.out] at hbr9
          obtain ⟨t1, t2, t3, t4, t5, t6, t7⟩ := HG9.out.put hbr9 hw10
          rw [hlen] at hw10
          have hg10 : w10.heap[w11.heap.size]? = some (.cells #[.bool n, .slice ya m.length yc] 32 (0, 0)) := (t7.block _ (Array.getElem?_eq_some_iff.1 hg9).1 (by have h1 := HBG.out.size; have h2 := HGE.out; simp; omega)).trans hg9
          obtain ⟨x0, x1⟩ := b2_cells hg10
          have hy10 : Row (veil (w.heap.size :: (w.heap.size + 1) :: (Value.slice ad CS.length cd).ownBlock.toList) w10) ya yc m := by
            have h1 := (HN7.out.below hb79).keeps (under_veil (vs := us) HUL.out)
            rw [HUS.out]
            exact h1.keeps (t7.sub fun k hk => by rw [List.mem_singleton] at hk; rw [hk, ← HUS.out]; exact List.mem_cons_self).keeps
          obtain ⟨w11, hw11⟩ : ∃ X, w10.alloc (.cells #[.bool n, .slice ya m.length yc] 32) = X := ⟨_, rfl⟩
          obtain ⟨ae, ce, w12, hrun, hbg⟩ := Beg.app (y := ⟨n, m⟩) t1 t2 t3 t4 t5 (Nat.le_trans HG9.out.size t6) (by omega) hy10 hw11
          rw [hlen] at hrun
          have HBG12 := mkHid hbg
          have HCF12 : Hid (∀ q ∈ CS ++ [(⟨n, m⟩ : Lt)], factB q.t = true) := fun q hq => by
            rcases List.mem_append.1 hq with h | h
            · exact HCF.out q h
            · rw [List.mem_singleton] at h; rw [h]; exact HMF.out
          have HLN : Hid ((CS ++ [(⟨n, m⟩ : Lt)]).length = CS.length + 1) := hlen
          clear hb8 hb9 hb79 hk9 hbr8 hbr9 hg9 hX9 t1 t2 t3 t4 t5 t6 t7 hg10 hy10 hbg z0 z1 p0 p1 p2 p3 HCH hlen
          go_wp2_with (at_builtin; first | rw [hw11] | skip; refine wpList_run rfl _ _ 23 rfl rfl rfl hrun ?_)
          go_round
          case rel => exact ⟨k + 1, CS ++ [⟨n, m⟩], ae, ce, by omega, by omega, by go_num, by rw [HLN.out], HBG12, HC1, HCF12⟩
          case measure => simp [intOf]; omega
        refine AllReadyH.cons (o := _) rfl (fun K hK => ?_) AllReadyH.nil
        go_simp
        obtain ⟨w14, hw14⟩ : ∃ X, y0.alloc (.cells #[.bool false, .slice none 0 0] 32) = X := ⟨_, rfl⟩
        have hba : Below y0.heap.size y0 w14 := by rw [← hw14]; exact (Below.refl _ _).new _
        have HK4 : Hid (w14.heap[y0.heap.size]? = some (.cells #[.bool false, .slice none 0 0] 32 (0, 0))) := by rw [Hid, ← hw14]; exact heap_alloc_new _ _
        have HZ4 : Hid (w14.heap.size = y0.heap.size + 1) := by rw [Hid, ← hw14]; simp
        have HB4 := mkHid (HB0.out.then hba)
        first | rw [hw14] | skip
        clear hw14 hba
        try dsimp only
        refine hK.out _ _ (HS.out _ HB4.out) (fun hS4 => ?_)
        clear hK K
        (try simp only [List.getElem_toArray, List.getElem_cons_succ, List.getElem_cons_zero, Act.put, List.setIfInBounds_toArray, List.set_cons_zero, List.set_cons_succ])
        refine wpAnyH_ready (rs := [10]) (by kernel_rfl) (by simp) ?_
        refine AllReadyH.cons (o := _) rfl (fun K hK => ?_) AllReadyH.nil
        go_simp
        refine (HMC.out _ HB4.out).mono ?_
        rintro e w15 ⟨ya, yc, rfl, hnr, hmf, hb⟩
        have HN := mkHid hnr
        have HMF := mkHid hmf
        have HB5 := mkHid (HB4.out.then hb)
        have HK5 := mkHid ((hb.block _ (Array.getElem?_eq_some_iff.1 HK4.out).1).trans HK4.out)
        clear hnr hb hmf
        try dsimp only
        refine hK.out _ _ (HS.out _ HB5.out) (fun hS5 => ?_)
        clear hK K
        (try simp only [List.getElem_toArray, List.getElem_cons_succ, List.getElem_cons_zero, Act.put, List.setIfInBounds_toArray, List.set_cons_zero, List.set_cons_succ])
        refine wpAnyH_take (i := 11) (oi := _) (v := ?_) rfl (by kernel_rfl) (by kernel_rfl) (by kernel_rfl) (fun _ _ _ h => h) (Or.inl ⟨by rfl, ?_⟩) (by assumption) ?_
        rotate_left
        · (intro w' hSw; obtain ⟨z0, z1⟩ := hSw; go_simp; try with_reducible rfl)
        (try simp only [List.getElem_toArray, List.getElem_cons_succ, List.getElem_cons_zero, Act.put, List.setIfInBounds_toArray, List.set_cons_zero, List.set_cons_succ])
        refine wpAnyH_ready (rs := [13]) (by kernel_rfl) (by simp) ?_
        refine AllReadyH.cons (o := _) rfl (fun K hK => ?_) AllReadyH.nil
        obtain ⟨t0, t1⟩ := b2_cells HK5.out
        obtain ⟨s0, s1⟩ := b2_free HK5.out
        go_simp
        obtain ⟨w7, hw7⟩ : ∃ X, (w15.setCell ⟨y0.heap.size, 0, none⟩ (.bool n)).setCell ⟨y0.heap.size, 1, none⟩ (.slice ya m.length yc) = X := ⟨_, rfl⟩
        have HGE : Hid (wr.heap.size ≤ y0.heap.size) := Nat.le_of_eq HZY.out.symm
        have HB7 : Hid (Below wr.heap.size wr w7) := by rw [Hid, ← hw7]; exact (HB5.out.setCell (p := ⟨y0.heap.size, 0, none⟩) HGE.out _).setCell (p := ⟨y0.heap.size, 1, none⟩) HGE.out _
        have HK7 : Hid (w7.heap[y0.heap.size]? = some (.cells #[.bool n, .slice ya m.length yc] 32 (0, 0))) := by rw [Hid, ← hw7]; exact b2_set1 (b2_set0 HK5.out _) _
        have HN7 : Hid (NewRow wr.heap.size w7 ya yc m) := by
          rw [Hid, ← hw7]
          have h1 : ∀ q, some y0.heap.size = some q → q < w14.heap.size := fun q e => by cases e; have h := HZ4.out; omega
          exact ((HN.out.grown (r := some y0.heap.size) (grown_set _ _ _ _) h1).grown (r := some y0.heap.size) (grown_set _ _ _ _) h1).mono (by have h := HZ4.out; have h2 := HZY.out; omega)
        first | rw [hw7] | skip
        clear hw7 t0 t1 s0 s1
        try dsimp only
        refine hK.out _ _ (HS.out _ HB7.out) (fun hS6 => ?_)
        clear hK K
        (try simp only [List.getElem_toArray, List.getElem_cons_succ, List.getElem_cons_zero, Act.put, List.setIfInBounds_toArray, List.set_cons_zero, List.set_cons_succ])
        refine wpAnyH_done (by kernel_rfl) (NoPanic.normal ?_) _
        obtain ⟨us, hus⟩ : ∃ us, w.heap.size :: (w.heap.size + 1) :: (Value.slice ad CS.length cd).ownBlock.toList = us := ⟨_, rfl⟩
        have HUS := mkHid hus
        have HG7 := mkHid (HBG.out.below HB7.out)
        obtain ⟨b2, e2, b3, e3, hX7, hR7⟩ := HG7.out.ex
        have HUL : Hid (∀ k ∈ us, k < wr.heap.size) := by rw [Hid, ← hus]; exact HBG.out.lt
        have HU7 : Hid (∀ k ∈ us, k < w7.heap.size) := fun k hk => Nat.lt_of_lt_of_le (HUL.out k hk) HB7.out.size
        rw [hus] at hR7
        have HCH := mkHid (changeV_yes us w7 HU7.out b2 e2 f v b3 e3 CS ya yc ⟨n, m⟩ hR7 ⟨HFR.out, HCF.out, Nat.le_trans hcl (by decide)⟩ HN7.out.row HMF.out)
        obtain ⟨p0, p1, p2, p3⟩ := st_cells hX7
        obtain ⟨z0, z1⟩ := b2_cells HK7.out
        clear HS hSd hX7 hR7 hus
        go_wp2_with fail
        refine HCH.out.mono ?_
        rintro e w8 ⟨a5, c5, a6, c6, rfl, hbr8, hb8⟩
        obtain ⟨w9, hw9⟩ : ∃ X, w8.alloc (.cells #[.slice a5 f.length c5, .int .i64 v, .bool true, .slice a6 (CS.length + 1) c6] 25) = X := ⟨_, rfl⟩
        have hb9 : Below w8.heap.size w8 w9 := by rw [← hw9]; exact (Below.refl _ _).new _
        have hb79 := hb8.then hb9
        have hk9 : w9.heap[w8.heap.size]? = some (.cells #[.slice a5 f.length c5, .int .i64 v, .bool true, .slice a6 (CS.length + 1) c6] 25 (0, 0)) := by rw [← hw9]; exact heap_alloc_new _ _
        have HG9 := mkHid (HG7.out.below hb79)
        have hbr9 : BR (veil us w9) a5 c5 f a6 c6 (CS ++ [⟨n, m⟩]) := hbr8.keeps (Fr.of hb9).keeps
        have hg9 : w9.heap[y0.heap.size]? = some (.cells #[.bool n, .slice ya m.length yc] 32 (0, 0)) := (hb79.block _ (Array.getElem?_eq_some_iff.1 HK7.out).1).trans HK7.out
        obtain ⟨b4, e4, b5, e5, hX9, _⟩ := HG9.out.ex
        obtain ⟨q0, q1, q2, q3⟩ := st_cells hX9
        obtain ⟨f0, f1, f2, f3⟩ := st_free hX9
        obtain ⟨r0, r1, r2, r3⟩ := st_cells hk9
        have hlen : (CS ++ [(⟨n, m⟩ : Lt)]).length = CS.length + 1 := by rw [List.length_append]; rfl
        obtain ⟨w10, hw10⟩ : ∃ X, (((w9.setCell ⟨w.heap.size, 0, none⟩ (.slice a5 f.length c5)).setCell ⟨w.heap.size, 1, none⟩ (.int .i64 v)).setCell ⟨w.heap.size, 2, none⟩ (.bool true)).setCell ⟨w.heap.size, 3, none⟩ (.slice a6 (CS ++ [(⟨n, m⟩ : Lt)]).length c6) = X := ⟨_, rfl⟩
        rw [← HUS.out] at hbr9
        obtain ⟨t1, t2, t3, t4, t5, t6, t7⟩ := HG9.out.put hbr9 hw10
        rw [hlen] at hw10
        have hg10 : w10.heap[y0.heap.size]? = some (.cells #[.bool n, .slice ya m.length yc] 32 (0, 0)) := (t7.block _ (Array.getElem?_eq_some_iff.1 hg9).1 (by have h1 := HBG.out.size; have h2 := HGE.out; simp; omega)).trans hg9
        obtain ⟨x0, x1⟩ := b2_cells hg10
        have hy10 : Row (veil (w.heap.size :: (w.heap.size + 1) :: (Value.slice ad CS.length cd).ownBlock.toList) w10) ya yc m := by
          have h1 := (HN7.out.below hb79).keeps (under_veil (vs := us) HUL.out)
          rw [HUS.out]
          exact h1.keeps (t7.sub fun k hk => by rw [List.mem_singleton] at hk; rw [hk, ← HUS.out]; exact List.mem_cons_self).keeps
        obtain ⟨w11, hw11⟩ : ∃ X, w10.alloc (.cells #[.bool n, .slice ya m.length yc] 32) = X := ⟨_, rfl⟩
        obtain ⟨ae, ce, w12, hrun, hbg⟩ := Beg.app (y := ⟨n, m⟩) t1 t2 t3 t4 t5 (Nat.le_trans HG9.out.size t6) (by omega) hy10 hw11
        rw [hlen] at hrun
        have HBG12 := mkHid hbg
        have HCF12 : Hid (∀ q ∈ CS ++ [(⟨n, m⟩ : Lt)], factB q.t = true) := fun q hq => by
          rcases List.mem_append.1 hq with h | h
          · exact HCF.out q h
          · rw [List.mem_singleton] at h; rw [h]; exact HMF.out
        have HLN : Hid ((CS ++ [(⟨n, m⟩ : Lt)]).length = CS.length + 1) := hlen
        clear hb8 hb9 hb79 hk9 hbr8 hbr9 hg9 hX9 t1 t2 t3 t4 t5 t6 t7 hg10 hy10 hbg z0 z1 p0 p1 p2 p3 HCH hlen
        go_wp2_with (at_builtin; first | rw [hw11] | skip; refine wpList_run rfl _ _ 23 rfl rfl rfl hrun ?_)
        go_round
        case rel => exact ⟨k + 1, CS ++ [⟨n, m⟩], ae, ce, by omega, by omega, by go_num, by rw [HLN.out], HBG12, HC1, HCF12⟩
        case measure => simp [intOf]; omega
      · have HCC : Hid (CS = cs) := by rw [Hid, ← hcs.out, ← HCS.out, show k = 60 by omega]
        obtain rfl : CS = cs := HCC.out
        obtain ⟨b2, e2, b3, e3, hX, hR⟩ := HBG.out.ex
        have hres := HBG.out.res
        obtain ⟨p0, p1, p2, p3⟩ := st_cells hX
        obtain ⟨l0, l1, l2, l3⟩ := st_cells hres
        obtain ⟨k0, k1, k2, k3⟩ := st_free hres
        have HR := mkHid hR
        clear hX hres hR HCS HCC
        go_wp2_with fail
        have HF4 := fun v0 v1 v2 v3 => Fr.four (Fr.refl (w.heap.size :: (w.heap.size + 1) :: (Value.slice ad CS.length cd).ownBlock.toList) wr) (g := w.heap.size + 1) (List.mem_cons_of_mem _ List.mem_cons_self) v0 v1 v2 v3
        refine bodyPost_ret (v := .tuple #[.agg #[.slice b2 f.length e2, .int .i64 v, .bool true, .slice b3 CS.length e3], .slice ad CS.length cd]) (by simp [results, Try.results33, go_sem, *]) rfl ⟨b2, e2, b3, e3, ad, cd, rfl, (HR.out.keeps (HF4 _ _ _ _).keeps).keeps (veil_keeps _ _), ?_, HCF.out, below_four (g := w.heap.size + 1) HBG.out.bel (Nat.le_succ _) _ _ _ _⟩
        have hv := HBG.out.own.view (HF4 (.slice b2 f.length e2) (.int .i64 v) (.bool true) (.slice b3 CS.length e3)).keeps
        have hv2 := hv.far (w' := (((wr.setCell ⟨w.heap.size + 1, 0, none⟩ (.slice b2 f.length e2)).setCell ⟨w.heap.size + 1, 1, none⟩ (.int .i64 v)).setCell ⟨w.heap.size + 1, 2, none⟩ (.bool true)).setCell ⟨w.heap.size + 1, 3, none⟩ (.slice b3 CS.length e3)) fun q hq => (Fr.four (Fr.refl [w.heap.size + 1] wr) (List.mem_singleton.2 rfl) _ _ _ _).block q (HBG.out.own.lt q hq).2 (by have := (HBG.out.own.lt q hq).1; simp; omega)
        obtain ⟨a8, c8, e8, hr8⟩ := hv2.row (us := []) (by simp) (veil_mono _ (by simp))
        injection e8 with e8 _ e9
        subst e8; subst e9
        exact hr8.keeps (veil_keeps _ _)
    · have HCC : Hid (CS = cs) := by rw [Hid, ← hcs.out, ← HCS.out, List.take_of_length_le (by omega), List.take_of_length_le (by omega)]
      obtain rfl : CS = cs := HCC.out
      obtain ⟨b2, e2, b3, e3, hX, hR⟩ := HBG.out.ex
      have hres := HBG.out.res
      obtain ⟨p0, p1, p2, p3⟩ := st_cells hX
      obtain ⟨l0, l1, l2, l3⟩ := st_cells hres
      obtain ⟨k0, k1, k2, k3⟩ := st_free hres
      have HR := mkHid hR
      clear hX hres hR HCS HCC
      go_wp2_with fail
      have HF4 := fun v0 v1 v2 v3 => Fr.four (Fr.refl (w.heap.size :: (w.heap.size + 1) :: (Value.slice ad CS.length cd).ownBlock.toList) wr) (g := w.heap.size + 1) (List.mem_cons_of_mem _ List.mem_cons_self) v0 v1 v2 v3
      refine bodyPost_ret (v := .tuple #[.agg #[.slice b2 f.length e2, .int .i64 v, .bool true, .slice b3 CS.length e3], .slice ad CS.length cd]) (by simp [results, Try.results33, go_sem, *]) rfl ⟨b2, e2, b3, e3, ad, cd, rfl, (HR.out.keeps (HF4 _ _ _ _).keeps).keeps (veil_keeps _ _), ?_, HCF.out, below_four (g := w.heap.size + 1) HBG.out.bel (Nat.le_succ _) _ _ _ _⟩
      have hv := HBG.out.own.view (HF4 (.slice b2 f.length e2) (.int .i64 v) (.bool true) (.slice b3 CS.length e3)).keeps
      have hv2 := hv.far (w' := (((wr.setCell ⟨w.heap.size + 1, 0, none⟩ (.slice b2 f.length e2)).setCell ⟨w.heap.size + 1, 1, none⟩ (.int .i64 v)).setCell ⟨w.heap.size + 1, 2, none⟩ (.bool true)).setCell ⟨w.heap.size + 1, 3, none⟩ (.slice b3 CS.length e3)) fun q hq => (Fr.four (Fr.refl [w.heap.size + 1] wr) (List.mem_singleton.2 rfl) _ _ _ _).block q (HBG.out.own.lt q hq).2 (by have := (HBG.out.own.lt q hq).1; simp; omega)
      obtain ⟨a8, c8, e8, hr8⟩ := hv2.row (us := []) (by simp) (veil_mono _ (by simp))
      injection e8 with e8 _ e9
      subst e8; subst e9
      exact hr8.keeps (veil_keeps _ _)
end Go.Proofs.Ytnpffificfghpaa
set_option linter.unusedVariables false
namespace Go.Proofs.Ytnpffificfghpaa
open Go.RowKit

/-! ### contracts with lengths by name -/
section
variable {w W : World} {V : Nat} {a a' : Option Addr} {c c' n k : Nat} {f : List (List Cel)} {v : Int} {on : Bool} {td : List Lt}
theorem BX.cellsK (h : BX W V a c f v on a' c' td) (hn : f.length = n) (hk : td.length = k) : W.cell? ⟨V, 0, none⟩ = some (.slice a n c) ∧ W.cell? ⟨V, 1, none⟩ = some (.int .i64 v) ∧ W.cell? ⟨V, 2, none⟩ = some (.bool on) ∧ W.cell? ⟨V, 3, none⟩ = some (.slice a' k c') := by
  subst hn; subst hk; exact h.cells
theorem BX.madeK (h : BR w a c f a' c' td) (hn : f.length = n) (hk : td.length = k) : BX (w.alloc (.cells #[.slice a n c, .int .i64 v, .bool on, .slice a' k c'] 25)) w.heap.size a c f v on a' c' td := by
  subst hn; subst hk; exact BX.made h
theorem BX.storedK {a2 a3 : Option Addr} {c2 c3 : Nat} {g : List (List Cel)} {u : Int} {om : Bool} {te : List Lt} (h : BX W V a c f v on a' c' td) (hl : NEf g ∧ NEt te) (hr : BR W a2 c2 g a3 c3 te) (hn : g.length = n) (hk : te.length = k) :
    BX ((((W.setCell ⟨V, 0, none⟩ (.slice a2 n c2)).setCell ⟨V, 1, none⟩ (.int .i64 u)).setCell ⟨V, 2, none⟩ (.bool om)).setCell ⟨V, 3, none⟩ (.slice a3 k c3)) V a2 c2 g u om a3 c3 te := by
  subst hn; subst hk; exact h.stored hl hr
theorem begin_offK (h : BR w a c f a' c' td) (ok : OkB f td) (hn : f.length = n) (hk : td.length = k) :
    Calls Try.prog 18 #[.agg #[.slice a n c, .int .i64 v, .bool false, .slice a' k c']] w fun e w' =>
      ∃ a2 c2 a3 c3, e = .returned (.tuple #[.agg #[.slice a2 n c2, .int .i64 v, .bool true, .slice a3 k c3], .int .i64 0]) ∧ BR w' a2 c2 f a3 c3 td ∧ Below w.heap.size w w' := by
  subst hn; subst hk; exact begin_off w a c f v a' c' td h ok
theorem begin_onK (h : BR w a c f a' c' td) (ok : OkB f td) (hn : f.length = n) (hk : td.length = k) :
    Calls Try.prog 18 #[.agg #[.slice a n c, .int .i64 v, .bool true, .slice a' k c']] w fun e w' =>
      ∃ a2 c2 a3 c3, e = .returned (.tuple #[.agg #[.slice a2 n c2, .int .i64 v, .bool true, .slice a3 k c3], .int .i64 130]) ∧ BR w' a2 c2 f a3 c3 td ∧ Below w.heap.size w w' := by
  subst hn; subst hk; exact begin_on w a c f v a' c' td h ok
theorem back_offK (h : BR w a c f a' c' td) (ok : OkB f td) (hn : f.length = n) (hk : td.length = k) :
    Calls Try.prog 24 #[.agg #[.slice a n c, .int .i64 v, .bool false, .slice a' k c']] w fun e w' =>
      ∃ a2 c2 a3 c3, e = .returned (.tuple #[.agg #[.slice a2 n c2, .int .i64 v, .bool false, .slice a3 k c3], .int .i64 131]) ∧ BR w' a2 c2 f a3 c3 td ∧ Below w.heap.size w w' := by
  subst hn; subst hk; exact back_off w a c f v a' c' td h ok
theorem back_onK (h : BR w a c f a' c' td) (ok : OkB f td) (hn : f.length = n) (hk : td.length = k) :
    Calls Try.prog 24 #[.agg #[.slice a n c, .int .i64 v, .bool true, .slice a' k c']] w fun e w' =>
      ∃ a2 c2 a3 c3, e = .returned (.tuple #[.agg #[.slice a2 n c2, .int .i64 v, .bool false, .slice a3 0 c3], .int .i64 0]) ∧ BR w' a2 c2 f a3 c3 [] ∧ Below w.heap.size w w' := by
  subst hn; subst hk; exact back_on w a c f v a' c' td h ok
theorem change_offK {ya : Option Addr} {yc m : Nat} {q : Bool} {x : List Cel} (h : BR w a c f a' c' td) (ok : OkB f td) (hy : Row w ya yc x) (hn : f.length = n) (hk : td.length = k) (hm : x.length = m) :
    Calls Try.prog 20 #[.agg #[.slice a n c, .int .i64 v, .bool false, .slice a' k c'], .agg #[.bool q, .slice ya m yc]] w fun e w' =>
      ∃ a2 c2 a3 c3, e = .returned (.tuple #[.agg #[.slice a2 n c2, .int .i64 v, .bool false, .slice a3 k c3], .int .i64 131]) ∧ BR w' a2 c2 f a3 c3 td ∧ Below w.heap.size w w' := by
  subst hn; subst hk; subst hm; exact change_off w a c f v a' c' td ya yc ⟨q, x⟩ h ok hy
theorem change_noK {ya : Option Addr} {yc m : Nat} {q : Bool} {x : List Cel} (h : BR w a c f a' c' td) (ok : OkB f td) (hy : Row w ya yc x) (hF : factB x = false) (hn : f.length = n) (hk : td.length = k) (hm : x.length = m) :
    Calls Try.prog 20 #[.agg #[.slice a n c, .int .i64 v, .bool true, .slice a' k c'], .agg #[.bool q, .slice ya m yc]] w fun e w' =>
      ∃ a2 c2 a3 c3, e = .returned (.tuple #[.agg #[.slice a2 n c2, .int .i64 v, .bool true, .slice a3 k c3], .int .i64 120]) ∧ BR w' a2 c2 f a3 c3 td ∧ Below w.heap.size w w' := by
  subst hn; subst hk; subst hm; exact change_no w a c f v a' c' td ya yc ⟨q, x⟩ h ok hy hF
theorem change_yesK {ya : Option Addr} {yc m j : Nat} {q : Bool} {x : List Cel} (h : BR w a c f a' c' td) (ok : OkB f td) (hy : Row w ya yc x) (hF : factB x = true) (hn : f.length = n) (hk : td.length = k) (hm : x.length = m) (hj : k + 1 = j) :
    Calls Try.prog 20 #[.agg #[.slice a n c, .int .i64 v, .bool true, .slice a' k c'], .agg #[.bool q, .slice ya m yc]] w fun e w' =>
      ∃ a2 c2 a3 c3, e = .returned (.tuple #[.agg #[.slice a2 n c2, .int .i64 v, .bool true, .slice a3 j c3], .int .i64 0]) ∧ BR w' a2 c2 f a3 c3 (td ++ [⟨q, x⟩]) ∧ Below w.heap.size w w' := by
  subst hn; subst hk; subst hm; subst hj; exact change_yes w a c f v a' c' td ya yc ⟨q, x⟩ h ok hy hF
theorem nowK (h : BR w a c f a' c' td) (ok : OkB f td) {m : List (List Cel)} {j : Nat} (hm : Hid (nowF f td = m)) (hn : f.length = n) (hk : td.length = k) (hj : m.length = j) :
    Calls Try.prog 28 #[.agg #[.slice a n c, .int .i64 v, .bool on, .slice a' k c']] w fun e w' => ∃ a2 c2, e = .returned (.slice a2 j c2) ∧ Row w' a2 c2 m ∧ Below w.heap.size w w' := by
  subst hn; subst hk; subst hj; exact now_any w a c f v on a' c' td h ok m hm
theorem commit_okK (h : BR w a c f a' c' td) (ok : OkB f td) (hbig : bigF f td = false) (hv1 : -4611686018427387904 ≤ v) (hv2 : v ≤ 4611686018427387904) {m x z : List (List Cel)} {j i l : Nat} {u : Int} (hm : Hid (nowF f td = m)) (hx : Hid (lessF m f = x)) (hz : Hid (lessF f m = z)) (hn : f.length = n) (hk : td.length = k) (hj : m.length = j) (hi : x.length = i) (hl : z.length = l) (hu : v + 1 = u) :
    Calls Try.prog 22 #[.agg #[.slice a n c, .int .i64 v, .bool true, .slice a' k c']] w fun e w' =>
      ∃ a2 c2 a3 c3 a4 c4, e = .returned (.tuple #[.agg #[.slice a2 j c2, .int .i64 u, .bool false, .slice none 0 0], .slice a3 i c3, .slice a4 l c4, .int .i64 0]) ∧ Row w' a2 c2 m ∧ Row w' a3 c3 x ∧ Row w' a4 c4 z ∧ Below w.heap.size w w' := by
  subst hn; subst hk; subst hj; subst hi; subst hl; subst hu; exact commit_ok w a c f v a' c' td h ok hbig hv1 hv2 m x z hm hx hz
theorem rightK13 (h : BR w a c f a' c' td) {r : Bool} (hr : (⟨f, v, on, td⟩ : Bs).right = r) (hn : f.length = n) (hk : td.length = k) :
    Calls Try.prog 15 #[.agg #[.slice a n c, .int .i64 v, .bool on, .slice a' k c']] w fun e w' => e = .returned (.bool r) ∧ Below w.heap.size w w' := by
  subst hn; subst hk; subst hr; exact right13_any w a c f v on a' c' td h
end
theorem okB_nil : OkB [] [] := ⟨FR.nil, by simp, by simp⟩
theorem okB_1 : OkB [] [⟨true, oneF 1⟩] := hb2_ok.okB (by simp [hb2])
theorem okB_2 : OkB [] [⟨true, oneF 1⟩, ⟨false, oneF 2⟩] := hb3_ok.okB (by simp [hb3])
theorem okB_m : OkB [oneF 1] [] := ⟨⟨by simp, fun x hx => by simp at hx; rw [hx]; exact o1_fact, by simp⟩, by simp, by simp⟩
theorem h_came : lessF [oneF 1] [] = [oneF 1] := by decide +kernel
theorem h_went : lessF [] [oneF 1] = [] := by decide +kernel
theorem two_row (w : World) (a : Option Addr) (h : Row w a 2 (oneF 1)) : Row (w.alloc (.cells #[.slice a 2 2] 30)) (some ⟨w.heap.size, 0, none⟩) 1 [oneF 1] := by
  have hb := (Below.refl w.heap.size w).new (.cells #[.slice a 2 2] 30)
  refine ⟨by simp, by omega, (fun e => by cases e), fun i x hi => ?_⟩
  match i with
  | 0 =>
    simp at hi
    subst hi
    exact ⟨w.heap.size, 0, rfl, ⟨a, 2, World.cell?_alloc_at _ _ _ 0 rfl, h.below hb⟩⟩
  | i + 1 => simp at hi
theorem cellI_row (w : World) : Row (w.alloc (.cells #[.int .i64 2, .string ⟨#[]⟩, .int .i64 0] 93)) (some ⟨w.heap.size, 0, none⟩) 1 [(⟨2, ⟨#[]⟩, 0⟩ : Cel)] := by
  refine ⟨by simp, by omega, (fun e => by cases e), fun i x hi => ?_⟩
  match i with
  | 0 =>
    simp at hi
    subst hi
    exact ⟨w.heap.size, 0, rfl, ⟨World.cell?_alloc_at _ _ _ 0 rfl, World.cell?_alloc_at _ _ _ 1 rfl, World.cell?_alloc_at _ _ _ 2 rfl, ⟨by simp, by simp, by simp, by simp, by show (0 : Nat) ≤ _; omega⟩⟩⟩
  | i + 1 => simp at hi
end Go.Proofs.Ytnpffificfghpaa
set_option linter.unusedVariables false
namespace Go.Proofs.Ytnpffificfghpaa
open Go.RowKit

/-! ### the head -/
set_option maxRecDepth 100000 in
set_option maxHeartbeats 32000000 in
theorem head13_any (w : World) : Calls Try.prog 13 #[] w fun e w' => e = .returned (.bool true) ∧ Below w.heap.size w w' := by
  have HB := mkHid (Below.refl w.heap.size w)
  go_enter Try.func13, Try.ntmps13
  go_wp2_with fail
  refine (new13_any w).mono ?_
  rintro e w1 ⟨rfl, hq⟩
  replace HB := mkHid (HB.out.then hq)
  clear hq
  go_wp2_with fail
  refine (begin_offK (n := 0) (k := 0) (noB_row w1) okB_nil rfl rfl).mono ?_
  rintro e w2 ⟨a1, c1, b1, d1, rfl, hbr, hq⟩
  replace HB := mkHid (HB.out.then hq)
  clear hq
  have R1 := mkHid hbr
  clear hbr
  obtain ⟨x3, hx3⟩ : ∃ X, w2.alloc (.cells #[.slice a1 0 c1, .int .i64 0, .bool true, .slice b1 0 d1] 25) = X := ⟨_, rfl⟩
  have hbx : Below w2.heap.size w2 x3 := by rw [← hx3]; exact (Below.refl _ _).new _
  have X1 : Hid (BX x3 w2.heap.size a1 c1 [] 0 true b1 d1 []) := by rw [Hid, ← hx3]; exact BX.madeK R1.out (by first | rfl | trivial) (by first | rfl | trivial)
  replace HB := mkHid (HB.out.then hbx)
  clear hbx
  obtain ⟨X1c0, X1c1, X1c2, X1c3⟩ := X1.out.cellsK (n := 0) (k := 0) rfl rfl
  go_wp2_with fail
  refine (begin_onK (n := 0) (k := 0) X1.out.2 okB_nil rfl rfl).mono ?_
  rintro e w4 ⟨a2, c2, b2, d2, rfl, hbr, hq⟩
  replace X1 := mkHid (X1.out.below hq)
  replace HB := mkHid (HB.out.then hq)
  clear hq
  clear X1c0 X1c1 X1c2 X1c3
  have R2 := mkHid hbr
  clear hbr
  obtain ⟨x5, hx5⟩ : ∃ X, w4.alloc (.cells #[.slice a2 0 c2, .int .i64 0, .bool true, .slice b2 0 d2] 25) = X := ⟨_, rfl⟩
  have hbx : Below w4.heap.size w4 x5 := by rw [← hx5]; exact (Below.refl _ _).new _
  have X2 : Hid (BX x5 w4.heap.size a2 c2 [] 0 true b2 d2 []) := by rw [Hid, ← hx5]; exact BX.madeK R2.out (by first | rfl | trivial) (by first | rfl | trivial)
  replace X1 := mkHid (X1.out.below hbx)
  replace HB := mkHid (HB.out.then hbx)
  clear hbx
  obtain ⟨X1c0, X1c1, X1c2, X1c3⟩ := X1.out.cellsK (n := 0) (k := 0) rfl rfl
  go_wp2_with fail
  first | rw [hx5] | skip
  clear hx3 hx5
  have HBY : Hid (w.heap.size ≤ x5.heap.size) := HB.out.size
  generalize hA : Act.mk _ _ = A0
  refine Code.wp_mono (Q := fun ev A' X' => ev = .normal ∧ ∃ (e32 e33 e34 e35 e31 e36 e37 : Value) (B : Nat) (a3 : Option Addr) (c3 : Nat) (b3 : Option Addr) (d3 : Nat), A' = (((((((((A0.put (some 32) e32).put (some 33) e33).put (some 34) e34).put (some 35) e35).put (some 31) e31).put (some 36) e36).put (some 37) e37).put (some 5) (.pointer (some ⟨B, 0, none⟩))).put (some 6) (.int .i64 0)) ∧ BX X' B a3 c3 [] 0 true b3 d3 [⟨true, oneF 1⟩] ∧ x5.heap.size ≤ B ∧ Below x5.heap.size x5 X') ?_ ?_
  rotate_left
  · subst hA
    have HV0 := mkHid (Below.refl x5.heap.size x5)
    obtain ⟨y0, hv0⟩ : ∃ X, x5.drew = X := ⟨_, rfl⟩
    have hbd : Below x5.heap.size x5 y0 := by rw [← hv0]; exact (Below.refl _ _).drew
    have HVD := mkHid hbd
    replace X1 := mkHid (X1.out.below hbd)
    replace X2 := mkHid (X2.out.below hbd)
    replace HB := mkHid (HB.out.then hbd)
    clear hbd
    clear X1c0 X1c1 X1c2 X1c3
    have HS : Hid (∀ X, Below y0.heap.size y0 X → (fun X : World => X.cell? ⟨w2.heap.size, 0, none⟩ = some (.slice a1 0 c1) ∧ X.cell? ⟨w2.heap.size, 1, none⟩ = some (.int .i64 0) ∧ X.cell? ⟨w2.heap.size, 2, none⟩ = some (.bool true) ∧ X.cell? ⟨w2.heap.size, 3, none⟩ = some (.slice b1 0 d1)) X) := fun X h => (X1.out.below h).cellsK (n := 0) (k := 0) rfl rfl
    refine wp_region_noPanic ?_
    refine wp_region_held_drew (S := fun X : World => X.cell? ⟨w2.heap.size, 0, none⟩ = some (.slice a1 0 c1) ∧ X.cell? ⟨w2.heap.size, 1, none⟩ = some (.int .i64 0) ∧ X.cell? ⟨w2.heap.size, 2, none⟩ = some (.bool true) ∧ X.cell? ⟨w2.heap.size, 3, none⟩ = some (.slice b1 0 d1)) (by kernel_rfl) (by rw [hv0]; exact HS.out _ (Below.refl _ _)) (fun hSd => ?_)
    rw [hv0] at hSd ⊢
    clear hv0
    have HZ0 := mkHid (Below.refl y0.heap.size y0)
    refine wpAnyH_take (i := 0) (oi := _) (v := ?_) rfl (by kernel_rfl) (by kernel_rfl) (by kernel_rfl) (fun _ _ _ h => h) (Or.inl ⟨by rfl, ?_⟩) (by assumption) ?_
    rotate_left
    · (intro w' hSw; obtain ⟨z0, z1, z2, z3⟩ := hSw; go_simp; try with_reducible rfl)
    (try simp only [List.getElem_toArray, List.getElem_cons_succ, List.getElem_cons_zero, Act.put, List.setIfInBounds_toArray, List.set_cons_zero, List.set_cons_succ])
    refine wpAnyH_ready (rs := [1, 7]) (by kernel_rfl) (by simp) ?_
    refine AllReadyH.cons (o := _) rfl (fun K hK => ?_) ?_
    · skip
      go_simp
      refine (one13_any 1 (by omega) (by omega) _).mono ?_
      rintro e w31 ⟨o1, rfl, hr, hb⟩
      have HO1 := mkHid hr.row
      have HZ1 := mkHid (HZ0.out.then hb)
      clear hr hb
      try dsimp only
      refine hK.out _ _ (HS.out _ HZ1.out) (fun hS1 => ?_)
      clear hK K
      (try simp only [List.getElem_toArray, List.getElem_cons_succ, List.getElem_cons_zero, Act.put, List.setIfInBounds_toArray, List.set_cons_zero, List.set_cons_succ])
      refine wpAnyH_take (i := 2) (oi := _) (v := ?_) rfl (by kernel_rfl) (by kernel_rfl) (by kernel_rfl) (fun _ _ _ h => h) (Or.inl ⟨by rfl, ?_⟩) (by assumption) ?_
      rotate_left
      · (intro w' hSw; obtain ⟨z0, z1, z2, z3⟩ := hSw; go_simp; try with_reducible rfl)
      (try simp only [List.getElem_toArray, List.getElem_cons_succ, List.getElem_cons_zero, Act.put, List.setIfInBounds_toArray, List.set_cons_zero, List.set_cons_succ])
      refine wpAnyH_ready (rs := [3, 7]) (by kernel_rfl) (by simp) ?_
      refine AllReadyH.cons (o := _) rfl (fun K hK => ?_) ?_
      · skip
        go_simp
        refine (change_yesK (n := 0) (k := 0) (m := 2) (j := 1) (q := true) (x := oneF 1) (X1.out.below HZ1.out).2 okB_nil HO1.out o1_fact rfl rfl rfl rfl).mono ?_
        rintro e w32 ⟨a3, c3, b3, d3, rfl, hbr, hb⟩
        have R3 := mkHid hbr
        have HZ2 := mkHid (HZ1.out.then hb)
        clear hbr hb
        try dsimp only
        refine hK.out _ _ (HS.out _ HZ2.out) (fun hS2 => ?_)
        clear hK K
        (try simp only [List.getElem_toArray, List.getElem_cons_succ, List.getElem_cons_zero, Act.put, List.setIfInBounds_toArray, List.set_cons_zero, List.set_cons_succ])
        refine wpAnyH_take (i := 4) (oi := _) (v := ?_) rfl (by kernel_rfl) (by kernel_rfl) (by kernel_rfl) (fun _ _ _ h => h) (Or.inl ⟨by rfl, ?_⟩) (by assumption) ?_
        rotate_left
        · (intro w' hSw; obtain ⟨z0, z1, z2, z3⟩ := hSw; go_simp; try with_reducible rfl)
        (try simp only [List.getElem_toArray, List.getElem_cons_succ, List.getElem_cons_zero, Act.put, List.setIfInBounds_toArray, List.set_cons_zero, List.set_cons_succ])
        refine wpAnyH_take (i := 5) (oi := _) (v := ?_) rfl (by kernel_rfl) (by kernel_rfl) (by kernel_rfl) (fun _ _ _ h => h) (Or.inl ⟨by rfl, ?_⟩) (by assumption) ?_
        rotate_left
        · (intro w' hSw; obtain ⟨z0, z1, z2, z3⟩ := hSw; go_simp; try with_reducible rfl)
        (try simp only [List.getElem_toArray, List.getElem_cons_succ, List.getElem_cons_zero, Act.put, List.setIfInBounds_toArray, List.set_cons_zero, List.set_cons_succ])
        refine wpAnyH_take (i := 6) (oi := _) (v := ?_) rfl (by kernel_rfl) (by kernel_rfl) (by kernel_rfl) (fun _ _ _ h => h) (Or.inl ⟨by rfl, ?_⟩) (by assumption) ?_
        rotate_left
        · (intro w' hSw; obtain ⟨z0, z1, z2, z3⟩ := hSw; go_simp; try with_reducible rfl)
        (try simp only [List.getElem_toArray, List.getElem_cons_succ, List.getElem_cons_zero, Act.put, List.setIfInBounds_toArray, List.set_cons_zero, List.set_cons_succ])
        refine wpAnyH_ready (rs := [7]) (by kernel_rfl) (by simp) ?_
        refine AllReadyH.cons (o := _) rfl (fun K hK => ?_) AllReadyH.nil
        go_simp
        obtain ⟨w33, hw33⟩ : ∃ X, w32.alloc (.cells #[.slice none 0 0, .int .i64 0, .bool false, .slice none 0 0] 25) = X := ⟨_, rfl⟩
        have hba : Below w32.heap.size w32 w33 := by rw [← hw33]; exact (Below.refl _ _).new _
        have HK3 : Hid (w33.heap[w32.heap.size]? = some (.cells #[.slice none 0 0, .int .i64 0, .bool false, .slice none 0 0] 25 (0, 0))) := by rw [Hid, ← hw33]; exact heap_alloc_new _ _
        have HZ3 := mkHid (HZ2.out.then hba)
        replace R3 := mkHid (R3.out.below hba)
        first | rw [hw33] | skip
        clear hw33 hba
        try dsimp only
        refine hK.out _ _ (HS.out _ HZ3.out) (fun hS3 => ?_)
        clear hK K
        (try simp only [List.getElem_toArray, List.getElem_cons_succ, List.getElem_cons_zero, Act.put, List.setIfInBounds_toArray, List.set_cons_zero, List.set_cons_succ])
        refine wpAnyH_ready (rs := [8]) (by kernel_rfl) (by simp) ?_
        refine AllReadyH.cons (o := _) rfl (fun K hK => ?_) AllReadyH.nil
        have hbz : BX w33 w32.heap.size none 0 [] 0 false none 0 [] := ⟨HK3.out, noB_row _⟩
        obtain ⟨z0, z1, z2, z3⟩ := hbz.cells
        obtain ⟨f0, f1, f2, f3⟩ := hbz.free
        go_simp
        obtain ⟨v3, hv3⟩ : ∃ X, (((w33.setCell ⟨w32.heap.size, 0, none⟩ (.slice a3 0 c3)).setCell ⟨w32.heap.size, 1, none⟩ (.int .i64 0)).setCell ⟨w32.heap.size, 2, none⟩ (.bool true)).setCell ⟨w32.heap.size, 3, none⟩ (.slice b3 1 d3) = X := ⟨_, rfl⟩
        have X5 : Hid (BX v3 w32.heap.size a3 c3 [] 0 true b3 d3 [⟨true, oneF 1⟩]) := by rw [Hid, ← hv3]; exact hbz.storedK okB_1.ne R3.out (by first | rfl | trivial) (by first | rfl | trivial)
        have HGE : Hid (x5.heap.size ≤ w32.heap.size) := Nat.le_trans HVD.out.size HZ2.out.size
        have HZV : Hid (Below x5.heap.size x5 v3) := by rw [Hid, ← hv3]; exact below_four (HVD.out.then HZ3.out) HGE.out _ _ _ _
        have HZW : Hid (Below y0.heap.size y0 v3) := by rw [Hid, ← hv3]; exact below_four HZ3.out HZ2.out.size _ _ _ _
        first | rw [hv3] | skip
        clear hv3 hbz z0 z1 z2 z3 f0 f1 f2 f3 R3
        try dsimp only
        refine hK.out _ _ (HS.out _ HZW.out) (fun hS4 => ?_)
        clear hK K
        (try simp only [List.getElem_toArray, List.getElem_cons_succ, List.getElem_cons_zero, Act.put, List.setIfInBounds_toArray, List.set_cons_zero, List.set_cons_succ])
        refine wpAnyH_take (i := 9) (oi := _) (v := ?_) rfl (by kernel_rfl) (by kernel_rfl) (by kernel_rfl) (fun _ _ _ h => h) (Or.inl ⟨by rfl, ?_⟩) (by assumption) ?_
        rotate_left
        · (intro w' hSw; obtain ⟨z0, z1, z2, z3⟩ := hSw; go_simp; try with_reducible rfl)
        (try simp only [List.getElem_toArray, List.getElem_cons_succ, List.getElem_cons_zero, Act.put, List.setIfInBounds_toArray, List.set_cons_zero, List.set_cons_succ])
        refine wpAnyH_done (by kernel_rfl) (NoPanic.normal ?_) _
        refine ⟨rfl, ?_⟩
        (repeat apply Exists.intro)
        exact ⟨rfl, X5.out, HGE.out, HZV.out⟩
      refine AllReadyH.cons (o := _) rfl (fun K hK => ?_) AllReadyH.nil
      go_simp
      obtain ⟨w35, hw35⟩ : ∃ X, w31.alloc (.cells #[.slice none 0 0, .int .i64 0, .bool false, .slice none 0 0] 25) = X := ⟨_, rfl⟩
      have hba : Below w31.heap.size w31 w35 := by rw [← hw35]; exact (Below.refl _ _).new _
      have HK5 : Hid (w35.heap[w31.heap.size]? = some (.cells #[.slice none 0 0, .int .i64 0, .bool false, .slice none 0 0] 25 (0, 0))) := by rw [Hid, ← hw35]; exact heap_alloc_new _ _
      have HZ5 := mkHid (HZ1.out.then hba)
      replace HO1 := mkHid (HO1.out.below hba)
      first | rw [hw35] | skip
      clear hw35 hba
      try dsimp only
      refine hK.out _ _ (HS.out _ HZ5.out) (fun hS5 => ?_)
      clear hK K
      (try simp only [List.getElem_toArray, List.getElem_cons_succ, List.getElem_cons_zero, Act.put, List.setIfInBounds_toArray, List.set_cons_zero, List.set_cons_succ])
      refine wpAnyH_ready (rs := [3]) (by kernel_rfl) (by simp) ?_
      refine AllReadyH.cons (o := _) rfl (fun K hK => ?_) AllReadyH.nil
      go_simp
      refine (change_yesK (n := 0) (k := 0) (m := 2) (j := 1) (q := true) (x := oneF 1) (X1.out.below HZ5.out).2 okB_nil HO1.out o1_fact rfl rfl rfl rfl).mono ?_
      rintro e w36 ⟨a3, c3, b3, d3, rfl, hbr, hb⟩
      have R3 := mkHid hbr
      have HZ6 := mkHid (HZ5.out.then hb)
      have HK6 := mkHid ((hb.block _ (Array.getElem?_eq_some_iff.1 HK5.out).1).trans HK5.out)
      clear hbr hb
      try dsimp only
      refine hK.out _ _ (HS.out _ HZ6.out) (fun hS6 => ?_)
      clear hK K
      (try simp only [List.getElem_toArray, List.getElem_cons_succ, List.getElem_cons_zero, Act.put, List.setIfInBounds_toArray, List.set_cons_zero, List.set_cons_succ])
      refine wpAnyH_take (i := 4) (oi := _) (v := ?_) rfl (by kernel_rfl) (by kernel_rfl) (by kernel_rfl) (fun _ _ _ h => h) (Or.inl ⟨by rfl, ?_⟩) (by assumption) ?_
      rotate_left
      · (intro w' hSw; obtain ⟨z0, z1, z2, z3⟩ := hSw; go_simp; try with_reducible rfl)
      (try simp only [List.getElem_toArray, List.getElem_cons_succ, List.getElem_cons_zero, Act.put, List.setIfInBounds_toArray, List.set_cons_zero, List.set_cons_succ])
      refine wpAnyH_take (i := 5) (oi := _) (v := ?_) rfl (by kernel_rfl) (by kernel_rfl) (by kernel_rfl) (fun _ _ _ h => h) (Or.inl ⟨by rfl, ?_⟩) (by assumption) ?_
      rotate_left
      · (intro w' hSw; obtain ⟨z0, z1, z2, z3⟩ := hSw; go_simp; try with_reducible rfl)
      (try simp only [List.getElem_toArray, List.getElem_cons_succ, List.getElem_cons_zero, Act.put, List.setIfInBounds_toArray, List.set_cons_zero, List.set_cons_succ])
      refine wpAnyH_take (i := 6) (oi := _) (v := ?_) rfl (by kernel_rfl) (by kernel_rfl) (by kernel_rfl) (fun _ _ _ h => h) (Or.inl ⟨by rfl, ?_⟩) (by assumption) ?_
      rotate_left
      · (intro w' hSw; obtain ⟨z0, z1, z2, z3⟩ := hSw; go_simp; try with_reducible rfl)
      (try simp only [List.getElem_toArray, List.getElem_cons_succ, List.getElem_cons_zero, Act.put, List.setIfInBounds_toArray, List.set_cons_zero, List.set_cons_succ])
      refine wpAnyH_ready (rs := [8]) (by kernel_rfl) (by simp) ?_
      refine AllReadyH.cons (o := _) rfl (fun K hK => ?_) AllReadyH.nil
      have hbz : BX w36 w31.heap.size none 0 [] 0 false none 0 [] := ⟨HK6.out, noB_row _⟩
      obtain ⟨z0, z1, z2, z3⟩ := hbz.cells
      obtain ⟨f0, f1, f2, f3⟩ := hbz.free
      go_simp
      obtain ⟨v3, hv3⟩ : ∃ X, (((w36.setCell ⟨w31.heap.size, 0, none⟩ (.slice a3 0 c3)).setCell ⟨w31.heap.size, 1, none⟩ (.int .i64 0)).setCell ⟨w31.heap.size, 2, none⟩ (.bool true)).setCell ⟨w31.heap.size, 3, none⟩ (.slice b3 1 d3) = X := ⟨_, rfl⟩
      have X5 : Hid (BX v3 w31.heap.size a3 c3 [] 0 true b3 d3 [⟨true, oneF 1⟩]) := by rw [Hid, ← hv3]; exact hbz.storedK okB_1.ne R3.out (by first | rfl | trivial) (by first | rfl | trivial)
      have HGE : Hid (x5.heap.size ≤ w31.heap.size) := Nat.le_trans HVD.out.size HZ1.out.size
      have HZV : Hid (Below x5.heap.size x5 v3) := by rw [Hid, ← hv3]; exact below_four (HVD.out.then HZ6.out) HGE.out _ _ _ _
      have HZW : Hid (Below y0.heap.size y0 v3) := by rw [Hid, ← hv3]; exact below_four HZ6.out HZ1.out.size _ _ _ _
      first | rw [hv3] | skip
      clear hv3 hbz z0 z1 z2 z3 f0 f1 f2 f3 R3
      try dsimp only
      refine hK.out _ _ (HS.out _ HZW.out) (fun hS7 => ?_)
      clear hK K
      (try simp only [List.getElem_toArray, List.getElem_cons_succ, List.getElem_cons_zero, Act.put, List.setIfInBounds_toArray, List.set_cons_zero, List.set_cons_succ])
      refine wpAnyH_take (i := 9) (oi := _) (v := ?_) rfl (by kernel_rfl) (by kernel_rfl) (by kernel_rfl) (fun _ _ _ h => h) (Or.inl ⟨by rfl, ?_⟩) (by assumption) ?_
      rotate_left
      · (intro w' hSw; obtain ⟨z0, z1, z2, z3⟩ := hSw; go_simp; try with_reducible rfl)
      (try simp only [List.getElem_toArray, List.getElem_cons_succ, List.getElem_cons_zero, Act.put, List.setIfInBounds_toArray, List.set_cons_zero, List.set_cons_succ])
      refine wpAnyH_done (by kernel_rfl) (NoPanic.normal ?_) _
      refine ⟨rfl, ?_⟩
      (repeat apply Exists.intro)
      exact ⟨rfl, X5.out, HGE.out, HZV.out⟩
    refine AllReadyH.cons (o := _) rfl (fun K hK => ?_) AllReadyH.nil
    go_simp
    obtain ⟨w38, hw38⟩ : ∃ X, y0.alloc (.cells #[.slice none 0 0, .int .i64 0, .bool false, .slice none 0 0] 25) = X := ⟨_, rfl⟩
    have hba : Below y0.heap.size y0 w38 := by rw [← hw38]; exact (Below.refl _ _).new _
    have HK8 : Hid (w38.heap[y0.heap.size]? = some (.cells #[.slice none 0 0, .int .i64 0, .bool false, .slice none 0 0] 25 (0, 0))) := by rw [Hid, ← hw38]; exact heap_alloc_new _ _
    have HZ8 := mkHid (HZ0.out.then hba)
    first | rw [hw38] | skip
    clear hw38 hba
    try dsimp only
    refine hK.out _ _ (HS.out _ HZ8.out) (fun hS8 => ?_)
    clear hK K
    (try simp only [List.getElem_toArray, List.getElem_cons_succ, List.getElem_cons_zero, Act.put, List.setIfInBounds_toArray, List.set_cons_zero, List.set_cons_succ])
    refine wpAnyH_ready (rs := [1]) (by kernel_rfl) (by simp) ?_
    refine AllReadyH.cons (o := _) rfl (fun K hK => ?_) AllReadyH.nil
    go_simp
    refine (one13_any 1 (by omega) (by omega) _).mono ?_
    rintro e w39 ⟨o1, rfl, hr, hb⟩
    have HO9 := mkHid hr.row
    have HZ9 := mkHid (HZ8.out.then hb)
    have HK9 := mkHid ((hb.block _ (Array.getElem?_eq_some_iff.1 HK8.out).1).trans HK8.out)
    clear hr hb
    try dsimp only
    refine hK.out _ _ (HS.out _ HZ9.out) (fun hS9 => ?_)
    clear hK K
    (try simp only [List.getElem_toArray, List.getElem_cons_succ, List.getElem_cons_zero, Act.put, List.setIfInBounds_toArray, List.set_cons_zero, List.set_cons_succ])
    refine wpAnyH_take (i := 2) (oi := _) (v := ?_) rfl (by kernel_rfl) (by kernel_rfl) (by kernel_rfl) (fun _ _ _ h => h) (Or.inl ⟨by rfl, ?_⟩) (by assumption) ?_
    rotate_left
    · (intro w' hSw; obtain ⟨z0, z1, z2, z3⟩ := hSw; go_simp; try with_reducible rfl)
    (try simp only [List.getElem_toArray, List.getElem_cons_succ, List.getElem_cons_zero, Act.put, List.setIfInBounds_toArray, List.set_cons_zero, List.set_cons_succ])
    refine wpAnyH_ready (rs := [3]) (by kernel_rfl) (by simp) ?_
    refine AllReadyH.cons (o := _) rfl (fun K hK => ?_) AllReadyH.nil
    go_simp
    refine (change_yesK (n := 0) (k := 0) (m := 2) (j := 1) (q := true) (x := oneF 1) (X1.out.below HZ9.out).2 okB_nil HO9.out o1_fact rfl rfl rfl rfl).mono ?_
    rintro e w310 ⟨a3, c3, b3, d3, rfl, hbr, hb⟩
    have R3 := mkHid hbr
    have HZ10 := mkHid (HZ9.out.then hb)
    have HK10 := mkHid ((hb.block _ (Array.getElem?_eq_some_iff.1 HK9.out).1).trans HK9.out)
    clear hbr hb
    try dsimp only
    refine hK.out _ _ (HS.out _ HZ10.out) (fun hS10 => ?_)
    clear hK K
    (try simp only [List.getElem_toArray, List.getElem_cons_succ, List.getElem_cons_zero, Act.put, List.setIfInBounds_toArray, List.set_cons_zero, List.set_cons_succ])
    refine wpAnyH_take (i := 4) (oi := _) (v := ?_) rfl (by kernel_rfl) (by kernel_rfl) (by kernel_rfl) (fun _ _ _ h => h) (Or.inl ⟨by rfl, ?_⟩) (by assumption) ?_
    rotate_left
    · (intro w' hSw; obtain ⟨z0, z1, z2, z3⟩ := hSw; go_simp; try with_reducible rfl)
    (try simp only [List.getElem_toArray, List.getElem_cons_succ, List.getElem_cons_zero, Act.put, List.setIfInBounds_toArray, List.set_cons_zero, List.set_cons_succ])
    refine wpAnyH_take (i := 5) (oi := _) (v := ?_) rfl (by kernel_rfl) (by kernel_rfl) (by kernel_rfl) (fun _ _ _ h => h) (Or.inl ⟨by rfl, ?_⟩) (by assumption) ?_
    rotate_left
    · (intro w' hSw; obtain ⟨z0, z1, z2, z3⟩ := hSw; go_simp; try with_reducible rfl)
    (try simp only [List.getElem_toArray, List.getElem_cons_succ, List.getElem_cons_zero, Act.put, List.setIfInBounds_toArray, List.set_cons_zero, List.set_cons_succ])
    refine wpAnyH_take (i := 6) (oi := _) (v := ?_) rfl (by kernel_rfl) (by kernel_rfl) (by kernel_rfl) (fun _ _ _ h => h) (Or.inl ⟨by rfl, ?_⟩) (by assumption) ?_
    rotate_left
    · (intro w' hSw; obtain ⟨z0, z1, z2, z3⟩ := hSw; go_simp; try with_reducible rfl)
    (try simp only [List.getElem_toArray, List.getElem_cons_succ, List.getElem_cons_zero, Act.put, List.setIfInBounds_toArray, List.set_cons_zero, List.set_cons_succ])
    refine wpAnyH_ready (rs := [8]) (by kernel_rfl) (by simp) ?_
    refine AllReadyH.cons (o := _) rfl (fun K hK => ?_) AllReadyH.nil
    have hbz : BX w310 y0.heap.size none 0 [] 0 false none 0 [] := ⟨HK10.out, noB_row _⟩
    obtain ⟨z0, z1, z2, z3⟩ := hbz.cells
    obtain ⟨f0, f1, f2, f3⟩ := hbz.free
    go_simp
    obtain ⟨v3, hv3⟩ : ∃ X, (((w310.setCell ⟨y0.heap.size, 0, none⟩ (.slice a3 0 c3)).setCell ⟨y0.heap.size, 1, none⟩ (.int .i64 0)).setCell ⟨y0.heap.size, 2, none⟩ (.bool true)).setCell ⟨y0.heap.size, 3, none⟩ (.slice b3 1 d3) = X := ⟨_, rfl⟩
    have X5 : Hid (BX v3 y0.heap.size a3 c3 [] 0 true b3 d3 [⟨true, oneF 1⟩]) := by rw [Hid, ← hv3]; exact hbz.storedK okB_1.ne R3.out (by first | rfl | trivial) (by first | rfl | trivial)
    have HGE : Hid (x5.heap.size ≤ y0.heap.size) := Nat.le_trans HVD.out.size HZ0.out.size
    have HZV : Hid (Below x5.heap.size x5 v3) := by rw [Hid, ← hv3]; exact below_four (HVD.out.then HZ10.out) HGE.out _ _ _ _
    have HZW : Hid (Below y0.heap.size y0 v3) := by rw [Hid, ← hv3]; exact below_four HZ10.out HZ0.out.size _ _ _ _
    first | rw [hv3] | skip
    clear hv3 hbz z0 z1 z2 z3 f0 f1 f2 f3 R3
    try dsimp only
    refine hK.out _ _ (HS.out _ HZW.out) (fun hS11 => ?_)
    clear hK K
    (try simp only [List.getElem_toArray, List.getElem_cons_succ, List.getElem_cons_zero, Act.put, List.setIfInBounds_toArray, List.set_cons_zero, List.set_cons_succ])
    refine wpAnyH_take (i := 9) (oi := _) (v := ?_) rfl (by kernel_rfl) (by kernel_rfl) (by kernel_rfl) (fun _ _ _ h => h) (Or.inl ⟨by rfl, ?_⟩) (by assumption) ?_
    rotate_left
    · (intro w' hSw; obtain ⟨z0, z1, z2, z3⟩ := hSw; go_simp; try with_reducible rfl)
    (try simp only [List.getElem_toArray, List.getElem_cons_succ, List.getElem_cons_zero, Act.put, List.setIfInBounds_toArray, List.set_cons_zero, List.set_cons_succ])
    refine wpAnyH_done (by kernel_rfl) (NoPanic.normal ?_) _
    refine ⟨rfl, ?_⟩
    (repeat apply Exists.intro)
    exact ⟨rfl, X5.out, HGE.out, HZV.out⟩
  rintro ev A' v3 ⟨rfl, e32, e33, e34, e35, e31, e36, e37, B5, a3, c3, b3, d3, rfl, hbx, hge, hb⟩
  subst hA
  simp only [Act.put, List.setIfInBounds_toArray, List.set_cons_zero, List.set_cons_succ]
  have X5 := mkHid hbx
  have HGW : Hid (w.heap.size ≤ B5) := Nat.le_trans HBY.out hge
  replace HB := mkHid (HB.out.then hb)
  clear hbx hge hb X1 X2 HBY
  go_wp2_with fail
  generalize hA : Act.mk _ _ = A0
  refine Code.wp_mono (Q := fun ev A' X' => ev = .normal ∧ ∃ (e39 e40 e41 e42 e38 e43 e44 : Value) (a4 : Option Addr) (c4 : Nat) (b4 : Option Addr) (d4 : Nat), A' = ((((((((A0.put (some 39) e39).put (some 40) e40).put (some 41) e41).put (some 42) e42).put (some 38) e38).put (some 43) e43).put (some 44) e44).put (some 7) (.int .i64 0)) ∧ BX X' B5 a4 c4 [] 0 true b4 d4 [⟨true, oneF 1⟩, ⟨false, oneF 2⟩] ∧ Below w.heap.size w X') ?_ ?_
  rotate_left
  · subst hA
    obtain ⟨y1, hv1⟩ : ∃ X, v3.drew = X := ⟨_, rfl⟩
    have hbd : Below v3.heap.size v3 y1 := by rw [← hv1]; exact (Below.refl _ _).drew
    replace X5 := mkHid (X5.out.below hbd)
    replace HB := mkHid (HB.out.then hbd)
    clear hbd
    refine wp_region_noPanic ?_
    refine wp_region_held_drew (S := fun X : World => True) (by kernel_rfl) trivial (fun hSd => ?_)
    rw [hv1]
    clear hv1
    have HY0 := mkHid (Below.refl y1.heap.size y1)
    refine wpAnyH_ready (rs := [0, 1]) (by kernel_rfl) (by simp) ?_
    refine AllReadyH.cons (o := _) rfl (fun K hK => ?_) ?_
    · skip
      obtain ⟨z0, z1, z2, z3⟩ := (X5.out.below HY0.out).cellsK (n := 0) (k := 1) rfl rfl
      go_simp
      clear z0 z1 z2 z3
      try dsimp only
      refine hK.out _ _ (trivial) (fun hS1 => ?_)
      clear hK K
      (try simp only [List.getElem_toArray, List.getElem_cons_succ, List.getElem_cons_zero, Act.put, List.setIfInBounds_toArray, List.set_cons_zero, List.set_cons_succ])
      refine wpAnyH_ready (rs := [1]) (by kernel_rfl) (by simp) ?_
      refine AllReadyH.cons (o := _) rfl (fun K hK => ?_) AllReadyH.nil
      go_simp
      refine (one13_any 2 (by omega) (by omega) _).mono ?_
      rintro e w42 ⟨o2, rfl, hr, hb⟩
      have HP2 := mkHid hr.row
      have HY2 := mkHid (HY0.out.then hb)
      clear hr hb
      try dsimp only
      refine hK.out _ _ (trivial) (fun hS2 => ?_)
      clear hK K
      (try simp only [List.getElem_toArray, List.getElem_cons_succ, List.getElem_cons_zero, Act.put, List.setIfInBounds_toArray, List.set_cons_zero, List.set_cons_succ])
      refine wpAnyH_take (i := 2) (oi := _) (v := ?_) rfl (by kernel_rfl) (by kernel_rfl) (by kernel_rfl) (fun _ _ _ h => h) (Or.inl ⟨by rfl, ?_⟩) (by assumption) ?_
      rotate_left
      · (intro w' hSw; go_simp; try with_reducible rfl)
      (try simp only [List.getElem_toArray, List.getElem_cons_succ, List.getElem_cons_zero, Act.put, List.setIfInBounds_toArray, List.set_cons_zero, List.set_cons_succ])
      refine wpAnyH_ready (rs := [3]) (by kernel_rfl) (by simp) ?_
      refine AllReadyH.cons (o := _) rfl (fun K hK => ?_) AllReadyH.nil
      go_simp
      refine (change_yesK (n := 0) (k := 1) (m := 2) (j := 2) (q := false) (x := oneF 2) (X5.out.below HY2.out).2 okB_1 HP2.out o2_fact rfl rfl rfl rfl).mono ?_
      rintro e w43 ⟨a4, c4, b4, d4, rfl, hbr, hb⟩
      have R4 := mkHid hbr
      have HY3 := mkHid (HY2.out.then hb)
      clear hbr hb
      try dsimp only
      refine hK.out _ _ (trivial) (fun hS3 => ?_)
      clear hK K
      (try simp only [List.getElem_toArray, List.getElem_cons_succ, List.getElem_cons_zero, Act.put, List.setIfInBounds_toArray, List.set_cons_zero, List.set_cons_succ])
      refine wpAnyH_take (i := 4) (oi := _) (v := ?_) rfl (by kernel_rfl) (by kernel_rfl) (by kernel_rfl) (fun _ _ _ h => h) (Or.inl ⟨by rfl, ?_⟩) (by assumption) ?_
      rotate_left
      · (intro w' hSw; go_simp; try with_reducible rfl)
      (try simp only [List.getElem_toArray, List.getElem_cons_succ, List.getElem_cons_zero, Act.put, List.setIfInBounds_toArray, List.set_cons_zero, List.set_cons_succ])
      refine wpAnyH_take (i := 5) (oi := _) (v := ?_) rfl (by kernel_rfl) (by kernel_rfl) (by kernel_rfl) (fun _ _ _ h => h) (Or.inl ⟨by rfl, ?_⟩) (by assumption) ?_
      rotate_left
      · (intro w' hSw; go_simp; try with_reducible rfl)
      (try simp only [List.getElem_toArray, List.getElem_cons_succ, List.getElem_cons_zero, Act.put, List.setIfInBounds_toArray, List.set_cons_zero, List.set_cons_succ])
      refine wpAnyH_take (i := 6) (oi := _) (v := ?_) rfl (by kernel_rfl) (by kernel_rfl) (by kernel_rfl) (fun _ _ _ h => h) (Or.inl ⟨by rfl, ?_⟩) (by assumption) ?_
      rotate_left
      · (intro w' hSw; go_simp; try with_reducible rfl)
      (try simp only [List.getElem_toArray, List.getElem_cons_succ, List.getElem_cons_zero, Act.put, List.setIfInBounds_toArray, List.set_cons_zero, List.set_cons_succ])
      refine wpAnyH_ready (rs := [7]) (by kernel_rfl) (by simp) ?_
      refine AllReadyH.cons (o := _) rfl (fun K hK => ?_) AllReadyH.nil
      have hbz := X5.out.below HY3.out
      obtain ⟨z0, z1, z2, z3⟩ := hbz.cellsK (n := 0) (k := 1) rfl rfl
      obtain ⟨f0, f1, f2, f3⟩ := hbz.free
      go_simp
      obtain ⟨v4, hv4⟩ : ∃ X, (((w43.setCell ⟨B5, 0, none⟩ (.slice a4 0 c4)).setCell ⟨B5, 1, none⟩ (.int .i64 0)).setCell ⟨B5, 2, none⟩ (.bool true)).setCell ⟨B5, 3, none⟩ (.slice b4 2 d4) = X := ⟨_, rfl⟩
      have X6 : Hid (BX v4 B5 a4 c4 [] 0 true b4 d4 [⟨true, oneF 1⟩, ⟨false, oneF 2⟩]) := by rw [Hid, ← hv4]; exact hbz.storedK okB_2.ne R4.out (by first | rfl | trivial) (by first | rfl | trivial)
      have HBV : Hid (Below w.heap.size w v4) := by rw [Hid, ← hv4]; exact below_four (HB.out.then HY3.out) HGW.out _ _ _ _
      first | rw [hv4] | skip
      clear hv4 hbz z0 z1 z2 z3 f0 f1 f2 f3 R4 X5 HB
      have HB := HBV
      clear HBV
      try dsimp only
      refine hK.out _ _ (trivial) (fun hS4 => ?_)
      clear hK K
      (try simp only [List.getElem_toArray, List.getElem_cons_succ, List.getElem_cons_zero, Act.put, List.setIfInBounds_toArray, List.set_cons_zero, List.set_cons_succ])
      refine wpAnyH_take (i := 8) (oi := _) (v := ?_) rfl (by kernel_rfl) (by kernel_rfl) (by kernel_rfl) (fun _ _ _ h => h) (Or.inl ⟨by rfl, ?_⟩) (by assumption) ?_
      rotate_left
      · (intro w' hSw; go_simp; try with_reducible rfl)
      (try simp only [List.getElem_toArray, List.getElem_cons_succ, List.getElem_cons_zero, Act.put, List.setIfInBounds_toArray, List.set_cons_zero, List.set_cons_succ])
      refine wpAnyH_done (by kernel_rfl) (NoPanic.normal ?_) _
      refine ⟨rfl, ?_⟩
      (repeat apply Exists.intro)
      exact ⟨rfl, X6.out, HB.out⟩
    refine AllReadyH.cons (o := _) rfl (fun K hK => ?_) AllReadyH.nil
    go_simp
    refine (one13_any 2 (by omega) (by omega) _).mono ?_
    rintro e w45 ⟨o2, rfl, hr, hb⟩
    have HP5 := mkHid hr.row
    have HY5 := mkHid (HY0.out.then hb)
    clear hr hb
    try dsimp only
    refine hK.out _ _ (trivial) (fun hS5 => ?_)
    clear hK K
    (try simp only [List.getElem_toArray, List.getElem_cons_succ, List.getElem_cons_zero, Act.put, List.setIfInBounds_toArray, List.set_cons_zero, List.set_cons_succ])
    refine wpAnyH_take (i := 2) (oi := _) (v := ?_) rfl (by kernel_rfl) (by kernel_rfl) (by kernel_rfl) (fun _ _ _ h => h) (Or.inl ⟨by rfl, ?_⟩) (by assumption) ?_
    rotate_left
    · (intro w' hSw; go_simp; try with_reducible rfl)
    (try simp only [List.getElem_toArray, List.getElem_cons_succ, List.getElem_cons_zero, Act.put, List.setIfInBounds_toArray, List.set_cons_zero, List.set_cons_succ])
    refine wpAnyH_ready (rs := [0]) (by kernel_rfl) (by simp) ?_
    refine AllReadyH.cons (o := _) rfl (fun K hK => ?_) AllReadyH.nil
    obtain ⟨z0, z1, z2, z3⟩ := (X5.out.below HY5.out).cellsK (n := 0) (k := 1) rfl rfl
    go_simp
    clear z0 z1 z2 z3
    try dsimp only
    refine hK.out _ _ (trivial) (fun hS6 => ?_)
    clear hK K
    (try simp only [List.getElem_toArray, List.getElem_cons_succ, List.getElem_cons_zero, Act.put, List.setIfInBounds_toArray, List.set_cons_zero, List.set_cons_succ])
    refine wpAnyH_ready (rs := [3]) (by kernel_rfl) (by simp) ?_
    refine AllReadyH.cons (o := _) rfl (fun K hK => ?_) AllReadyH.nil
    go_simp
    refine (change_yesK (n := 0) (k := 1) (m := 2) (j := 2) (q := false) (x := oneF 2) (X5.out.below HY5.out).2 okB_1 HP5.out o2_fact rfl rfl rfl rfl).mono ?_
    rintro e w47 ⟨a4, c4, b4, d4, rfl, hbr, hb⟩
    have R4 := mkHid hbr
    have HY7 := mkHid (HY5.out.then hb)
    clear hbr hb
    try dsimp only
    refine hK.out _ _ (trivial) (fun hS7 => ?_)
    clear hK K
    (try simp only [List.getElem_toArray, List.getElem_cons_succ, List.getElem_cons_zero, Act.put, List.setIfInBounds_toArray, List.set_cons_zero, List.set_cons_succ])
    refine wpAnyH_take (i := 4) (oi := _) (v := ?_) rfl (by kernel_rfl) (by kernel_rfl) (by kernel_rfl) (fun _ _ _ h => h) (Or.inl ⟨by rfl, ?_⟩) (by assumption) ?_
    rotate_left
    · (intro w' hSw; go_simp; try with_reducible rfl)
    (try simp only [List.getElem_toArray, List.getElem_cons_succ, List.getElem_cons_zero, Act.put, List.setIfInBounds_toArray, List.set_cons_zero, List.set_cons_succ])
    refine wpAnyH_take (i := 5) (oi := _) (v := ?_) rfl (by kernel_rfl) (by kernel_rfl) (by kernel_rfl) (fun _ _ _ h => h) (Or.inl ⟨by rfl, ?_⟩) (by assumption) ?_
    rotate_left
    · (intro w' hSw; go_simp; try with_reducible rfl)
    (try simp only [List.getElem_toArray, List.getElem_cons_succ, List.getElem_cons_zero, Act.put, List.setIfInBounds_toArray, List.set_cons_zero, List.set_cons_succ])
    refine wpAnyH_take (i := 6) (oi := _) (v := ?_) rfl (by kernel_rfl) (by kernel_rfl) (by kernel_rfl) (fun _ _ _ h => h) (Or.inl ⟨by rfl, ?_⟩) (by assumption) ?_
    rotate_left
    · (intro w' hSw; go_simp; try with_reducible rfl)
    (try simp only [List.getElem_toArray, List.getElem_cons_succ, List.getElem_cons_zero, Act.put, List.setIfInBounds_toArray, List.set_cons_zero, List.set_cons_succ])
    refine wpAnyH_ready (rs := [7]) (by kernel_rfl) (by simp) ?_
    refine AllReadyH.cons (o := _) rfl (fun K hK => ?_) AllReadyH.nil
    have hbz := X5.out.below HY7.out
    obtain ⟨z0, z1, z2, z3⟩ := hbz.cellsK (n := 0) (k := 1) rfl rfl
    obtain ⟨f0, f1, f2, f3⟩ := hbz.free
    go_simp
    obtain ⟨v4, hv4⟩ : ∃ X, (((w47.setCell ⟨B5, 0, none⟩ (.slice a4 0 c4)).setCell ⟨B5, 1, none⟩ (.int .i64 0)).setCell ⟨B5, 2, none⟩ (.bool true)).setCell ⟨B5, 3, none⟩ (.slice b4 2 d4) = X := ⟨_, rfl⟩
    have X6 : Hid (BX v4 B5 a4 c4 [] 0 true b4 d4 [⟨true, oneF 1⟩, ⟨false, oneF 2⟩]) := by rw [Hid, ← hv4]; exact hbz.storedK okB_2.ne R4.out (by first | rfl | trivial) (by first | rfl | trivial)
    have HBV : Hid (Below w.heap.size w v4) := by rw [Hid, ← hv4]; exact below_four (HB.out.then HY7.out) HGW.out _ _ _ _
    first | rw [hv4] | skip
    clear hv4 hbz z0 z1 z2 z3 f0 f1 f2 f3 R4 X5 HB
    have HB := HBV
    clear HBV
    try dsimp only
    refine hK.out _ _ (trivial) (fun hS8 => ?_)
    clear hK K
    (try simp only [List.getElem_toArray, List.getElem_cons_succ, List.getElem_cons_zero, Act.put, List.setIfInBounds_toArray, List.set_cons_zero, List.set_cons_succ])
    refine wpAnyH_take (i := 8) (oi := _) (v := ?_) rfl (by kernel_rfl) (by kernel_rfl) (by kernel_rfl) (fun _ _ _ h => h) (Or.inl ⟨by rfl, ?_⟩) (by assumption) ?_
    rotate_left
    · (intro w' hSw; go_simp; try with_reducible rfl)
    (try simp only [List.getElem_toArray, List.getElem_cons_succ, List.getElem_cons_zero, Act.put, List.setIfInBounds_toArray, List.set_cons_zero, List.set_cons_succ])
    refine wpAnyH_done (by kernel_rfl) (NoPanic.normal ?_) _
    refine ⟨rfl, ?_⟩
    (repeat apply Exists.intro)
    exact ⟨rfl, X6.out, HB.out⟩
  rintro ev A' v4 ⟨rfl, e39, e40, e41, e42, e38, e43, e44, a4, c4, b4, d4, rfl, hbx, hb⟩
  subst hA
  simp only [Act.put, List.setIfInBounds_toArray, List.set_cons_zero, List.set_cons_succ]
  have X6 := mkHid hbx
  replace HB := mkHid hb
  clear hbx hb X5 HGW
  obtain ⟨X6c0, X6c1, X6c2, X6c3⟩ := X6.out.cellsK (n := 0) (k := 2) rfl rfl
  go_wp2_with fail
  obtain ⟨x6, hx6⟩ : ∃ X, v4.alloc (.cells #[.int .i64 2, .string ⟨#[]⟩, .int .i64 0] 93) = X := ⟨_, rfl⟩
  have hbx : Below v4.heap.size v4 x6 := by rw [← hx6]; exact (Below.refl _ _).new _
  have RI : Hid (Row x6 (some ⟨v4.heap.size, 0, none⟩) 1 [(⟨2, ⟨#[]⟩, 0⟩ : Cel)]) := by rw [Hid, ← hx6]; exact cellI_row v4
  clear X6c0 X6c1 X6c2 X6c3
  replace X6 := mkHid (X6.out.below hbx)
  replace HB := mkHid (HB.out.then hbx)
  clear hbx
  first | rw [hx6] | skip
  clear hx6
  refine (change_noK (n := 0) (k := 2) (m := 1) X6.out.2 okB_2 RI.out oi_no rfl rfl rfl).mono ?_
  rintro e w7 ⟨a7, c7, b7, d7, rfl, hbr, hq⟩
  replace X6 := mkHid (X6.out.below hq)
  replace HB := mkHid (HB.out.then hq)
  have R7 := mkHid hbr
  clear hbr hq
  obtain ⟨x8, hx8⟩ : ∃ X, w7.alloc (.cells #[.slice a7 0 c7, .int .i64 0, .bool true, .slice b7 2 d7] 25) = X := ⟨_, rfl⟩
  have hbx : Below w7.heap.size w7 x8 := by rw [← hx8]; exact (Below.refl _ _).new _
  have X8 : Hid (BX x8 w7.heap.size a7 c7 [] 0 true b7 d7 [⟨true, oneF 1⟩, ⟨false, oneF 2⟩]) := by rw [Hid, ← hx8]; exact BX.madeK R7.out (by first | rfl | trivial) (by first | rfl | trivial)
  replace X6 := mkHid (X6.out.below hbx)
  replace HB := mkHid (HB.out.then hbx)
  clear hbx
  go_wp2_with fail
  first | rw [hx8] | skip
  clear hx8
  refine (new13_any _).mono ?_
  rintro e w9 ⟨rfl, hq⟩
  replace X6 := mkHid (X6.out.below hq)
  replace X8 := mkHid (X8.out.below hq)
  replace HB := mkHid (HB.out.then hq)
  clear hq
  go_wp2_with fail
  refine (one13_any 1 (by omega) (by omega) _).mono ?_
  rintro e w10 ⟨o3, rfl, hr, hq⟩
  replace X6 := mkHid (X6.out.below hq)
  replace X8 := mkHid (X8.out.below hq)
  replace HB := mkHid (HB.out.then hq)
  have RO := mkHid hr.row
  clear hr hq
  go_wp2_with fail
  refine (change_offK (n := 0) (k := 0) (m := 2) (noB_row _) okB_nil RO.out rfl rfl rfl).mono ?_
  rintro e w11 ⟨a8, c8, b8, d8, rfl, hbr, hq⟩
  replace X6 := mkHid (X6.out.below hq)
  replace X8 := mkHid (X8.out.below hq)
  replace RO := mkHid (RO.out.below hq)
  replace HB := mkHid (HB.out.then hq)
  have R8 := mkHid hbr
  clear hbr hq
  obtain ⟨x12, hx12⟩ : ∃ X, w11.alloc (.cells #[.slice a8 0 c8, .int .i64 0, .bool false, .slice b8 0 d8] 25) = X := ⟨_, rfl⟩
  have hbx : Below w11.heap.size w11 x12 := by rw [← hx12]; exact (Below.refl _ _).new _
  have X10 : Hid (BX x12 w11.heap.size a8 c8 [] 0 false b8 d8 []) := by rw [Hid, ← hx12]; exact BX.madeK R8.out (by first | rfl | trivial) (by first | rfl | trivial)
  replace X6 := mkHid (X6.out.below hbx)
  replace X8 := mkHid (X8.out.below hbx)
  replace RO := mkHid (RO.out.below hbx)
  replace HB := mkHid (HB.out.then hbx)
  clear hbx
  obtain ⟨X6c0, X6c1, X6c2, X6c3⟩ := X6.out.cellsK (n := 0) (k := 2) rfl rfl
  go_wp2_with fail
  first | rw [hx12] | skip
  clear hx12
  refine (nowK (n := 0) (k := 2) (j := 1) X6.out.2 okB_2 (m := [oneF 1]) hb3_now rfl rfl rfl).mono ?_
  rintro e w13 ⟨a9, c9, rfl, hr, hq⟩
  clear X6c0 X6c1 X6c2 X6c3
  replace X6 := mkHid (X6.out.below hq)
  replace X8 := mkHid (X8.out.below hq)
  replace RO := mkHid (RO.out.below hq)
  replace X10 := mkHid (X10.out.below hq)
  replace HB := mkHid (HB.out.then hq)
  have RN := mkHid hr
  clear hr hq
  obtain ⟨X6c0, X6c1, X6c2, X6c3⟩ := X6.out.cellsK (n := 0) (k := 2) rfl rfl
  go_wp2_with fail
  refine (commit_okK (n := 0) (k := 2) (j := 1) (i := 1) (l := 0) (u := 1) X6.out.2 okB_2 hb3_big (by omega) (by omega) (m := [oneF 1]) (x := [oneF 1]) (z := []) hb3_now h_came h_went rfl rfl rfl rfl rfl rfl).mono ?_
  rintro e w14 ⟨a10, c10, a11, c11, a12, c12, rfl, hr1, hr2, hr3, hq⟩
  clear X6c0 X6c1 X6c2 X6c3
  replace X6 := mkHid (X6.out.below hq)
  replace X8 := mkHid (X8.out.below hq)
  replace RO := mkHid (RO.out.below hq)
  replace X10 := mkHid (X10.out.below hq)
  replace RN := mkHid (RN.out.below hq)
  replace HB := mkHid (HB.out.then hq)
  have RM := mkHid hr1
  have RC := mkHid hr2
  have RW := mkHid hr3
  clear hr1 hr2 hr3 hq
  have RB : Hid (BR w14 a10 c10 [oneF 1] none 0 []) := ⟨RM.out, nilRow _⟩
  clear RM
  have hbx : Below w14.heap.size w14 (w14.alloc (.cells #[.slice a10 1 c10, .int .i64 1, .bool false, .slice none 0 0] 25)) := (Below.refl _ _).new _
  have X13 : Hid (BX (w14.alloc (.cells #[.slice a10 1 c10, .int .i64 1, .bool false, .slice none 0 0] 25)) w14.heap.size a10 c10 [oneF 1] 1 false none 0 []) := BX.madeK RB.out (by first | rfl | trivial) (by first | rfl | trivial)
  replace X6 := mkHid (X6.out.below hbx)
  replace X8 := mkHid (X8.out.below hbx)
  replace RO := mkHid (RO.out.below hbx)
  replace X10 := mkHid (X10.out.below hbx)
  replace RN := mkHid (RN.out.below hbx)
  replace RC := mkHid (RC.out.below hbx)
  replace RW := mkHid (RW.out.below hbx)
  replace HB := mkHid (HB.out.then hbx)
  clear hbx
  obtain ⟨X6c0, X6c1, X6c2, X6c3⟩ := X6.out.cellsK (n := 0) (k := 2) rfl rfl
  go_wp2_with fail
  refine (back_onK (n := 0) (k := 2) X6.out.2 okB_2 rfl rfl).mono ?_
  rintro e w15 ⟨a14, c14, b14, d14, rfl, hbr, hq⟩
  clear X6c0 X6c1 X6c2 X6c3
  replace X6 := mkHid (X6.out.below hq)
  replace X8 := mkHid (X8.out.below hq)
  replace RO := mkHid (RO.out.below hq)
  replace X10 := mkHid (X10.out.below hq)
  replace RN := mkHid (RN.out.below hq)
  replace RC := mkHid (RC.out.below hq)
  replace RW := mkHid (RW.out.below hq)
  replace X13 := mkHid (X13.out.below hq)
  replace HB := mkHid (HB.out.then hq)
  have R14 := mkHid hbr
  clear hbr hq
  obtain ⟨x16, hx16⟩ : ∃ X, w15.alloc (.cells #[.slice a14 0 c14, .int .i64 0, .bool false, .slice b14 0 d14] 25) = X := ⟨_, rfl⟩
  have hbx : Below w15.heap.size w15 x16 := by rw [← hx16]; exact (Below.refl _ _).new _
  have X17 : Hid (BX x16 w15.heap.size a14 c14 [] 0 false b14 d14 []) := by rw [Hid, ← hx16]; exact BX.madeK R14.out (by first | rfl | trivial) (by first | rfl | trivial)
  replace X6 := mkHid (X6.out.below hbx)
  replace X8 := mkHid (X8.out.below hbx)
  replace RO := mkHid (RO.out.below hbx)
  replace X10 := mkHid (X10.out.below hbx)
  replace RN := mkHid (RN.out.below hbx)
  replace RC := mkHid (RC.out.below hbx)
  replace RW := mkHid (RW.out.below hbx)
  replace X13 := mkHid (X13.out.below hbx)
  replace HB := mkHid (HB.out.then hbx)
  clear hbx
  obtain ⟨X13c0, X13c1, X13c2, X13c3⟩ := X13.out.cellsK (n := 1) (k := 0) rfl rfl
  go_wp2_with fail
  first | rw [hx16] | skip
  clear hx16
  refine (back_offK (n := 1) (k := 0) X13.out.2 okB_m rfl rfl).mono ?_
  rintro e w17 ⟨a15, c15, b15, d15, rfl, hbr, hq⟩
  clear X13c0 X13c1 X13c2 X13c3
  replace X6 := mkHid (X6.out.below hq)
  replace X8 := mkHid (X8.out.below hq)
  replace RO := mkHid (RO.out.below hq)
  replace X10 := mkHid (X10.out.below hq)
  replace RN := mkHid (RN.out.below hq)
  replace RC := mkHid (RC.out.below hq)
  replace RW := mkHid (RW.out.below hq)
  replace X13 := mkHid (X13.out.below hq)
  replace X17 := mkHid (X17.out.below hq)
  replace HB := mkHid (HB.out.then hq)
  have R15 := mkHid hbr
  clear hbr hq
  obtain ⟨x18, hx18⟩ : ∃ X, w17.alloc (.cells #[.slice a15 1 c15, .int .i64 1, .bool false, .slice b15 0 d15] 25) = X := ⟨_, rfl⟩
  have hbx : Below w17.heap.size w17 x18 := by rw [← hx18]; exact (Below.refl _ _).new _
  have X19 : Hid (BX x18 w17.heap.size a15 c15 [oneF 1] 1 false b15 d15 []) := by rw [Hid, ← hx18]; exact BX.madeK R15.out (by first | rfl | trivial) (by first | rfl | trivial)
  replace X6 := mkHid (X6.out.below hbx)
  replace X8 := mkHid (X8.out.below hbx)
  replace RO := mkHid (RO.out.below hbx)
  replace X10 := mkHid (X10.out.below hbx)
  replace RN := mkHid (RN.out.below hbx)
  replace RC := mkHid (RC.out.below hbx)
  replace RW := mkHid (RW.out.below hbx)
  replace X13 := mkHid (X13.out.below hbx)
  replace X17 := mkHid (X17.out.below hbx)
  replace HB := mkHid (HB.out.then hbx)
  clear hbx
  go_wp2_with fail
  first | rw [hx18] | skip
  clear hx18
  refine (one13_any 1 (by omega) (by omega) _).mono ?_
  rintro e w19 ⟨o4, rfl, hr, hq⟩
  replace X6 := mkHid (X6.out.below hq)
  replace X8 := mkHid (X8.out.below hq)
  replace RO := mkHid (RO.out.below hq)
  replace X10 := mkHid (X10.out.below hq)
  replace RN := mkHid (RN.out.below hq)
  replace RC := mkHid (RC.out.below hq)
  replace RW := mkHid (RW.out.below hq)
  replace X13 := mkHid (X13.out.below hq)
  replace X17 := mkHid (X17.out.below hq)
  replace X19 := mkHid (X19.out.below hq)
  replace HB := mkHid (HB.out.then hq)
  have RP := mkHid hr.row
  clear hr hq
  go_wp2_with fail
  obtain ⟨x20, hx20⟩ : ∃ X, w19.alloc (.cells #[.slice o4 2 2] 30) = X := ⟨_, rfl⟩
  have hbx : Below w19.heap.size w19 x20 := by rw [← hx20]; exact (Below.refl _ _).new _
  have RQ : Hid (Row x20 (some ⟨w19.heap.size, 0, none⟩) 1 [oneF 1]) := by rw [Hid, ← hx20]; exact two_row _ _ RP.out
  replace X6 := mkHid (X6.out.below hbx)
  replace X8 := mkHid (X8.out.below hbx)
  replace RO := mkHid (RO.out.below hbx)
  replace X10 := mkHid (X10.out.below hbx)
  replace RN := mkHid (RN.out.below hbx)
  replace RC := mkHid (RC.out.below hbx)
  replace RW := mkHid (RW.out.below hbx)
  replace X13 := mkHid (X13.out.below hbx)
  replace X17 := mkHid (X17.out.below hbx)
  replace X19 := mkHid (X19.out.below hbx)
  replace HB := mkHid (HB.out.then hbx)
  clear hbx
  first | rw [hx20] | skip
  clear hx20
  refine (sameall_lit (n := 1) (m := 1) rfl RN.out rfl RQ.out (decide_eq_true rfl)).mono ?_
  rintro e w21 ⟨rfl, hq⟩
  replace X6 := mkHid (X6.out.below hq)
  replace X8 := mkHid (X8.out.below hq)
  replace RO := mkHid (RO.out.below hq)
  replace X10 := mkHid (X10.out.below hq)
  replace RN := mkHid (RN.out.below hq)
  replace RC := mkHid (RC.out.below hq)
  replace RW := mkHid (RW.out.below hq)
  replace X13 := mkHid (X13.out.below hq)
  replace X17 := mkHid (X17.out.below hq)
  replace X19 := mkHid (X19.out.below hq)
  replace HB := mkHid (HB.out.then hq)
  clear hq
  obtain ⟨X13c0, X13c1, X13c2, X13c3⟩ := X13.out.cellsK (n := 1) (k := 0) rfl rfl
  have RF := mkHid X13.out.2.f
  go_wp2_with fail
  refine (sameall_lit (n := 1) (m := 1) rfl RF.out rfl RN.out (decide_eq_true rfl)).mono ?_
  rintro e w22 ⟨rfl, hq⟩
  clear X13c0 X13c1 X13c2 X13c3
  replace X6 := mkHid (X6.out.below hq)
  replace X8 := mkHid (X8.out.below hq)
  replace RO := mkHid (RO.out.below hq)
  replace X10 := mkHid (X10.out.below hq)
  replace RN := mkHid (RN.out.below hq)
  replace RC := mkHid (RC.out.below hq)
  replace RW := mkHid (RW.out.below hq)
  replace X13 := mkHid (X13.out.below hq)
  replace X17 := mkHid (X17.out.below hq)
  replace X19 := mkHid (X19.out.below hq)
  replace HB := mkHid (HB.out.then hq)
  clear hq RF
  go_wp2_with fail
  refine (sameall_lit (n := 1) (m := 1) rfl RC.out rfl RN.out (decide_eq_true rfl)).mono ?_
  rintro e w23 ⟨rfl, hq⟩
  replace X6 := mkHid (X6.out.below hq)
  replace X8 := mkHid (X8.out.below hq)
  replace RO := mkHid (RO.out.below hq)
  replace X10 := mkHid (X10.out.below hq)
  replace RN := mkHid (RN.out.below hq)
  replace RC := mkHid (RC.out.below hq)
  replace RW := mkHid (RW.out.below hq)
  replace X13 := mkHid (X13.out.below hq)
  replace X17 := mkHid (X17.out.below hq)
  replace X19 := mkHid (X19.out.below hq)
  replace HB := mkHid (HB.out.then hq)
  clear hq
  obtain ⟨X13c0, X13c1, X13c2, X13c3⟩ := X13.out.cellsK (n := 1) (k := 0) rfl rfl
  obtain ⟨X6c0, X6c1, X6c2, X6c3⟩ := X6.out.cellsK (n := 0) (k := 2) rfl rfl
  obtain ⟨X17c0, X17c1, X17c2, X17c3⟩ := X17.out.cellsK (n := 0) (k := 0) rfl rfl
  go_wp2_with fail
  refine (rightK13 (n := 0) (k := 2) X6.out.2 hb3_right rfl rfl).mono ?_
  rintro e w24 ⟨rfl, hq⟩
  clear X13c0 X13c1 X13c2 X13c3
  clear X6c0 X6c1 X6c2 X6c3
  clear X17c0 X17c1 X17c2 X17c3
  replace X6 := mkHid (X6.out.below hq)
  replace X8 := mkHid (X8.out.below hq)
  replace RO := mkHid (RO.out.below hq)
  replace X10 := mkHid (X10.out.below hq)
  replace RN := mkHid (RN.out.below hq)
  replace RC := mkHid (RC.out.below hq)
  replace RW := mkHid (RW.out.below hq)
  replace X13 := mkHid (X13.out.below hq)
  replace X17 := mkHid (X17.out.below hq)
  replace X19 := mkHid (X19.out.below hq)
  replace HB := mkHid (HB.out.then hq)
  clear hq
  go_wp2_with fail
  refine (rightK13 (n := 0) (k := 0) (noB_row _) hbn_right rfl rfl).mono ?_
  rintro e w25 ⟨rfl, hq⟩
  replace X6 := mkHid (X6.out.below hq)
  replace X8 := mkHid (X8.out.below hq)
  replace RO := mkHid (RO.out.below hq)
  replace X10 := mkHid (X10.out.below hq)
  replace RN := mkHid (RN.out.below hq)
  replace RC := mkHid (RC.out.below hq)
  replace RW := mkHid (RW.out.below hq)
  replace X13 := mkHid (X13.out.below hq)
  replace X17 := mkHid (X17.out.below hq)
  replace X19 := mkHid (X19.out.below hq)
  replace HB := mkHid (HB.out.then hq)
  clear hq
  go_wp2_with fail
  go_ret
  exact ⟨rfl, HB.out⟩
end Go.Proofs.Ytnpffificfghpaa
set_option linter.unusedVariables false
namespace Go.Proofs.Ytnpffificfghpaa
open Go.RowKit

theorem made60 {cs : List Lt} (h : cs.length ≤ 60) : (cs.take 60).map madeC = cs.map madeC := by rw [List.take_of_length_le h]
def Head13 : Prop := ∀ w : World, Calls Try.prog 13 #[] w fun e w' => e = .returned (.bool true) ∧ Below w.heap.size w w'
theorem right_end {f : List (List Cel)} {v : Int} (h : FR f) (h0 : 0 ≤ v) (h1 : v ≤ 1000) : (⟨f, v, false, []⟩ : Bs).right = true := Bs.right_of ⟨h, by simp⟩ h0 (by show v ≤ _; omega) (.inr rfl)
theorem right_on {f : List (List Cel)} {v : Int} {td : List Lt} (h : FR f) (ht : ∀ c ∈ td, factB c.t = true) (h0 : 0 ≤ v) (h1 : v ≤ 1000) : (⟨f, v, true, td⟩ : Bs).right = true := Bs.right_of ⟨h, ht⟩ h0 (by show v ≤ _; omega) (.inl rfl)
end Go.Proofs.Ytnpffificfghpaa
namespace Go.Proofs.Ytnpffificfghpaa
open Go.RowKit Go.ChangeShapes Go.WideShapes Go.Deep Go.ChangeAt

theorem Try.own : ownKnob Try.prog.godebug = none := by kernel_rfl
theorem Try.laidOut : laidOutB Try.prog = true := by kernel_rfl
theorem Try.cells93 : Try.prog.cellsOf 93 = 3 := by kernel_rfl
theorem Try.cells30 : Try.prog.cellsOf 30 = 1 := by kernel_rfl
theorem Try.cells3 : Try.prog.cellsOf 3 = 1 := by kernel_rfl
theorem Try.cells9 : Try.prog.cellsOf 9 = 1 := by kernel_rfl

theorem i64_wf {n : Int} (h : (Lit.int .i64 n).wf = true) : -9223372036854775808 ≤ n ∧ n ≤ 9223372036854775807 := by
  simp [Lit.wf, IntKind.min, IntKind.max, IntKind.signed, IntKind.bits] at h
  omega
theorem add_lit (b o j : Nat) : (Addr.mk b o none).add j = ⟨b, o + j, none⟩ := by unfold Addr.add; split <;> simp_all

section
variable {H : Type} {enc : TypeId × Value → H} {w : World} {spare : Nat → Bool} {held : Bool}
set_option maxRecDepth 100000 in
/-- three cells that read as a cell of a term -/
theorem open_cell {n : Nat} {cs : List Value} {x : DataW H × List MemPlace} (h : DataW.trod enc Try.prog w 0 spare held n 93 cs = some x) :
    ∃ c : Cel, cs = [.int .i64 c.k, .string c.s, .int .i64 c.n] ∧ c.fit := by
  obtain ⟨ys, m, _, _, hlen, hyl, hf⟩ := DataW.trod_struct Try.underlying93 h
  rw [Try.cells93] at hlen
  match cs, hlen with
  | [v0, v1, v2], _ =>
    have h0 : DataW.trod enc Try.prog w 0 spare held m 3 (([v0, v1, v2].drop 0).take (Try.prog.cellsOf 3)) = ys[0]? := hf 0 _ rfl
    have h1 : DataW.trod enc Try.prog w 0 spare held m 9 (([v0, v1, v2].drop 1).take (Try.prog.cellsOf 9)) = ys[1]? := hf 1 _ rfl
    have h2 : DataW.trod enc Try.prog w 0 spare held m 3 (([v0, v1, v2].drop 2).take (Try.prog.cellsOf 3)) = ys[2]? := hf 2 _ rfl
    rw [Try.cells3] at h0 h2
    rw [Try.cells9] at h1
    have hy : ∀ i : Nat, i < 3 → ∃ y, ys[i]? = some y := fun i hi => ⟨_, List.getElem?_eq_getElem (by rw [hyl]; exact hi)⟩
    obtain ⟨y0, e0⟩ := hy 0 (by omega)
    obtain ⟨y1, e1⟩ := hy 1 (by omega)
    obtain ⟨y2, e2⟩ := hy 2 (by omega)
    rw [e0] at h0
    rw [e1] at h1
    rw [e2] at h2
    obtain ⟨a0, q0, _, f0⟩ := DataW.trod_int Try.underlying3 h0
    obtain ⟨a1, q1, _, f1⟩ := DataW.trod_string Try.underlying9 h1
    obtain ⟨a2, q2, _, f2⟩ := DataW.trod_int Try.underlying3 h2
    simp at q0 q1 q2
    refine ⟨⟨a0, a1, a2⟩, by rw [q0, q1, q2], ⟨(i64_wf f0).1, (i64_wf f0).2, (i64_wf f2).1, (i64_wf f2).2, by unfold maxLen at f1; exact f1⟩⟩

/-- what rows of a kind are made of -/
theorem open_rows {α : Type} [Rep α] {t e : TypeId} (ht : Try.prog.underlying t = some (.slice e)) (hC : Try.prog.cellsOf e = Rep.sz α)
    (hE : ∀ (n : Nat) (a : Addr) (cs : List Value) (x : DataW H × List MemPlace), w.cells? 0 a (Rep.sz α) = some cs → DataW.trod enc Try.prog w 0 (fun _ => true) held n e cs = some x → ∃ (b o : Nat) (y : α), a = ⟨b, o, none⟩ ∧ Rep.E w b o y)
    {fuel : Nat} {a : Option Addr} {len cap : Nat} {x : DataW H × List MemPlace} (h : DataW.trod enc Try.prog w 0 (fun _ => true) held fuel t [.slice a len cap] = some x) :
    ∃ xs : List α, xs.length = len ∧ Row w a cap xs := by
  rcases open_slice ht h with ⟨hcs, _⟩ | ⟨ad, l, c, m, n, D, Pl, hcs, _, hl, hm, hmm, _, hi⟩
  · simp at hcs
    obtain ⟨rfl, rfl, rfl⟩ := hcs
    exact ⟨[], rfl, Row.empty _ _ _ (by omega) (fun _ => rfl)⟩
  · simp at hcs
    obtain ⟨rfl, rfl, rfl⟩ := hcs
    simp only [if_true] at hmm
    subst hmm
    have key : ∀ i, i < len → ∃ (b o : Nat) (y : α), ad.add (i * Rep.sz α) = ⟨b, o, none⟩ ∧ Rep.E w b o y := by
      intro i hil
      obtain ⟨cs', hc, ht'⟩ := hi i (by omega)
      rw [hC] at hc
      exact hE n _ cs' _ hc ht'
    have hy : ∀ i : Fin len, ∃ y : α, ∃ b o, ad.add (i.val * Rep.sz α) = ⟨b, o, none⟩ ∧ Rep.E w b o y := fun i => by
      obtain ⟨b, o, y, e1, e2⟩ := key i.val i.isLt
      exact ⟨y, b, o, e1, e2⟩
    let f : Fin len → α := fun i => Classical.choose (hy i)
    have hf : ∀ i : Fin len, ∃ b o, ad.add (i.val * Rep.sz α) = ⟨b, o, none⟩ ∧ Rep.E w b o (f i) := fun i => Classical.choose_spec (hy i)
    refine ⟨List.ofFn f, List.length_ofFn, ⟨by rw [List.length_ofFn]; exact hl, by unfold maxLen at hm; omega, (fun e => by cases e), fun i x hx => ?_⟩⟩
    have hil : i < len := by
      have := (List.getElem?_eq_some_iff.1 hx).1; rwa [List.length_ofFn] at this
    have hx' : f ⟨i, hil⟩ = x := by
      rw [List.getElem?_eq_getElem (by rw [List.length_ofFn]; exact hil), List.getElem_ofFn] at hx
      exact Option.some.inj hx
    obtain ⟨b, o, e1, e2⟩ := hf ⟨i, hil⟩
    obtain ⟨b0, o0, s0⟩ := ad
    have hz := hf ⟨0, by omega⟩
    obtain ⟨b1, o1, e3, _⟩ := hz
    simp only [Nat.zero_mul, Addr.add, if_true] at e3
    injection e3 with e3 e4 e5
    subst e5
    rw [add_lit] at e1
    injection e1 with e1 e6
    subst e1
    refine ⟨b0, o0, rfl, ?_⟩
    rw [hx'] at e2
    rw [← e6] at e2
    exact e2

theorem spot_none {a : Addr} {v : Value} (h : w.cell? a = some v) : ∃ b o, a = ⟨b, o, none⟩ := by
  have := World.cell?_spot h
  obtain ⟨b, o, s⟩ := a
  simp at this
  subst this
  exact ⟨b, o, rfl⟩
theorem E_cell (n : Nat) (a : Addr) (cs : List Value) (x : DataW H × List MemPlace) (hc : w.cells? 0 a 3 = some cs) (h : DataW.trod enc Try.prog w 0 spare held n 93 cs = some x) : ∃ (b o : Nat) (y : Cel), a = ⟨b, o, none⟩ ∧ Rep.E w b o y := by
  obtain ⟨c, rfl, hf⟩ := open_cell h
  obtain ⟨_, _, hat⟩ := World.cells?_some hc
  have h0 := hat 0 (by omega)
  obtain ⟨b, o, rfl⟩ : ∃ b o, a = ⟨b, o, none⟩ := spot_none (by simpa [Addr.add] using h0)
  refine ⟨b, o, c, rfl, ?_⟩
  have h1 := hat 1 (by omega)
  have h2 := hat 2 (by omega)
  rw [add_lit] at h0 h1 h2
  exact ⟨h0, h1, h2, hf⟩
/-- []Cell -/
theorem open_cells {fuel : Nat} {a : Option Addr} {len cap : Nat} {x : DataW H × List MemPlace} (h : DataW.trod enc Try.prog w 0 (fun _ => true) held fuel 30 [.slice a len cap] = some x) :
    ∃ xs : List Cel, xs.length = len ∧ Row w a cap xs :=
  open_rows Try.underlying30 Try.cells93 (fun n a cs x h1 h2 => E_cell n a cs x h1 h2) h
theorem E_list {α : Type} [Rep α] {e : TypeId} {el : TypeId} (he : Try.prog.underlying e = some (.slice el))
    (hop : ∀ {fuel : Nat} {a : Option Addr} {len cap : Nat} {x : DataW H × List MemPlace}, DataW.trod enc Try.prog w 0 (fun _ => true) held fuel e [.slice a len cap] = some x → ∃ xs : List α, xs.length = len ∧ Row w a cap xs)
    (n : Nat) (a : Addr) (cs : List Value) (x : DataW H × List MemPlace) (hc : w.cells? 0 a 1 = some cs) (h : DataW.trod enc Try.prog w 0 (fun _ => true) held n e cs = some x) : ∃ (b o : Nat) (y : List α), a = ⟨b, o, none⟩ ∧ Rep.E w b o y := by
  obtain ⟨_, hl, hat⟩ := World.cells?_some hc
  have h0 := hat 0 (by omega)
  match cs, hl with
  | [v], _ =>
    have hv : ∃ a' len cap, v = .slice a' len cap := by
      rcases open_slice he h with ⟨hcs, _⟩ | ⟨ad, l, c, m, n, D, Pl, hcs, _⟩
      · simp at hcs; exact ⟨_, _, _, hcs⟩
      · simp at hcs; exact ⟨_, _, _, hcs⟩
    obtain ⟨a', len, cap, rfl⟩ := hv
    obtain ⟨xs, rfl, hr⟩ := hop h
    obtain ⟨b, o, rfl⟩ : ∃ b o, a = ⟨b, o, none⟩ := spot_none (by simpa [Addr.add] using h0)
    rw [add_lit] at h0
    exact ⟨b, o, xs, rfl, ⟨a', cap, h0, hr⟩⟩
/-- [][]Cell -/
theorem open_cellss {fuel : Nat} {a : Option Addr} {len cap : Nat} {x : DataW H × List MemPlace} (h : DataW.trod enc Try.prog w 0 (fun _ => true) held fuel 22 [.slice a len cap] = some x) :
    ∃ xs : List (List Cel), xs.length = len ∧ Row w a cap xs :=
  open_rows Try.underlying22 Try.cells30 (fun n a cs x h1 h2 => E_list (α := Cel) Try.underlying30 open_cells n a cs x h1 h2) h
end
end Go.Proofs.Ytnpffificfghpaa
namespace Go.Proofs.Ytnpffificfghpaa
open Go.RowKit

/-- what stands for a variable -/
structure Bnd where
  v : Int
  t : List Cel
  deriving DecidableEq
structure BndE (w : World) (b o : Nat) (x : Bnd) : Prop where
  ex : ∃ a cap, w.cell? ⟨b, o, none⟩ = some (.int .i64 x.v) ∧ w.cell? ⟨b, o + 1, none⟩ = some (.slice a x.t.length cap) ∧ Row w a cap x.t
  lo : -9223372036854775808 ≤ x.v
  hi : x.v ≤ 9223372036854775807
instance : RepC Bnd where
  sz := 2
  E := BndE
  mono h hb := let ⟨a, cap, h0, h1, hr⟩ := h.ex; ⟨⟨a, cap, hb _ _ _ h0, hb _ _ _ h1, hr.keeps hb⟩, h.lo, h.hi⟩
  lt h := let ⟨_, _, h0, _⟩ := h.ex; cell_lt h0
  C w cs x := (∃ a cap, cs = [.int .i64 x.v, .slice a x.t.length cap] ∧ Row w a cap x.t) ∧ -9223372036854775808 ≤ x.v ∧ x.v ≤ 9223372036854775807
  len := by rintro w cs x ⟨⟨a, cap, rfl, _⟩, _⟩; rfl
  one := by rintro w cs x ⟨⟨a, cap, rfl, _⟩, _⟩ u hu; simp at hu; rcases hu with rfl | rfl <;> rfl
  cmono := by rintro w w' cs x ⟨⟨a, cap, rfl, h⟩, h2⟩ hk; exact ⟨⟨a, cap, rfl, h.keeps hk⟩, h2⟩
  toE := by
    rintro w cs x b o ⟨⟨a, cap, rfl, h⟩, h2, h3⟩ hat
    exact ⟨⟨a, cap, hat 0 _ rfl, hat 1 _ rfl, h⟩, h2, h3⟩
  ofE := by
    rintro w x b o ⟨⟨a, cap, h0, h1, h⟩, h2, h3⟩
    refine ⟨_, ⟨⟨a, cap, rfl, h⟩, h2, h3⟩, fun j u hj => ?_⟩
    match j with
    | 0 => simp at hj; subst hj; exact h0
    | 1 => simp at hj; subst hj; exact h1
    | j + 2 => simp at hj
  pos := by decide
theorem bnd_at {w wr : World} {b off : Nat} {xs : List Bnd} (hat : ∀ i (hi : i < xs.length), Rep.E w b (off + i * Rep.sz Bnd) xs[i]) (hb : Below w.heap.size w wr) {k : Nat} (hk : k < xs.length) :
    ∃ a cap, wr.cell? ⟨b, off + k * 2, none⟩ = some (.int .i64 xs[k].v) ∧ wr.cell? ⟨b, off + k * 2 + 1, none⟩ = some (.slice a xs[k].t.length cap) ∧ Row wr a cap xs[k].t ∧ -9223372036854775808 ≤ xs[k].v ∧ xs[k].v ≤ 9223372036854775807 := by
  have h : BndE w b (off + k * 2) xs[k] := hat k hk
  obtain ⟨a, cap, h0, h1, hr⟩ := h.ex
  exact ⟨a, cap, keep h0 hb, keep h1 hb, hr.below hb, h.lo, h.hi⟩

/-! ### plain mathematics -/
def varC (n : Int) : Cel := ⟨1, ⟨#[]⟩, n⟩
/-- the program's own word: just its own variable -/
def ownB (b : Bnd) : Bool := decide (b.t = [varC b.v])
/-- the document's -/
def ownR (v : Int) : List Cel → Bool
  | [c] => c.k == 1 && c.n == v
  | _ => false
def placeB (s : List Bnd) (n : Int) : Int := match s.findIdx? (fun b => decide (b.v = n)) with
  | some i => i
  | none => -1
def look (s : List Bnd) (n : Int) : Option (List Cel) := (s.find? fun b => decide (b.v = n)).map Bnd.t
/-- right from a least variable on -/
def rightG : Int → List Bnd → Bool
  | _, [] => true
  | m, b :: s => decide (m ≤ b.v) && decide (b.v ≤ 999) && rightB b.t && !ownB b && rightG (b.v + 1) s
def rightS (s : List Bnd) : Bool := rightG 0 s
def fewB (s : List Bnd) : Bool := s.all (fun b => decide (b.t.length ≤ 300)) && decide (s.length ≤ 30)
def idemB (s : List Bnd) : Bool := s.all fun b => b.t.all fun c => !(c.k == 1 && (look s c.n).isSome)

theorem cellOk_var {c : Cel} (h : cellOk c = true) (h1 : c.k = 1) : c = varC c.n := by
  obtain ⟨k, s, n⟩ := c
  dsimp only at h1
  subst h1
  simp [cellOk] at h
  have : s = ⟨#[]⟩ := (toList_inj s ⟨#[]⟩).1 (by rw [h.1.1]; simp)
  rw [this]; rfl

/-! scans -/
section
variable {α : Type} {xs : List α} {p : α → Bool} {k : Nat}
theorem scan_next (h : (xs.take k).all p = true) (hk : k < xs.length) (hp : p xs[k] = true) : (xs.take (k + 1)).all p = true := by
  rw [List.take_succ_eq_append_getElem hk, List.all_append, h]; simp [hp]
theorem scan_bad (hk : k < xs.length) (hp : p xs[k] = false) : xs.all p = false := by
  rw [List.all_eq_false]; exact ⟨xs[k], List.getElem_mem hk, by simp [hp]⟩
theorem scan_end (h : (xs.take k).all p = true) (hk : xs.length ≤ k) : xs.all p = true := by
  rwa [List.take_of_length_le hk] at h
theorem find_none {n : Int} {s : List Bnd} (h : (s.take k).all (fun b => !decide (b.v = n)) = true) (hk : s.length ≤ k) : placeB s n = -1 := by
  have h := scan_end h hk
  have : s.findIdx? (fun b => decide (b.v = n)) = none := by
    rw [List.findIdx?_eq_none_iff]
    intro x hx
    have := List.all_eq_true.1 h x hx
    simpa using this
  unfold placeB; rw [this]
theorem find_at {n : Int} {s : List Bnd} (h : (s.take k).all (fun b => !decide (b.v = n)) = true) (hk : k < s.length) (he : s[k].v = n) : placeB s n = k := by
  have : s.findIdx? (fun b => decide (b.v = n)) = some k := by
    rw [List.findIdx?_eq_some_iff_getElem]
    refine ⟨hk, by simpa using he, fun j hj => ?_⟩
    have := List.all_eq_true.1 h s[j] (by rw [List.mem_take_iff_getElem]; exact ⟨j, by omega, rfl⟩)
    simpa using this
  unfold placeB; rw [this]
end
theorem place_look (s : List Bnd) (n : Int) : (placeB s n = -1 ∧ look s n = none ∧ ∀ b ∈ s, b.v ≠ n) ∨ ∃ (i : Nat) (h : i < s.length), placeB s n = i ∧ s[i].v = n ∧ look s n = some s[i].t := by
  cases h : s.findIdx? (fun b => decide (b.v = n)) with
  | none =>
    left
    rw [List.findIdx?_eq_none_iff] at h
    refine ⟨by unfold placeB; rw [List.findIdx?_eq_none_iff.2 h], ?_, fun b hb e => by have := h b hb; simp [e] at this⟩
    unfold look
    rw [List.find?_eq_none.2 (fun x hx => by simpa using h x hx)]; rfl
  | some i =>
    right
    have h' := h
    rw [List.findIdx?_eq_some_iff_getElem] at h'
    obtain ⟨hi, h1, h2⟩ := h'
    refine ⟨i, hi, by unfold placeB; rw [h], by simpa using h1, ?_⟩
    unfold look
    have hf : s.find? (fun b => decide (b.v = n)) = some s[i] := List.find?_eq_some_iff_getElem.2 ⟨h1, i, hi, rfl, fun j hj => by simpa using h2 j hj⟩
    rw [hf]; rfl
theorem ownR_own {b : Bnd} (h : rightB b.t = true) : ownR b.v b.t = ownB b := by
  unfold ownR ownB
  split
  · rename_i c e
    rw [e] at h ⊢
    have hc := right_cells h c (by simp)
    by_cases h1 : c.k = 1
    · by_cases h2 : c.n = b.v
      · have := cellOk_var hc h1
        rw [h2] at this
        rw [this]; simp [varC]
      · have : ¬ c = varC b.v := fun e => h2 (by rw [e]; rfl)
        simp [h1, h2, this]
    · have : ¬ c = varC b.v := fun e => h1 (by rw [e]; rfl)
      simp [h1, this]
  · rename_i hne
    symm
    rw [decide_eq_false_iff_not]
    intro e
    exact hne _ e
/-- the document's way of asking, place by place -/
def okAt (s : List Bnd) (i : Nat) (b : Bnd) : Bool := decide (0 ≤ b.v) && decide (b.v ≤ 999) && (match i with | 0 => true | j + 1 => match s[j]? with | some c => decide (c.v < b.v) | none => true) && rightB b.t && !ownR b.v b.t
theorem rightG_bad {m : Int} {s : List Bnd} {k : Nat} (hk : k < s.length) (h : rightB s[k].t = false ∨ ownB s[k] = true ∨ 999 < s[k].v) : rightG m s = false := by
  induction s generalizing m k with
  | nil => simp at hk
  | cons b s ih =>
    cases k with
    | zero =>
      simp at h
      unfold rightG
      rcases h with h | h | h
      · simp [h]
      · simp [h]
      · simp [show ¬ b.v ≤ 999 by omega]
    | succ k =>
      simp at h hk
      have := ih (m := b.v + 1) hk h
      unfold rightG; simp [this]
theorem rightG_split {m : Int} {s : List Bnd} {k : Nat} (hk : k < s.length) (h : rightG m s = true) : rightG s[k].v (s.drop k) = true ∧ m ≤ s[k].v := by
  induction s generalizing m k with
  | nil => simp at hk
  | cons b s ih =>
    cases k with
    | zero =>
      unfold rightG at h
      simp at h
      refine ⟨?_, by simp; omega⟩
      rw [List.drop_zero]
      unfold rightG
      simp [h]
    | succ k =>
      unfold rightG at h
      simp at h hk
      obtain ⟨h1, h2⟩ := ih hk h.2
      refine ⟨by simpa using h1, by simp; omega⟩

/-- the least variable that may stand at a place -/
def mOf (xs : List Bnd) : Nat → Int
  | 0 => 0
  | j + 1 => match xs[j]? with
    | some c => c.v + 1
    | none => 0
theorem mOf_succ {xs : List Bnd} {k : Nat} (hk : k < xs.length) : mOf xs (k + 1) = xs[k].v + 1 := by
  simp [mOf, List.getElem?_eq_getElem hk]
theorem rightG_step {xs : List Bnd} {k : Nat} (hk : k < xs.length) (h : rightS xs = rightG (mOf xs k) (xs.drop k)) :
    rightS xs = (decide (mOf xs k ≤ xs[k].v) && decide (xs[k].v ≤ 999) && rightB xs[k].t && !ownB xs[k] && rightG (mOf xs (k + 1)) (xs.drop (k + 1))) := by
  rw [h, List.drop_eq_getElem_cons hk, mOf_succ hk]; rfl
theorem right_l1 {xs : List Bnd} {k : Nat} (hk : k < xs.length) (h : rightS xs = rightG (mOf xs k) (xs.drop k)) (e : ¬ mOf xs k ≤ xs[k].v ∨ ¬ xs[k].v ≤ 999 ∨ rightB xs[k].t = false ∨ ownB xs[k] = true) : rightS xs = false := by
  rw [rightG_step hk h]
  rcases e with e | e | e | e <;> simp [e]
theorem right_l2 {xs : List Bnd} {k : Nat} (hk : k < xs.length) (h : rightS xs = rightG (mOf xs k) (xs.drop k)) (e1 : mOf xs k ≤ xs[k].v) (e2 : xs[k].v ≤ 999) (e3 : rightB xs[k].t = true) (e4 : ownB xs[k] = false) : rightS xs = rightG (mOf xs (k + 1)) (xs.drop (k + 1)) := by
  rw [rightG_step hk h]; simp [e1, e2, e3, e4]
theorem right_l3 {xs : List Bnd} {k : Nat} (hk : xs.length ≤ k) (h : rightS xs = rightG (mOf xs k) (xs.drop k)) : rightS xs = true := by
  rw [h, List.drop_eq_nil_of_le hk]; rfl
end Go.Proofs.Ytnpffificfghpaa
namespace Go.Proofs.Ytnpffificfghpaa
open Go.RowKit Go.ChangeShapes Go.WideShapes Go.Deep Go.ChangeAt

theorem Try.cells178 : Try.prog.cellsOf 178 = 2 := by kernel_rfl
section
variable {H : Type} {enc : TypeId × Value → H} {w : World} {held : Bool}
set_option maxRecDepth 100000 in
/-- two cells that read as a binding -/
theorem open_bind {n : Nat} {cs : List Value} {x : DataW H × List MemPlace} (h : DataW.trod enc Try.prog w 0 (fun _ => true) held n 178 cs = some x) :
    ∃ (v : Int) (t : List Cel) (a : Option Addr) (cap : Nat), cs = [.int .i64 v, .slice a t.length cap] ∧ Row w a cap t ∧ -9223372036854775808 ≤ v ∧ v ≤ 9223372036854775807 := by
  obtain ⟨ys, m, _, _, hlen, hyl, hf⟩ := DataW.trod_struct Try.underlying178 h
  rw [Try.cells178] at hlen
  match cs, hlen with
  | [v0, v1], _ =>
    have h0 : DataW.trod enc Try.prog w 0 (fun _ => true) held m 3 (([v0, v1].drop 0).take (Try.prog.cellsOf 3)) = ys[0]? := hf 0 _ rfl
    have h1 : DataW.trod enc Try.prog w 0 (fun _ => true) held m 30 (([v0, v1].drop 1).take (Try.prog.cellsOf 30)) = ys[1]? := hf 1 _ rfl
    rw [Try.cells3] at h0
    rw [Try.cells30] at h1
    have hy : ∀ i : Nat, i < 2 → ∃ y, ys[i]? = some y := fun i hi => ⟨_, List.getElem?_eq_getElem (by rw [hyl]; exact hi)⟩
    obtain ⟨y0, e0⟩ := hy 0 (by omega)
    obtain ⟨y1, e1⟩ := hy 1 (by omega)
    rw [e0] at h0
    rw [e1] at h1
    obtain ⟨a0, q0, _, f0⟩ := DataW.trod_int Try.underlying3 h0
    simp at q0
    have h1' : DataW.trod enc Try.prog w 0 (fun _ => true) held m 30 [v1] = some y1 := by simpa using h1
    have hv : ∃ a' len cap, v1 = .slice a' len cap := by
      rcases open_slice Try.underlying30 h1' with ⟨hcs, _⟩ | ⟨ad, l, c, m, n, D, Pl, hcs, _⟩
      · simp at hcs; exact ⟨_, _, _, hcs⟩
      · simp at hcs; exact ⟨_, _, _, hcs⟩
    obtain ⟨a', len, cap, rfl⟩ := hv
    obtain ⟨xs, rfl, hr⟩ := open_cells h1'
    exact ⟨a0, xs, a', cap, by rw [q0], hr, (i64_wf f0).1, (i64_wf f0).2⟩
theorem E_bind (n : Nat) (a : Addr) (cs : List Value) (x : DataW H × List MemPlace) (hc : w.cells? 0 a 2 = some cs) (h : DataW.trod enc Try.prog w 0 (fun _ => true) held n 178 cs = some x) : ∃ (b o : Nat) (y : Bnd), a = ⟨b, o, none⟩ ∧ Rep.E w b o y := by
  obtain ⟨v, t, a', cap, rfl, hr, hl, hh⟩ := open_bind h
  obtain ⟨_, _, hat⟩ := World.cells?_some hc
  have h0 := hat 0 (by omega)
  obtain ⟨b, o, rfl⟩ : ∃ b o, a = ⟨b, o, none⟩ := spot_none (by simpa [Addr.add] using h0)
  refine ⟨b, o, ⟨v, t⟩, rfl, ?_⟩
  have h1 := hat 1 (by omega)
  rw [add_lit] at h0 h1
  exact ⟨⟨a', cap, h0, h1, hr⟩, hl, hh⟩
/-- []Bind -/
theorem open_binds {fuel : Nat} {a : Option Addr} {len cap : Nat} {x : DataW H × List MemPlace} (h : DataW.trod enc Try.prog w 0 (fun _ => true) held fuel 88 [.slice a len cap] = some x) :
    ∃ xs : List Bnd, xs.length = len ∧ Row w a cap xs :=
  open_rows Try.underlying88 Try.cells178 (fun n a cs x h1 h2 => E_bind n a cs x h1 h2) h
end
end Go.Proofs.Ytnpffificfghpaa
namespace Go.Proofs.Ytnpffificfghpaa
open Go.RowKit Go.ChangeShapes Go.WideShapes Go.Deep Go.ChangeAt

theorem Try.cells4 : Try.prog.cellsOf 4 = 1 := by kernel_rfl
theorem Try.cells5 : Try.prog.cellsOf 5 = 1 := by kernel_rfl
theorem Try.cells32 : Try.prog.cellsOf 32 = 2 := by kernel_rfl
theorem Try.cells23 : Try.prog.cellsOf 23 = 1 := by kernel_rfl
theorem Try.cells22 : Try.prog.cellsOf 22 = 1 := by kernel_rfl
section
variable {H : Type} {enc : TypeId × Value → H} {w : World} {held : Bool}
theorem open_slv {fuel : Nat} {t e : TypeId} (he : Try.prog.underlying t = some (.slice e)) {v : Value} {x : DataW H × List MemPlace} (h : DataW.trod enc Try.prog w 0 (fun _ => true) held fuel t [v] = some x) : ∃ a len cap, v = .slice a len cap := by
  rcases open_slice he h with ⟨hcs, _⟩ | ⟨ad, l, c, m, n, D, Pl, hcs, _⟩
  · simp at hcs; exact ⟨_, _, _, hcs⟩
  · simp at hcs; exact ⟨_, _, _, hcs⟩
set_option maxRecDepth 100000 in
theorem open_chg13 {n : Nat} {cs : List Value} {x : DataW H × List MemPlace} (h : DataW.trod enc Try.prog w 0 (fun _ => true) held n 32 cs = some x) :
    ∃ (v : Bool) (t : List Cel) (a : Option Addr) (cap : Nat), cs = [.bool v, .slice a t.length cap] ∧ Row w a cap t := by
  obtain ⟨ys, m, _, _, hlen, hyl, hf⟩ := DataW.trod_struct Try.underlying32 h
  rw [Try.cells32] at hlen
  match cs, hlen with
  | [v0, v1], _ =>
    have h0 : DataW.trod enc Try.prog w 0 (fun _ => true) held m 4 (([v0, v1].drop 0).take (Try.prog.cellsOf 4)) = ys[0]? := hf 0 _ rfl
    have h1 : DataW.trod enc Try.prog w 0 (fun _ => true) held m 30 (([v0, v1].drop 1).take (Try.prog.cellsOf 30)) = ys[1]? := hf 1 _ rfl
    rw [Try.cells4] at h0
    rw [Try.cells30] at h1
    have hy : ∀ i : Nat, i < 2 → ∃ y, ys[i]? = some y := fun i hi => ⟨_, List.getElem?_eq_getElem (by rw [hyl]; exact hi)⟩
    obtain ⟨y0, e0⟩ := hy 0 (by omega)
    obtain ⟨y1, e1⟩ := hy 1 (by omega)
    rw [e0] at h0
    rw [e1] at h1
    obtain ⟨a0, q0, _⟩ := DataW.trod_bool Try.underlying4 h0
    simp at q0
    have h1' : DataW.trod enc Try.prog w 0 (fun _ => true) held m 30 [v1] = some y1 := by simpa using h1
    obtain ⟨a', len, cap, rfl⟩ := open_slv Try.underlying30 h1'
    obtain ⟨xs, rfl, hr⟩ := open_cells h1'
    exact ⟨a0, xs, a', cap, by rw [q0], hr⟩
set_option maxRecDepth 100000 in
theorem E_chg13 (n : Nat) (a : Addr) (cs : List Value) (x : DataW H × List MemPlace) (hc : w.cells? 0 a 2 = some cs) (h : DataW.trod enc Try.prog w 0 (fun _ => true) held n 32 cs = some x) : ∃ (b o : Nat) (y : Lt), a = ⟨b, o, none⟩ ∧ Rep.E w b o y := by
  obtain ⟨v, t, a', cap, rfl, hr⟩ := open_chg13 h
  obtain ⟨_, _, hat⟩ := World.cells?_some hc
  have h0 := hat 0 (by omega)
  obtain ⟨b, o, rfl⟩ : ∃ b o, a = ⟨b, o, none⟩ := spot_none (by simpa [Addr.add] using h0)
  refine ⟨b, o, ⟨v, t⟩, rfl, ?_⟩
  have h1 := hat 1 (by omega)
  rw [add_lit] at h0 h1
  exact ⟨a', cap, h0, h1, hr⟩
theorem open_chgs13 {fuel : Nat} {a : Option Addr} {len cap : Nat} {x : DataW H × List MemPlace} (h : DataW.trod enc Try.prog w 0 (fun _ => true) held fuel 23 [.slice a len cap] = some x) :
    ∃ xs : List Lt, xs.length = len ∧ Row w a cap xs :=
  open_rows Try.underlying23 Try.cells32 (fun n a cs x h1 h2 => E_chg13 n a cs x h1 h2) h
end
end Go.Proofs.Ytnpffificfghpaa
namespace Go.Proofs.Ytnpffificfghpaa
open Go.RowKit Go.ChangeShapes Go.WideShapes Go.Deep Go.ChangeAt

theorem Try.cells25 : Try.prog.cellsOf 25 = 4 := by kernel_rfl
theorem Try.cells34 : Try.prog.cellsOf 34 = 3 := by kernel_rfl
section
variable {H : Type} {enc : TypeId × Value → H} {w : World} {held : Bool}
set_option maxRecDepth 100000 in
theorem open_base13 {n : Nat} {cs : List Value} {x : DataW H × List MemPlace} (h : DataW.trod enc Try.prog w 0 (fun _ => true) held n 25 cs = some x) :
    ∃ (b : Bs) (a : Option Addr) (c : Nat) (a' : Option Addr) (c' : Nat), cs = [.slice a b.f.length c, .int .i64 b.v, .bool b.on, .slice a' b.td.length c'] ∧ Row w a c b.f ∧ Row w a' c' b.td ∧ -9223372036854775808 ≤ b.v ∧ b.v ≤ 9223372036854775807 := by
  obtain ⟨ys, m, _, _, hlen, hyl, hf⟩ := DataW.trod_struct Try.underlying25 h
  rw [Try.cells25] at hlen
  match cs, hlen with
  | [v0, v1, v2, v3], _ =>
    have h0 : DataW.trod enc Try.prog w 0 (fun _ => true) held m 22 (([v0, v1, v2, v3].drop 0).take (Try.prog.cellsOf 22)) = ys[0]? := hf 0 _ rfl
    have h1 : DataW.trod enc Try.prog w 0 (fun _ => true) held m 3 (([v0, v1, v2, v3].drop 1).take (Try.prog.cellsOf 3)) = ys[1]? := hf 1 _ rfl
    have h2 : DataW.trod enc Try.prog w 0 (fun _ => true) held m 4 (([v0, v1, v2, v3].drop 2).take (Try.prog.cellsOf 4)) = ys[2]? := hf 2 _ rfl
    have h3 : DataW.trod enc Try.prog w 0 (fun _ => true) held m 23 (([v0, v1, v2, v3].drop 3).take (Try.prog.cellsOf 23)) = ys[3]? := hf 3 _ rfl
    rw [Try.cells22] at h0
    rw [Try.cells3] at h1
    rw [Try.cells4] at h2
    rw [Try.cells23] at h3
    have hy : ∀ i : Nat, i < 4 → ∃ y, ys[i]? = some y := fun i hi => ⟨_, List.getElem?_eq_getElem (by rw [hyl]; exact hi)⟩
    obtain ⟨y0, e0⟩ := hy 0 (by omega)
    obtain ⟨y1, e1⟩ := hy 1 (by omega)
    obtain ⟨y2, e2⟩ := hy 2 (by omega)
    obtain ⟨y3, e3⟩ := hy 3 (by omega)
    rw [e0] at h0
    rw [e1] at h1
    rw [e2] at h2
    rw [e3] at h3
    have h0' : DataW.trod enc Try.prog w 0 (fun _ => true) held m 22 [v0] = some y0 := by simpa using h0
    have h3' : DataW.trod enc Try.prog w 0 (fun _ => true) held m 23 [v3] = some y3 := by simpa using h3
    obtain ⟨a, len, cap, rfl⟩ := open_slv Try.underlying22 h0'
    obtain ⟨a', len', cap', rfl⟩ := open_slv Try.underlying23 h3'
    obtain ⟨xs, rfl, hr⟩ := open_cellss h0'
    obtain ⟨ls, rfl, hr'⟩ := open_chgs13 h3'
    obtain ⟨a1, q1, _, f1⟩ := DataW.trod_int Try.underlying3 h1
    obtain ⟨a2, q2, _⟩ := DataW.trod_bool Try.underlying4 h2
    simp at q1 q2
    exact ⟨⟨xs, a1, a2, ls⟩, a, cap, a', cap', by rw [q1, q2], hr, hr', (i64_wf f1).1, (i64_wf f1).2⟩
set_option maxRecDepth 100000 in
theorem agg_base13 {base : Nat} {v : Value} (hk : Value.okWide Try.prog w .any base 25 v) : ∃ cs, v = .agg cs := by
  simp only [Value.okWide, Try.underlying25] at hk
  obtain ⟨cs, h1, _⟩ := hk
  exact ⟨cs, h1⟩
set_option maxRecDepth 100000 in
theorem open_act13 {n : Nat} {cs : List Value} {x : DataW H × List MemPlace} (h : DataW.trod enc Try.prog w 0 (fun _ => true) held n 34 cs = some x) :
    ∃ (c : Ac) (a : Option Addr) (cap : Nat), cs = [.int .u8 c.d, .bool c.c.neg, .slice a c.c.t.length cap] ∧ Row w a cap c.c.t ∧ 0 ≤ c.d ∧ c.d ≤ 255 := by
  obtain ⟨ys, m, _, _, hlen, hyl, hf⟩ := DataW.trod_struct Try.underlying34 h
  rw [Try.cells34] at hlen
  match cs, hlen with
  | [v0, v1, v2], _ =>
    have h0 : DataW.trod enc Try.prog w 0 (fun _ => true) held m 5 (([v0, v1, v2].drop 0).take (Try.prog.cellsOf 5)) = ys[0]? := hf 0 _ rfl
    have h1 : DataW.trod enc Try.prog w 0 (fun _ => true) held m 32 (([v0, v1, v2].drop 1).take (Try.prog.cellsOf 32)) = ys[1]? := hf 1 _ rfl
    rw [Try.cells5] at h0
    rw [Try.cells32] at h1
    have hy : ∀ i : Nat, i < 2 → ∃ y, ys[i]? = some y := fun i hi => ⟨_, List.getElem?_eq_getElem (by rw [hyl]; exact hi)⟩
    obtain ⟨y0, e0⟩ := hy 0 (by omega)
    obtain ⟨y1, e1⟩ := hy 1 (by omega)
    rw [e0] at h0
    rw [e1] at h1
    obtain ⟨a0, q0, _, f0⟩ := DataW.trod_int Try.underlying5 h0
    simp at q0
    have h1' : DataW.trod enc Try.prog w 0 (fun _ => true) held m 32 [v1, v2] = some y1 := by simpa using h1
    obtain ⟨v, t, a, cap, hc, hr⟩ := open_chg13 h1'
    simp at hc
    refine ⟨⟨a0, ⟨v, t⟩⟩, a, cap, by rw [q0, hc.1, hc.2], hr, ?_⟩
    simp [Lit.wf, IntKind.min, IntKind.max, IntKind.signed, IntKind.bits] at f0
    show 0 ≤ a0 ∧ a0 ≤ 255
    omega
set_option maxRecDepth 100000 in
theorem E_act13 (n : Nat) (a : Addr) (cs : List Value) (x : DataW H × List MemPlace) (hc : w.cells? 0 a 3 = some cs) (h : DataW.trod enc Try.prog w 0 (fun _ => true) held n 34 cs = some x) : ∃ (b o : Nat) (y : Ac), a = ⟨b, o, none⟩ ∧ Rep.E w b o y := by
  obtain ⟨c, a', cap, rfl, hr, lo, hi⟩ := open_act13 h
  obtain ⟨_, _, hat⟩ := World.cells?_some hc
  have h0 := hat 0 (by omega)
  obtain ⟨b, o, rfl⟩ : ∃ b o, a = ⟨b, o, none⟩ := spot_none (by simpa [Addr.add] using h0)
  refine ⟨b, o, c, rfl, ?_⟩
  have h1 := hat 1 (by omega)
  have h2 := hat 2 (by omega)
  rw [add_lit] at h0 h1 h2
  exact ⟨⟨a', cap, h0, h1, h2, hr⟩, lo, hi⟩
/-- []Act -/
theorem open_acts13 {fuel : Nat} {a : Option Addr} {len cap : Nat} {x : DataW H × List MemPlace} (h : DataW.trod enc Try.prog w 0 (fun _ => true) held fuel 26 [.slice a len cap] = some x) :
    ∃ xs : List Ac, xs.length = len ∧ Row w a cap xs :=
  open_rows Try.underlying26 Try.cells34 (fun n a cs x h1 h2 => E_act13 n a cs x h1 h2) h
end
end Go.Proofs.Ytnpffificfghpaa
namespace Go.Proofs.Ytnpffificfghpaa
end Go.Proofs.Ytnpffificfghpaa
