import Derived.Test.YtmmnfkggfnokjaaZr3
namespace Go.Proofs.Ytmmnfkggfnokjaa
open Go.RowKit

theorem right_good {t : List Cel} (h : rightB t = true) : Good t := fun i hi => sk_good t 1 [] (right_sk2 h) i (by simpa using hi)

theorem same_lit2 {w : World} {a a' : Option Addr} {cap cap' m : Nat} {xs ys : List Cel} {b : Bool} (hm : m = ys.length) (hx : Row w a cap xs) (hy : Row w a' cap' ys) (hb : decide (xs = ys) = b) :
    Calls Try.prog 134 #[.slice a xs.length cap, .slice a' m cap'] w fun e w' => e = .returned (.bool b) ∧ Below w.heap.size w w' := by
  subst hm; subst hb; exact same_any a cap a' cap' w xs ys hx hy
theorem RowU.grown {w w' : World} {u : Nat} {U : List Int} {row : Option Nat} (h : RowU w u U) (hg : w.grownBy w' row) (hne : some u ≠ row) : RowU w' u U := (hg.block u h.lt hne).trans h

set_option maxHeartbeats 3200000 in
set_option maxRecDepth 100000 in
theorem images_any (a : Option Addr) (cap : Nat) (a' : Option Addr) (cap' : Nat) (w : World) (p t : List Cel) (hp : Row w a cap p) (ht : Row w a' cap' t) (rp : rightB p = true) (rt : rightB t = true) :
    Calls Try.prog 185 #[.slice a p.length cap, .slice a' t.length cap'] w fun e w' => Below w.heap.size w w' ∧ ((imgGo p t (fun _ => none) = none ∧ e = .returned (.tuple #[.map none, .bool false])) ∨ ∃ f m n, imgGo p t (fun _ => none) = some f ∧ e = .returned (.tuple #[.map (some m), .bool true]) ∧ MapTB w w' m n f) := by
  have hm := hp.max
  have hle := hp.le
  have hm2 := ht.max
  have hle2 := ht.le
  have hpl : p.length ≤ 200 := (right_sk rp).elim fun c h => h.elim fun l h => by obtain ⟨rfl, _, _, h⟩ := h; exact h
  have htl : t.length ≤ 200 := (right_sk rt).elim fun c h => h.elim fun l h => by obtain ⟨rfl, _, _, h⟩ := h; exact h
  have HL0 := mkHid (left_right rp rt)
  have HG := mkHid (right_good rt)
  have hmm := @run_makeMap Try.prog
  have hm0 : MapTB w (w.alloc (.map #[] 0)) w.heap.size 0 (fun _ => none) := ⟨_, MapV.made Try.prog 3 w, fun _ => rfl⟩
  have hb0 := (Below.refl w.heap.size w).new (.map #[] 0)
  clear rp rt
  generalize hI : imgGo p t (fun _ => none) = I
  have HI0 : Hid (I = imgGo (p.drop 0) (t.drop 0) (fun _ => none)) := hI.symm
  clear hI
  go_enter Try.func185, Try.ntmps185
  go_wp2_with fail
  refine (ends_any a' cap' _ t (ht.below hb0) HG.out (by omega)).mono ?_; rintro e w1 ⟨g, rfl, hg, hE, hb1⟩
  have HE := mkHid hE
  clear hE
  replace hm0 := hm0.below hb1
  replace hb0 := hb0.then hb1
  have hgl := HE.out.lt
  simp only [World.size_alloc] at hg
  go_wp2_with fail
  go_loopw [8, 10, 11, 12, 13, 19] (fun at_ c part met is i wr => ∃ (k j n : Nat) (f : Int → Option (List Cel)), k ≤ p.length ∧ j ≤ t.length ∧ n ≤ k ∧ i = .int .i64 k ∧ at_ = .int .i64 j ∧ MapTB w wr w.heap.size n f ∧ Hid (RowU wr g (endsL t)) ∧ Below w.heap.size w wr ∧ Hid (Left (p.drop k) (t.drop j)) ∧ Hid (I = imgGo (p.drop k) (t.drop j) f)) (fun at_ c part met is i wr => p.length - (intOf i).toNat)
  case atStart => exact ⟨0, 0, 0, _, Nat.zero_le _, Nat.zero_le _, Nat.zero_le _, rfl, rfl, hm0, HE, hb0, HL0, HI0⟩
  case round =>
    clear hm0 hb0
    obtain ⟨k, j, n, f, hk, hj, hn, rfl, rfl, hmap, HU, hbl, HL, HI⟩ := hrel
    by_cases hlt : k < p.length
    · have hdp : p.drop k = p[k] :: p.drop (k + 1) := List.drop_eq_getElem_cons hlt
      have HL1 : Left (p[k] :: p.drop (k + 1)) (t.drop j) := by rw [← hdp]; exact HL.out
      have HI1 : I = imgGo (p[k] :: p.drop (k + 1)) (t.drop j) f := by rw [← hdp]; exact HI.out
      clear hdp HI
      obtain ⟨b, off, rfl, hb, hat⟩ := hp.cases.resolve_left (fun e => by simp [e] at hlt)
      obtain ⟨c0, c1, c2, hf⟩ := cel_at hat hbl hlt
      have hbx := hbl.new (.cells #[.int .i64 p[k].k, .string p[k].s, .int .i64 p[k].n] 79)
      have hmx := hmap.below ((Below.refl _ _).new (.cells #[.int .i64 p[k].k, .string p[k].s, .int .i64 p[k].n] 79))
      have HU1 := mkHid (HU.out.alloc (.cells #[.int .i64 p[k].k, .string p[k].s, .int .i64 p[k].n] 79))
      by_cases h1 : p[k].k = 1
      · have t1 : (p[k].k == 1) = true := by simp [h1]
        obtain ⟨r, hr, HL2⟩ := left_var HL1 h1
        have hjl : j < t.length := by
          rcases Nat.lt_or_ge j t.length with h | h
          · exact h
          · rw [List.drop_of_length_le h] at hr; simp [sk] at hr
        have hj0 : (0 : Int) ≤ (j : Int) := by omega
        have hj1 : (j : Int) < (t.length : Int) := by omega
        obtain ⟨hr1, hr2⟩ := sk_at (Nat.le_of_lt hjl) hr
        have hrp := sk_pos (m := 0) hr
        rw [List.length_drop] at hrp
        have hend : endI t j = ((t.length - r.length : Nat) : Int) := by unfold endI; rw [hr]; simp; omega
        obtain ⟨q, hq⟩ : ∃ q, q = t.length - r.length := ⟨_, rfl⟩
        have hjq : j < q := by omega
        have hql : q ≤ t.length := by omega
        rw [← hq] at hend hr2
        have hpart : (t.drop j).take ((t.drop j).length - r.length) = (t.drop j).take (q - j) := by
          congr 1; rw [List.length_drop]; omega
        have HI2 : I = if (f p[k].n).all (fun z => decide (z = (t.drop j).take (q - j))) then imgGo (p.drop (k + 1)) r (updF f p[k].n ((t.drop j).take (q - j))) else none := by
          rw [HI1]; simp only [imgGo]; rw [if_pos h1, hr]; simp only [hpart]
        rw [← hr2] at HL2 HI2
        obtain ⟨b', off', rfl, hb', hat'⟩ := ht.cases.resolve_left (fun e => by simp [e] at hjl)
        have hpr : Row w (some ⟨b', off' + j * 3, none⟩) (cap' - j) ((t.drop j).take (q - j)) := ht.slice (i := j) (j := q) (by omega) (by omega)
        have hpn : ((t.drop j).take (q - j)).length = q - j := by simp; omega
        have d0 : (wr.alloc (.cells #[.int .i64 p[k].k, .string p[k].s, .int .i64 p[k].n] 79)).cell? ⟨g, j, none⟩ = some (.int .i64 q) := by
          have h := HU1.out.read (k := j) (by rw [endsL_length]; exact hjl)
          rwa [endsL_get, hend] at h
        have hwf : (Lit.int .i64 p[k].n).wf = true := wf64 hf.n1 hf.n2
        obtain ⟨v, hrun, hv⟩ := hmx.look hwf
        obtain ⟨G, hG1, hG2⟩ := hmx.ex
        have e2 : (wr.alloc (.cells #[.int .i64 p[k].k, .string p[k].s, .int .i64 p[k].n] 79)).cell? ⟨wr.heap.size, 2, none⟩ = some (.int .i64 p[k].n) := World.cell?_alloc_at _ _ _ 2 rfl
        have HLz := mkHid HL2
        have HIz := mkHid HI2
        have HPN := mkHid hpn
        have HEN := mkHid hend
        have HPR := mkHid hpr
        have HV := mkHid hv
        have HGG := mkHid hG2
        clear HI1 HL1 HI2 HL2 hpart hr hr1 hr2 hrp hend h1 hq hpn hpr hv hG2
        cases hfn : (f p[k].n).isSome with
        | false =>
          rw [hfn] at hrun
          have HIn : Hid (I = imgGo (p.drop (k + 1)) (t.drop q) (updF f p[k].n ((t.drop j).take (q - j)))) := by
            rw [Hid, HIz.out, if_pos]
            cases hz : f p[k].n with
            | none => rfl
            | some z => rw [hz] at hfn; cases hfn
          clear hfn
          go_wp2_with (at_mapUpdate; refine hG1.wpl_update rfl _ _ _ rfl Try.underlying3 Try.underlying215 rfl (by omega) p[k].n rfl hwf _ rfl ?_; intro w3 hG3 hg3; have HU3 := mkHid (HU1.out.grown hg3 (fun e => by cases e; omega)); have d3 : w3.cell? ⟨g, j, none⟩ = some (.int .i64 q) := (by have h := HU3.out.read (k := j) (by rw [endsL_length]; exact hjl); rwa [endsL_get, HEN.out] at h); have hb3 := hbx.trans ((Below.refl w.heap.size _).grown hg3 hbx.size (fun j hj => by cases hj; exact Nat.le_refl _)))
          go_round
          case rel => exact ⟨k + 1, q, n + 1, _, by omega, by omega, by omega, by go_num, by go_num, MapTB.upd HGG.out HPR.out (by rw [HPN.out]; exact hG3), HU3, hb3, HLz, HIn⟩
          case measure => simp [intOf]; omega
        | true =>
          rw [hfn] at hrun
          obtain ⟨z, hz⟩ := Option.isSome_iff_exists.1 hfn
          obtain ⟨az, capz, rfl, hzr⟩ := HV.out z hz
          by_cases he : z = (t.drop j).take (q - j)
          · have HIn : Hid (I = imgGo (p.drop (k + 1)) (t.drop q) (updF f p[k].n ((t.drop j).take (q - j)))) := by
              rw [Hid, HIz.out, if_pos]
              rw [hz]; simp [he]
            have HD : Hid (decide (z = (t.drop j).take (q - j)) = true) := decide_eq_true he
            have hbx1 := hbx
            clear hfn hz he
            go_wp2_with (first
              | (go_at_call 134; refine (same_lit2 HPN.out.symm (hzr.below hbx) (HPR.out.below hbx) HD.out).mono ?_; rintro e w2 ⟨rfl, hb2⟩; have e3 := keep e2 hb2; have HU2 := mkHid (HU1.out.below hb2); have hmx2 := hmx.below hb2; obtain ⟨G2, hG12, hG22⟩ := hmx2.ex; have hbx2 := hbx.then hb2; clear e2)
              | (at_mapUpdate; refine hG12.wpl_update rfl _ _ _ rfl Try.underlying3 Try.underlying215 rfl (by omega) p[k].n rfl hwf _ rfl ?_; intro w3 hG3 hg3; have HU3 := mkHid (HU2.out.grown hg3 (fun e => by cases e; omega)); have d3 : w3.cell? ⟨g, j, none⟩ = some (.int .i64 q) := (by have h := HU3.out.read (k := j) (by rw [endsL_length]; exact hjl); rwa [endsL_get, HEN.out] at h); have hb3 := hbx2.trans ((Below.refl w.heap.size _).grown hg3 hbx2.size (fun j hj => by cases hj; exact Nat.le_refl _))))
            go_round
            case rel => exact ⟨k + 1, q, n + 1, _, by omega, by omega, by omega, by go_num, by go_num, MapTB.upd hG22 HPR.out (by rw [HPN.out]; exact hG3), HU3, hb3, HLz, HIn⟩
            case measure => simp [intOf]; omega
          · have HIn : Hid (I = none) := by
              rw [Hid, HIz.out, if_neg]
              rw [hz]; simp [he]
            have HD : Hid (decide (z = (t.drop j).take (q - j)) = false) := decide_eq_false he
            clear hfn hz he
            go_wp2_with (go_at_call 134; refine (same_lit2 HPN.out.symm (hzr.below hbx) (HPR.out.below hbx) HD.out).mono ?_; rintro e w2 ⟨rfl, hb2⟩)
            go_ret2
            exact ⟨hbx.then hb2, .inl ⟨HIn.out, rfl⟩⟩
      · have t1 : (p[k].k == 1) = false := by simp [h1]
        obtain ⟨d, r, hd, hL⟩ := left_cons HL1
        have hjl : j < t.length := by
          rcases Nat.lt_or_ge j t.length with h | h
          · exact h
          · rw [List.drop_of_length_le h] at hd; cases hd
        have hdt : t.drop j = t[j] :: t.drop (j + 1) := List.drop_eq_getElem_cons hjl
        rw [hdt] at hd HI1
        obtain ⟨rfl, rfl⟩ := List.cons.inj hd
        have hj0 : (0 : Int) ≤ (j : Int) := by omega
        have hj1 : (j : Int) < (t.length : Int) := by omega
        obtain ⟨b', off', rfl, hb', hat'⟩ := ht.cases.resolve_left (fun e => by simp [e] at hjl)
        obtain ⟨d0, d1, d2, hf2⟩ := cel_at hat' hbx hjl
        have e0 : (wr.alloc (.cells #[.int .i64 p[k].k, .string p[k].s, .int .i64 p[k].n] 79)).cell? ⟨wr.heap.size, 0, none⟩ = some (.int .i64 p[k].k) := World.cell?_alloc_at _ _ _ 0 rfl
        have e1 : (wr.alloc (.cells #[.int .i64 p[k].k, .string p[k].s, .int .i64 p[k].n] 79)).cell? ⟨wr.heap.size, 1, none⟩ = some (.string p[k].s) := World.cell?_alloc_at _ _ _ 1 rfl
        have e2 : (wr.alloc (.cells #[.int .i64 p[k].k, .string p[k].s, .int .i64 p[k].n] 79)).cell? ⟨wr.heap.size, 2, none⟩ = some (.int .i64 p[k].n) := World.cell?_alloc_at _ _ _ 2 rfl
        have HI2 : I = if p[k] = t[j] then imgGo (p.drop (k + 1)) (t.drop (j + 1)) f else none := by
          rw [HI1]; simp only [imgGo]; rw [if_neg h1]
        clear HI1 HL1 hd hdt h1
        by_cases he : p[k] = t[j]
        · have HLz := mkHid (hL he)
          have HIz : Hid (I = imgGo (p.drop (k + 1)) (t.drop (j + 1)) f) := by rw [Hid, HI2, if_pos he]
          have hdc : decide (p[k] = t[j]) = true := decide_eq_true he
          have hne := fun w => run_neq_cel p[k] t[j] w
          rw [hdc] at hne
          clear he hdc HI2 hL
          go_wp2
          go_quiet (fail)
          go_wp2
          go_round
          case rel => exact ⟨k + 1, j + 1, n, f, by omega, by omega, by omega, by go_num, by go_num, hmx.below ⟨rfl, rfl, rfl, Nat.le_refl _, fun _ _ => rfl⟩, HU1, ⟨hbx.os, hbx.tape, hbx.output, hbx.size, hbx.block⟩, HLz, HIz⟩
          case measure => simp [intOf]; omega
        · have HIz : Hid (I = none) := by rw [Hid, HI2, if_neg he]
          have hdc : decide (p[k] = t[j]) = false := decide_eq_false he
          have hne := fun w => run_neq_cel p[k] t[j] w
          rw [hdc] at hne
          clear he hdc HI2 hL
          go_wp2
          go_quiet (fail)
          go_wp2
          go_ret2
          exact ⟨⟨hbx.os, hbx.tape, hbx.output, hbx.size, hbx.block⟩, .inl ⟨HIz.out, rfl⟩⟩
    · have hd : p.drop k = [] := List.drop_of_length_le (by omega)
      have HF : Hid (I = some f) := by rw [Hid, HI.out, hd]; rfl
      clear hd HI HL
      go_wp2
      go_ret2
      exact ⟨hbl, .inr ⟨f, _, n, HF.out, rfl, hmap⟩⟩
end Go.Proofs.Ytmmnfkggfnokjaa
namespace Go.Proofs.Ytmmnfkggfnokjaa
open Go.RowKit

/-- what stands for a variable -/
structure Bnd where
  v : Int
  t : List Cel
  deriving DecidableEq
structure BndE (w : World) (b o : Nat) (x : Bnd) : Prop where
  ex : ∃ a cap, w.cell? ⟨b, o, none⟩ = some (.int .i64 x.v) ∧ w.cell? ⟨b, o + 1, none⟩ = some (.slice a x.t.length cap) ∧ Row w a cap x.t
  lo : -9223372036854775808 ≤ x.v
  hi : x.v ≤ 9223372036854775807
instance : RepC Bnd where
  sz := 2
  E := BndE
  mono h hb := let ⟨a, cap, h0, h1, hr⟩ := h.ex; ⟨⟨a, cap, hb _ _ _ h0, hb _ _ _ h1, hr.keeps hb⟩, h.lo, h.hi⟩
  lt h := let ⟨_, _, h0, _⟩ := h.ex; cell_lt h0
  C w cs x := (∃ a cap, cs = [.int .i64 x.v, .slice a x.t.length cap] ∧ Row w a cap x.t) ∧ -9223372036854775808 ≤ x.v ∧ x.v ≤ 9223372036854775807
  len := by rintro w cs x ⟨⟨a, cap, rfl, _⟩, _⟩; rfl
  one := by rintro w cs x ⟨⟨a, cap, rfl, _⟩, _⟩ u hu; simp at hu; rcases hu with rfl | rfl <;> rfl
  cmono := by rintro w w' cs x ⟨⟨a, cap, rfl, h⟩, h2⟩ hk; exact ⟨⟨a, cap, rfl, h.keeps hk⟩, h2⟩
  toE := by
    rintro w cs x b o ⟨⟨a, cap, rfl, h⟩, h2, h3⟩ hat
    exact ⟨⟨a, cap, hat 0 _ rfl, hat 1 _ rfl, h⟩, h2, h3⟩
  ofE := by
    rintro w x b o ⟨⟨a, cap, h0, h1, h⟩, h2, h3⟩
    refine ⟨_, ⟨⟨a, cap, rfl, h⟩, h2, h3⟩, fun j u hj => ?_⟩
    match j with
    | 0 => simp at hj; subst hj; exact h0
    | 1 => simp at hj; subst hj; exact h1
    | j + 2 => simp at hj
  pos := by decide
theorem bnd_at {w wr : World} {b off : Nat} {xs : List Bnd} (hat : ∀ i (hi : i < xs.length), Rep.E w b (off + i * Rep.sz Bnd) xs[i]) (hb : Below w.heap.size w wr) {k : Nat} (hk : k < xs.length) :
    ∃ a cap, wr.cell? ⟨b, off + k * 2, none⟩ = some (.int .i64 xs[k].v) ∧ wr.cell? ⟨b, off + k * 2 + 1, none⟩ = some (.slice a xs[k].t.length cap) ∧ Row wr a cap xs[k].t ∧ -9223372036854775808 ≤ xs[k].v ∧ xs[k].v ≤ 9223372036854775807 := by
  have h : BndE w b (off + k * 2) xs[k] := hat k hk
  obtain ⟨a, cap, h0, h1, hr⟩ := h.ex
  exact ⟨a, cap, keep h0 hb, keep h1 hb, hr.below hb, h.lo, h.hi⟩

/-! ### plain mathematics -/
def varC (n : Int) : Cel := ⟨1, ⟨#[]⟩, n⟩
/-- the program's own word: just its own variable -/
def ownB (b : Bnd) : Bool := decide (b.t = [varC b.v])
/-- the document's -/
def ownR (v : Int) : List Cel → Bool
  | [c] => c.k == 1 && c.n == v
  | _ => false
def placeB (s : List Bnd) (n : Int) : Int := match s.findIdx? (fun b => decide (b.v = n)) with
  | some i => i
  | none => -1
def look (s : List Bnd) (n : Int) : Option (List Cel) := (s.find? fun b => decide (b.v = n)).map Bnd.t
/-- right from a least variable on -/
def rightG : Int → List Bnd → Bool
  | _, [] => true
  | m, b :: s => decide (m ≤ b.v) && decide (b.v ≤ 999) && rightB b.t && !ownB b && rightG (b.v + 1) s
def rightS (s : List Bnd) : Bool := rightG 0 s
def fewB (s : List Bnd) : Bool := s.all (fun b => decide (b.t.length ≤ 300)) && decide (s.length ≤ 30)
def idemB (s : List Bnd) : Bool := s.all fun b => b.t.all fun c => !(c.k == 1 && (look s c.n).isSome)

theorem cellOk_var {c : Cel} (h : cellOk c = true) (h1 : c.k = 1) : c = varC c.n := by
  obtain ⟨k, s, n⟩ := c
  dsimp only at h1
  subst h1
  simp [cellOk] at h
  have : s = ⟨#[]⟩ := (toList_inj s ⟨#[]⟩).1 (by rw [h.1.1]; simp)
  rw [this]; rfl

/-! scans -/
section
variable {α : Type} {xs : List α} {p : α → Bool} {k : Nat}
theorem scan_next (h : (xs.take k).all p = true) (hk : k < xs.length) (hp : p xs[k] = true) : (xs.take (k + 1)).all p = true := by
  rw [List.take_succ_eq_append_getElem hk, List.all_append, h]; simp [hp]
theorem scan_bad (hk : k < xs.length) (hp : p xs[k] = false) : xs.all p = false := by
  rw [List.all_eq_false]; exact ⟨xs[k], List.getElem_mem hk, by simp [hp]⟩
theorem scan_end (h : (xs.take k).all p = true) (hk : xs.length ≤ k) : xs.all p = true := by
  rwa [List.take_of_length_le hk] at h
theorem find_none {n : Int} {s : List Bnd} (h : (s.take k).all (fun b => !decide (b.v = n)) = true) (hk : s.length ≤ k) : placeB s n = -1 := by
  have h := scan_end h hk
  have : s.findIdx? (fun b => decide (b.v = n)) = none := by
    rw [List.findIdx?_eq_none_iff]
    intro x hx
    have := List.all_eq_true.1 h x hx
    simpa using this
  unfold placeB; rw [this]
theorem find_at {n : Int} {s : List Bnd} (h : (s.take k).all (fun b => !decide (b.v = n)) = true) (hk : k < s.length) (he : s[k].v = n) : placeB s n = k := by
  have : s.findIdx? (fun b => decide (b.v = n)) = some k := by
    rw [List.findIdx?_eq_some_iff_getElem]
    refine ⟨hk, by simpa using he, fun j hj => ?_⟩
    have := List.all_eq_true.1 h s[j] (by rw [List.mem_take_iff_getElem]; exact ⟨j, by omega, rfl⟩)
    simpa using this
  unfold placeB; rw [this]
end
theorem place_look (s : List Bnd) (n : Int) : (placeB s n = -1 ∧ look s n = none ∧ ∀ b ∈ s, b.v ≠ n) ∨ ∃ (i : Nat) (h : i < s.length), placeB s n = i ∧ s[i].v = n ∧ look s n = some s[i].t := by
  cases h : s.findIdx? (fun b => decide (b.v = n)) with
  | none =>
    left
    rw [List.findIdx?_eq_none_iff] at h
    refine ⟨by unfold placeB; rw [List.findIdx?_eq_none_iff.2 h], ?_, fun b hb e => by have := h b hb; simp [e] at this⟩
    unfold look
    rw [List.find?_eq_none.2 (fun x hx => by simpa using h x hx)]; rfl
  | some i =>
    right
    have h' := h
    rw [List.findIdx?_eq_some_iff_getElem] at h'
    obtain ⟨hi, h1, h2⟩ := h'
    refine ⟨i, hi, by unfold placeB; rw [h], by simpa using h1, ?_⟩
    unfold look
    have hf : s.find? (fun b => decide (b.v = n)) = some s[i] := List.find?_eq_some_iff_getElem.2 ⟨h1, i, hi, rfl, fun j hj => by simpa using h2 j hj⟩
    rw [hf]; rfl
theorem ownR_own {b : Bnd} (h : rightB b.t = true) : ownR b.v b.t = ownB b := by
  unfold ownR ownB
  split
  · rename_i c e
    rw [e] at h ⊢
    have hc := right_cells h c (by simp)
    by_cases h1 : c.k = 1
    · by_cases h2 : c.n = b.v
      · have := cellOk_var hc h1
        rw [h2] at this
        rw [this]; simp [varC]
      · have : ¬ c = varC b.v := fun e => h2 (by rw [e]; rfl)
        simp [h1, h2, this]
    · have : ¬ c = varC b.v := fun e => h1 (by rw [e]; rfl)
      simp [h1, this]
  · rename_i hne
    symm
    rw [decide_eq_false_iff_not]
    intro e
    exact hne _ e
/-- the document's way of asking, place by place -/
def okAt (s : List Bnd) (i : Nat) (b : Bnd) : Bool := decide (0 ≤ b.v) && decide (b.v ≤ 999) && (match i with | 0 => true | j + 1 => match s[j]? with | some c => decide (c.v < b.v) | none => true) && rightB b.t && !ownR b.v b.t
theorem rightG_bad {m : Int} {s : List Bnd} {k : Nat} (hk : k < s.length) (h : rightB s[k].t = false ∨ ownB s[k] = true ∨ 999 < s[k].v) : rightG m s = false := by
  induction s generalizing m k with
  | nil => simp at hk
  | cons b s ih =>
    cases k with
    | zero =>
      simp at h
      unfold rightG
      rcases h with h | h | h
      · simp [h]
      · simp [h]
      · simp [show ¬ b.v ≤ 999 by omega]
    | succ k =>
      simp at h hk
      have := ih (m := b.v + 1) hk h
      unfold rightG; simp [this]
theorem rightG_split {m : Int} {s : List Bnd} {k : Nat} (hk : k < s.length) (h : rightG m s = true) : rightG s[k].v (s.drop k) = true ∧ m ≤ s[k].v := by
  induction s generalizing m k with
  | nil => simp at hk
  | cons b s ih =>
    cases k with
    | zero =>
      unfold rightG at h
      simp at h
      refine ⟨?_, by simp; omega⟩
      rw [List.drop_zero]
      unfold rightG
      simp [h]
    | succ k =>
      unfold rightG at h
      simp at h hk
      obtain ⟨h1, h2⟩ := ih hk h.2
      refine ⟨by simpa using h1, by simp; omega⟩

/-- the least variable that may stand at a place -/
def mOf (xs : List Bnd) : Nat → Int
  | 0 => 0
  | j + 1 => match xs[j]? with
    | some c => c.v + 1
    | none => 0
theorem mOf_succ {xs : List Bnd} {k : Nat} (hk : k < xs.length) : mOf xs (k + 1) = xs[k].v + 1 := by
  simp [mOf, List.getElem?_eq_getElem hk]
theorem rightG_step {xs : List Bnd} {k : Nat} (hk : k < xs.length) (h : rightS xs = rightG (mOf xs k) (xs.drop k)) :
    rightS xs = (decide (mOf xs k ≤ xs[k].v) && decide (xs[k].v ≤ 999) && rightB xs[k].t && !ownB xs[k] && rightG (mOf xs (k + 1)) (xs.drop (k + 1))) := by
  rw [h, List.drop_eq_getElem_cons hk, mOf_succ hk]; rfl
theorem right_l1 {xs : List Bnd} {k : Nat} (hk : k < xs.length) (h : rightS xs = rightG (mOf xs k) (xs.drop k)) (e : ¬ mOf xs k ≤ xs[k].v ∨ ¬ xs[k].v ≤ 999 ∨ rightB xs[k].t = false ∨ ownB xs[k] = true) : rightS xs = false := by
  rw [rightG_step hk h]
  rcases e with e | e | e | e <;> simp [e]
theorem right_l2 {xs : List Bnd} {k : Nat} (hk : k < xs.length) (h : rightS xs = rightG (mOf xs k) (xs.drop k)) (e1 : mOf xs k ≤ xs[k].v) (e2 : xs[k].v ≤ 999) (e3 : rightB xs[k].t = true) (e4 : ownB xs[k] = false) : rightS xs = rightG (mOf xs (k + 1)) (xs.drop (k + 1)) := by
  rw [rightG_step hk h]; simp [e1, e2, e3, e4]
theorem right_l3 {xs : List Bnd} {k : Nat} (hk : xs.length ≤ k) (h : rightS xs = rightG (mOf xs k) (xs.drop k)) : rightS xs = true := by
  rw [h, List.drop_eq_nil_of_le hk]; rfl
end Go.Proofs.Ytmmnfkggfnokjaa
namespace Go.Proofs.Ytmmnfkggfnokjaa
open Go.RowKit

/-- the bindings of rising variables, but for those that stand for themselves -/
def bindC (F : Int → List Cel) (v : Int) : List Bnd := if (F v).head? = some ⟨1, ⟨#[]⟩, v⟩ then [] else [⟨v, F v⟩]
def bindL (F : Int → List Cel) (R : List Int) : List Bnd := R.flatMap (bindC F)
theorem bind_take {F : Int → List Cel} {R : List Int} {k : Nat} (hk : k < R.length) : bindL F (R.take (k + 1)) = bindL F (R.take k) ++ bindC F R[k] := by
  unfold bindL; rw [List.take_succ_eq_append_getElem hk, List.flatMap_append]; simp
theorem bind_le (F : Int → List Cel) (R : List Int) : (bindL F R).length ≤ R.length := by
  induction R with
  | nil => simp [bindL]
  | cons v R ih =>
    unfold bindL at ih ⊢
    rw [List.flatMap_cons, List.length_append, List.length_cons]
    have : (bindC F v).length ≤ 1 := by unfold bindC; split <;> simp
    omega
theorem riseI_le (xs : List Int) : (riseI xs).length ≤ xs.length := by
  have := compact_le (sortI xs).toArray (sortI xs).length
  rw [sortI_length] at this
  unfold riseI; rw [sortI_length]; exact this

theorem Try.infoBind2 : (Try.prog.info? 170).map (fun i => (i.zero, i.size, i.bytes)) = some (some (.agg #[.int .i64 0, .slice none 0 0]), 2, 32) := by kernel_rfl

set_option maxHeartbeats 3200000 in
set_option maxRecDepth 100000 in
theorem bindingsM_any (T6 : Nat) (a : Option Addr) (cap : Nat) (w : World) (V R : List Int) (F : Int → List Cel) (hR : riseI V = R) (hV : Row w a cap V) (hl : V.length ≤ 1000)
    (hst : ∀ (W : World) (v : Int), Below w.heap.size w W → v ∈ R → Calls Try.prog 187 #[.int .i64 v, .pointer (some ⟨T6, 0, none⟩)] W fun e W' => ∃ a cap, e = .returned (.tuple #[.slice a (F v).length cap, .bool true]) ∧ NewRow W.heap.size W' a cap (F v) ∧ 1 ≤ (F v).length ∧ (F v).length ≤ 1000 ∧ Below W.heap.size W W') :
    Calls Try.prog 186 #[.slice a V.length cap, .func (.func 187) #[] #[.pointer (some ⟨T6, 0, none⟩)]] w fun e w' => ∃ a2 cap2, e = .returned (.tuple #[.slice a2 (bindL F R).length cap2, .bool true]) ∧ Row w' a2 cap2 (bindL F R) ∧ Below w.heap.size w w' := by
  have hm := hV.max
  have hle := hV.le
  have HST := mkHid hst
  have hRl := riseI_le V
  rw [hR] at hRl
  have HR := mkHid hR
  clear hR
  clear hst
  go_enter Try.func186, Try.ntmps186
  go_wp2_with fail
  refine (callsIn_wide (n := 2)).1 (values_in _ 2 trivial rfl a V.length cap w) |>.mono ?_
  rintro e w1 ⟨rfl, rfl⟩
  have hb1 := (Below.refl w.heap.size w).new (.cells #[.slice a V.length cap] 41)
  go_wp2_with fail
  refine (sorted_any w.heap.size w _ a cap V hV (by omega) hb1 (World.cell?_alloc_at _ _ _ 0 rfl)).mono ?_
  rintro e w2 ⟨v2, rfl, ho2, hb2⟩
  have hsl := sortI_length V
  have HO2 := mkHid ho2
  clear ho2
  go_wp2_with fail
  refine (compact_any _ w2 v2 (sortI V) HO2.out (by omega) hb2.size).mono ?_
  rintro e w3 ⟨v3, rfl, ho3, hb3⟩
  have hb := hb1.trans ((hb2.trans hb3).mono (by simp))
  obtain ⟨a3, cap3, rfl, hr3⟩ := ho3.row
  have hr3 := hr3.row
  have hR : Hid (Lib.compactUpTo (sortI V).toArray (sortI V).length = R) := HR.out
  rw [hR.out] at hr3 ⊢
  clear hsl hb1 hb2 hb3 ho3
  have hacc0 := AccInv.nil (α := Bnd) w3.heap.size 170 w3
  go_wp2_with fail
  go_loopw [6, 8, 9, 10, 16] (fun s v t fits i wr => ∃ k : Nat, k ≤ R.length ∧ i = .int .i64 k ∧ AccInv w3.heap.size 170 (bindL F (R.take k)) s wr ∧ Below w3.heap.size w3 wr) (fun s v t fits i wr => R.length - (intOf i).toNat)
  case atStart => exact ⟨0, Nat.zero_le _, rfl, by simpa [bindL] using hacc0, Below.refl _ _⟩
  case round =>
    clear hacc0
    obtain ⟨k, hk, rfl, hacc, hbl⟩ := hrel
    by_cases hlt : k < R.length
    · obtain ⟨b, off, rfl, hb', hat⟩ := hr3.cases.resolve_left (fun e => by simp [e] at hlt)
      obtain ⟨d0, n1, n2⟩ := int_at hat hbl hlt
      have HT := mkHid (bind_take (F := F) hlt)
      have hle2 := bind_le F (R.take k)
      have hlk : (R.take k).length ≤ k := List.length_take_le _ _
      have hmem : Hid (R[k] ∈ R) := List.getElem_mem hlt
      go_wp2_with fail
      refine (HST.out wr R[k] (hb.trans (hbl.mono hb.size)) hmem.out).mono ?_
      rintro e w4 ⟨a4, cap4, rfl, hr4, h41, h42, hb4⟩
      have hbl2 := hbl.then hb4
      have hacc2 := hacc.below hb4
      have hC := hacc.newer (Nat.le_refl _) hr4
      obtain ⟨b4, off4, rfl, _, hat4⟩ := hr4.row.cases.resolve_left (fun e => by simp [e] at h41)
      obtain ⟨e0, e1, e2, hf4⟩ := cel_at hat4 (Below.refl _ _) (k := 0) h41
      simp only [Nat.zero_mul, Nat.add_zero] at e0 e1 e2
      have hh : (F R[k]).head? = some (F R[k])[0] := by
        rw [List.head?_eq_getElem?, List.getElem?_eq_getElem h41]
      by_cases he : (F R[k])[0] = ⟨1, ⟨#[]⟩, R[k]⟩
      · have hdc : decide ((F R[k])[0] = (⟨1, ⟨#[]⟩, R[k]⟩ : Cel)) = true := decide_eq_true he
        have hne := fun w => run_neq_cel (F R[k])[0] ⟨1, ⟨#[]⟩, R[k]⟩ w
        rw [hdc] at hne
        have HB : Hid (bindL F (R.take (k + 1)) = bindL F (R.take k)) := by
          rw [Hid, HT.out]; unfold bindC; rw [hh, he, if_pos rfl, List.append_nil]
        clear hh he hdc
        go_wp2_with fail
        go_round
        case rel => exact ⟨k + 1, by omega, by go_num, hacc2.lit HB.out.symm, hbl2⟩
        case measure => simp [intOf]; omega
      · have hdc : decide ((F R[k])[0] = (⟨1, ⟨#[]⟩, R[k]⟩ : Cel)) = false := decide_eq_false he
        have hne := fun w => run_neq_cel (F R[k])[0] ⟨1, ⟨#[]⟩, R[k]⟩ w
        rw [hdc] at hne
        have HB : Hid (bindL F (R.take (k + 1)) = bindL F (R.take k) ++ [⟨R[k], F R[k]⟩]) := by
          rw [Hid, HT.out]; unfold bindC; rw [hh, if_neg (fun e => he (Option.some.inj e))]
        clear hh he hdc
        go_wp2_with (at_builtin; refine wpList_acc (α := Bnd) rfl _ _ 64 rfl w3.heap.size 170 32 _ Try.underlying64 Try.infoBind2 rfl (by decide) _ (bindL F (R.take k)) hacc2 (by rfl) _ #[.int .i64 R[k], .slice (some ⟨b4, off4, none⟩) (F R[k]).length cap4] ⟨R[k], F R[k]⟩ ⟨⟨_, cap4, rfl, hC⟩, n1, n2⟩ (by rfl) (by omega) hbl2.size ?_; intro v' w5 hacc3 hb5)
        go_round
        case rel => exact ⟨k + 1, by omega, by go_num, hacc3.lit HB.out.symm, hbl2.trans hb5⟩
        case measure => simp [intOf]; omega
    · have HL : Hid (R.take k = R) := List.take_of_length_le (by omega)
      obtain ⟨a5, cap5, rfl, hrow⟩ := hacc.row
      rw [HL.out] at hrow ⊢
      clear hacc
      go_wp2_with fail
      go_ret2
      exact ⟨a5, cap5, rfl, hrow, hb.trans (hbl.mono hb.size)⟩
end Go.Proofs.Ytmmnfkggfnokjaa
namespace Go.Proofs.Ytmmnfkggfnokjaa
open Go.RowKit

theorem clone_new2 (a : Option Addr) (cap : Nat) (w : World) (xs : List Cel) (hx : Row w a cap xs) (hl : xs.length ≤ 1000000) :
    Calls Try.prog 132 #[.slice a xs.length cap] w fun e w' => ∃ a2 cap2, e = .returned (.slice a2 xs.length cap2) ∧ NewRow w.heap.size w' a2 cap2 xs ∧ Below w.heap.size w w' :=
  (clone_any a cap w xs hx hl).mono fun e w' ⟨v, he, ho, hb⟩ => by
    obtain ⟨a2, cap2, rfl, hr⟩ := own_new ho hx.fit
    exact ⟨a2, cap2, he, hr, hb⟩

/-! ### what the map of images holds -/
theorem img_keeps : ∀ (p t : List Cel) (f g : Int → Option (List Cel)), imgGo p t f = some g → ∀ i, (f i).isSome → (g i).isSome
  | [], t, f, g, h, i, hi => by simp [imgGo] at h; subst h; exact hi
  | c :: p, t, f, g, h, i, hi => by
    simp only [imgGo] at h
    split at h
    · cases hr : sk 1 t with
      | none => rw [hr] at h; cases h
      | some r =>
        rw [hr] at h
        simp only at h
        split at h
        · refine img_keeps p r _ g h i ?_
          unfold updF
          split
          · rfl
          · exact hi
        · cases h
    · cases t with
      | nil => cases h
      | cons d t' =>
        simp only at h
        split at h
        · exact img_keeps p t' f g h i hi
        · cases h
theorem img_all : ∀ (p t : List Cel) (f g : Int → Option (List Cel)), imgGo p t f = some g → ∀ c ∈ p, c.k = 1 → (g c.n).isSome
  | [], t, f, g, h, c, hc, _ => by simp at hc
  | d :: p, t, f, g, h, c, hc, h1 => by
    simp only [imgGo] at h
    split at h
    · next hd =>
      cases hr : sk 1 t with
      | none => rw [hr] at h; cases h
      | some r =>
        rw [hr] at h
        simp only at h
        split at h
        · rcases List.mem_cons.1 hc with rfl | hc
          · exact img_keeps p r _ g h _ (by unfold updF; simp)
          · exact img_all p r _ g h c hc h1
        · cases h
    · next hd =>
      cases t with
      | nil => cases h
      | cons e t' =>
        simp only at h
        split at h
        · rcases List.mem_cons.1 hc with rfl | hc
          · exact absurd h1 hd
          · exact img_all p t' f g h c hc h1
        · cases h
theorem img_range {n : Nat} : ∀ (p t : List Cel) (f g : Int → Option (List Cel)), imgGo p t f = some g → t.length ≤ n → (∀ i q, f i = some q → 1 ≤ q.length ∧ q.length ≤ n) → ∀ i q, g i = some q → 1 ≤ q.length ∧ q.length ≤ n
  | [], t, f, g, h, _, hf, i, q, hq => by simp [imgGo] at h; subst h; exact hf i q hq
  | c :: p, t, f, g, h, hn, hf, i, q, hq => by
    simp only [imgGo] at h
    split at h
    · cases hr : sk 1 t with
      | none => rw [hr] at h; cases h
      | some r =>
        rw [hr] at h
        simp only at h
        have h1 := sk_pos (m := 0) hr
        split at h
        · refine img_range p r _ g h (by omega) (fun i q hq => ?_) i q hq
          unfold updF at hq
          split at hq
          · cases hq; simp; omega
          · exact hf i q hq
        · cases h
    · cases t with
      | nil => cases h
      | cons d t' =>
        simp only at h
        simp only [List.length_cons] at hn
        split at h
        · exact img_range p t' f g h (by omega) hf i q hq
        · cases h
theorem riseI_mem {xs : List Int} {n : Int} (h : n ∈ riseI xs) : n ∈ xs := by
  have h1 := compact_sub (sortI xs).toArray (sortI xs).length (by simp) n h
  have h2 : n ∈ sortI xs := by simpa using h1
  unfold sortI at h2
  exact List.mem_mergeSort.1 h2
theorem varsGo_src2 (xs : List Cel) : ∀ (acc : List Int) (n : Int), n ∈ varsGo acc xs → n ∈ acc ∨ ∃ c ∈ xs, c.k = 1 ∧ c.n = n := by
  induction xs with
  | nil => intro acc n h; exact .inl h
  | cons c l ih =>
    intro acc n h
    rcases ih _ n h with h | ⟨d, hd, h1, h2⟩
    · split at h
      · rename_i hc
        rcases List.mem_append.1 h with h | h
        · exact .inl h
        · simp at h; exact .inr ⟨c, by simp, hc.1, h.symm⟩
      · exact .inl h
    · exact .inr ⟨d, by simp [hd], h1, h2⟩
/-- what Match tells -/
def matchL (p t : List Cel) : List Bnd := match imgGo p t (fun _ => none) with
  | none => []
  | some f => bindL (fun v => (f v).getD []) (riseI (varsL p))
def matchB (p t : List Cel) : Bool := (imgGo p t (fun _ => none)).isSome
theorem MapTB.get {w0 w : World} {m n : Nat} {f : Int → Option (List Cel)} (h : MapTB w0 w m n f) {i : Int} {q : List Cel} (hq : f i = some q) (hi : (Lit.int .i64 i).wf = true) :
    ∃ a cap, (Instr.lookup 215 (.map (some m)) (.int .i64 i) false).run Try.prog w = .ok (.slice a q.length cap) w ∧ Row w0 a cap q := by
  obtain ⟨g, h1, h2⟩ := h.ex
  have h3 := h2 i
  rw [hq] at h3
  obtain ⟨a, cap, e, hr⟩ := h3
  have hrun := h1.run_look (t := 215) (e := 22) Try.underlying3 Try.underlying215 (Try.zeroCells2 w) hi
  rw [e] at hrun
  exact ⟨a, cap, hrun, hr⟩
set_option maxHeartbeats 800000 in
theorem match1_any {w0 : World} {m n : Nat} {f : Int → Option (List Cel)} (T6 : Nat) (W : World) (v : Int) (q : List Cel) (hM : MapTB w0 W m n f) (hw : Below w0.heap.size w0 W) (hT : W.cell? ⟨T6, 0, none⟩ = some (.map (some m))) (hq : f v = some q) (hv : (Lit.int .i64 v).wf = true) (hl : q.length ≤ 1000) :
    Calls Try.prog 187 #[.int .i64 v, .pointer (some ⟨T6, 0, none⟩)] W fun e W' => ∃ a cap, e = .returned (.tuple #[.slice a q.length cap, .bool true]) ∧ NewRow W.heap.size W' a cap q ∧ Below W.heap.size W W' := by
  obtain ⟨a, cap, hrun, hr⟩ := hM.get hq hv
  have hr2 := hr.below hw
  go_enter Try.func187, Try.ntmps187
  go_wp2_with fail
  refine (clone_new2 a cap _ q hr2 (by omega)).mono ?_; rintro e w1 ⟨a2, cap2, rfl, hr3, hb⟩
  go_wp2_with fail
  go_ret2
  exact ⟨a2, cap2, rfl, hr3, hb⟩

set_option maxHeartbeats 3200000 in
set_option maxRecDepth 100000 in
theorem match_any (a : Option Addr) (cap : Nat) (a' : Option Addr) (cap' : Nat) (w : World) (p t : List Cel) (hp : Row w a cap p) (ht : Row w a' cap' t) (rp : rightB p = true) (rt : rightB t = true) :
    Calls Try.prog 139 #[.slice a p.length cap, .slice a' t.length cap'] w fun e w' => ∃ a2 cap2, e = .returned (.tuple #[.slice a2 (matchL p t).length cap2, .bool (matchB p t)]) ∧ Row w' a2 cap2 (matchL p t) ∧ Below w.heap.size w w' := by
  have hm := hp.max
  have hle := hp.le
  have hm2 := ht.max
  have hle2 := ht.le
  have hpl : p.length ≤ 200 := (right_sk rp).elim fun c h => h.elim fun l h => by obtain ⟨rfl, _, _, h⟩ := h; exact h
  have htl : t.length ≤ 200 := (right_sk rt).elim fun c h => h.elim fun l h => by obtain ⟨rfl, _, _, h⟩ := h; exact h
  have HP := mkHid rp
  have HT := mkHid rt
  clear rp rt
  cases hI : imgGo p t (fun _ => none) with
  | none =>
    have HL : Hid (matchL p t = []) := by rw [Hid]; unfold matchL; rw [hI]
    have HB : Hid (matchB p t = false) := by rw [Hid]; unfold matchB; rw [hI]; rfl
    go_enter Try.func139, Try.ntmps139
    go_wp2_with fail
    refine (right_lit rfl hp HP.out).mono ?_; rintro e w1 ⟨rfl, hb1⟩
    go_wp2_with fail
    with_reducible refine (right_lit rfl (ht.below hb1) HT.out).mono ?_
    rintro e w2 ⟨rfl, hb2⟩
    replace hb1 := hb1.then hb2
    go_wp2_with fail
    refine (images_any a cap a' cap' w2 p t (hp.below hb1) (ht.below hb1) HP.out HT.out).mono ?_
    rintro e w3 ⟨hb3, ⟨_, rfl⟩ | ⟨f, m, n, h, _, _⟩⟩
    · clear hI
      go_wp2_with fail
      go_ret2
      rw [HL.out, HB.out]
      exact ⟨none, 0, rfl, Row.empty _ _ _ (by omega) (fun _ => rfl), (hb1.then hb3).new _⟩
    · rw [hI] at h; cases h
  | some f =>
    have HL : Hid (matchL p t = bindL (fun v => (f v).getD []) (riseI (varsL p))) := by rw [Hid]; unfold matchL; rw [hI]
    have HB : Hid (matchB p t = true) := by rw [Hid]; unfold matchB; rw [hI]; rfl
    have HA : Hid (∀ v ∈ riseI (varsL p), ∃ q, f v = some q ∧ 1 ≤ q.length ∧ q.length ≤ 200 ∧ (Lit.int .i64 v).wf = true) := by
      intro v hv
      have h1 := riseI_mem hv
      obtain ⟨c, hc, h2, h3⟩ := (varsGo_src2 p [] v h1).resolve_left (by simp)
      have h4 := img_all p t _ f hI c hc h2
      rw [h3] at h4
      obtain ⟨q, hq⟩ := Option.isSome_iff_exists.1 h4
      have h5 := img_range (n := 200) p t _ f hI htl (by simp) v q hq
      have h6 := hp.fit c hc
      exact ⟨q, hq, h5.1, h5.2, by rw [← h3]; exact wf64 h6.n1 h6.n2⟩
    have hvl := varsGo_length p []
    rw [show varsGo [] p = varsL p from rfl, List.length_nil, Nat.zero_add] at hvl
    go_enter Try.func139, Try.ntmps139
    go_wp2_with fail
    refine (right_lit rfl hp HP.out).mono ?_; rintro e w1 ⟨rfl, hb1⟩
    go_wp2_with fail
    with_reducible refine (right_lit rfl (ht.below hb1) HT.out).mono ?_
    rintro e w2 ⟨rfl, hb2⟩
    replace hb1 := hb1.then hb2
    go_wp2_with fail
    refine (images_any a cap a' cap' w2 p t (hp.below hb1) (ht.below hb1) HP.out HT.out).mono ?_
    rintro e w3 ⟨hb3, ⟨h, _⟩ | ⟨g, m, n, h, rfl, hM⟩⟩
    · rw [hI] at h; cases h
    rw [hI] at h
    obtain rfl : f = g := Option.some.inj h
    have HM := mkHid hM
    clear hI h hM
    replace hb1' := hb1.then hb3
    have hTn : (w3.alloc (.cells #[.map (some m)] 215)).cell? ⟨w3.heap.size, 0, none⟩ = some (.map (some m)) := World.cell?_alloc_at _ _ _ 0 rfl
    have hb4 := hb1'.new (.cells #[.map (some m)] 215)
    have hM4 := HM.out.below ((Below.refl _ _).new (.cells #[.map (some m)] 215))
    have hb34 := hb3.new (.cells #[.map (some m)] 215)
    go_wp2_with fail
    refine (vars_any a cap _ p (hp.below hb4) (by omega)).mono ?_
    rintro e w5 ⟨av, capv, rfl, hrv, hb5⟩
    have hT5 := keep hTn hb5
    have hM5 := hM4.below hb5
    have hb05 := hb4.then hb5
    have hb25 := hb34.then hb5
    go_wp2_with fail
    refine (bindingsM_any w3.heap.size av capv w5 (varsL p) (riseI (varsL p)) (fun v => (f v).getD []) rfl hrv (by omega) ?_).mono ?_
    · intro W v hW hv
      obtain ⟨q, hq, q1, q2, q3⟩ := HA.out v hv
      have hk := match1_any w3.heap.size W v q (hM5.below hW) (hb25.then hW) (keep hT5 hW) hq q3 (by omega)
      refine hk.mono ?_
      rintro e W' ⟨a6, cap6, he, hr6, hb6⟩
      simp only [hq, Option.getD_some]
      exact ⟨a6, cap6, he, hr6, q1, by omega, hb6⟩
    · rintro e w6 ⟨a7, cap7, rfl, hr7, hb7⟩
      go_wp2_with fail
      go_ret2
      rw [HL.out, HB.out]
      exact ⟨a7, cap7, rfl, hr7, hb05.then hb7⟩
end Go.Proofs.Ytmmnfkggfnokjaa
namespace Go.Proofs.Ytmmnfkggfnokjaa
open Go.RowKit

/-! ### rows picked from a row -/
theorem filt_yes {α : Type} {p : α → Bool} {l : List α} {k : Nat} (hk : k < l.length) (h : p l[k] = true) : (l.take (k + 1)).filter p = (l.take k).filter p ++ [l[k]] := by
  rw [List.take_succ_eq_append_getElem hk, List.filter_append]; simp [h]
theorem filt_no {α : Type} {p : α → Bool} {l : List α} {k : Nat} (hk : k < l.length) (h : p l[k] = false) : (l.take (k + 1)).filter p = (l.take k).filter p := by
  rw [List.take_succ_eq_append_getElem hk, List.filter_append]; simp [h]

set_option maxHeartbeats 1600000 in
theorem picked_any (g : Nat) (cb : Array Value) (p : List Cel → Bool) (a : Option Addr) (cap : Nat) (l : List (List Cel)) (w : World) (hr : Row w a cap l) (hl : l.length ≤ 1000000) (hx : ∀ x ∈ l, x.length ≤ 1000000)
    (eg : ∀ args w, (callFunc g args).run Try.prog w = .ok (.enter g args) w)
    (hf : ∀ (W : World) (i : Nat) (hi : i < l.length) (a1 : Option Addr) (c1 : Nat), Below w.heap.size w W → Row W a1 c1 l[i] → Calls Try.prog g (#[.slice a1 l[i].length c1] ++ cb) W fun e W' => e = .returned (.bool (p l[i])) ∧ Below W.heap.size W W') :
    Calls Try.prog 129 #[.slice a l.length cap, .func (.func g) #[] cb] w fun e w' => ∃ v, e = .returned v ∧ AccInv w.heap.size 22 (l.filter p) v w' ∧ Below w.heap.size w w' := by
  have hm := hr.max
  have hm2 := hr.le
  have HF := mkHid hf
  have HX := mkHid hx
  clear hf hx
  go_enter Try.func129, Try.ntmps129
  go_wp2
  go_loopw [5, 10] (fun v i wr => ∃ (k : Nat) (A : List (List Cel)), k ≤ l.length ∧ A.length ≤ k ∧ i = .int .i64 k ∧ AccInv w.heap.size 22 A v wr ∧ Below w.heap.size w wr ∧ Hid ((l.take k).filter p = A)) (fun v i wr => l.length - (intOf i).toNat)
  case atStart => exact ⟨0, [], Nat.zero_le _, Nat.zero_le _, rfl, AccInv.nil _ _ _, Below.refl _ _, rfl⟩
  case round =>
    obtain ⟨k, A, hk, hA, rfl, hacc, hbl, HS⟩ := hrel
    by_cases hlt : k < l.length
    · obtain ⟨b, off, rfl, hb, hat⟩ := hr.cases.resolve_left (fun e => by simp [e] at hlt)
      obtain ⟨a1, cap1, c0, hr1⟩ := list_at hat hbl hlt
      have hc := HF.out wr k hlt a1 cap1 hbl hr1
      obtain ⟨q, hq⟩ : ∃ q, p l[k] = q := ⟨_, rfl⟩
      rw [hq] at hc
      have HQ := mkHid hq
      clear hq
      have hlk : l[k].length ≤ 1000000 := HX.out _ (List.getElem_mem hlt)
      cases q with
      | false =>
        have HT : Hid ((l.take (k + 1)).filter p = A) := by rw [Hid, filt_no hlt HQ.out, HS.out]
        clear HS
        go_wp2_with fail
        refine hc.mono ?_
        rintro e w1 ⟨rfl, hb1⟩
        go_wp2_with fail
        go_round
        case rel => exact ⟨k + 1, A, by omega, by omega, by go_num, hacc.below hb1, hbl.then hb1, HT⟩
        case measure => simp [intOf]; omega
      | true =>
        have HT : Hid ((l.take (k + 1)).filter p = A ++ [l[k]]) := by rw [Hid, filt_yes hlt HQ.out, HS.out]
        clear HS
        go_wp2_with fail
        refine hc.mono ?_
        rintro e w1 ⟨rfl, hb1⟩
        have hacc1 := hacc.below hb1
        have hr11 := hr1.below hb1
        go_wp2_with (first
          | (go_at_call 132; refine (clone_new2 a1 cap1 _ l[k] hr11 hlk).mono ?_; rintro e w2 ⟨a2, cap2, rfl, hr2, hb2⟩; have hacc2 := hacc1.below hb2; have hrh := hacc1.newer (Nat.le_refl _) hr2; have hbl2 := (hbl.then hb1).then hb2; have hsz2 := hbl2.size)
          | (at_builtin; refine wpList_acc (α := List Cel) rfl _ _ 68 rfl w.heap.size 22 24 _ Try.underlying68 Try.infoSl rfl (by decide) _ A hacc2 (by rfl) _ #[.slice a2 l[k].length cap2] l[k] ⟨a2, cap2, rfl, hrh⟩ (by rfl) (by omega) hsz2 ?_; intro v9 w9 hacc9 hb9))
        go_round
        case rel => exact ⟨k + 1, A ++ [l[k]], by omega, by simp; omega, by go_num, hacc9, hbl2.trans hb9, HT⟩
        case measure => simp [intOf]; omega
    · have HT : Hid (A = l.filter p) := by rw [Hid, ← HS.out, List.take_of_length_le (by omega)]
      have hacc' : AccInv w.heap.size 22 (l.filter p) u5 wr := HT.out ▸ hacc
      clear HS
      go_wp2
      go_ret
      exact ⟨_, rfl, hacc', hbl⟩

/-! ### the four questions -/
theorem add1_any (v : Value) (W : World) : Calls Try.prog 130 #[v] W fun e W' => e = .returned (.bool true) ∧ Below W.heap.size W W' := by
  go_enter Try.func130, Try.ntmps130
  go_wp2
  go_ret
  exact ⟨rfl, Below.refl _ _⟩
theorem drop1_any (T3 : Nat) (W : World) (a : Option Addr) (cap : Nat) (f : List Cel) (a' : Option Addr) (cap' : Nat) (t : List Cel) (hr : Row W a cap f) (ht : Row W a' cap' t) (h3 : W.cell? ⟨T3, 0, none⟩ = some (.slice a' t.length cap')) :
    Calls Try.prog 133 #[.slice a f.length cap, .pointer (some ⟨T3, 0, none⟩)] W fun e W' => e = .returned (.bool (!decide (f = t))) ∧ Below W.heap.size W W' := by
  obtain ⟨d, hd⟩ : ∃ d, decide (f = t) = d := ⟨_, rfl⟩
  have HD := mkHid hd
  rw [hd]
  clear hd
  cases d with
  | false =>
    go_enter Try.func133, Try.ntmps133
    go_wp2_with fail
    refine (sameF_is hr ht HD).mono ?_; rintro e w1 ⟨rfl, hb1⟩
    go_wp2_with fail
    go_ret
    exact ⟨rfl, hb1⟩
  | true =>
    go_enter Try.func133, Try.ntmps133
    go_wp2_with fail
    refine (sameF_is hr ht HD).mono ?_; rintro e w1 ⟨rfl, hb1⟩
    go_wp2_with fail
    go_ret
    exact ⟨rfl, hb1⟩
theorem find1_any (T3 : Nat) (W : World) (a : Option Addr) (cap : Nat) (f : List Cel) (a' : Option Addr) (cap' : Nat) (t : List Cel) (hr : Row W a cap f) (ht : Row W a' cap' t) (rf : rightB f = true) (rt : rightB t = true) (h3 : W.cell? ⟨T3, 0, none⟩ = some (.slice a' t.length cap')) :
    Calls Try.prog 138 #[.slice a f.length cap, .pointer (some ⟨T3, 0, none⟩)] W fun e W' => e = .returned (.bool (matchB t f)) ∧ Below W.heap.size W W' := by
  have RF := mkHid rf
  have RT := mkHid rt
  clear rf rt
  go_enter Try.func138, Try.ntmps138
  go_wp2_with fail
  refine (match_any a' cap' a cap W t f ht hr RT.out RF.out).mono ?_; rintro e w1 ⟨a2, c2, rfl, _, hb1⟩
  go_wp2_with fail
  go_ret
  exact ⟨rfl, hb1⟩
theorem without1_any (T3 : Nat) (W : World) (a : Option Addr) (cap : Nat) (f : List Cel) (a' : Option Addr) (cap' : Nat) (m : List (List Cel)) (hr : Row W a cap f) (ht : Row W a' cap' m) (hF : FR m) (h3 : W.cell? ⟨T3, 0, none⟩ = some (.slice a' m.length cap')) :
    Calls Try.prog 188 #[.slice a f.length cap, .pointer (some ⟨T3, 0, none⟩)] W fun e W' => e = .returned (.bool (!decide (f ∈ m))) ∧ Below W.heap.size W W' := by
  have HC := mkHid (hasF_any a' cap' m a cap f W ht hr hF)
  clear hF
  obtain ⟨d, hd⟩ : ∃ d, decide (f ∈ m) = d := ⟨_, rfl⟩
  have HD := mkHid hd
  rw [hd]
  clear hd
  cases d with
  | false =>
    go_enter Try.func188, Try.ntmps188
    go_wp2_with fail
    refine HC.out.mono ?_; rintro e w1 ⟨rfl, hb1⟩; rw [HD.out]
    go_wp2_with fail
    go_ret
    exact ⟨rfl, hb1⟩
  | true =>
    go_enter Try.func188, Try.ntmps188
    go_wp2_with fail
    refine HC.out.mono ?_; rintro e w1 ⟨rfl, hb1⟩; rw [HD.out]
    go_wp2_with fail
    go_ret
    exact ⟨rfl, hb1⟩
end Go.Proofs.Ytmmnfkggfnokjaa
namespace Go.Proofs.Ytmmnfkggfnokjaa
open Go.RowKit

/-! ### the package's calls, whole -/
theorem fact_len {t : List Cel} (h : factB t = true) : t.length ≤ 200 := by
  obtain ⟨_, _, _, h2⟩ := right_tm (fact_right h); exact h2
theorem FR.small {l : List (List Cel)} (h : FR l) : ∀ x ∈ l, x.length ≤ 1000000 := fun x hx => Nat.le_trans (fact_len (h.all x hx)) (by decide)
theorem all_picked (l : List (List Cel)) : l.filter (fun _ => true) = l := by simp

set_option maxHeartbeats 1600000 in
set_option maxRecDepth 100000 in
theorem addF_any (a : Option Addr) (cap : Nat) (l : List (List Cel)) (a' : Option Addr) (cap' : Nat) (t : List Cel) (w : World) (hr : Row w a cap l) (ht : Row w a' cap' t) (hF : FR l) :
    Calls Try.prog 50 #[.slice a l.length cap, .slice a' t.length cap'] w fun e w' => ∃ a2 c2, e = .returned (.tuple #[.slice a2 (addF l t).length c2, .int .i64 (addE l t)]) ∧ Row w' a2 c2 (addF l t) ∧ Below w.heap.size w w' := by
  have hm := hr.max
  have hm2 := hr.le
  have hm3 := ht.max
  have hm4 := ht.le
  have h512 := hF.len
  cases hQ : factB t with
  | false =>
    have HE : Hid (addE l t = 120) := by unfold Hid addE; rw [hQ]; rfl
    have HL : Hid (addF l t = []) := by unfold Hid addF; rw [hQ]; rfl
    have HQ := mkHid hQ
    clear hQ hF
    go_enter Try.func50, Try.ntmps50
    go_wp2_with fail
    refine (fact_is ht HQ).mono ?_; rintro e w1 ⟨rfl, hb1⟩
    go_wp2_with fail
    go_ret2
    rw [HE.out, HL.out]
    exact ⟨none, 0, rfl, nilRow _, hb1⟩
  | true =>
    have htl := fact_len hQ
    have hple := pos_le t l
    have HI : Hid (t ∉ l → insF t l = l.take (posF t l) ++ t :: l.drop (posF t l)) := ins_pos hF.rise
    have HX := mkHid hF.small
    have HQ := mkHid hQ
    have HF := mkHid hF
    clear hF
    by_cases hin : t ∈ l
    · have HE : Hid (addE l t = 0) := addE_in hQ hin
      have HL : Hid (addF l t = l) := by unfold Hid addF; rw [if_pos hQ, if_pos hin]
      have HD : Hid (decide (t ∈ l) = true) := decide_eq_true hin
      clear hQ hin
      go_enter Try.func50, Try.ntmps50
      go_wp2_with fail
      refine (fact_is ht HQ).mono ?_; rintro e w1 ⟨rfl, hb1⟩
      go_wp2_with fail
      refine (place_any a cap l a' cap' t w1 (hr.below hb1) (ht.below hb1) HF.out).mono ?_; rintro e w2 ⟨rfl, hb2⟩
      rw [HD.out]
      have hr2 := (hr.below hb1).below hb2
      go_wp2_with fail
      refine (picked_any 130 #[] (fun _ => true) a cap l w2 hr2 (by omega) HX.out (fun _ _ => by kernel_rfl) (fun W i hi a1 c1 _ _ => add1_any _ W)).mono ?_
      rintro e w3 ⟨v, rfl, hacc, hb3⟩
      rw [all_picked] at hacc
      obtain ⟨a3, c3, rfl, hr3⟩ := hacc.row
      go_wp2_with fail
      go_ret2
      rw [HE.out, HL.out]
      exact ⟨a3, c3, rfl, hr3, (hb1.then hb2).then hb3⟩
    · have HD : Hid (decide (t ∈ l) = false) := decide_eq_false hin
      by_cases hfull : 512 ≤ l.length
      · have HE : Hid (addE l t = 2) := by unfold Hid addE; rw [if_pos hQ, if_neg hin, if_pos hfull]
        have HL : Hid (addF l t = []) := by unfold Hid addF; rw [if_pos hQ, if_neg hin, if_pos hfull]
        clear hQ hin
        go_enter Try.func50, Try.ntmps50
        go_wp2_with fail
        refine (fact_is ht HQ).mono ?_; rintro e w1 ⟨rfl, hb1⟩
        go_wp2_with fail
        refine (place_any a cap l a' cap' t w1 (hr.below hb1) (ht.below hb1) HF.out).mono ?_; rintro e w2 ⟨rfl, hb2⟩
        rw [HD.out]
        have hr2 := (hr.below hb1).below hb2
        go_wp2_with fail
        refine (picked_any 130 #[] (fun _ => true) a cap l w2 hr2 (by omega) HX.out (fun _ _ => by kernel_rfl) (fun W i hi a1 c1 _ _ => add1_any _ W)).mono ?_
        rintro e w3 ⟨v, rfl, hacc, hb3⟩
        go_wp2_with fail
        go_ret2
        rw [HE.out, HL.out]
        exact ⟨none, 0, rfl, nilRow _, (hb1.then hb2).then hb3⟩
      · have HE : Hid (addE l t = 0) := by unfold Hid addE; rw [if_pos hQ, if_neg hin, if_neg hfull]
        have HL : Hid (addF l t = l.take (posF t l) ++ t :: l.drop (posF t l)) := by unfold Hid addF; rw [if_pos hQ, if_neg hin, if_neg hfull]; exact HI.out hin
        have hlt : l.length < 512 := by omega
        have HN := mkHid (ins_len l t (posF t l))
        clear hQ hin
        go_enter Try.func50, Try.ntmps50
        go_wp2_with fail
        refine (fact_is ht HQ).mono ?_; rintro e w1 ⟨rfl, hb1⟩
        go_wp2_with fail
        refine (place_any a cap l a' cap' t w1 (hr.below hb1) (ht.below hb1) HF.out).mono ?_; rintro e w2 ⟨rfl, hb2⟩
        rw [HD.out]
        have hb12 := hb1.then hb2
        have hr2 := hr.below hb12
        go_wp2_with fail
        refine (picked_any 130 #[] (fun _ => true) a cap l w2 hr2 (by omega) HX.out (fun _ _ => by kernel_rfl) (fun W i hi a1 c1 _ _ => add1_any _ W)).mono ?_
        rintro e w3 ⟨v, rfl, hacc, hb3⟩
        rw [all_picked] at hacc
        have hb13 := hb12.then hb3
        have ht3 := ht.below hb13
        go_wp2_with fail
        refine (clone_new2 a' cap' w3 t ht3 (by omega)).mono ?_
        rintro e w4 ⟨a4, c4, rfl, hr4, hb4⟩
        have hacc4 := hacc.below hb4
        have hh4 := hacc.newer (Nat.le_refl _) hr4
        have hb24 := hb3.then hb4
        go_wp2_with fail
        refine (insert_any w2.heap.size v l (posF t l) t a4 c4 w4 hacc4 hple (by omega) hb24.size hh4).mono ?_
        rintro e w5 ⟨a5, c5, rfl, hr5, hb5⟩
        go_wp2_with fail
        go_ret2
        rw [HE.out, HL.out, HN.out]
        exact ⟨a5, c5, rfl, hr5, hb12.trans ((hb24.trans hb5).mono hb12.size)⟩

set_option maxHeartbeats 1600000 in
set_option maxRecDepth 100000 in
theorem dropF_any (a : Option Addr) (cap : Nat) (l : List (List Cel)) (a' : Option Addr) (cap' : Nat) (t : List Cel) (w : World) (hr : Row w a cap l) (ht : Row w a' cap' t) (hF : FR l) :
    Calls Try.prog 51 #[.slice a l.length cap, .slice a' t.length cap'] w fun e w' => ∃ a2 c2, e = .returned (.tuple #[.slice a2 (dropF l t).length c2, .int .i64 (dropE l t)]) ∧ Row w' a2 c2 (dropF l t) ∧ Below w.heap.size w w' := by
  have hm := hr.max
  have hm2 := hr.le
  have hm3 := ht.max
  have hm4 := ht.le
  have h512 := hF.len
  have hmf : ∀ (fn : Fn) (first cap : Array Value) (w : World), (Instr.makeFunc fn first cap).run Try.prog w = .ok (.func fn first cap) w := fun _ _ _ _ => rfl
  have hb0 : Below w.heap.size w (w.alloc (.cells #[.slice a' t.length cap'] 22)) := (Below.refl _ _).new _
  have k0 : (w.alloc (.cells #[.slice a' t.length cap'] 22)).cell? ⟨w.heap.size, 0, none⟩ = some (.slice a' t.length cap') := World.cell?_alloc_at _ _ _ 0 rfl
  have ht0 := ht.below hb0
  have hr0 := hr.below hb0
  cases hQ : factB t with
  | false =>
    have HE : Hid (dropE l t = 120) := by unfold Hid dropE; rw [hQ]; rfl
    have HL : Hid (dropF l t = []) := by unfold Hid dropF; rw [hQ]; rfl
    have HQ := mkHid hQ
    clear hQ hF
    go_enter Try.func51, Try.ntmps51
    go_wp2_with fail
    refine (fact_is ht0 HQ).mono ?_; rintro e w1 ⟨rfl, hb1⟩
    go_wp2_with fail
    go_ret2
    rw [HE.out, HL.out]
    exact ⟨none, 0, rfl, nilRow _, hb0.then hb1⟩
  | true =>
    have HX := mkHid hF.small
    have HQ := mkHid hQ
    have HF := mkHid hF
    clear hF
    by_cases hin : t ∈ l
    · have HE : Hid (dropE l t = 0) := dropE_ok hQ hin
      have HL : Hid (dropF l t = l.filter (fun x => !decide (x = t))) := by unfold Hid dropF; rw [if_pos hQ, if_pos hin]
      have HD : Hid (decide (t ∈ l) = true) := decide_eq_true hin
      clear hQ hin
      go_enter Try.func51, Try.ntmps51
      go_wp2_with fail
      refine (fact_is ht0 HQ).mono ?_; rintro e w1 ⟨rfl, hb1⟩
      have k1 := keep k0 hb1
      go_wp2_with fail
      refine (hasF_any a cap l a' cap' t w1 (hr0.below hb1) (ht0.below hb1) HF.out).mono ?_; rintro e w2 ⟨rfl, hb2⟩
      rw [HD.out]
      have hb12 := hb1.then hb2
      have hr2 := hr0.below hb12
      have ht2 := ht0.below hb12
      have k2 := keep k0 hb12
      go_wp2_with fail
      refine (picked_any 133 #[.pointer (some ⟨w.heap.size, 0, none⟩)] (fun x => !decide (x = t)) a cap l w2 hr2 (by omega) HX.out (fun _ _ => by kernel_rfl) (fun W i hi a1 c1 hW h1 => drop1_any w.heap.size W a1 c1 _ a' cap' t h1 (ht2.below hW) (keep k2 hW))).mono ?_
      rintro e w3 ⟨v, rfl, hacc, hb3⟩
      obtain ⟨a3, c3, rfl, hr3⟩ := hacc.row
      go_wp2_with fail
      go_ret2
      rw [HE.out, HL.out]
      exact ⟨a3, c3, rfl, hr3, (hb0.then hb12).then hb3⟩
    · have HE : Hid (dropE l t = 3) := by unfold Hid dropE; rw [if_pos hQ, if_neg hin]
      have HL : Hid (dropF l t = []) := by unfold Hid dropF; rw [if_pos hQ, if_neg hin]
      have HD : Hid (decide (t ∈ l) = false) := decide_eq_false hin
      clear hQ hin
      go_enter Try.func51, Try.ntmps51
      go_wp2_with fail
      refine (fact_is ht0 HQ).mono ?_; rintro e w1 ⟨rfl, hb1⟩
      have k1 := keep k0 hb1
      go_wp2_with fail
      refine (hasF_any a cap l a' cap' t w1 (hr0.below hb1) (ht0.below hb1) HF.out).mono ?_; rintro e w2 ⟨rfl, hb2⟩
      rw [HD.out]
      go_wp2_with fail
      go_ret2
      rw [HE.out, HL.out]
      exact ⟨none, 0, rfl, nilRow _, hb0.then (hb1.then hb2)⟩

set_option maxHeartbeats 1600000 in
set_option maxRecDepth 100000 in
theorem findF_any (a : Option Addr) (cap : Nat) (l : List (List Cel)) (a' : Option Addr) (cap' : Nat) (t : List Cel) (w : World) (hr : Row w a cap l) (ht : Row w a' cap' t) (hF : FR l) (rt : rightB t = true) :
    Calls Try.prog 57 #[.slice a l.length cap, .slice a' t.length cap'] w fun e w' => ∃ a2 c2, e = .returned (.slice a2 (l.filter (matchB t)).length c2) ∧ Row w' a2 c2 (l.filter (matchB t)) ∧ Below w.heap.size w w' := by
  have hm := hr.max
  have hm2 := hr.le
  have h512 := hF.len
  have hmf : ∀ (fn : Fn) (first cap : Array Value) (w : World), (Instr.makeFunc fn first cap).run Try.prog w = .ok (.func fn first cap) w := fun _ _ _ _ => rfl
  have hb0 : Below w.heap.size w (w.alloc (.cells #[.slice a' t.length cap'] 22)) := (Below.refl _ _).new _
  have k0 : (w.alloc (.cells #[.slice a' t.length cap'] 22)).cell? ⟨w.heap.size, 0, none⟩ = some (.slice a' t.length cap') := World.cell?_alloc_at _ _ _ 0 rfl
  have ht0 := ht.below hb0
  have hr0 := hr.below hb0
  have HX := mkHid hF.small
  have HR : Hid (∀ x ∈ l, rightB x = true) := fun x hx => fact_right (hF.all x hx)
  have RT := mkHid rt
  clear hF rt
  go_enter Try.func57, Try.ntmps57
  go_wp2_with fail
  refine (picked_any 138 #[.pointer (some ⟨w.heap.size, 0, none⟩)] (matchB t) a cap l _ hr0 (by omega) HX.out (fun _ _ => by kernel_rfl) (fun W i hi a1 c1 hW h1 => find1_any w.heap.size W a1 c1 _ a' cap' t h1 (ht0.below hW) (HR.out _ (List.getElem_mem hi)) RT.out (keep k0 hW))).mono ?_
  rintro e w3 ⟨v, rfl, hacc, hb3⟩
  obtain ⟨a3, c3, rfl, hr3⟩ := hacc.row
  go_wp2_with fail
  go_ret
  exact ⟨a3, c3, rfl, hr3, hb0.then hb3⟩

set_option maxHeartbeats 1600000 in
set_option maxRecDepth 100000 in
theorem withoutF_any (a : Option Addr) (cap : Nat) (l : List (List Cel)) (a' : Option Addr) (cap' : Nat) (m : List (List Cel)) (w : World) (hr : Row w a cap l) (ht : Row w a' cap' m) (hF : FR l) (hG : FR m) :
    Calls Try.prog 140 #[.slice a l.length cap, .slice a' m.length cap'] w fun e w' => ∃ a2 c2, e = .returned (.slice a2 (lessF l m).length c2) ∧ Row w' a2 c2 (lessF l m) ∧ Below w.heap.size w w' := by
  have hm := hr.max
  have hm2 := hr.le
  have h512 := hF.len
  have hmf : ∀ (fn : Fn) (first cap : Array Value) (w : World), (Instr.makeFunc fn first cap).run Try.prog w = .ok (.func fn first cap) w := fun _ _ _ _ => rfl
  have hb0 : Below w.heap.size w (w.alloc (.cells #[.slice a' m.length cap'] 68)) := (Below.refl _ _).new _
  have k0 : (w.alloc (.cells #[.slice a' m.length cap'] 68)).cell? ⟨w.heap.size, 0, none⟩ = some (.slice a' m.length cap') := World.cell?_alloc_at _ _ _ 0 rfl
  have ht0 := ht.below hb0
  have hr0 := hr.below hb0
  have HX := mkHid hF.small
  have HG := mkHid hG
  clear hF hG
  go_enter Try.func140, Try.ntmps140
  go_wp2_with fail
  refine (picked_any 188 #[.pointer (some ⟨w.heap.size, 0, none⟩)] (fun x => !decide (x ∈ m)) a cap l _ hr0 (by omega) HX.out (fun _ _ => by kernel_rfl) (fun W i hi a1 c1 hW h1 => without1_any w.heap.size W a1 c1 _ a' cap' m h1 (ht0.below hW) HG.out (keep k0 hW))).mono ?_
  rintro e w3 ⟨v, rfl, hacc, hb3⟩
  obtain ⟨a3, c3, rfl, hr3⟩ := hacc.row
  go_wp2_with fail
  go_ret
  exact ⟨a3, c3, rfl, hr3, hb0.then hb3⟩

set_option maxHeartbeats 1600000 in
set_option maxRecDepth 100000 in
theorem diffF_any (a : Option Addr) (cap : Nat) (l : List (List Cel)) (a' : Option Addr) (cap' : Nat) (m : List (List Cel)) (w : World) (hr : Row w a cap l) (ht : Row w a' cap' m) (hF : FR l) (hG : FR m) :
    Calls Try.prog 58 #[.slice a l.length cap, .slice a' m.length cap'] w fun e w' => ∃ a2 c2 a3 c3, e = .returned (.tuple #[.slice a2 (lessF m l).length c2, .slice a3 (lessF l m).length c3]) ∧ Row w' a2 c2 (lessF m l) ∧ Row w' a3 c3 (lessF l m) ∧ Below w.heap.size w w' := by
  have HF := mkHid hF
  have HG := mkHid hG
  clear hF hG
  go_enter Try.func58, Try.ntmps58
  go_wp2_with fail
  refine (withoutF_any a' cap' m a cap l w ht hr HG.out HF.out).mono ?_; rintro e w1 ⟨a1, c1, rfl, hr1, hb1⟩
  go_wp2_with fail
  with_reducible refine (withoutF_any a cap l a' cap' m w1 (hr.below hb1) (ht.below hb1) HF.out HG.out).mono ?_
  rintro e w2 ⟨a2, c2, rfl, hr2, hb2⟩
  go_wp2_with fail
  go_ret2
  exact ⟨a1, c1, a2, c2, rfl, hr1.below hb2, hr2, hb1.then hb2⟩
end Go.Proofs.Ytmmnfkggfnokjaa
namespace Go.Proofs.Ytmmnfkggfnokjaa
open Go.RowKit

/-! ### facts that are made of any cells -/
def gndC (c : Cel) : Cel := if c.k = 1 then ⟨2, ⟨#[]⟩, c.n⟩ else c
theorem gnd_fit {c : Cel} (h : c.fit) : (gndC c).fit := by
  unfold gndC
  split
  · exact ⟨by show (-9223372036854775808 : Int) ≤ 2; omega, by show (2 : Int) ≤ _; omega, h.n1, h.n2, by show (0 : Nat) ≤ _; omega⟩
  · exact h
theorem gnd_ok {c : Cel} (h : cellOk c = true) : cellOk (gndC c) = true ∧ ar (gndC c) = ar c := by
  unfold gndC
  split
  · next h1 =>
    constructor
    · unfold cellOk at h ⊢
      simp [h1] at h ⊢
      omega
    · unfold ar; simp [h1]
  · exact ⟨h, rfl⟩
theorem gnd_k (c : Cel) : (gndC c).k ≠ 1 := by
  unfold gndC
  split
  · simp
  · assumption
/-- a right term that begins with a name, without variables -/
theorem gnd_fact {t : Tm} (ht : t.ok) (hl : t.flat.length ≤ 200) (hf : funB t.flat = true) : (mapT gndC t).ok ∧ (mapT gndC t).flat = t.flat.map gndC ∧ (mapT gndC t).depth = t.depth ∧ (t.depth ≤ 12 → factB (t.flat.map gndC) = true) := by
  have h1 : (mapT gndC t).ok := mapT_ok gndC t ht (fun c hc => gnd_ok (ok_cells t ht c hc))
  have h2 := mapT_flat gndC t
  have h3 := mapT_depth gndC t
  refine ⟨h1, h2, h3, fun hd => ?_⟩
  rw [← h2]
  refine fact_flat h1 (by rw [h2, List.length_map]; exact hl) ?_ ?_ (by rw [h3]; exact hd)
  · cases t with
    | mk c ts =>
      have hk : c.k = 3 := by simpa [Tm.flat, funB] using hf
      show (gndC c).k = 3
      unfold gndC
      rw [if_neg (by omega)]; exact hk
  · rw [h2]
    unfold groundB
    rw [List.all_eq_true]
    intro c hc
    obtain ⟨d, _, rfl⟩ := List.mem_map.1 hc
    simp [gnd_k d]
def aL : List Cel := [⟨3, ⟨#[97]⟩, 0⟩]
theorem aL_fact : factB aL = true := by
  have h : (Tm.mk ⟨3, ⟨#[97]⟩, 0⟩ []).ok := ⟨by decide +kernel, rfl, trivial⟩
  exact fact_flat h (by simp [Tm.flat, flats]) rfl (by decide +kernel) (by simp [Tm.depth, depths])
theorem aL_row (w : World) : Row (w.alloc (.cells #[.int .i64 3, .string ⟨#[97]⟩, .int .i64 0] 79)) (some ⟨w.heap.size, 0, none⟩) 1 aL := by
  have := row_new w #[.int .i64 3, .string ⟨#[97]⟩, .int .i64 0] (79, 0) (xs := aL) (CRows.single (w := _) (x := (⟨3, ⟨#[97]⟩, 0⟩ : Cel)) ⟨rfl, aC_fit⟩) (by simp [aL])
  simpa [aL] using this

set_option maxHeartbeats 1600000 in
set_option maxRecDepth 100000 in
theorem atom3_any (a : Option Addr) (cap : Nat) (w : World) (xs : List Cel) (hx : Row w a cap xs) (most : Nat) (hm1 : 1 ≤ most) (hm2 : most ≤ 200) :
    Calls Try.prog 126 #[.slice a xs.length cap, .int .i64 most] w fun e w' => ∃ a' cap' ys, e = .returned (.slice a' ys.length cap') ∧ Row w' a' cap' ys ∧ rightB ys = true ∧ funB ys = true ∧ ys.length ≤ most ∧ Below w.heap.size w w' := by
  go_enter Try.func126, Try.ntmps126
  go_wp2_with fail
  refine (made_any a cap w xs hx most hm1 hm2).mono ?_
  rintro e w1 ⟨a1, c1, ys, rfl, hr1, hR, hl, hb1⟩
  have h0 : 0 < ys.length := by obtain ⟨t, _, hxt, _⟩ := right_tm hR; rw [hxt]; exact flat_pos t
  obtain ⟨b, off, rfl, hb, hat⟩ := hr1.cases.resolve_left (fun e => by simp [e] at h0)
  obtain ⟨c0, _, _, _⟩ := cel_at hat (Below.refl _ _) h0
  simp only [Nat.zero_mul, Nat.add_zero] at c0
  have hmx := hr1.max
  have hle := hr1.le
  have HR := mkHid hR
  clear hR
  by_cases h3 : ys[0].k = 3
  · have t3 : (ys[0].k == 3) = true := by simp [h3]
    have HF : Hid (funB ys = true) := by
      unfold Hid
      cases ys with
      | nil => simp at h0
      | cons c l => simpa [funB] using h3
    clear h3
    go_wp2_with fail
    go_ret
    exact ⟨_, c1, ys, rfl, hr1, HR.out, HF.out, hl, hb1⟩
  · have t3 : (ys[0].k == 3) = false := by simp [h3]
    clear h3
    go_wp2_with fail
    go_ret
    exact ⟨_, 1, aL, rfl, aL_row w1, fact_right aL_fact, rfl, hm1, hb1.new _⟩

theorem flat_set3 (xs : List Cel) (i : Nat) (hi : i < xs.length) (c : Cel) : (((flat xs).set (i * 3) (.int .i64 c.k)).set (i * 3 + 1) (.string c.s)).set (i * 3 + 2) (.int .i64 c.n) = flat (xs.set i c) := by
  induction xs generalizing i with
  | nil => simp at hi
  | cons d xs ih =>
    cases i with
    | zero => simp [flat]
    | succ i =>
      have := ih i (by simpa using hi)
      have hf : flat (d :: xs) = .int .i64 d.k :: .string d.s :: .int .i64 d.n :: flat xs := rfl
      rw [List.set_cons_succ, hf, show (i + 1) * 3 = i * 3 + 1 + 1 + 1 by omega]
      have hf2 : flat (d :: xs.set i c) = .int .i64 d.k :: .string d.s :: .int .i64 d.n :: flat (xs.set i c) := rfl
      rw [hf2, ← this]
      simp only [List.set_cons_succ, Nat.add_right_comm _ 1]
theorem own_store3 {w : World} {B e g n cap : Nat} {f : Cel → Cel} {xs : List Cel} {k : Nat} (h : w.ownsRow B e 3 (.slice (some ⟨g, 0, none⟩) n cap) n (flat (upTo f xs k))) (hk : k < xs.length) {c : Cel} (hf : f xs[k] = c) :
    (((w.setCell ⟨g, k * 3, none⟩ (.int .i64 c.k)).setCell ⟨g, k * 3 + 1, none⟩ (.string c.s)).setCell ⟨g, k * 3 + 2, none⟩ (.int .i64 c.n)).ownsRow B e 3 (.slice (some ⟨g, 0, none⟩) n cap) n (flat (upTo f xs (k + 1))) := by
  have h1 := (h.stored (k * 3) (.int .i64 c.k)).1
  have h2 := (h1.stored (k * 3 + 1) (.string c.s)).1
  have h3 := (h2.stored (k * 3 + 2) (.int .i64 c.n)).1
  have hl : k < (upTo f xs k).length := by rw [upTo_length]; exact hk
  rw [flat_set3 _ _ hl, ← hf, ← upTo_succ f xs hk] at h3
  rw [← hf]
  exact h3

theorem crows_cels {w : World} : ∀ {vs : List Value} {xs : List Cel}, CRows w vs xs → vs = flat xs ∧ ∀ c ∈ xs, c.fit
  | _, _, .nil => ⟨rfl, fun c h => by simp at h⟩
  | _, _, .cons hc hr => by
    obtain ⟨rfl, hf⟩ := hc
    obtain ⟨rfl, h2⟩ := crows_cels hr
    exact ⟨rfl, fun c h => by
      rcases List.mem_cons.1 h with rfl | h
      · exact hf
      · exact h2 c h⟩
theorem hide_bare {w : World} {g : Nat} {T : TypeId} {z : Nat × Nat} (h : w.heap[g]? = some (.cells #[] T z)) : Keeps w (hide (some g) w) := fun b o v hc => by
  by_cases hb : b = g
  · subst hb
    simp [World.cell?, h] at hc
  · exact hide_of_ne hb hc

set_option maxHeartbeats 3200000 in
set_option maxRecDepth 100000 in
theorem made12_any (a : Option Addr) (cap : Nat) (w : World) (xs : List Cel) (hx : Row w a cap xs) :
    Calls Try.prog 49 #[.slice a xs.length cap] w fun e w' => ∃ a' cap' ys, e = .returned (.slice a' ys.length cap') ∧ Row w' a' cap' ys ∧ factB ys = true ∧ ys.length ≤ 12 ∧ Below w.heap.size w w' := by
  have hb0 := (Below.refl w.heap.size w).new (.cells #[] 79)
  have hm0 := AccInv.made (α := Cel) (B := w.heap.size) (e := 79) (T := 79) w (Nat.le_refl _) rfl
  have hg0 : (w.alloc (.cells #[] 79)).heap[w.heap.size]? = some (.cells #[] 79 (0, 0)) := heap_alloc_new _ _
  have hx0 := hx.below hb0
  go_enter Try.func49, Try.ntmps49
  go_wp2_with fail
  refine (atom3_any a cap _ xs hx0 12 (by omega) (by omega)).mono ?_
  rintro e w1 ⟨a1, c1, ys, rfl, hr1, hR, hF, hl, hb1⟩
  have hacc1 := hm0.below hb1
  have hrh : Row (hide (some w.heap.size) w1) a1 c1 ys := hr1.keeps (hide_bare ((hb1.block _ (by simp)).trans hg0))
  have hb01 := hb0.then hb1
  have hsz1 := hb01.size
  obtain ⟨t, ht, hxt, h200⟩ := right_tm hR
  have h0 : 0 < ys.length := by rw [hxt]; exact flat_pos t
  have HG := mkHid (gnd_fact ht (by rw [← hxt]; exact h200) (by rw [← hxt]; exact hF))
  have HX := mkHid hxt
  clear hR hF hxt ht h200
  go_wp2_with (at_builtin; refine wpList_accs (α := Cel) rfl _ _ 22 rfl w.heap.size 79 32 _ Try.underlying22 Try.infoCell rfl (by decide) _ [] hacc1 (by rfl) _ _ ys hrh (by rfl) (by simp; omega) hsz1 ?_; intro v9 w9 hacc9 hb9)
  rw [List.nil_append] at hacc9
  obtain ⟨vs, hown, hcr⟩ := hacc9.ex
  obtain ⟨rfl, hfit⟩ := crows_cels hcr
  have HFIT := mkHid hfit
  have hb09 := hb01.trans (hb9.mono (Nat.le_refl _))
  clear hacc9 hcr hfit hacc1 hm0 hg0 hb9
  obtain ⟨g, cp, rfl, hg1, hg2, hg3, hg4⟩ := own_form hown h0
  go_wp2_with fail
  go_loopw [4] (fun i wr => ∃ k : Nat, k ≤ ys.length ∧ i = .int .i64 k ∧ wr.ownsRow w.heap.size 79 3 (.slice (some ⟨g, 0, none⟩) ys.length cp) ys.length (flat (upTo gndC ys k)) ∧ Below w.heap.size w wr) (fun i wr => ys.length - (intOf i).toNat)
  case atStart => exact ⟨0, Nat.zero_le _, rfl, by rw [upTo_zero]; exact hown, hb09⟩
  case round =>
    clear hown
    obtain ⟨k, hk, rfl, hown, hbl⟩ := hrel
    have hgl := (hown.lt g rfl).2
    by_cases hlt : k < ys.length
    · obtain ⟨o0, o1, o2⟩ := own_cel hown (upTo_at _ _ hlt)
      have hz0 := own_free hown (k * 3)
      have hz1 := own_free hown (k * 3 + 1)
      have hz2 := own_free hown (k * 3 + 2)
      by_cases h1 : ys[k].k = 1
      · have t1 : (ys[k].k == 1) = true := by simp [h1]
        have hs := own_store3 hown hlt (show gndC ys[k] = ⟨2, ⟨#[]⟩, ys[k].n⟩ from if_pos h1)
        have HS := mkHid hs
        have HB := mkHid (((hbl.setCell (p := ⟨g, k * 3, none⟩) hg1 (.int .i64 2)).setCell (p := ⟨g, k * 3 + 1, none⟩) hg1 (.string ⟨#[]⟩)).setCell (p := ⟨g, k * 3 + 2, none⟩) hg1 (.int .i64 ys[k].n))
        clear h1 hs
        go_wp2
        go_round
        case rel => exact ⟨k + 1, by omega, by go_num, HS.out, HB.out⟩
        case measure => simp [intOf]; omega
      · have t1 : (ys[k].k == 1) = false := by simp [h1]
        have HE := mkHid (upTo_same gndC ys hlt (if_neg h1))
        clear h1
        go_wp2
        go_round
        case rel => exact ⟨k + 1, by omega, by go_num, by rw [HE.out]; exact hown, hbl⟩
        case measure => simp [intOf]; omega
    · have hu := upTo_all gndC ys (k := k) (by omega)
      rw [hu] at hown
      have hml : (ys.map gndC).length = ys.length := by simp
      have hfm : ∀ c ∈ ys.map gndC, c.fit := fun c hc => by
        obtain ⟨c', hc', rfl⟩ := List.mem_map.1 hc
        exact gnd_fit (HFIT.out c' hc')
      obtain ⟨a2, cap2, ev, hrow⟩ := own_row (xs := ys.map gndC) (by rw [hml]; exact hown) hfm
      rw [hml] at ev
      injection ev with ev1 _ ev2
      subst ev1
      subst ev2
      obtain ⟨d, hd⟩ : ∃ d, t.depth = d := ⟨_, rfl⟩
      have hflat : (mapT gndC t).flat = ys.map gndC := by rw [HG.out.2.1, HX.out]
      have hcall := refdepth_litF (n := ys.length) hflat HG.out.1 hml.symm (by rw [hml]; omega) hrow (d := d) (by rw [HG.out.2.2.1]; exact hd)
      have HC := mkHid hcall
      have HM := mkHid hml
      have HY : Hid (d ≤ 12 → factB (ys.map gndC) = true) := fun h => by
        have := HG.out.2.2.2 (by rw [hd]; exact h)
        rwa [← HX.out] at this
      have hdn : (d : Int) ≤ 12 := by
        have h1 := depth_le t
        rw [← HX.out] at h1; omega
      clear hcall hu hml hflat hd
      go_wp2_with (go_at_call 127; refine HC.out.mono ?_; rintro e w2 ⟨rfl, hb2⟩)
      go_ret
      exact ⟨some ⟨g, 0, none⟩, cp, ys.map gndC, by rw [HM.out]; rfl, hrow.below hb2, HY.out (by omega), by rw [HM.out]; omega, hbl.then hb2⟩

set_option maxHeartbeats 1600000 in
set_option maxRecDepth 100000 in
theorem row12_any (a : Option Addr) (cap : Nat) (w : World) (l : List (List Cel)) (hr : Row w a cap l) (most : Nat) (hm : most ≤ 512) :
    Calls Try.prog 48 #[.slice a l.length cap, .int .i64 most] w fun e w' => ∃ a' cap' ys, e = .returned (.slice a' ys.length cap') ∧ Row w' a' cap' ys ∧ FR ys ∧ ys.length ≤ most ∧ Below w.heap.size w w' := by
  have hmm := hr.max
  have hm2 := hr.le
  have hb0 := (Below.refl w.heap.size w).new (.cells #[] 22)
  go_enter Try.func48, Try.ntmps48
  go_wp2_with fail
  go_loopw [5, 6] (fun v i wr => ∃ (k : Nat) (ys : List (List Cel)) (a1 : Option Addr) (c1 : Nat), k ≤ l.length ∧ k ≤ most ∧ ys.length ≤ k ∧ i = .int .i64 k ∧ v = .slice a1 ys.length c1 ∧ Row wr a1 c1 ys ∧ Below w.heap.size w wr ∧ Hid (FR ys)) (fun v i wr => l.length - (intOf i).toNat)
  case atStart => exact ⟨0, [], _, _, Nat.zero_le _, Nat.zero_le _, Nat.le_refl _, rfl, rfl, Row.empty _ _ _ (by omega) (fun _ => rfl), hb0, FR.nil⟩
  case round =>
    obtain ⟨k, ys, a1, c1, hk, hkm, hyk, rfl, rfl, hry, hbl, HF⟩ := hrel
    by_cases hlt : k < l.length ∧ k < most
    · obtain ⟨hlt, hlm⟩ := hlt
      obtain ⟨b, off, rfl, hb, hat⟩ := hr.cases.resolve_left (fun e => by simp [e] at hlt)
      obtain ⟨a2, cap2, c0, hr1⟩ := list_at hat hbl hlt
      go_wp2_with fail
      refine (made12_any a2 cap2 wr l[k] hr1).mono ?_
      rintro e w1 ⟨a3, c3, zs, rfl, hr3, hQ, hzl, hb1⟩
      have HL := mkHid (addF_le (l := ys) zs)
      have HN := mkHid (HF.out.add zs)
      clear hQ
      go_wp2_with fail
      with_reducible refine (refaddF_any a1 c1 ys a3 c3 zs w1 (hry.below hb1) hr3 HF.out).mono ?_
      rintro e w2 ⟨a4, c4, rfl, hr4, hb2⟩
      go_wp2_with fail
      go_round
      case rel => exact ⟨k + 1, addF ys zs, a4, c4, by omega, by omega, by have := HL.out; omega, by go_num, rfl, hr4, (hbl.then hb1).then hb2, HN⟩
      case measure => simp [intOf]; omega
    · by_cases hkl : k < l.length
      · have hkm2 : ¬ k < most := fun h => hlt ⟨hkl, h⟩
        clear hlt
        go_wp2_with fail
        go_ret
        exact ⟨a1, c1, ys, rfl, hry, HF.out, by omega, hbl⟩
      · clear hlt
        go_wp2_with fail
        go_ret
        exact ⟨a1, c1, ys, rfl, hry, HF.out, by omega, hbl⟩
end Go.Proofs.Ytmmnfkggfnokjaa
namespace Go.Proofs.Ytmmnfkggfnokjaa
open Go.RowKit

/-! ### the head's terms -/
set_option maxHeartbeats 1600000 in
theorem p12_any (nm : ByteArray) (hs : nm.size ≤ 1000) (a : Option Addr) (cap : Nat) (w : World) (l : List Cel) (hr : Row w a cap l) (hl : l.length ≤ 1000) :
    Calls Try.prog 61 #[.string nm, .slice a l.length cap] w fun e w' => ∃ a' cap', e = .returned (.slice a' (l.length + 1) cap') ∧ Row w' a' cap' (⟨3, nm, l.length⟩ :: l) ∧ Below w.heap.size w w' := by
  have hm := hr.max
  have hle := hr.le
  have hcf : (⟨3, nm, l.length⟩ : Cel).fit := ⟨by simp, by simp, by show (-9223372036854775808 : Int) ≤ l.length; omega, by show (l.length : Int) ≤ 9223372036854775807; omega, by show nm.size ≤ _; omega⟩
  have hb0 := (Below.refl w.heap.size w).new (.cells #[.int .i64 3, .string nm, .int .i64 l.length] 79)
  have hown0 : (w.alloc (.cells #[.int .i64 3, .string nm, .int .i64 l.length] 79)).ownsRow w.heap.size 79 3 (.slice (some ⟨w.heap.size, 0, none⟩) 1 1) 1 (flat [⟨3, nm, l.length⟩]) := by
    have := World.ownsRow_lit (base := w.heap.size) (e := 79) (size := 3) w #[.int .i64 3, .string nm, .int .i64 l.length] 1 (Nat.le_refl _) (by unfold maxLen; omega) rfl
    simpa [flat] using this
  go_enter Try.func61, Try.ntmps61
  go_wp2_with (at_builtin; refine wpList_app rfl _ _ 22 rfl w.heap.size 79 3 32 _ Try.underlying22 Try.infoCell rfl (by decide) (by decide) _ _ _ rfl hown0 a l.length cap (flat l) rfl (hr.below hb0).src (by omega) hb0.size ?_; intro v3 w3 hown3 _ hb3)
  rw [← flat_append] at hown3
  obtain ⟨a2, cap2, rfl, hrow⟩ := own_row (xs := [⟨3, nm, l.length⟩] ++ l) (by rw [List.length_append, List.length_singleton]; exact hown3) (fun c hc => by
    rcases List.mem_append.1 hc with h | h
    · rw [List.mem_singleton] at h; rw [h]; exact hcf
    · exact hr.fit c h)
  go_wp2
  go_ret
  exact ⟨a2, cap2, by rw [List.length_append, Nat.add_comm]; rfl, hrow, hb0.trans hb3⟩
def cA : Cel := ⟨3, ⟨#[97]⟩, 0⟩
def cB : Cel := ⟨3, ⟨#[98]⟩, 0⟩
def cV : Cel := ⟨1, ⟨#[]⟩, 0⟩
def pA : List Cel := [⟨3, ⟨#[112]⟩, 1⟩, cA]
def pB : List Cel := [⟨3, ⟨#[112]⟩, 1⟩, cB]
def pV : List Cel := [⟨3, ⟨#[112]⟩, 1⟩, cV]
def qAA : List Cel := [⟨3, ⟨#[113]⟩, 2⟩, cA, cA]
def qAB : List Cel := [⟨3, ⟨#[113]⟩, 2⟩, cA, cB]
def qVV : List Cel := [⟨3, ⟨#[113]⟩, 2⟩, cV, cV]
def nO : List Cel := [⟨2, ⟨#[]⟩, 0⟩]
def l12 : List (List Cel) := [pA, pB, qAA]
theorem small_fact {n : ByteArray} {k : Int} {xs : List Cel} {ts : List Tm} (e : (Tm.mk ⟨3, n, k⟩ ts).flat = xs) (h : (Tm.mk ⟨3, n, k⟩ ts).ok) (hl : xs.length ≤ 200) (hg : groundB xs = true) (hd : (Tm.mk ⟨3, n, k⟩ ts).depth ≤ 12) : factB xs = true := by
  subst e; exact fact_flat h hl rfl hg hd
def tA : Tm := .mk cA []
def tB : Tm := .mk cB []
theorem pA_fact : factB pA = true := small_fact (n := ⟨#[112]⟩) (k := 1) (ts := [tA]) (by simp [Tm.flat, flats, tA, pA]) ⟨by decide +kernel, rfl, ⟨by decide +kernel, rfl, trivial⟩, trivial⟩ (by decide) (by decide +kernel) (by simp [Tm.depth, depths, tA])
theorem pB_fact : factB pB = true := small_fact (n := ⟨#[112]⟩) (k := 1) (ts := [tB]) (by simp [Tm.flat, flats, tB, pB]) ⟨by decide +kernel, rfl, ⟨by decide +kernel, rfl, trivial⟩, trivial⟩ (by decide) (by decide +kernel) (by simp [Tm.depth, depths, tB])
theorem qAA_fact : factB qAA = true := small_fact (n := ⟨#[113]⟩) (k := 2) (ts := [tA, tA]) (by simp [Tm.flat, flats, tA, qAA]) ⟨by decide +kernel, rfl, ⟨by decide +kernel, rfl, trivial⟩, ⟨by decide +kernel, rfl, trivial⟩, trivial⟩ (by decide) (by decide +kernel) (by simp [Tm.depth, depths, tA])
theorem qAB_fact : factB qAB = true := small_fact (n := ⟨#[113]⟩) (k := 2) (ts := [tA, tB]) (by simp [Tm.flat, flats, tA, tB, qAB]) ⟨by decide +kernel, rfl, ⟨by decide +kernel, rfl, trivial⟩, ⟨by decide +kernel, rfl, trivial⟩, trivial⟩ (by decide) (by decide +kernel) (by simp [Tm.depth, depths, tA, tB])
theorem pV_no : factB pV = false := by unfold factB; rw [show groundB pV = false by decide +kernel]; simp
theorem nO_no : factB nO = false := by unfold factB; rw [show funB nO = false by decide +kernel]; simp
theorem nil_no : factB [] = false := by unfold factB; rw [show rightB [] = false by decide +kernel]; simp
theorem l12_fr : FR l12 := ⟨by decide, fun x hx => by
  simp [l12] at hx
  rcases hx with rfl | rfl | rfl
  · exact pA_fact
  · exact pB_fact
  · exact qAA_fact, by
  simp only [l12, List.pairwise_cons, List.mem_cons, List.not_mem_nil, or_false, forall_eq_or_imp, forall_eq, false_imp_iff, implies_true, and_true, List.Pairwise.nil]
  decide +kernel⟩
theorem k12_add : addF (l12.drop 1) pA = l12 := by
  unfold addF; rw [pA_fact]; decide +kernel
theorem k12_addE : addE (l12.drop 1) pA = 0 := by
  unfold addE; rw [pA_fact]; decide +kernel
theorem k12_addV : addE [] pV = 120 := by unfold addE; rw [pV_no]; rfl
theorem k12_addVl : addF [] pV = [] := by unfold addF; rw [pV_no]; rfl
theorem k12_drop : dropF l12 pB = [pA, qAA] := by
  unfold dropF; rw [pB_fact]; decide +kernel
theorem k12_dropE : dropE l12 pB = 0 := by
  unfold dropE; rw [pB_fact]; decide +kernel
theorem k12_dropq : dropE l12 qAB = 3 := by
  unfold dropE; rw [qAB_fact]; decide +kernel
theorem k12_dropql : dropF l12 qAB = [] := by
  unfold dropF; rw [qAB_fact]; decide +kernel
theorem k12_dropn : dropE l12 nO = 120 := by unfold dropE; rw [nO_no]; rfl
theorem k12_dropnl : dropF l12 nO = [] := by unfold dropF; rw [nO_no]; rfl
theorem k12_addq : addF l12 qAA = l12 := by
  unfold addF; rw [qAA_fact]; decide +kernel
theorem k12_addqE : addE l12 qAA = 0 := by
  unfold addE; rw [qAA_fact]; decide +kernel
theorem k12_came : lessF (l12.drop 1) (l12.take 2) = [qAA] := by decide +kernel
theorem k12_went : lessF (l12.take 2) (l12.drop 1) = [pA] := by decide +kernel
theorem k12_right : frightB l12 = true := fright_iff.2 l12_fr
theorem k12_turn : frightB [pB, pA] = false := fright_no fun h => absurd (List.pairwise_cons.1 h.rise).1 (by simp; decide +kernel)
theorem k12_same : frightB [pA, pA] = false := fright_no fun h => absurd (List.pairwise_cons.1 h.rise).1 (by simp; decide +kernel)
theorem k12_findp : l12.filter (matchB pV) = l12.take 2 := by decide +kernel
theorem k12_findq : l12.filter (matchB qVV) = l12.drop 2 := by decide +kernel
section
variable {w : World} {a a' : Option Addr} {c c' n k : Nat} {l : List (List Cel)} {t : List Cel}
theorem add_is {m : List (List Cel)} {E : Int} {j : Nat} (hn : n = l.length) (hr : Row w a c l) (hk : k = t.length) (ht : Row w a' c' t) (hF : FR l) (hm : addF l t = m) (hE : addE l t = E) (hj : j = m.length) :
    Calls Try.prog 50 #[.slice a n c, .slice a' k c'] w fun e w' => ∃ a2 c2, e = .returned (.tuple #[.slice a2 j c2, .int .i64 E]) ∧ Row w' a2 c2 m ∧ Below w.heap.size w w' := by
  subst hn; subst hk; subst hm; subst hE; subst hj
  exact addF_any a c l a' c' t w hr ht hF
theorem drop_is {m : List (List Cel)} {E : Int} {j : Nat} (hn : n = l.length) (hr : Row w a c l) (hk : k = t.length) (ht : Row w a' c' t) (hF : FR l) (hm : dropF l t = m) (hE : dropE l t = E) (hj : j = m.length) :
    Calls Try.prog 51 #[.slice a n c, .slice a' k c'] w fun e w' => ∃ a2 c2, e = .returned (.tuple #[.slice a2 j c2, .int .i64 E]) ∧ Row w' a2 c2 m ∧ Below w.heap.size w w' := by
  subst hn; subst hk; subst hm; subst hE; subst hj
  exact dropF_any a c l a' c' t w hr ht hF
theorem find_is {m : List (List Cel)} {j : Nat} (hn : n = l.length) (hr : Row w a c l) (hk : k = t.length) (ht : Row w a' c' t) (hF : FR l) (rt : rightB t = true) (hm : l.filter (matchB t) = m) (hj : j = m.length) :
    Calls Try.prog 57 #[.slice a n c, .slice a' k c'] w fun e w' => ∃ a2 c2, e = .returned (.slice a2 j c2) ∧ Row w' a2 c2 m ∧ Below w.heap.size w w' := by
  subst hn; subst hk; subst hm; subst hj
  exact findF_any a c l a' c' t w hr ht hF rt
theorem diff_is {m x y : List (List Cel)} {i j : Nat} (hn : n = l.length) (hr : Row w a c l) (hk : k = m.length) (ht : Row w a' c' m) (hF : FR l) (hG : FR m) (hx : lessF m l = x) (hy : lessF l m = y) (hi : i = x.length) (hj : j = y.length) :
    Calls Try.prog 58 #[.slice a n c, .slice a' k c'] w fun e w' => ∃ a2 c2 a3 c3, e = .returned (.tuple #[.slice a2 i c2, .slice a3 j c3]) ∧ Row w' a2 c2 x ∧ Row w' a3 c3 y ∧ Below w.heap.size w w' := by
  subst hn; subst hk; subst hx; subst hy; subst hi; subst hj
  exact diffF_any a c l a' c' m w hr ht hF hG
theorem frightL_is {b : Bool} (hn : n = l.length) (hr : Row w a c l) (hb : frightB l = b) :
    Calls Try.prog 52 #[.slice a n c] w fun e w' => e = .returned (.bool b) ∧ Below w.heap.size w w' := by
  subst hn; subst hb; exact fright_any a c w l hr
theorem factL_is {b : Bool} (hk : k = t.length) (ht : Row w a' c' t) (hb : factB t = b) :
    Calls Try.prog 59 #[.slice a' k c'] w fun e w' => e = .returned (.bool b) ∧ Below w.heap.size w w' := by
  subst hk; subst hb; exact fact_any a' c' w t ht
theorem hasL_is {b : Bool} (hn : n = l.length) (hr : Row w a c l) (hk : k = t.length) (ht : Row w a' c' t) (hF : FR l) (hb : decide (t ∈ l) = b) :
    Calls Try.prog 54 #[.slice a n c, .slice a' k c'] w fun e w' => e = .returned (.bool b) ∧ Below w.heap.size w w' := by
  subst hn; subst hk; subst hb; exact hasF_any a c l a' c' t w hr ht hF
theorem same12_is {m : List (List Cel)} {b : Bool} (hn : n = l.length) (hr : Row w a c l) (hk : k = m.length) (ht : Row w a' c' m) (hb : decide (l = m) = b) :
    Calls Try.prog 56 #[.slice a n c, .slice a' k c'] w fun e w' => e = .returned (.bool b) ∧ Below w.heap.size w w' := by
  subst hn; subst hk; subst hb; exact refsame12_any a c a' c' w l m hr ht
theorem p12_is {nm : ByteArray} {cl : Cel} {j : Nat} (hs : nm.size ≤ 1000) (hk : k = t.length) (ht : Row w a' c' t) (hl : t.length ≤ 1000) (hc : (⟨3, nm, t.length⟩ : Cel) = cl) (hj : j = t.length + 1) :
    Calls Try.prog 61 #[.string nm, .slice a' k c'] w fun e w' => ∃ a2 c2, e = .returned (.slice a2 j c2) ∧ Row w' a2 c2 (cl :: t) ∧ Below w.heap.size w w' := by
  subst hk; subst hc; subst hj; exact p12_any nm hs a' c' w t ht hl
end
end Go.Proofs.Ytmmnfkggfnokjaa
