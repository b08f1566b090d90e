import Derived.Test.YtlddglajdcednaaZt1
namespace Go.Proofs.Ytlddglajdcednaa
open Go.RowKit

/-! ### the term of a class -/
theorem least_fit {l : List Cel} (hf : ∀ c ∈ l, c.fit) (W : Nat → Nat) (c : Nat) : ∀ n, -9223372036854775808 ≤ leastUp l W c n ∧ leastUp l W c n ≤ 1000
  | 0 => by unfold leastUp; omega
  | n + 1 => by
    have ih := least_fit hf W c n
    unfold leastUp
    cases e : l[n]? with
    | none => exact ih
    | some x =>
      simp only
      split
      · have hx := hf x (List.mem_of_getElem? e)
        have := hx.n1
        omega
      · exact ih
theorem crows_cel {w w' : World} {vs : List Value} {xs : List Cel} (h : CRows w vs xs) : CRows w' vs xs := by
  induction h with
  | nil => exact .nil
  | cons hc _ ih => exact .cons hc ih
/-- the equation of the classes' terms -/
structure TermsEq (l : List Cel) (W : Nat → Nat) (T : Nat → List Cel) : Prop where
  var : ∀ x, x < l.length → doesF l W (W x) l.length = none → T x = [varC (leastUp l W (W x) l.length)]
  cell : ∀ x, x < l.length → ∀ z (hz : z < l.length), doesF l W (W x) l.length = some z → T x = l[z] :: (argsL l z).flatMap T
theorem TermsEq.pos {l : List Cel} {W : Nat → Nat} {T : Nat → List Cel} (h : TermsEq l W T) {x : Nat} (hx : x < l.length) : 0 < (T x).length := by
  cases e : doesF l W (W x) l.length with
  | none => rw [h.var x hx e]; simp
  | some z => rw [h.cell x hx z (does_some e).1 e]; simp
def wholeB (T : Nat → List Cel) (z : Nat) : Bool := decide ((T z).length ≤ 200)
def wholeP (T : Nat → List Cel) (z : Nat) : List Cel := if (T z).length ≤ 200 then T z else []
theorem natI_append (a b : List Nat) : natI (a ++ b) = natI a ++ natI b := by unfold natI; rw [List.map_append]

set_option maxRecDepth 100000 in
set_option maxHeartbeats 16000000 in
theorem whole3_any (a : Option Addr) (cap : Nat) (a' : Option Addr) (cap' : Nat) (w : World) (l : List Cel) (W : Nat → Nat) (T : Nat → List Cel) (hx : Row w a cap l) (hc : Row w a' cap' (clsI l.length W)) (hG : Good l) (hl : l.length ≤ 1000) (hT : TermsEq l W T) {z : Nat} (hz : z < l.length) :
    Calls Try.prog 48 #[.slice a l.length cap, .slice a' l.length cap', .int .i64 z] w fun e w' => ∃ a2 c2, e = .returned (.tuple #[.slice a2 (wholeP T z).length c2, .bool (wholeB T z)]) ∧ NewRow w.heap.size w' a2 c2 (wholeP T z) ∧ Below w.heap.size w w' := by
  have hm := hx.max
  have hle := hx.le
  have hmc := hc.max
  have hlc := hc.le
  rw [clsI_length] at hlc
  have HF := mkHid hx.fit
  have HX := mkHid hx
  have HC := mkHid hc
  have HG := mkHid hG
  have HT := mkHid hT
  have HA0 : Hid (AccInv w.heap.size 42 ([] : List Cel) (.slice (some ⟨w.heap.size, 0, none⟩) 0 0) ((w.alloc (.cells #[] 42)).alloc (.cells #[.int .i64 z] 3))) := (AccInv.made (α := Cel) w (Nat.le_refl _) rfl).below ((Below.refl _ _).new _)
  have hb0 := ((Below.refl w.heap.size w).new (.cells #[] 42)).new (.cells #[.int .i64 z] 3)
  have HR0 : Hid (Row (hide (Value.slice (some ⟨w.heap.size, 0, none⟩) 0 0).ownBlock ((w.alloc (.cells #[] 42)).alloc (.cells #[.int .i64 z] 3))) (some ⟨w.heap.size + 1, 0, none⟩) 1 (natI [z])) := by
    have h := World.ownsRow_lit (base := (w.alloc (.cells #[] 42)).heap.size) (e := 3) (size := 1) (w.alloc (.cells #[] 42)) #[.int .i64 z] 1 (Nat.le_refl _) (by unfold maxLen; omega) rfl
    obtain ⟨a2, c2, e, hr⟩ := (AccInv.ownI (xs := [(z : Int)]) ⟨_, h, CRows.single (show RepC.C _ [.int .i64 (z : Int)] (z : Int) from ⟨rfl, by omega, by omega⟩)⟩).row
    rw [World.size_alloc] at e
    cases e
    exact hr.hide fun g hg => by
      have hg : w.heap.size = g := Option.some.inj hg
      rw [World.size_alloc]; omega
  have HE0 : Hid (([] : List Cel) ++ [z].flatMap T = T z) := by rw [Hid]; simp
  clear hx hc hG hT
  go_enter Try.func48, Try.ntmps48
  go_wp2_with fail
  go_loopg [8, 9, 10, 11, 12] 201 (fun kk v8 v9 x1 x2 x3 wr => ∃ (out : List Cel) (todo : List Nat) (a9 : Option Addr) (c9 : Nat), v9 = .slice a9 todo.length c9 ∧ Hid (AccInv w.heap.size 42 out v8 wr) ∧ Hid (Row (hide v8.ownBlock wr) a9 c9 (natI todo)) ∧ Hid (out ++ todo.flatMap T = T z) ∧ Hid (∀ x ∈ todo, x < l.length) ∧ out.length ≤ 200 ∧ todo.length ≤ 6 * out.length + 1 ∧ kk + out.length = 201 ∧ Below w.heap.size w wr)
  case atStart => exact ⟨[], [z], _, _, rfl, HA0, HR0, HE0, fun x hx => by rw [List.mem_singleton.1 hx]; exact hz, by simp, by simp, by simp, hb0⟩
  case round =>
    clear HA0 HR0 HE0 hb0
    obtain ⟨out, todo, a9, c9, rfl, HA, HR, HE, HM, ho, htd, hkk, hbl⟩ := hrel
    obtain ⟨a8, c8, rfl, hr8⟩ := HA.out.row
    have HR8 := mkHid hr8
    clear hr8
    cases todo with
    | nil =>
      have he := HE.out
      rw [List.flatMap_nil, List.append_nil] at he
      have HP : Hid (wholeP T z = out) := by rw [Hid]; unfold wholeP; rw [← he, if_pos ho]
      have HB : Hid (wholeB T z = true) := by rw [Hid]; unfold wholeB; rw [← he]; exact decide_eq_true ho
      have hnew : Hid (NewRow w.heap.size wr a8 c8 out) := by
        obtain ⟨vs, hown, hcr⟩ := HA.out.ex
        obtain ⟨a5, c5, e5, hr5⟩ := own_newG hown (crows_cel hcr)
        cases e5
        exact hr5
      clear he
      go_wp2_with fail
      go_ret2
      rw [HP.out, HB.out]
      exact ⟨_, _, rfl, hnew.out, hbl⟩
    | cons x todo =>
      have hxl := HM.out x List.mem_cons_self
      by_cases h200 : out.length = 200
      · have hbig : 200 < (T z).length := by
          rw [← HE.out, List.length_append, List.flatMap_cons, List.length_append]
          have := HT.out.pos hxl
          omega
        have HP : Hid (wholeP T z = []) := by rw [Hid]; unfold wholeP; rw [if_neg (by omega)]
        have HB : Hid (wholeB T z = false) := by rw [Hid]; unfold wholeB; exact decide_eq_false (by omega)
        have t18 : decide (((x :: todo).length : Int) > 0) = true := decide_eq_true (by simp)
        have t21 : decide ((out.length : Int) ≥ 200) = true := decide_eq_true (by omega)
        clear hbig
        go_wp2_with fail
        go_ret2
        rw [HP.out, HB.out]
        exact ⟨none, 0, rfl, NewRow.empty _ _ _ _ (by omega) (fun _ => rfl), hbl⟩
      · have t21 : decide ((out.length : Int) ≥ 200) = false := decide_eq_false (by omega)
        have t18 : decide (((x :: todo).length : Int) > 0) = true := decide_eq_true (by simp)
        obtain ⟨b9, o9, rfl, _, hat9⟩ := HR.out.cases.resolve_left (fun e => by unfold natI at e; simp at e)
        have e0 : wr.cell? ⟨b9, o9, none⟩ = some (.int .i64 (x : Int)) := by
          have h := (int_at hat9 (Below.refl _ _) (k := 0) (by rw [natI_length]; simp)).c
          rw [Nat.add_zero] at h
          exact hide_keeps _ _ _ _ _ h
        have hsl := HR.out.slice (i := 1) (j := (natI (x :: todo)).length) (by rw [natI_length]; simp) (Nat.le_refl _)
        have hdr : ((natI (x :: todo)).drop 1).take ((natI (x :: todo)).length - 1) = natI todo := by
          unfold natI; simp; exact List.take_of_length_le (by simp)
        rw [hdr] at hsl
        have HSL := mkHid hsl
        have htl : ((x :: todo).length : Int) - 1 = (todo.length : Int) := by simp
        have hc9 := HR.out.le
        rw [natI_length, List.length_cons] at hc9
        have hmx := HR.out.max
        obtain ⟨cd, hcd⟩ : ∃ cd, c9 - 1 = cd := ⟨_, rfl⟩
        have hc9' : c9 = cd + 1 := by omega
        subst hc9'
        rw [hcd] at HSL
        have HMT : Hid (∀ y ∈ todo, y < l.length) := fun y hy => HM.out y (List.mem_cons_of_mem _ hy)
        have hx0 : (0 : Int) ≤ (x : Int) := by omega
        have hx1 : (x : Int) < (l.length : Int) := by omega
        have hl1 : (1 : Int) ≤ ((x :: todo).length : Int) := by rw [List.length_cons]; omega
        have hlt : (todo.length : Int) ≤ (cd : Int) := by omega
        clear hsl hdr hat9 hc9 hcd
        cases cd with
        | zero =>
          have htn : todo = [] := List.eq_nil_of_length_eq_zero (by omega)
          have HSLZ : Hid (Row (hide (Value.slice a8 out.length c8).ownBlock wr) (some ⟨b9, o9, none⟩) 0 (natI todo)) := by
            rw [htn]; exact Row.empty _ _ _ (by omega) (fun e => by cases e)
          clear HSL htn
          have HSL := HSLZ
          clear HSLZ
          go_wp2_with fail
          refine (does3_any a cap a' cap' _ l W (HX.out.below hbl) (HC.out.below hbl) hl hxl).mono ?_
          rintro e w2 ⟨rfl, hb2⟩
          have hbl2 := hbl.then hb2
          have HA2 := mkHid (HA.out.below hb2)
          have HSL2 := mkHid (HSL.out.keeps (below_hide hb2 _))
          clear e0 HR HR8
          cases hdo : doesF l W (W x) l.length with
          | none =>
            have hdi : doesI l W (W x) = -1 := by unfold doesI; rw [hdo]
            rw [hdi]
            have HTX := mkHid (HT.out.var x hxl hdo)
            obtain ⟨f1, f2⟩ := least_fit HF.out W (W x) l.length
            clear hdi hdo
            go_wp2_with fail
            refine (least3_any a cap a' cap' _ l W (HX.out.below hbl2) (HC.out.below hbl2) hl hxl).mono ?_
            rintro e w3 ⟨rfl, hb3⟩
            obtain ⟨n, hn⟩ : ∃ n, leastUp l W (W x) l.length = n := ⟨_, rfl⟩
            rw [hn] at f1 f2 HTX ⊢
            have hbl3 := hbl2.then hb3
            have HA3 := mkHid (HA2.out.below hb3)
            have HSL3 := mkHid (HSL2.out.keeps (below_hide hb3 _))
            have hs3 := hbl3.size
            clear hn
            go_wp2_with (at_builtin; refine wpList_accK (α := Cel) rfl _ _ 22 rfl w.heap.size 42 32 _ Try.underlying22 Try.infoCell rfl (by decide) _ out HA3.out rfl _ #[.int .i64 1, .string ⟨#[]⟩, .int .i64 n] (varC n) ⟨rfl, ⟨by show _ ≤ (1 : Int); omega, by show (1 : Int) ≤ _; omega, f1, by show n ≤ _; omega, by show (0 : Nat) ≤ _; omega⟩⟩ rfl (by omega) hs3 ?_; intro v' w4 hacc4 hb4 hk4)
            have hbl4 := hbl3.trans hb4
            have HA4 := mkHid hacc4
            have HSL4 := mkHid (HSL3.out.keeps hk4)
            have HEE : Hid ((out ++ [varC n]) ++ todo.flatMap T = T z) := by
              have h := HE.out
              rw [List.flatMap_cons, HTX.out] at h
              rw [Hid, List.append_assoc]; exact h
            clear hacc4 hk4 hb4
            go_roundg (gk - 1)
            case measure => omega
            case rel => exact ⟨out ++ [varC n], todo, _, _, rfl, HA4, HSL4, HEE, HMT, by simp; omega, by simp at htd ⊢; omega, by simp; omega, hbl4⟩
          | some y =>
            have hyl := (does_some hdo).1
            have hdi : doesI l W (W x) = (y : Int) := by unfold doesI; rw [hdo]
            rw [hdi]
            have HTX := mkHid (HT.out.cell x hxl y hyl hdo)
            obtain ⟨b, off, rfl, _, hat⟩ := HX.out.cases.resolve_left (fun e => by simp [e] at hyl)
            obtain ⟨c0, c1, c2, hcf⟩ := cel_at hat hbl2 hyl
            have HCF := mkHid hcf
            have hs2 := hbl2.size
            have hy0 : (0 : Int) ≤ (y : Int) := by omega
            have hy1 : (y : Int) < (l.length : Int) := by omega
            have t32 : decide ((y : Int) < 0) = false := decide_eq_false (by omega)
            have hm6 : (argsL l y).length ≤ 6 := by
              rw [args_length l hyl]; exact ar_le _ (good_cell HG.out hyl).1
            have HAM : Hid (∀ q ∈ argsL l y, q < l.length) := fun q hq => by
              obtain ⟨_, _, _, h⟩ := args_mem HG.out hyl hq; exact h
            clear hdi hdo hat hcf
            go_wp2_with (at_builtin; refine wpList_accK (α := Cel) rfl _ _ 22 rfl w.heap.size 42 32 _ Try.underlying22 Try.infoCell rfl (by decide) _ out HA2.out rfl _ #[.int .i64 l[y].k, .string l[y].s, .int .i64 l[y].n] l[y] ⟨rfl, HCF.out⟩ rfl (by omega) hs2 ?_; intro v' w4 hacc4 hb4 hk4)
            have hbl4 := hbl2.trans hb4
            have HA4 := mkHid hacc4
            have HSL4 := mkHid (HSL2.out.keeps hk4)
            clear hacc4 hk4 hb4 c0 c1 c2
            go_wp2_with fail
            refine (parts3_any _ cap _ l (HX.out.below hbl4) HG.out hyl hl).mono ?_
            rintro e w5 ⟨v5, rfl, ha5, hb5⟩
            have hbl5 := hbl4.then hb5
            have HA5 := mkHid ha5
            have hro : Row (hide v5.ownBlock w5) (some ⟨b9, o9, none⟩) 0 (natI todo) := (HSL4.out.keeps (hide_keeps _ _)).keeps (ha5.fresh hb5)
            have HRO := mkHid hro
            have hs5 := hb5.size
            have hmx6 : (natI (argsL l y)).length + (natI todo).length ≤ 1000000000 := by rw [natI_length, natI_length]; simp at htd; omega
            have htl2 : (natI todo).length = todo.length := natI_length _
            have HTL := mkHid htl2
            clear hro ha5 htl2
            rw [← HTL.out]
            go_wp2_with (at_builtin; refine wpList_accs (α := Int) rfl _ _ 36 rfl w4.heap.size 3 8 _ Try.underlying36 Try.infoInt rfl (by decide) _ (natI (argsL l y)) HA5.out (by rfl) _ _ (natI todo) HRO.out (by rfl) hmx6 hs5 ?_; intro v6 w6 hacc6 hb6)
            have hb46 := hb5.trans hb6
            have hbl6 := hbl4.then hb46
            have HA6 := mkHid (HA4.out.below hb46)
            obtain ⟨a6, c6, rfl, hnew6⟩ := (AccInv.ownI hacc6).row
            have hrow6 := HA4.out.newer (Nat.le_refl _) hnew6
            rw [← natI_append] at hrow6
            have hln : (natI (argsL l y) ++ natI todo).length = (argsL l y ++ todo).length := by rw [← natI_append, natI_length]
            rw [hln]
            have HR6 := mkHid hrow6
            have HEE : Hid ((out ++ [l[y]]) ++ (argsL l y ++ todo).flatMap T = T z) := by
              have h := HE.out
              rw [List.flatMap_cons, HTX.out] at h
              rw [Hid, List.append_assoc, List.flatMap_append]
              simpa using h
            have HMM : Hid (∀ q ∈ argsL l y ++ todo, q < l.length) := fun q hq => by
              rcases List.mem_append.1 hq with h | h
              · exact HAM.out q h
              · exact HMT.out q h
            clear hacc6 hb6 hnew6 hrow6 hln
            go_wp2_with fail
            go_roundg (gk - 1)
            case measure => omega
            case rel => exact ⟨out ++ [l[y]], argsL l y ++ todo, _, _, rfl, HA6, HR6, HEE, HMM, by simp; omega, by simp at htd ⊢; omega, by simp; omega, hbl6⟩
        | succ cd =>
          go_wp2_with fail
          refine (does3_any a cap a' cap' _ l W (HX.out.below hbl) (HC.out.below hbl) hl hxl).mono ?_
          rintro e w2 ⟨rfl, hb2⟩
          have hbl2 := hbl.then hb2
          have HA2 := mkHid (HA.out.below hb2)
          have HSL2 := mkHid (HSL.out.keeps (below_hide hb2 _))
          clear e0 HR HR8
          cases hdo : doesF l W (W x) l.length with
          | none =>
            have hdi : doesI l W (W x) = -1 := by unfold doesI; rw [hdo]
            rw [hdi]
            have HTX := mkHid (HT.out.var x hxl hdo)
            obtain ⟨f1, f2⟩ := least_fit HF.out W (W x) l.length
            clear hdi hdo
            go_wp2_with fail
            refine (least3_any a cap a' cap' _ l W (HX.out.below hbl2) (HC.out.below hbl2) hl hxl).mono ?_
            rintro e w3 ⟨rfl, hb3⟩
            obtain ⟨n, hn⟩ : ∃ n, leastUp l W (W x) l.length = n := ⟨_, rfl⟩
            rw [hn] at f1 f2 HTX ⊢
            have hbl3 := hbl2.then hb3
            have HA3 := mkHid (HA2.out.below hb3)
            have HSL3 := mkHid (HSL2.out.keeps (below_hide hb3 _))
            have hs3 := hbl3.size
            clear hn
            go_wp2_with (at_builtin; refine wpList_accK (α := Cel) rfl _ _ 22 rfl w.heap.size 42 32 _ Try.underlying22 Try.infoCell rfl (by decide) _ out HA3.out rfl _ #[.int .i64 1, .string ⟨#[]⟩, .int .i64 n] (varC n) ⟨rfl, ⟨by show _ ≤ (1 : Int); omega, by show (1 : Int) ≤ _; omega, f1, by show n ≤ _; omega, by show (0 : Nat) ≤ _; omega⟩⟩ rfl (by omega) hs3 ?_; intro v' w4 hacc4 hb4 hk4)
            have hbl4 := hbl3.trans hb4
            have HA4 := mkHid hacc4
            have HSL4 := mkHid (HSL3.out.keeps hk4)
            have HEE : Hid ((out ++ [varC n]) ++ todo.flatMap T = T z) := by
              have h := HE.out
              rw [List.flatMap_cons, HTX.out] at h
              rw [Hid, List.append_assoc]; exact h
            clear hacc4 hk4 hb4
            go_roundg (gk - 1)
            case measure => omega
            case rel => exact ⟨out ++ [varC n], todo, _, _, rfl, HA4, HSL4, HEE, HMT, by simp; omega, by simp at htd ⊢; omega, by simp; omega, hbl4⟩
          | some y =>
            have hyl := (does_some hdo).1
            have hdi : doesI l W (W x) = (y : Int) := by unfold doesI; rw [hdo]
            rw [hdi]
            have HTX := mkHid (HT.out.cell x hxl y hyl hdo)
            obtain ⟨b, off, rfl, _, hat⟩ := HX.out.cases.resolve_left (fun e => by simp [e] at hyl)
            obtain ⟨c0, c1, c2, hcf⟩ := cel_at hat hbl2 hyl
            have HCF := mkHid hcf
            have hs2 := hbl2.size
            have hy0 : (0 : Int) ≤ (y : Int) := by omega
            have hy1 : (y : Int) < (l.length : Int) := by omega
            have t32 : decide ((y : Int) < 0) = false := decide_eq_false (by omega)
            have hm6 : (argsL l y).length ≤ 6 := by
              rw [args_length l hyl]; exact ar_le _ (good_cell HG.out hyl).1
            have HAM : Hid (∀ q ∈ argsL l y, q < l.length) := fun q hq => by
              obtain ⟨_, _, _, h⟩ := args_mem HG.out hyl hq; exact h
            clear hdi hdo hat hcf
            go_wp2_with (at_builtin; refine wpList_accK (α := Cel) rfl _ _ 22 rfl w.heap.size 42 32 _ Try.underlying22 Try.infoCell rfl (by decide) _ out HA2.out rfl _ #[.int .i64 l[y].k, .string l[y].s, .int .i64 l[y].n] l[y] ⟨rfl, HCF.out⟩ rfl (by omega) hs2 ?_; intro v' w4 hacc4 hb4 hk4)
            have hbl4 := hbl2.trans hb4
            have HA4 := mkHid hacc4
            have HSL4 := mkHid (HSL2.out.keeps hk4)
            clear hacc4 hk4 hb4 c0 c1 c2
            go_wp2_with fail
            refine (parts3_any _ cap _ l (HX.out.below hbl4) HG.out hyl hl).mono ?_
            rintro e w5 ⟨v5, rfl, ha5, hb5⟩
            have hbl5 := hbl4.then hb5
            have HA5 := mkHid ha5
            have hro : Row (hide v5.ownBlock w5) (some ⟨b9, o9 + 1, none⟩) (cd + 1) (natI todo) := (HSL4.out.keeps (hide_keeps _ _)).keeps (ha5.fresh hb5)
            have HRO := mkHid hro
            have hs5 := hb5.size
            have hmx6 : (natI (argsL l y)).length + (natI todo).length ≤ 1000000000 := by rw [natI_length, natI_length]; simp at htd; omega
            have htl2 : (natI todo).length = todo.length := natI_length _
            have HTL := mkHid htl2
            clear hro ha5 htl2
            rw [← HTL.out]
            go_wp2_with (at_builtin; refine wpList_accs (α := Int) rfl _ _ 36 rfl w4.heap.size 3 8 _ Try.underlying36 Try.infoInt rfl (by decide) _ (natI (argsL l y)) HA5.out (by rfl) _ _ (natI todo) HRO.out (by rfl) hmx6 hs5 ?_; intro v6 w6 hacc6 hb6)
            have hb46 := hb5.trans hb6
            have hbl6 := hbl4.then hb46
            have HA6 := mkHid (HA4.out.below hb46)
            obtain ⟨a6, c6, rfl, hnew6⟩ := (AccInv.ownI hacc6).row
            have hrow6 := HA4.out.newer (Nat.le_refl _) hnew6
            rw [← natI_append] at hrow6
            have hln : (natI (argsL l y) ++ natI todo).length = (argsL l y ++ todo).length := by rw [← natI_append, natI_length]
            rw [hln]
            have HR6 := mkHid hrow6
            have HEE : Hid ((out ++ [l[y]]) ++ (argsL l y ++ todo).flatMap T = T z) := by
              have h := HE.out
              rw [List.flatMap_cons, HTX.out] at h
              rw [Hid, List.append_assoc, List.flatMap_append]
              simpa using h
            have HMM : Hid (∀ q ∈ argsL l y ++ todo, q < l.length) := fun q hq => by
              rcases List.mem_append.1 hq with h | h
              · exact HAM.out q h
              · exact HMT.out q h
            clear hacc6 hb6 hnew6 hrow6 hln
            go_wp2_with fail
            go_roundg (gk - 1)
            case measure => omega
            case rel => exact ⟨out ++ [l[y]], argsL l y ++ todo, _, _, rfl, HA6, HR6, HEE, HMM, by simp; omega, by simp at htd ⊢; omega, by simp; omega, hbl6⟩
end Go.Proofs.Ytlddglajdcednaa
namespace Go.Proofs.Ytlddglajdcednaa
open Go.RowKit

/-! ### variables, rising -/
theorem rise_unique : ∀ xs ys : List Int, xs.Pairwise (· < ·) → ys.Pairwise (· < ·) → (∀ v, v ∈ xs ↔ v ∈ ys) → xs = ys
  | [], [], _, _, _ => rfl
  | [], y :: ys, _, _, h => absurd ((h y).2 List.mem_cons_self) (by simp)
  | x :: xs, [], _, _, h => absurd ((h x).1 List.mem_cons_self) (by simp)
  | x :: xs, y :: ys, hx, hy, h => by
    obtain ⟨x1, x2⟩ := List.pairwise_cons.1 hx
    obtain ⟨y1, y2⟩ := List.pairwise_cons.1 hy
    have e : x = y := by
      rcases List.mem_cons.1 ((h x).1 List.mem_cons_self) with e | e
      · exact e
      · rcases List.mem_cons.1 ((h y).2 List.mem_cons_self) with e' | e'
        · exact e'.symm
        · have := y1 x e; have := x1 y e'; omega
    subst e
    rw [rise_unique xs ys x2 y2 fun v => ?_]
    constructor
    · intro hv
      rcases List.mem_cons.1 ((h v).1 (List.mem_cons_of_mem _ hv)) with e | e
      · have := x1 v hv; omega
      · exact e
    · intro hv
      rcases List.mem_cons.1 ((h v).2 (List.mem_cons_of_mem _ hv)) with e | e
      · have := y1 v hv; omega
      · exact e
structure RiseInv (l : List Cel) (i : Nat) (out : List Int) : Prop where
  up : out.Pairwise (· < ·)
  mem : ∀ v, v ∈ out ↔ ∃ c ∈ l.take i, c.k = 1 ∧ c.n = v
theorem RiseInv.start (l : List Cel) : RiseInv l 0 [] := ⟨List.Pairwise.nil, by simp⟩
theorem RiseInv.skip {l : List Cel} {i : Nat} {out : List Int} (h : RiseInv l i out) (hi : i < l.length) (hn : l[i].k = 1 → l[i].n ∈ out) : RiseInv l (i + 1) out := by
  refine ⟨h.up, fun v => ?_⟩
  rw [h.mem, List.take_succ_eq_append_getElem hi]
  constructor
  · rintro ⟨c, hc, h1⟩
    exact ⟨c, List.mem_append.2 (.inl hc), h1⟩
  · rintro ⟨c, hc, h1, h2⟩
    rcases List.mem_append.1 hc with hc | hc
    · exact ⟨c, hc, h1, h2⟩
    · rw [List.mem_singleton.1 hc] at h1 h2
      have := hn h1
      rw [h2] at this
      exact (h.mem v).1 this
theorem RiseInv.put {l : List Cel} {i p : Nat} {out : List Int} (h : RiseInv l i out) (hi : i < l.length) (hv : l[i].k = 1) (hp : p ≤ out.length) (hlo : ∀ j (hj : j < out.length), j < p → out[j] < l[i].n) (hhi : ∀ (hp' : p < out.length), l[i].n < out[p]) : RiseInv l (i + 1) (out.take p ++ [l[i].n] ++ out.drop p) := by
  have e : out = out.take p ++ out.drop p := (List.take_append_drop p out).symm
  have hup := h.up
  rw [e] at hup
  obtain ⟨u1, u2, u3⟩ := List.pairwise_append.1 hup
  have lo : ∀ v ∈ out.take p, v < l[i].n := fun v hv => by
    obtain ⟨j, hj, rfl⟩ := List.getElem_of_mem hv
    rw [List.length_take] at hj
    rw [List.getElem_take]
    exact hlo j (by omega) (by omega)
  have hi' : ∀ v ∈ out.drop p, l[i].n < v := fun v hv => by
    by_cases hpl : p < out.length
    · rw [List.drop_eq_getElem_cons hpl] at hv u2
      have h1 := hhi hpl
      rcases List.mem_cons.1 hv with rfl | hv
      · exact h1
      · have := (List.pairwise_cons.1 u2).1 v hv; omega
    · rw [List.drop_of_length_le (by omega)] at hv; cases hv
  refine ⟨?_, fun v => ?_⟩
  · rw [List.append_assoc]
    refine List.pairwise_append.2 ⟨u1, ?_, fun x hx y hy => ?_⟩
    · rw [List.singleton_append]; exact List.pairwise_cons.2 ⟨hi', u2⟩
    · have h1 := lo x hx
      rw [List.singleton_append] at hy
      rcases List.mem_cons.1 hy with rfl | hy
      · exact h1
      · have := hi' y hy; omega
  · have e2 : v ∈ out ↔ v ∈ out.take p ∨ v ∈ out.drop p := by
      conv => lhs; rw [e]
      exact List.mem_append
    have hm : v ∈ out.take p ++ [l[i].n] ++ out.drop p ↔ v ∈ out ∨ v = l[i].n := by
      rw [e2]
      simp only [List.mem_append, List.mem_singleton]
      constructor
      · rintro ((h | h) | h)
        · exact .inl (.inl h)
        · exact .inr h
        · exact .inl (.inr h)
      · rintro ((h | h) | h)
        · exact .inl (.inl h)
        · exact .inr h
        · exact .inl (.inr h)
    rw [hm, h.mem, List.take_succ_eq_append_getElem hi]
    constructor
    · rintro (⟨c, hc, h1⟩ | rfl)
      · exact ⟨c, List.mem_append.2 (.inl hc), h1⟩
      · exact ⟨l[i], List.mem_append.2 (.inr (List.mem_singleton.2 rfl)), hv, rfl⟩
    · rintro ⟨c, hc, h1, h2⟩
      rcases List.mem_append.1 hc with hc | hc
      · exact .inl ⟨c, hc, h1, h2⟩
      · rw [List.mem_singleton.1 hc] at h2; exact .inr h2.symm
theorem RiseInv.done {l : List Cel} {i : Nat} {out : List Int} (h : RiseInv l i out) (hi : l.length ≤ i) : out = riseI (varsL l) := by
  refine rise_unique _ _ h.up (rise_up _) fun v => ?_
  rw [h.mem, List.take_of_length_le hi]
  constructor
  · rintro ⟨c, hc, h1, rfl⟩; exact rise_vars hc h1
  · intro hv
    exact varsL_iff.1 (riseI_mem hv)

set_option maxRecDepth 100000 in
set_option maxHeartbeats 16000000 in
theorem rising3_any (a : Option Addr) (cap : Nat) (w : World) (l : List Cel) (hx : Row w a cap l) (hl : l.length ≤ 1000) :
    Calls Try.prog 45 #[.slice a l.length cap] w fun e w' => ∃ a2 c2, e = .returned (.slice a2 (riseI (varsL l)).length c2) ∧ NewRow w.heap.size w' a2 c2 (riseI (varsL l)) ∧ Below w.heap.size w w' := by
  have hm := hx.max
  have hle := hx.le
  have HX := mkHid hx
  have hb0 := (Below.refl w.heap.size w).new (.cells #[] 3)
  have HN0 : Hid (NewRow w.heap.size (w.alloc (.cells #[] 3)) (some ⟨w.heap.size, 0, none⟩) 0 ([] : List Int)) := NewRow.empty _ _ _ _ (by omega) (fun e => by cases e)
  clear hx
  go_enter Try.func45, Try.ntmps45
  go_wp2_with fail
  go_loopw [3, 4, 5, 6] (fun v3 iv x1 x2 wr => ∃ (i : Nat) (out : List Int) (g3 c3 : Nat), i ≤ l.length ∧ out.length ≤ i ∧ iv = .int .i64 i ∧ v3 = .slice (some ⟨g3, 0, none⟩) out.length c3 ∧ Below w.heap.size w wr ∧ Hid (NewRow w.heap.size wr (some ⟨g3, 0, none⟩) c3 out) ∧ Hid (RiseInv l i out)) (fun v3 iv x1 x2 wr => l.length - (intOf iv).toNat)
  case atStart => exact ⟨0, [], w.heap.size, 0, Nat.zero_le _, Nat.le_refl _, rfl, rfl, hb0, HN0, RiseInv.start l⟩
  case round =>
    clear HN0 hb0
    obtain ⟨i, out, g3, c3, hi, hoi, rfl, rfl, hbl, HN, HI⟩ := hrel
    have hnl := HN.out.row.le
    have hnm := HN.out.row.max
    by_cases hlt : i < l.length
    · obtain ⟨b, off, rfl, _, hat⟩ := HX.out.cases.resolve_left (fun e => by simp [e] at hlt)
      have HAT := mkHid hat
      have hi0 : (0 : Int) ≤ (i : Int) := by omega
      have hi1 : (i : Int) < (l.length : Int) := by omega
      clear hat
      go_wp2_with fail
      go_loopw [5] (fun pv wq => ∃ p : Nat, p ≤ out.length ∧ pv = .int .i64 p ∧ Hid (∀ j (hj : j < out.length), j < p → out[j] < l[i].n) ∧ Below wr.heap.size wr wq) (fun pv wq => out.length - (intOf pv).toNat)
      case atStart => exact ⟨0, Nat.zero_le _, rfl, fun j _ hj => by omega, Below.refl _ _⟩
      case round =>
        obtain ⟨p, hp, rfl, HL, hbq0⟩ := hrel
        have hbq := hbl.then hbq0
        have HNq := mkHid (HN.out.below hbq0)
        have HN2 := fun w'' h => mkHid (HNq.out.below (w' := w'') h)
        obtain ⟨c0, c1, c2, hcf⟩ := cel_at HAT.out hbq hlt
        have hp0 : (0 : Int) ≤ (p : Int) := by omega
        by_cases hpl : p < out.length
        · have e0 : wr.cell? ⟨g3, p, none⟩ = some (.int .i64 out[p]) := by
            obtain ⟨b2, o2, e2, _, hat2⟩ := HNq.out.row.cases.resolve_left (fun e => by simp [e] at hpl)
            cases e2
            have h := (int_at hat2 (Below.refl _ _) hpl).c
            rwa [Nat.zero_add] at h
          have hp1 : (p : Int) < (out.length : Int) := by omega
          have t17 : decide ((p : Int) < (out.length : Int)) = true := decide_eq_true hp1
          by_cases hcmp : out[p] < l[i].n
          · have t28 : decide (out[p] < l[i].n) = true := decide_eq_true hcmp
            have HLN : Hid (∀ j (hj : j < out.length), j < p + 1 → out[j] < l[i].n) := fun j hj hjp => by
              by_cases e : j = p
              · subst e; exact hcmp
              · exact HL.out j hj (by omega)
            clear hcmp HL c0 c1 HN2
            go_wp2
            go_quiet (fail)
            go_wp2
            go_round
            case rel => exact ⟨p + 1, by omega, by go_num, HLN, ⟨hbq0.os, hbq0.tape, hbq0.output, hbq0.size, hbq0.block⟩⟩
            case measure => simp [intOf]; omega
          · have t28 : decide (out[p] < l[i].n) = false := decide_eq_false hcmp
            by_cases hv : l[i].k = 1
            · have t37 : (l[i].k != 1) = false := by simp [hv]
              by_cases heq : out[p] = l[i].n
              · have t53 : (out[p] == l[i].n) = true := by simp [heq]
                have HI2 := mkHid (HI.out.skip hlt fun _ => by rw [← heq]; exact List.getElem_mem hpl)
                clear hcmp heq hv HL HI c1
                go_wp2
                go_quiet (fail)
                go_wp2
                go_quiet (fail)
                go_wp2
                go_round
                case rel => exact ⟨i + 1, out, g3, c3, by omega, by omega, by go_num, rfl, ⟨hbq.os, hbq.tape, hbq.output, hbq.size, hbq.block⟩, HN2 _ ⟨rfl, rfl, rfl, Nat.le_refl _, fun _ _ => rfl⟩, HI2⟩
                case measure => simp [intOf]; omega
              · have t53 : (out[p] == l[i].n) = false := by simp [heq]
                have HI2 := mkHid (HI.out.put hlt hv hp HL.out fun _ => by omega)
                clear hcmp heq hv HL HI c1
                have hnf := And.intro hcf.n1 hcf.n2
                have hp1' : (p : Int) ≤ (out.length : Int) := by omega
                have hp2' : (p : Int) ≤ (c3 : Int) := by omega
                have hl2' : (out.length : Int) ≤ (c3 : Int) := by omega
                have HROW := mkHid HNq.out.row
                have HACC : Hid (∀ k, AccInv wr.heap.size 3 ([] : List Int) (.slice (some ⟨wr.heap.size, 0, none⟩) 0 0) ((wr.drewN k).alloc (.cells #[] 3))) := fun k => AccInv.made (wr.drewN k) (Nat.le_refl _) rfl
                have HBK : Hid (∀ k, Below wr.heap.size wr ((wr.drewN k).alloc (.cells #[] 3))) := fun k => (show Below wr.heap.size wr (wr.drewN k) from ⟨rfl, rfl, rfl, Nat.le_refl _, fun _ _ => rfl⟩).new _
                have HTK : Hid ((out.take p).length = p) := by rw [Hid, List.length_take]; omega
                have HDL : Hid ((out.drop p).length = out.length - p) := by rw [Hid, List.length_drop]
                have HDL0 : Hid (out.length ≤ p → (out.drop p).length = 0) := fun h => by rw [List.length_drop]; omega
                have HRT : Hid (∀ k, Row (hide (Value.slice (some ⟨wr.heap.size, 0, none⟩) 0 0).ownBlock ((wr.drewN k).alloc (.cells #[] 3))) (some ⟨g3, 0, none⟩) c3 (out.take p)) := fun k => by
                  have h := HROW.out.slice (i := 0) (j := p) (Nat.zero_le _) hp
                  simp only [Nat.zero_mul, Nat.add_zero, Nat.sub_zero, List.drop_zero] at h
                  exact h.keeps ((HACC.out k).fresh (HBK.out k))
                have HNF := mkHid hnf
                clear hcf HN2 hnf
                by_cases hcp : c3 = p
                · exfalso; omega
                · have hcp' : (p : Int) < (c3 : Int) := by omega
                  have HDR : Hid (∀ W', Below wr.heap.size wr W' → Row W' (some ⟨g3, p, none⟩) (c3 - p) (out.drop p)) := fun W' h => by
                    have h2 := (HROW.out.slice (i := p) (j := out.length) hp (Nat.le_refl _)).below h
                    have e : (out.drop p).take (out.length - p) = out.drop p := List.take_of_length_le (by rw [List.length_drop]; omega)
                    rw [e] at h2
                    have e2 : 0 + p * Rep.sz Int = p := by show 0 + p * 1 = p; omega
                    rw [e2] at h2
                    exact h2
                  go_wp2
                  go_quiet (fail)
                  go_wp2
                  go_quiet (fail)
                  go_wp2_with (first
                    | (at_builtin; generalize hX : World.alloc (World.drewN wr _) (Obj.cells #[] 3) = X; have hax := hX ▸ HACC.out _; have hrx := hX ▸ HRT.out _; have hbx := hX ▸ HBK.out _; clear hX; have hsx := hbx.size; have hll : ([] : List Int).length + (out.take p).length ≤ 1000000000 := (by rw [HTK.out]; simp; omega); refine wpList_accs (α := Int) rfl _ _ 36 rfl wr.heap.size 3 8 _ Try.underlying36 Try.infoInt rfl (by decide) _ [] hax (by rfl) _ _ (out.take p) hrx (by rw [HTK.out]; rfl) hll hsx ?_; intro v5 w5 hacc5 hb5; rw [List.nil_append] at hacc5; have HA5 := mkHid hacc5; clear hacc5; have hw5 : Below wr.heap.size wr w5 := hbx.trans hb5; have c2' := keep c2 hw5; have hs5 := hw5.size; clear c0 c2 hax hrx hll hsx)
                    | (at_builtin; refine wpList_acc (α := Int) rfl _ _ 36 rfl wr.heap.size 3 8 _ Try.underlying36 Try.infoInt rfl (by decide) _ (out.take p) HA5.out rfl _ #[.int .i64 l[i].n] l[i].n ⟨rfl, HNF.out⟩ rfl (by rw [HTK.out]; omega) hs5 ?_; intro v6 w6 hacc6 hb6; have HA6 := mkHid hacc6; clear hacc6; have hw6 : Below wr.heap.size wr w6 := hw5.trans hb6; have hs6 := hw6.size; have HR6 := mkHid (((HDR.out wr (Below.refl _ _)).keeps (HA6.out.fresh hw6)));  clear c2')
                    | (at_builtin; refine wpList_accs (α := Int) rfl _ _ 36 rfl wr.heap.size 3 8 _ Try.underlying36 Try.infoInt rfl (by decide) _ (out.take p ++ [l[i].n]) HA6.out (by rfl) _ _ (out.drop p) HR6.out (by first | rfl | (rw [HDL.out]; rfl) | (rw [HDL0.out (by omega)]; rfl)) (by rw [List.length_append, HTK.out, HDL.out]; simp; omega) hs6 ?_; intro v7 w7 hacc7 hb7))
                  have hw7 : Below wr.heap.size wr w7 := hw6.trans hb7
                  have hin := HI2.out.up
                  have hln : (out.take p ++ [l[i].n] ++ out.drop p).length = out.length + 1 := by
                    rw [List.length_append, List.length_append, HTK.out, HDL.out]; simp; omega
                  obtain ⟨a7, c7, e7, hnew7⟩ := (AccInv.ownI hacc7).row
                  obtain ⟨g7, rfl⟩ : ∃ g7, a7 = some ⟨g7, 0, none⟩ := by
                    obtain ⟨vs, hown, _⟩ := hacc7.ex
                    obtain ⟨g, cp, e8, _⟩ := own_form hown (by rw [hln]; omega)
                    rw [e7] at e8
                    injection e8 with e8
                    exact ⟨g, e8⟩
                  subst e7
                  have HN7 := mkHid (hnew7.mono hbq.size)
                  clear hacc7 hnew7 hin hb7
                  go_round
                  case rel => exact ⟨i + 1, _, g7, c7, by omega, by rw [hln]; omega, by go_num, rfl, hbq.then hw7, HN7, HI2⟩
                  case measure => simp [intOf]; omega
            · have t37 : (l[i].k != 1) = true := by simp [hv]
              have HI2 := mkHid (HI.out.skip hlt fun h => absurd h hv)
              clear hcmp hv HL HI c1
              go_wp2
              go_quiet (fail)
              go_wp2
              go_quiet (fail)
              go_wp2
              go_round
              case rel => exact ⟨i + 1, out, g3, c3, by omega, by omega, by go_num, rfl, ⟨hbq.os, hbq.tape, hbq.output, hbq.size, hbq.block⟩, HN2 _ ⟨rfl, rfl, rfl, Nat.le_refl _, fun _ _ => rfl⟩, HI2⟩
              case measure => simp [intOf]; omega
        · have t17 : decide ((p : Int) < (out.length : Int)) = false := decide_eq_false (by omega)
          by_cases hv : l[i].k = 1
          · have t37 : (l[i].k != 1) = false := by simp [hv]
            have HI2 := mkHid (HI.out.put hlt hv hp HL.out fun h => absurd h hpl)
            clear hv HL HI c1
            have hnf := And.intro hcf.n1 hcf.n2
            have hp1' : (p : Int) ≤ (out.length : Int) := by omega
            have hp2' : (p : Int) ≤ (c3 : Int) := by omega
            have hl2' : (out.length : Int) ≤ (c3 : Int) := by omega
            have HROW := mkHid HNq.out.row
            have HACC : Hid (∀ k, AccInv wr.heap.size 3 ([] : List Int) (.slice (some ⟨wr.heap.size, 0, none⟩) 0 0) ((wr.drewN k).alloc (.cells #[] 3))) := fun k => AccInv.made (wr.drewN k) (Nat.le_refl _) rfl
            have HBK : Hid (∀ k, Below wr.heap.size wr ((wr.drewN k).alloc (.cells #[] 3))) := fun k => (show Below wr.heap.size wr (wr.drewN k) from ⟨rfl, rfl, rfl, Nat.le_refl _, fun _ _ => rfl⟩).new _
            have HTK : Hid ((out.take p).length = p) := by rw [Hid, List.length_take]; omega
            have HDL : Hid ((out.drop p).length = out.length - p) := by rw [Hid, List.length_drop]
            have HDL0 : Hid (out.length ≤ p → (out.drop p).length = 0) := fun h => by rw [List.length_drop]; omega
            have HRT : Hid (∀ k, Row (hide (Value.slice (some ⟨wr.heap.size, 0, none⟩) 0 0).ownBlock ((wr.drewN k).alloc (.cells #[] 3))) (some ⟨g3, 0, none⟩) c3 (out.take p)) := fun k => by
              have h := HROW.out.slice (i := 0) (j := p) (Nat.zero_le _) hp
              simp only [Nat.zero_mul, Nat.add_zero, Nat.sub_zero, List.drop_zero] at h
              exact h.keeps ((HACC.out k).fresh (HBK.out k))
            have HNF := mkHid hnf
            clear hcf HN2 hnf
            by_cases hcp : c3 = p
            · by_cases hpl' : p < out.length
              · exfalso; omega
              have hpo : out.length = p := by omega
              have HDR : Hid (∀ W', Below wr.heap.size wr W' → Row W' (some ⟨g3, 0, none⟩) 0 (out.drop p)) := fun W' _ => by
                rw [List.drop_of_length_le (by omega)]; exact Row.empty _ _ _ (by omega) (fun e => by cases e)
              have hcq := hcp.symm
              clear hcp
              subst hcq
              clear hpo
              go_wp2
              go_quiet (fail)
              go_wp2
              go_quiet (fail)
              go_wp2_with (first
                | (at_builtin; generalize hX : World.alloc (World.drewN wr _) (Obj.cells #[] 3) = X; have hax := hX ▸ HACC.out _; have hrx := hX ▸ HRT.out _; have hbx := hX ▸ HBK.out _; clear hX; have hsx := hbx.size; have hll : ([] : List Int).length + (out.take p).length ≤ 1000000000 := (by rw [HTK.out]; simp; omega); refine wpList_accs (α := Int) rfl _ _ 36 rfl wr.heap.size 3 8 _ Try.underlying36 Try.infoInt rfl (by decide) _ [] hax (by rfl) _ _ (out.take p) hrx (by rw [HTK.out]; rfl) hll hsx ?_; intro v5 w5 hacc5 hb5; rw [List.nil_append] at hacc5; have HA5 := mkHid hacc5; clear hacc5; have hw5 : Below wr.heap.size wr w5 := hbx.trans hb5; have c2' := keep c2 hw5; have hs5 := hw5.size; clear c0 c2 hax hrx hll hsx)
                | (at_builtin; refine wpList_acc (α := Int) rfl _ _ 36 rfl wr.heap.size 3 8 _ Try.underlying36 Try.infoInt rfl (by decide) _ (out.take p) HA5.out rfl _ #[.int .i64 l[i].n] l[i].n ⟨rfl, HNF.out⟩ rfl (by rw [HTK.out]; omega) hs5 ?_; intro v6 w6 hacc6 hb6; have HA6 := mkHid hacc6; clear hacc6; have hw6 : Below wr.heap.size wr w6 := hw5.trans hb6; have hs6 := hw6.size; have HR6 := mkHid (((HDR.out wr (Below.refl _ _)).keeps (HA6.out.fresh hw6)));  clear c2')
                | (at_builtin; refine wpList_accs (α := Int) rfl _ _ 36 rfl wr.heap.size 3 8 _ Try.underlying36 Try.infoInt rfl (by decide) _ (out.take p ++ [l[i].n]) HA6.out (by rfl) _ _ (out.drop p) HR6.out (by first | rfl | (rw [HDL.out]; rfl) | (rw [HDL0.out (by omega)]; rfl)) (by rw [List.length_append, HTK.out, HDL.out]; simp; omega) hs6 ?_; intro v7 w7 hacc7 hb7))
              have hw7 : Below wr.heap.size wr w7 := hw6.trans hb7
              have hin := HI2.out.up
              have hln : (out.take p ++ [l[i].n] ++ out.drop p).length = out.length + 1 := by
                rw [List.length_append, List.length_append, HTK.out, HDL.out]; simp; omega
              obtain ⟨a7, c7, e7, hnew7⟩ := (AccInv.ownI hacc7).row
              obtain ⟨g7, rfl⟩ : ∃ g7, a7 = some ⟨g7, 0, none⟩ := by
                obtain ⟨vs, hown, _⟩ := hacc7.ex
                obtain ⟨g, cp, e8, _⟩ := own_form hown (by rw [hln]; omega)
                rw [e7] at e8
                injection e8 with e8
                exact ⟨g, e8⟩
              subst e7
              have HN7 := mkHid (hnew7.mono hbq.size)
              clear hacc7 hnew7 hin hb7
              go_round
              case rel => exact ⟨i + 1, _, g7, c7, by omega, by rw [hln]; omega, by go_num, rfl, hbq.then hw7, HN7, HI2⟩
              case measure => simp [intOf]; omega
            · have hcp' : (p : Int) < (c3 : Int) := by omega
              have HDR : Hid (∀ W', Below wr.heap.size wr W' → Row W' (some ⟨g3, p, none⟩) (c3 - p) (out.drop p)) := fun W' h => by
                have h2 := (HROW.out.slice (i := p) (j := out.length) hp (Nat.le_refl _)).below h
                have e : (out.drop p).take (out.length - p) = out.drop p := List.take_of_length_le (by rw [List.length_drop]; omega)
                rw [e] at h2
                have e2 : 0 + p * Rep.sz Int = p := by show 0 + p * 1 = p; omega
                rw [e2] at h2
                exact h2
              go_wp2
              go_quiet (fail)
              go_wp2
              go_quiet (fail)
              go_wp2_with (first
                | (at_builtin; generalize hX : World.alloc (World.drewN wr _) (Obj.cells #[] 3) = X; have hax := hX ▸ HACC.out _; have hrx := hX ▸ HRT.out _; have hbx := hX ▸ HBK.out _; clear hX; have hsx := hbx.size; have hll : ([] : List Int).length + (out.take p).length ≤ 1000000000 := (by rw [HTK.out]; simp; omega); refine wpList_accs (α := Int) rfl _ _ 36 rfl wr.heap.size 3 8 _ Try.underlying36 Try.infoInt rfl (by decide) _ [] hax (by rfl) _ _ (out.take p) hrx (by rw [HTK.out]; rfl) hll hsx ?_; intro v5 w5 hacc5 hb5; rw [List.nil_append] at hacc5; have HA5 := mkHid hacc5; clear hacc5; have hw5 : Below wr.heap.size wr w5 := hbx.trans hb5; have c2' := keep c2 hw5; have hs5 := hw5.size; clear c0 c2 hax hrx hll hsx)
                | (at_builtin; refine wpList_acc (α := Int) rfl _ _ 36 rfl wr.heap.size 3 8 _ Try.underlying36 Try.infoInt rfl (by decide) _ (out.take p) HA5.out rfl _ #[.int .i64 l[i].n] l[i].n ⟨rfl, HNF.out⟩ rfl (by rw [HTK.out]; omega) hs5 ?_; intro v6 w6 hacc6 hb6; have HA6 := mkHid hacc6; clear hacc6; have hw6 : Below wr.heap.size wr w6 := hw5.trans hb6; have hs6 := hw6.size; have HR6 := mkHid (((HDR.out wr (Below.refl _ _)).keeps (HA6.out.fresh hw6)));  clear c2')
                | (at_builtin; refine wpList_accs (α := Int) rfl _ _ 36 rfl wr.heap.size 3 8 _ Try.underlying36 Try.infoInt rfl (by decide) _ (out.take p ++ [l[i].n]) HA6.out (by rfl) _ _ (out.drop p) HR6.out (by first | rfl | (rw [HDL.out]; rfl) | (rw [HDL0.out (by omega)]; rfl)) (by rw [List.length_append, HTK.out, HDL.out]; simp; omega) hs6 ?_; intro v7 w7 hacc7 hb7))
              have hw7 : Below wr.heap.size wr w7 := hw6.trans hb7
              have hin := HI2.out.up
              have hln : (out.take p ++ [l[i].n] ++ out.drop p).length = out.length + 1 := by
                rw [List.length_append, List.length_append, HTK.out, HDL.out]; simp; omega
              obtain ⟨a7, c7, e7, hnew7⟩ := (AccInv.ownI hacc7).row
              obtain ⟨g7, rfl⟩ : ∃ g7, a7 = some ⟨g7, 0, none⟩ := by
                obtain ⟨vs, hown, _⟩ := hacc7.ex
                obtain ⟨g, cp, e8, _⟩ := own_form hown (by rw [hln]; omega)
                rw [e7] at e8
                injection e8 with e8
                exact ⟨g, e8⟩
              subst e7
              have HN7 := mkHid (hnew7.mono hbq.size)
              clear hacc7 hnew7 hin hb7
              go_round
              case rel => exact ⟨i + 1, _, g7, c7, by omega, by rw [hln]; omega, by go_num, rfl, hbq.then hw7, HN7, HI2⟩
              case measure => simp [intOf]; omega
          · have t37 : (l[i].k != 1) = true := by simp [hv]
            have HI2 := mkHid (HI.out.skip hlt fun h => absurd h hv)
            clear hv HL HI c1
            go_wp2
            go_quiet (fail)
            go_wp2
            go_quiet (fail)
            go_wp2
            go_round
            case rel => exact ⟨i + 1, out, g3, c3, by omega, by omega, by go_num, rfl, ⟨hbq.os, hbq.tape, hbq.output, hbq.size, hbq.block⟩, HN2 _ ⟨rfl, rfl, rfl, Nat.le_refl _, fun _ _ => rfl⟩, HI2⟩
            case measure => simp [intOf]; omega
    · have HE := mkHid (HI.out.done (by omega))
      clear HI
      go_wp2
      go_ret
      rw [← HE.out]
      exact ⟨_, _, rfl, HN.out, hbl⟩
end Go.Proofs.Ytlddglajdcednaa
namespace Go.Proofs.Ytlddglajdcednaa
open Go.RowKit

/-! ### what a variable is bound to -/
theorem look_cons_yes {s : List Bnd} {b : Bnd} {n : Int} (h : b.v = n) : look (b :: s) n = some b.t := by
  unfold look
  rw [List.find?_cons_of_pos (by simp [h])]; rfl
theorem look_none {s : List Bnd} {n : Int} (h : ∀ b ∈ s, b.v ≠ n) : look s n = none := by
  unfold look
  rw [List.find?_eq_none.2 (fun b hb => by simp [h b hb])]; rfl
theorem look_hit {s : List Bnd} {n : Int} {k : Nat} (hk : k < s.length) (hlo : ∀ b ∈ s.take k, b.v ≠ n) (h : s[k].v = n) : look s n = some s[k].t := by
  have e : s = s.take k ++ s[k] :: s.drop (k + 1) := by rw [List.getElem_cons_drop, List.take_append_drop]
  have e2 : look (s.take k ++ s[k] :: s.drop (k + 1)) n = some s[k].t := by
    rw [look_append, look_none hlo, look_cons_yes h]; rfl
  rw [← e] at e2
  exact e2

set_option maxRecDepth 100000 in
set_option maxHeartbeats 2000000 in
theorem bound3_any (a : Option Addr) (cap : Nat) (n : Int) (w : World) (s : List Bnd) (hx : Row w a cap s) (hl : s.length ≤ 1000000) :
    Calls Try.prog 53 #[.slice a s.length cap, .int .i64 n] w fun e w' => ∃ a2 c2, e = .returned (.slice a2 ((look s n).getD []).length c2) ∧ Row w' a2 c2 ((look s n).getD []) ∧ Below w.heap.size w w' := by
  have hm := hx.max
  have hle := hx.le
  have HX := mkHid hx
  clear hx
  go_enter Try.func53, Try.ntmps53
  go_wp2_with fail
  go_loopw [5] (fun iv wr => ∃ i : Nat, i ≤ s.length ∧ iv = .int .i64 i ∧ Hid (∀ b ∈ s.take i, b.v ≠ n) ∧ Below w.heap.size w wr) (fun iv wr => s.length - (intOf iv).toNat)
  case atStart => exact ⟨0, Nat.zero_le _, rfl, by simp [Hid], Below.refl _ _⟩
  case round =>
    obtain ⟨i, hi, rfl, HS, hbl⟩ := hrel
    by_cases hlt : i < s.length
    · obtain ⟨b, off, rfl, _, hat⟩ := HX.out.cases.resolve_left (fun e => by simp [e] at hlt)
      obtain ⟨a1, cap1, d0, d1, hr1, lo, hi1⟩ := bnd_at hat hbl hlt
      have HR1 := mkHid hr1
      have hi0 : (0 : Int) ≤ (i : Int) := by omega
      have hi2 : (i : Int) < (s.length : Int) := by omega
      by_cases h : s[i].v = n
      · have t18 : (s[i].v == n) = true := by simp [h]
        have HL := mkHid (look_hit hlt HS.out h)
        clear h HS hat hr1
        go_wp2_with fail
        go_ret
        refine ⟨a1, cap1, by rw [HL.out]; rfl, by rw [HL.out]; exact HR1.out, hbl⟩
      · have t18 : (s[i].v == n) = false := by simp [h]
        have HN : Hid (∀ b ∈ s.take (i + 1), b.v ≠ n) := fun b hb => by
          rw [List.take_succ_eq_append_getElem hlt] at hb
          rcases List.mem_append.1 hb with hb | hb
          · exact HS.out b hb
          · rw [List.mem_singleton.1 hb]; exact h
        clear h HS hat hr1
        go_wp2_with fail
        go_round
        case rel => exact ⟨i + 1, by omega, by go_num, HN, hbl⟩
        case measure => simp [intOf]; omega
    · have HL : Hid (look s n = none) := look_none fun b hb => HS.out b (by rw [List.take_of_length_le (by omega)]; exact hb)
      clear HS
      go_wp2_with fail
      go_ret
      refine ⟨none, 0, by rw [HL.out]; rfl, by rw [HL.out]; exact Row.empty _ _ _ (by omega) (fun _ => rfl), hbl⟩
/-- one more binding -/
theorem look_upd {s : List Bnd} {n : Int} {x : List Cel} (h : look s n = none) : look (s ++ [⟨n, x⟩]) = updF (look s) n x := by
  funext v
  rw [look_append]
  unfold updF
  by_cases e : v = n
  · subst e
    rw [h, if_pos rfl, look_cons_yes rfl]; rfl
  · rw [if_neg e, look_none (s := [⟨n, x⟩]) (fun b hb => by rw [List.mem_singleton.1 hb]; exact fun h => e h.symm)]
    cases look s v <;> rfl
theorem look_upd_same {s : List Bnd} {n : Int} {x : List Cel} (h : look s n = some x) : updF (look s) n x = look s := by
  funext v
  unfold updF
  by_cases e : v = n
  · rw [if_pos e, e, h]
  · rw [if_neg e]
end Go.Proofs.Ytlddglajdcednaa
namespace Go.Proofs.Ytlddglajdcednaa
open Go.RowKit

/-! ### the document's Match -/
def SM (b o : Nat) (c : Cel) (w' : World) : Prop := w'.cell? ⟨b, o, none⟩ = some (.int .i64 c.k) ∧ w'.cell? ⟨b, o + 1, none⟩ = some (.string c.s) ∧ w'.cell? ⟨b, o + 2, none⟩ = some (.int .i64 c.n)
def MPost2 (p t : List Cel) (e : Ending) (w' : World) : Prop := ∃ a2 c2, e = .returned (.tuple #[.slice a2 (matchL p t).length c2, .bool (matchB p t)]) ∧ Row w' a2 c2 (matchL p t)
theorem mpost_no {p t : List Cel} {w' : World} (h : imgGo p t (fun _ => none) = none) : MPost2 p t (.returned (.tuple #[.slice none 0 0, .bool false])) w' := by
  have hb : matchB p t = false := by unfold matchB; rw [h]; rfl
  refine ⟨none, 0, ?_, ?_⟩
  · rw [hb, match_no hb]; rfl
  · rw [match_no hb]; exact Row.empty _ _ _ (by omega) (fun _ => rfl)
theorem img_var {c : Cel} {p t r X : List Cel} {f : Int → Option (List Cel)} (hk : c.k = 1) (hr : sk 1 t = some r) (hX : t = X ++ r) : imgGo (c :: p) t f = if (f c.n).all (fun q => decide (q = X)) then imgGo p r (updF f c.n X) else none := by
  have htake : t.take (t.length - r.length) = X := by
    rw [hX, List.length_append, Nat.add_sub_cancel]; exact List.take_left' rfl
  simp only [imgGo]
  rw [if_pos hk, hr]
  simp only [htake]
theorem img_cell {c d : Cel} {p t : List Cel} {f : Int → Option (List Cel)} (hk : c.k ≠ 1) : imgGo (c :: p) (d :: t) f = if c = d then imgGo p t f else none := by
  simp only [imgGo]
  rw [if_neg hk]
theorem AccInv.newC {w : World} {B e : Nat} {v : Value} {acc : List Cel} (h : AccInv B e acc v w) : ∃ a cap, v = .slice a acc.length cap ∧ NewRow B w a cap acc := by
  obtain ⟨vs, hown, hcr⟩ := h.ex
  exact own_newG hown (crows_cel hcr)

set_option maxRecDepth 100000 in
set_option maxHeartbeats 16000000 in
theorem match3_any (a : Option Addr) (cap : Nat) (a' : Option Addr) (cap' : Nat) (w : World) (p t : List Cel) (hp : Row w a cap p) (ht : Row w a' cap' t) (rp : rightB p = true) (rt : rightB t = true) :
    Calls Try.prog 16 #[.slice a p.length cap, .slice a' t.length cap'] w fun e w' => MPost2 p t e w' ∧ Below w.heap.size w w' := by
  have hmp := hp.max
  have hlp := hp.le
  have hmt := ht.max
  have hlt' := ht.le
  have hp200 := (isT_of_right rp).2.1
  have ht200 := (isT_of_right rt).2.1
  have HP := mkHid hp
  have HT := mkHid ht
  have HRP := mkHid rp
  have HRT := mkHid rt
  have HG := mkHid (right_good rt)
  have HL0 : Hid (Left p t) := left_right rp rt
  have HA0 : Hid (AccInv w.heap.size 39 ([] : List Bnd) (.slice (some ⟨w.heap.size, 0, none⟩) 0 0) (w.alloc (.cells #[] 39))) := AccInv.made w (Nat.le_refl _) rfl
  have hb0 := (Below.refl w.heap.size w).new (.cells #[] 39)
  clear hp ht rp rt
  go_enter Try.func16, Try.ntmps16
  go_wp2_with fail
  go_loopw [6, 7, 8, 9, 10] (fun v6 v7 v8 x1 x2 wr => ∃ (i k : Nat) (al : List Bnd) (a6 : Option Addr) (c6 : Nat), v6 = .slice a6 al.length c6 ∧ v7 = .int .i64 k ∧ v8 = .int .i64 i ∧ i ≤ p.length ∧ k ≤ t.length ∧ al.length ≤ i ∧ Hid (AccInv w.heap.size 39 al (.slice a6 al.length c6) wr) ∧ Hid (∀ b ∈ al, IsT b.t ∧ b.t.length ≤ 200) ∧ Hid (Left (p.drop i) (t.drop k)) ∧ Hid (imgGo p t (fun _ => none) = imgGo (p.drop i) (t.drop k) (look al)) ∧ Below w.heap.size w wr) (fun v6 v7 v8 x1 x2 wr => p.length - (intOf v8).toNat)
  case atStart => exact ⟨0, 0, [], _, _, rfl, rfl, rfl, Nat.zero_le _, Nat.zero_le _, Nat.le_refl _, HA0, by simp [Hid], by rw [List.drop_zero, List.drop_zero]; exact HL0, rfl, hb0⟩
  case round =>
    clear HA0 hb0 HL0
    obtain ⟨i, k, al, a6, c6, rfl, rfl, rfl, hi, hk, hal, HA, HAT, HL, HI, hbl⟩ := hrel
    obtain ⟨a6', c6', e6, hr6⟩ := HA.out.row
    cases e6
    have HRA := mkHid hr6
    clear hr6
    by_cases hlt : i < p.length
    · have hdp : p.drop i = p[i] :: p.drop (i + 1) := List.drop_eq_getElem_cons hlt
      have hleft := HL.out
      have himg := HI.out
      rw [hdp] at hleft himg
      obtain ⟨d, r, ed, hnext⟩ := left_cons hleft
      have hkt : k < t.length := by
        by_cases h : k < t.length
        · exact h
        · rw [List.drop_of_length_le (by omega)] at ed; cases ed
      have hdt : t.drop k = t[k] :: t.drop (k + 1) := List.drop_eq_getElem_cons hkt
      obtain ⟨bp, op, rfl, _, hatp⟩ := HP.out.cases.resolve_left (fun e => by simp [e] at hlt)
      obtain ⟨bt, ot, rfl, _, hatt⟩ := HT.out.cases.resolve_left (fun e => by simp [e] at hkt)
      obtain ⟨c0, c1, c2, hcf⟩ := cel_at hatp hbl hlt
      obtain ⟨d0, d1, d2, hdf⟩ := cel_at hatt hbl hkt
      have hi0 : (0 : Int) ≤ (i : Int) := by omega
      have hi1 : (i : Int) < (p.length : Int) := by omega
      have hk0 : (0 : Int) ≤ (k : Int) := by omega
      have hk1 : (k : Int) < (t.length : Int) := by omega
      have t26 : decide ((k : Int) ≥ (t.length : Int)) = false := decide_eq_false (by omega)
      have HATP := mkHid hatp
      by_cases hv : p[i].k = 1
      · have t32 : (p[i].k != 1) = false := by simp [hv]
        obtain ⟨r2, hr2, hleft2⟩ := left_var hleft hv
        obtain ⟨X, hX, hsX⟩ := sk_pre _ 1 r2 hr2
        have hXT := IsT_of_sk hsX
        have hend : endI t k = (t.length : Int) - r2.length := by unfold endI; rw [hr2]
        have hlens : X.length + r2.length = t.length - k := by
          have := congrArg List.length hX
          rw [List.length_drop, List.length_append] at this; omega
        have hX0 := List.length_pos_iff.2 hXT.ne
        obtain ⟨e, he⟩ : ∃ e, k + X.length = e := ⟨_, rfl⟩
        have hee : endI t k = (e : Int) := by omega
        have hr2d : r2 = t.drop e := by
          have h1 : (t.drop k).drop X.length = r2 := by rw [hX]; simp
          rw [List.drop_drop, he] at h1
          exact h1.symm
        subst hr2d
        obtain ⟨cd, hcd'⟩ : ∃ cd, cap' = k + (cd + 1) := ⟨cap' - k - 1, by omega⟩
        have HXR : Hid (Row w (some ⟨bt, ot + k * 3, none⟩) (cd + 1) X) := by
          have h := HT.out.slice (i := k) (j := e) (by omega) (by omega)
          have e1 : (t.drop k).take (e - k) = X := by
            rw [hX, show e - k = X.length by omega]; exact List.take_left' rfl
          rw [e1, show cap' - k = cd + 1 by omega] at h
          exact h
        have HEE := mkHid hee
        have hek : k < e := by omega
        have het : e ≤ t.length := by omega
        have HXT := mkHid (And.intro hXT (show X.length ≤ 200 by omega))
        have HLN : Hid ((e : Int) - (k : Int) = (X.length : Int)) := by rw [Hid]; omega
        have HLX : Hid (e - k = X.length) := by rw [Hid]; omega
        have HLF := mkHid hleft2
        have HIM : Hid (imgGo (p[i] :: p.drop (i + 1)) (t.drop k) (look al) = if (look al p[i].n).all (fun q => decide (q = X)) then imgGo (p.drop (i + 1)) (t.drop e) (updF (look al) p[i].n X) else none) := img_var hv hr2 hX
        have HI2 : Hid (imgGo p t (fun _ => none) = imgGo (p[i] :: p.drop (i + 1)) (t.drop k) (look al)) := himg
        have HS : Hid (∀ W', Below wr.heap.size wr W' → SM bp (op + i * 3) p[i] W') := fun W' h => ⟨keep c0 h, keep c1 h, keep c2 h⟩
        subst hcd'
        have hX200 : X.length ≤ 200 := by omega
        have hkc : (k : Int) ≤ ((k + (cd + 1) : Nat) : Int) := by omega
        have hke : (k : Int) ≤ (e : Int) := by omega
        have hec : (e : Int) ≤ ((k + (cd + 1) : Nat) : Int) := by omega
        have het' : (e : Int) ≤ (t.length : Int) := by omega
        have hec2 : (e : Int) ≤ (k : Int) + ((cd : Int) + 1) := by omega
        have hke2 : k ≤ e := by omega
        clear hv hr2 hX hsX hXT hend hlens hee he hleft2 himg hleft hdp ed hnext hdt hcf hdf d0 d1 d2 HL HI hatp hatt hX0
        go_wp2_with fail
        have hcd := (Below.refl wr.heap.size wr).drew
        refine wp_region_noPanic ?_
        refine wp_region_held_drew (S := SM bp (op + i * 3) p[i]) (by kernel_rfl) (HS.out _ hcd) (fun hSd => ?_)
        refine wpAnyH_take (i := 0) (oi := _) (v := ?_) rfl (by kernel_rfl) (by kernel_rfl) (by kernel_rfl) (fun _ _ _ h => h) (Or.inl ⟨by rfl, ?_⟩) (by assumption) ?_
        rotate_left
        · (intro w' hSw; obtain ⟨z0, z1, z2⟩ := hSw; go_simp; try with_reducible rfl)
        (try simp only [Act.put, List.setIfInBounds_toArray, List.set_cons_zero, List.set_cons_succ])
        refine wpAnyH_take (i := 1) (oi := _) (v := ?_) rfl (by kernel_rfl) (by kernel_rfl) (by kernel_rfl) (fun _ _ _ h => h) (Or.inl ⟨by rfl, ?_⟩) (by assumption) ?_
        rotate_left
        · (intro w' hSw; obtain ⟨z0, z1, z2⟩ := hSw; go_simp; try with_reducible rfl)
        (try simp only [Act.put, List.setIfInBounds_toArray, List.set_cons_zero, List.set_cons_succ])
        refine wpAnyH_take (i := 2) (oi := _) (v := ?_) rfl (by kernel_rfl) (by kernel_rfl) (by kernel_rfl) (fun _ _ _ h => h) (Or.inl ⟨by rfl, ?_⟩) (by assumption) ?_
        rotate_left
        · (intro w' hSw; obtain ⟨z0, z1, z2⟩ := hSw; go_simp; try with_reducible rfl)
        (try simp only [Act.put, List.setIfInBounds_toArray, List.set_cons_zero, List.set_cons_succ])
        refine wpAnyH_take (i := 3) (oi := _) (v := ?_) rfl (by kernel_rfl) (by kernel_rfl) (by kernel_rfl) (fun _ _ _ h => h) (Or.inl ⟨by rfl, ?_⟩) (by assumption) ?_
        rotate_left
        · (intro w' hSw; obtain ⟨z0, z1, z2⟩ := hSw; go_simp; try with_reducible rfl)
        (try simp only [Act.put, List.setIfInBounds_toArray, List.set_cons_zero, List.set_cons_succ])
        refine wpAnyH_take (i := 6) (oi := _) (v := ?_) rfl (by kernel_rfl) (by kernel_rfl) (by kernel_rfl) (fun _ _ _ h => h) (Or.inl ⟨by rfl, ?_⟩) (by assumption) ?_
        rotate_left
        · (intro w' hSw; obtain ⟨z0, z1, z2⟩ := hSw; go_simp; try with_reducible rfl)
        (try simp only [Act.put, List.setIfInBounds_toArray, List.set_cons_zero, List.set_cons_succ])
        refine wpAnyH_take (i := 7) (oi := _) (v := ?_) rfl (by kernel_rfl) (by kernel_rfl) (by kernel_rfl) (fun _ _ _ h => h) (Or.inl ⟨by rfl, ?_⟩) (by assumption) ?_
        rotate_left
        · (intro w' hSw; obtain ⟨z0, z1, z2⟩ := hSw; go_simp; try with_reducible rfl)
        (try simp only [Act.put, List.setIfInBounds_toArray, List.set_cons_zero, List.set_cons_succ])
        refine wpAnyH_take (i := 8) (oi := _) (v := ?_) rfl (by kernel_rfl) (by kernel_rfl) (by kernel_rfl) (fun _ _ _ h => h) (Or.inl ⟨by rfl, ?_⟩) (by assumption) ?_
        rotate_left
        · (intro w' hSw; obtain ⟨z0, z1, z2⟩ := hSw; go_simp; try with_reducible rfl)
        (try simp only [Act.put, List.setIfInBounds_toArray, List.set_cons_zero, List.set_cons_succ])
        refine wpAnyH_take (i := 9) (oi := _) (v := ?_) rfl (by kernel_rfl) (by kernel_rfl) (by kernel_rfl) (fun _ _ _ h => h) (Or.inl ⟨by rfl, ?_⟩) (by assumption) ?_
        rotate_left
        · (intro w' hSw; obtain ⟨z0, z1, z2⟩ := hSw; go_simp; try with_reducible rfl)
        (try simp only [Act.put, List.setIfInBounds_toArray, List.set_cons_zero, List.set_cons_succ])
        refine wpAnyH_take (i := 10) (oi := _) (v := ?_) rfl (by kernel_rfl) (by kernel_rfl) (by kernel_rfl) (fun _ _ _ h => h) (Or.inl ⟨by rfl, ?_⟩) (by assumption) ?_
        rotate_left
        · (intro w' hSw; obtain ⟨z0, z1, z2⟩ := hSw; go_simp; try with_reducible rfl)
        (try simp only [Act.put, List.setIfInBounds_toArray, List.set_cons_zero, List.set_cons_succ])
        refine wpAnyH_take (i := 11) (oi := _) (v := ?_) rfl (by kernel_rfl) (by kernel_rfl) (by kernel_rfl) (fun _ _ _ h => h) (Or.inl ⟨by rfl, ?_⟩) (by assumption) ?_
        rotate_left
        · (intro w' hSw; obtain ⟨z0, z1, z2⟩ := hSw; go_simp; try with_reducible rfl)
        (try simp only [Act.put, List.setIfInBounds_toArray, List.set_cons_zero, List.set_cons_succ])
        refine wpAnyH_ready (rs := [4]) (by kernel_rfl) (by simp) ?_
        refine AllReadyH.cons (o := _) rfl (fun K hK => ?_) AllReadyH.nil
        go_simp
        refine (end3_any _ (k + (cd + 1)) _ t (HT.out.below (hbl.then hcd)) HG.out hkt (by omega)).mono ?_
        rintro e1 w2 ⟨rfl, hb2⟩
        rw [HEE.out]
        have hd2 := hcd.then hb2
        try dsimp only
        refine hK.out _ _ (HS.out _ hd2) (fun hS2 => ?_)
        clear hK K
        (try simp only [Act.put, List.setIfInBounds_toArray, List.set_cons_zero, List.set_cons_succ])
        refine wpAnyH_take (i := 5) (oi := _) (v := ?_) rfl (by kernel_rfl) (by kernel_rfl) (by kernel_rfl) (fun _ _ _ h => h) (Or.inl ⟨by rfl, ?_⟩) (by assumption) ?_
        rotate_left
        · (intro w' hSw; obtain ⟨z0, z1, z2⟩ := hSw; go_simp; try with_reducible rfl)
        (try simp only [Act.put, List.setIfInBounds_toArray, List.set_cons_zero, List.set_cons_succ])
        refine wpAnyH_ready (rs := [12]) (by kernel_rfl) (by simp) ?_
        refine AllReadyH.cons (o := _) rfl (fun K hK => ?_) AllReadyH.nil
        go_simp
        refine (bound3_any _ c6 p[i].n _ al (HRA.out.below hd2) (by omega)).mono ?_
        rintro e1 w3 ⟨a10, c10, rfl, hr10, hb3⟩
        have hd3 := hd2.then hb3
        have HR10 := mkHid hr10
        clear hr10
        try dsimp only
        refine hK.out _ _ (HS.out _ hd3) (fun hS3 => ?_)
        clear hK K
        (try simp only [Act.put, List.setIfInBounds_toArray, List.set_cons_zero, List.set_cons_succ])
        refine wpAnyH_take (i := 13) (oi := _) (v := ?_) rfl (by kernel_rfl) (by kernel_rfl) (by kernel_rfl) (fun _ _ _ h => h) (Or.inl ⟨by rfl, ?_⟩) (by assumption) ?_
        rotate_left
        · (intro w' hSw; obtain ⟨z0, z1, z2⟩ := hSw; go_simp; try with_reducible rfl)
        (try simp only [Act.put, List.setIfInBounds_toArray, List.set_cons_zero, List.set_cons_succ])
        refine wpAnyH_take (i := 14) (oi := _) (v := ?_) rfl (by kernel_rfl) (by kernel_rfl) (by kernel_rfl) (fun _ _ _ h => h) (Or.inl ⟨by rfl, ?_⟩) (by assumption) ?_
        rotate_left
        · (intro w' hSw; obtain ⟨z0, z1, z2⟩ := hSw; go_simp; try with_reducible rfl)
        (try simp only [Act.put, List.setIfInBounds_toArray, List.set_cons_zero, List.set_cons_succ])
        refine wpAnyH_done (by kernel_rfl) (NoPanic.normal ?_) _
        clear hS3
        rw [HLX.out]
        have hw3 : Below wr.heap.size wr w3 := hd3
        have hbl3 := hbl.then hw3
        have HA3 := mkHid (HA.out.below hw3)
        have HX3 := mkHid (HXR.out.below hbl3)
        have c2' := keep c2 hw3
        clear c0 c1 c2 hd2 hd3 hcd hSd hS2
        cases hq : look al p[i].n with
        | none =>
          have HQ0 : Hid ((look al p[i].n).getD [] = []) := by rw [Hid, hq]; rfl
          have HQN := mkHid hq
          have HIMN : Hid (imgGo p t (fun _ => none) = imgGo (p.drop (i + 1)) (t.drop e) (look (al ++ [⟨p[i].n, X⟩]))) := by
            have h := HIM.out
            rw [hq] at h
            rw [Hid, HI2.out, h, look_upd hq]; rfl
          have HROWX := mkHid (HXR.out.keeps (HA3.out.fresh hbl3))
          have hs3 := hbl3.size
          have hlo := (HP.out.fit _ (List.getElem_mem hlt)).n1
          have hhi := (HP.out.fit _ (List.getElem_mem hlt)).n2
          have HNB := mkHid (And.intro hlo hhi)
          rw [show ((none : Option (List Cel)).getD []) = [] from rfl]
          clear hq HR10 hlo hhi
          go_wp2_with (at_builtin; refine wpList_acc (α := Bnd) rfl _ _ 25 rfl w.heap.size 39 32 _ Try.underlying25 Try.infoBind rfl (by decide) _ al HA3.out rfl _ #[.int .i64 p[i].n, .slice (some ⟨bt, ot + k * 3, none⟩) X.length (cd + 1)] (⟨p[i].n, X⟩ : Bnd) ⟨⟨_, _, rfl, HROWX.out⟩, HNB.out.1, HNB.out.2⟩ rfl (by omega) hs3 ?_; intro v' w4 hacc4 hb4)
          have hbl4 := hbl3.trans hb4
          obtain ⟨a7, c7, rfl, hr7⟩ := hacc4.row
          have HA4 := mkHid hacc4
          clear hacc4 hr7 c2'
          go_wp2_with fail
          refine (end3_any _ (k + (cd + 1)) _ t (HT.out.below hbl4) HG.out hkt (by omega)).mono ?_
          rintro e1 w5 ⟨rfl, hb5⟩
          rw [HEE.out]
          have HA5 := mkHid (HA4.out.below hb5)
          have hbl5 := hbl4.then hb5
          have HATN : Hid (∀ b ∈ al ++ [⟨p[i].n, X⟩], IsT b.t ∧ b.t.length ≤ 200) := fun b hb => by
            rcases List.mem_append.1 hb with h | h
            · exact HAT.out b h
            · rw [List.mem_singleton.1 h]; exact HXT.out
          go_wp2_with fail
          go_round
          case rel => exact ⟨i + 1, e, al ++ [⟨p[i].n, X⟩], _, _, by rw [List.length_append]; rfl, rfl, by go_num, by omega, by omega, by simp; omega, HA5, HATN, HLF, HIMN, hbl5⟩
          case measure => simp [intOf]; omega
        | some q =>
          have HQ0 : Hid ((look al p[i].n).getD [] = q) := by rw [Hid, hq]; rfl
          obtain ⟨bb, hbb, _, hbt⟩ := look_mem hq
          have hq0 : 0 < q.length := by rw [← hbt]; exact List.length_pos_iff.2 (HAT.out bb hbb).1.ne
          have hr10 := HR10.out
          rw [HQ0.out] at hr10
          have HRQ := mkHid hr10
          have t58 : decide ((q.length : Int) > 0) = true := decide_eq_true (by omega)
          have t68 : ((q.length : Int) == 0) = false := by rw [beq_eq_false_iff_ne]; omega
          rw [show ((some q : Option (List Cel)).getD []) = q from rfl]
          by_cases hqx : q = X
          · have HIMN : Hid (imgGo p t (fun _ => none) = imgGo (p.drop (i + 1)) (t.drop e) (look al)) := by
              have h := HIM.out
              rw [hq] at h
              rw [hqx] at hq h
              rw [Hid, HI2.out, h, look_upd_same hq]
              simp
            have HSM : Hid (decide (q = X) = true) := decide_eq_true hqx
            clear hq hbb hbt hr10 hqx HR10
            go_wp2_with fail
            refine (usame1 HRQ.out HX3.out HSM.out).mono ?_
            rintro e1 w4 ⟨rfl, hb4⟩
            have hbl4 := hbl3.then hb4
            have HA4 := mkHid (HA3.out.below hb4)
            clear c2'
            go_wp2_with fail
            refine (end3_any _ (k + (cd + 1)) _ t (HT.out.below hbl4) HG.out hkt (by omega)).mono ?_
            rintro e1 w5 ⟨rfl, hb5⟩
            rw [HEE.out]
            have HA5 := mkHid (HA4.out.below hb5)
            have hbl5 := hbl4.then hb5
            go_wp2_with fail
            go_round
            case rel => exact ⟨i + 1, e, al, _, _, rfl, rfl, by go_num, by omega, by omega, by omega, HA5, HAT, HLF, HIMN, hbl5⟩
            case measure => simp [intOf]; omega
          · have HNO : Hid (imgGo p t (fun _ => none) = none) := by
              have h := HIM.out
              rw [hq] at h
              rw [Hid, HI2.out, h, if_neg (by simp [hqx])]
            have HSM : Hid (decide (q = X) = false) := decide_eq_false hqx
            clear hq hbb hbt hr10 hqx HR10
            go_wp2_with fail
            refine (usame1 HRQ.out HX3.out HSM.out).mono ?_
            rintro e1 w4 ⟨rfl, hb4⟩
            have hbl4 := hbl3.then hb4
            go_wp2_with fail
            go_ret2
            exact ⟨mpost_no HNO.out, hbl4⟩
      · have t32 : (p[i].k != 1) = true := by simp [hv]
        have hneq := fun w => run_neq_cel p[i] t[k] w
        rw [hdt, img_cell hv] at himg
        rw [hdt, List.cons.injEq] at ed
        by_cases he : p[i] = t[k]
        · rw [decide_eq_true he] at hneq
          have HLF : Hid (Left (p.drop (i + 1)) (t.drop (k + 1))) := by
            have h := hnext (by rw [he]; exact ed.1)
            rw [← ed.2] at h; exact h
          have HIMN : Hid (imgGo p t (fun _ => none) = imgGo (p.drop (i + 1)) (t.drop (k + 1)) (look al)) := by
            rw [if_pos he] at himg; exact himg
          clear he hv himg hleft hdp hdt ed hnext HL HI hcf hdf hatp hatt
          go_wp2
          go_quiet (fail)
          go_wp2
          go_round
          case rel => exact ⟨i + 1, k + 1, al, _, _, rfl, by go_num, by go_num, by omega, by omega, by omega, mkHid (HA.out.below ⟨rfl, rfl, rfl, Nat.le_refl _, fun _ _ => rfl⟩), HAT, HLF, HIMN, ⟨hbl.os, hbl.tape, hbl.output, hbl.size, hbl.block⟩⟩
          case measure => simp [intOf]; omega
        · rw [decide_eq_false he] at hneq
          have HNO : Hid (imgGo p t (fun _ => none) = none) := by
            rw [if_neg he] at himg; exact himg
          clear he hv himg hleft hdp hdt ed hnext HL HI hcf hdf hatp hatt
          go_wp2
          go_quiet (fail)
          go_wp2
          go_ret2
          exact ⟨mpost_no HNO.out, ⟨hbl.os, hbl.tape, hbl.output, hbl.size, hbl.block⟩⟩
    · have hfin : imgGo p t (fun _ => none) = some (look al) := by
        have h := HI.out
        rw [List.drop_of_length_le (show p.length ≤ i by omega)] at h
        rw [h]; simp [imgGo]
      have HB : Hid (matchB p t = true) := by rw [Hid]; unfold matchB; rw [hfin]; rfl
      have HML : Hid (matchL p t = bindL (fun v => (look al v).getD []) (riseI (varsL p))) := by rw [Hid]; unfold matchL; rw [hfin]
      have HIO := mkHid (img_yes p t 1 _ _ (right_sk2 HRP.out) (right_sk2 HRT.out) hfin)
      have HTL : Hid (∀ v, ((look al v).getD []).length ≤ 200) := fun v => by
        cases hq : look al v with
        | none => simp
        | some q => obtain ⟨bb, hbb, _, hbt⟩ := look_mem hq; simp only [Option.getD_some]; rw [← hbt]; exact (HAT.out bb hbb).2
      obtain ⟨WB, hWB⟩ : ∃ W, W = wr := ⟨_, rfl⟩
      subst hWB
      have hs0 := hbl.size
      have hb1 := (Below.refl WB.heap.size WB).new (.cells #[] 39)
      have HO0 : Hid (AccInv WB.heap.size 39 ([] : List Bnd) (.slice (some ⟨WB.heap.size, 0, none⟩) 0 0) (WB.alloc (.cells #[] 39))) := AccInv.made WB (Nat.le_refl _) rfl
      have hal' : al.length ≤ 1000000 := by omega
      clear hfin HI HL
      go_wp2_with fail
      refine (rising3_any a cap _ p (HP.out.below (hbl.then hb1)) (by omega)).mono ?_
      rintro e1 w5 ⟨a12, c12, rfl, hr12, hb5⟩
      have hb15 := hb1.then hb5
      have HO5 := mkHid (HO0.out.below hb5)
      have HR5 := mkHid (HO0.out.newer (Nat.le_refl _) hr12)
      obtain ⟨Rv, hRv⟩ : ∃ R, riseI (varsL p) = R := ⟨_, rfl⟩
      have HRV : Hid (∀ v ∈ Rv, ∃ c ∈ p, c.k = 1 ∧ c.n = v) := fun v hv => by
        rw [← hRv] at hv
        exact varsL_iff.1 (riseI_mem hv)
      have hRl : Rv.length ≤ 200 := by
        rw [← hRv]
        have l2 := riseI_le (varsL p)
        have l3 := varsGo_length p []
        rw [show varsGo [] p = varsL p from rfl, List.length_nil, Nat.zero_add] at l3
        omega
      rw [hRv] at HR5 HML ⊢
      obtain ⟨F, hF⟩ : ∃ F : Int → List Cel, (fun v => (look al v).getD []) = F := ⟨_, rfl⟩
      rw [hF] at HML
      have HFV : Hid (∀ v, (look al v).getD [] = F v) := fun v => by rw [← hF]
      clear hRv hF hr12 HO0 hb1 hb5
      go_wp2_with fail
      go_loopw [11, 13, 14, 15] (fun v11 jv x1 x2 wz => ∃ (j : Nat) (a11 : Option Addr) (c11 : Nat), v11 = .slice a11 (bindL F (Rv.take j)).length c11 ∧ jv = .int .i64 j ∧ j ≤ Rv.length ∧ Hid (AccInv WB.heap.size 39 (bindL F (Rv.take j)) (.slice a11 (bindL F (Rv.take j)).length c11) wz) ∧ Hid (Row (hide (Value.slice a11 (bindL F (Rv.take j)).length c11).ownBlock wz) a12 c12 Rv) ∧ Below WB.heap.size WB wz) (fun v11 jv x1 x2 wz => Rv.length - (intOf jv).toNat)
      case atStart => exact ⟨0, _, _, rfl, rfl, Nat.zero_le _, HO5, HR5, hb15⟩
      case round =>
        clear HO5 HR5 hb15
        obtain ⟨j, a11, c11, rfl, rfl, hj, HO, HRR, hbz⟩ := hrel
        have HRW := mkHid (HRR.out.keeps (hide_keeps _ _))
        by_cases hjl : j < Rv.length
        · obtain ⟨b12, o12, rfl, _, hat12⟩ := HRW.out.cases.resolve_left (fun e => by simp [e] at hjl)
          have e0 := (int_at hat12 (Below.refl _ _) hjl).c
          have hnlo := (int_at hat12 (Below.refl _ _) hjl).lo
          have hnhi := (int_at hat12 (Below.refl _ _) hjl).hi
          obtain ⟨c, hc, hck, hcn⟩ := HRV.out _ (List.getElem_mem hjl)
          obtain ⟨q, hq⟩ := HIO.out.has c hc hck
          rw [hcn] at hq
          have hbt := bind_take (F := F) hjl
          obtain ⟨n, hn⟩ : ∃ n, Rv[j] = n := ⟨_, rfl⟩
          rw [hn] at e0 hq hbt hnlo hnhi
          have HBC := mkHid hbt
          have HNB := mkHid (And.intro hnlo hnhi)
          have HFQ : Hid (F n = q) := by rw [Hid, ← HFV.out n, hq]; rfl
          obtain ⟨bb, hbb, _, hbt2⟩ := look_mem hq
          have hqT := (HAT.out bb hbb).1
          have hq200 := (HAT.out bb hbb).2
          rw [hbt2] at hqT hq200
          have q0 := List.length_pos_iff.2 hqT.ne
          have hok := isT_ok hqT _ (List.getElem_mem q0)
          have hhead : q.head? = some q[0] := by rw [List.head?_eq_getElem?, List.getElem?_eq_getElem q0]
          have HGQ : Hid ((look al n).getD [] = q) := by rw [Hid, hq]; rfl
          have hj0 : (0 : Int) ≤ (j : Int) := by omega
          have hj1 : (j : Int) < (Rv.length : Int) := by omega
          clear hn hat12 hcn hbt hbt2 hnlo hnhi hbb hc hck hq
          go_wp2_with fail
          refine (bound3_any a6 c6 n _ al (HRA.out.below hbz) hal').mono ?_
          rintro e1 w6 ⟨a15, c15, rfl, hr15, hb6⟩
          rw [HGQ.out] at hr15 ⊢
          have HR15 := mkHid hr15
          have HO6 := mkHid (HO.out.below hb6)
          have HRR6 := mkHid (HRR.out.keeps (below_hide hb6 _))
          obtain ⟨b15, o15, rfl, _, hat15⟩ := hr15.cases.resolve_left (fun e => by simp [e] at q0)
          obtain ⟨m0, m1, m2, hmf⟩ := cel_at hat15 (Below.refl _ _) q0
          simp only [Nat.zero_mul, Nat.add_zero] at m0 m1 m2
          obtain ⟨d, hd⟩ : ∃ d, q[0] = d := ⟨_, rfl⟩
          rw [hd] at m0 m1 m2 hok hhead
          have q0i : (0 : Int) < (q.length : Int) := by omega
          have HHD := mkHid hhead
          have HOK := mkHid hok
          clear hd hmf hat15 hr15 hok hhead hqT e0
          by_cases hdk : d.k = 1
          · have t102 : (d.k != 1) = false := by simp [hdk]
            by_cases hdn : d.n = n
            · have t109 : (d.n != n) = false := by simp [hdn]
              have HBT : Hid (bindL F (Rv.take (j + 1)) = bindL F (Rv.take j)) := by
                rw [Hid, HBC.out]
                unfold bindC
                rw [HFQ.out, HHD.out, if_pos (by rw [cellOk_var HOK.out hdk, hdn]; rfl), List.append_nil]
              clear hdk hdn
              go_wp2_with fail
              go_round
              case rel => exact ⟨j + 1, a11, c11, by rw [HBT.out], by go_num, by omega, by rw [HBT.out]; exact HO6, by rw [HBT.out]; exact HRR6, hbz.then hb6⟩
              case measure => simp [intOf]; omega
            · have t109 : (d.n != n) = true := by simp [hdn]
              have HNH : Hid (¬ q.head? = some ⟨1, ⟨#[]⟩, n⟩) := by
                rw [Hid, HHD.out]
                intro h
                injection h with h
                exact hdn (by rw [h])
              clear hdk hdn
              have HBT : Hid (bindL F (Rv.take (j + 1)) = bindL F (Rv.take j) ++ [⟨n, q⟩]) := by
                rw [Hid, HBC.out]
                unfold bindC
                rw [HFQ.out, if_neg HNH.out]
              have HC0 : Hid (AccInv w6.heap.size 42 ([] : List Cel) (.slice (some ⟨w6.heap.size, 0, none⟩) 0 0) (w6.alloc (.cells #[] 42))) := AccInv.made w6 (Nat.le_refl _) rfl
              have hn6 := (Below.refl w6.heap.size w6).new (.cells #[] 42)
              have HRC := mkHid (HR15.out.keeps (HC0.out.fresh hn6))
              have hs6 := hn6.size
              have hlb : (bindL F (Rv.take j)).length ≤ 200 := by
                have := bind_le F (Rv.take j)
                rw [List.length_take] at this; omega
              have hbz6 := hbz.then hb6
              go_wp2_with (first
                | (at_builtin; refine wpList_accs (α := Cel) rfl _ _ 22 rfl w6.heap.size 42 32 _ Try.underlying22 Try.infoCell rfl (by decide) _ [] HC0.out (by rfl) _ _ q HRC.out (by rfl) (by simp; omega) hs6 ?_; intro v7 w7 hacc7 hb7; rw [List.nil_append] at hacc7; obtain ⟨a17, c17, rfl, hnew7⟩ := hacc7.newC; have hb67 := hn6.trans hb7; have HO7 := mkHid (HO6.out.below hb67); have HROW7 := mkHid (HO6.out.newer (Nat.le_refl _) hnew7); have HRR7 := mkHid (HRR6.out.keeps (below_hide hb67 _)); have hbz7 := hbz6.then hb67; have hs7 := hbz7.size; clear hacc7 hnew7 hb7)
                | (at_builtin; refine wpList_accK (α := Bnd) rfl _ _ 25 rfl WB.heap.size 39 32 _ Try.underlying25 Try.infoBind rfl (by decide) _ (bindL F (Rv.take j)) HO7.out rfl _ #[.int .i64 n, .slice a17 q.length c17] (⟨n, q⟩ : Bnd) ⟨⟨_, _, rfl, HROW7.out⟩, HNB.out.1, HNB.out.2⟩ rfl (by omega) hs7 ?_; intro v8 w8 hacc8 hb8 hk8))
              obtain ⟨a18, c18, rfl, _⟩ := hacc8.row
              have hbz8 := hbz7.trans hb8
              have hrr8 := HRR7.out.keeps hk8
              have hle8 : (bindL F (Rv.take j)).length + 1 = (bindL F (Rv.take (j + 1))).length := by rw [HBT.out, List.length_append]; rfl
              have HO8 : Hid (AccInv WB.heap.size 39 (bindL F (Rv.take (j + 1))) (.slice a18 (bindL F (Rv.take (j + 1))).length c18) w8) := by
                rw [Hid, HBT.out]; exact hacc8
              have HRR8 : Hid (Row (hide (Value.slice a18 (bindL F (Rv.take (j + 1))).length c18).ownBlock w8) (some ⟨b12, o12, none⟩) c12 Rv) := (by rw [Hid, HBT.out]; exact hrr8)
              have HLE8 := mkHid hle8
              clear hacc8 hrr8 hk8 hb8 hle8
              first | rw [HLE8.out] | rw [show (bindL F (Rv.take j) ++ [(⟨n, q⟩ : Bnd)]).length = (bindL F (Rv.take (j + 1))).length by rw [HBT.out]]
              go_round
              case rel => exact ⟨j + 1, a18, c18, rfl, by go_num, by omega, HO8, HRR8, hbz8⟩
              case measure => simp [intOf]; omega
          · have t102 : (d.k != 1) = true := by simp [hdk]
            have HNH : Hid (¬ q.head? = some ⟨1, ⟨#[]⟩, n⟩) := by
              rw [Hid, HHD.out]
              intro h
              injection h with h
              exact hdk (by rw [h])
            clear hdk
            have HBT : Hid (bindL F (Rv.take (j + 1)) = bindL F (Rv.take j) ++ [⟨n, q⟩]) := by
              rw [Hid, HBC.out]
              unfold bindC
              rw [HFQ.out, if_neg HNH.out]
            have HC0 : Hid (AccInv w6.heap.size 42 ([] : List Cel) (.slice (some ⟨w6.heap.size, 0, none⟩) 0 0) (w6.alloc (.cells #[] 42))) := AccInv.made w6 (Nat.le_refl _) rfl
            have hn6 := (Below.refl w6.heap.size w6).new (.cells #[] 42)
            have HRC := mkHid (HR15.out.keeps (HC0.out.fresh hn6))
            have hs6 := hn6.size
            have hlb : (bindL F (Rv.take j)).length ≤ 200 := by
              have := bind_le F (Rv.take j)
              rw [List.length_take] at this; omega
            have hbz6 := hbz.then hb6
            go_wp2_with (first
              | (at_builtin; refine wpList_accs (α := Cel) rfl _ _ 22 rfl w6.heap.size 42 32 _ Try.underlying22 Try.infoCell rfl (by decide) _ [] HC0.out (by rfl) _ _ q HRC.out (by rfl) (by simp; omega) hs6 ?_; intro v7 w7 hacc7 hb7; rw [List.nil_append] at hacc7; obtain ⟨a17, c17, rfl, hnew7⟩ := hacc7.newC; have hb67 := hn6.trans hb7; have HO7 := mkHid (HO6.out.below hb67); have HROW7 := mkHid (HO6.out.newer (Nat.le_refl _) hnew7); have HRR7 := mkHid (HRR6.out.keeps (below_hide hb67 _)); have hbz7 := hbz6.then hb67; have hs7 := hbz7.size; clear hacc7 hnew7 hb7)
              | (at_builtin; refine wpList_accK (α := Bnd) rfl _ _ 25 rfl WB.heap.size 39 32 _ Try.underlying25 Try.infoBind rfl (by decide) _ (bindL F (Rv.take j)) HO7.out rfl _ #[.int .i64 n, .slice a17 q.length c17] (⟨n, q⟩ : Bnd) ⟨⟨_, _, rfl, HROW7.out⟩, HNB.out.1, HNB.out.2⟩ rfl (by omega) hs7 ?_; intro v8 w8 hacc8 hb8 hk8))
            obtain ⟨a18, c18, rfl, _⟩ := hacc8.row
            have hbz8 := hbz7.trans hb8
            have hrr8 := HRR7.out.keeps hk8
            have hle8 : (bindL F (Rv.take j)).length + 1 = (bindL F (Rv.take (j + 1))).length := by rw [HBT.out, List.length_append]; rfl
            have HO8 : Hid (AccInv WB.heap.size 39 (bindL F (Rv.take (j + 1))) (.slice a18 (bindL F (Rv.take (j + 1))).length c18) w8) := by
              rw [Hid, HBT.out]; exact hacc8
            have HRR8 : Hid (Row (hide (Value.slice a18 (bindL F (Rv.take (j + 1))).length c18).ownBlock w8) (some ⟨b12, o12, none⟩) c12 Rv) := (by rw [Hid, HBT.out]; exact hrr8)
            have HLE8 := mkHid hle8
            clear hacc8 hrr8 hk8 hb8 hle8
            first | rw [HLE8.out] | rw [show (bindL F (Rv.take j) ++ [(⟨n, q⟩ : Bnd)]).length = (bindL F (Rv.take (j + 1))).length by rw [HBT.out]]
            go_round
            case rel => exact ⟨j + 1, a18, c18, rfl, by go_num, by omega, HO8, HRR8, hbz8⟩
            case measure => simp [intOf]; omega
        · have hall : Rv.take j = Rv := List.take_of_length_le (by omega)
          have ho := HO.out
          obtain ⟨a19, c19, e19, hr19⟩ := ho.row
          cases e19
          have HE : Hid (MPost2 p t (.returned (.tuple #[.slice a11 (bindL F (Rv.take j)).length c11, .bool true])) wr) := by
            refine ⟨a11, c11, ?_, ?_⟩
            · rw [HB.out, HML.out, hall]
            · rw [HML.out]; rw [hall] at hr19; exact hr19
          clear hall ho hr19
          go_wp2_with fail
          go_ret2
          exact ⟨HE.out, hbl.then hbz⟩
end Go.Proofs.Ytlddglajdcednaa
