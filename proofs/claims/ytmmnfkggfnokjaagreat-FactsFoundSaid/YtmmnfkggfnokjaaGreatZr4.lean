import Derived.Test.YtmmnfkggfnokjaaGreatZr3
namespace Go.Proofs.YtmmnfkggfnokjaaGreat
open Go.RowKit

theorem clone_new2 (a : Option Addr) (cap : Nat) (w : World) (xs : List Cel) (hx : Row w a cap xs) (hl : xs.length ≤ 1000000) :
    Calls Tryz.prog 40 #[.slice a xs.length cap] w fun e w' => ∃ a2 cap2, e = .returned (.slice a2 xs.length cap2) ∧ NewRow w.heap.size w' a2 cap2 xs ∧ Below w.heap.size w w' :=
  (clone_any a cap w xs hx hl).mono fun e w' ⟨v, he, ho, hb⟩ => by
    obtain ⟨a2, cap2, rfl, hr⟩ := own_new ho hx.fit
    exact ⟨a2, cap2, he, hr, hb⟩

/-! ### what the map of images holds -/
theorem img_keeps : ∀ (p t : List Cel) (f g : Int → Option (List Cel)), imgGo p t f = some g → ∀ i, (f i).isSome → (g i).isSome
  | [], t, f, g, h, i, hi => by simp [imgGo] at h; subst h; exact hi
  | c :: p, t, f, g, h, i, hi => by
    simp only [imgGo] at h
    split at h
    · cases hr : sk 1 t with
      | none => rw [hr] at h; cases h
      | some r =>
        rw [hr] at h
        simp only at h
        split at h
        · refine img_keeps p r _ g h i ?_
          unfold updF
          split
          · rfl
          · exact hi
        · cases h
    · cases t with
      | nil => cases h
      | cons d t' =>
        simp only at h
        split at h
        · exact img_keeps p t' f g h i hi
        · cases h
theorem img_all : ∀ (p t : List Cel) (f g : Int → Option (List Cel)), imgGo p t f = some g → ∀ c ∈ p, c.k = 1 → (g c.n).isSome
  | [], t, f, g, h, c, hc, _ => by simp at hc
  | d :: p, t, f, g, h, c, hc, h1 => by
    simp only [imgGo] at h
    split at h
    · next hd =>
      cases hr : sk 1 t with
      | none => rw [hr] at h; cases h
      | some r =>
        rw [hr] at h
        simp only at h
        split at h
        · rcases List.mem_cons.1 hc with rfl | hc
          · exact img_keeps p r _ g h _ (by unfold updF; simp)
          · exact img_all p r _ g h c hc h1
        · cases h
    · next hd =>
      cases t with
      | nil => cases h
      | cons e t' =>
        simp only at h
        split at h
        · rcases List.mem_cons.1 hc with rfl | hc
          · exact absurd h1 hd
          · exact img_all p t' f g h c hc h1
        · cases h
theorem img_range {n : Nat} : ∀ (p t : List Cel) (f g : Int → Option (List Cel)), imgGo p t f = some g → t.length ≤ n → (∀ i q, f i = some q → 1 ≤ q.length ∧ q.length ≤ n) → ∀ i q, g i = some q → 1 ≤ q.length ∧ q.length ≤ n
  | [], t, f, g, h, _, hf, i, q, hq => by simp [imgGo] at h; subst h; exact hf i q hq
  | c :: p, t, f, g, h, hn, hf, i, q, hq => by
    simp only [imgGo] at h
    split at h
    · cases hr : sk 1 t with
      | none => rw [hr] at h; cases h
      | some r =>
        rw [hr] at h
        simp only at h
        have h1 := sk_pos (m := 0) hr
        split at h
        · refine img_range p r _ g h (by omega) (fun i q hq => ?_) i q hq
          unfold updF at hq
          split at hq
          · cases hq; simp; omega
          · exact hf i q hq
        · cases h
    · cases t with
      | nil => cases h
      | cons d t' =>
        simp only at h
        simp only [List.length_cons] at hn
        split at h
        · exact img_range p t' f g h (by omega) hf i q hq
        · cases h
theorem riseI_mem {xs : List Int} {n : Int} (h : n ∈ riseI xs) : n ∈ xs := by
  have h1 := compact_sub (sortI xs).toArray (sortI xs).length (by simp) n h
  have h2 : n ∈ sortI xs := by simpa using h1
  unfold sortI at h2
  exact List.mem_mergeSort.1 h2
theorem varsGo_src2 (xs : List Cel) : ∀ (acc : List Int) (n : Int), n ∈ varsGo acc xs → n ∈ acc ∨ ∃ c ∈ xs, c.k = 1 ∧ c.n = n := by
  induction xs with
  | nil => intro acc n h; exact .inl h
  | cons c l ih =>
    intro acc n h
    rcases ih _ n h with h | ⟨d, hd, h1, h2⟩
    · split at h
      · rename_i hc
        rcases List.mem_append.1 h with h | h
        · exact .inl h
        · simp at h; exact .inr ⟨c, by simp, hc.1, h.symm⟩
      · exact .inl h
    · exact .inr ⟨d, by simp [hd], h1, h2⟩
/-- what Match tells -/
def matchL (p t : List Cel) : List Bnd := match imgGo p t (fun _ => none) with
  | none => []
  | some f => bindL (fun v => (f v).getD []) (riseI (varsL p))
def matchB (p t : List Cel) : Bool := (imgGo p t (fun _ => none)).isSome
theorem MapTB.get {w0 w : World} {m n : Nat} {f : Int → Option (List Cel)} (h : MapTB w0 w m n f) {i : Int} {q : List Cel} (hq : f i = some q) (hi : (Lit.int .i64 i).wf = true) :
    ∃ a cap, (Instr.lookup 73 (.map (some m)) (.int .i64 i) false).run Tryz.prog w = .ok (.slice a q.length cap) w ∧ Row w0 a cap q := by
  obtain ⟨g, h1, h2⟩ := h.ex
  have h3 := h2 i
  rw [hq] at h3
  obtain ⟨a, cap, e, hr⟩ := h3
  have hrun := h1.run_look (t := 73) (e := 23) Tryz.underlying3 Tryz.underlying73 (Tryz.zeroCells2 w) hi
  rw [e] at hrun
  exact ⟨a, cap, hrun, hr⟩
set_option maxHeartbeats 800000 in
theorem match1_any {w0 : World} {m n : Nat} {f : Int → Option (List Cel)} (T6 : Nat) (W : World) (v : Int) (q : List Cel) (hM : MapTB w0 W m n f) (hw : Below w0.heap.size w0 W) (hT : W.cell? ⟨T6, 0, none⟩ = some (.map (some m))) (hq : f v = some q) (hv : (Lit.int .i64 v).wf = true) (hl : q.length ≤ 1000) :
    Calls Tryz.prog 69 #[.int .i64 v, .pointer (some ⟨T6, 0, none⟩)] W fun e W' => ∃ a cap, e = .returned (.tuple #[.slice a q.length cap, .bool true]) ∧ NewRow W.heap.size W' a cap q ∧ Below W.heap.size W W' := by
  obtain ⟨a, cap, hrun, hr⟩ := hM.get hq hv
  have hr2 := hr.below hw
  go_enter Tryz.func69, Tryz.ntmps69
  go_wp2_with fail
  refine (clone_new2 a cap _ q hr2 (by omega)).mono ?_; rintro e w1 ⟨a2, cap2, rfl, hr3, hb⟩
  go_wp2_with fail
  go_ret2
  exact ⟨a2, cap2, rfl, hr3, hb⟩

set_option maxHeartbeats 3200000 in
set_option maxRecDepth 100000 in
theorem match_any (a : Option Addr) (cap : Nat) (a' : Option Addr) (cap' : Nat) (w : World) (p t : List Cel) (hp : Row w a cap p) (ht : Row w a' cap' t) (rp : rightB p = true) (rt : rightB t = true) :
    Calls Tryz.prog 47 #[.slice a p.length cap, .slice a' t.length cap'] w fun e w' => ∃ a2 cap2, e = .returned (.tuple #[.slice a2 (matchL p t).length cap2, .bool (matchB p t)]) ∧ Row w' a2 cap2 (matchL p t) ∧ Below w.heap.size w w' := by
  have hm := hp.max
  have hle := hp.le
  have hm2 := ht.max
  have hle2 := ht.le
  have hpl : p.length ≤ 200 := (right_sk rp).elim fun c h => h.elim fun l h => by obtain ⟨rfl, _, _, h⟩ := h; exact h
  have htl : t.length ≤ 200 := (right_sk rt).elim fun c h => h.elim fun l h => by obtain ⟨rfl, _, _, h⟩ := h; exact h
  have HP := mkHid rp
  have HT := mkHid rt
  clear rp rt
  cases hI : imgGo p t (fun _ => none) with
  | none =>
    have HL : Hid (matchL p t = []) := by rw [Hid]; unfold matchL; rw [hI]
    have HB : Hid (matchB p t = false) := by rw [Hid]; unfold matchB; rw [hI]; rfl
    go_enter Tryz.func47, Tryz.ntmps47
    go_wp2_with fail
    refine (right_lit rfl hp HP.out).mono ?_; rintro e w1 ⟨rfl, hb1⟩
    go_wp2_with fail
    with_reducible refine (right_lit rfl (ht.below hb1) HT.out).mono ?_
    rintro e w2 ⟨rfl, hb2⟩
    replace hb1 := hb1.then hb2
    go_wp2_with fail
    refine (images_any a cap a' cap' w2 p t (hp.below hb1) (ht.below hb1) HP.out HT.out).mono ?_
    rintro e w3 ⟨hb3, ⟨_, rfl⟩ | ⟨f, m, n, h, _, _⟩⟩
    · clear hI
      go_wp2_with fail
      go_ret2
      rw [HL.out, HB.out]
      exact ⟨none, 0, rfl, Row.empty _ _ _ (by omega) (fun _ => rfl), (hb1.then hb3).new _⟩
    · rw [hI] at h; cases h
  | some f =>
    have HL : Hid (matchL p t = bindL (fun v => (f v).getD []) (riseI (varsL p))) := by rw [Hid]; unfold matchL; rw [hI]
    have HB : Hid (matchB p t = true) := by rw [Hid]; unfold matchB; rw [hI]; rfl
    have HA : Hid (∀ v ∈ riseI (varsL p), ∃ q, f v = some q ∧ 1 ≤ q.length ∧ q.length ≤ 200 ∧ (Lit.int .i64 v).wf = true) := by
      intro v hv
      have h1 := riseI_mem hv
      obtain ⟨c, hc, h2, h3⟩ := (varsGo_src2 p [] v h1).resolve_left (by simp)
      have h4 := img_all p t _ f hI c hc h2
      rw [h3] at h4
      obtain ⟨q, hq⟩ := Option.isSome_iff_exists.1 h4
      have h5 := img_range (n := 200) p t _ f hI htl (by simp) v q hq
      have h6 := hp.fit c hc
      exact ⟨q, hq, h5.1, h5.2, by rw [← h3]; exact wf64 h6.n1 h6.n2⟩
    have hvl := varsGo_length p []
    rw [show varsGo [] p = varsL p from rfl, List.length_nil, Nat.zero_add] at hvl
    go_enter Tryz.func47, Tryz.ntmps47
    go_wp2_with fail
    refine (right_lit rfl hp HP.out).mono ?_; rintro e w1 ⟨rfl, hb1⟩
    go_wp2_with fail
    with_reducible refine (right_lit rfl (ht.below hb1) HT.out).mono ?_
    rintro e w2 ⟨rfl, hb2⟩
    replace hb1 := hb1.then hb2
    go_wp2_with fail
    refine (images_any a cap a' cap' w2 p t (hp.below hb1) (ht.below hb1) HP.out HT.out).mono ?_
    rintro e w3 ⟨hb3, ⟨h, _⟩ | ⟨g, m, n, h, rfl, hM⟩⟩
    · rw [hI] at h; cases h
    rw [hI] at h
    obtain rfl : f = g := Option.some.inj h
    have HM := mkHid hM
    clear hI h hM
    replace hb1' := hb1.then hb3
    have hTn : (w3.alloc (.cells #[.map (some m)] 73)).cell? ⟨w3.heap.size, 0, none⟩ = some (.map (some m)) := World.cell?_alloc_at _ _ _ 0 rfl
    have hb4 := hb1'.new (.cells #[.map (some m)] 73)
    have hM4 := HM.out.below ((Below.refl _ _).new (.cells #[.map (some m)] 73))
    have hb34 := hb3.new (.cells #[.map (some m)] 73)
    go_wp2_with fail
    refine (vars_any a cap _ p (hp.below hb4) (by omega)).mono ?_
    rintro e w5 ⟨av, capv, rfl, hrv, hb5⟩
    have hT5 := keep hTn hb5
    have hM5 := hM4.below hb5
    have hb05 := hb4.then hb5
    have hb25 := hb34.then hb5
    go_wp2_with fail
    refine (bindingsM_any w3.heap.size av capv w5 (varsL p) (riseI (varsL p)) (fun v => (f v).getD []) rfl hrv (by omega) ?_).mono ?_
    · intro W v hW hv
      obtain ⟨q, hq, q1, q2, q3⟩ := HA.out v hv
      have hk := match1_any w3.heap.size W v q (hM5.below hW) (hb25.then hW) (keep hT5 hW) hq q3 (by omega)
      refine hk.mono ?_
      rintro e W' ⟨a6, cap6, he, hr6, hb6⟩
      simp only [hq, Option.getD_some]
      exact ⟨a6, cap6, he, hr6, q1, by omega, hb6⟩
    · rintro e w6 ⟨a7, cap7, rfl, hr7, hb7⟩
      go_wp2_with fail
      go_ret2
      rw [HL.out, HB.out]
      exact ⟨a7, cap7, rfl, hr7, hb05.then hb7⟩
end Go.Proofs.YtmmnfkggfnokjaaGreat
namespace Go.Proofs.YtmmnfkggfnokjaaGreat
open Go.RowKit

/-! ### rows picked from a row -/
theorem filt_yes {α : Type} {p : α → Bool} {l : List α} {k : Nat} (hk : k < l.length) (h : p l[k] = true) : (l.take (k + 1)).filter p = (l.take k).filter p ++ [l[k]] := by
  rw [List.take_succ_eq_append_getElem hk, List.filter_append]; simp [h]
theorem filt_no {α : Type} {p : α → Bool} {l : List α} {k : Nat} (hk : k < l.length) (h : p l[k] = false) : (l.take (k + 1)).filter p = (l.take k).filter p := by
  rw [List.take_succ_eq_append_getElem hk, List.filter_append]; simp [h]

set_option maxHeartbeats 1600000 in
theorem picked_any (g : Nat) (cb : Array Value) (p : List Cel → Bool) (a : Option Addr) (cap : Nat) (l : List (List Cel)) (w : World) (hr : Row w a cap l) (hl : l.length ≤ 1000000) (hx : ∀ x ∈ l, x.length ≤ 1000000)
    (eg : ∀ args w, (callFunc g args).run Tryz.prog w = .ok (.enter g args) w)
    (hf : ∀ (W : World) (i : Nat) (hi : i < l.length) (a1 : Option Addr) (c1 : Nat), Below w.heap.size w W → Row W a1 c1 l[i] → Calls Tryz.prog g (#[.slice a1 l[i].length c1] ++ cb) W fun e W' => e = .returned (.bool (p l[i])) ∧ Below W.heap.size W W') :
    Calls Tryz.prog 37 #[.slice a l.length cap, .func (.func g) #[] cb] w fun e w' => ∃ v, e = .returned v ∧ AccInv w.heap.size 23 (l.filter p) v w' ∧ Below w.heap.size w w' := by
  have hm := hr.max
  have hm2 := hr.le
  have HF := mkHid hf
  have HX := mkHid hx
  clear hf hx
  go_enter Tryz.func37, Tryz.ntmps37
  go_wp2
  go_loopw [5, 10] (fun v i wr => ∃ (k : Nat) (A : List (List Cel)), k ≤ l.length ∧ A.length ≤ k ∧ i = .int .i64 k ∧ AccInv w.heap.size 23 A v wr ∧ Below w.heap.size w wr ∧ Hid ((l.take k).filter p = A)) (fun v i wr => l.length - (intOf i).toNat)
  case atStart => exact ⟨0, [], Nat.zero_le _, Nat.zero_le _, rfl, AccInv.nil _ _ _, Below.refl _ _, rfl⟩
  case round =>
    obtain ⟨k, A, hk, hA, rfl, hacc, hbl, HS⟩ := hrel
    by_cases hlt : k < l.length
    · obtain ⟨b, off, rfl, hb, hat⟩ := hr.cases.resolve_left (fun e => by simp [e] at hlt)
      obtain ⟨a1, cap1, c0, hr1⟩ := list_at hat hbl hlt
      have hc := HF.out wr k hlt a1 cap1 hbl hr1
      obtain ⟨q, hq⟩ : ∃ q, p l[k] = q := ⟨_, rfl⟩
      rw [hq] at hc
      have HQ := mkHid hq
      clear hq
      have hlk : l[k].length ≤ 1000000 := HX.out _ (List.getElem_mem hlt)
      cases q with
      | false =>
        have HT : Hid ((l.take (k + 1)).filter p = A) := by rw [Hid, filt_no hlt HQ.out, HS.out]
        clear HS
        go_wp2_with fail
        refine hc.mono ?_
        rintro e w1 ⟨rfl, hb1⟩
        go_wp2_with fail
        go_round
        case rel => exact ⟨k + 1, A, by omega, by omega, by go_num, hacc.below hb1, hbl.then hb1, HT⟩
        case measure => simp [intOf]; omega
      | true =>
        have HT : Hid ((l.take (k + 1)).filter p = A ++ [l[k]]) := by rw [Hid, filt_yes hlt HQ.out, HS.out]
        clear HS
        go_wp2_with fail
        refine hc.mono ?_
        rintro e w1 ⟨rfl, hb1⟩
        have hacc1 := hacc.below hb1
        have hr11 := hr1.below hb1
        go_wp2_with (first
          | (go_at_call 40; refine (clone_new2 a1 cap1 _ l[k] hr11 hlk).mono ?_; rintro e w2 ⟨a2, cap2, rfl, hr2, hb2⟩; have hacc2 := hacc1.below hb2; have hrh := hacc1.newer (Nat.le_refl _) hr2; have hbl2 := (hbl.then hb1).then hb2; have hsz2 := hbl2.size)
          | (at_builtin; refine wpList_acc (α := List Cel) rfl _ _ 22 rfl w.heap.size 23 24 _ Tryz.underlying22 Tryz.infoSl rfl (by decide) _ A hacc2 (by rfl) _ #[.slice a2 l[k].length cap2] l[k] ⟨a2, cap2, rfl, hrh⟩ (by rfl) (by omega) hsz2 ?_; intro v9 w9 hacc9 hb9))
        go_round
        case rel => exact ⟨k + 1, A ++ [l[k]], by omega, by simp; omega, by go_num, hacc9, hbl2.trans hb9, HT⟩
        case measure => simp [intOf]; omega
    · have HT : Hid (A = l.filter p) := by rw [Hid, ← HS.out, List.take_of_length_le (by omega)]
      have hacc' : AccInv w.heap.size 23 (l.filter p) u5 wr := HT.out ▸ hacc
      clear HS
      go_wp2
      go_ret
      exact ⟨_, rfl, hacc', hbl⟩

/-! ### the four questions -/
theorem add1_any (v : Value) (W : World) : Calls Tryz.prog 38 #[v] W fun e W' => e = .returned (.bool true) ∧ Below W.heap.size W W' := by
  go_enter Tryz.func38, Tryz.ntmps38
  go_wp2
  go_ret
  exact ⟨rfl, Below.refl _ _⟩
theorem drop1_any (T3 : Nat) (W : World) (a : Option Addr) (cap : Nat) (f : List Cel) (a' : Option Addr) (cap' : Nat) (t : List Cel) (hr : Row W a cap f) (ht : Row W a' cap' t) (h3 : W.cell? ⟨T3, 0, none⟩ = some (.slice a' t.length cap')) :
    Calls Tryz.prog 41 #[.slice a f.length cap, .pointer (some ⟨T3, 0, none⟩)] W fun e W' => e = .returned (.bool (!decide (f = t))) ∧ Below W.heap.size W W' := by
  obtain ⟨d, hd⟩ : ∃ d, decide (f = t) = d := ⟨_, rfl⟩
  have HD := mkHid hd
  rw [hd]
  clear hd
  cases d with
  | false =>
    go_enter Tryz.func41, Tryz.ntmps41
    go_wp2_with fail
    refine (sameF_is hr ht HD).mono ?_; rintro e w1 ⟨rfl, hb1⟩
    go_wp2_with fail
    go_ret
    exact ⟨rfl, hb1⟩
  | true =>
    go_enter Tryz.func41, Tryz.ntmps41
    go_wp2_with fail
    refine (sameF_is hr ht HD).mono ?_; rintro e w1 ⟨rfl, hb1⟩
    go_wp2_with fail
    go_ret
    exact ⟨rfl, hb1⟩
theorem find1_any (T3 : Nat) (W : World) (a : Option Addr) (cap : Nat) (f : List Cel) (a' : Option Addr) (cap' : Nat) (t : List Cel) (hr : Row W a cap f) (ht : Row W a' cap' t) (rf : rightB f = true) (rt : rightB t = true) (h3 : W.cell? ⟨T3, 0, none⟩ = some (.slice a' t.length cap')) :
    Calls Tryz.prog 46 #[.slice a f.length cap, .pointer (some ⟨T3, 0, none⟩)] W fun e W' => e = .returned (.bool (matchB t f)) ∧ Below W.heap.size W W' := by
  have RF := mkHid rf
  have RT := mkHid rt
  clear rf rt
  go_enter Tryz.func46, Tryz.ntmps46
  go_wp2_with fail
  refine (match_any a' cap' a cap W t f ht hr RT.out RF.out).mono ?_; rintro e w1 ⟨a2, c2, rfl, _, hb1⟩
  go_wp2_with fail
  go_ret
  exact ⟨rfl, hb1⟩
theorem without1_any (T3 : Nat) (W : World) (a : Option Addr) (cap : Nat) (f : List Cel) (a' : Option Addr) (cap' : Nat) (m : List (List Cel)) (hr : Row W a cap f) (ht : Row W a' cap' m) (hF : FR m) (h3 : W.cell? ⟨T3, 0, none⟩ = some (.slice a' m.length cap')) :
    Calls Tryz.prog 65 #[.slice a f.length cap, .pointer (some ⟨T3, 0, none⟩)] W fun e W' => e = .returned (.bool (!decide (f ∈ m))) ∧ Below W.heap.size W W' := by
  have HC := mkHid (hasF_any a' cap' m a cap f W ht hr hF)
  clear hF
  obtain ⟨d, hd⟩ : ∃ d, decide (f ∈ m) = d := ⟨_, rfl⟩
  have HD := mkHid hd
  rw [hd]
  clear hd
  cases d with
  | false =>
    go_enter Tryz.func65, Tryz.ntmps65
    go_wp2_with fail
    refine HC.out.mono ?_; rintro e w1 ⟨rfl, hb1⟩; rw [HD.out]
    go_wp2_with fail
    go_ret
    exact ⟨rfl, hb1⟩
  | true =>
    go_enter Tryz.func65, Tryz.ntmps65
    go_wp2_with fail
    refine HC.out.mono ?_; rintro e w1 ⟨rfl, hb1⟩; rw [HD.out]
    go_wp2_with fail
    go_ret
    exact ⟨rfl, hb1⟩
end Go.Proofs.YtmmnfkggfnokjaaGreat
namespace Go.Proofs.YtmmnfkggfnokjaaGreat
open Go.RowKit

/-! ### the package's calls, whole -/
theorem fact_len {t : List Cel} (h : factB t = true) : t.length ≤ 200 := by
  obtain ⟨_, _, _, h2⟩ := right_tm (fact_right h); exact h2
theorem FR.small {l : List (List Cel)} (h : FR l) : ∀ x ∈ l, x.length ≤ 1000000 := fun x hx => Nat.le_trans (fact_len (h.all x hx)) (by decide)
theorem all_picked (l : List (List Cel)) : l.filter (fun _ => true) = l := by simp

set_option maxHeartbeats 1600000 in
set_option maxRecDepth 100000 in
theorem addF_any (a : Option Addr) (cap : Nat) (l : List (List Cel)) (a' : Option Addr) (cap' : Nat) (t : List Cel) (w : World) (hr : Row w a cap l) (ht : Row w a' cap' t) (hF : FR l) :
    Calls Tryz.prog 11 #[.slice a l.length cap, .slice a' t.length cap'] w fun e w' => ∃ a2 c2, e = .returned (.tuple #[.slice a2 (addF l t).length c2, .int .i64 (addE l t)]) ∧ Row w' a2 c2 (addF l t) ∧ Below w.heap.size w w' := by
  have hm := hr.max
  have hm2 := hr.le
  have hm3 := ht.max
  have hm4 := ht.le
  have h512 := hF.len
  cases hQ : factB t with
  | false =>
    have HE : Hid (addE l t = 120) := by unfold Hid addE; rw [hQ]; rfl
    have HL : Hid (addF l t = []) := by unfold Hid addF; rw [hQ]; rfl
    have HQ := mkHid hQ
    clear hQ hF
    go_enter Tryz.func11, Tryz.ntmps11
    go_wp2_with fail
    refine (fact_is ht HQ).mono ?_; rintro e w1 ⟨rfl, hb1⟩
    go_wp2_with fail
    go_ret2
    rw [HE.out, HL.out]
    exact ⟨none, 0, rfl, nilRow _, hb1⟩
  | true =>
    have htl := fact_len hQ
    have hple := pos_le t l
    have HI : Hid (t ∉ l → insF t l = l.take (posF t l) ++ t :: l.drop (posF t l)) := ins_pos hF.rise
    have HX := mkHid hF.small
    have HQ := mkHid hQ
    have HF := mkHid hF
    clear hF
    by_cases hin : t ∈ l
    · have HE : Hid (addE l t = 0) := addE_in hQ hin
      have HL : Hid (addF l t = l) := by unfold Hid addF; rw [if_pos hQ, if_pos hin]
      have HD : Hid (decide (t ∈ l) = true) := decide_eq_true hin
      clear hQ hin
      go_enter Tryz.func11, Tryz.ntmps11
      go_wp2_with fail
      refine (fact_is ht HQ).mono ?_; rintro e w1 ⟨rfl, hb1⟩
      go_wp2_with fail
      refine (place_any a cap l a' cap' t w1 (hr.below hb1) (ht.below hb1) HF.out).mono ?_; rintro e w2 ⟨rfl, hb2⟩
      rw [HD.out]
      have hr2 := (hr.below hb1).below hb2
      go_wp2_with fail
      refine (picked_any 38 #[] (fun _ => true) a cap l w2 hr2 (by omega) HX.out (fun _ _ => by kernel_rfl) (fun W i hi a1 c1 _ _ => add1_any _ W)).mono ?_
      rintro e w3 ⟨v, rfl, hacc, hb3⟩
      rw [all_picked] at hacc
      obtain ⟨a3, c3, rfl, hr3⟩ := hacc.row
      go_wp2_with fail
      go_ret2
      rw [HE.out, HL.out]
      exact ⟨a3, c3, rfl, hr3, (hb1.then hb2).then hb3⟩
    · have HD : Hid (decide (t ∈ l) = false) := decide_eq_false hin
      by_cases hfull : 512 ≤ l.length
      · have HE : Hid (addE l t = 2) := by unfold Hid addE; rw [if_pos hQ, if_neg hin, if_pos hfull]
        have HL : Hid (addF l t = []) := by unfold Hid addF; rw [if_pos hQ, if_neg hin, if_pos hfull]
        clear hQ hin
        go_enter Tryz.func11, Tryz.ntmps11
        go_wp2_with fail
        refine (fact_is ht HQ).mono ?_; rintro e w1 ⟨rfl, hb1⟩
        go_wp2_with fail
        refine (place_any a cap l a' cap' t w1 (hr.below hb1) (ht.below hb1) HF.out).mono ?_; rintro e w2 ⟨rfl, hb2⟩
        rw [HD.out]
        have hr2 := (hr.below hb1).below hb2
        go_wp2_with fail
        refine (picked_any 38 #[] (fun _ => true) a cap l w2 hr2 (by omega) HX.out (fun _ _ => by kernel_rfl) (fun W i hi a1 c1 _ _ => add1_any _ W)).mono ?_
        rintro e w3 ⟨v, rfl, hacc, hb3⟩
        go_wp2_with fail
        go_ret2
        rw [HE.out, HL.out]
        exact ⟨none, 0, rfl, nilRow _, (hb1.then hb2).then hb3⟩
      · have HE : Hid (addE l t = 0) := by unfold Hid addE; rw [if_pos hQ, if_neg hin, if_neg hfull]
        have HL : Hid (addF l t = l.take (posF t l) ++ t :: l.drop (posF t l)) := by unfold Hid addF; rw [if_pos hQ, if_neg hin, if_neg hfull]; exact HI.out hin
        have hlt : l.length < 512 := by omega
        have HN := mkHid (ins_len l t (posF t l))
        clear hQ hin
        go_enter Tryz.func11, Tryz.ntmps11
        go_wp2_with fail
        refine (fact_is ht HQ).mono ?_; rintro e w1 ⟨rfl, hb1⟩
        go_wp2_with fail
        refine (place_any a cap l a' cap' t w1 (hr.below hb1) (ht.below hb1) HF.out).mono ?_; rintro e w2 ⟨rfl, hb2⟩
        rw [HD.out]
        have hb12 := hb1.then hb2
        have hr2 := hr.below hb12
        go_wp2_with fail
        refine (picked_any 38 #[] (fun _ => true) a cap l w2 hr2 (by omega) HX.out (fun _ _ => by kernel_rfl) (fun W i hi a1 c1 _ _ => add1_any _ W)).mono ?_
        rintro e w3 ⟨v, rfl, hacc, hb3⟩
        rw [all_picked] at hacc
        have hb13 := hb12.then hb3
        have ht3 := ht.below hb13
        go_wp2_with fail
        refine (clone_new2 a' cap' w3 t ht3 (by omega)).mono ?_
        rintro e w4 ⟨a4, c4, rfl, hr4, hb4⟩
        have hacc4 := hacc.below hb4
        have hh4 := hacc.newer (Nat.le_refl _) hr4
        have hb24 := hb3.then hb4
        go_wp2_with fail
        refine (insert_any w2.heap.size v l (posF t l) t a4 c4 w4 hacc4 hple (by omega) hb24.size hh4).mono ?_
        rintro e w5 ⟨a5, c5, rfl, hr5, hb5⟩
        go_wp2_with fail
        go_ret2
        rw [HE.out, HL.out, HN.out]
        exact ⟨a5, c5, rfl, hr5, hb12.trans ((hb24.trans hb5).mono hb12.size)⟩

set_option maxHeartbeats 1600000 in
set_option maxRecDepth 100000 in
theorem dropF_any (a : Option Addr) (cap : Nat) (l : List (List Cel)) (a' : Option Addr) (cap' : Nat) (t : List Cel) (w : World) (hr : Row w a cap l) (ht : Row w a' cap' t) (hF : FR l) :
    Calls Tryz.prog 13 #[.slice a l.length cap, .slice a' t.length cap'] w fun e w' => ∃ a2 c2, e = .returned (.tuple #[.slice a2 (dropF l t).length c2, .int .i64 (dropE l t)]) ∧ Row w' a2 c2 (dropF l t) ∧ Below w.heap.size w w' := by
  have hm := hr.max
  have hm2 := hr.le
  have hm3 := ht.max
  have hm4 := ht.le
  have h512 := hF.len
  have hmf : ∀ (fn : Fn) (first cap : Array Value) (w : World), (Instr.makeFunc fn first cap).run Tryz.prog w = .ok (.func fn first cap) w := fun _ _ _ _ => rfl
  have hb0 : Below w.heap.size w (w.alloc (.cells #[.slice a' t.length cap'] 23)) := (Below.refl _ _).new _
  have k0 : (w.alloc (.cells #[.slice a' t.length cap'] 23)).cell? ⟨w.heap.size, 0, none⟩ = some (.slice a' t.length cap') := World.cell?_alloc_at _ _ _ 0 rfl
  have ht0 := ht.below hb0
  have hr0 := hr.below hb0
  cases hQ : factB t with
  | false =>
    have HE : Hid (dropE l t = 120) := by unfold Hid dropE; rw [hQ]; rfl
    have HL : Hid (dropF l t = []) := by unfold Hid dropF; rw [hQ]; rfl
    have HQ := mkHid hQ
    clear hQ hF
    go_enter Tryz.func13, Tryz.ntmps13
    go_wp2_with fail
    refine (fact_is ht0 HQ).mono ?_; rintro e w1 ⟨rfl, hb1⟩
    go_wp2_with fail
    go_ret2
    rw [HE.out, HL.out]
    exact ⟨none, 0, rfl, nilRow _, hb0.then hb1⟩
  | true =>
    have HX := mkHid hF.small
    have HQ := mkHid hQ
    have HF := mkHid hF
    clear hF
    by_cases hin : t ∈ l
    · have HE : Hid (dropE l t = 0) := dropE_ok hQ hin
      have HL : Hid (dropF l t = l.filter (fun x => !decide (x = t))) := by unfold Hid dropF; rw [if_pos hQ, if_pos hin]
      have HD : Hid (decide (t ∈ l) = true) := decide_eq_true hin
      clear hQ hin
      go_enter Tryz.func13, Tryz.ntmps13
      go_wp2_with fail
      refine (fact_is ht0 HQ).mono ?_; rintro e w1 ⟨rfl, hb1⟩
      have k1 := keep k0 hb1
      go_wp2_with fail
      refine (hasF_any a cap l a' cap' t w1 (hr0.below hb1) (ht0.below hb1) HF.out).mono ?_; rintro e w2 ⟨rfl, hb2⟩
      rw [HD.out]
      have hb12 := hb1.then hb2
      have hr2 := hr0.below hb12
      have ht2 := ht0.below hb12
      have k2 := keep k0 hb12
      go_wp2_with fail
      refine (picked_any 41 #[.pointer (some ⟨w.heap.size, 0, none⟩)] (fun x => !decide (x = t)) a cap l w2 hr2 (by omega) HX.out (fun _ _ => by kernel_rfl) (fun W i hi a1 c1 hW h1 => drop1_any w.heap.size W a1 c1 _ a' cap' t h1 (ht2.below hW) (keep k2 hW))).mono ?_
      rintro e w3 ⟨v, rfl, hacc, hb3⟩
      obtain ⟨a3, c3, rfl, hr3⟩ := hacc.row
      go_wp2_with fail
      go_ret2
      rw [HE.out, HL.out]
      exact ⟨a3, c3, rfl, hr3, (hb0.then hb12).then hb3⟩
    · have HE : Hid (dropE l t = 3) := by unfold Hid dropE; rw [if_pos hQ, if_neg hin]
      have HL : Hid (dropF l t = []) := by unfold Hid dropF; rw [if_pos hQ, if_neg hin]
      have HD : Hid (decide (t ∈ l) = false) := decide_eq_false hin
      clear hQ hin
      go_enter Tryz.func13, Tryz.ntmps13
      go_wp2_with fail
      refine (fact_is ht0 HQ).mono ?_; rintro e w1 ⟨rfl, hb1⟩
      have k1 := keep k0 hb1
      go_wp2_with fail
      refine (hasF_any a cap l a' cap' t w1 (hr0.below hb1) (ht0.below hb1) HF.out).mono ?_; rintro e w2 ⟨rfl, hb2⟩
      rw [HD.out]
      go_wp2_with fail
      go_ret2
      rw [HE.out, HL.out]
      exact ⟨none, 0, rfl, nilRow _, hb0.then (hb1.then hb2)⟩

set_option maxHeartbeats 1600000 in
set_option maxRecDepth 100000 in
theorem findF_any (a : Option Addr) (cap : Nat) (l : List (List Cel)) (a' : Option Addr) (cap' : Nat) (t : List Cel) (w : World) (hr : Row w a cap l) (ht : Row w a' cap' t) (hF : FR l) (rt : rightB t = true) :
    Calls Tryz.prog 22 #[.slice a l.length cap, .slice a' t.length cap'] w fun e w' => ∃ a2 c2, e = .returned (.slice a2 (l.filter (matchB t)).length c2) ∧ Row w' a2 c2 (l.filter (matchB t)) ∧ Below w.heap.size w w' := by
  have hm := hr.max
  have hm2 := hr.le
  have h512 := hF.len
  have hmf : ∀ (fn : Fn) (first cap : Array Value) (w : World), (Instr.makeFunc fn first cap).run Tryz.prog w = .ok (.func fn first cap) w := fun _ _ _ _ => rfl
  have hb0 : Below w.heap.size w (w.alloc (.cells #[.slice a' t.length cap'] 23)) := (Below.refl _ _).new _
  have k0 : (w.alloc (.cells #[.slice a' t.length cap'] 23)).cell? ⟨w.heap.size, 0, none⟩ = some (.slice a' t.length cap') := World.cell?_alloc_at _ _ _ 0 rfl
  have ht0 := ht.below hb0
  have hr0 := hr.below hb0
  have HX := mkHid hF.small
  have HR : Hid (∀ x ∈ l, rightB x = true) := fun x hx => fact_right (hF.all x hx)
  have RT := mkHid rt
  clear hF rt
  go_enter Tryz.func22, Tryz.ntmps22
  go_wp2_with fail
  refine (picked_any 46 #[.pointer (some ⟨w.heap.size, 0, none⟩)] (matchB t) a cap l _ hr0 (by omega) HX.out (fun _ _ => by kernel_rfl) (fun W i hi a1 c1 hW h1 => find1_any w.heap.size W a1 c1 _ a' cap' t h1 (ht0.below hW) (HR.out _ (List.getElem_mem hi)) RT.out (keep k0 hW))).mono ?_
  rintro e w3 ⟨v, rfl, hacc, hb3⟩
  obtain ⟨a3, c3, rfl, hr3⟩ := hacc.row
  go_wp2_with fail
  go_ret
  exact ⟨a3, c3, rfl, hr3, hb0.then hb3⟩

set_option maxHeartbeats 1600000 in
set_option maxRecDepth 100000 in
theorem withoutF_any (a : Option Addr) (cap : Nat) (l : List (List Cel)) (a' : Option Addr) (cap' : Nat) (m : List (List Cel)) (w : World) (hr : Row w a cap l) (ht : Row w a' cap' m) (hF : FR l) (hG : FR m) :
    Calls Tryz.prog 44 #[.slice a l.length cap, .slice a' m.length cap'] w fun e w' => ∃ a2 c2, e = .returned (.slice a2 (lessF l m).length c2) ∧ Row w' a2 c2 (lessF l m) ∧ Below w.heap.size w w' := by
  have hm := hr.max
  have hm2 := hr.le
  have h512 := hF.len
  have hmf : ∀ (fn : Fn) (first cap : Array Value) (w : World), (Instr.makeFunc fn first cap).run Tryz.prog w = .ok (.func fn first cap) w := fun _ _ _ _ => rfl
  have hb0 : Below w.heap.size w (w.alloc (.cells #[.slice a' m.length cap'] 22)) := (Below.refl _ _).new _
  have k0 : (w.alloc (.cells #[.slice a' m.length cap'] 22)).cell? ⟨w.heap.size, 0, none⟩ = some (.slice a' m.length cap') := World.cell?_alloc_at _ _ _ 0 rfl
  have ht0 := ht.below hb0
  have hr0 := hr.below hb0
  have HX := mkHid hF.small
  have HG := mkHid hG
  clear hF hG
  go_enter Tryz.func44, Tryz.ntmps44
  go_wp2_with fail
  refine (picked_any 65 #[.pointer (some ⟨w.heap.size, 0, none⟩)] (fun x => !decide (x ∈ m)) a cap l _ hr0 (by omega) HX.out (fun _ _ => by kernel_rfl) (fun W i hi a1 c1 hW h1 => without1_any w.heap.size W a1 c1 _ a' cap' m h1 (ht0.below hW) HG.out (keep k0 hW))).mono ?_
  rintro e w3 ⟨v, rfl, hacc, hb3⟩
  obtain ⟨a3, c3, rfl, hr3⟩ := hacc.row
  go_wp2_with fail
  go_ret
  exact ⟨a3, c3, rfl, hr3, hb0.then hb3⟩

set_option maxHeartbeats 1600000 in
set_option maxRecDepth 100000 in
theorem diffF_any (a : Option Addr) (cap : Nat) (l : List (List Cel)) (a' : Option Addr) (cap' : Nat) (m : List (List Cel)) (w : World) (hr : Row w a cap l) (ht : Row w a' cap' m) (hF : FR l) (hG : FR m) :
    Calls Tryz.prog 17 #[.slice a l.length cap, .slice a' m.length cap'] w fun e w' => ∃ a2 c2 a3 c3, e = .returned (.tuple #[.slice a2 (lessF m l).length c2, .slice a3 (lessF l m).length c3]) ∧ Row w' a2 c2 (lessF m l) ∧ Row w' a3 c3 (lessF l m) ∧ Below w.heap.size w w' := by
  have HF := mkHid hF
  have HG := mkHid hG
  clear hF hG
  go_enter Tryz.func17, Tryz.ntmps17
  go_wp2_with fail
  refine (withoutF_any a' cap' m a cap l w ht hr HG.out HF.out).mono ?_; rintro e w1 ⟨a1, c1, rfl, hr1, hb1⟩
  go_wp2_with fail
  with_reducible refine (withoutF_any a cap l a' cap' m w1 (hr.below hb1) (ht.below hb1) HF.out HG.out).mono ?_
  rintro e w2 ⟨a2, c2, rfl, hr2, hb2⟩
  go_wp2_with fail
  go_ret2
  exact ⟨a1, c1, a2, c2, rfl, hr1.below hb2, hr2, hb1.then hb2⟩
end Go.Proofs.YtmmnfkggfnokjaaGreat
namespace Go.Proofs.YtmmnfkggfnokjaaGreat
open Go.RowKit

/-! ### facts that are made of any cells -/
def gndC (c : Cel) : Cel := if c.k = 1 then ⟨2, ⟨#[]⟩, c.n⟩ else c
theorem gnd_fit {c : Cel} (h : c.fit) : (gndC c).fit := by
  unfold gndC
  split
  · exact ⟨by show (-9223372036854775808 : Int) ≤ 2; omega, by show (2 : Int) ≤ _; omega, h.n1, h.n2, by show (0 : Nat) ≤ _; omega⟩
  · exact h
theorem gnd_ok {c : Cel} (h : cellOk c = true) : cellOk (gndC c) = true ∧ ar (gndC c) = ar c := by
  unfold gndC
  split
  · next h1 =>
    constructor
    · unfold cellOk at h ⊢
      simp [h1] at h ⊢
      omega
    · unfold ar; simp [h1]
  · exact ⟨h, rfl⟩
theorem gnd_k (c : Cel) : (gndC c).k ≠ 1 := by
  unfold gndC
  split
  · simp
  · assumption
/-- a right term that begins with a name, without variables -/
theorem gnd_fact {t : Tm} (ht : t.ok) (hl : t.flat.length ≤ 200) (hf : funB t.flat = true) : (mapT gndC t).ok ∧ (mapT gndC t).flat = t.flat.map gndC ∧ (mapT gndC t).depth = t.depth ∧ (t.depth ≤ 12 → factB (t.flat.map gndC) = true) := by
  have h1 : (mapT gndC t).ok := mapT_ok gndC t ht (fun c hc => gnd_ok (ok_cells t ht c hc))
  have h2 := mapT_flat gndC t
  have h3 := mapT_depth gndC t
  refine ⟨h1, h2, h3, fun hd => ?_⟩
  rw [← h2]
  refine fact_flat h1 (by rw [h2, List.length_map]; exact hl) ?_ ?_ (by rw [h3]; exact hd)
  · cases t with
    | mk c ts =>
      have hk : c.k = 3 := by simpa [Tm.flat, funB] using hf
      show (gndC c).k = 3
      unfold gndC
      rw [if_neg (by omega)]; exact hk
  · rw [h2]
    unfold groundB
    rw [List.all_eq_true]
    intro c hc
    obtain ⟨d, _, rfl⟩ := List.mem_map.1 hc
    simp [gnd_k d]
def aL : List Cel := [⟨3, ⟨#[97]⟩, 0⟩]
theorem aL_fact : factB aL = true := by
  have h : (Tm.mk ⟨3, ⟨#[97]⟩, 0⟩ []).ok := ⟨by decide +kernel, rfl, trivial⟩
  exact fact_flat h (by simp [Tm.flat, flats]) rfl (by decide +kernel) (by simp [Tm.depth, depths])
theorem aL_row (w : World) : Row (w.alloc (.cells #[.int .i64 3, .string ⟨#[97]⟩, .int .i64 0] 42)) (some ⟨w.heap.size, 0, none⟩) 1 aL := by
  have := row_new w #[.int .i64 3, .string ⟨#[97]⟩, .int .i64 0] (42, 0) (xs := aL) (CRows.single (w := _) (x := (⟨3, ⟨#[97]⟩, 0⟩ : Cel)) ⟨rfl, aC_fit⟩) (by simp [aL])
  simpa [aL] using this

set_option maxHeartbeats 1600000 in
set_option maxRecDepth 100000 in
theorem atom3_any (a : Option Addr) (cap : Nat) (w : World) (xs : List Cel) (hx : Row w a cap xs) (most : Nat) (hm1 : 1 ≤ most) (hm2 : most ≤ 200) :
    Calls Tryz.prog 15 #[.slice a xs.length cap, .int .i64 most] w fun e w' => ∃ a' cap' ys, e = .returned (.slice a' ys.length cap') ∧ Row w' a' cap' ys ∧ rightB ys = true ∧ funB ys = true ∧ ys.length ≤ most ∧ Below w.heap.size w w' := by
  go_enter Tryz.func15, Tryz.ntmps15
  go_wp2_with fail
  refine (made_any a cap w xs hx most hm1 hm2).mono ?_
  rintro e w1 ⟨a1, c1, ys, rfl, hr1, hR, hl, hb1⟩
  have h0 : 0 < ys.length := by obtain ⟨t, _, hxt, _⟩ := right_tm hR; rw [hxt]; exact flat_pos t
  obtain ⟨b, off, rfl, hb, hat⟩ := hr1.cases.resolve_left (fun e => by simp [e] at h0)
  obtain ⟨c0, _, _, _⟩ := cel_at hat (Below.refl _ _) h0
  simp only [Nat.zero_mul, Nat.add_zero] at c0
  have hmx := hr1.max
  have hle := hr1.le
  have HR := mkHid hR
  clear hR
  by_cases h3 : ys[0].k = 3
  · have t3 : (ys[0].k == 3) = true := by simp [h3]
    have HF : Hid (funB ys = true) := by
      unfold Hid
      cases ys with
      | nil => simp at h0
      | cons c l => simpa [funB] using h3
    clear h3
    go_wp2_with fail
    go_ret
    exact ⟨_, c1, ys, rfl, hr1, HR.out, HF.out, hl, hb1⟩
  · have t3 : (ys[0].k == 3) = false := by simp [h3]
    clear h3
    go_wp2_with fail
    go_ret
    exact ⟨_, 1, aL, rfl, aL_row w1, fact_right aL_fact, rfl, hm1, hb1.new _⟩

theorem flat_set3 (xs : List Cel) (i : Nat) (hi : i < xs.length) (c : Cel) : (((flat xs).set (i * 3) (.int .i64 c.k)).set (i * 3 + 1) (.string c.s)).set (i * 3 + 2) (.int .i64 c.n) = flat (xs.set i c) := by
  induction xs generalizing i with
  | nil => simp at hi
  | cons d xs ih =>
    cases i with
    | zero => simp [flat]
    | succ i =>
      have := ih i (by simpa using hi)
      have hf : flat (d :: xs) = .int .i64 d.k :: .string d.s :: .int .i64 d.n :: flat xs := rfl
      rw [List.set_cons_succ, hf, show (i + 1) * 3 = i * 3 + 1 + 1 + 1 by omega]
      have hf2 : flat (d :: xs.set i c) = .int .i64 d.k :: .string d.s :: .int .i64 d.n :: flat (xs.set i c) := rfl
      rw [hf2, ← this]
      simp only [List.set_cons_succ, Nat.add_right_comm _ 1]
theorem own_store3 {w : World} {B e g n cap : Nat} {f : Cel → Cel} {xs : List Cel} {k : Nat} (h : w.ownsRow B e 3 (.slice (some ⟨g, 0, none⟩) n cap) n (flat (upTo f xs k))) (hk : k < xs.length) {c : Cel} (hf : f xs[k] = c) :
    (((w.setCell ⟨g, k * 3, none⟩ (.int .i64 c.k)).setCell ⟨g, k * 3 + 1, none⟩ (.string c.s)).setCell ⟨g, k * 3 + 2, none⟩ (.int .i64 c.n)).ownsRow B e 3 (.slice (some ⟨g, 0, none⟩) n cap) n (flat (upTo f xs (k + 1))) := by
  have h1 := (h.stored (k * 3) (.int .i64 c.k)).1
  have h2 := (h1.stored (k * 3 + 1) (.string c.s)).1
  have h3 := (h2.stored (k * 3 + 2) (.int .i64 c.n)).1
  have hl : k < (upTo f xs k).length := by rw [upTo_length]; exact hk
  rw [flat_set3 _ _ hl, ← hf, ← upTo_succ f xs hk] at h3
  rw [← hf]
  exact h3

theorem crows_cels {w : World} : ∀ {vs : List Value} {xs : List Cel}, CRows w vs xs → vs = flat xs ∧ ∀ c ∈ xs, c.fit
  | _, _, .nil => ⟨rfl, fun c h => by simp at h⟩
  | _, _, .cons hc hr => by
    obtain ⟨rfl, hf⟩ := hc
    obtain ⟨rfl, h2⟩ := crows_cels hr
    exact ⟨rfl, fun c h => by
      rcases List.mem_cons.1 h with rfl | h
      · exact hf
      · exact h2 c h⟩
theorem hide_bare {w : World} {g : Nat} {T : TypeId} {z : Nat × Nat} (h : w.heap[g]? = some (.cells #[] T z)) : Keeps w (hide (some g) w) := fun b o v hc => by
  by_cases hb : b = g
  · subst hb
    simp [World.cell?, h] at hc
  · exact hide_of_ne hb hc

set_option maxHeartbeats 3200000 in
set_option maxRecDepth 100000 in
theorem made12_any (a : Option Addr) (cap : Nat) (w : World) (xs : List Cel) (hx : Row w a cap xs) :
    Calls Tryz.prog 16 #[.slice a xs.length cap] w fun e w' => ∃ a' cap' ys, e = .returned (.slice a' ys.length cap') ∧ Row w' a' cap' ys ∧ factB ys = true ∧ ys.length ≤ 12 ∧ Below w.heap.size w w' := by
  have hb0 := (Below.refl w.heap.size w).new (.cells #[] 42)
  have hm0 := AccInv.made (α := Cel) (B := w.heap.size) (e := 42) (T := 42) w (Nat.le_refl _) rfl
  have hg0 : (w.alloc (.cells #[] 42)).heap[w.heap.size]? = some (.cells #[] 42 (0, 0)) := heap_alloc_new _ _
  have hx0 := hx.below hb0
  go_enter Tryz.func16, Tryz.ntmps16
  go_wp2_with fail
  refine (atom3_any a cap _ xs hx0 12 (by omega) (by omega)).mono ?_
  rintro e w1 ⟨a1, c1, ys, rfl, hr1, hR, hF, hl, hb1⟩
  have hacc1 := hm0.below hb1
  have hrh : Row (hide (some w.heap.size) w1) a1 c1 ys := hr1.keeps (hide_bare ((hb1.block _ (by simp)).trans hg0))
  have hb01 := hb0.then hb1
  have hsz1 := hb01.size
  obtain ⟨t, ht, hxt, h200⟩ := right_tm hR
  have h0 : 0 < ys.length := by rw [hxt]; exact flat_pos t
  have HG := mkHid (gnd_fact ht (by rw [← hxt]; exact h200) (by rw [← hxt]; exact hF))
  have HX := mkHid hxt
  clear hR hF hxt ht h200
  go_wp2_with (at_builtin; refine wpList_accs (α := Cel) rfl _ _ 23 rfl w.heap.size 42 32 _ Tryz.underlying23 Tryz.infoCell rfl (by decide) _ [] hacc1 (by rfl) _ _ ys hrh (by rfl) (by simp; omega) hsz1 ?_; intro v9 w9 hacc9 hb9)
  rw [List.nil_append] at hacc9
  obtain ⟨vs, hown, hcr⟩ := hacc9.ex
  obtain ⟨rfl, hfit⟩ := crows_cels hcr
  have HFIT := mkHid hfit
  have hb09 := hb01.trans (hb9.mono (Nat.le_refl _))
  clear hacc9 hcr hfit hacc1 hm0 hg0 hb9
  obtain ⟨g, cp, rfl, hg1, hg2, hg3, hg4⟩ := own_form hown h0
  go_wp2_with fail
  go_loopw [4] (fun i wr => ∃ k : Nat, k ≤ ys.length ∧ i = .int .i64 k ∧ wr.ownsRow w.heap.size 42 3 (.slice (some ⟨g, 0, none⟩) ys.length cp) ys.length (flat (upTo gndC ys k)) ∧ Below w.heap.size w wr) (fun i wr => ys.length - (intOf i).toNat)
  case atStart => exact ⟨0, Nat.zero_le _, rfl, by rw [upTo_zero]; exact hown, hb09⟩
  case round =>
    clear hown
    obtain ⟨k, hk, rfl, hown, hbl⟩ := hrel
    have hgl := (hown.lt g rfl).2
    by_cases hlt : k < ys.length
    · obtain ⟨o0, o1, o2⟩ := own_cel hown (upTo_at _ _ hlt)
      have hz0 := own_free hown (k * 3)
      have hz1 := own_free hown (k * 3 + 1)
      have hz2 := own_free hown (k * 3 + 2)
      by_cases h1 : ys[k].k = 1
      · have t1 : (ys[k].k == 1) = true := by simp [h1]
        have hs := own_store3 hown hlt (show gndC ys[k] = ⟨2, ⟨#[]⟩, ys[k].n⟩ from if_pos h1)
        have HS := mkHid hs
        have HB := mkHid (((hbl.setCell (p := ⟨g, k * 3, none⟩) hg1 (.int .i64 2)).setCell (p := ⟨g, k * 3 + 1, none⟩) hg1 (.string ⟨#[]⟩)).setCell (p := ⟨g, k * 3 + 2, none⟩) hg1 (.int .i64 ys[k].n))
        clear h1 hs
        go_wp2
        go_round
        case rel => exact ⟨k + 1, by omega, by go_num, HS.out, HB.out⟩
        case measure => simp [intOf]; omega
      · have t1 : (ys[k].k == 1) = false := by simp [h1]
        have HE := mkHid (upTo_same gndC ys hlt (if_neg h1))
        clear h1
        go_wp2
        go_round
        case rel => exact ⟨k + 1, by omega, by go_num, by rw [HE.out]; exact hown, hbl⟩
        case measure => simp [intOf]; omega
    · have hu := upTo_all gndC ys (k := k) (by omega)
      rw [hu] at hown
      have hml : (ys.map gndC).length = ys.length := by simp
      have hfm : ∀ c ∈ ys.map gndC, c.fit := fun c hc => by
        obtain ⟨c', hc', rfl⟩ := List.mem_map.1 hc
        exact gnd_fit (HFIT.out c' hc')
      obtain ⟨a2, cap2, ev, hrow⟩ := own_row (xs := ys.map gndC) (by rw [hml]; exact hown) hfm
      rw [hml] at ev
      injection ev with ev1 _ ev2
      subst ev1
      subst ev2
      obtain ⟨d, hd⟩ : ∃ d, t.depth = d := ⟨_, rfl⟩
      have hflat : (mapT gndC t).flat = ys.map gndC := by rw [HG.out.2.1, HX.out]
      have hcall := refdepth_litF (n := ys.length) hflat HG.out.1 hml.symm (by rw [hml]; omega) hrow (d := d) (by rw [HG.out.2.2.1]; exact hd)
      have HC := mkHid hcall
      have HM := mkHid hml
      have HY : Hid (d ≤ 12 → factB (ys.map gndC) = true) := fun h => by
        have := HG.out.2.2.2 (by rw [hd]; exact h)
        rwa [← HX.out] at this
      have hdn : (d : Int) ≤ 12 := by
        have h1 := depth_le t
        rw [← HX.out] at h1; omega
      clear hcall hu hml hflat hd
      go_wp2_with (go_at_call 33; refine HC.out.mono ?_; rintro e w2 ⟨rfl, hb2⟩)
      go_ret
      exact ⟨some ⟨g, 0, none⟩, cp, ys.map gndC, by rw [HM.out]; rfl, hrow.below hb2, HY.out (by omega), by rw [HM.out]; omega, hbl.then hb2⟩

set_option maxHeartbeats 1600000 in
set_option maxRecDepth 100000 in
theorem row12_any (a : Option Addr) (cap : Nat) (w : World) (l : List (List Cel)) (hr : Row w a cap l) (most : Nat) (hm : most ≤ 512) :
    Calls Tryz.prog 10 #[.slice a l.length cap, .int .i64 most] w fun e w' => ∃ a' cap' ys, e = .returned (.slice a' ys.length cap') ∧ Row w' a' cap' ys ∧ FR ys ∧ ys.length ≤ most ∧ Below w.heap.size w w' := by
  have hmm := hr.max
  have hm2 := hr.le
  have hb0 := (Below.refl w.heap.size w).new (.cells #[] 23)
  go_enter Tryz.func10, Tryz.ntmps10
  go_wp2_with fail
  go_loopw [5, 6] (fun v i wr => ∃ (k : Nat) (ys : List (List Cel)) (a1 : Option Addr) (c1 : Nat), k ≤ l.length ∧ k ≤ most ∧ ys.length ≤ k ∧ i = .int .i64 k ∧ v = .slice a1 ys.length c1 ∧ Row wr a1 c1 ys ∧ Below w.heap.size w wr ∧ Hid (FR ys)) (fun v i wr => l.length - (intOf i).toNat)
  case atStart => exact ⟨0, [], _, _, Nat.zero_le _, Nat.zero_le _, Nat.le_refl _, rfl, rfl, Row.empty _ _ _ (by omega) (fun _ => rfl), hb0, FR.nil⟩
  case round =>
    obtain ⟨k, ys, a1, c1, hk, hkm, hyk, rfl, rfl, hry, hbl, HF⟩ := hrel
    by_cases hlt : k < l.length ∧ k < most
    · obtain ⟨hlt, hlm⟩ := hlt
      obtain ⟨b, off, rfl, hb, hat⟩ := hr.cases.resolve_left (fun e => by simp [e] at hlt)
      obtain ⟨a2, cap2, c0, hr1⟩ := list_at hat hbl hlt
      go_wp2_with fail
      refine (made12_any a2 cap2 wr l[k] hr1).mono ?_
      rintro e w1 ⟨a3, c3, zs, rfl, hr3, hQ, hzl, hb1⟩
      have HL := mkHid (addF_le (l := ys) zs)
      have HN := mkHid (HF.out.add zs)
      clear hQ
      go_wp2_with fail
      with_reducible refine (refaddF_any a1 c1 ys a3 c3 zs w1 (hry.below hb1) hr3 HF.out).mono ?_
      rintro e w2 ⟨a4, c4, rfl, hr4, hb2⟩
      go_wp2_with fail
      go_round
      case rel => exact ⟨k + 1, addF ys zs, a4, c4, by omega, by omega, by have := HL.out; omega, by go_num, rfl, hr4, (hbl.then hb1).then hb2, HN⟩
      case measure => simp [intOf]; omega
    · by_cases hkl : k < l.length
      · have hkm2 : ¬ k < most := fun h => hlt ⟨hkl, h⟩
        clear hlt
        go_wp2_with fail
        go_ret
        exact ⟨a1, c1, ys, rfl, hry, HF.out, by omega, hbl⟩
      · clear hlt
        go_wp2_with fail
        go_ret
        exact ⟨a1, c1, ys, rfl, hry, HF.out, by omega, hbl⟩
end Go.Proofs.YtmmnfkggfnokjaaGreat
namespace Go.Proofs.YtmmnfkggfnokjaaGreat
open Go.RowKit

/-! ### the head's terms -/
set_option maxHeartbeats 1600000 in
theorem p12_any (nm : ByteArray) (hs : nm.size ≤ 1000) (a : Option Addr) (cap : Nat) (w : World) (l : List Cel) (hr : Row w a cap l) (hl : l.length ≤ 1000) :
    Calls Tryz.prog 27 #[.string nm, .slice a l.length cap] w fun e w' => ∃ a' cap', e = .returned (.slice a' (l.length + 1) cap') ∧ Row w' a' cap' (⟨3, nm, l.length⟩ :: l) ∧ Below w.heap.size w w' := by
  have hm := hr.max
  have hle := hr.le
  have hcf : (⟨3, nm, l.length⟩ : Cel).fit := ⟨by simp, by simp, by show (-9223372036854775808 : Int) ≤ l.length; omega, by show (l.length : Int) ≤ 9223372036854775807; omega, by show nm.size ≤ _; omega⟩
  have hb0 := (Below.refl w.heap.size w).new (.cells #[.int .i64 3, .string nm, .int .i64 l.length] 42)
  have hown0 : (w.alloc (.cells #[.int .i64 3, .string nm, .int .i64 l.length] 42)).ownsRow w.heap.size 42 3 (.slice (some ⟨w.heap.size, 0, none⟩) 1 1) 1 (flat [⟨3, nm, l.length⟩]) := by
    have := World.ownsRow_lit (base := w.heap.size) (e := 42) (size := 3) w #[.int .i64 3, .string nm, .int .i64 l.length] 1 (Nat.le_refl _) (by unfold maxLen; omega) rfl
    simpa [flat] using this
  go_enter Tryz.func27, Tryz.ntmps27
  go_wp2_with (at_builtin; refine wpList_app rfl _ _ 23 rfl w.heap.size 42 3 32 _ Tryz.underlying23 Tryz.infoCell rfl (by decide) (by decide) _ _ _ rfl hown0 a l.length cap (flat l) rfl (hr.below hb0).src (by omega) hb0.size ?_; intro v3 w3 hown3 _ hb3)
  rw [← flat_append] at hown3
  obtain ⟨a2, cap2, rfl, hrow⟩ := own_row (xs := [⟨3, nm, l.length⟩] ++ l) (by rw [List.length_append, List.length_singleton]; exact hown3) (fun c hc => by
    rcases List.mem_append.1 hc with h | h
    · rw [List.mem_singleton] at h; rw [h]; exact hcf
    · exact hr.fit c h)
  go_wp2
  go_ret
  exact ⟨a2, cap2, by rw [List.length_append, Nat.add_comm]; rfl, hrow, hb0.trans hb3⟩
def cA : Cel := ⟨3, ⟨#[97]⟩, 0⟩
def cB : Cel := ⟨3, ⟨#[98]⟩, 0⟩
def cV : Cel := ⟨1, ⟨#[]⟩, 0⟩
def pA : List Cel := [⟨3, ⟨#[112]⟩, 1⟩, cA]
def pB : List Cel := [⟨3, ⟨#[112]⟩, 1⟩, cB]
def pV : List Cel := [⟨3, ⟨#[112]⟩, 1⟩, cV]
def qAA : List Cel := [⟨3, ⟨#[113]⟩, 2⟩, cA, cA]
def qAB : List Cel := [⟨3, ⟨#[113]⟩, 2⟩, cA, cB]
def qVV : List Cel := [⟨3, ⟨#[113]⟩, 2⟩, cV, cV]
def nO : List Cel := [⟨2, ⟨#[]⟩, 0⟩]
def l12 : List (List Cel) := [pA, pB, qAA]
theorem small_fact {n : ByteArray} {k : Int} {xs : List Cel} {ts : List Tm} (e : (Tm.mk ⟨3, n, k⟩ ts).flat = xs) (h : (Tm.mk ⟨3, n, k⟩ ts).ok) (hl : xs.length ≤ 200) (hg : groundB xs = true) (hd : (Tm.mk ⟨3, n, k⟩ ts).depth ≤ 12) : factB xs = true := by
  subst e; exact fact_flat h hl rfl hg hd
def tA : Tm := .mk cA []
def tB : Tm := .mk cB []
theorem pA_fact : factB pA = true := small_fact (n := ⟨#[112]⟩) (k := 1) (ts := [tA]) (by simp [Tm.flat, flats, tA, pA]) ⟨by decide +kernel, rfl, ⟨by decide +kernel, rfl, trivial⟩, trivial⟩ (by decide) (by decide +kernel) (by simp [Tm.depth, depths, tA])
theorem pB_fact : factB pB = true := small_fact (n := ⟨#[112]⟩) (k := 1) (ts := [tB]) (by simp [Tm.flat, flats, tB, pB]) ⟨by decide +kernel, rfl, ⟨by decide +kernel, rfl, trivial⟩, trivial⟩ (by decide) (by decide +kernel) (by simp [Tm.depth, depths, tB])
theorem qAA_fact : factB qAA = true := small_fact (n := ⟨#[113]⟩) (k := 2) (ts := [tA, tA]) (by simp [Tm.flat, flats, tA, qAA]) ⟨by decide +kernel, rfl, ⟨by decide +kernel, rfl, trivial⟩, ⟨by decide +kernel, rfl, trivial⟩, trivial⟩ (by decide) (by decide +kernel) (by simp [Tm.depth, depths, tA])
theorem qAB_fact : factB qAB = true := small_fact (n := ⟨#[113]⟩) (k := 2) (ts := [tA, tB]) (by simp [Tm.flat, flats, tA, tB, qAB]) ⟨by decide +kernel, rfl, ⟨by decide +kernel, rfl, trivial⟩, ⟨by decide +kernel, rfl, trivial⟩, trivial⟩ (by decide) (by decide +kernel) (by simp [Tm.depth, depths, tA, tB])
theorem pV_no : factB pV = false := by unfold factB; rw [show groundB pV = false by decide +kernel]; simp
theorem nO_no : factB nO = false := by unfold factB; rw [show funB nO = false by decide +kernel]; simp
theorem nil_no : factB [] = false := by unfold factB; rw [show rightB [] = false by decide +kernel]; simp
theorem l12_fr : FR l12 := ⟨by decide, fun x hx => by
  simp [l12] at hx
  rcases hx with rfl | rfl | rfl
  · exact pA_fact
  · exact pB_fact
  · exact qAA_fact, by
  simp only [l12, List.pairwise_cons, List.mem_cons, List.not_mem_nil, or_false, forall_eq_or_imp, forall_eq, false_imp_iff, implies_true, and_true, List.Pairwise.nil]
  decide +kernel⟩
theorem k12_add : addF (l12.drop 1) pA = l12 := by
  unfold addF; rw [pA_fact]; decide +kernel
theorem k12_addE : addE (l12.drop 1) pA = 0 := by
  unfold addE; rw [pA_fact]; decide +kernel
theorem k12_addV : addE [] pV = 120 := by unfold addE; rw [pV_no]; rfl
theorem k12_addVl : addF [] pV = [] := by unfold addF; rw [pV_no]; rfl
theorem k12_drop : dropF l12 pB = [pA, qAA] := by
  unfold dropF; rw [pB_fact]; decide +kernel
theorem k12_dropE : dropE l12 pB = 0 := by
  unfold dropE; rw [pB_fact]; decide +kernel
theorem k12_dropq : dropE l12 qAB = 3 := by
  unfold dropE; rw [qAB_fact]; decide +kernel
theorem k12_dropql : dropF l12 qAB = [] := by
  unfold dropF; rw [qAB_fact]; decide +kernel
theorem k12_dropn : dropE l12 nO = 120 := by unfold dropE; rw [nO_no]; rfl
theorem k12_dropnl : dropF l12 nO = [] := by unfold dropF; rw [nO_no]; rfl
theorem k12_addq : addF l12 qAA = l12 := by
  unfold addF; rw [qAA_fact]; decide +kernel
theorem k12_addqE : addE l12 qAA = 0 := by
  unfold addE; rw [qAA_fact]; decide +kernel
theorem k12_came : lessF (l12.drop 1) (l12.take 2) = [qAA] := by decide +kernel
theorem k12_went : lessF (l12.take 2) (l12.drop 1) = [pA] := by decide +kernel
theorem k12_right : frightB l12 = true := fright_iff.2 l12_fr
theorem k12_turn : frightB [pB, pA] = false := fright_no fun h => absurd (List.pairwise_cons.1 h.rise).1 (by simp; decide +kernel)
theorem k12_same : frightB [pA, pA] = false := fright_no fun h => absurd (List.pairwise_cons.1 h.rise).1 (by simp; decide +kernel)
theorem k12_findp : l12.filter (matchB pV) = l12.take 2 := by decide +kernel
theorem k12_findq : l12.filter (matchB qVV) = l12.drop 2 := by decide +kernel
section
variable {w : World} {a a' : Option Addr} {c c' n k : Nat} {l : List (List Cel)} {t : List Cel}
theorem add_is {m : List (List Cel)} {E : Int} {j : Nat} (hn : n = l.length) (hr : Row w a c l) (hk : k = t.length) (ht : Row w a' c' t) (hF : FR l) (hm : addF l t = m) (hE : addE l t = E) (hj : j = m.length) :
    Calls Tryz.prog 11 #[.slice a n c, .slice a' k c'] w fun e w' => ∃ a2 c2, e = .returned (.tuple #[.slice a2 j c2, .int .i64 E]) ∧ Row w' a2 c2 m ∧ Below w.heap.size w w' := by
  subst hn; subst hk; subst hm; subst hE; subst hj
  exact addF_any a c l a' c' t w hr ht hF
theorem drop_is {m : List (List Cel)} {E : Int} {j : Nat} (hn : n = l.length) (hr : Row w a c l) (hk : k = t.length) (ht : Row w a' c' t) (hF : FR l) (hm : dropF l t = m) (hE : dropE l t = E) (hj : j = m.length) :
    Calls Tryz.prog 13 #[.slice a n c, .slice a' k c'] w fun e w' => ∃ a2 c2, e = .returned (.tuple #[.slice a2 j c2, .int .i64 E]) ∧ Row w' a2 c2 m ∧ Below w.heap.size w w' := by
  subst hn; subst hk; subst hm; subst hE; subst hj
  exact dropF_any a c l a' c' t w hr ht hF
theorem find_is {m : List (List Cel)} {j : Nat} (hn : n = l.length) (hr : Row w a c l) (hk : k = t.length) (ht : Row w a' c' t) (hF : FR l) (rt : rightB t = true) (hm : l.filter (matchB t) = m) (hj : j = m.length) :
    Calls Tryz.prog 22 #[.slice a n c, .slice a' k c'] w fun e w' => ∃ a2 c2, e = .returned (.slice a2 j c2) ∧ Row w' a2 c2 m ∧ Below w.heap.size w w' := by
  subst hn; subst hk; subst hm; subst hj
  exact findF_any a c l a' c' t w hr ht hF rt
theorem diff_is {m x y : List (List Cel)} {i j : Nat} (hn : n = l.length) (hr : Row w a c l) (hk : k = m.length) (ht : Row w a' c' m) (hF : FR l) (hG : FR m) (hx : lessF m l = x) (hy : lessF l m = y) (hi : i = x.length) (hj : j = y.length) :
    Calls Tryz.prog 17 #[.slice a n c, .slice a' k c'] w fun e w' => ∃ a2 c2 a3 c3, e = .returned (.tuple #[.slice a2 i c2, .slice a3 j c3]) ∧ Row w' a2 c2 x ∧ Row w' a3 c3 y ∧ Below w.heap.size w w' := by
  subst hn; subst hk; subst hx; subst hy; subst hi; subst hj
  exact diffF_any a c l a' c' m w hr ht hF hG
theorem frightL_is {b : Bool} (hn : n = l.length) (hr : Row w a c l) (hb : frightB l = b) :
    Calls Tryz.prog 8 #[.slice a n c] w fun e w' => e = .returned (.bool b) ∧ Below w.heap.size w w' := by
  subst hn; subst hb; exact fright_any a c w l hr
theorem factL_is {b : Bool} (hk : k = t.length) (ht : Row w a' c' t) (hb : factB t = b) :
    Calls Tryz.prog 6 #[.slice a' k c'] w fun e w' => e = .returned (.bool b) ∧ Below w.heap.size w w' := by
  subst hk; subst hb; exact fact_any a' c' w t ht
theorem hasL_is {b : Bool} (hn : n = l.length) (hr : Row w a c l) (hk : k = t.length) (ht : Row w a' c' t) (hF : FR l) (hb : decide (t ∈ l) = b) :
    Calls Tryz.prog 20 #[.slice a n c, .slice a' k c'] w fun e w' => e = .returned (.bool b) ∧ Below w.heap.size w w' := by
  subst hn; subst hk; subst hb; exact hasF_any a c l a' c' t w hr ht hF
theorem same12_is {m : List (List Cel)} {b : Bool} (hn : n = l.length) (hr : Row w a c l) (hk : k = m.length) (ht : Row w a' c' m) (hb : decide (l = m) = b) :
    Calls Tryz.prog 19 #[.slice a n c, .slice a' k c'] w fun e w' => e = .returned (.bool b) ∧ Below w.heap.size w w' := by
  subst hn; subst hk; subst hb; exact refsame12_any a c a' c' w l m hr ht
theorem p12_is {nm : ByteArray} {cl : Cel} {j : Nat} (hs : nm.size ≤ 1000) (hk : k = t.length) (ht : Row w a' c' t) (hl : t.length ≤ 1000) (hc : (⟨3, nm, t.length⟩ : Cel) = cl) (hj : j = t.length + 1) :
    Calls Tryz.prog 27 #[.string nm, .slice a' k c'] w fun e w' => ∃ a2 c2, e = .returned (.slice a2 j c2) ∧ Row w' a2 c2 (cl :: t) ∧ Below w.heap.size w w' := by
  subst hk; subst hc; subst hj; exact p12_any nm hs a' c' w t ht hl
end
end Go.Proofs.YtmmnfkggfnokjaaGreat
namespace Go.Proofs.YtmmnfkggfnokjaaGreat
open Go.RowKit
/-! the drawn region at the head's end -/
set_option maxRecDepth 100000 in
def r10Ops : Array Oper := #[
  { dst := some 89, op := Op.move (Operand.tmp 4), type := 22, pos := "law.go:31", after := #[], guard := none },
  { dst := some 90, op := Op.call { callee := Callee.value (Operand.func 8), args := #[Operand.tmp 89], argTypes := #[22] }, type := 4, pos := "law.go:31", after := #[{ on := 0, ground := Ground.data }], guard := none },
  { dst := some 91, op := Op.move (Operand.tmp 90), type := 4, pos := "law.go:31", after := #[{ on := 1, ground := Ground.data }, { on := 1, ground := Ground.chain }], guard := none },
  { dst := some 92, op := Op.move (Operand.tmp 4), type := 22, pos := "law.go:31", after := #[{ on := 2, ground := Ground.guard }], guard := some (2, true) },
  { dst := some 93, op := Op.indexAddr 22 (Operand.tmp 92) (Operand.const (Value.int IntKind.i64 1)), type := 0, pos := "law.go:31", after := #[{ on := 3, ground := Ground.data }, { on := 2, ground := Ground.guard }], guard := some (2, true) },
  { dst := some 94, op := Op.load 23 (Operand.tmp 93), type := 23, pos := "law.go:31", after := #[{ on := 4, ground := Ground.data }, { on := 2, ground := Ground.guard }], guard := some (2, true) },
  { dst := some 95, op := Op.move (Operand.tmp 4), type := 22, pos := "law.go:31", after := #[{ on := 2, ground := Ground.guard }], guard := some (2, true) },
  { dst := some 96, op := Op.indexAddr 22 (Operand.tmp 95) (Operand.const (Value.int IntKind.i64 0)), type := 0, pos := "law.go:31", after := #[{ on := 6, ground := Ground.data }, { on := 2, ground := Ground.guard }], guard := some (2, true) },
  { dst := some 97, op := Op.load 23 (Operand.tmp 96), type := 23, pos := "law.go:31", after := #[{ on := 7, ground := Ground.data }, { on := 2, ground := Ground.guard }], guard := some (2, true) },
  { dst := some 98, op := Op.buildSlice 22 2 #[(0, Operand.tmp 94), (1, Operand.tmp 97)], type := 22, pos := "law.go:31", after := #[{ on := 5, ground := Ground.data }, { on := 8, ground := Ground.data }, { on := 2, ground := Ground.guard }], guard := some (2, true) },
  { dst := some 99, op := Op.call { callee := Callee.value (Operand.func 8), args := #[Operand.tmp 98], argTypes := #[22] }, type := 4, pos := "law.go:31", after := #[{ on := 9, ground := Ground.data }, { on := 2, ground := Ground.chain }, { on := 2, ground := Ground.guard }], guard := some (2, true) },
  { dst := some 100, op := Op.unOp UnOp.not 4 (Operand.tmp 99), type := 4, pos := "law.go:31", after := #[{ on := 10, ground := Ground.data }, { on := 2, ground := Ground.guard }], guard := some (2, true) },
  { dst := some 101, op := Op.pick (Operand.tmp 91) (Operand.tmp 100) (Operand.const (Value.bool false)), type := 4, pos := "law.go:31", after := #[{ on := 2, ground := Ground.data }, { on := 11, ground := Ground.data }], guard := none },
  { dst := some 102, op := Op.move (Operand.tmp 101), type := 4, pos := "law.go:31", after := #[{ on := 12, ground := Ground.data }, { on := 10, ground := Ground.chain }], guard := none },
  { dst := some 103, op := Op.move (Operand.tmp 4), type := 22, pos := "law.go:31", after := #[{ on := 13, ground := Ground.guard }], guard := some (13, true) },
  { dst := some 104, op := Op.indexAddr 22 (Operand.tmp 103) (Operand.const (Value.int IntKind.i64 0)), type := 0, pos := "law.go:31", after := #[{ on := 14, ground := Ground.data }, { on := 13, ground := Ground.guard }], guard := some (13, true) },
  { dst := some 105, op := Op.load 23 (Operand.tmp 104), type := 23, pos := "law.go:31", after := #[{ on := 15, ground := Ground.data }, { on := 13, ground := Ground.guard }], guard := some (13, true) },
  { dst := some 106, op := Op.move (Operand.tmp 4), type := 22, pos := "law.go:31", after := #[{ on := 13, ground := Ground.guard }], guard := some (13, true) },
  { dst := some 107, op := Op.indexAddr 22 (Operand.tmp 106) (Operand.const (Value.int IntKind.i64 0)), type := 0, pos := "law.go:31", after := #[{ on := 17, ground := Ground.data }, { on := 13, ground := Ground.guard }], guard := some (13, true) },
  { dst := some 108, op := Op.load 23 (Operand.tmp 107), type := 23, pos := "law.go:31", after := #[{ on := 18, ground := Ground.data }, { on := 13, ground := Ground.guard }], guard := some (13, true) },
  { dst := some 109, op := Op.buildSlice 22 2 #[(0, Operand.tmp 105), (1, Operand.tmp 108)], type := 22, pos := "law.go:31", after := #[{ on := 16, ground := Ground.data }, { on := 19, ground := Ground.data }, { on := 13, ground := Ground.guard }], guard := some (13, true) },
  { dst := some 110, op := Op.call { callee := Callee.value (Operand.func 8), args := #[Operand.tmp 109], argTypes := #[22] }, type := 4, pos := "law.go:31", after := #[{ on := 20, ground := Ground.data }, { on := 13, ground := Ground.chain }, { on := 13, ground := Ground.guard }], guard := some (13, true) },
  { dst := some 111, op := Op.unOp UnOp.not 4 (Operand.tmp 110), type := 4, pos := "law.go:31", after := #[{ on := 21, ground := Ground.data }, { on := 13, ground := Ground.guard }], guard := some (13, true) },
  { dst := some 112, op := Op.pick (Operand.tmp 102) (Operand.tmp 111) (Operand.const (Value.bool false)), type := 4, pos := "law.go:31", after := #[{ on := 13, ground := Ground.data }, { on := 22, ground := Ground.data }], guard := none },
  { dst := some 113, op := Op.move (Operand.tmp 112), type := 4, pos := "law.go:31", after := #[{ on := 23, ground := Ground.data }, { on := 21, ground := Ground.chain }], guard := none },
  { dst := some 114, op := Op.move (Operand.tmp 4), type := 22, pos := "law.go:31", after := #[{ on := 24, ground := Ground.guard }], guard := some (24, true) },
  { dst := some 115, op := Op.indexAddr 22 (Operand.tmp 114) (Operand.const (Value.int IntKind.i64 2)), type := 0, pos := "law.go:31", after := #[{ on := 25, ground := Ground.data }, { on := 24, ground := Ground.guard }], guard := some (24, true) },
  { dst := some 116, op := Op.load 23 (Operand.tmp 115), type := 23, pos := "law.go:31", after := #[{ on := 26, ground := Ground.data }, { on := 24, ground := Ground.guard }], guard := some (24, true) },
  { dst := some 117, op := Op.call { callee := Callee.value (Operand.func 6), args := #[Operand.tmp 116], argTypes := #[23] }, type := 4, pos := "law.go:31", after := #[{ on := 27, ground := Ground.data }, { on := 24, ground := Ground.chain }, { on := 24, ground := Ground.guard }], guard := some (24, true) },
  { dst := some 118, op := Op.pick (Operand.tmp 113) (Operand.tmp 117) (Operand.const (Value.bool false)), type := 4, pos := "law.go:31", after := #[{ on := 24, ground := Ground.data }, { on := 28, ground := Ground.data }], guard := none },
  { dst := some 119, op := Op.move (Operand.tmp 118), type := 4, pos := "law.go:31", after := #[{ on := 29, ground := Ground.data }, { on := 28, ground := Ground.chain }], guard := none },
  { dst := some 120, op := Op.call { callee := Callee.value (Operand.func 6), args := #[Operand.const (Value.slice none 0 0)], argTypes := #[23] }, type := 4, pos := "law.go:31", after := #[{ on := 30, ground := Ground.chain }, { on := 30, ground := Ground.guard }], guard := some (30, true) },
  { dst := some 121, op := Op.unOp UnOp.not 4 (Operand.tmp 120), type := 4, pos := "law.go:31", after := #[{ on := 31, ground := Ground.data }, { on := 30, ground := Ground.guard }], guard := some (30, true) },
  { dst := some 122, op := Op.pick (Operand.tmp 119) (Operand.tmp 121) (Operand.const (Value.bool false)), type := 4, pos := "law.go:31", after := #[{ on := 30, ground := Ground.data }, { on := 32, ground := Ground.data }], guard := none },
  { dst := some 123, op := Op.move (Operand.tmp 122), type := 4, pos := "law.go:31", after := #[{ on := 33, ground := Ground.data }, { on := 31, ground := Ground.chain }], guard := none },
  { dst := some 124, op := Op.move (Operand.tmp 5), type := 22, pos := "law.go:31", after := #[{ on := 34, ground := Ground.guard }], guard := some (34, true) },
  { dst := some 125, op := Op.move (Operand.tmp 4), type := 22, pos := "law.go:31", after := #[{ on := 34, ground := Ground.guard }], guard := some (34, true) },
  { dst := some 126, op := Op.call { callee := Callee.value (Operand.func 19), args := #[Operand.tmp 124, Operand.tmp 125], argTypes := #[22, 22] }, type := 4, pos := "law.go:31", after := #[{ on := 35, ground := Ground.data }, { on := 36, ground := Ground.data }, { on := 34, ground := Ground.chain }, { on := 34, ground := Ground.guard }], guard := some (34, true) },
  { dst := some 127, op := Op.pick (Operand.tmp 123) (Operand.tmp 126) (Operand.const (Value.bool false)), type := 4, pos := "law.go:31", after := #[{ on := 34, ground := Ground.data }, { on := 37, ground := Ground.data }], guard := none },
  { dst := some 128, op := Op.move (Operand.tmp 127), type := 4, pos := "law.go:31", after := #[{ on := 38, ground := Ground.data }, { on := 37, ground := Ground.chain }], guard := none },
  { dst := some 129, op := Op.move (Operand.tmp 6), type := 29, pos := "law.go:31", after := #[{ on := 39, ground := Ground.guard }], guard := some (39, true) },
  { dst := some 130, op := Op.binOp BinOp.eql 29 (Operand.tmp 129) (Operand.const (Value.int IntKind.i64 0)) 29, type := 4, pos := "law.go:31", after := #[{ on := 40, ground := Ground.data }, { on := 39, ground := Ground.guard }], guard := some (39, true) },
  { dst := some 131, op := Op.pick (Operand.tmp 128) (Operand.tmp 130) (Operand.const (Value.bool false)), type := 4, pos := "law.go:31", after := #[{ on := 39, ground := Ground.data }, { on := 41, ground := Ground.data }], guard := none },
  { dst := some 132, op := Op.move (Operand.tmp 131), type := 4, pos := "law.go:31", after := #[{ on := 42, ground := Ground.data }, { on := 39, ground := Ground.chain }], guard := none },
  { dst := some 133, op := Op.move (Operand.tmp 8), type := 29, pos := "law.go:31", after := #[{ on := 43, ground := Ground.guard }], guard := some (43, true) },
  { dst := some 134, op := Op.binOp BinOp.eql 29 (Operand.tmp 133) (Operand.const (Value.int IntKind.i64 120)) 29, type := 4, pos := "law.go:31", after := #[{ on := 44, ground := Ground.data }, { on := 43, ground := Ground.guard }], guard := some (43, true) },
  { dst := some 135, op := Op.pick (Operand.tmp 132) (Operand.tmp 134) (Operand.const (Value.bool false)), type := 4, pos := "law.go:31", after := #[{ on := 43, ground := Ground.data }, { on := 45, ground := Ground.data }], guard := none },
  { dst := some 136, op := Op.move (Operand.tmp 135), type := 4, pos := "law.go:31", after := #[{ on := 46, ground := Ground.data }, { on := 43, ground := Ground.chain }], guard := none },
  { dst := some 137, op := Op.move (Operand.tmp 9), type := 22, pos := "law.go:31", after := #[{ on := 47, ground := Ground.guard }], guard := some (47, true) },
  { dst := some 138, op := Op.move (Operand.tmp 4), type := 22, pos := "law.go:31", after := #[{ on := 47, ground := Ground.guard }], guard := some (47, true) },
  { dst := some 139, op := Op.indexAddr 22 (Operand.tmp 138) (Operand.const (Value.int IntKind.i64 0)), type := 0, pos := "law.go:31", after := #[{ on := 49, ground := Ground.data }, { on := 47, ground := Ground.guard }], guard := some (47, true) },
  { dst := some 140, op := Op.load 23 (Operand.tmp 139), type := 23, pos := "law.go:31", after := #[{ on := 50, ground := Ground.data }, { on := 47, ground := Ground.guard }], guard := some (47, true) },
  { dst := some 141, op := Op.move (Operand.tmp 4), type := 22, pos := "law.go:31", after := #[{ on := 47, ground := Ground.guard }], guard := some (47, true) },
  { dst := some 142, op := Op.indexAddr 22 (Operand.tmp 141) (Operand.const (Value.int IntKind.i64 2)), type := 0, pos := "law.go:31", after := #[{ on := 52, ground := Ground.data }, { on := 47, ground := Ground.guard }], guard := some (47, true) },
  { dst := some 143, op := Op.load 23 (Operand.tmp 142), type := 23, pos := "law.go:31", after := #[{ on := 53, ground := Ground.data }, { on := 47, ground := Ground.guard }], guard := some (47, true) },
  { dst := some 144, op := Op.buildSlice 22 2 #[(0, Operand.tmp 140), (1, Operand.tmp 143)], type := 22, pos := "law.go:31", after := #[{ on := 51, ground := Ground.data }, { on := 54, ground := Ground.data }, { on := 47, ground := Ground.guard }], guard := some (47, true) },
  { dst := some 145, op := Op.call { callee := Callee.value (Operand.func 19), args := #[Operand.tmp 137, Operand.tmp 144], argTypes := #[22, 22] }, type := 4, pos := "law.go:31", after := #[{ on := 48, ground := Ground.data }, { on := 55, ground := Ground.data }, { on := 47, ground := Ground.chain }, { on := 47, ground := Ground.guard }], guard := some (47, true) },
  { dst := some 146, op := Op.pick (Operand.tmp 136) (Operand.tmp 145) (Operand.const (Value.bool false)), type := 4, pos := "law.go:31", after := #[{ on := 47, ground := Ground.data }, { on := 56, ground := Ground.data }], guard := none },
  { dst := some 147, op := Op.move (Operand.tmp 146), type := 4, pos := "law.go:31", after := #[{ on := 57, ground := Ground.data }, { on := 56, ground := Ground.chain }], guard := none },
  { dst := some 148, op := Op.move (Operand.tmp 10), type := 29, pos := "law.go:31", after := #[{ on := 58, ground := Ground.guard }], guard := some (58, true) },
  { dst := some 149, op := Op.binOp BinOp.eql 29 (Operand.tmp 148) (Operand.const (Value.int IntKind.i64 0)) 29, type := 4, pos := "law.go:31", after := #[{ on := 59, ground := Ground.data }, { on := 58, ground := Ground.guard }], guard := some (58, true) },
  { dst := some 150, op := Op.pick (Operand.tmp 147) (Operand.tmp 149) (Operand.const (Value.bool false)), type := 4, pos := "law.go:31", after := #[{ on := 58, ground := Ground.data }, { on := 60, ground := Ground.data }], guard := none },
  { dst := some 151, op := Op.move (Operand.tmp 150), type := 4, pos := "law.go:31", after := #[{ on := 61, ground := Ground.data }, { on := 58, ground := Ground.chain }], guard := none },
  { dst := some 152, op := Op.move (Operand.tmp 12), type := 29, pos := "law.go:31", after := #[{ on := 62, ground := Ground.guard }], guard := some (62, true) },
  { dst := some 153, op := Op.binOp BinOp.eql 29 (Operand.tmp 152) (Operand.const (Value.int IntKind.i64 3)) 29, type := 4, pos := "law.go:31", after := #[{ on := 63, ground := Ground.data }, { on := 62, ground := Ground.guard }], guard := some (62, true) },
  { dst := some 154, op := Op.pick (Operand.tmp 151) (Operand.tmp 153) (Operand.const (Value.bool false)), type := 4, pos := "law.go:31", after := #[{ on := 62, ground := Ground.data }, { on := 64, ground := Ground.data }], guard := none },
  { dst := some 155, op := Op.move (Operand.tmp 154), type := 4, pos := "law.go:31", after := #[{ on := 65, ground := Ground.data }, { on := 62, ground := Ground.chain }], guard := none },
  { dst := some 156, op := Op.move (Operand.tmp 14), type := 29, pos := "law.go:31", after := #[{ on := 66, ground := Ground.guard }], guard := some (66, true) },
  { dst := some 157, op := Op.binOp BinOp.eql 29 (Operand.tmp 156) (Operand.const (Value.int IntKind.i64 120)) 29, type := 4, pos := "law.go:31", after := #[{ on := 67, ground := Ground.data }, { on := 66, ground := Ground.guard }], guard := some (66, true) },
  { dst := some 158, op := Op.pick (Operand.tmp 155) (Operand.tmp 157) (Operand.const (Value.bool false)), type := 4, pos := "law.go:31", after := #[{ on := 66, ground := Ground.data }, { on := 68, ground := Ground.data }], guard := none },
  { dst := some 159, op := Op.move (Operand.tmp 158), type := 4, pos := "law.go:31", after := #[{ on := 69, ground := Ground.data }, { on := 66, ground := Ground.chain }], guard := none },
  { dst := some 160, op := Op.move (Operand.tmp 15), type := 22, pos := "law.go:31", after := #[{ on := 70, ground := Ground.guard }], guard := some (70, true) },
  { dst := some 161, op := Op.move (Operand.tmp 4), type := 22, pos := "law.go:31", after := #[{ on := 70, ground := Ground.guard }], guard := some (70, true) },
  { dst := some 162, op := Op.call { callee := Callee.value (Operand.func 19), args := #[Operand.tmp 160, Operand.tmp 161], argTypes := #[22, 22] }, type := 4, pos := "law.go:31", after := #[{ on := 71, ground := Ground.data }, { on := 72, ground := Ground.data }, { on := 70, ground := Ground.chain }, { on := 70, ground := Ground.guard }], guard := some (70, true) },
  { dst := some 163, op := Op.pick (Operand.tmp 159) (Operand.tmp 162) (Operand.const (Value.bool false)), type := 4, pos := "law.go:31", after := #[{ on := 70, ground := Ground.data }, { on := 73, ground := Ground.data }], guard := none },
  { dst := some 164, op := Op.move (Operand.tmp 163), type := 4, pos := "law.go:31", after := #[{ on := 74, ground := Ground.data }, { on := 73, ground := Ground.chain }], guard := none },
  { dst := some 165, op := Op.move (Operand.tmp 16), type := 29, pos := "law.go:31", after := #[{ on := 75, ground := Ground.guard }], guard := some (75, true) },
  { dst := some 166, op := Op.binOp BinOp.eql 29 (Operand.tmp 165) (Operand.const (Value.int IntKind.i64 0)) 29, type := 4, pos := "law.go:31", after := #[{ on := 76, ground := Ground.data }, { on := 75, ground := Ground.guard }], guard := some (75, true) },
  { dst := some 167, op := Op.pick (Operand.tmp 164) (Operand.tmp 166) (Operand.const (Value.bool false)), type := 4, pos := "law.go:31", after := #[{ on := 75, ground := Ground.data }, { on := 77, ground := Ground.data }], guard := none },
  { dst := some 168, op := Op.move (Operand.tmp 167), type := 4, pos := "law.go:31", after := #[{ on := 78, ground := Ground.data }, { on := 75, ground := Ground.chain }], guard := none },
  { dst := some 169, op := Op.move (Operand.tmp 17), type := 22, pos := "law.go:31", after := #[{ on := 79, ground := Ground.guard }], guard := some (79, true) },
  { dst := some 170, op := Op.move (Operand.tmp 4), type := 22, pos := "law.go:31", after := #[{ on := 79, ground := Ground.guard }], guard := some (79, true) },
  { dst := some 171, op := Op.slice 22 (Operand.tmp 170) (some (Operand.const (Value.int IntKind.i64 2))) none none, type := 22, pos := "law.go:31", after := #[{ on := 81, ground := Ground.data }, { on := 79, ground := Ground.guard }], guard := some (79, true) },
  { dst := some 172, op := Op.call { callee := Callee.value (Operand.func 19), args := #[Operand.tmp 169, Operand.tmp 171], argTypes := #[22, 22] }, type := 4, pos := "law.go:31", after := #[{ on := 80, ground := Ground.data }, { on := 82, ground := Ground.data }, { on := 79, ground := Ground.chain }, { on := 79, ground := Ground.guard }], guard := some (79, true) },
  { dst := some 173, op := Op.pick (Operand.tmp 168) (Operand.tmp 172) (Operand.const (Value.bool false)), type := 4, pos := "law.go:31", after := #[{ on := 79, ground := Ground.data }, { on := 83, ground := Ground.data }], guard := none },
  { dst := some 174, op := Op.move (Operand.tmp 173), type := 4, pos := "law.go:31", after := #[{ on := 84, ground := Ground.data }, { on := 83, ground := Ground.chain }], guard := none },
  { dst := some 175, op := Op.move (Operand.tmp 18), type := 22, pos := "law.go:31", after := #[{ on := 85, ground := Ground.guard }], guard := some (85, true) },
  { dst := some 176, op := Op.move (Operand.tmp 4), type := 22, pos := "law.go:31", after := #[{ on := 85, ground := Ground.guard }], guard := some (85, true) },
  { dst := some 177, op := Op.slice 22 (Operand.tmp 176) none (some (Operand.const (Value.int IntKind.i64 1))) none, type := 22, pos := "law.go:31", after := #[{ on := 87, ground := Ground.data }, { on := 85, ground := Ground.guard }], guard := some (85, true) },
  { dst := some 178, op := Op.call { callee := Callee.value (Operand.func 19), args := #[Operand.tmp 175, Operand.tmp 177], argTypes := #[22, 22] }, type := 4, pos := "law.go:31", after := #[{ on := 86, ground := Ground.data }, { on := 88, ground := Ground.data }, { on := 85, ground := Ground.chain }, { on := 85, ground := Ground.guard }], guard := some (85, true) },
  { dst := some 179, op := Op.pick (Operand.tmp 174) (Operand.tmp 178) (Operand.const (Value.bool false)), type := 4, pos := "law.go:31", after := #[{ on := 85, ground := Ground.data }, { on := 89, ground := Ground.data }], guard := none },
  { dst := some 180, op := Op.move (Operand.tmp 179), type := 4, pos := "law.go:31", after := #[{ on := 90, ground := Ground.data }, { on := 89, ground := Ground.chain }], guard := none },
  { dst := some 181, op := Op.move (Operand.tmp 4), type := 22, pos := "law.go:31", after := #[{ on := 91, ground := Ground.guard }], guard := some (91, true) },
  { dst := some 182, op := Op.load 42 (Operand.tmp 3), type := 42, pos := "law.go:31", after := #[{ on := 91, ground := Ground.guard }], guard := some (91, true) },
  { dst := some 183, op := Op.buildSlice 23 1 #[(0, Operand.tmp 182)], type := 23, pos := "law.go:31", after := #[{ on := 93, ground := Ground.data }, { on := 91, ground := Ground.guard }], guard := some (91, true) },
  { dst := some 184, op := Op.call { callee := Callee.value (Operand.func 27), args := #[Operand.const (Value.string { data := #[112] }), Operand.tmp 183], argTypes := #[9, 23] }, type := 23, pos := "law.go:31", after := #[{ on := 94, ground := Ground.data }, { on := 91, ground := Ground.chain }, { on := 91, ground := Ground.guard }], guard := some (91, true) },
  { dst := some 185, op := Op.call { callee := Callee.value (Operand.func 22), args := #[Operand.tmp 181, Operand.tmp 184], argTypes := #[22, 23] }, type := 22, pos := "law.go:31", after := #[{ on := 92, ground := Ground.data }, { on := 95, ground := Ground.data }, { on := 95, ground := Ground.chain }, { on := 91, ground := Ground.guard }], guard := some (91, true) },
  { dst := some 186, op := Op.move (Operand.tmp 4), type := 22, pos := "law.go:31", after := #[{ on := 91, ground := Ground.guard }], guard := some (91, true) },
  { dst := some 187, op := Op.slice 22 (Operand.tmp 186) none (some (Operand.const (Value.int IntKind.i64 2))) none, type := 22, pos := "law.go:31", after := #[{ on := 97, ground := Ground.data }, { on := 91, ground := Ground.guard }], guard := some (91, true) },
  { dst := some 188, op := Op.call { callee := Callee.value (Operand.func 19), args := #[Operand.tmp 185, Operand.tmp 187], argTypes := #[22, 22] }, type := 4, pos := "law.go:31", after := #[{ on := 96, ground := Ground.data }, { on := 98, ground := Ground.data }, { on := 96, ground := Ground.chain }, { on := 91, ground := Ground.guard }], guard := some (91, true) },
  { dst := some 189, op := Op.pick (Operand.tmp 180) (Operand.tmp 188) (Operand.const (Value.bool false)), type := 4, pos := "law.go:31", after := #[{ on := 91, ground := Ground.data }, { on := 99, ground := Ground.data }], guard := none },
  { dst := some 190, op := Op.move (Operand.tmp 189), type := 4, pos := "law.go:31", after := #[{ on := 100, ground := Ground.data }, { on := 99, ground := Ground.chain }], guard := none },
  { dst := some 191, op := Op.move (Operand.tmp 4), type := 22, pos := "law.go:31", after := #[{ on := 101, ground := Ground.guard }], guard := some (101, true) },
  { dst := some 192, op := Op.load 42 (Operand.tmp 3), type := 42, pos := "law.go:31", after := #[{ on := 101, ground := Ground.guard }], guard := some (101, true) },
  { dst := some 193, op := Op.load 42 (Operand.tmp 3), type := 42, pos := "law.go:31", after := #[{ on := 101, ground := Ground.guard }], guard := some (101, true) },
  { dst := some 194, op := Op.buildSlice 23 2 #[(0, Operand.tmp 192), (1, Operand.tmp 193)], type := 23, pos := "law.go:31", after := #[{ on := 103, ground := Ground.data }, { on := 104, ground := Ground.data }, { on := 101, ground := Ground.guard }], guard := some (101, true) },
  { dst := some 195, op := Op.call { callee := Callee.value (Operand.func 27), args := #[Operand.const (Value.string { data := #[113] }), Operand.tmp 194], argTypes := #[9, 23] }, type := 23, pos := "law.go:31", after := #[{ on := 105, ground := Ground.data }, { on := 101, ground := Ground.chain }, { on := 101, ground := Ground.guard }], guard := some (101, true) },
  { dst := some 196, op := Op.call { callee := Callee.value (Operand.func 22), args := #[Operand.tmp 191, Operand.tmp 195], argTypes := #[22, 23] }, type := 22, pos := "law.go:31", after := #[{ on := 102, ground := Ground.data }, { on := 106, ground := Ground.data }, { on := 106, ground := Ground.chain }, { on := 101, ground := Ground.guard }], guard := some (101, true) },
  { dst := some 197, op := Op.move (Operand.tmp 4), type := 22, pos := "law.go:31", after := #[{ on := 101, ground := Ground.guard }], guard := some (101, true) },
  { dst := some 198, op := Op.slice 22 (Operand.tmp 197) (some (Operand.const (Value.int IntKind.i64 2))) none none, type := 22, pos := "law.go:31", after := #[{ on := 108, ground := Ground.data }, { on := 101, ground := Ground.guard }], guard := some (101, true) },
  { dst := some 199, op := Op.call { callee := Callee.value (Operand.func 19), args := #[Operand.tmp 196, Operand.tmp 198], argTypes := #[22, 22] }, type := 4, pos := "law.go:31", after := #[{ on := 107, ground := Ground.data }, { on := 109, ground := Ground.data }, { on := 107, ground := Ground.chain }, { on := 101, ground := Ground.guard }], guard := some (101, true) },
  { dst := some 200, op := Op.pick (Operand.tmp 190) (Operand.tmp 199) (Operand.const (Value.bool false)), type := 4, pos := "law.go:31", after := #[{ on := 101, ground := Ground.data }, { on := 110, ground := Ground.data }], guard := none },
  { dst := some 201, op := Op.move (Operand.tmp 200), type := 4, pos := "law.go:31", after := #[{ on := 111, ground := Ground.data }, { on := 110, ground := Ground.chain }], guard := none },
  { dst := some 202, op := Op.move (Operand.tmp 4), type := 22, pos := "law.go:31", after := #[{ on := 112, ground := Ground.guard }], guard := some (112, true) },
  { dst := some 203, op := Op.move (Operand.tmp 4), type := 22, pos := "law.go:31", after := #[{ on := 112, ground := Ground.guard }], guard := some (112, true) },
  { dst := some 204, op := Op.indexAddr 22 (Operand.tmp 203) (Operand.const (Value.int IntKind.i64 1)), type := 0, pos := "law.go:31", after := #[{ on := 114, ground := Ground.data }, { on := 112, ground := Ground.guard }], guard := some (112, true) },
  { dst := some 205, op := Op.load 23 (Operand.tmp 204), type := 23, pos := "law.go:31", after := #[{ on := 115, ground := Ground.data }, { on := 112, ground := Ground.guard }], guard := some (112, true) },
  { dst := some 206, op := Op.call { callee := Callee.value (Operand.func 20), args := #[Operand.tmp 202, Operand.tmp 205], argTypes := #[22, 23] }, type := 4, pos := "law.go:31", after := #[{ on := 113, ground := Ground.data }, { on := 116, ground := Ground.data }, { on := 112, ground := Ground.chain }, { on := 112, ground := Ground.guard }], guard := some (112, true) },
  { dst := some 207, op := Op.pick (Operand.tmp 201) (Operand.tmp 206) (Operand.const (Value.bool false)), type := 4, pos := "law.go:31", after := #[{ on := 112, ground := Ground.data }, { on := 117, ground := Ground.data }], guard := none },
  { dst := some 208, op := Op.move (Operand.tmp 207), type := 4, pos := "law.go:31", after := #[{ on := 118, ground := Ground.data }, { on := 117, ground := Ground.chain }], guard := none },
  { dst := some 209, op := Op.move (Operand.tmp 4), type := 22, pos := "law.go:31", after := #[{ on := 119, ground := Ground.guard }], guard := some (119, true) },
  { dst := some 210, op := Op.load 42 (Operand.tmp 3), type := 42, pos := "law.go:31", after := #[{ on := 119, ground := Ground.guard }], guard := some (119, true) },
  { dst := some 211, op := Op.buildSlice 23 1 #[(0, Operand.tmp 210)], type := 23, pos := "law.go:31", after := #[{ on := 121, ground := Ground.data }, { on := 119, ground := Ground.guard }], guard := some (119, true) },
  { dst := some 212, op := Op.call { callee := Callee.value (Operand.func 27), args := #[Operand.const (Value.string { data := #[112] }), Operand.tmp 211], argTypes := #[9, 23] }, type := 23, pos := "law.go:31", after := #[{ on := 122, ground := Ground.data }, { on := 119, ground := Ground.chain }, { on := 119, ground := Ground.guard }], guard := some (119, true) },
  { dst := some 213, op := Op.call { callee := Callee.value (Operand.func 20), args := #[Operand.tmp 209, Operand.tmp 212], argTypes := #[22, 23] }, type := 4, pos := "law.go:31", after := #[{ on := 120, ground := Ground.data }, { on := 123, ground := Ground.data }, { on := 123, ground := Ground.chain }, { on := 119, ground := Ground.guard }], guard := some (119, true) },
  { dst := some 214, op := Op.unOp UnOp.not 4 (Operand.tmp 213), type := 4, pos := "law.go:31", after := #[{ on := 124, ground := Ground.data }, { on := 119, ground := Ground.guard }], guard := some (119, true) },
  { dst := some 215, op := Op.pick (Operand.tmp 208) (Operand.tmp 214) (Operand.const (Value.bool false)), type := 4, pos := "law.go:31", after := #[{ on := 119, ground := Ground.data }, { on := 125, ground := Ground.data }], guard := none },
  { dst := some 0, op := Op.assign (Operand.tmp 215), type := 4, pos := "law.go:31", after := #[{ on := 126, ground := Ground.data }, { on := 124, ground := Ground.chain }, { on := 0, ground := Ground.phase }, { on := 1, ground := Ground.phase }, { on := 2, ground := Ground.phase }, { on := 3, ground := Ground.phase }, { on := 4, ground := Ground.phase }, { on := 5, ground := Ground.phase }, { on := 6, ground := Ground.phase }, { on := 7, ground := Ground.phase }, { on := 8, ground := Ground.phase }, { on := 9, ground := Ground.phase }, { on := 10, ground := Ground.phase }, { on := 11, ground := Ground.phase }, { on := 12, ground := Ground.phase }, { on := 13, ground := Ground.phase }, { on := 14, ground := Ground.phase }, { on := 15, ground := Ground.phase }, { on := 16, ground := Ground.phase }, { on := 17, ground := Ground.phase }, { on := 18, ground := Ground.phase }, { on := 19, ground := Ground.phase }, { on := 20, ground := Ground.phase }, { on := 21, ground := Ground.phase }, { on := 22, ground := Ground.phase }, { on := 23, ground := Ground.phase }, { on := 24, ground := Ground.phase }, { on := 25, ground := Ground.phase }, { on := 26, ground := Ground.phase }, { on := 27, ground := Ground.phase }, { on := 28, ground := Ground.phase }, { on := 29, ground := Ground.phase }, { on := 30, ground := Ground.phase }, { on := 31, ground := Ground.phase }, { on := 32, ground := Ground.phase }, { on := 33, ground := Ground.phase }, { on := 34, ground := Ground.phase }, { on := 35, ground := Ground.phase }, { on := 36, ground := Ground.phase }, { on := 37, ground := Ground.phase }, { on := 38, ground := Ground.phase }, { on := 39, ground := Ground.phase }, { on := 40, ground := Ground.phase }, { on := 41, ground := Ground.phase }, { on := 42, ground := Ground.phase }, { on := 43, ground := Ground.phase }, { on := 44, ground := Ground.phase }, { on := 45, ground := Ground.phase }, { on := 46, ground := Ground.phase }, { on := 47, ground := Ground.phase }, { on := 48, ground := Ground.phase }, { on := 49, ground := Ground.phase }, { on := 50, ground := Ground.phase }, { on := 51, ground := Ground.phase }, { on := 52, ground := Ground.phase }, { on := 53, ground := Ground.phase }, { on := 54, ground := Ground.phase }, { on := 55, ground := Ground.phase }, { on := 56, ground := Ground.phase }, { on := 57, ground := Ground.phase }, { on := 58, ground := Ground.phase }, { on := 59, ground := Ground.phase }, { on := 60, ground := Ground.phase }, { on := 61, ground := Ground.phase }, { on := 62, ground := Ground.phase }, { on := 63, ground := Ground.phase }, { on := 64, ground := Ground.phase }, { on := 65, ground := Ground.phase }, { on := 66, ground := Ground.phase }, { on := 67, ground := Ground.phase }, { on := 68, ground := Ground.phase }, { on := 69, ground := Ground.phase }, { on := 70, ground := Ground.phase }, { on := 71, ground := Ground.phase }, { on := 72, ground := Ground.phase }, { on := 73, ground := Ground.phase }, { on := 74, ground := Ground.phase }, { on := 75, ground := Ground.phase }, { on := 76, ground := Ground.phase }, { on := 77, ground := Ground.phase }, { on := 78, ground := Ground.phase }, { on := 79, ground := Ground.phase }, { on := 80, ground := Ground.phase }, { on := 81, ground := Ground.phase }, { on := 82, ground := Ground.phase }, { on := 83, ground := Ground.phase }, { on := 84, ground := Ground.phase }, { on := 85, ground := Ground.phase }, { on := 86, ground := Ground.phase }, { on := 87, ground := Ground.phase }, { on := 88, ground := Ground.phase }, { on := 89, ground := Ground.phase }, { on := 90, ground := Ground.phase }, { on := 91, ground := Ground.phase }, { on := 92, ground := Ground.phase }, { on := 93, ground := Ground.phase }, { on := 94, ground := Ground.phase }, { on := 95, ground := Ground.phase }, { on := 96, ground := Ground.phase }, { on := 97, ground := Ground.phase }, { on := 98, ground := Ground.phase }, { on := 99, ground := Ground.phase }, { on := 100, ground := Ground.phase }, { on := 101, ground := Ground.phase }, { on := 102, ground := Ground.phase }, { on := 103, ground := Ground.phase }, { on := 104, ground := Ground.phase }, { on := 105, ground := Ground.phase }, { on := 106, ground := Ground.phase }, { on := 107, ground := Ground.phase }, { on := 108, ground := Ground.phase }, { on := 109, ground := Ground.phase }, { on := 110, ground := Ground.phase }, { on := 111, ground := Ground.phase }, { on := 112, ground := Ground.phase }, { on := 113, ground := Ground.phase }, { on := 114, ground := Ground.phase }, { on := 115, ground := Ground.phase }, { on := 116, ground := Ground.phase }, { on := 117, ground := Ground.phase }, { on := 118, ground := Ground.phase }, { on := 119, ground := Ground.phase }, { on := 120, ground := Ground.phase }, { on := 121, ground := Ground.phase }, { on := 122, ground := Ground.phase }, { on := 123, ground := Ground.phase }, { on := 124, ground := Ground.phase }, { on := 125, ground := Ground.phase }, { on := 126, ground := Ground.phase }], guard := none }]
set_option maxRecDepth 100000 in
def r10Sig : List (Nat × Oper × Bool) := [
  (0, { dst := some 89, op := Op.move (Operand.tmp 4), type := 22, pos := "law.go:31", after := #[], guard := none }, true),
  (1, { dst := some 90, op := Op.call { callee := Callee.value (Operand.func 8), args := #[Operand.tmp 89], argTypes := #[22] }, type := 4, pos := "law.go:31", after := #[{ on := 0, ground := Ground.data }], guard := none }, false),
  (2, { dst := some 91, op := Op.move (Operand.tmp 90), type := 4, pos := "law.go:31", after := #[{ on := 1, ground := Ground.data }, { on := 1, ground := Ground.chain }], guard := none }, true),
  (3, { dst := some 92, op := Op.move (Operand.tmp 4), type := 22, pos := "law.go:31", after := #[{ on := 2, ground := Ground.guard }], guard := some (2, true) }, true),
  (4, { dst := some 93, op := Op.indexAddr 22 (Operand.tmp 92) (Operand.const (Value.int IntKind.i64 1)), type := 0, pos := "law.go:31", after := #[{ on := 3, ground := Ground.data }, { on := 2, ground := Ground.guard }], guard := some (2, true) }, true),
  (5, { dst := some 94, op := Op.load 23 (Operand.tmp 93), type := 23, pos := "law.go:31", after := #[{ on := 4, ground := Ground.data }, { on := 2, ground := Ground.guard }], guard := some (2, true) }, true),
  (6, { dst := some 95, op := Op.move (Operand.tmp 4), type := 22, pos := "law.go:31", after := #[{ on := 2, ground := Ground.guard }], guard := some (2, true) }, true),
  (7, { dst := some 96, op := Op.indexAddr 22 (Operand.tmp 95) (Operand.const (Value.int IntKind.i64 0)), type := 0, pos := "law.go:31", after := #[{ on := 6, ground := Ground.data }, { on := 2, ground := Ground.guard }], guard := some (2, true) }, true),
  (8, { dst := some 97, op := Op.load 23 (Operand.tmp 96), type := 23, pos := "law.go:31", after := #[{ on := 7, ground := Ground.data }, { on := 2, ground := Ground.guard }], guard := some (2, true) }, true),
  (9, { dst := some 98, op := Op.buildSlice 22 2 #[(0, Operand.tmp 94), (1, Operand.tmp 97)], type := 22, pos := "law.go:31", after := #[{ on := 5, ground := Ground.data }, { on := 8, ground := Ground.data }, { on := 2, ground := Ground.guard }], guard := some (2, true) }, false),
  (10, { dst := some 99, op := Op.call { callee := Callee.value (Operand.func 8), args := #[Operand.tmp 98], argTypes := #[22] }, type := 4, pos := "law.go:31", after := #[{ on := 9, ground := Ground.data }, { on := 2, ground := Ground.chain }, { on := 2, ground := Ground.guard }], guard := some (2, true) }, false),
  (11, { dst := some 100, op := Op.unOp UnOp.not 4 (Operand.tmp 99), type := 4, pos := "law.go:31", after := #[{ on := 10, ground := Ground.data }, { on := 2, ground := Ground.guard }], guard := some (2, true) }, true),
  (12, { dst := some 101, op := Op.pick (Operand.tmp 91) (Operand.tmp 100) (Operand.const (Value.bool false)), type := 4, pos := "law.go:31", after := #[{ on := 2, ground := Ground.data }, { on := 11, ground := Ground.data }], guard := none }, true),
  (13, { dst := some 102, op := Op.move (Operand.tmp 101), type := 4, pos := "law.go:31", after := #[{ on := 12, ground := Ground.data }, { on := 10, ground := Ground.chain }], guard := none }, true),
  (14, { dst := some 103, op := Op.move (Operand.tmp 4), type := 22, pos := "law.go:31", after := #[{ on := 13, ground := Ground.guard }], guard := some (13, true) }, true),
  (15, { dst := some 104, op := Op.indexAddr 22 (Operand.tmp 103) (Operand.const (Value.int IntKind.i64 0)), type := 0, pos := "law.go:31", after := #[{ on := 14, ground := Ground.data }, { on := 13, ground := Ground.guard }], guard := some (13, true) }, true),
  (16, { dst := some 105, op := Op.load 23 (Operand.tmp 104), type := 23, pos := "law.go:31", after := #[{ on := 15, ground := Ground.data }, { on := 13, ground := Ground.guard }], guard := some (13, true) }, true),
  (17, { dst := some 106, op := Op.move (Operand.tmp 4), type := 22, pos := "law.go:31", after := #[{ on := 13, ground := Ground.guard }], guard := some (13, true) }, true),
  (18, { dst := some 107, op := Op.indexAddr 22 (Operand.tmp 106) (Operand.const (Value.int IntKind.i64 0)), type := 0, pos := "law.go:31", after := #[{ on := 17, ground := Ground.data }, { on := 13, ground := Ground.guard }], guard := some (13, true) }, true),
  (19, { dst := some 108, op := Op.load 23 (Operand.tmp 107), type := 23, pos := "law.go:31", after := #[{ on := 18, ground := Ground.data }, { on := 13, ground := Ground.guard }], guard := some (13, true) }, true),
  (20, { dst := some 109, op := Op.buildSlice 22 2 #[(0, Operand.tmp 105), (1, Operand.tmp 108)], type := 22, pos := "law.go:31", after := #[{ on := 16, ground := Ground.data }, { on := 19, ground := Ground.data }, { on := 13, ground := Ground.guard }], guard := some (13, true) }, false),
  (21, { dst := some 110, op := Op.call { callee := Callee.value (Operand.func 8), args := #[Operand.tmp 109], argTypes := #[22] }, type := 4, pos := "law.go:31", after := #[{ on := 20, ground := Ground.data }, { on := 13, ground := Ground.chain }, { on := 13, ground := Ground.guard }], guard := some (13, true) }, false),
  (22, { dst := some 111, op := Op.unOp UnOp.not 4 (Operand.tmp 110), type := 4, pos := "law.go:31", after := #[{ on := 21, ground := Ground.data }, { on := 13, ground := Ground.guard }], guard := some (13, true) }, true),
  (23, { dst := some 112, op := Op.pick (Operand.tmp 102) (Operand.tmp 111) (Operand.const (Value.bool false)), type := 4, pos := "law.go:31", after := #[{ on := 13, ground := Ground.data }, { on := 22, ground := Ground.data }], guard := none }, true),
  (24, { dst := some 113, op := Op.move (Operand.tmp 112), type := 4, pos := "law.go:31", after := #[{ on := 23, ground := Ground.data }, { on := 21, ground := Ground.chain }], guard := none }, true),
  (25, { dst := some 114, op := Op.move (Operand.tmp 4), type := 22, pos := "law.go:31", after := #[{ on := 24, ground := Ground.guard }], guard := some (24, true) }, true),
  (26, { dst := some 115, op := Op.indexAddr 22 (Operand.tmp 114) (Operand.const (Value.int IntKind.i64 2)), type := 0, pos := "law.go:31", after := #[{ on := 25, ground := Ground.data }, { on := 24, ground := Ground.guard }], guard := some (24, true) }, true),
  (27, { dst := some 116, op := Op.load 23 (Operand.tmp 115), type := 23, pos := "law.go:31", after := #[{ on := 26, ground := Ground.data }, { on := 24, ground := Ground.guard }], guard := some (24, true) }, true),
  (28, { dst := some 117, op := Op.call { callee := Callee.value (Operand.func 6), args := #[Operand.tmp 116], argTypes := #[23] }, type := 4, pos := "law.go:31", after := #[{ on := 27, ground := Ground.data }, { on := 24, ground := Ground.chain }, { on := 24, ground := Ground.guard }], guard := some (24, true) }, false),
  (29, { dst := some 118, op := Op.pick (Operand.tmp 113) (Operand.tmp 117) (Operand.const (Value.bool false)), type := 4, pos := "law.go:31", after := #[{ on := 24, ground := Ground.data }, { on := 28, ground := Ground.data }], guard := none }, true),
  (30, { dst := some 119, op := Op.move (Operand.tmp 118), type := 4, pos := "law.go:31", after := #[{ on := 29, ground := Ground.data }, { on := 28, ground := Ground.chain }], guard := none }, true),
  (31, { dst := some 120, op := Op.call { callee := Callee.value (Operand.func 6), args := #[Operand.const (Value.slice none 0 0)], argTypes := #[23] }, type := 4, pos := "law.go:31", after := #[{ on := 30, ground := Ground.chain }, { on := 30, ground := Ground.guard }], guard := some (30, true) }, false),
  (32, { dst := some 121, op := Op.unOp UnOp.not 4 (Operand.tmp 120), type := 4, pos := "law.go:31", after := #[{ on := 31, ground := Ground.data }, { on := 30, ground := Ground.guard }], guard := some (30, true) }, true),
  (33, { dst := some 122, op := Op.pick (Operand.tmp 119) (Operand.tmp 121) (Operand.const (Value.bool false)), type := 4, pos := "law.go:31", after := #[{ on := 30, ground := Ground.data }, { on := 32, ground := Ground.data }], guard := none }, true),
  (34, { dst := some 123, op := Op.move (Operand.tmp 122), type := 4, pos := "law.go:31", after := #[{ on := 33, ground := Ground.data }, { on := 31, ground := Ground.chain }], guard := none }, true),
  (35, { dst := some 124, op := Op.move (Operand.tmp 5), type := 22, pos := "law.go:31", after := #[{ on := 34, ground := Ground.guard }], guard := some (34, true) }, true),
  (36, { dst := some 125, op := Op.move (Operand.tmp 4), type := 22, pos := "law.go:31", after := #[{ on := 34, ground := Ground.guard }], guard := some (34, true) }, true),
  (37, { dst := some 126, op := Op.call { callee := Callee.value (Operand.func 19), args := #[Operand.tmp 124, Operand.tmp 125], argTypes := #[22, 22] }, type := 4, pos := "law.go:31", after := #[{ on := 35, ground := Ground.data }, { on := 36, ground := Ground.data }, { on := 34, ground := Ground.chain }, { on := 34, ground := Ground.guard }], guard := some (34, true) }, false),
  (38, { dst := some 127, op := Op.pick (Operand.tmp 123) (Operand.tmp 126) (Operand.const (Value.bool false)), type := 4, pos := "law.go:31", after := #[{ on := 34, ground := Ground.data }, { on := 37, ground := Ground.data }], guard := none }, true),
  (39, { dst := some 128, op := Op.move (Operand.tmp 127), type := 4, pos := "law.go:31", after := #[{ on := 38, ground := Ground.data }, { on := 37, ground := Ground.chain }], guard := none }, true),
  (40, { dst := some 129, op := Op.move (Operand.tmp 6), type := 29, pos := "law.go:31", after := #[{ on := 39, ground := Ground.guard }], guard := some (39, true) }, true),
  (41, { dst := some 130, op := Op.binOp BinOp.eql 29 (Operand.tmp 129) (Operand.const (Value.int IntKind.i64 0)) 29, type := 4, pos := "law.go:31", after := #[{ on := 40, ground := Ground.data }, { on := 39, ground := Ground.guard }], guard := some (39, true) }, true),
  (42, { dst := some 131, op := Op.pick (Operand.tmp 128) (Operand.tmp 130) (Operand.const (Value.bool false)), type := 4, pos := "law.go:31", after := #[{ on := 39, ground := Ground.data }, { on := 41, ground := Ground.data }], guard := none }, true),
  (43, { dst := some 132, op := Op.move (Operand.tmp 131), type := 4, pos := "law.go:31", after := #[{ on := 42, ground := Ground.data }, { on := 39, ground := Ground.chain }], guard := none }, true),
  (44, { dst := some 133, op := Op.move (Operand.tmp 8), type := 29, pos := "law.go:31", after := #[{ on := 43, ground := Ground.guard }], guard := some (43, true) }, true),
  (45, { dst := some 134, op := Op.binOp BinOp.eql 29 (Operand.tmp 133) (Operand.const (Value.int IntKind.i64 120)) 29, type := 4, pos := "law.go:31", after := #[{ on := 44, ground := Ground.data }, { on := 43, ground := Ground.guard }], guard := some (43, true) }, true),
  (46, { dst := some 135, op := Op.pick (Operand.tmp 132) (Operand.tmp 134) (Operand.const (Value.bool false)), type := 4, pos := "law.go:31", after := #[{ on := 43, ground := Ground.data }, { on := 45, ground := Ground.data }], guard := none }, true),
  (47, { dst := some 136, op := Op.move (Operand.tmp 135), type := 4, pos := "law.go:31", after := #[{ on := 46, ground := Ground.data }, { on := 43, ground := Ground.chain }], guard := none }, true),
  (48, { dst := some 137, op := Op.move (Operand.tmp 9), type := 22, pos := "law.go:31", after := #[{ on := 47, ground := Ground.guard }], guard := some (47, true) }, true),
  (49, { dst := some 138, op := Op.move (Operand.tmp 4), type := 22, pos := "law.go:31", after := #[{ on := 47, ground := Ground.guard }], guard := some (47, true) }, true),
  (50, { dst := some 139, op := Op.indexAddr 22 (Operand.tmp 138) (Operand.const (Value.int IntKind.i64 0)), type := 0, pos := "law.go:31", after := #[{ on := 49, ground := Ground.data }, { on := 47, ground := Ground.guard }], guard := some (47, true) }, true),
  (51, { dst := some 140, op := Op.load 23 (Operand.tmp 139), type := 23, pos := "law.go:31", after := #[{ on := 50, ground := Ground.data }, { on := 47, ground := Ground.guard }], guard := some (47, true) }, true),
  (52, { dst := some 141, op := Op.move (Operand.tmp 4), type := 22, pos := "law.go:31", after := #[{ on := 47, ground := Ground.guard }], guard := some (47, true) }, true),
  (53, { dst := some 142, op := Op.indexAddr 22 (Operand.tmp 141) (Operand.const (Value.int IntKind.i64 2)), type := 0, pos := "law.go:31", after := #[{ on := 52, ground := Ground.data }, { on := 47, ground := Ground.guard }], guard := some (47, true) }, true),
  (54, { dst := some 143, op := Op.load 23 (Operand.tmp 142), type := 23, pos := "law.go:31", after := #[{ on := 53, ground := Ground.data }, { on := 47, ground := Ground.guard }], guard := some (47, true) }, true),
  (55, { dst := some 144, op := Op.buildSlice 22 2 #[(0, Operand.tmp 140), (1, Operand.tmp 143)], type := 22, pos := "law.go:31", after := #[{ on := 51, ground := Ground.data }, { on := 54, ground := Ground.data }, { on := 47, ground := Ground.guard }], guard := some (47, true) }, false),
  (56, { dst := some 145, op := Op.call { callee := Callee.value (Operand.func 19), args := #[Operand.tmp 137, Operand.tmp 144], argTypes := #[22, 22] }, type := 4, pos := "law.go:31", after := #[{ on := 48, ground := Ground.data }, { on := 55, ground := Ground.data }, { on := 47, ground := Ground.chain }, { on := 47, ground := Ground.guard }], guard := some (47, true) }, false),
  (57, { dst := some 146, op := Op.pick (Operand.tmp 136) (Operand.tmp 145) (Operand.const (Value.bool false)), type := 4, pos := "law.go:31", after := #[{ on := 47, ground := Ground.data }, { on := 56, ground := Ground.data }], guard := none }, true),
  (58, { dst := some 147, op := Op.move (Operand.tmp 146), type := 4, pos := "law.go:31", after := #[{ on := 57, ground := Ground.data }, { on := 56, ground := Ground.chain }], guard := none }, true),
  (59, { dst := some 148, op := Op.move (Operand.tmp 10), type := 29, pos := "law.go:31", after := #[{ on := 58, ground := Ground.guard }], guard := some (58, true) }, true),
  (60, { dst := some 149, op := Op.binOp BinOp.eql 29 (Operand.tmp 148) (Operand.const (Value.int IntKind.i64 0)) 29, type := 4, pos := "law.go:31", after := #[{ on := 59, ground := Ground.data }, { on := 58, ground := Ground.guard }], guard := some (58, true) }, true),
  (61, { dst := some 150, op := Op.pick (Operand.tmp 147) (Operand.tmp 149) (Operand.const (Value.bool false)), type := 4, pos := "law.go:31", after := #[{ on := 58, ground := Ground.data }, { on := 60, ground := Ground.data }], guard := none }, true),
  (62, { dst := some 151, op := Op.move (Operand.tmp 150), type := 4, pos := "law.go:31", after := #[{ on := 61, ground := Ground.data }, { on := 58, ground := Ground.chain }], guard := none }, true),
  (63, { dst := some 152, op := Op.move (Operand.tmp 12), type := 29, pos := "law.go:31", after := #[{ on := 62, ground := Ground.guard }], guard := some (62, true) }, true),
  (64, { dst := some 153, op := Op.binOp BinOp.eql 29 (Operand.tmp 152) (Operand.const (Value.int IntKind.i64 3)) 29, type := 4, pos := "law.go:31", after := #[{ on := 63, ground := Ground.data }, { on := 62, ground := Ground.guard }], guard := some (62, true) }, true),
  (65, { dst := some 154, op := Op.pick (Operand.tmp 151) (Operand.tmp 153) (Operand.const (Value.bool false)), type := 4, pos := "law.go:31", after := #[{ on := 62, ground := Ground.data }, { on := 64, ground := Ground.data }], guard := none }, true),
  (66, { dst := some 155, op := Op.move (Operand.tmp 154), type := 4, pos := "law.go:31", after := #[{ on := 65, ground := Ground.data }, { on := 62, ground := Ground.chain }], guard := none }, true),
  (67, { dst := some 156, op := Op.move (Operand.tmp 14), type := 29, pos := "law.go:31", after := #[{ on := 66, ground := Ground.guard }], guard := some (66, true) }, true),
  (68, { dst := some 157, op := Op.binOp BinOp.eql 29 (Operand.tmp 156) (Operand.const (Value.int IntKind.i64 120)) 29, type := 4, pos := "law.go:31", after := #[{ on := 67, ground := Ground.data }, { on := 66, ground := Ground.guard }], guard := some (66, true) }, true),
  (69, { dst := some 158, op := Op.pick (Operand.tmp 155) (Operand.tmp 157) (Operand.const (Value.bool false)), type := 4, pos := "law.go:31", after := #[{ on := 66, ground := Ground.data }, { on := 68, ground := Ground.data }], guard := none }, true),
  (70, { dst := some 159, op := Op.move (Operand.tmp 158), type := 4, pos := "law.go:31", after := #[{ on := 69, ground := Ground.data }, { on := 66, ground := Ground.chain }], guard := none }, true),
  (71, { dst := some 160, op := Op.move (Operand.tmp 15), type := 22, pos := "law.go:31", after := #[{ on := 70, ground := Ground.guard }], guard := some (70, true) }, true),
  (72, { dst := some 161, op := Op.move (Operand.tmp 4), type := 22, pos := "law.go:31", after := #[{ on := 70, ground := Ground.guard }], guard := some (70, true) }, true),
  (73, { dst := some 162, op := Op.call { callee := Callee.value (Operand.func 19), args := #[Operand.tmp 160, Operand.tmp 161], argTypes := #[22, 22] }, type := 4, pos := "law.go:31", after := #[{ on := 71, ground := Ground.data }, { on := 72, ground := Ground.data }, { on := 70, ground := Ground.chain }, { on := 70, ground := Ground.guard }], guard := some (70, true) }, false),
  (74, { dst := some 163, op := Op.pick (Operand.tmp 159) (Operand.tmp 162) (Operand.const (Value.bool false)), type := 4, pos := "law.go:31", after := #[{ on := 70, ground := Ground.data }, { on := 73, ground := Ground.data }], guard := none }, true),
  (75, { dst := some 164, op := Op.move (Operand.tmp 163), type := 4, pos := "law.go:31", after := #[{ on := 74, ground := Ground.data }, { on := 73, ground := Ground.chain }], guard := none }, true),
  (76, { dst := some 165, op := Op.move (Operand.tmp 16), type := 29, pos := "law.go:31", after := #[{ on := 75, ground := Ground.guard }], guard := some (75, true) }, true),
  (77, { dst := some 166, op := Op.binOp BinOp.eql 29 (Operand.tmp 165) (Operand.const (Value.int IntKind.i64 0)) 29, type := 4, pos := "law.go:31", after := #[{ on := 76, ground := Ground.data }, { on := 75, ground := Ground.guard }], guard := some (75, true) }, true),
  (78, { dst := some 167, op := Op.pick (Operand.tmp 164) (Operand.tmp 166) (Operand.const (Value.bool false)), type := 4, pos := "law.go:31", after := #[{ on := 75, ground := Ground.data }, { on := 77, ground := Ground.data }], guard := none }, true),
  (79, { dst := some 168, op := Op.move (Operand.tmp 167), type := 4, pos := "law.go:31", after := #[{ on := 78, ground := Ground.data }, { on := 75, ground := Ground.chain }], guard := none }, true),
  (80, { dst := some 169, op := Op.move (Operand.tmp 17), type := 22, pos := "law.go:31", after := #[{ on := 79, ground := Ground.guard }], guard := some (79, true) }, true),
  (81, { dst := some 170, op := Op.move (Operand.tmp 4), type := 22, pos := "law.go:31", after := #[{ on := 79, ground := Ground.guard }], guard := some (79, true) }, true),
  (82, { dst := some 171, op := Op.slice 22 (Operand.tmp 170) (some (Operand.const (Value.int IntKind.i64 2))) none none, type := 22, pos := "law.go:31", after := #[{ on := 81, ground := Ground.data }, { on := 79, ground := Ground.guard }], guard := some (79, true) }, true),
  (83, { dst := some 172, op := Op.call { callee := Callee.value (Operand.func 19), args := #[Operand.tmp 169, Operand.tmp 171], argTypes := #[22, 22] }, type := 4, pos := "law.go:31", after := #[{ on := 80, ground := Ground.data }, { on := 82, ground := Ground.data }, { on := 79, ground := Ground.chain }, { on := 79, ground := Ground.guard }], guard := some (79, true) }, false),
  (84, { dst := some 173, op := Op.pick (Operand.tmp 168) (Operand.tmp 172) (Operand.const (Value.bool false)), type := 4, pos := "law.go:31", after := #[{ on := 79, ground := Ground.data }, { on := 83, ground := Ground.data }], guard := none }, true),
  (85, { dst := some 174, op := Op.move (Operand.tmp 173), type := 4, pos := "law.go:31", after := #[{ on := 84, ground := Ground.data }, { on := 83, ground := Ground.chain }], guard := none }, true),
  (86, { dst := some 175, op := Op.move (Operand.tmp 18), type := 22, pos := "law.go:31", after := #[{ on := 85, ground := Ground.guard }], guard := some (85, true) }, true),
  (87, { dst := some 176, op := Op.move (Operand.tmp 4), type := 22, pos := "law.go:31", after := #[{ on := 85, ground := Ground.guard }], guard := some (85, true) }, true),
  (88, { dst := some 177, op := Op.slice 22 (Operand.tmp 176) none (some (Operand.const (Value.int IntKind.i64 1))) none, type := 22, pos := "law.go:31", after := #[{ on := 87, ground := Ground.data }, { on := 85, ground := Ground.guard }], guard := some (85, true) }, true),
  (89, { dst := some 178, op := Op.call { callee := Callee.value (Operand.func 19), args := #[Operand.tmp 175, Operand.tmp 177], argTypes := #[22, 22] }, type := 4, pos := "law.go:31", after := #[{ on := 86, ground := Ground.data }, { on := 88, ground := Ground.data }, { on := 85, ground := Ground.chain }, { on := 85, ground := Ground.guard }], guard := some (85, true) }, false),
  (90, { dst := some 179, op := Op.pick (Operand.tmp 174) (Operand.tmp 178) (Operand.const (Value.bool false)), type := 4, pos := "law.go:31", after := #[{ on := 85, ground := Ground.data }, { on := 89, ground := Ground.data }], guard := none }, true),
  (91, { dst := some 180, op := Op.move (Operand.tmp 179), type := 4, pos := "law.go:31", after := #[{ on := 90, ground := Ground.data }, { on := 89, ground := Ground.chain }], guard := none }, true),
  (92, { dst := some 181, op := Op.move (Operand.tmp 4), type := 22, pos := "law.go:31", after := #[{ on := 91, ground := Ground.guard }], guard := some (91, true) }, true),
  (93, { dst := some 182, op := Op.load 42 (Operand.tmp 3), type := 42, pos := "law.go:31", after := #[{ on := 91, ground := Ground.guard }], guard := some (91, true) }, true),
  (97, { dst := some 186, op := Op.move (Operand.tmp 4), type := 22, pos := "law.go:31", after := #[{ on := 91, ground := Ground.guard }], guard := some (91, true) }, true),
  (98, { dst := some 187, op := Op.slice 22 (Operand.tmp 186) none (some (Operand.const (Value.int IntKind.i64 2))) none, type := 22, pos := "law.go:31", after := #[{ on := 97, ground := Ground.data }, { on := 91, ground := Ground.guard }], guard := some (91, true) }, true),
  (94, { dst := some 183, op := Op.buildSlice 23 1 #[(0, Operand.tmp 182)], type := 23, pos := "law.go:31", after := #[{ on := 93, ground := Ground.data }, { on := 91, ground := Ground.guard }], guard := some (91, true) }, false),
  (95, { dst := some 184, op := Op.call { callee := Callee.value (Operand.func 27), args := #[Operand.const (Value.string { data := #[112] }), Operand.tmp 183], argTypes := #[9, 23] }, type := 23, pos := "law.go:31", after := #[{ on := 94, ground := Ground.data }, { on := 91, ground := Ground.chain }, { on := 91, ground := Ground.guard }], guard := some (91, true) }, false),
  (96, { dst := some 185, op := Op.call { callee := Callee.value (Operand.func 22), args := #[Operand.tmp 181, Operand.tmp 184], argTypes := #[22, 23] }, type := 22, pos := "law.go:31", after := #[{ on := 92, ground := Ground.data }, { on := 95, ground := Ground.data }, { on := 95, ground := Ground.chain }, { on := 91, ground := Ground.guard }], guard := some (91, true) }, false),
  (99, { dst := some 188, op := Op.call { callee := Callee.value (Operand.func 19), args := #[Operand.tmp 185, Operand.tmp 187], argTypes := #[22, 22] }, type := 4, pos := "law.go:31", after := #[{ on := 96, ground := Ground.data }, { on := 98, ground := Ground.data }, { on := 96, ground := Ground.chain }, { on := 91, ground := Ground.guard }], guard := some (91, true) }, false),
  (100, { dst := some 189, op := Op.pick (Operand.tmp 180) (Operand.tmp 188) (Operand.const (Value.bool false)), type := 4, pos := "law.go:31", after := #[{ on := 91, ground := Ground.data }, { on := 99, ground := Ground.data }], guard := none }, true),
  (101, { dst := some 190, op := Op.move (Operand.tmp 189), type := 4, pos := "law.go:31", after := #[{ on := 100, ground := Ground.data }, { on := 99, ground := Ground.chain }], guard := none }, true),
  (102, { dst := some 191, op := Op.move (Operand.tmp 4), type := 22, pos := "law.go:31", after := #[{ on := 101, ground := Ground.guard }], guard := some (101, true) }, true),
  (103, { dst := some 192, op := Op.load 42 (Operand.tmp 3), type := 42, pos := "law.go:31", after := #[{ on := 101, ground := Ground.guard }], guard := some (101, true) }, true),
  (104, { dst := some 193, op := Op.load 42 (Operand.tmp 3), type := 42, pos := "law.go:31", after := #[{ on := 101, ground := Ground.guard }], guard := some (101, true) }, true),
  (108, { dst := some 197, op := Op.move (Operand.tmp 4), type := 22, pos := "law.go:31", after := #[{ on := 101, ground := Ground.guard }], guard := some (101, true) }, true),
  (109, { dst := some 198, op := Op.slice 22 (Operand.tmp 197) (some (Operand.const (Value.int IntKind.i64 2))) none none, type := 22, pos := "law.go:31", after := #[{ on := 108, ground := Ground.data }, { on := 101, ground := Ground.guard }], guard := some (101, true) }, true),
  (105, { dst := some 194, op := Op.buildSlice 23 2 #[(0, Operand.tmp 192), (1, Operand.tmp 193)], type := 23, pos := "law.go:31", after := #[{ on := 103, ground := Ground.data }, { on := 104, ground := Ground.data }, { on := 101, ground := Ground.guard }], guard := some (101, true) }, false),
  (106, { dst := some 195, op := Op.call { callee := Callee.value (Operand.func 27), args := #[Operand.const (Value.string { data := #[113] }), Operand.tmp 194], argTypes := #[9, 23] }, type := 23, pos := "law.go:31", after := #[{ on := 105, ground := Ground.data }, { on := 101, ground := Ground.chain }, { on := 101, ground := Ground.guard }], guard := some (101, true) }, false),
  (107, { dst := some 196, op := Op.call { callee := Callee.value (Operand.func 22), args := #[Operand.tmp 191, Operand.tmp 195], argTypes := #[22, 23] }, type := 22, pos := "law.go:31", after := #[{ on := 102, ground := Ground.data }, { on := 106, ground := Ground.data }, { on := 106, ground := Ground.chain }, { on := 101, ground := Ground.guard }], guard := some (101, true) }, false),
  (110, { dst := some 199, op := Op.call { callee := Callee.value (Operand.func 19), args := #[Operand.tmp 196, Operand.tmp 198], argTypes := #[22, 22] }, type := 4, pos := "law.go:31", after := #[{ on := 107, ground := Ground.data }, { on := 109, ground := Ground.data }, { on := 107, ground := Ground.chain }, { on := 101, ground := Ground.guard }], guard := some (101, true) }, false),
  (111, { dst := some 200, op := Op.pick (Operand.tmp 190) (Operand.tmp 199) (Operand.const (Value.bool false)), type := 4, pos := "law.go:31", after := #[{ on := 101, ground := Ground.data }, { on := 110, ground := Ground.data }], guard := none }, true),
  (112, { dst := some 201, op := Op.move (Operand.tmp 200), type := 4, pos := "law.go:31", after := #[{ on := 111, ground := Ground.data }, { on := 110, ground := Ground.chain }], guard := none }, true),
  (113, { dst := some 202, op := Op.move (Operand.tmp 4), type := 22, pos := "law.go:31", after := #[{ on := 112, ground := Ground.guard }], guard := some (112, true) }, true),
  (114, { dst := some 203, op := Op.move (Operand.tmp 4), type := 22, pos := "law.go:31", after := #[{ on := 112, ground := Ground.guard }], guard := some (112, true) }, true),
  (115, { dst := some 204, op := Op.indexAddr 22 (Operand.tmp 203) (Operand.const (Value.int IntKind.i64 1)), type := 0, pos := "law.go:31", after := #[{ on := 114, ground := Ground.data }, { on := 112, ground := Ground.guard }], guard := some (112, true) }, true),
  (116, { dst := some 205, op := Op.load 23 (Operand.tmp 204), type := 23, pos := "law.go:31", after := #[{ on := 115, ground := Ground.data }, { on := 112, ground := Ground.guard }], guard := some (112, true) }, true),
  (117, { dst := some 206, op := Op.call { callee := Callee.value (Operand.func 20), args := #[Operand.tmp 202, Operand.tmp 205], argTypes := #[22, 23] }, type := 4, pos := "law.go:31", after := #[{ on := 113, ground := Ground.data }, { on := 116, ground := Ground.data }, { on := 112, ground := Ground.chain }, { on := 112, ground := Ground.guard }], guard := some (112, true) }, false),
  (118, { dst := some 207, op := Op.pick (Operand.tmp 201) (Operand.tmp 206) (Operand.const (Value.bool false)), type := 4, pos := "law.go:31", after := #[{ on := 112, ground := Ground.data }, { on := 117, ground := Ground.data }], guard := none }, true),
  (119, { dst := some 208, op := Op.move (Operand.tmp 207), type := 4, pos := "law.go:31", after := #[{ on := 118, ground := Ground.data }, { on := 117, ground := Ground.chain }], guard := none }, true),
  (120, { dst := some 209, op := Op.move (Operand.tmp 4), type := 22, pos := "law.go:31", after := #[{ on := 119, ground := Ground.guard }], guard := some (119, true) }, true),
  (121, { dst := some 210, op := Op.load 42 (Operand.tmp 3), type := 42, pos := "law.go:31", after := #[{ on := 119, ground := Ground.guard }], guard := some (119, true) }, true),
  (122, { dst := some 211, op := Op.buildSlice 23 1 #[(0, Operand.tmp 210)], type := 23, pos := "law.go:31", after := #[{ on := 121, ground := Ground.data }, { on := 119, ground := Ground.guard }], guard := some (119, true) }, false),
  (123, { dst := some 212, op := Op.call { callee := Callee.value (Operand.func 27), args := #[Operand.const (Value.string { data := #[112] }), Operand.tmp 211], argTypes := #[9, 23] }, type := 23, pos := "law.go:31", after := #[{ on := 122, ground := Ground.data }, { on := 119, ground := Ground.chain }, { on := 119, ground := Ground.guard }], guard := some (119, true) }, false),
  (124, { dst := some 213, op := Op.call { callee := Callee.value (Operand.func 20), args := #[Operand.tmp 209, Operand.tmp 212], argTypes := #[22, 23] }, type := 4, pos := "law.go:31", after := #[{ on := 120, ground := Ground.data }, { on := 123, ground := Ground.data }, { on := 123, ground := Ground.chain }, { on := 119, ground := Ground.guard }], guard := some (119, true) }, false),
  (125, { dst := some 214, op := Op.unOp UnOp.not 4 (Operand.tmp 213), type := 4, pos := "law.go:31", after := #[{ on := 124, ground := Ground.data }, { on := 119, ground := Ground.guard }], guard := some (119, true) }, true),
  (126, { dst := some 215, op := Op.pick (Operand.tmp 208) (Operand.tmp 214) (Operand.const (Value.bool false)), type := 4, pos := "law.go:31", after := #[{ on := 119, ground := Ground.data }, { on := 125, ground := Ground.data }], guard := none }, true),
  (127, { dst := some 0, op := Op.assign (Operand.tmp 215), type := 4, pos := "law.go:31", after := #[{ on := 126, ground := Ground.data }, { on := 124, ground := Ground.chain }, { on := 0, ground := Ground.phase }, { on := 1, ground := Ground.phase }, { on := 2, ground := Ground.phase }, { on := 3, ground := Ground.phase }, { on := 4, ground := Ground.phase }, { on := 5, ground := Ground.phase }, { on := 6, ground := Ground.phase }, { on := 7, ground := Ground.phase }, { on := 8, ground := Ground.phase }, { on := 9, ground := Ground.phase }, { on := 10, ground := Ground.phase }, { on := 11, ground := Ground.phase }, { on := 12, ground := Ground.phase }, { on := 13, ground := Ground.phase }, { on := 14, ground := Ground.phase }, { on := 15, ground := Ground.phase }, { on := 16, ground := Ground.phase }, { on := 17, ground := Ground.phase }, { on := 18, ground := Ground.phase }, { on := 19, ground := Ground.phase }, { on := 20, ground := Ground.phase }, { on := 21, ground := Ground.phase }, { on := 22, ground := Ground.phase }, { on := 23, ground := Ground.phase }, { on := 24, ground := Ground.phase }, { on := 25, ground := Ground.phase }, { on := 26, ground := Ground.phase }, { on := 27, ground := Ground.phase }, { on := 28, ground := Ground.phase }, { on := 29, ground := Ground.phase }, { on := 30, ground := Ground.phase }, { on := 31, ground := Ground.phase }, { on := 32, ground := Ground.phase }, { on := 33, ground := Ground.phase }, { on := 34, ground := Ground.phase }, { on := 35, ground := Ground.phase }, { on := 36, ground := Ground.phase }, { on := 37, ground := Ground.phase }, { on := 38, ground := Ground.phase }, { on := 39, ground := Ground.phase }, { on := 40, ground := Ground.phase }, { on := 41, ground := Ground.phase }, { on := 42, ground := Ground.phase }, { on := 43, ground := Ground.phase }, { on := 44, ground := Ground.phase }, { on := 45, ground := Ground.phase }, { on := 46, ground := Ground.phase }, { on := 47, ground := Ground.phase }, { on := 48, ground := Ground.phase }, { on := 49, ground := Ground.phase }, { on := 50, ground := Ground.phase }, { on := 51, ground := Ground.phase }, { on := 52, ground := Ground.phase }, { on := 53, ground := Ground.phase }, { on := 54, ground := Ground.phase }, { on := 55, ground := Ground.phase }, { on := 56, ground := Ground.phase }, { on := 57, ground := Ground.phase }, { on := 58, ground := Ground.phase }, { on := 59, ground := Ground.phase }, { on := 60, ground := Ground.phase }, { on := 61, ground := Ground.phase }, { on := 62, ground := Ground.phase }, { on := 63, ground := Ground.phase }, { on := 64, ground := Ground.phase }, { on := 65, ground := Ground.phase }, { on := 66, ground := Ground.phase }, { on := 67, ground := Ground.phase }, { on := 68, ground := Ground.phase }, { on := 69, ground := Ground.phase }, { on := 70, ground := Ground.phase }, { on := 71, ground := Ground.phase }, { on := 72, ground := Ground.phase }, { on := 73, ground := Ground.phase }, { on := 74, ground := Ground.phase }, { on := 75, ground := Ground.phase }, { on := 76, ground := Ground.phase }, { on := 77, ground := Ground.phase }, { on := 78, ground := Ground.phase }, { on := 79, ground := Ground.phase }, { on := 80, ground := Ground.phase }, { on := 81, ground := Ground.phase }, { on := 82, ground := Ground.phase }, { on := 83, ground := Ground.phase }, { on := 84, ground := Ground.phase }, { on := 85, ground := Ground.phase }, { on := 86, ground := Ground.phase }, { on := 87, ground := Ground.phase }, { on := 88, ground := Ground.phase }, { on := 89, ground := Ground.phase }, { on := 90, ground := Ground.phase }, { on := 91, ground := Ground.phase }, { on := 92, ground := Ground.phase }, { on := 93, ground := Ground.phase }, { on := 94, ground := Ground.phase }, { on := 95, ground := Ground.phase }, { on := 96, ground := Ground.phase }, { on := 97, ground := Ground.phase }, { on := 98, ground := Ground.phase }, { on := 99, ground := Ground.phase }, { on := 100, ground := Ground.phase }, { on := 101, ground := Ground.phase }, { on := 102, ground := Ground.phase }, { on := 103, ground := Ground.phase }, { on := 104, ground := Ground.phase }, { on := 105, ground := Ground.phase }, { on := 106, ground := Ground.phase }, { on := 107, ground := Ground.phase }, { on := 108, ground := Ground.phase }, { on := 109, ground := Ground.phase }, { on := 110, ground := Ground.phase }, { on := 111, ground := Ground.phase }, { on := 112, ground := Ground.phase }, { on := 113, ground := Ground.phase }, { on := 114, ground := Ground.phase }, { on := 115, ground := Ground.phase }, { on := 116, ground := Ground.phase }, { on := 117, ground := Ground.phase }, { on := 118, ground := Ground.phase }, { on := 119, ground := Ground.phase }, { on := 120, ground := Ground.phase }, { on := 121, ground := Ground.phase }, { on := 122, ground := Ground.phase }, { on := 123, ground := Ground.phase }, { on := 124, ground := Ground.phase }, { on := 125, ground := Ground.phase }, { on := 126, ground := Ground.phase }], guard := none }, true)]
theorem r10_get : (r10Sig.map fun p => r10Ops[p.1]?) = r10Sig.map fun p => some p.2.1 := by kernel_rfl
theorem r10_sel : Region.noSelect r10Ops = true := by kernel_rfl
theorem r10_lt : (r10Ops.toList.all fun o => o.after.toList.all fun e => decide (e.on < r10Ops.size)) = true := by kernel_rfl
theorem r10_perm : (r10Sig.map fun p => p.1).Perm (List.range r10Ops.size) := by decide +kernel
theorem r10_ok : okG r10Ops (2 ^ r10Ops.size - 1) r10Sig = true := by kernel_rfl
section
variable {ops : Array Oper} {Q : Exit → Act → World → Prop} {S : World → Prop} {o : Oper} {a : Act}
theorem f_not {x : Operand} {b : Bool} {t' : TypeId} (hw : Region.wanted o (yielded ops a.tmps) = true) (ho : o.op = .unOp .not t' x) (hx : a.eval x = .bool b) : YieldsIf Tryz.prog ops S o (.bool (!b)) a :=
  y_run hw fun w _ => by
    unfold execOp
    rw [ho]
    simp only [hx]
    go_simp
theorem f_eqE {x y : Operand} {p q : Int} {t' : TypeId} (hw : Region.wanted o (yielded ops a.tmps) = true) (ho : o.op = .binOp .eql 29 x y t') (hx : a.eval x = .int .i64 p) (hy : a.eval y = .int .i64 q) : YieldsIf Tryz.prog ops S o (.bool (p == q)) a :=
  y_run hw fun w _ => by
    unfold execOp
    rw [ho]
    simp only [hx, hy]
    go_simp
theorem f_idx {x y : Operand} {b n c : Nat} (k : Nat) (hk : k < n) (hw : Region.wanted o (yielded ops a.tmps) = true) (ho : o.op = .indexAddr 22 x y) (hx : a.eval x = .slice (some ⟨b, 0, none⟩) n c) (hy : a.eval y = .int .i64 k) : YieldsIf Tryz.prog ops S o (.pointer (some ⟨b, k, none⟩)) a :=
  y_run hw fun w _ => by
    unfold execOp
    rw [ho]
    simp only [hx, hy]
    go_simp
theorem f_ldR {x : Operand} {b o' : Nat} {p : Option Addr} {n c : Nat} (hw : Region.wanted o (yielded ops a.tmps) = true) (ho : o.op = .load 23 x) (hx : a.eval x = .pointer (some ⟨b, o', none⟩)) (hc : ∀ w, S w → w.cell? ⟨b, o', none⟩ = some (.slice p n c)) : YieldsIf Tryz.prog ops S o (.slice p n c) a :=
  y_run hw fun w hS => by
    have h := hc w hS
    unfold execOp
    rw [ho]
    simp only [hx]
    go_simp
theorem f_ldC {x : Operand} {b : Nat} {k n : Int} {s : ByteArray} (hw : Region.wanted o (yielded ops a.tmps) = true) (ho : o.op = .load 42 x) (hx : a.eval x = .pointer (some ⟨b, 0, none⟩)) (h0 : ∀ w, S w → w.cell? ⟨b, 0, none⟩ = some (.int .i64 k)) (h1 : ∀ w, S w → w.cell? ⟨b, 1, none⟩ = some (.string s)) (h2 : ∀ w, S w → w.cell? ⟨b, 2, none⟩ = some (.int .i64 n)) : YieldsIf Tryz.prog ops S o (.agg #[.int .i64 k, .string s, .int .i64 n]) a :=
  y_run hw fun w hS => by
    have q0 := h0 w hS
    have q1 := h1 w hS
    have q2 := h2 w hS
    unfold execOp
    rw [ho]
    simp only [hx]
    go_simp
theorem f_lo2 {x y : Operand} {b : Nat} (hw : Region.wanted o (yielded ops a.tmps) = true) (ho : o.op = .slice 22 x (some y) none none) (hx : a.eval x = .slice (some ⟨b, 0, none⟩) 3 3) (hy : a.eval y = .int .i64 2) : YieldsIf Tryz.prog ops S o (.slice (some ⟨b, 2, none⟩) 1 1) a :=
  y_run hw fun w _ => by
    unfold execOp
    rw [ho]
    simp only [hx, hy, Option.map_some, Option.map_none]
    go_simp
theorem f_hi1 {x y : Operand} {b : Nat} (hw : Region.wanted o (yielded ops a.tmps) = true) (ho : o.op = .slice 22 x none (some y) none) (hx : a.eval x = .slice (some ⟨b, 0, none⟩) 3 3) (hy : a.eval y = .int .i64 1) : YieldsIf Tryz.prog ops S o (.slice (some ⟨b, 0, none⟩) 1 3) a :=
  y_run hw fun w _ => by
    unfold execOp
    rw [ho]
    simp only [hx, hy, Option.map_some, Option.map_none]
    go_simp
theorem f_hi2 {x y : Operand} {b : Nat} (hw : Region.wanted o (yielded ops a.tmps) = true) (ho : o.op = .slice 22 x none (some y) none) (hx : a.eval x = .slice (some ⟨b, 0, none⟩) 3 3) (hy : a.eval y = .int .i64 2) : YieldsIf Tryz.prog ops S o (.slice (some ⟨b, 0, none⟩) 2 3) a :=
  y_run hw fun w _ => by
    unfold execOp
    rw [ho]
    simp only [hx, hy, Option.map_some, Option.map_none]
    go_simp
theorem f_r2 (w : World) (p q : Option Addr) (n1 n2 c1 c2 : Nat) : (Instr.buildSlice 22 2 #[(0, .slice p n1 c1), (1, .slice q n2 c2)]).run Tryz.prog w = .ok (.slice (some ⟨w.heap.size, 0, none⟩) 2 2) (w.alloc (.cells #[.slice p n1 c1, .slice q n2 c2] 23)) := by go_simp
theorem f_c1 (w : World) (k1 n1 : Int) (s1 : ByteArray) : (Instr.buildSlice 23 1 #[(0, .agg #[.int .i64 k1, .string s1, .int .i64 n1])]).run Tryz.prog w = .ok (.slice (some ⟨w.heap.size, 0, none⟩) 1 1) (w.alloc (.cells #[.int .i64 k1, .string s1, .int .i64 n1] 42)) := by go_simp
theorem f_c2 (w : World) (k1 n1 k2 n2 : Int) (s1 s2 : ByteArray) : (Instr.buildSlice 23 2 #[(0, .agg #[.int .i64 k1, .string s1, .int .i64 n1]), (1, .agg #[.int .i64 k2, .string s2, .int .i64 n2])]).run Tryz.prog w = .ok (.slice (some ⟨w.heap.size, 0, none⟩) 2 2) (w.alloc (.cells #[.int .i64 k1, .string s1, .int .i64 n1, .int .i64 k2, .string s2, .int .i64 n2] 42)) := by go_simp
end
end Go.Proofs.YtmmnfkggfnokjaaGreat
namespace Go.Proofs.YtmmnfkggfnokjaaGreat
open Go.RowKit
/-! ### literals laid -/
theorem rowC1 (w : World) (c : Cel) (hf : c.fit) (T : TypeId) : Row (w.alloc (.cells #[.int .i64 c.k, .string c.s, .int .i64 c.n] T)) (some ⟨w.heap.size, 0, none⟩) 1 [c] := by
  have := row_new w #[.int .i64 c.k, .string c.s, .int .i64 c.n] (T, 0) (xs := [c]) (show CRows _ [.int .i64 c.k, .string c.s, .int .i64 c.n] [c] from CRows.single ⟨rfl, hf⟩) (by simp)
  simpa using this
theorem rowC2 (w : World) (c d : Cel) (hf : c.fit) (hg : d.fit) (T : TypeId) : Row (w.alloc (.cells #[.int .i64 c.k, .string c.s, .int .i64 c.n, .int .i64 d.k, .string d.s, .int .i64 d.n] T)) (some ⟨w.heap.size, 0, none⟩) 2 [c, d] := by
  have := row_new w #[.int .i64 c.k, .string c.s, .int .i64 c.n, .int .i64 d.k, .string d.s, .int .i64 d.n] (T, 0) (xs := [c, d]) (show CRows _ ([.int .i64 c.k, .string c.s, .int .i64 c.n] ++ [.int .i64 d.k, .string d.s, .int .i64 d.n]) ([c] ++ [d]) from CRows.append (show CRows _ [.int .i64 c.k, .string c.s, .int .i64 c.n] [c] from CRows.single ⟨rfl, hf⟩) (show CRows _ [.int .i64 d.k, .string d.s, .int .i64 d.n] [d] from CRows.single ⟨rfl, hg⟩)) (by simp)
  simpa using this
theorem rowR2 {w : World} {a b : Option Addr} {ca cb : Nat} {x y : List Cel} (hx : Row w a ca x) (hy : Row w b cb y) (T : TypeId) : Row (w.alloc (.cells #[.slice a x.length ca, .slice b y.length cb] T)) (some ⟨w.heap.size, 0, none⟩) 2 [x, y] := by
  have hb : Below w.heap.size w (w.alloc (.cells #[.slice a x.length ca, .slice b y.length cb] T)) := (Below.refl _ _).new _
  have := row_new w #[.slice a x.length ca, .slice b y.length cb] (T, 0) (xs := [x, y]) (show CRows _ ([.slice a x.length ca] ++ [.slice b y.length cb]) ([x] ++ [y]) from CRows.append (show CRows _ [.slice a x.length ca] [x] from CRows.single ⟨a, ca, rfl, hx.below hb⟩) (show CRows _ [.slice b y.length cb] [y] from CRows.single ⟨b, cb, rfl, hy.below hb⟩)) (by simp)
  simpa using this
theorem rowR3 {w : World} {a b c : Option Addr} {ca cb cc : Nat} {x y z : List Cel} (hx : Row w a ca x) (hy : Row w b cb y) (hz : Row w c cc z) (T : TypeId) : Row (w.alloc (.cells #[.slice a x.length ca, .slice b y.length cb, .slice c z.length cc] T)) (some ⟨w.heap.size, 0, none⟩) 3 [x, y, z] := by
  have hb : Below w.heap.size w (w.alloc (.cells #[.slice a x.length ca, .slice b y.length cb, .slice c z.length cc] T)) := (Below.refl _ _).new _
  have := row_new w #[.slice a x.length ca, .slice b y.length cb, .slice c z.length cc] (T, 0) (xs := [x, y, z]) (show CRows _ (([.slice a x.length ca] ++ [.slice b y.length cb]) ++ [.slice c z.length cc]) (([x] ++ [y]) ++ [z]) from CRows.append (CRows.append (show CRows _ [.slice a x.length ca] [x] from CRows.single ⟨a, ca, rfl, hx.below hb⟩) (show CRows _ [.slice b y.length cb] [y] from CRows.single ⟨b, cb, rfl, hy.below hb⟩)) (show CRows _ [.slice c z.length cc] [z] from CRows.single ⟨c, cc, rfl, hz.below hb⟩)) (by simp)
  simpa using this
theorem cell_mk (w : World) (cs : Array Value) (T : TypeId) (j : Nat) (v : Value) (h : cs[j]? = some v) : (w.alloc (.cells cs T)).cell? ⟨w.heap.size, j, none⟩ = some v := (World.cell?_alloc_at cs T w.heap.size j rfl).trans h
theorem cA_fit : cA.fit := ⟨by simp [cA], by simp [cA], by simp [cA], by simp [cA], by show (1 : Nat) ≤ _; omega⟩
theorem cB_fit : cB.fit := ⟨by simp [cB], by simp [cB], by simp [cB], by simp [cB], by show (1 : Nat) ≤ _; omega⟩
theorem cV_fit : cV.fit := ⟨by simp [cV], by simp [cV], by simp [cV], by simp [cV], by show (0 : Nat) ≤ _; omega⟩
theorem c0_fit : (⟨2, ⟨#[]⟩, 0⟩ : Cel).fit := ⟨by simp, by simp, by simp, by simp, by show (0 : Nat) ≤ _; omega⟩

end Go.Proofs.YtmmnfkggfnokjaaGreat
