import Derived.Test.YtkbgdpgmnigcbaaL1
namespace Go.Proofs.Ytkbgdpgmnigcbaa
open Go.RowKit

theorem depth_one (t : Tm) : t.depth = 1 ↔ t.flat.length = 1 := by
  rw [depth_eq, flat_cons, List.length_cons]
  cases h : t.args with
  | nil => simp [depths, flats]
  | cons u ts =>
    have h1 := depth_pos u
    have h2 := flat_pos u
    simp only [depths, flats, List.length_append]; omega

set_option maxHeartbeats 1600000 in
theorem lawDepth_any (w : World) (xs : List Cel) (a : Option Addr) (cap : Nat) (hr : Row w a cap xs) :
    Calls Try.prog 7 #[.slice a xs.length cap] w fun e w' => e = .returned (.bool true) ∧ Below w.heap.size w w' := by
  have hm := hr.max
  have hle := hr.le
  by_cases hg : 300 < xs.length
  · go_enter Try.func7, Try.ntmps7
    go_wp2_with (first
      | (go_at_call 12; refine (head_any _).mono ?_; rintro e w1 ⟨rfl, hb1⟩)
      | (go_at_call 13; refine (great_yes hg).mono ?_; rintro e w2 ⟨rfl, hb2⟩))
    go_ret
    exact ⟨rfl, hb1.then hb2⟩
  cases hR : rightB xs with
  | false =>
    go_enter Try.func7, Try.ntmps7
    go_wp2_with (first
      | (go_at_call 12; refine (head_any _).mono ?_; rintro e w1 ⟨rfl, hb1⟩)
      | (go_at_call 13; refine (great_no hg).mono ?_; rintro e w2 ⟨rfl, hb2⟩)
      | (go_at_call 14; refine (right_lit rfl ((hr.below hb1).below hb2) hR).mono ?_; rintro e w3 ⟨rfl, hb3⟩))
    go_ret
    exact ⟨rfl, (hb1.then hb2).then hb3⟩
  | true =>
    obtain ⟨t, ht, rfl, h200⟩ := right_tm hR
    have HP := mkHid (parts_flat ht)
    have hargs := args_le6 ht
    have h0 := flat_pos t
    have hdl := depth_le t
    have hd0 := depths_small t t.args.length (by omega)
    rw [List.take_length] at hd0
    have t1 : ((t.depth : Int) == (depths t.args : Int) + 1) = true := by rw [depth_eq]; simp
    have hd1 := depth_one t
    have hx : ∃ b : Bool, ((t.depth : Int) == 1) = b ∧ ((t.flat.length : Int) == 1) = b := by
      by_cases h : t.depth = 1
      · exact ⟨true, by simp [h], by have := hd1.1 h; simp [this]⟩
      · refine ⟨false, by simp; omega, ?_⟩
        have : ¬ t.flat.length = 1 := fun e => h (hd1.2 e)
        simp; omega
    obtain ⟨b0, t2, t3⟩ := hx
    clear hd1
    go_enter Try.func7, Try.ntmps7
    go_wp2_with (first
      | (go_at_call 12; refine (head_any _).mono ?_; rintro e w1 ⟨rfl, hb1⟩)
      | (go_at_call 13; refine (great_no hg).mono ?_; rintro e w2 ⟨rfl, hb2⟩)
      | (go_at_call 14; refine (right_lit rfl ((hr.below hb1).below hb2) hR).mono ?_; rintro e w3 ⟨rfl, hb3⟩)
      | (go_at_call 26; refine (parts_lit rfl (((hr.below hb1).below hb2).below hb3) hR HP.out (m := t.args.length) (by simp)).mono ?_; rintro e w4 ⟨a4, cap4, rfl, r4, hb4⟩; have hb04 := ((hb1.then hb2).then hb3).then hb4))
    go_loopw [5, 6] (fun m j wr => ∃ (k : Nat), k ≤ t.args.length ∧ j = .int .i64 k ∧ m = .int .i64 (depths (t.args.take k)) ∧ Below w4.heap.size w4 wr) (fun m j wr => t.args.length - (intOf j).toNat)
    case atStart => exact ⟨0, Nat.zero_le _, rfl, rfl, Below.refl _ _⟩
    case round =>
      obtain ⟨k, hk, rfl, rfl, hbl⟩ := hrel
      by_cases hlt : k < t.args.length
      · have hlt' : k < (t.args.map Tm.flat).length := by simpa using hlt
        obtain ⟨b', off', rfl, hb', hat'⟩ := r4.cases.resolve_left (fun e => by rw [e] at hlt'; simp at hlt')
        obtain ⟨a5, cap5, d0, r5⟩ := list_at hat' hbl hlt'
        rw [List.getElem_map] at d0 r5
        have hsm := flat_arg_lt (List.getElem_mem hlt)
        have hok := oks_mem ((ok_iff t).1 ht).2.2 _ (List.getElem_mem hlt)
        have hT := mkHid (depths_take t hlt)
        by_cases hmx : depths (t.args.take k) < t.args[k].depth
        · have hT' : Hid (depths (t.args.take (k + 1)) = t.args[k].depth) := by rw [Hid, hT.out]; omega
          go_wp2_with (go_at_call 18; refine (depth_any t.args[k] hok (by omega) _ _ _ r5).mono ?_; rintro e w5 ⟨rfl, hb5⟩)
          go_round
          case rel => exact ⟨k + 1, by omega, by go_num, by rw [hT'.out], hbl.then hb5⟩
          case measure => simp [intOf]; omega
        · have hT' : Hid (depths (t.args.take (k + 1)) = depths (t.args.take k)) := by rw [Hid, hT.out]; omega
          go_wp2_with (go_at_call 18; refine (depth_any t.args[k] hok (by omega) _ _ _ r5).mono ?_; rintro e w5 ⟨rfl, hb5⟩)
          go_round
          case rel => exact ⟨k + 1, by omega, by go_num, by rw [hT'.out], hbl.then hb5⟩
          case measure => simp [intOf]; omega
      · obtain rfl : k = t.args.length := by omega
        go_wp2_with (go_at_call 18; refine (depth_any t ht h200 _ _ _ ((hr.below hb04).below hbl)).mono ?_; rintro e w6 ⟨rfl, hb6⟩)
        go_ret
        refine ⟨ret_bool ?_, (hb04.then hbl).then hb6⟩
        cases b0 <;> rfl

theorem varsGo_append (a b : List Cel) : ∀ acc : List Int, varsGo acc (a ++ b) = varsGo (varsGo acc a) b := by
  induction a with
  | nil => intro acc; rfl
  | cons c a ih => intro acc; simp only [List.cons_append, varsGo]; exact ih _
def addL (acc : List Int) : List Int → List Int
  | [] => acc
  | n :: l => addL (if n ∈ acc then acc else acc ++ [n]) l
theorem addL_append (a b : List Int) : ∀ acc : List Int, addL acc (a ++ b) = addL (addL acc a) b := by
  induction a with
  | nil => intro acc; rfl
  | cons c a ih => intro acc; simp only [List.cons_append, addL]; exact ih _
theorem mem_addL (l : List Int) : ∀ (acc : List Int) (n : Int), n ∈ addL acc l ↔ n ∈ acc ∨ n ∈ l := by
  induction l with
  | nil => intro acc n; simp [addL]
  | cons m l ih =>
    intro acc n
    simp only [addL]
    rw [ih, List.mem_cons]
    by_cases hm : m ∈ acc
    · rw [if_pos hm]
      constructor
      · rintro (h | h)
        · exact .inl h
        · exact .inr (.inr h)
      · rintro (h | rfl | h)
        · exact .inl h
        · exact .inl hm
        · exact .inr h
    · rw [if_neg hm, List.mem_append, List.mem_singleton]
      constructor
      · rintro ((h | h) | h)
        · exact .inl h
        · exact .inr (.inl h)
        · exact .inr (.inr h)
      · rintro (h | h | h)
        · exact .inl (.inl h)
        · exact .inl (.inr h)
        · exact .inr h
theorem addL_vars (p : List Cel) : ∀ acc b : List Int, addL acc (varsGo b p) = varsGo (addL acc b) p := by
  induction p with
  | nil => intro acc b; rfl
  | cons c p ih =>
    intro acc b
    simp only [varsGo]
    rw [ih]
    congr 1
    by_cases h1 : c.k = 1
    · by_cases h2 : c.n ∈ b
      · rw [if_neg (by simp [h2]), if_neg]
        intro h; exact h.2 ((mem_addL _ _ _).2 (.inr h2))
      · rw [if_pos ⟨h1, h2⟩, addL_append]
        simp only [addL]
        by_cases h3 : c.n ∈ addL acc b
        · rw [if_pos h3, if_neg (fun h => h.2 h3)]
        · rw [if_neg h3, if_pos ⟨h1, h3⟩]
    · rw [if_neg (fun h => h1 h.1), if_neg (fun h => h1 h.1)]
theorem addL_step (acc l : List Int) {k : Nat} (hk : k < l.length) : addL acc (l.drop k) = addL (if l[k] ∈ acc then acc else acc ++ [l[k]]) (l.drop (k + 1)) := by
  rw [List.drop_eq_getElem_cons hk]; rfl
theorem vars_arg (t : Tm) {k : Nat} (hk : k < t.args.length) : varsGo [] (flats (t.args.take (k + 1))) = addL (varsGo [] (flats (t.args.take k))) (varsL t.args[k].flat) := by
  rw [List.take_succ_eq_append_getElem hk, flats_append, varsGo_append]
  simp only [flats, List.append_nil]
  unfold varsL
  rw [addL_vars]; rfl
theorem vars_hd {t : Tm} (h : ¬ t.hd.k = 1) : varsL t.flat = varsGo [] (flats t.args) := by
  unfold varsL
  rw [flat_cons]
  simp only [varsGo]
  rw [if_neg (fun h' => h h'.1)]
end Go.Proofs.Ytkbgdpgmnigcbaa
