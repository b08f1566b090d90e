import Derived.Test.YtnpffificfghpaaZr3
namespace Go.Proofs.Ytnpffificfghpaa
open Go.RowKit

/-! ### the package's calls, whole -/
theorem fact_len {t : List Cel} (h : factB t = true) : t.length ≤ 200 := by
  obtain ⟨_, _, _, h2⟩ := right_tm (fact_right h); exact h2
theorem FR.small {l : List (List Cel)} (h : FR l) : ∀ x ∈ l, x.length ≤ 1000000 := fun x hx => Nat.le_trans (fact_len (h.all x hx)) (by decide)
theorem all_picked (l : List (List Cel)) : l.filter (fun _ => true) = l := by simp

set_option maxHeartbeats 1600000 in
set_option maxRecDepth 100000 in
theorem addF_any (a : Option Addr) (cap : Nat) (l : List (List Cel)) (a' : Option Addr) (cap' : Nat) (t : List Cel) (w : World) (hr : Row w a cap l) (ht : Row w a' cap' t) (hF : FR l) :
    Calls Try.prog 202 #[.slice a l.length cap, .slice a' t.length cap'] w fun e w' => ∃ a2 c2, e = .returned (.tuple #[.slice a2 (addF l t).length c2, .int .i64 (addE l t)]) ∧ Row w' a2 c2 (addF l t) ∧ Below w.heap.size w w' := by
  have hm := hr.max
  have hm2 := hr.le
  have hm3 := ht.max
  have hm4 := ht.le
  have h512 := hF.len
  cases hQ : factB t with
  | false =>
    have HE : Hid (addE l t = 120) := by unfold Hid addE; rw [hQ]; rfl
    have HL : Hid (addF l t = []) := by unfold Hid addF; rw [hQ]; rfl
    have HQ := mkHid hQ
    clear hQ hF
    go_enter Try.func202, Try.ntmps202
    go_wp2_with fail
    refine (fact_is ht HQ).mono ?_; rintro e w1 ⟨rfl, hb1⟩
    go_wp2_with fail
    go_ret2
    rw [HE.out, HL.out]
    exact ⟨none, 0, rfl, nilRow _, hb1⟩
  | true =>
    have htl := fact_len hQ
    have hple := pos_le t l
    have HI : Hid (t ∉ l → insF t l = l.take (posF t l) ++ t :: l.drop (posF t l)) := ins_pos hF.rise
    have HX := mkHid hF.small
    have HQ := mkHid hQ
    have HF := mkHid hF
    clear hF
    by_cases hin : t ∈ l
    · have HE : Hid (addE l t = 0) := addE_in hQ hin
      have HL : Hid (addF l t = l) := by unfold Hid addF; rw [if_pos hQ, if_pos hin]
      have HD : Hid (decide (t ∈ l) = true) := decide_eq_true hin
      clear hQ hin
      go_enter Try.func202, Try.ntmps202
      go_wp2_with fail
      refine (fact_is ht HQ).mono ?_; rintro e w1 ⟨rfl, hb1⟩
      go_wp2_with fail
      refine (place_any a cap l a' cap' t w1 (hr.below hb1) (ht.below hb1) HF.out).mono ?_; rintro e w2 ⟨rfl, hb2⟩
      rw [HD.out]
      have hr2 := (hr.below hb1).below hb2
      go_wp2_with fail
      refine (picked_any 233 #[] (fun _ => true) a cap l w2 hr2 (by omega) HX.out (fun _ _ => by kernel_rfl) (fun W i hi a1 c1 _ _ => add1_any _ W)).mono ?_
      rintro e w3 ⟨v, rfl, hacc, hb3⟩
      rw [all_picked] at hacc
      obtain ⟨a3, c3, rfl, hr3⟩ := hacc.row
      go_wp2_with fail
      go_ret2
      rw [HE.out, HL.out]
      exact ⟨a3, c3, rfl, hr3, (hb1.then hb2).then hb3⟩
    · have HD : Hid (decide (t ∈ l) = false) := decide_eq_false hin
      by_cases hfull : 512 ≤ l.length
      · have HE : Hid (addE l t = 2) := by unfold Hid addE; rw [if_pos hQ, if_neg hin, if_pos hfull]
        have HL : Hid (addF l t = []) := by unfold Hid addF; rw [if_pos hQ, if_neg hin, if_pos hfull]
        clear hQ hin
        go_enter Try.func202, Try.ntmps202
        go_wp2_with fail
        refine (fact_is ht HQ).mono ?_; rintro e w1 ⟨rfl, hb1⟩
        go_wp2_with fail
        refine (place_any a cap l a' cap' t w1 (hr.below hb1) (ht.below hb1) HF.out).mono ?_; rintro e w2 ⟨rfl, hb2⟩
        rw [HD.out]
        have hr2 := (hr.below hb1).below hb2
        go_wp2_with fail
        refine (picked_any 233 #[] (fun _ => true) a cap l w2 hr2 (by omega) HX.out (fun _ _ => by kernel_rfl) (fun W i hi a1 c1 _ _ => add1_any _ W)).mono ?_
        rintro e w3 ⟨v, rfl, hacc, hb3⟩
        go_wp2_with fail
        go_ret2
        rw [HE.out, HL.out]
        exact ⟨none, 0, rfl, nilRow _, (hb1.then hb2).then hb3⟩
      · have HE : Hid (addE l t = 0) := by unfold Hid addE; rw [if_pos hQ, if_neg hin, if_neg hfull]
        have HL : Hid (addF l t = l.take (posF t l) ++ t :: l.drop (posF t l)) := by unfold Hid addF; rw [if_pos hQ, if_neg hin, if_neg hfull]; exact HI.out hin
        have hlt : l.length < 512 := by omega
        have HN := mkHid (ins_len l t (posF t l))
        clear hQ hin
        go_enter Try.func202, Try.ntmps202
        go_wp2_with fail
        refine (fact_is ht HQ).mono ?_; rintro e w1 ⟨rfl, hb1⟩
        go_wp2_with fail
        refine (place_any a cap l a' cap' t w1 (hr.below hb1) (ht.below hb1) HF.out).mono ?_; rintro e w2 ⟨rfl, hb2⟩
        rw [HD.out]
        have hb12 := hb1.then hb2
        have hr2 := hr.below hb12
        go_wp2_with fail
        refine (picked_any 233 #[] (fun _ => true) a cap l w2 hr2 (by omega) HX.out (fun _ _ => by kernel_rfl) (fun W i hi a1 c1 _ _ => add1_any _ W)).mono ?_
        rintro e w3 ⟨v, rfl, hacc, hb3⟩
        rw [all_picked] at hacc
        have hb13 := hb12.then hb3
        have ht3 := ht.below hb13
        go_wp2_with fail
        refine (clone_new2 a' cap' w3 t ht3 (by omega)).mono ?_
        rintro e w4 ⟨a4, c4, rfl, hr4, hb4⟩
        have hacc4 := hacc.below hb4
        have hh4 := hacc.newer (Nat.le_refl _) hr4
        have hb24 := hb3.then hb4
        go_wp2_with fail
        refine (insert_any w2.heap.size v l (posF t l) t a4 c4 w4 hacc4 hple (by omega) hb24.size hh4).mono ?_
        rintro e w5 ⟨a5, c5, rfl, hr5, hb5⟩
        go_wp2_with fail
        go_ret2
        rw [HE.out, HL.out, HN.out]
        exact ⟨a5, c5, rfl, hr5, hb12.trans ((hb24.trans hb5).mono hb12.size)⟩

set_option maxHeartbeats 1600000 in
set_option maxRecDepth 100000 in
theorem dropF_any (a : Option Addr) (cap : Nat) (l : List (List Cel)) (a' : Option Addr) (cap' : Nat) (t : List Cel) (w : World) (hr : Row w a cap l) (ht : Row w a' cap' t) (hF : FR l) :
    Calls Try.prog 203 #[.slice a l.length cap, .slice a' t.length cap'] w fun e w' => ∃ a2 c2, e = .returned (.tuple #[.slice a2 (dropF l t).length c2, .int .i64 (dropE l t)]) ∧ Row w' a2 c2 (dropF l t) ∧ Below w.heap.size w w' := by
  have hm := hr.max
  have hm2 := hr.le
  have hm3 := ht.max
  have hm4 := ht.le
  have h512 := hF.len
  have hmf : ∀ (fn : Fn) (first cap : Array Value) (w : World), (Instr.makeFunc fn first cap).run Try.prog w = .ok (.func fn first cap) w := fun _ _ _ _ => rfl
  have hb0 : Below w.heap.size w (w.alloc (.cells #[.slice a' t.length cap'] 30)) := (Below.refl _ _).new _
  have k0 : (w.alloc (.cells #[.slice a' t.length cap'] 30)).cell? ⟨w.heap.size, 0, none⟩ = some (.slice a' t.length cap') := World.cell?_alloc_at _ _ _ 0 rfl
  have ht0 := ht.below hb0
  have hr0 := hr.below hb0
  cases hQ : factB t with
  | false =>
    have HE : Hid (dropE l t = 120) := by unfold Hid dropE; rw [hQ]; rfl
    have HL : Hid (dropF l t = []) := by unfold Hid dropF; rw [hQ]; rfl
    have HQ := mkHid hQ
    clear hQ hF
    go_enter Try.func203, Try.ntmps203
    go_wp2_with fail
    refine (fact_is ht0 HQ).mono ?_; rintro e w1 ⟨rfl, hb1⟩
    go_wp2_with fail
    go_ret2
    rw [HE.out, HL.out]
    exact ⟨none, 0, rfl, nilRow _, hb0.then hb1⟩
  | true =>
    have HX := mkHid hF.small
    have HQ := mkHid hQ
    have HF := mkHid hF
    clear hF
    by_cases hin : t ∈ l
    · have HE : Hid (dropE l t = 0) := dropE_ok hQ hin
      have HL : Hid (dropF l t = l.filter (fun x => !decide (x = t))) := by unfold Hid dropF; rw [if_pos hQ, if_pos hin]
      have HD : Hid (decide (t ∈ l) = true) := decide_eq_true hin
      clear hQ hin
      go_enter Try.func203, Try.ntmps203
      go_wp2_with fail
      refine (fact_is ht0 HQ).mono ?_; rintro e w1 ⟨rfl, hb1⟩
      have k1 := keep k0 hb1
      go_wp2_with fail
      refine (hasF_any a cap l a' cap' t w1 (hr0.below hb1) (ht0.below hb1) HF.out).mono ?_; rintro e w2 ⟨rfl, hb2⟩
      rw [HD.out]
      have hb12 := hb1.then hb2
      have hr2 := hr0.below hb12
      have ht2 := ht0.below hb12
      have k2 := keep k0 hb12
      go_wp2_with fail
      refine (picked_any 235 #[.pointer (some ⟨w.heap.size, 0, none⟩)] (fun x => !decide (x = t)) a cap l w2 hr2 (by omega) HX.out (fun _ _ => by kernel_rfl) (fun W i hi a1 c1 hW h1 => drop1_any w.heap.size W a1 c1 _ a' cap' t h1 (ht2.below hW) (keep k2 hW))).mono ?_
      rintro e w3 ⟨v, rfl, hacc, hb3⟩
      obtain ⟨a3, c3, rfl, hr3⟩ := hacc.row
      go_wp2_with fail
      go_ret2
      rw [HE.out, HL.out]
      exact ⟨a3, c3, rfl, hr3, (hb0.then hb12).then hb3⟩
    · have HE : Hid (dropE l t = 3) := by unfold Hid dropE; rw [if_pos hQ, if_neg hin]
      have HL : Hid (dropF l t = []) := by unfold Hid dropF; rw [if_pos hQ, if_neg hin]
      have HD : Hid (decide (t ∈ l) = false) := decide_eq_false hin
      clear hQ hin
      go_enter Try.func203, Try.ntmps203
      go_wp2_with fail
      refine (fact_is ht0 HQ).mono ?_; rintro e w1 ⟨rfl, hb1⟩
      have k1 := keep k0 hb1
      go_wp2_with fail
      refine (hasF_any a cap l a' cap' t w1 (hr0.below hb1) (ht0.below hb1) HF.out).mono ?_; rintro e w2 ⟨rfl, hb2⟩
      rw [HD.out]
      go_wp2_with fail
      go_ret2
      rw [HE.out, HL.out]
      exact ⟨none, 0, rfl, nilRow _, hb0.then (hb1.then hb2)⟩

set_option maxHeartbeats 1600000 in
set_option maxRecDepth 100000 in
theorem withoutF_any (a : Option Addr) (cap : Nat) (l : List (List Cel)) (a' : Option Addr) (cap' : Nat) (m : List (List Cel)) (w : World) (hr : Row w a cap l) (ht : Row w a' cap' m) (hF : FR l) (hG : FR m) :
    Calls Try.prog 151 #[.slice a l.length cap, .slice a' m.length cap'] w fun e w' => ∃ a2 c2, e = .returned (.slice a2 (lessF l m).length c2) ∧ Row w' a2 c2 (lessF l m) ∧ Below w.heap.size w w' := by
  have hm := hr.max
  have hm2 := hr.le
  have h512 := hF.len
  have hmf : ∀ (fn : Fn) (first cap : Array Value) (w : World), (Instr.makeFunc fn first cap).run Try.prog w = .ok (.func fn first cap) w := fun _ _ _ _ => rfl
  have hb0 : Below w.heap.size w (w.alloc (.cells #[.slice a' m.length cap'] 22)) := (Below.refl _ _).new _
  have k0 : (w.alloc (.cells #[.slice a' m.length cap'] 22)).cell? ⟨w.heap.size, 0, none⟩ = some (.slice a' m.length cap') := World.cell?_alloc_at _ _ _ 0 rfl
  have ht0 := ht.below hb0
  have hr0 := hr.below hb0
  have HX := mkHid hF.small
  have HG := mkHid hG
  clear hF hG
  go_enter Try.func151, Try.ntmps151
  go_wp2_with fail
  refine (picked_any 205 #[.pointer (some ⟨w.heap.size, 0, none⟩)] (fun x => !decide (x ∈ m)) a cap l _ hr0 (by omega) HX.out (fun _ _ => by kernel_rfl) (fun W i hi a1 c1 hW h1 => without1_any w.heap.size W a1 c1 _ a' cap' m h1 (ht0.below hW) HG.out (keep k0 hW))).mono ?_
  rintro e w3 ⟨v, rfl, hacc, hb3⟩
  obtain ⟨a3, c3, rfl, hr3⟩ := hacc.row
  go_wp2_with fail
  go_ret
  exact ⟨a3, c3, rfl, hr3, hb0.then hb3⟩

set_option maxHeartbeats 1600000 in
set_option maxRecDepth 100000 in
theorem diffF_any (a : Option Addr) (cap : Nat) (l : List (List Cel)) (a' : Option Addr) (cap' : Nat) (m : List (List Cel)) (w : World) (hr : Row w a cap l) (ht : Row w a' cap' m) (hF : FR l) (hG : FR m) :
    Calls Try.prog 77 #[.slice a l.length cap, .slice a' m.length cap'] w fun e w' => ∃ a2 c2 a3 c3, e = .returned (.tuple #[.slice a2 (lessF m l).length c2, .slice a3 (lessF l m).length c3]) ∧ Row w' a2 c2 (lessF m l) ∧ Row w' a3 c3 (lessF l m) ∧ Below w.heap.size w w' := by
  have HF := mkHid hF
  have HG := mkHid hG
  clear hF hG
  go_enter Try.func77, Try.ntmps77
  go_wp2_with fail
  refine (withoutF_any a' cap' m a cap l w ht hr HG.out HF.out).mono ?_; rintro e w1 ⟨a1, c1, rfl, hr1, hb1⟩
  go_wp2_with fail
  with_reducible refine (withoutF_any a cap l a' cap' m w1 (hr.below hb1) (ht.below hb1) HF.out HG.out).mono ?_
  rintro e w2 ⟨a2, c2, rfl, hr2, hb2⟩
  go_wp2_with fail
  go_ret2
  exact ⟨a1, c1, a2, c2, rfl, hr1.below hb2, hr2, hb1.then hb2⟩
end Go.Proofs.Ytnpffificfghpaa
namespace Go.Proofs.Ytnpffificfghpaa
open Go.RowKit

/-! ### facts that are made of any cells -/
def gndC (c : Cel) : Cel := if c.k = 1 then ⟨2, ⟨#[]⟩, c.n⟩ else c
theorem gnd_fit {c : Cel} (h : c.fit) : (gndC c).fit := by
  unfold gndC
  split
  · exact ⟨by show (-9223372036854775808 : Int) ≤ 2; omega, by show (2 : Int) ≤ _; omega, h.n1, h.n2, by show (0 : Nat) ≤ _; omega⟩
  · exact h
theorem gnd_ok {c : Cel} (h : cellOk c = true) : cellOk (gndC c) = true ∧ ar (gndC c) = ar c := by
  unfold gndC
  split
  · next h1 =>
    constructor
    · unfold cellOk at h ⊢
      simp [h1] at h ⊢
      omega
    · unfold ar; simp [h1]
  · exact ⟨h, rfl⟩
theorem gnd_k (c : Cel) : (gndC c).k ≠ 1 := by
  unfold gndC
  split
  · simp
  · assumption
/-- a right term that begins with a name, without variables -/
theorem gnd_fact {t : Tm} (ht : t.ok) (hl : t.flat.length ≤ 200) (hf : funB t.flat = true) : (mapT gndC t).ok ∧ (mapT gndC t).flat = t.flat.map gndC ∧ (mapT gndC t).depth = t.depth ∧ (t.depth ≤ 12 → factB (t.flat.map gndC) = true) := by
  have h1 : (mapT gndC t).ok := mapT_ok gndC t ht (fun c hc => gnd_ok (ok_cells t ht c hc))
  have h2 := mapT_flat gndC t
  have h3 := mapT_depth gndC t
  refine ⟨h1, h2, h3, fun hd => ?_⟩
  rw [← h2]
  refine fact_flat h1 (by rw [h2, List.length_map]; exact hl) ?_ ?_ (by rw [h3]; exact hd)
  · cases t with
    | mk c ts =>
      have hk : c.k = 3 := by simpa [Tm.flat, funB] using hf
      show (gndC c).k = 3
      unfold gndC
      rw [if_neg (by omega)]; exact hk
  · rw [h2]
    unfold groundB
    rw [List.all_eq_true]
    intro c hc
    obtain ⟨d, _, rfl⟩ := List.mem_map.1 hc
    simp [gnd_k d]
def aL : List Cel := [⟨3, ⟨#[97]⟩, 0⟩]
theorem aL_fact : factB aL = true := by
  have h : (Tm.mk ⟨3, ⟨#[97]⟩, 0⟩ []).ok := ⟨by decide +kernel, rfl, trivial⟩
  exact fact_flat h (by simp [Tm.flat, flats]) rfl (by decide +kernel) (by simp [Tm.depth, depths])
theorem aL_row (w : World) : Row (w.alloc (.cells #[.int .i64 3, .string ⟨#[97]⟩, .int .i64 0] 93)) (some ⟨w.heap.size, 0, none⟩) 1 aL := by
  have := row_new w #[.int .i64 3, .string ⟨#[97]⟩, .int .i64 0] (93, 0) (xs := aL) (CRows.single (w := _) (x := (⟨3, ⟨#[97]⟩, 0⟩ : Cel)) ⟨rfl, aC_fit⟩) (by simp [aL])
  simpa [aL] using this

set_option maxHeartbeats 1600000 in
set_option maxRecDepth 100000 in
theorem atom3_any (a : Option Addr) (cap : Nat) (w : World) (xs : List Cel) (hx : Row w a cap xs) (most : Nat) (hm1 : 1 ≤ most) (hm2 : most ≤ 200) :
    Calls Try.prog 82 #[.slice a xs.length cap, .int .i64 most] w fun e w' => ∃ a' cap' ys, e = .returned (.slice a' ys.length cap') ∧ Row w' a' cap' ys ∧ rightB ys = true ∧ funB ys = true ∧ ys.length ≤ most ∧ Below w.heap.size w w' := by
  go_enter Try.func82, Try.ntmps82
  go_wp2_with fail
  refine (made_any a cap w xs hx most hm1 hm2).mono ?_
  rintro e w1 ⟨a1, c1, ys, rfl, hr1, hR, hl, hb1⟩
  have h0 : 0 < ys.length := by obtain ⟨t, _, hxt, _⟩ := right_tm hR; rw [hxt]; exact flat_pos t
  obtain ⟨b, off, rfl, hb, hat⟩ := hr1.cases.resolve_left (fun e => by simp [e] at h0)
  obtain ⟨c0, _, _, _⟩ := cel_at hat (Below.refl _ _) h0
  simp only [Nat.zero_mul, Nat.add_zero] at c0
  have hmx := hr1.max
  have hle := hr1.le
  have HR := mkHid hR
  clear hR
  by_cases h3 : ys[0].k = 3
  · have t3 : (ys[0].k == 3) = true := by simp [h3]
    have HF : Hid (funB ys = true) := by
      unfold Hid
      cases ys with
      | nil => simp at h0
      | cons c l => simpa [funB] using h3
    clear h3
    go_wp2_with fail
    go_ret
    exact ⟨_, c1, ys, rfl, hr1, HR.out, HF.out, hl, hb1⟩
  · have t3 : (ys[0].k == 3) = false := by simp [h3]
    clear h3
    go_wp2_with fail
    go_ret
    exact ⟨_, 1, aL, rfl, aL_row w1, fact_right aL_fact, rfl, hm1, hb1.new _⟩

theorem flat_set3 (xs : List Cel) (i : Nat) (hi : i < xs.length) (c : Cel) : (((flat xs).set (i * 3) (.int .i64 c.k)).set (i * 3 + 1) (.string c.s)).set (i * 3 + 2) (.int .i64 c.n) = flat (xs.set i c) := by
  induction xs generalizing i with
  | nil => simp at hi
  | cons d xs ih =>
    cases i with
    | zero => simp [flat]
    | succ i =>
      have := ih i (by simpa using hi)
      have hf : flat (d :: xs) = .int .i64 d.k :: .string d.s :: .int .i64 d.n :: flat xs := rfl
      rw [List.set_cons_succ, hf, show (i + 1) * 3 = i * 3 + 1 + 1 + 1 by omega]
      have hf2 : flat (d :: xs.set i c) = .int .i64 d.k :: .string d.s :: .int .i64 d.n :: flat (xs.set i c) := rfl
      rw [hf2, ← this]
      simp only [List.set_cons_succ, Nat.add_right_comm _ 1]
theorem own_store3 {w : World} {B e g n cap : Nat} {f : Cel → Cel} {xs : List Cel} {k : Nat} (h : w.ownsRow B e 3 (.slice (some ⟨g, 0, none⟩) n cap) n (flat (upTo f xs k))) (hk : k < xs.length) {c : Cel} (hf : f xs[k] = c) :
    (((w.setCell ⟨g, k * 3, none⟩ (.int .i64 c.k)).setCell ⟨g, k * 3 + 1, none⟩ (.string c.s)).setCell ⟨g, k * 3 + 2, none⟩ (.int .i64 c.n)).ownsRow B e 3 (.slice (some ⟨g, 0, none⟩) n cap) n (flat (upTo f xs (k + 1))) := by
  have h1 := (h.stored (k * 3) (.int .i64 c.k)).1
  have h2 := (h1.stored (k * 3 + 1) (.string c.s)).1
  have h3 := (h2.stored (k * 3 + 2) (.int .i64 c.n)).1
  have hl : k < (upTo f xs k).length := by rw [upTo_length]; exact hk
  rw [flat_set3 _ _ hl, ← hf, ← upTo_succ f xs hk] at h3
  rw [← hf]
  exact h3

theorem crows_cels {w : World} : ∀ {vs : List Value} {xs : List Cel}, CRows w vs xs → vs = flat xs ∧ ∀ c ∈ xs, c.fit
  | _, _, .nil => ⟨rfl, fun c h => by simp at h⟩
  | _, _, .cons hc hr => by
    obtain ⟨rfl, hf⟩ := hc
    obtain ⟨rfl, h2⟩ := crows_cels hr
    exact ⟨rfl, fun c h => by
      rcases List.mem_cons.1 h with rfl | h
      · exact hf
      · exact h2 c h⟩
theorem hide_bare {w : World} {g : Nat} {T : TypeId} {z : Nat × Nat} (h : w.heap[g]? = some (.cells #[] T z)) : Keeps w (hide (some g) w) := fun b o v hc => by
  by_cases hb : b = g
  · subst hb
    simp [World.cell?, h] at hc
  · exact hide_of_ne hb hc

set_option maxHeartbeats 3200000 in
set_option maxRecDepth 100000 in
theorem made12_any (a : Option Addr) (cap : Nat) (w : World) (xs : List Cel) (hx : Row w a cap xs) :
    Calls Try.prog 36 #[.slice a xs.length cap] w fun e w' => ∃ a' cap' ys, e = .returned (.slice a' ys.length cap') ∧ Row w' a' cap' ys ∧ factB ys = true ∧ ys.length ≤ 12 ∧ Below w.heap.size w w' := by
  have hb0 := (Below.refl w.heap.size w).new (.cells #[] 93)
  have hm0 := AccInv.made (α := Cel) (B := w.heap.size) (e := 93) (T := 93) w (Nat.le_refl _) rfl
  have hg0 : (w.alloc (.cells #[] 93)).heap[w.heap.size]? = some (.cells #[] 93 (0, 0)) := heap_alloc_new _ _
  have hx0 := hx.below hb0
  go_enter Try.func36, Try.ntmps36
  go_wp2_with fail
  refine (atom3_any a cap _ xs hx0 12 (by omega) (by omega)).mono ?_
  rintro e w1 ⟨a1, c1, ys, rfl, hr1, hR, hF, hl, hb1⟩
  have hacc1 := hm0.below hb1
  have hrh : Row (hide (some w.heap.size) w1) a1 c1 ys := hr1.keeps (hide_bare ((hb1.block _ (by simp)).trans hg0))
  have hb01 := hb0.then hb1
  have hsz1 := hb01.size
  obtain ⟨t, ht, hxt, h200⟩ := right_tm hR
  have h0 : 0 < ys.length := by rw [hxt]; exact flat_pos t
  have HG := mkHid (gnd_fact ht (by rw [← hxt]; exact h200) (by rw [← hxt]; exact hF))
  have HX := mkHid hxt
  clear hR hF hxt ht h200
  go_wp2_with (at_builtin; refine wpList_accs (α := Cel) rfl _ _ 30 rfl w.heap.size 93 32 _ Try.underlying30 Try.infoCell rfl (by decide) _ [] hacc1 (by rfl) _ _ ys hrh (by rfl) (by simp; omega) hsz1 ?_; intro v9 w9 hacc9 hb9)
  rw [List.nil_append] at hacc9
  obtain ⟨vs, hown, hcr⟩ := hacc9.ex
  obtain ⟨rfl, hfit⟩ := crows_cels hcr
  have HFIT := mkHid hfit
  have hb09 := hb01.trans (hb9.mono (Nat.le_refl _))
  clear hacc9 hcr hfit hacc1 hm0 hg0 hb9
  obtain ⟨g, cp, rfl, hg1, hg2, hg3, hg4⟩ := own_form hown h0
  go_wp2_with fail
  go_loopw [4] (fun i wr => ∃ k : Nat, k ≤ ys.length ∧ i = .int .i64 k ∧ wr.ownsRow w.heap.size 93 3 (.slice (some ⟨g, 0, none⟩) ys.length cp) ys.length (flat (upTo gndC ys k)) ∧ Below w.heap.size w wr) (fun i wr => ys.length - (intOf i).toNat)
  case atStart => exact ⟨0, Nat.zero_le _, rfl, by rw [upTo_zero]; exact hown, hb09⟩
  case round =>
    clear hown
    obtain ⟨k, hk, rfl, hown, hbl⟩ := hrel
    have hgl := (hown.lt g rfl).2
    by_cases hlt : k < ys.length
    · obtain ⟨o0, o1, o2⟩ := own_cel hown (upTo_at _ _ hlt)
      have hz0 := own_free hown (k * 3)
      have hz1 := own_free hown (k * 3 + 1)
      have hz2 := own_free hown (k * 3 + 2)
      by_cases h1 : ys[k].k = 1
      · have t1 : (ys[k].k == 1) = true := by simp [h1]
        have hs := own_store3 hown hlt (show gndC ys[k] = ⟨2, ⟨#[]⟩, ys[k].n⟩ from if_pos h1)
        have HS := mkHid hs
        have HB := mkHid (((hbl.setCell (p := ⟨g, k * 3, none⟩) hg1 (.int .i64 2)).setCell (p := ⟨g, k * 3 + 1, none⟩) hg1 (.string ⟨#[]⟩)).setCell (p := ⟨g, k * 3 + 2, none⟩) hg1 (.int .i64 ys[k].n))
        clear h1 hs
        go_wp2
        go_round
        case rel => exact ⟨k + 1, by omega, by go_num, HS.out, HB.out⟩
        case measure => simp [intOf]; omega
      · have t1 : (ys[k].k == 1) = false := by simp [h1]
        have HE := mkHid (upTo_same gndC ys hlt (if_neg h1))
        clear h1
        go_wp2
        go_round
        case rel => exact ⟨k + 1, by omega, by go_num, by rw [HE.out]; exact hown, hbl⟩
        case measure => simp [intOf]; omega
    · have hu := upTo_all gndC ys (k := k) (by omega)
      rw [hu] at hown
      have hml : (ys.map gndC).length = ys.length := by simp
      have hfm : ∀ c ∈ ys.map gndC, c.fit := fun c hc => by
        obtain ⟨c', hc', rfl⟩ := List.mem_map.1 hc
        exact gnd_fit (HFIT.out c' hc')
      obtain ⟨a2, cap2, ev, hrow⟩ := own_row (xs := ys.map gndC) (by rw [hml]; exact hown) hfm
      rw [hml] at ev
      injection ev with ev1 _ ev2
      subst ev1
      subst ev2
      obtain ⟨d, hd⟩ : ∃ d, t.depth = d := ⟨_, rfl⟩
      have hflat : (mapT gndC t).flat = ys.map gndC := by rw [HG.out.2.1, HX.out]
      have hcall := refdepth_litF (n := ys.length) hflat HG.out.1 hml.symm (by rw [hml]; omega) hrow (d := d) (by rw [HG.out.2.2.1]; exact hd)
      have HC := mkHid hcall
      have HM := mkHid hml
      have HY : Hid (d ≤ 12 → factB (ys.map gndC) = true) := fun h => by
        have := HG.out.2.2.2 (by rw [hd]; exact h)
        rwa [← HX.out] at this
      have hdn : (d : Int) ≤ 12 := by
        have h1 := depth_le t
        rw [← HX.out] at h1; omega
      clear hcall hu hml hflat hd
      go_wp2_with (go_at_call 83; refine HC.out.mono ?_; rintro e w2 ⟨rfl, hb2⟩)
      go_ret
      exact ⟨some ⟨g, 0, none⟩, cp, ys.map gndC, by rw [HM.out]; rfl, hrow.below hb2, HY.out (by omega), by rw [HM.out]; omega, hbl.then hb2⟩

set_option maxHeartbeats 1600000 in
set_option maxRecDepth 100000 in
theorem row12_any (a : Option Addr) (cap : Nat) (w : World) (l : List (List Cel)) (hr : Row w a cap l) (most : Nat) (hm : most ≤ 512) :
    Calls Try.prog 72 #[.slice a l.length cap, .int .i64 most] w fun e w' => ∃ a' cap' ys, e = .returned (.slice a' ys.length cap') ∧ Row w' a' cap' ys ∧ FR ys ∧ ys.length ≤ most ∧ Below w.heap.size w w' := by
  have hmm := hr.max
  have hm2 := hr.le
  have hb0 := (Below.refl w.heap.size w).new (.cells #[] 30)
  go_enter Try.func72, Try.ntmps72
  go_wp2_with fail
  go_loopw [5, 6] (fun v i wr => ∃ (k : Nat) (ys : List (List Cel)) (a1 : Option Addr) (c1 : Nat), k ≤ l.length ∧ k ≤ most ∧ ys.length ≤ k ∧ i = .int .i64 k ∧ v = .slice a1 ys.length c1 ∧ Row wr a1 c1 ys ∧ Below w.heap.size w wr ∧ Hid (FR ys)) (fun v i wr => l.length - (intOf i).toNat)
  case atStart => exact ⟨0, [], _, _, Nat.zero_le _, Nat.zero_le _, Nat.le_refl _, rfl, rfl, Row.empty _ _ _ (by omega) (fun _ => rfl), hb0, FR.nil⟩
  case round =>
    obtain ⟨k, ys, a1, c1, hk, hkm, hyk, rfl, rfl, hry, hbl, HF⟩ := hrel
    by_cases hlt : k < l.length ∧ k < most
    · obtain ⟨hlt, hlm⟩ := hlt
      obtain ⟨b, off, rfl, hb, hat⟩ := hr.cases.resolve_left (fun e => by simp [e] at hlt)
      obtain ⟨a2, cap2, c0, hr1⟩ := list_at hat hbl hlt
      go_wp2_with fail
      refine (made12_any a2 cap2 wr l[k] hr1).mono ?_
      rintro e w1 ⟨a3, c3, zs, rfl, hr3, hQ, hzl, hb1⟩
      have HL := mkHid (addF_le (l := ys) zs)
      have HN := mkHid (HF.out.add zs)
      clear hQ
      go_wp2_with fail
      with_reducible refine (refaddF_any a1 c1 ys a3 c3 zs w1 (hry.below hb1) hr3 HF.out).mono ?_
      rintro e w2 ⟨a4, c4, rfl, hr4, hb2⟩
      go_wp2_with fail
      go_round
      case rel => exact ⟨k + 1, addF ys zs, a4, c4, by omega, by omega, by have := HL.out; omega, by go_num, rfl, hr4, (hbl.then hb1).then hb2, HN⟩
      case measure => simp [intOf]; omega
    · by_cases hkl : k < l.length
      · have hkm2 : ¬ k < most := fun h => hlt ⟨hkl, h⟩
        clear hlt
        go_wp2_with fail
        go_ret
        exact ⟨a1, c1, ys, rfl, hry, HF.out, by omega, hbl⟩
      · clear hlt
        go_wp2_with fail
        go_ret
        exact ⟨a1, c1, ys, rfl, hry, HF.out, by omega, hbl⟩
end Go.Proofs.Ytnpffificfghpaa
namespace Go.Proofs.Ytnpffificfghpaa
open Go.RowKit

/-! ### the head's terms -/
def cA : Cel := ⟨3, ⟨#[97]⟩, 0⟩
def cB : Cel := ⟨3, ⟨#[98]⟩, 0⟩
def cV : Cel := ⟨1, ⟨#[]⟩, 0⟩
def pA : List Cel := [⟨3, ⟨#[112]⟩, 1⟩, cA]
def pB : List Cel := [⟨3, ⟨#[112]⟩, 1⟩, cB]
def pV : List Cel := [⟨3, ⟨#[112]⟩, 1⟩, cV]
def qAA : List Cel := [⟨3, ⟨#[113]⟩, 2⟩, cA, cA]
def qAB : List Cel := [⟨3, ⟨#[113]⟩, 2⟩, cA, cB]
def qVV : List Cel := [⟨3, ⟨#[113]⟩, 2⟩, cV, cV]
def nO : List Cel := [⟨2, ⟨#[]⟩, 0⟩]
def l12 : List (List Cel) := [pA, pB, qAA]
theorem small_fact {n : ByteArray} {k : Int} {xs : List Cel} {ts : List Tm} (e : (Tm.mk ⟨3, n, k⟩ ts).flat = xs) (h : (Tm.mk ⟨3, n, k⟩ ts).ok) (hl : xs.length ≤ 200) (hg : groundB xs = true) (hd : (Tm.mk ⟨3, n, k⟩ ts).depth ≤ 12) : factB xs = true := by
  subst e; exact fact_flat h hl rfl hg hd
def tA : Tm := .mk cA []
def tB : Tm := .mk cB []
theorem pA_fact : factB pA = true := small_fact (n := ⟨#[112]⟩) (k := 1) (ts := [tA]) (by simp [Tm.flat, flats, tA, pA]) ⟨by decide +kernel, rfl, ⟨by decide +kernel, rfl, trivial⟩, trivial⟩ (by decide) (by decide +kernel) (by simp [Tm.depth, depths, tA])
theorem pB_fact : factB pB = true := small_fact (n := ⟨#[112]⟩) (k := 1) (ts := [tB]) (by simp [Tm.flat, flats, tB, pB]) ⟨by decide +kernel, rfl, ⟨by decide +kernel, rfl, trivial⟩, trivial⟩ (by decide) (by decide +kernel) (by simp [Tm.depth, depths, tB])
theorem qAA_fact : factB qAA = true := small_fact (n := ⟨#[113]⟩) (k := 2) (ts := [tA, tA]) (by simp [Tm.flat, flats, tA, qAA]) ⟨by decide +kernel, rfl, ⟨by decide +kernel, rfl, trivial⟩, ⟨by decide +kernel, rfl, trivial⟩, trivial⟩ (by decide) (by decide +kernel) (by simp [Tm.depth, depths, tA])
theorem qAB_fact : factB qAB = true := small_fact (n := ⟨#[113]⟩) (k := 2) (ts := [tA, tB]) (by simp [Tm.flat, flats, tA, tB, qAB]) ⟨by decide +kernel, rfl, ⟨by decide +kernel, rfl, trivial⟩, ⟨by decide +kernel, rfl, trivial⟩, trivial⟩ (by decide) (by decide +kernel) (by simp [Tm.depth, depths, tA, tB])
theorem pV_no : factB pV = false := by unfold factB; rw [show groundB pV = false by decide +kernel]; simp
theorem nO_no : factB nO = false := by unfold factB; rw [show funB nO = false by decide +kernel]; simp
theorem nil_no : factB [] = false := by unfold factB; rw [show rightB [] = false by decide +kernel]; simp
theorem l12_fr : FR l12 := ⟨by decide, fun x hx => by
  simp [l12] at hx
  rcases hx with rfl | rfl | rfl
  · exact pA_fact
  · exact pB_fact
  · exact qAA_fact, by
  simp only [l12, List.pairwise_cons, List.mem_cons, List.not_mem_nil, or_false, forall_eq_or_imp, forall_eq, false_imp_iff, implies_true, and_true, List.Pairwise.nil]
  decide +kernel⟩
theorem k12_add : addF (l12.drop 1) pA = l12 := by
  unfold addF; rw [pA_fact]; decide +kernel
theorem k12_addE : addE (l12.drop 1) pA = 0 := by
  unfold addE; rw [pA_fact]; decide +kernel
theorem k12_addV : addE [] pV = 120 := by unfold addE; rw [pV_no]; rfl
theorem k12_addVl : addF [] pV = [] := by unfold addF; rw [pV_no]; rfl
theorem k12_drop : dropF l12 pB = [pA, qAA] := by
  unfold dropF; rw [pB_fact]; decide +kernel
theorem k12_dropE : dropE l12 pB = 0 := by
  unfold dropE; rw [pB_fact]; decide +kernel
theorem k12_dropq : dropE l12 qAB = 3 := by
  unfold dropE; rw [qAB_fact]; decide +kernel
theorem k12_dropql : dropF l12 qAB = [] := by
  unfold dropF; rw [qAB_fact]; decide +kernel
theorem k12_dropn : dropE l12 nO = 120 := by unfold dropE; rw [nO_no]; rfl
theorem k12_dropnl : dropF l12 nO = [] := by unfold dropF; rw [nO_no]; rfl
theorem k12_addq : addF l12 qAA = l12 := by
  unfold addF; rw [qAA_fact]; decide +kernel
theorem k12_addqE : addE l12 qAA = 0 := by
  unfold addE; rw [qAA_fact]; decide +kernel
theorem k12_came : lessF (l12.drop 1) (l12.take 2) = [qAA] := by decide +kernel
theorem k12_went : lessF (l12.take 2) (l12.drop 1) = [pA] := by decide +kernel
theorem k12_right : frightB l12 = true := fright_iff.2 l12_fr
theorem k12_turn : frightB [pB, pA] = false := fright_no fun h => absurd (List.pairwise_cons.1 h.rise).1 (by simp; decide +kernel)
theorem k12_same : frightB [pA, pA] = false := fright_no fun h => absurd (List.pairwise_cons.1 h.rise).1 (by simp; decide +kernel)
section
variable {w : World} {a a' : Option Addr} {c c' n k : Nat} {l : List (List Cel)} {t : List Cel}
theorem add_is {m : List (List Cel)} {E : Int} {j : Nat} (hn : n = l.length) (hr : Row w a c l) (hk : k = t.length) (ht : Row w a' c' t) (hF : FR l) (hm : addF l t = m) (hE : addE l t = E) (hj : j = m.length) :
    Calls Try.prog 202 #[.slice a n c, .slice a' k c'] w fun e w' => ∃ a2 c2, e = .returned (.tuple #[.slice a2 j c2, .int .i64 E]) ∧ Row w' a2 c2 m ∧ Below w.heap.size w w' := by
  subst hn; subst hk; subst hm; subst hE; subst hj
  exact addF_any a c l a' c' t w hr ht hF
theorem drop_is {m : List (List Cel)} {E : Int} {j : Nat} (hn : n = l.length) (hr : Row w a c l) (hk : k = t.length) (ht : Row w a' c' t) (hF : FR l) (hm : dropF l t = m) (hE : dropE l t = E) (hj : j = m.length) :
    Calls Try.prog 203 #[.slice a n c, .slice a' k c'] w fun e w' => ∃ a2 c2, e = .returned (.tuple #[.slice a2 j c2, .int .i64 E]) ∧ Row w' a2 c2 m ∧ Below w.heap.size w w' := by
  subst hn; subst hk; subst hm; subst hE; subst hj
  exact dropF_any a c l a' c' t w hr ht hF
theorem diff_is {m x y : List (List Cel)} {i j : Nat} (hn : n = l.length) (hr : Row w a c l) (hk : k = m.length) (ht : Row w a' c' m) (hF : FR l) (hG : FR m) (hx : lessF m l = x) (hy : lessF l m = y) (hi : i = x.length) (hj : j = y.length) :
    Calls Try.prog 77 #[.slice a n c, .slice a' k c'] w fun e w' => ∃ a2 c2 a3 c3, e = .returned (.tuple #[.slice a2 i c2, .slice a3 j c3]) ∧ Row w' a2 c2 x ∧ Row w' a3 c3 y ∧ Below w.heap.size w w' := by
  subst hn; subst hk; subst hx; subst hy; subst hi; subst hj
  exact diffF_any a c l a' c' m w hr ht hF hG
theorem frightL_is {b : Bool} (hn : n = l.length) (hr : Row w a c l) (hb : frightB l = b) :
    Calls Try.prog 68 #[.slice a n c] w fun e w' => e = .returned (.bool b) ∧ Below w.heap.size w w' := by
  subst hn; subst hb; exact fright_any a c w l hr
theorem factL_is {b : Bool} (hk : k = t.length) (ht : Row w a' c' t) (hb : factB t = b) :
    Calls Try.prog 67 #[.slice a' k c'] w fun e w' => e = .returned (.bool b) ∧ Below w.heap.size w w' := by
  subst hk; subst hb; exact fact_any a' c' w t ht
theorem hasL_is {b : Bool} (hn : n = l.length) (hr : Row w a c l) (hk : k = t.length) (ht : Row w a' c' t) (hF : FR l) (hb : decide (t ∈ l) = b) :
    Calls Try.prog 34 #[.slice a n c, .slice a' k c'] w fun e w' => e = .returned (.bool b) ∧ Below w.heap.size w w' := by
  subst hn; subst hk; subst hb; exact hasF_any a c l a' c' t w hr ht hF
end
end Go.Proofs.Ytnpffificfghpaa
namespace Go.Proofs.Ytnpffificfghpaa
open Go.RowKit

/-! ### what the laws have in common -/
section
variable {w : World} {a a' : Option Addr} {c c' : Nat} {l : List (List Cel)} {t : List Cel}
theorem addK {m : List (List Cel)} {E : Int} (hr : Row w a c l) (ht : Row w a' c' t) (hF : Hid (FR l)) (hm : Hid (addF l t = m)) (hE : Hid (addE l t = E)) :
    Calls Try.prog 202 #[.slice a l.length c, .slice a' t.length c'] w fun e w' => ∃ a2 c2, e = .returned (.tuple #[.slice a2 m.length c2, .int .i64 E]) ∧ Row w' a2 c2 m ∧ Below w.heap.size w w' := by
  have h := addF_any a c l a' c' t w hr ht hF.out
  rw [hm.out, hE.out] at h
  exact h
theorem dropK {m : List (List Cel)} {E : Int} (hr : Row w a c l) (ht : Row w a' c' t) (hF : Hid (FR l)) (hm : Hid (dropF l t = m)) (hE : Hid (dropE l t = E)) :
    Calls Try.prog 203 #[.slice a l.length c, .slice a' t.length c'] w fun e w' => ∃ a2 c2, e = .returned (.tuple #[.slice a2 m.length c2, .int .i64 E]) ∧ Row w' a2 c2 m ∧ Below w.heap.size w w' := by
  have h := dropF_any a c l a' c' t w hr ht hF.out
  rw [hm.out, hE.out] at h
  exact h
theorem hasK {b : Bool} (hr : Row w a c l) (ht : Row w a' c' t) (hF : Hid (FR l)) (hb : Hid (decide (t ∈ l) = b)) :
    Calls Try.prog 34 #[.slice a l.length c, .slice a' t.length c'] w fun e w' => e = .returned (.bool b) ∧ Below w.heap.size w w' := by
  have h := hasF_any a c l a' c' t w hr ht hF.out
  rw [hb.out] at h
  exact h
theorem refhasK {b : Bool} (hr : Row w a c l) (ht : Row w a' c' t) (hb : Hid (decide (t ∈ l) = b)) :
    Calls Try.prog 200 #[.slice a l.length c, .slice a' t.length c'] w fun e w' => e = .returned (.bool b) ∧ Below w.heap.size w w' := by
  have h := refhasF_any a c l a' c' t w hr ht
  rw [hb.out] at h
  exact h
theorem rightK {b : Bool} (hr : Row w a c l) (hb : Hid (frightB l = b)) :
    Calls Try.prog 68 #[.slice a l.length c] w fun e w' => e = .returned (.bool b) ∧ Below w.heap.size w w' := by
  have h := fright_any a c w l hr
  rw [hb.out] at h
  exact h
theorem refrightK {b : Bool} (hr : Row w a c l) (hb : Hid (frightB l = b)) :
    Calls Try.prog 71 #[.slice a l.length c] w fun e w' => e = .returned (.bool b) ∧ Below w.heap.size w w' := by
  have h := refrightF_any a c w l hr
  rw [hb.out] at h
  exact h
theorem diffK {m x y : List (List Cel)} (hr : Row w a c l) (ht : Row w a' c' m) (hF : Hid (FR l)) (hG : Hid (FR m)) (hx : Hid (lessF m l = x)) (hy : Hid (lessF l m = y)) :
    Calls Try.prog 77 #[.slice a l.length c, .slice a' m.length c'] w fun e w' => ∃ a2 c2 a3 c3, e = .returned (.tuple #[.slice a2 x.length c2, .slice a3 y.length c3]) ∧ Row w' a2 c2 x ∧ Row w' a3 c3 y ∧ Below w.heap.size w w' := by
  have h := diffF_any a c l a' c' m w hr ht hF.out hG.out
  rw [hx.out, hy.out] at h
  exact h
theorem groundK {b : Bool} (ht : Row w a' c' t) (hl : t.length ≤ 1000000) (hb : Hid (groundB t = b)) :
    Calls Try.prog 144 #[.slice a' t.length c'] w fun e w' => e = .returned (.bool b) ∧ Below w.heap.size w w' := refground_litF rfl ht hl hb.out
theorem rightCK {b : Bool} (ht : Row w a' c' t) (hb : Hid (rightB t = b)) :
    Calls Try.prog 49 #[.slice a' t.length c'] w fun e w' => e = .returned (.bool b) ∧ Below w.heap.size w w' := refright_litF rfl ht hb.out
end
theorem FR.rightB {l : List (List Cel)} (h : FR l) : frightB l = true := fright_iff.2 h
/-- a row of cells copied -/
theorem copy_row {w1 : World} {B : Nat} {ys : List Cel} {v : Value} (h : AccInv B 93 ([] ++ ys) v w1) : ∃ a c, v = .slice a ys.length c ∧ Row w1 a c ys := by
  rw [List.nil_append] at h
  exact h.row
theorem Row.takeF {α : Type} [Rep α] {w : World} {a : Option Addr} {cap : Nat} {xs : List α} (h : Row w a cap xs) (k : Nat) : Row w a cap (xs.take k) :=
  ⟨by rw [List.length_take]; have := h.le; omega, h.max, h.nil, fun i x hi => h.at_ i x (by
    by_cases hk : i < k
    · rwa [List.getElem?_take_of_lt hk] at hi
    · rw [List.getElem?_take, if_neg hk] at hi; cases hi)⟩
end Go.Proofs.Ytnpffificfghpaa
namespace Go.Proofs.Ytnpffificfghpaa
open Go.RowKit

/-! ### facts p of a number -/
def oneF (n : Int) : List Cel := [⟨3, ⟨#[112]⟩, 1⟩, ⟨2, ⟨#[]⟩, n⟩]
theorem one_fact {n : Int} (h1 : -2147483647 ≤ n) (h2 : n ≤ 2147483647) : factB (oneF n) = true := by
  have hc : cellOk ⟨2, ⟨#[]⟩, n⟩ = true := by unfold cellOk; simp; omega
  exact small_fact (n := ⟨#[112]⟩) (k := 1) (ts := [.mk ⟨2, ⟨#[]⟩, n⟩ []]) (by simp [Tm.flat, flats, oneF]) ⟨by decide +kernel, rfl, ⟨hc, rfl, trivial⟩, trivial⟩ (by simp [oneF]) (by simp [groundB, oneF]) (by simp [Tm.depth, depths])
theorem one_lt {a b : Int} (h : a < b) : compP (oneF a) (oneF b) < 0 := by
  have hne : ¬ (⟨2, ⟨#[]⟩, a⟩ : Cel) = ⟨2, ⟨#[]⟩, b⟩ := fun e => by injection e; omega
  simp only [compP, oneF, if_true, if_neg hne, cellCmp, cmpI]
  rw [if_neg (by omega), if_pos h]; omega
theorem one_inj {a b : Int} (h : oneF a = oneF b) : a = b := by
  simp [oneF] at h; exact h
def rowO (f : Int) (k : Nat) : List (List Cel) := (List.range k).map fun i : Nat => oneF (f + i)
theorem rowO_succ (f : Int) (k : Nat) : rowO f (k + 1) = rowO f k ++ [oneF (f + k)] := by simp [rowO, List.range_succ]
theorem rowO_len (f : Int) (k : Nat) : (rowO f k).length = k := by simp [rowO]
theorem mem_rowO {f : Int} {k : Nat} {y : List Cel} : y ∈ rowO f k ↔ ∃ i : Nat, i < k ∧ y = oneF (f + i) := by
  unfold rowO
  rw [List.mem_map]
  constructor
  · rintro ⟨i, hi, rfl⟩; exact ⟨i, List.mem_range.1 hi, rfl⟩
  · rintro ⟨i, hi, rfl⟩; exact ⟨i, List.mem_range.2 hi, rfl⟩
theorem rowO_fr {f : Int} (h1 : 0 ≤ f) (h2 : f ≤ 65535) {k : Nat} (hk : k ≤ 512) : FR (rowO f k) := by
  refine ⟨by rw [rowO_len]; exact hk, fun x hx => ?_, ?_⟩
  · obtain ⟨i, hi, rfl⟩ := mem_rowO.1 hx
    exact one_fact (by omega) (by omega)
  · unfold rowO
    rw [List.pairwise_map]
    exact List.pairwise_lt_range.imp fun {a b} h => one_lt (by omega)
/-- changes of them -/
def chgO (q : Bool) (f : Int) (k : Nat) : List Lt := (List.range k).map fun i : Nat => ⟨q, oneF (f + i)⟩
theorem chgO_succ (q : Bool) (f : Int) (k : Nat) : chgO q f (k + 1) = chgO q f k ++ [⟨q, oneF (f + k)⟩] := by simp [chgO, List.range_succ]
theorem chgO_len (q : Bool) (f : Int) (k : Nat) : (chgO q f k).length = k := by simp [chgO]
theorem mem_chgO {q : Bool} {f : Int} {k : Nat} {c : Lt} : c ∈ chgO q f k ↔ ∃ i : Nat, i < k ∧ c = ⟨q, oneF (f + i)⟩ := by
  unfold chgO
  rw [List.mem_map]
  constructor
  · rintro ⟨i, hi, rfl⟩; exact ⟨i, List.mem_range.1 hi, rfl⟩
  · rintro ⟨i, hi, rfl⟩; exact ⟨i, List.mem_range.2 hi, rfl⟩
theorem chgO_fact {q : Bool} {f : Int} (h1 : 0 ≤ f) (h2 : f ≤ 65535) {k : Nat} (hk : k ≤ 512) : ∀ c ∈ chgO q f k, factB c.t = true := fun c hc => by
  obtain ⟨i, hi, rfl⟩ := mem_chgO.1 hc
  exact one_fact (by omega) (by omega)
theorem chgO_apart {q : Bool} {f : Int} {k : Nat} : (chgO q f k).Pairwise fun a b => a.t ≠ b.t := by
  unfold chgO
  rw [List.pairwise_map]
  exact List.pairwise_lt_range.imp fun {a b} h e => by have := one_inj e; omega
theorem big_drops : ∀ (d : Nat) (l : List (List Cel)), bigF l (chgO false 0 d) = false := by
  intro d
  induction d with
  | zero => intro l; rfl
  | succ d ih => intro l; rw [chgO_succ, big_append, ih]; simp [bigF, badF]
/-- all drops, then adds -/
theorem full_drop {n d : Nat} (hn : n ≤ 512) (hd : d ≤ n) : FR (nowF (rowO 0 n) (chgO false 0 d)) ∧ (nowF (rowO 0 n) (chgO false 0 d)).length = n - d ∧ ∀ y, y ∈ nowF (rowO 0 n) (chgO false 0 d) ↔ ∃ i : Nat, d ≤ i ∧ i < n ∧ y = oneF i := by
  have hF := rowO_fr (f := 0) (by omega) (by omega) hn
  have hm : ∀ y, y ∈ nowF (rowO 0 n) (chgO false 0 d) ↔ ∃ i : Nat, d ≤ i ∧ i < n ∧ y = oneF i := by
    intro y
    rw [mem_last y hF (chgO_fact (by omega) (by omega) (by omega)) (big_drops d _), mem_rowO]
    by_cases hx : ∃ c ∈ chgO false 0 d, c.t = y
    · obtain ⟨c, hc, e⟩ := hx
      rw [last_key chgO_apart 0 c hc e]
      obtain ⟨i, hi, rfl⟩ := mem_chgO.1 hc
      subst e
      simp only [Bool.false_eq_true, if_false]
      constructor
      · rintro (h | ⟨h, _⟩) <;> omega
      · rintro ⟨j, h1, _, h3⟩
        have := one_inj h3
        omega
    · have hno : ∀ c ∈ chgO false 0 d, c.t ≠ y := fun c hc e => hx ⟨c, hc, e⟩
      rw [last_none _ hno]
      constructor
      · rintro (h | ⟨_, i, hi, rfl⟩)
        · omega
        · refine ⟨i, ?_, hi, by simp⟩
          by_cases h : d ≤ i
          · exact h
          · exact absurd rfl (hno _ (mem_chgO.2 ⟨i, by omega, rfl⟩))
      · rintro ⟨i, _, hi, rfl⟩
        exact .inr ⟨rfl, i, hi, by simp⟩
  refine ⟨hF.now, ?_, hm⟩
  have h2 : FR (rowO (d : Int) (n - d)) := rowO_fr (by omega) (by omega) (by omega)
  rw [hF.now.ext h2 fun y => ?_, rowO_len]
  rw [hm, mem_rowO]
  constructor
  · rintro ⟨i, h1, h3, rfl⟩
    exact ⟨i - d, by omega, by congr 1; omega⟩
  · rintro ⟨i, h1, rfl⟩
    exact ⟨d + i, by omega, by omega, by congr 1⟩
theorem full_adds {R : List (List Cel)} (hF : FR R) (hR : ∀ y ∈ R, ∃ i : Nat, i < 1000 ∧ y = oneF i) : ∀ (a : Nat), a ≤ 80 →
    (nowF R (chgO true 1000 a)).length = min 512 (R.length + a) ∧ bigF R (chgO true 1000 a) = decide (512 < R.length + a) ∧ ∀ y ∈ nowF R (chgO true 1000 a), ∃ i : Nat, i < 1000 + a ∧ y = oneF i := by
  have h512 := hF.len
  intro a
  induction a with
  | zero =>
    intro _
    refine ⟨?_, ?_, fun y hy => ?_⟩
    · show R.length = _; omega
    · show false = _; simp; omega
    · obtain ⟨i, h1, h2⟩ := hR y hy; exact ⟨i, by omega, h2⟩
  | succ a ih =>
    intro ha
    obtain ⟨i1, i2, i3⟩ := ih (by omega)
    have hf : factB (oneF (1000 + (a : Int))) = true := one_fact (by omega) (by omega)
    have hn : oneF (1000 + (a : Int)) ∉ nowF R (chgO true 1000 a) := fun h => by
      obtain ⟨i, h1, h2⟩ := i3 _ h
      have := one_inj h2
      omega
    rw [chgO_succ, now_append, big_append, i2]
    generalize nowF R (chgO true 1000 a) = m at i1 i3 hn ⊢
    have hE : doE m ⟨true, oneF (1000 + (a : Int))⟩ = if 512 ≤ m.length then 2 else 0 := by
      unfold doE addE
      simp only [if_true]
      rw [if_pos hf, if_neg hn]
    obtain ⟨c, hc⟩ : ∃ c : Lt, c = ⟨true, oneF (1000 + (a : Int))⟩ := ⟨_, rfl⟩
    rw [← hc] at hE ⊢
    rw [show nowF m [c] = stepF m c from rfl, show bigF m [c] = badF m c by unfold bigF bigF; rw [Bool.or_false]]
    by_cases hl : 512 ≤ m.length
    · rw [if_pos hl] at hE
      have hs : stepF m c = m := step_no (by rw [hE]; omega)
      have hb : badF m c = true := by unfold badF; rw [hE, hc]; rfl
      rw [hs, hb]
      refine ⟨by omega, ?_, fun y hy => ?_⟩
      · rw [Bool.or_true, eq_comm, decide_eq_true_eq]; omega
      · obtain ⟨i, h1, h2⟩ := i3 y hy; exact ⟨i, by omega, h2⟩
    · rw [if_neg hl] at hE
      have hs : stepF m c = insF (oneF (1000 + (a : Int))) m := by
        rw [step_yes hE]
        rw [hc]
        unfold doF addF
        simp only [if_true]
        rw [if_pos hf, if_neg hn, if_neg hl]
      have hb : badF m c = false := by unfold badF; rw [hE, hc]; rfl
      rw [hs, hb, ins_length]
      refine ⟨by omega, ?_, fun y hy => ?_⟩
      · rw [Bool.or_false]
        exact decide_eq_decide.2 (by omega)
      · rcases mem_ins.1 hy with rfl | hy
        · exact ⟨1000 + a, by omega, by congr 1⟩
        · obtain ⟨i, h1, h2⟩ := i3 y hy; exact ⟨i, by omega, h2⟩
/-- what comes of all of them -/
structure FullF (n d a : Nat) (l m : List (List Cel)) (cs : List Lt) : Prop where
  big : bigF l cs = decide (512 < n - d + a)
  full : 512 < n - d + a → m.length = 512
  len : ¬ 512 < n - d + a → m.length = n - d + a
  came : ¬ 512 < n - d + a → (lessF m l).length = a
  went : ¬ 512 < n - d + a → (lessF l m).length = d
theorem full_all {n d a : Nat} (hn : n ≤ 512) (hd : d ≤ n) (ha : a ≤ 80) : FullF n d a (rowO 0 n) (nowF (rowO 0 n) (chgO false 0 d ++ chgO true 1000 a)) (chgO false 0 d ++ chgO true 1000 a) := by
  have hF := rowO_fr (f := 0) (by omega) (by omega) hn
  obtain ⟨d1, d2, d3⟩ := full_drop hn hd
  have hR : ∀ y ∈ nowF (rowO 0 n) (chgO false 0 d), ∃ i : Nat, i < 1000 ∧ y = oneF i := fun y hy => by
    obtain ⟨i, _, h2, h3⟩ := (d3 y).1 hy
    exact ⟨i, by omega, h3⟩
  obtain ⟨a1, a2, _⟩ := full_adds d1 hR a ha
  rw [d2] at a1 a2
  have hb : bigF (rowO 0 n) (chgO false 0 d ++ chgO true 1000 a) = decide (512 < n - d + a) := by rw [big_append, big_drops, Bool.false_or, a2]
  have hc : ¬ 512 < n - d + a → (lessF (nowF (rowO 0 n) (chgO false 0 d ++ chgO true 1000 a)) (rowO 0 n)).length = a := by
    intro h
    have hx : FR (rowO 1000 a) := rowO_fr (by omega) (by omega) (by omega)
    have hq : bigF (rowO 0 n) (chgO false 0 d ++ chgO true 1000 a) = false := by rw [hb]; exact decide_eq_false h
    have hfa : ∀ c ∈ chgO false 0 d ++ chgO true 1000 a, factB c.t = true := fun c hc => by
      rcases List.mem_append.1 hc with hc | hc
      · exact chgO_fact (by omega) (by omega) (by omega) c hc
      · exact chgO_fact (by omega) (by omega) (by omega) c hc
    have hap : (chgO false 0 d ++ chgO true 1000 a).Pairwise fun a b => a.t ≠ b.t := by
      rw [List.pairwise_append]
      refine ⟨chgO_apart, chgO_apart, fun x hx y hy e => ?_⟩
      obtain ⟨i, hi, rfl⟩ := mem_chgO.1 hx
      obtain ⟨j, hj, rfl⟩ := mem_chgO.1 hy
      have := one_inj e
      omega
    rw [FR.ext (FR.less hF.now _) hx fun y => ?_, rowO_len]
    rw [mem_lessF, mem_last y hF hfa hq, mem_rowO, mem_rowO]
    constructor
    · rintro ⟨h1 | ⟨_, h1⟩, h2⟩
      · by_cases hex : ∃ c ∈ chgO false 0 d ++ chgO true 1000 a, c.t = y
        · obtain ⟨c, hc, e⟩ := hex
          rw [last_key hap 0 c hc e] at h1
          rcases List.mem_append.1 hc with hc | hc
          · obtain ⟨i, hi, rfl⟩ := mem_chgO.1 hc
            simp at h1
          · obtain ⟨i, hi, rfl⟩ := mem_chgO.1 hc
            exact ⟨i, hi, e.symm⟩
        · rw [last_none _ fun c hc e => hex ⟨c, hc, e⟩] at h1; omega
      · exact absurd h1 h2
    · rintro ⟨i, hi, rfl⟩
      refine ⟨.inl ?_, ?_⟩
      · rw [last_key hap 0 ⟨true, oneF (1000 + (i : Int))⟩ (List.mem_append_right _ (mem_chgO.2 ⟨i, hi, rfl⟩)) rfl]; rfl
      · rintro ⟨j, hj, e⟩
        have := one_inj e
        omega
  have hl : (nowF (rowO 0 n) (chgO false 0 d ++ chgO true 1000 a)).length = min 512 (n - d + a) := by rw [now_append, a1]
  refine ⟨hb, fun h => by rw [hl]; omega, fun h => by rw [hl]; omega, hc, fun h => ?_⟩
  have h1 := came_len hF (hF.now (cs := chgO false 0 d ++ chgO true 1000 a))
  have h2 := hc h
  rw [rowO_len] at h1
  omega
end Go.Proofs.Ytnpffificfghpaa
namespace Go.Proofs.Ytnpffificfghpaa
open Go.RowKit

/-! ### the head's answers -/
def hb0 : Bs := ⟨[], 0, false, []⟩
def hb1 : Bs := ⟨[], 0, true, []⟩
def hb2 : Bs := ⟨[], 0, true, [⟨true, oneF 1⟩]⟩
def hb3 : Bs := ⟨[], 0, true, [⟨true, oneF 1⟩, ⟨false, oneF 2⟩]⟩
def hb4 : Bs := ⟨[oneF 1], 1, false, []⟩
theorem o1_fact : factB (oneF 1) = true := one_fact (by omega) (by omega)
theorem o2_fact : factB (oneF 2) = true := one_fact (by omega) (by omega)
theorem oi_no : factB [⟨2, ⟨#[]⟩, 0⟩] = false := by unfold factB; rw [show funB [⟨2, ⟨#[]⟩, 0⟩] = false by decide +kernel]; simp
theorem hb0_ok : hb0.ok := ⟨FR.nil, by simp [hb0]⟩
theorem hb1_ok : hb1.ok := ⟨FR.nil, by simp [hb1]⟩
theorem hb2_ok : hb2.ok := ⟨FR.nil, fun c hc => by simp [hb2] at hc; rw [hc]; exact o1_fact⟩
theorem hb3_ok : hb3.ok := ⟨FR.nil, fun c hc => by
  simp [hb3] at hc
  rcases hc with rfl | rfl
  · exact o1_fact
  · exact o2_fact⟩
theorem h_add : addF [] (oneF 1) = [oneF 1] := by unfold addF; rw [if_pos o1_fact]; rfl
theorem h_addE : addE [] (oneF 1) = 0 := by unfold addE; rw [if_pos o1_fact]; rfl
theorem o12 : oneF 2 ∉ [oneF 1] := by
  rw [List.mem_singleton]
  exact fun e => by have := one_inj e; omega
theorem h_dropE : dropE [oneF 1] (oneF 2) = 3 := by unfold dropE; rw [if_pos o2_fact, if_neg o12]
theorem h_step1 : stepF [] ⟨true, oneF 1⟩ = [oneF 1] := by
  rw [step_yes (by show addE [] (oneF 1) = 0; exact h_addE)]; exact h_add
theorem h_step2 : stepF [oneF 1] ⟨false, oneF 2⟩ = [oneF 1] := step_no (by show ¬ dropE [oneF 1] (oneF 2) = 0; rw [h_dropE]; omega)
theorem hb3_now : hb3.now = [oneF 1] := by
  show stepF (stepF [] ⟨true, oneF 1⟩) ⟨false, oneF 2⟩ = _
  rw [h_step1, h_step2]
theorem hb3_big : bigF hb3.f hb3.td = false := by
  show (badF [] ⟨true, oneF 1⟩ || (badF _ ⟨false, oneF 2⟩ || false)) = false
  rw [show badF [] ⟨true, oneF 1⟩ = false by unfold badF; rw [show doE [] ⟨true, oneF 1⟩ = 0 from h_addE]; rfl]
  rfl
theorem hb3_com : hb3.com = hb4 := by
  unfold Bs.com
  rw [if_pos (show hb3.on = true from rfl), hb3_big, hb3_now]; rfl
theorem hb3_comE : hb3.comE = 0 := by
  unfold Bs.comE
  rw [if_pos (show hb3.on = true from rfl), hb3_big]; rfl
theorem hb3_came : hb3.came = [oneF 1] := by
  unfold Bs.came
  rw [if_pos (show hb3.on = true from rfl), hb3_big, hb3_now]
  show lessF [oneF 1] [] = _
  decide +kernel
theorem hb3_went : hb3.went = [] := by
  unfold Bs.went
  rw [if_pos (show hb3.on = true from rfl), hb3_big, hb3_now]
  show lessF [] [oneF 1] = _
  decide +kernel
theorem hb3_right : hb3.right = true := Bs.right_of hb3_ok (by show (0 : Int) ≤ 0; omega) (by show (0 : Int) ≤ _; omega) (.inl rfl)
theorem hbn_right : (⟨[], -1, false, []⟩ : Bs).right = false := by
  unfold Bs.right
  rw [show decide ((0 : Int) ≤ -1) = false from rfl]
  simp
end Go.Proofs.Ytnpffificfghpaa
set_option linter.unusedVariables false
namespace Go.Proofs.Ytnpffificfghpaa
open Go.RowKit

/-! ### boxes of bases hold no rows of facts, nor of changes -/
structure BR (w : World) (a : Option Addr) (c : Nat) (f : List (List Cel)) (a' : Option Addr) (c' : Nat) (td : List Lt) : Prop where
  f : Row w a c f
  t : Row w a' c' td
theorem BR.keeps {w w' : World} {a a' : Option Addr} {c c' : Nat} {f : List (List Cel)} {td : List Lt} (h : BR w a c f a' c' td) (hk : Keeps w w') : BR w' a c f a' c' td := ⟨h.f.keeps hk, h.t.keeps hk⟩
theorem BR.below {w w' : World} {a a' : Option Addr} {c c' : Nat} {f : List (List Cel)} {td : List Lt} (h : BR w a c f a' c' td) (hb : Below w.heap.size w w') : BR w' a c f a' c' td := h.keeps (Keeps.of hb)
/-- a box that holds a base -/
def BX (W : World) (V : Nat) (a : Option Addr) (c : Nat) (f : List (List Cel)) (v : Int) (on : Bool) (a' : Option Addr) (c' : Nat) (td : List Lt) : Prop := W.heap[V]? = some (.cells #[.slice a f.length c, .int .i64 v, .bool on, .slice a' td.length c'] 25 (0, 0)) ∧ BR W a c f a' c' td
theorem BX.below {W W' : World} {V : Nat} {a a' : Option Addr} {c c' : Nat} {f : List (List Cel)} {v : Int} {on : Bool} {td : List Lt} (h : BX W V a c f v on a' c' td) (hb : Below W.heap.size W W') : BX W' V a c f v on a' c' td :=
  ⟨(hb.block V (Array.getElem?_eq_some_iff.1 h.1).1).trans h.1, h.2.below hb⟩
theorem BX.lt {W : World} {V : Nat} {a a' : Option Addr} {c c' : Nat} {f : List (List Cel)} {v : Int} {on : Bool} {td : List Lt} (h : BX W V a c f v on a' c' td) : V < W.heap.size := (Array.getElem?_eq_some_iff.1 h.1).1
/-- all facts, and all facts of changes, have cells -/
def NEf (l : List (List Cel)) : Prop := ∀ x ∈ l, x ≠ []
def NEt (l : List Lt) : Prop := ∀ x ∈ l, x.t ≠ []
section
variable {W : World} {V : Nat} {a a' : Option Addr} {c c' : Nat} {f : List (List Cel)} {v : Int} {on : Bool} {td : List Lt}
theorem BX.cel (h : BX W V a c f v on a' c' td) {B o : Nat} {x : Cel} (hc : CelAt W B o x) : B ≠ V := by
  rintro rfl
  have h0 := hc.c0
  have h1 := hc.c1
  rw [cell_of_row W B _ _ _ _ h.1] at h0 h1
  match o with
  | 0 => simp at h0
  | 1 => simp at h1
  | 2 => simp at h0
  | 3 => simp at h0
  | o + 4 => simp at h0
theorem BX.row (h : BX W V a c f v on a' c' td) {p : Option Addr} {q : Nat} {xs : List Cel} (hr : Row W p q xs) : Row (hide (some V) W) p q xs :=
  ⟨hr.le, hr.max, hr.nil, fun i x hi => by
    obtain ⟨B, off, e, he⟩ := hr.at_ i x hi
    have hn := h.cel he
    exact ⟨B, off, e, ⟨hide_of_ne hn he.c0, hide_of_ne hn he.c1, hide_of_ne hn he.c2, he.fit⟩⟩⟩
theorem row_int {p : Option Addr} {q n : Nat} {x : List Cel} (hr : Row W p q x) (hx : x ≠ []) : ∃ B o k, p = some ⟨B, o, none⟩ ∧ W.cell? ⟨B, o, none⟩ = some (.int .i64 k) := by
  cases x with
  | nil => exact absurd rfl hx
  | cons y ys =>
    obtain ⟨B, off, e, he⟩ := hr.at_ 0 y rfl
    have he : CelAt W B (off + 0 * 3) y := he
    rw [Nat.zero_mul, Nat.add_zero] at he
    exact ⟨B, off, _, e, he.c0⟩
/-- no header of a row of cells stands in the box -/
theorem BX.head (h : BX W V a c f v on a' c' td) {o n : Nat} {p : Option Addr} {q : Nat} {x : List Cel} (hx : x ≠ []) (hc : W.cell? ⟨V, o, none⟩ = some (.slice p x.length q)) (hr : Row W p q x) : False := by
  have h0 : 0 < x.length := List.length_pos_iff.2 hx
  obtain ⟨B, of_, k, rfl, hi⟩ := row_int (n := 0) hr hx
  rw [cell_of_row W V _ _ _ _ h.1] at hc
  match o with
  | 0 =>
    simp at hc
    obtain ⟨e1, e2, _⟩ := hc
    have hl : 0 < f.length := by omega
    obtain ⟨B', off', e', he⟩ := h.2.f.at_ 0 _ (List.getElem?_eq_getElem hl)
    rw [e1] at e'
    simp at e'
    obtain ⟨rfl, rfl⟩ := e'
    obtain ⟨a2, c2, hc2, _⟩ := (show ListE W B (of_ + 0 * 1) _ from he).ex
    rw [Nat.zero_mul, Nat.add_zero, hi] at hc2
    simp at hc2
  | 1 => simp at hc
  | 2 => simp at hc
  | 3 =>
    simp at hc
    obtain ⟨e1, e2, _⟩ := hc
    have hl : 0 < td.length := by omega
    obtain ⟨B', off', e', he⟩ := h.2.t.at_ 0 _ (List.getElem?_eq_getElem hl)
    rw [e1] at e'
    simp at e'
    obtain ⟨rfl, rfl⟩ := e'
    obtain ⟨a2, c2, hc2, _⟩ := (show LtE W B (of_ + 0 * 2) _ from he).ex
    rw [Nat.zero_mul, Nat.add_zero, hi] at hc2
    simp at hc2
  | o + 4 => simp at hc
theorem BX.rows (h : BX W V a c f v on a' c' td) {p : Option Addr} {q : Nat} {l : List (List Cel)} (hl : NEf l) (hr : Row W p q l) : Row (hide (some V) W) p q l :=
  ⟨hr.le, hr.max, hr.nil, fun i x hi => by
    obtain ⟨B, off, e, he⟩ := hr.at_ i x hi
    obtain ⟨a2, c2, hc2, hr2⟩ := (show ListE W B _ _ from he).ex
    have hn : B ≠ V := by
      rintro rfl
      exact h.head (n := 0) (hl x (List.mem_of_getElem? hi)) hc2 hr2
    exact ⟨B, off, e, ⟨a2, c2, hide_of_ne hn hc2, h.row hr2⟩⟩⟩
theorem BX.chgs (h : BX W V a c f v on a' c' td) {p : Option Addr} {q : Nat} {l : List Lt} (hl : NEt l) (hr : Row W p q l) : Row (hide (some V) W) p q l :=
  ⟨hr.le, hr.max, hr.nil, fun i x hi => by
    obtain ⟨B, off, e, he⟩ := hr.at_ i x hi
    obtain ⟨a2, c2, hc1, hc2, hr2⟩ := (show LtE W B _ _ from he).ex
    have hn : B ≠ V := by
      rintro rfl
      exact h.head (n := 0) (hl x (List.mem_of_getElem? hi)) hc2 hr2
    exact ⟨B, off, e, ⟨a2, c2, hide_of_ne hn hc1, hide_of_ne hn hc2, h.row hr2⟩⟩⟩
end
theorem hide_four (w : World) (g : Nat) (v0 v1 v2 v3 : Value) : Keeps (hide (some g) w) ((((w.setCell ⟨g, 0, none⟩ v0).setCell ⟨g, 1, none⟩ v1).setCell ⟨g, 2, none⟩ v2).setCell ⟨g, 3, none⟩ v3) := fun b o v h => by
  obtain ⟨h1, h2⟩ := hide_cell h
  exact cell_far h1 (cell_far h1 (cell_far h1 (cell_far h1 h2)))
theorem fact_ne {x : List Cel} (h : factB x = true) : x ≠ [] := by
  rintro rfl
  rw [nil_no] at h; cases h
theorem FR.ne {l : List (List Cel)} (h : FR l) : NEf l := fun x hx => fact_ne (h.all x hx)
theorem Bs.ok.ne {b : Bs} (h : b.ok) : NEf b.f ∧ NEt b.td := ⟨h.f.ne, fun c hc => fact_ne (h.td c hc)⟩
section
variable {W : World} {V : Nat} {a a' p p' : Option Addr} {c c' q q' : Nat} {f g : List (List Cel)} {v u : Int} {on om : Bool} {td te : List Lt}
/-- a base stored into the box: its rows, and all others, stay -/
theorem BX.rows4 (h : BX W V a c f v on a' c' td) {l : List (List Cel)} (hl : NEf l) (hr : Row W p q l) (v0 v1 v2 v3 : Value) : Row ((((W.setCell ⟨V, 0, none⟩ v0).setCell ⟨V, 1, none⟩ v1).setCell ⟨V, 2, none⟩ v2).setCell ⟨V, 3, none⟩ v3) p q l := (h.rows hl hr).keeps (hide_four _ _ _ _ _ _)
theorem BX.br4 (h : BX W V a c f v on a' c' td) (hl : NEf g ∧ NEt te) (hr : BR W p q g p' q' te) (v0 v1 v2 v3 : Value) : BR ((((W.setCell ⟨V, 0, none⟩ v0).setCell ⟨V, 1, none⟩ v1).setCell ⟨V, 2, none⟩ v2).setCell ⟨V, 3, none⟩ v3) p q g p' q' te :=
  ⟨h.rows4 hl.1 hr.f _ _ _ _, (h.chgs hl.2 hr.t).keeps (hide_four _ _ _ _ _ _)⟩
theorem BX.stored (h : BX W V a c f v on a' c' td) (hl : NEf g ∧ NEt te) (hr : BR W p q g p' q' te) : BX ((((W.setCell ⟨V, 0, none⟩ (.slice p g.length q)).setCell ⟨V, 1, none⟩ (.int .i64 u)).setCell ⟨V, 2, none⟩ (.bool om)).setCell ⟨V, 3, none⟩ (.slice p' te.length q')) V p q g u om p' q' te :=
  ⟨st_all h.1 _ _ _ _, h.br4 hl hr _ _ _ _⟩
theorem BX.free (h : BX W V a c f v on a' c' td) : W.frozen? ⟨V, 0, none⟩ = false ∧ W.frozen? ⟨V, 1, none⟩ = false ∧ W.frozen? ⟨V, 2, none⟩ = false ∧ W.frozen? ⟨V, 3, none⟩ = false := st_free h.1
theorem BX.cells (h : BX W V a c f v on a' c' td) : W.cell? ⟨V, 0, none⟩ = some (.slice a f.length c) ∧ W.cell? ⟨V, 1, none⟩ = some (.int .i64 v) ∧ W.cell? ⟨V, 2, none⟩ = some (.bool on) ∧ W.cell? ⟨V, 3, none⟩ = some (.slice a' td.length c') := st_cells h.1
end
theorem noB_row (w : World) : BR w none 0 [] none 0 [] := ⟨nilRow _, nilRow _⟩
theorem noB_ne : NEf [] ∧ NEt [] := ⟨fun x hx => by simp at hx, fun x hx => by simp at hx⟩
theorem BX.made {w : World} {a a' : Option Addr} {c c' : Nat} {f : List (List Cel)} {v : Int} {on : Bool} {td : List Lt} (h : BR w a c f a' c' td) : BX (w.alloc (.cells #[.slice a f.length c, .int .i64 v, .bool on, .slice a' td.length c'] 25)) w.heap.size a c f v on a' c' td :=
  ⟨heap_alloc_new _ _, h.below ((Below.refl _ _).new _)⟩
end Go.Proofs.Ytnpffificfghpaa
set_option linter.unusedVariables false
namespace Go.Proofs.Ytnpffificfghpaa
open Go.RowKit

/-! ### New, Begin, Back -/
structure OkB (f : List (List Cel)) (td : List Lt) : Prop where
  fr : FR f
  fa : ∀ c ∈ td, factB c.t = true
  len : td.length ≤ 1000000
theorem OkB.ne {f : List (List Cel)} {td : List Lt} (h : OkB f td) : NEf f ∧ NEt td := ⟨h.fr.ne, fun c hc => fact_ne (h.fa c hc)⟩
theorem OkB.none {f : List (List Cel)} {td : List Lt} (h : OkB f td) : OkB f [] := ⟨h.fr, by simp, by simp⟩
theorem Bs.ok.okB {b : Bs} (h : b.ok) (hl : b.td.length ≤ 1000000) : OkB b.f b.td := ⟨h.f, h.td, hl⟩
/-- copied, whatever boxes there are -/
theorem cop_any (w : World) (a : Option Addr) (c : Nat) (f : List (List Cel)) (v : Int) (on : Bool) (a' : Option Addr) (c' : Nat) (td : List Lt) (h : BR w a c f a' c' td) (ok : OkB f td) :
    Calls Try.prog 73 #[.agg #[.slice a f.length c, .int .i64 v, .bool on, .slice a' td.length c']] w fun e w' =>
      ∃ a2 c2 a3 c3, e = .returned (.agg #[.slice a2 f.length c2, .int .i64 v, .bool on, .slice a3 td.length c3]) ∧ BR w' a2 c2 f a3 c3 td ∧ (Row (veil (Value.slice a3 td.length c3).ownBlock.toList w') a2 c2 f ∧ VOwn (veil (Value.slice a3 td.length c3).ownBlock.toList w') w.heap.size 32 td (.slice a3 td.length c3) w') ∧ Below w.heap.size w w' := by
  have hk : Keeps w (veil [] w) := fun _ _ _ h => veil_of (by simp) h
  refine (copied_any [] w ⟨f, v, on, td⟩ a c a' c' (by simp) (h.f.keeps hk) (h.t.keeps hk) (Nat.le_trans ok.fr.len (by decide)) ok.fr.small ok.len (fun x hx => Nat.le_trans (fact_len (ok.fa x hx)) (by decide))).mono ?_
  rintro e w' ⟨a2, c2, a3, c3, rfl, hr, ht, hb⟩
  obtain ⟨a4, c4, e4, hr4⟩ := ht.row (us := []) (by simp) (veil_mono _ (by simp))
  injection e4 with e4 _ e5
  subst e4; subst e5
  rw [List.append_nil] at hr ht
  exact ⟨a2, c2, a3, c3, rfl, ⟨hr.keeps (veil_keeps _ _), hr4.keeps (veil_keeps _ _)⟩, ⟨hr, ht⟩, hb⟩
/-- the boxes of the argument and of the result -/
structure Ent (w W : World) (a : Option Addr) (c : Nat) (f : List (List Cel)) (v : Int) (on : Bool) (a' : Option Addr) (c' : Nat) (td : List Lt) : Prop where
  arg : BX W w.heap.size a c f v on a' c' td
  res : BX W (w.heap.size + 1) none 0 [] 0 false none 0 []
  bel : Below w.heap.size w W
  size : W.heap.size = w.heap.size + 2
theorem ent_made {w : World} {a a' : Option Addr} {c c' : Nat} {f : List (List Cel)} {v : Int} {on : Bool} {td : List Lt} (h : BR w a c f a' c' td) : Ent w ((w.alloc (.cells #[.slice a f.length c, .int .i64 v, .bool on, .slice a' td.length c'] 25)).alloc (.cells #[.slice none 0 0, .int .i64 0, .bool false, .slice none 0 0] 25)) a c f v on a' c' td := by
  refine ⟨(BX.made h).below ((Below.refl _ _).new _), ?_, ((Below.refl _ _).new _).new _, by simp⟩
  have h1 := BX.made (v := 0) (on := false) (noB_row (w.alloc (.cells #[.slice a f.length c, .int .i64 v, .bool on, .slice a' td.length c'] 25)))
  have hs1 : (w.alloc (.cells #[.slice a f.length c, .int .i64 v, .bool on, .slice a' td.length c'] 25)).heap.size = w.heap.size + 1 := by simp
  rw [hs1] at h1
  exact h1

set_option maxHeartbeats 1600000 in
set_option maxRecDepth 100000 in
theorem begin_on (w : World) (a : Option Addr) (c : Nat) (f : List (List Cel)) (v : Int) (a' : Option Addr) (c' : Nat) (td : List Lt) (h : BR w a c f a' c' td) (ok : OkB f td) :
    Calls Try.prog 18 #[.agg #[.slice a f.length c, .int .i64 v, .bool true, .slice a' td.length c']] w fun e w' =>
      ∃ a2 c2 a3 c3, e = .returned (.tuple #[.agg #[.slice a2 f.length c2, .int .i64 v, .bool true, .slice a3 td.length c3], .int .i64 130]) ∧ BR w' a2 c2 f a3 c3 td ∧ Below w.heap.size w w' := by
  obtain ⟨W, hW⟩ : ∃ W, (w.alloc (.cells #[.slice a f.length c, .int .i64 v, .bool true, .slice a' td.length c'] 25)).alloc (.cells #[.slice none 0 0, .int .i64 0, .bool false, .slice none 0 0] 25) = W := ⟨_, rfl⟩
  have HE : Hid (Ent w W a c f v true a' c' td) := by rw [Hid, ← hW]; exact ent_made h
  have HNE := mkHid ok.ne
  have HC := mkHid (cop_any W a c f v true a' c' td (h.below HE.out.bel) ok)
  obtain ⟨e0, e1, e2, e3⟩ := HE.out.arg.cells
  clear h ok
  go_enter Try.func18, Try.ntmps18
  go_wp2_with fail
  first | rw [hW] | skip
  clear hW
  refine HC.out.mono ?_
  rintro e w2 ⟨a2, c2, a3, c3, rfl, hbr, hown, hb2⟩
  have HBR := mkHid hbr
  have HBL := mkHid (HE.out.bel.then hb2)
  have HS2 : Hid (w.heap.size + 2 ≤ w2.heap.size) := by have h1 := HE.out.size; have h2 := hb2.size; rw [Hid]; omega
  have HA2 := mkHid (HE.out.arg.below hb2)
  have HR2 := mkHid (HE.out.res.below hb2)
  obtain ⟨w3, hw3⟩ : ∃ w3, w2.alloc (.cells #[.slice a2 f.length c2, .int .i64 v, .bool true, .slice a3 td.length c3] 25) = w3 := ⟨_, rfl⟩
  have hb3 : Below w2.heap.size w2 w3 := by rw [← hw3]; exact (Below.refl _ _).new _
  have HBX : Hid (BX w3 w2.heap.size a2 c2 f v true a3 c3 td) := by rw [Hid, ← hw3]; exact BX.made HBR.out
  have HA3 := mkHid (HA2.out.below hb3)
  have HR3 := mkHid (HR2.out.below hb3)
  have HBR3 := mkHid (HBR.out.below hb3)
  have HBL3 := mkHid (HBL.out.then hb3)
  obtain ⟨p0, p1, p2, p3⟩ := HA3.out.cells
  obtain ⟨q0, q1, q2, q3⟩ := HBX.out.cells
  obtain ⟨g0, g1, g2, g3⟩ := HBX.out.free
  obtain ⟨l0, l1, l2, l3⟩ := HR3.out.cells
  obtain ⟨k0, k1, k2, k3⟩ := HR3.out.free
  have hlt : w.heap.size + 1 < w2.heap.size := by have h1 := HS2.out; omega
  clear hbr hown hb2 hb3 HC HE e0 e1 e2 e3 HA2 HR2 HBR HBL
  go_wp2_with fail
  refine bodyPost_ret (v := .tuple #[.agg #[.slice a2 f.length c2, .int .i64 v, .bool true, .slice a3 td.length c3], .int .i64 130]) (by simp [results, Try.results18, go_sem, *]) rfl ⟨a2, c2, a3, c3, rfl, HR3.out.br4 HNE.out HBR3.out _ _ _ _, below_four HBL3.out (by simp) _ _ _ _⟩

set_option maxHeartbeats 1600000 in
set_option maxRecDepth 100000 in
theorem begin_off (w : World) (a : Option Addr) (c : Nat) (f : List (List Cel)) (v : Int) (a' : Option Addr) (c' : Nat) (td : List Lt) (h : BR w a c f a' c' td) (ok : OkB f td) :
    Calls Try.prog 18 #[.agg #[.slice a f.length c, .int .i64 v, .bool false, .slice a' td.length c']] w fun e w' =>
      ∃ a2 c2 a3 c3, e = .returned (.tuple #[.agg #[.slice a2 f.length c2, .int .i64 v, .bool true, .slice a3 td.length c3], .int .i64 0]) ∧ BR w' a2 c2 f a3 c3 td ∧ Below w.heap.size w w' := by
  obtain ⟨W, hW⟩ : ∃ W, (w.alloc (.cells #[.slice a f.length c, .int .i64 v, .bool false, .slice a' td.length c'] 25)).alloc (.cells #[.slice none 0 0, .int .i64 0, .bool false, .slice none 0 0] 25) = W := ⟨_, rfl⟩
  have HE : Hid (Ent w W a c f v false a' c' td) := by rw [Hid, ← hW]; exact ent_made h
  have HNE := mkHid ok.ne
  have HC := mkHid (cop_any W a c f v false a' c' td (h.below HE.out.bel) ok)
  obtain ⟨e0, e1, e2, e3⟩ := HE.out.arg.cells
  clear h ok
  go_enter Try.func18, Try.ntmps18
  go_wp2_with fail
  first | rw [hW] | skip
  clear hW
  refine HC.out.mono ?_
  rintro e w2 ⟨a2, c2, a3, c3, rfl, hbr, hown, hb2⟩
  have HBR := mkHid hbr
  have HBL := mkHid (HE.out.bel.then hb2)
  have HS2 : Hid (w.heap.size + 2 ≤ w2.heap.size) := by have h1 := HE.out.size; have h2 := hb2.size; rw [Hid]; omega
  have HA2 := mkHid (HE.out.arg.below hb2)
  have HR2 := mkHid (HE.out.res.below hb2)
  obtain ⟨w3, hw3⟩ : ∃ w3, w2.alloc (.cells #[.slice a2 f.length c2, .int .i64 v, .bool false, .slice a3 td.length c3] 25) = w3 := ⟨_, rfl⟩
  have hb3 : Below w2.heap.size w2 w3 := by rw [← hw3]; exact (Below.refl _ _).new _
  have HBX : Hid (BX w3 w2.heap.size a2 c2 f v false a3 c3 td) := by rw [Hid, ← hw3]; exact BX.made HBR.out
  have HA3 := mkHid (HA2.out.below hb3)
  have HR3 := mkHid (HR2.out.below hb3)
  have HBR3 := mkHid (HBR.out.below hb3)
  have HBL3 := mkHid (HBL.out.then hb3)
  obtain ⟨p0, p1, p2, p3⟩ := HA3.out.cells
  obtain ⟨q0, q1, q2, q3⟩ := HBX.out.cells
  obtain ⟨g0, g1, g2, g3⟩ := HBX.out.free
  obtain ⟨l0, l1, l2, l3⟩ := HR3.out.cells
  obtain ⟨k0, k1, k2, k3⟩ := HR3.out.free
  have hlt : w.heap.size + 1 < w2.heap.size := by have h1 := HS2.out; omega
  clear hbr hown hb2 hb3 HC HE e0 e1 e2 e3 HA2 HR2 HBR HBL
  obtain ⟨w4, hw4⟩ : ∃ w4, w3.setCell ⟨w2.heap.size, 2, none⟩ (.bool true) = w4 := ⟨_, rfl⟩
  have hf4 : Below w2.heap.size w3 w4 := by rw [← hw4]; exact (Below.refl _ _).setCell (p := ⟨w2.heap.size, 2, none⟩) (Nat.le_refl _) _
  have HQ4 : Hid (w4.heap[w2.heap.size]? = some (.cells #[.slice a2 f.length c2, .int .i64 v, .bool true, .slice a3 td.length c3] 25 (0, 0))) := by rw [Hid, ← hw4]; exact st2_set HBX.out.1 _
  have HK4 : Hid (Keeps (hide (some w2.heap.size) w3) w4) := by
    rw [Hid, ← hw4]
    exact fun b o v h => by
      obtain ⟨h1, h2⟩ := hide_cell h
      exact cell_far h1 h2
  have HBR4 : Hid (BR w4 a2 c2 f a3 c3 td) := ⟨(HBX.out.rows HNE.out.1 HBR3.out.f).keeps HK4.out, (HBX.out.chgs HNE.out.2 HBR3.out.t).keeps HK4.out⟩
  have HR4 : Hid (BX w4 (w.heap.size + 1) none 0 [] 0 false none 0 []) := ⟨(hf4.block _ (by have h1 := HS2.out; omega)).trans HR3.out.1, noB_row _⟩
  have HBL4 : Hid (Below w.heap.size w w4) := HBL3.out.trans (hf4.mono (by have h1 := HS2.out; omega))
  obtain ⟨q0, q1, q2, q3⟩ := st_cells HQ4.out
  obtain ⟨l0, l1, l2, l3⟩ := HR4.out.cells
  obtain ⟨k0, k1, k2, k3⟩ := HR4.out.free
  clear hf4
  go_wp2_with fail
  first | rw [hw4] | skip
  refine bodyPost_ret (v := .tuple #[.agg #[.slice a2 f.length c2, .int .i64 v, .bool true, .slice a3 td.length c3], .int .i64 0]) (by simp [results, Try.results18, go_sem, *]) rfl ⟨a2, c2, a3, c3, rfl, HR4.out.br4 HNE.out HBR4.out _ _ _ _, below_four HBL4.out (by simp) _ _ _ _⟩

set_option maxHeartbeats 1600000 in
set_option maxRecDepth 100000 in
theorem back_off (w : World) (a : Option Addr) (c : Nat) (f : List (List Cel)) (v : Int) (a' : Option Addr) (c' : Nat) (td : List Lt) (h : BR w a c f a' c' td) (ok : OkB f td) :
    Calls Try.prog 24 #[.agg #[.slice a f.length c, .int .i64 v, .bool false, .slice a' td.length c']] w fun e w' =>
      ∃ a2 c2 a3 c3, e = .returned (.tuple #[.agg #[.slice a2 f.length c2, .int .i64 v, .bool false, .slice a3 td.length c3], .int .i64 131]) ∧ BR w' a2 c2 f a3 c3 td ∧ Below w.heap.size w w' := by
  obtain ⟨W, hW⟩ : ∃ W, (w.alloc (.cells #[.slice a f.length c, .int .i64 v, .bool false, .slice a' td.length c'] 25)).alloc (.cells #[.slice none 0 0, .int .i64 0, .bool false, .slice none 0 0] 25) = W := ⟨_, rfl⟩
  have HE : Hid (Ent w W a c f v false a' c' td) := by rw [Hid, ← hW]; exact ent_made h
  have HNE := mkHid ok.ne
  have HC := mkHid (cop_any W a c f v false a' c' td (h.below HE.out.bel) ok)
  obtain ⟨e0, e1, e2, e3⟩ := HE.out.arg.cells
  clear h ok
  go_enter Try.func24, Try.ntmps24
  go_wp2_with fail
  first | rw [hW] | skip
  clear hW
  refine HC.out.mono ?_
  rintro e w2 ⟨a2, c2, a3, c3, rfl, hbr, hown, hb2⟩
  have HBR := mkHid hbr
  have HBL := mkHid (HE.out.bel.then hb2)
  have HS2 : Hid (w.heap.size + 2 ≤ w2.heap.size) := by have h1 := HE.out.size; have h2 := hb2.size; rw [Hid]; omega
  have HA2 := mkHid (HE.out.arg.below hb2)
  have HR2 := mkHid (HE.out.res.below hb2)
  obtain ⟨w3, hw3⟩ : ∃ w3, w2.alloc (.cells #[.slice a2 f.length c2, .int .i64 v, .bool false, .slice a3 td.length c3] 25) = w3 := ⟨_, rfl⟩
  have hb3 : Below w2.heap.size w2 w3 := by rw [← hw3]; exact (Below.refl _ _).new _
  have HBX : Hid (BX w3 w2.heap.size a2 c2 f v false a3 c3 td) := by rw [Hid, ← hw3]; exact BX.made HBR.out
  have HA3 := mkHid (HA2.out.below hb3)
  have HR3 := mkHid (HR2.out.below hb3)
  have HBR3 := mkHid (HBR.out.below hb3)
  have HBL3 := mkHid (HBL.out.then hb3)
  obtain ⟨p0, p1, p2, p3⟩ := HA3.out.cells
  obtain ⟨q0, q1, q2, q3⟩ := HBX.out.cells
  obtain ⟨g0, g1, g2, g3⟩ := HBX.out.free
  obtain ⟨l0, l1, l2, l3⟩ := HR3.out.cells
  obtain ⟨k0, k1, k2, k3⟩ := HR3.out.free
  have hlt : w.heap.size + 1 < w2.heap.size := by have h1 := HS2.out; omega
  clear hbr hown hb2 hb3 HC HE e0 e1 e2 e3 HA2 HR2 HBR HBL
  go_wp2_with fail
  refine bodyPost_ret (v := .tuple #[.agg #[.slice a2 f.length c2, .int .i64 v, .bool false, .slice a3 td.length c3], .int .i64 131]) (by simp [results, Try.results24, go_sem, *]) rfl ⟨a2, c2, a3, c3, rfl, HR3.out.br4 HNE.out HBR3.out _ _ _ _, below_four HBL3.out (by simp) _ _ _ _⟩

set_option maxHeartbeats 1600000 in
set_option maxRecDepth 100000 in
theorem back_on (w : World) (a : Option Addr) (c : Nat) (f : List (List Cel)) (v : Int) (a' : Option Addr) (c' : Nat) (td : List Lt) (h : BR w a c f a' c' td) (ok : OkB f td) :
    Calls Try.prog 24 #[.agg #[.slice a f.length c, .int .i64 v, .bool true, .slice a' td.length c']] w fun e w' =>
      ∃ a2 c2 a3 c3, e = .returned (.tuple #[.agg #[.slice a2 f.length c2, .int .i64 v, .bool false, .slice a3 0 c3], .int .i64 0]) ∧ BR w' a2 c2 f a3 c3 [] ∧ Below w.heap.size w w' := by
  obtain ⟨W, hW⟩ : ∃ W, (w.alloc (.cells #[.slice a f.length c, .int .i64 v, .bool true, .slice a' td.length c'] 25)).alloc (.cells #[.slice none 0 0, .int .i64 0, .bool false, .slice none 0 0] 25) = W := ⟨_, rfl⟩
  have HE : Hid (Ent w W a c f v true a' c' td) := by rw [Hid, ← hW]; exact ent_made h
  have HNE := mkHid ok.ne
  have HC := mkHid (cop_any W a c f v true a' c' td (h.below HE.out.bel) ok)
  obtain ⟨e0, e1, e2, e3⟩ := HE.out.arg.cells
  clear h ok
  go_enter Try.func24, Try.ntmps24
  go_wp2_with fail
  first | rw [hW] | skip
  clear hW
  refine HC.out.mono ?_
  rintro e w2 ⟨a2, c2, a3, c3, rfl, hbr, hown, hb2⟩
  have HBR := mkHid hbr
  have HBL := mkHid (HE.out.bel.then hb2)
  have HS2 : Hid (w.heap.size + 2 ≤ w2.heap.size) := by have h1 := HE.out.size; have h2 := hb2.size; rw [Hid]; omega
  have HA2 := mkHid (HE.out.arg.below hb2)
  have HR2 := mkHid (HE.out.res.below hb2)
  obtain ⟨w3, hw3⟩ : ∃ w3, w2.alloc (.cells #[.slice a2 f.length c2, .int .i64 v, .bool true, .slice a3 td.length c3] 25) = w3 := ⟨_, rfl⟩
  have hb3 : Below w2.heap.size w2 w3 := by rw [← hw3]; exact (Below.refl _ _).new _
  have HBX : Hid (BX w3 w2.heap.size a2 c2 f v true a3 c3 td) := by rw [Hid, ← hw3]; exact BX.made HBR.out
  have HA3 := mkHid (HA2.out.below hb3)
  have HR3 := mkHid (HR2.out.below hb3)
  have HBR3 := mkHid (HBR.out.below hb3)
  have HBL3 := mkHid (HBL.out.then hb3)
  obtain ⟨p0, p1, p2, p3⟩ := HA3.out.cells
  obtain ⟨q0, q1, q2, q3⟩ := HBX.out.cells
  obtain ⟨g0, g1, g2, g3⟩ := HBX.out.free
  obtain ⟨l0, l1, l2, l3⟩ := HR3.out.cells
  obtain ⟨k0, k1, k2, k3⟩ := HR3.out.free
  have hlt : w.heap.size + 1 < w2.heap.size := by have h1 := HS2.out; omega
  clear hbr hown hb2 hb3 HC HE e0 e1 e2 e3 HA2 HR2 HBR HBL
  obtain ⟨w4, hw4⟩ : ∃ w4, (w3.setCell ⟨w2.heap.size, 2, none⟩ (.bool false)).setCell ⟨w2.heap.size, 3, none⟩ (.slice none 0 0) = w4 := ⟨_, rfl⟩
  have hf4 : Below w2.heap.size w3 w4 := by rw [← hw4]; exact ((Below.refl _ _).setCell (p := ⟨w2.heap.size, 2, none⟩) (Nat.le_refl _) _).setCell (p := ⟨w2.heap.size, 3, none⟩) (Nat.le_refl _) _
  have HQ4 : Hid (w4.heap[w2.heap.size]? = some (.cells #[.slice a2 f.length c2, .int .i64 v, .bool false, .slice none 0 0] 25 (0, 0))) := by rw [Hid, ← hw4]; exact st3_set (st2_set HBX.out.1 _) _
  have HK4 : Hid (Keeps (hide (some w2.heap.size) w3) w4) := by
    rw [Hid, ← hw4]
    exact fun b o v h => by
      obtain ⟨h1, h2⟩ := hide_cell h
      exact cell_far h1 (cell_far h1 h2)
  have HBR4 : Hid (BR w4 a2 c2 f none 0 []) := ⟨(HBX.out.rows HNE.out.1 HBR3.out.f).keeps HK4.out, nilRow _⟩
  have HR4 : Hid (BX w4 (w.heap.size + 1) none 0 [] 0 false none 0 []) := ⟨(hf4.block _ (by have h1 := HS2.out; omega)).trans HR3.out.1, noB_row _⟩
  have HBL4 : Hid (Below w.heap.size w w4) := HBL3.out.trans (hf4.mono (by have h1 := HS2.out; omega))
  obtain ⟨q0, q1, q2, q3⟩ := st_cells HQ4.out
  obtain ⟨l0, l1, l2, l3⟩ := HR4.out.cells
  obtain ⟨k0, k1, k2, k3⟩ := HR4.out.free
  clear hf4
  go_wp2_with fail
  first | rw [hw4] | skip
  refine bodyPost_ret (v := .tuple #[.agg #[.slice a2 f.length c2, .int .i64 v, .bool false, .slice none 0 0], .int .i64 0]) (by simp [results, Try.results24, go_sem, *]) rfl ⟨a2, c2, none, 0, rfl, HR4.out.br4 ⟨HNE.out.1, noB_ne.2⟩ HBR4.out _ _ _ _, below_four HBL4.out (by simp) _ _ _ _⟩
end Go.Proofs.Ytnpffificfghpaa
set_option linter.unusedVariables false
namespace Go.Proofs.Ytnpffificfghpaa
open Go.RowKit

/-! ### Change -/
structure Ent3 (w W : World) (a : Option Addr) (c : Nat) (f : List (List Cel)) (v : Int) (on : Bool) (a' : Option Addr) (c' : Nat) (td : List Lt) (ya : Option Addr) (yc : Nat) (y : Lt) : Prop where
  arg : BX W w.heap.size a c f v on a' c' td
  chg : W.heap[w.heap.size + 1]? = some (.cells #[.bool y.neg, .slice ya y.t.length yc] 32 (0, 0))
  res : BX W (w.heap.size + 2) none 0 [] 0 false none 0 []
  bel : Below w.heap.size w W
  size : W.heap.size = w.heap.size + 3
theorem ent3_made {w : World} {a a' : Option Addr} {c c' : Nat} {f : List (List Cel)} {v : Int} {on : Bool} {td : List Lt} {ya : Option Addr} {yc : Nat} {y : Lt} (h : BR w a c f a' c' td) : Ent3 w (((w.alloc (.cells #[.slice a f.length c, .int .i64 v, .bool on, .slice a' td.length c'] 25)).alloc (.cells #[.bool y.neg, .slice ya y.t.length yc] 32)).alloc (.cells #[.slice none 0 0, .int .i64 0, .bool false, .slice none 0 0] 25)) a c f v on a' c' td ya yc y := by
  have hs1 : (w.alloc (.cells #[.slice a f.length c, .int .i64 v, .bool on, .slice a' td.length c'] 25)).heap.size = w.heap.size + 1 := by simp
  have hs2 : ((w.alloc (.cells #[.slice a f.length c, .int .i64 v, .bool on, .slice a' td.length c'] 25)).alloc (.cells #[.bool y.neg, .slice ya y.t.length yc] 32)).heap.size = w.heap.size + 2 := by simp
  refine ⟨(BX.made h).below (((Below.refl _ _).new _).new _), ?_, ?_, (((Below.refl _ _).new _).new _).new _, by simp⟩
  · refine (heap_alloc_old _ _ (by simp)).trans ?_
    rw [← hs1]
    exact heap_alloc_new _ _
  · have h1 := BX.made (v := 0) (on := false) (noB_row ((w.alloc (.cells #[.slice a f.length c, .int .i64 v, .bool on, .slice a' td.length c'] 25)).alloc (.cells #[.bool y.neg, .slice ya y.t.length yc] 32)))
    rw [hs2] at h1
    exact h1
theorem VOwn.ne {α : Type} [RepC α] {V w : World} {B e : Nat} {acc : List α} {v : Value} (h : VOwn V B e acc v w) {k : Nat} {cs : Array Value} {T : TypeId} {z : Nat × Nat} (hk : w.heap[k]? = some (.cells cs T z)) (hT : T ≠ e) : ∀ b, v.ownBlock = some b → b ≠ k := by
  obtain ⟨vs, ho, _⟩ := h
  rcases ho.2 with ⟨rfl, _⟩ | ⟨g, cap, cur, rfl, _, hg, _⟩
  · intro b e; cases e
  · intro b e
    injection e with e
    rintro rfl
    have e2 : g = b := e
    rw [← e2, hg] at hk
    injection hk with hk
    injection hk with _ h2 _
    exact hT h2.symm
theorem lt_cR {w : World} {y : Lt} {a : Option Addr} {c : Nat} (h : Row w a c y.t) : RepC.C w (#[Value.bool y.neg, .slice a y.t.length c]).toList y := ⟨a, c, rfl, h⟩

set_option maxHeartbeats 3200000 in
set_option maxRecDepth 100000 in
theorem change_off (w : World) (a : Option Addr) (c : Nat) (f : List (List Cel)) (v : Int) (a' : Option Addr) (c' : Nat) (td : List Lt) (ya : Option Addr) (yc : Nat) (y : Lt) (h : BR w a c f a' c' td) (ok : OkB f td) (hy : Row w ya yc y.t) :
    Calls Try.prog 20 #[.agg #[.slice a f.length c, .int .i64 v, .bool false, .slice a' td.length c'], .agg #[.bool y.neg, .slice ya y.t.length yc]] w fun e w' =>
      ∃ a2 c2 a3 c3, e = .returned (.tuple #[.agg #[.slice a2 f.length c2, .int .i64 v, .bool false, .slice a3 td.length c3], .int .i64 131]) ∧ BR w' a2 c2 f a3 c3 td ∧ Below w.heap.size w w' := by
  obtain ⟨W, hW⟩ : ∃ W, ((w.alloc (.cells #[.slice a f.length c, .int .i64 v, .bool false, .slice a' td.length c'] 25)).alloc (.cells #[.bool y.neg, .slice ya y.t.length yc] 32)).alloc (.cells #[.slice none 0 0, .int .i64 0, .bool false, .slice none 0 0] 25) = W := ⟨_, rfl⟩
  have HE : Hid (Ent3 w W a c f v false a' c' td ya yc y) := by rw [Hid, ← hW]; exact ent3_made h
  have HNE := mkHid ok.ne
  have HWZ : Hid (W.heap.size = w.heap.size + 3) := HE.out.size
  have HC := mkHid (cop_any W a c f v false a' c' td (h.below HE.out.bel) ok)
  have HY := mkHid (hy.below HE.out.bel)
  have hyl := hy.le
  have hym := hy.max
  obtain ⟨e0, e1, e2, e3⟩ := HE.out.arg.cells
  clear h ok hy
  go_enter Try.func20, Try.ntmps20
  go_wp2_with fail
  first | rw [hW] | skip
  clear hW
  refine HC.out.mono ?_
  rintro e w2 ⟨a2, c2, a3, c3, rfl, hbr, hown, hb2⟩
  have HBR := mkHid hbr
  have HBL := mkHid (HE.out.bel.then hb2)
  have HS2 : Hid (w.heap.size + 3 ≤ w2.heap.size) := by have h1 := HE.out.size; have h2 := hb2.size; rw [Hid]; omega
  have HA2 := mkHid (HE.out.arg.below hb2)
  have HR2 := mkHid (HE.out.res.below hb2)
  have HG2 := mkHid ((hb2.block _ (by have h1 := HE.out.size; omega)).trans HE.out.chg)
  obtain ⟨w3, hw3⟩ : ∃ w3, w2.alloc (.cells #[.slice a2 f.length c2, .int .i64 v, .bool false, .slice a3 td.length c3] 25) = w3 := ⟨_, rfl⟩
  have hb3 : Below w2.heap.size w2 w3 := by rw [← hw3]; exact (Below.refl _ _).new _
  have HBX : Hid (BX w3 w2.heap.size a2 c2 f v false a3 c3 td) := by rw [Hid, ← hw3]; exact BX.made HBR.out
  have HZ3 : Hid (w3.heap.size = w2.heap.size + 1) := by rw [Hid, ← hw3]; simp
  have HA3 := mkHid (HA2.out.below hb3)
  have HR3 := mkHid (HR2.out.below hb3)
  have HG3 := mkHid ((hb3.block _ (by have h1 := HS2.out; omega)).trans HG2.out)
  have HBR3 := mkHid (HBR.out.below hb3)
  have HBL3 := mkHid (HBL.out.then hb3)
  have HY3 := mkHid ((HY.out.below hb2).below hb3)
  have HOF := mkHid (hown.1.keeps (Fr.of hb3).keeps)
  have HOT := mkHid ((hown.2.view (Fr.of hb3).keeps).below hb3)
  obtain ⟨p0, p1, p2, p3⟩ := HA3.out.cells
  obtain ⟨m0, m1⟩ := b2_cells HG3.out
  obtain ⟨q0, q1, q2, q3⟩ := HBX.out.cells
  obtain ⟨l0, l1, l2, l3⟩ := HR3.out.cells
  obtain ⟨k0, k1, k2, k3⟩ := HR3.out.free
  clear hbr hown hb2 hb3 HC HE e0 e1 e2 e3 HA2 HR2 HBR HBL HG2 HY
  go_wp2_with fail
  refine bodyPost_ret (v := .tuple #[.agg #[.slice a2 f.length c2, .int .i64 v, .bool false, .slice a3 td.length c3], .int .i64 131]) (by simp [results, Try.results20, go_sem, *]) rfl ⟨a2, c2, a3, c3, rfl, HR3.out.br4 HNE.out HBR3.out _ _ _ _, below_four (g := w.heap.size + 1 + 1) HBL3.out (by omega) _ _ _ _⟩

set_option maxHeartbeats 3200000 in
set_option maxRecDepth 100000 in
theorem change_no (w : World) (a : Option Addr) (c : Nat) (f : List (List Cel)) (v : Int) (a' : Option Addr) (c' : Nat) (td : List Lt) (ya : Option Addr) (yc : Nat) (y : Lt) (h : BR w a c f a' c' td) (ok : OkB f td) (hy : Row w ya yc y.t) (hF : factB y.t = false) :
    Calls Try.prog 20 #[.agg #[.slice a f.length c, .int .i64 v, .bool true, .slice a' td.length c'], .agg #[.bool y.neg, .slice ya y.t.length yc]] w fun e w' =>
      ∃ a2 c2 a3 c3, e = .returned (.tuple #[.agg #[.slice a2 f.length c2, .int .i64 v, .bool true, .slice a3 td.length c3], .int .i64 120]) ∧ BR w' a2 c2 f a3 c3 td ∧ Below w.heap.size w w' := by
  obtain ⟨W, hW⟩ : ∃ W, ((w.alloc (.cells #[.slice a f.length c, .int .i64 v, .bool true, .slice a' td.length c'] 25)).alloc (.cells #[.bool y.neg, .slice ya y.t.length yc] 32)).alloc (.cells #[.slice none 0 0, .int .i64 0, .bool false, .slice none 0 0] 25) = W := ⟨_, rfl⟩
  have HE : Hid (Ent3 w W a c f v true a' c' td ya yc y) := by rw [Hid, ← hW]; exact ent3_made h
  have HNE := mkHid ok.ne
  have HWZ : Hid (W.heap.size = w.heap.size + 3) := HE.out.size
  have HC := mkHid (cop_any W a c f v true a' c' td (h.below HE.out.bel) ok)
  have HY := mkHid (hy.below HE.out.bel)
  have hyl := hy.le
  have hym := hy.max
  obtain ⟨e0, e1, e2, e3⟩ := HE.out.arg.cells
  have HF := mkHid hF
  clear hF
  clear h ok hy
  go_enter Try.func20, Try.ntmps20
  go_wp2_with fail
  first | rw [hW] | skip
  clear hW
  refine HC.out.mono ?_
  rintro e w2 ⟨a2, c2, a3, c3, rfl, hbr, hown, hb2⟩
  have HBR := mkHid hbr
  have HBL := mkHid (HE.out.bel.then hb2)
  have HS2 : Hid (w.heap.size + 3 ≤ w2.heap.size) := by have h1 := HE.out.size; have h2 := hb2.size; rw [Hid]; omega
  have HA2 := mkHid (HE.out.arg.below hb2)
  have HR2 := mkHid (HE.out.res.below hb2)
  have HG2 := mkHid ((hb2.block _ (by have h1 := HE.out.size; omega)).trans HE.out.chg)
  obtain ⟨w3, hw3⟩ : ∃ w3, w2.alloc (.cells #[.slice a2 f.length c2, .int .i64 v, .bool true, .slice a3 td.length c3] 25) = w3 := ⟨_, rfl⟩
  have hb3 : Below w2.heap.size w2 w3 := by rw [← hw3]; exact (Below.refl _ _).new _
  have HBX : Hid (BX w3 w2.heap.size a2 c2 f v true a3 c3 td) := by rw [Hid, ← hw3]; exact BX.made HBR.out
  have HZ3 : Hid (w3.heap.size = w2.heap.size + 1) := by rw [Hid, ← hw3]; simp
  have HA3 := mkHid (HA2.out.below hb3)
  have HR3 := mkHid (HR2.out.below hb3)
  have HG3 := mkHid ((hb3.block _ (by have h1 := HS2.out; omega)).trans HG2.out)
  have HBR3 := mkHid (HBR.out.below hb3)
  have HBL3 := mkHid (HBL.out.then hb3)
  have HY3 := mkHid ((HY.out.below hb2).below hb3)
  have HOF := mkHid (hown.1.keeps (Fr.of hb3).keeps)
  have HOT := mkHid ((hown.2.view (Fr.of hb3).keeps).below hb3)
  obtain ⟨p0, p1, p2, p3⟩ := HA3.out.cells
  obtain ⟨m0, m1⟩ := b2_cells HG3.out
  clear hbr hown hb2 hb3 HC HE e0 e1 e2 e3 HA2 HR2 HBR HBL HG2 HY
  go_wp2_with fail
  first | rw [hw3] | skip
  clear hw3
  refine (fact_is HY3.out HF).mono ?_; rintro e w4 ⟨rfl, hb4⟩
  have HR4 := mkHid (HR3.out.below hb4)
  have HBR4 := mkHid (HBR3.out.below hb4)
  have HBL4 := mkHid (HBL3.out.then hb4)
  obtain ⟨q0, q1, q2, q3⟩ := (HBX.out.below hb4).cells
  obtain ⟨l0, l1, l2, l3⟩ := HR4.out.cells
  obtain ⟨k0, k1, k2, k3⟩ := HR4.out.free
  clear hb4 p0 p1 p2 p3 m0 m1
  go_wp2_with fail
  refine bodyPost_ret (v := .tuple #[.agg #[.slice a2 f.length c2, .int .i64 v, .bool true, .slice a3 td.length c3], .int .i64 120]) (by simp [results, Try.results20, go_sem, *]) rfl ⟨a2, c2, a3, c3, rfl, HR4.out.br4 HNE.out HBR4.out _ _ _ _, below_four (g := w.heap.size + 1 + 1) HBL4.out (by omega) _ _ _ _⟩

set_option maxHeartbeats 3200000 in
set_option maxRecDepth 100000 in
theorem change_yes (w : World) (a : Option Addr) (c : Nat) (f : List (List Cel)) (v : Int) (a' : Option Addr) (c' : Nat) (td : List Lt) (ya : Option Addr) (yc : Nat) (y : Lt) (h : BR w a c f a' c' td) (ok : OkB f td) (hy : Row w ya yc y.t) (hF : factB y.t = true) :
    Calls Try.prog 20 #[.agg #[.slice a f.length c, .int .i64 v, .bool true, .slice a' td.length c'], .agg #[.bool y.neg, .slice ya y.t.length yc]] w fun e w' =>
      ∃ a2 c2 a3 c3, e = .returned (.tuple #[.agg #[.slice a2 f.length c2, .int .i64 v, .bool true, .slice a3 (td.length + 1) c3], .int .i64 0]) ∧ BR w' a2 c2 f a3 c3 (td ++ [y]) ∧ Below w.heap.size w w' := by
  obtain ⟨W, hW⟩ : ∃ W, ((w.alloc (.cells #[.slice a f.length c, .int .i64 v, .bool true, .slice a' td.length c'] 25)).alloc (.cells #[.bool y.neg, .slice ya y.t.length yc] 32)).alloc (.cells #[.slice none 0 0, .int .i64 0, .bool false, .slice none 0 0] 25) = W := ⟨_, rfl⟩
  have HE : Hid (Ent3 w W a c f v true a' c' td ya yc y) := by rw [Hid, ← hW]; exact ent3_made h
  have HNE := mkHid ok.ne
  have HWZ : Hid (W.heap.size = w.heap.size + 3) := HE.out.size
  have HC := mkHid (cop_any W a c f v true a' c' td (h.below HE.out.bel) ok)
  have HY := mkHid (hy.below HE.out.bel)
  have hyl := hy.le
  have hym := hy.max
  obtain ⟨e0, e1, e2, e3⟩ := HE.out.arg.cells
  have HF := mkHid hF
  have hyl2 : y.t.length ≤ 1000000 := Nat.le_trans (fact_len hF) (by decide)
  have HYN : Hid (y.t ≠ []) := fact_ne hF
  have htl := ok.len
  clear hF
  clear h ok hy
  go_enter Try.func20, Try.ntmps20
  go_wp2_with fail
  first | rw [hW] | skip
  clear hW
  refine HC.out.mono ?_
  rintro e w2 ⟨a2, c2, a3, c3, rfl, hbr, hown, hb2⟩
  have HBR := mkHid hbr
  have HBL := mkHid (HE.out.bel.then hb2)
  have HS2 : Hid (w.heap.size + 3 ≤ w2.heap.size) := by have h1 := HE.out.size; have h2 := hb2.size; rw [Hid]; omega
  have HA2 := mkHid (HE.out.arg.below hb2)
  have HR2 := mkHid (HE.out.res.below hb2)
  have HG2 := mkHid ((hb2.block _ (by have h1 := HE.out.size; omega)).trans HE.out.chg)
  obtain ⟨w3, hw3⟩ : ∃ w3, w2.alloc (.cells #[.slice a2 f.length c2, .int .i64 v, .bool true, .slice a3 td.length c3] 25) = w3 := ⟨_, rfl⟩
  have hb3 : Below w2.heap.size w2 w3 := by rw [← hw3]; exact (Below.refl _ _).new _
  have HBX : Hid (BX w3 w2.heap.size a2 c2 f v true a3 c3 td) := by rw [Hid, ← hw3]; exact BX.made HBR.out
  have HZ3 : Hid (w3.heap.size = w2.heap.size + 1) := by rw [Hid, ← hw3]; simp
  have HA3 := mkHid (HA2.out.below hb3)
  have HR3 := mkHid (HR2.out.below hb3)
  have HG3 := mkHid ((hb3.block _ (by have h1 := HS2.out; omega)).trans HG2.out)
  have HBR3 := mkHid (HBR.out.below hb3)
  have HBL3 := mkHid (HBL.out.then hb3)
  have HY3 := mkHid ((HY.out.below hb2).below hb3)
  have HOF := mkHid (hown.1.keeps (Fr.of hb3).keeps)
  have HOT := mkHid ((hown.2.view (Fr.of hb3).keeps).below hb3)
  obtain ⟨p0, p1, p2, p3⟩ := HA3.out.cells
  obtain ⟨m0, m1⟩ := b2_cells HG3.out
  clear hbr hb2 hb3 HC HE e0 e1 e2 e3 HA2 HR2 HBR HBL HG2 HY
  obtain ⟨bs, hbs⟩ : ∃ bs, (Value.slice a3 td.length c3).ownBlock.toList = bs := ⟨_, rfl⟩
  rw [hbs] at hown
  have HBS : Hid (∀ k ∈ bs, W.heap.size ≤ k ∧ k < w2.heap.size) := by
    rw [Hid, ← hbs]
    exact fun k hk => hown.2.lt k (by simpa using hk)
  have HOB0 : Hid (∀ k, (Value.slice a3 td.length c3).ownBlock = some k → k ∈ bs) := fun k hk => by rw [← hbs, hk]; simp
  clear HOF HOT hbs
  obtain ⟨u6, hu6⟩ : ∃ u6, w2.heap.size :: bs = u6 := ⟨_, rfl⟩
  have HTO : Hid (Keeps (veil bs w2) (veil u6 w3)) := by
    rw [Hid, ← hu6, ← hw3]
    exact veil_toR (Fr.of ((Below.refl _ _).new _)) fun k hk => by
      rcases List.mem_cons.1 hk with h | h
      · right; omega
      · exact .inl h
  have HOF := mkHid (hown.1.keeps HTO.out)
  have HOT : Hid (VOwn (veil u6 w3) W.heap.size 32 td (.slice a3 td.length c3) w3) := (hown.2.view HTO.out).below (by rw [← hw3]; exact (Below.refl _ _).new _)
  have HU6 : Hid (∀ k ∈ u6, w.heap.size + 3 ≤ k ∧ k < w3.heap.size) := by
    rw [Hid, ← hu6]
    intro k hk
    have h1 := HS2.out
    have h2 := HZ3.out
    have h4 := HWZ.out
    rcases List.mem_cons.1 hk with h | h
    · omega
    · have h3 := HBS.out k h; omega
  have HM6 : Hid (w2.heap.size ∈ u6 ∧ ∀ k ∈ bs, k ∈ u6) := by rw [Hid, ← hu6]; exact ⟨List.mem_cons_self, fun k h => List.mem_cons_of_mem _ h⟩
  have HOB : Hid (∀ k, (Value.slice a3 td.length c3).ownBlock = some k → k ∈ u6) := fun k hk => HM6.out.2 k (HOB0.out k hk)
  clear hown HTO hu6
  go_wp2_with fail
  first | rw [hw3] | skip
  clear hw3
  refine (fact_is HY3.out HF).mono ?_; rintro e w4 ⟨rfl, hb4⟩
  obtain ⟨y0, hv0⟩ : ∃ X, w4.drew = X := ⟨_, rfl⟩
  have hb5 : Below w3.heap.size w3 y0 := by rw [← hv0]; exact hb4.drew
  have HR4 := mkHid (HR3.out.below hb5)
  have HBL4 := mkHid (HBL3.out.then hb5)
  have HBX4 := mkHid (HBX.out.below hb5)
  have HG4 := mkHid ((hb5.block _ (by have h1 := HS2.out; have h2 := HZ3.out; omega)).trans HG3.out)
  have HY4 := mkHid (HY3.out.below hb5)
  have HOF4 := mkHid (HOF.out.keeps (Fr.of hb5).keeps)
  have HOT4 := mkHid ((HOT.out.view (Fr.of hb5).keeps).below hb5)
  have HZ4 : Hid (w3.heap.size ≤ y0.heap.size) := hb5.size
  have HS : Hid (∀ X, Fr u6 y0 X → (fun X : World => X.cell? ⟨w.heap.size + 1, 0, none⟩ = some (.bool y.neg) ∧ X.cell? ⟨w.heap.size + 1, 1, none⟩ = some (.slice ya y.t.length yc)) X) := fun X h => by
    obtain ⟨u0, u1⟩ := b2_cells ((h.block (w.heap.size + 1) (by have h1 := HS2.out; have h2 := HZ4.out; have h3 := HZ3.out; omega) (fun hm => by have h1 := HU6.out _ hm; omega)).trans HG4.out)
    exact ⟨u0, u1⟩
  clear hb4 hb5 p0 p1 p2 p3 m0 m1 HR3 HBR3 HBL3 HBX HG3 HY3 HOF HOT HA3
  go_wp2_with fail
  refine wp_region_noPanic ?_
  refine wp_region_held_drew (S := fun X : World => X.cell? ⟨w.heap.size + 1, 0, none⟩ = some (.bool y.neg) ∧ X.cell? ⟨w.heap.size + 1, 1, none⟩ = some (.slice ya y.t.length yc)) (by kernel_rfl) (by rw [hv0]; exact HS.out _ (Fr.refl _ _)) (fun hSd => ?_)
  rw [hv0] at hSd ⊢
  clear hv0
  have HB0 := mkHid (Below.refl y0.heap.size y0)
  refine wpAnyH_take (i := 0) (oi := _) (v := ?_) rfl (by kernel_rfl) (by kernel_rfl) (by kernel_rfl) (fun _ _ _ h => h) (Or.inl ⟨by rfl, ?_⟩) (by assumption) ?_
  rotate_left
  · (intro w' hSw; obtain ⟨z0, z1⟩ := hSw; go_simp; try with_reducible rfl)
  (try simp only [List.getElem_toArray, List.getElem_cons_succ, List.getElem_cons_zero, Act.put, List.setIfInBounds_toArray, List.set_cons_zero, List.set_cons_succ])
  refine wpAnyH_take (i := 2) (oi := _) (v := ?_) rfl (by kernel_rfl) (by kernel_rfl) (by kernel_rfl) (fun _ _ _ h => h) (Or.inl ⟨by rfl, ?_⟩) (by assumption) ?_
  rotate_left
  · (intro w' hSw; obtain ⟨z0, z1⟩ := hSw; go_simp; try with_reducible rfl)
  (try simp only [List.getElem_toArray, List.getElem_cons_succ, List.getElem_cons_zero, Act.put, List.setIfInBounds_toArray, List.set_cons_zero, List.set_cons_succ])
  refine wpAnyH_ready (rs := [1, 3]) (by kernel_rfl) (by simp) ?_
  refine AllReadyH.cons (o := _) rfl (fun K hK => ?_) ?_
  · skip
    have tl := keep HBX4.out.cells.2.2.2 HB0.out
    go_simp
    clear tl
    try dsimp only
    refine hK.out _ _ (HS.out _ (Fr.of HB0.out)) (fun hS1 => ?_)
    clear hK K
    (try simp only [List.getElem_toArray, List.getElem_cons_succ, List.getElem_cons_zero, Act.put, List.setIfInBounds_toArray, List.set_cons_zero, List.set_cons_succ])
    refine wpAnyH_ready (rs := [3]) (by kernel_rfl) (by simp) ?_
    refine AllReadyH.cons (o := _) rfl (fun K hK => ?_) AllReadyH.nil
    go_simp
    refine (copiedChange_any y ya yc _ (HY4.out.below HB0.out) hyl2).mono ?_
    rintro e w12 ⟨a12, c12, rfl, hn, hb⟩
    have HB2 := mkHid (HB0.out.then hb)
    have HN2 : Hid (Row (veil u6 w12) a12 c12 y.t) := hn.keeps (under_veil fun k hk => by have h1 := HU6.out k hk; have h2 := HZ4.out; have h3 := HB0.out.size; omega)
    clear hn hb
    try dsimp only
    refine hK.out _ _ (HS.out _ (Fr.of HB2.out)) (fun hS2 => ?_)
    clear hK K
    (try simp only [List.getElem_toArray, List.getElem_cons_succ, List.getElem_cons_zero, Act.put, List.setIfInBounds_toArray, List.set_cons_zero, List.set_cons_succ])
    refine wpAnyH_ready (rs := [4]) (by kernel_rfl) (by simp) ?_
    refine AllReadyH.cons (o := _) rfl (fun K hK => ?_) AllReadyH.nil
    go_simp
    obtain ⟨w13, hw13⟩ : ∃ X, w12.alloc (.cells #[.bool y.neg, .slice a12 y.t.length c12] 32) = X := ⟨_, rfl⟩
    have hba : Below w12.heap.size w12 w13 := by rw [← hw13]; exact (Below.refl _ _).new _
    have HL3 : Hid (w13.heap[w12.heap.size]? = some (.cells #[.bool y.neg, .slice a12 y.t.length c12] 32 (0, 0))) := by rw [Hid, ← hw13]; exact heap_alloc_new _ _
    have HB3 := mkHid (HB2.out.then hba)
    have HN3 := mkHid (HN2.out.keeps (Fr.of hba).keeps)
    first | rw [hw13] | skip
    clear hw13 hba
    try dsimp only
    refine hK.out _ _ (HS.out _ (Fr.of HB3.out)) (fun hS3 => ?_)
    clear hK K
    (try simp only [List.getElem_toArray, List.getElem_cons_succ, List.getElem_cons_zero, Act.put, List.setIfInBounds_toArray, List.set_cons_zero, List.set_cons_succ])
    refine wpAnyH_ready (rs := [5]) (by kernel_rfl) (by simp) ?_
    refine AllReadyH.cons (o := _) rfl (fun K hK => ?_) AllReadyH.nil
    have hf : Fr u6 y0 w13 := Fr.of HB3.out
    have hv : VOwn (veil u6 w13) W.heap.size 32 td (.slice a3 td.length c3) w13 := (HOT4.out.view hf.keeps).below HB3.out
    have hsz : W.heap.size ≤ w13.heap.size := by have h1 := HWZ.out; have h2 := HB3.out.size; have h3 := HZ4.out; have h4 := HZ3.out; have h5 := HS2.out; omega
    obtain ⟨v9, w9, hrun, hv9, hb9, hg9⟩ := appLit Try.underlying23 Try.infoChg (by decide) (by decide) hv (lt_cR HN3.out) HL3.out (by omega) hsz
    have hf9 : Fr u6 w13 w9 := ⟨hg9.os, hg9.tape, hg9.output, hg9.size, fun k hk hn => hg9.block k hk fun e => hn (HOB.out k e.symm)⟩
    obtain ⟨a9, c9, rfl, hle9, hmx9, _⟩ := hv9.slice
    rw [List.length_append, List.length_singleton] at hrun
    have HV9 := mkHid (hv9.view hf9.keeps)
    have HF9 := mkHid (hf.trans hf9)
    have HX9 : Hid (w9.heap[w2.heap.size]? = some (.cells #[.slice a2 f.length c2, .int .i64 v, .bool true, .slice a3 td.length c3] 25 (0, 0))) := by
      have h0 := (HB3.out.block w2.heap.size (by have h1 := HZ3.out; have h2 := HZ4.out; omega)).trans HBX4.out.1
      exact (hg9.block w2.heap.size (by have h1 := HZ3.out; have h2 := HZ4.out; have h3 := HB3.out.size; omega) fun e => hv.ne h0 (by decide) _ e.symm rfl).trans h0
    clear hf hv hsz hv9 hb9 hg9 hf9 hle9 hmx9
    (rw [if_pos (by rfl)]; simp [Oper.wp, execOp, resolve, invoke, builtin, Oper.upon, Act.eval, hrun, Result.andThen, Sem.run_bind])
    clear hrun
    try dsimp only
    refine hK.out _ _ (HS.out _ HF9.out) (fun hS4 => ?_)
    clear hK K
    (try simp only [List.getElem_toArray, List.getElem_cons_succ, List.getElem_cons_zero, Act.put, List.setIfInBounds_toArray, List.set_cons_zero, List.set_cons_succ])
    refine wpAnyH_take (i := 6) (oi := _) (v := ?_) rfl (by kernel_rfl) (by kernel_rfl) (by kernel_rfl) (fun _ _ _ h => h) (Or.inl ⟨by rfl, ?_⟩) (by assumption) ?_
    rotate_left
    · (intro w' hSw; obtain ⟨z0, z1⟩ := hSw; go_simp; try with_reducible rfl)
    (try simp only [List.getElem_toArray, List.getElem_cons_succ, List.getElem_cons_zero, Act.put, List.setIfInBounds_toArray, List.set_cons_zero, List.set_cons_succ])
    refine wpAnyH_ready (rs := [7]) (by kernel_rfl) (by simp) ?_
    refine AllReadyH.cons (o := _) rfl (fun K hK => ?_) AllReadyH.nil
    obtain ⟨t0, t1, t2, t3⟩ := st_cells HX9.out
    obtain ⟨s0, s1, s2, s3⟩ := st_free HX9.out
    go_simp
    obtain ⟨w10, hw10⟩ : ∃ X, w9.setCell ⟨w2.heap.size, 3, none⟩ (.slice a9 (td.length + 1) c9) = X := ⟨_, rfl⟩
    have HF10 : Hid (Fr u6 y0 w10) := by rw [Hid, ← hw10]; exact HF9.out.set HM6.out.1 _
    have HX10 : Hid (w10.heap[w2.heap.size]? = some (.cells #[.slice a2 f.length c2, .int .i64 v, .bool true, .slice a9 (td.length + 1) c9] 25 (0, 0))) := by rw [Hid, ← hw10]; exact st3_set HX9.out _
    have HV10 : Hid (VOwn (veil u6 w10) W.heap.size 32 (td ++ [y]) (.slice a9 (td ++ [y]).length c9) w10) := by
      have h1 := HV9.out.ne HX9.out (by decide)
      rw [Hid, ← hw10]
      exact (HV9.out.view ((Fr.refl u6 w9).set HM6.out.1 _).keeps).far fun b e => Below.heap_setCell w9 _ _ b (h1 b e)
    first | rw [hw10] | skip
    clear hw10 t0 t1 t2 t3 s0 s1 s2 s3
    try dsimp only
    refine hK.out _ _ (HS.out _ HF10.out) (fun hS5 => ?_)
    clear hK K
    (try simp only [List.getElem_toArray, List.getElem_cons_succ, List.getElem_cons_zero, Act.put, List.setIfInBounds_toArray, List.set_cons_zero, List.set_cons_succ])
    refine wpAnyH_done (by kernel_rfl) (NoPanic.normal ?_) _
    have HR10 : Hid (BX w10 (w.heap.size + 2) none 0 [] 0 false none 0 []) := ⟨(HF10.out.block _ HR4.out.lt (fun hm => by have h1 := HU6.out _ hm; omega)).trans HR4.out.1, noB_row _⟩
    have HBR10 : Hid (BR w10 a2 c2 f a9 c9 (td ++ [y])) := by
      refine ⟨(HOF4.out.keeps HF10.out.keeps).keeps (veil_keeps _ _), ?_⟩
      obtain ⟨a8, c8, e8, hr8⟩ := HV10.out.row (us := []) (by simp) (veil_mono _ (by simp))
      injection e8 with e8 _ e9
      subst e8; subst e9
      exact hr8.keeps (veil_keeps _ _)
    have HBL10 : Hid (Below w.heap.size w w10) := HBL4.out.trans (HF10.out.below HBL4.out.size fun k hk => by have h1 := HU6.out k hk; omega)
    have HNE2 : Hid (NEf f ∧ NEt (td ++ [y])) := ⟨HNE.out.1, fun x hx => by
      rcases List.mem_append.1 hx with h | h
      · exact HNE.out.2 x h
      · rw [List.mem_singleton] at h; rw [h]; exact HYN.out⟩
    obtain ⟨q0, q1, q2, q3⟩ := st_cells HX10.out
    obtain ⟨l0, l1, l2, l3⟩ := HR10.out.cells
    obtain ⟨k0, k1, k2, k3⟩ := HR10.out.free
    clear HS hSd
    go_wp2_with fail
    refine bodyPost_ret (v := .tuple #[.agg #[.slice a2 f.length c2, .int .i64 v, .bool true, .slice a9 (td.length + 1) c9], .int .i64 0]) (by simp [results, Try.results20, go_sem, *]) rfl ⟨a2, c2, a9, c9, rfl, by have h := HR10.out.br4 HNE2.out HBR10.out (.slice a2 f.length c2) (.int .i64 v) (.bool true) (.slice a9 (td.length + 1) c9); exact h, below_four (g := w.heap.size + 1 + 1) HBL10.out (by omega) _ _ _ _⟩
  refine AllReadyH.cons (o := _) rfl (fun K hK => ?_) AllReadyH.nil
  go_simp
  refine (copiedChange_any y ya yc _ (HY4.out.below HB0.out) hyl2).mono ?_
  rintro e w16 ⟨a16, c16, rfl, hn, hb⟩
  have HB6 := mkHid (HB0.out.then hb)
  have HN6 : Hid (Row (veil u6 w16) a16 c16 y.t) := hn.keeps (under_veil fun k hk => by have h1 := HU6.out k hk; have h2 := HZ4.out; have h3 := HB0.out.size; omega)
  clear hn hb
  try dsimp only
  refine hK.out _ _ (HS.out _ (Fr.of HB6.out)) (fun hS6 => ?_)
  clear hK K
  (try simp only [List.getElem_toArray, List.getElem_cons_succ, List.getElem_cons_zero, Act.put, List.setIfInBounds_toArray, List.set_cons_zero, List.set_cons_succ])
  refine wpAnyH_ready (rs := [1, 4]) (by kernel_rfl) (by simp) ?_
  refine AllReadyH.cons (o := _) rfl (fun K hK => ?_) ?_
  · skip
    have tl := keep HBX4.out.cells.2.2.2 HB6.out
    go_simp
    clear tl
    try dsimp only
    refine hK.out _ _ (HS.out _ (Fr.of HB6.out)) (fun hS7 => ?_)
    clear hK K
    (try simp only [List.getElem_toArray, List.getElem_cons_succ, List.getElem_cons_zero, Act.put, List.setIfInBounds_toArray, List.set_cons_zero, List.set_cons_succ])
    refine wpAnyH_ready (rs := [4]) (by kernel_rfl) (by simp) ?_
    refine AllReadyH.cons (o := _) rfl (fun K hK => ?_) AllReadyH.nil
    go_simp
    obtain ⟨w18, hw18⟩ : ∃ X, w16.alloc (.cells #[.bool y.neg, .slice a16 y.t.length c16] 32) = X := ⟨_, rfl⟩
    have hba : Below w16.heap.size w16 w18 := by rw [← hw18]; exact (Below.refl _ _).new _
    have HL8 : Hid (w18.heap[w16.heap.size]? = some (.cells #[.bool y.neg, .slice a16 y.t.length c16] 32 (0, 0))) := by rw [Hid, ← hw18]; exact heap_alloc_new _ _
    have HB8 := mkHid (HB6.out.then hba)
    have HN8 := mkHid (HN6.out.keeps (Fr.of hba).keeps)
    first | rw [hw18] | skip
    clear hw18 hba
    try dsimp only
    refine hK.out _ _ (HS.out _ (Fr.of HB8.out)) (fun hS8 => ?_)
    clear hK K
    (try simp only [List.getElem_toArray, List.getElem_cons_succ, List.getElem_cons_zero, Act.put, List.setIfInBounds_toArray, List.set_cons_zero, List.set_cons_succ])
    refine wpAnyH_ready (rs := [5]) (by kernel_rfl) (by simp) ?_
    refine AllReadyH.cons (o := _) rfl (fun K hK => ?_) AllReadyH.nil
    have hf : Fr u6 y0 w18 := Fr.of HB8.out
    have hv : VOwn (veil u6 w18) W.heap.size 32 td (.slice a3 td.length c3) w18 := (HOT4.out.view hf.keeps).below HB8.out
    have hsz : W.heap.size ≤ w18.heap.size := by have h1 := HWZ.out; have h2 := HB8.out.size; have h3 := HZ4.out; have h4 := HZ3.out; have h5 := HS2.out; omega
    obtain ⟨v9, w9, hrun, hv9, hb9, hg9⟩ := appLit Try.underlying23 Try.infoChg (by decide) (by decide) hv (lt_cR HN8.out) HL8.out (by omega) hsz
    have hf9 : Fr u6 w18 w9 := ⟨hg9.os, hg9.tape, hg9.output, hg9.size, fun k hk hn => hg9.block k hk fun e => hn (HOB.out k e.symm)⟩
    obtain ⟨a9, c9, rfl, hle9, hmx9, _⟩ := hv9.slice
    rw [List.length_append, List.length_singleton] at hrun
    have HV9 := mkHid (hv9.view hf9.keeps)
    have HF9 := mkHid (hf.trans hf9)
    have HX9 : Hid (w9.heap[w2.heap.size]? = some (.cells #[.slice a2 f.length c2, .int .i64 v, .bool true, .slice a3 td.length c3] 25 (0, 0))) := by
      have h0 := (HB8.out.block w2.heap.size (by have h1 := HZ3.out; have h2 := HZ4.out; omega)).trans HBX4.out.1
      exact (hg9.block w2.heap.size (by have h1 := HZ3.out; have h2 := HZ4.out; have h3 := HB8.out.size; omega) fun e => hv.ne h0 (by decide) _ e.symm rfl).trans h0
    clear hf hv hsz hv9 hb9 hg9 hf9 hle9 hmx9
    (rw [if_pos (by rfl)]; simp [Oper.wp, execOp, resolve, invoke, builtin, Oper.upon, Act.eval, hrun, Result.andThen, Sem.run_bind])
    clear hrun
    try dsimp only
    refine hK.out _ _ (HS.out _ HF9.out) (fun hS9 => ?_)
    clear hK K
    (try simp only [List.getElem_toArray, List.getElem_cons_succ, List.getElem_cons_zero, Act.put, List.setIfInBounds_toArray, List.set_cons_zero, List.set_cons_succ])
    refine wpAnyH_take (i := 6) (oi := _) (v := ?_) rfl (by kernel_rfl) (by kernel_rfl) (by kernel_rfl) (fun _ _ _ h => h) (Or.inl ⟨by rfl, ?_⟩) (by assumption) ?_
    rotate_left
    · (intro w' hSw; obtain ⟨z0, z1⟩ := hSw; go_simp; try with_reducible rfl)
    (try simp only [List.getElem_toArray, List.getElem_cons_succ, List.getElem_cons_zero, Act.put, List.setIfInBounds_toArray, List.set_cons_zero, List.set_cons_succ])
    refine wpAnyH_ready (rs := [7]) (by kernel_rfl) (by simp) ?_
    refine AllReadyH.cons (o := _) rfl (fun K hK => ?_) AllReadyH.nil
    obtain ⟨t0, t1, t2, t3⟩ := st_cells HX9.out
    obtain ⟨s0, s1, s2, s3⟩ := st_free HX9.out
    go_simp
    obtain ⟨w10, hw10⟩ : ∃ X, w9.setCell ⟨w2.heap.size, 3, none⟩ (.slice a9 (td.length + 1) c9) = X := ⟨_, rfl⟩
    have HF10 : Hid (Fr u6 y0 w10) := by rw [Hid, ← hw10]; exact HF9.out.set HM6.out.1 _
    have HX10 : Hid (w10.heap[w2.heap.size]? = some (.cells #[.slice a2 f.length c2, .int .i64 v, .bool true, .slice a9 (td.length + 1) c9] 25 (0, 0))) := by rw [Hid, ← hw10]; exact st3_set HX9.out _
    have HV10 : Hid (VOwn (veil u6 w10) W.heap.size 32 (td ++ [y]) (.slice a9 (td ++ [y]).length c9) w10) := by
      have h1 := HV9.out.ne HX9.out (by decide)
      rw [Hid, ← hw10]
      exact (HV9.out.view ((Fr.refl u6 w9).set HM6.out.1 _).keeps).far fun b e => Below.heap_setCell w9 _ _ b (h1 b e)
    first | rw [hw10] | skip
    clear hw10 t0 t1 t2 t3 s0 s1 s2 s3
    try dsimp only
    refine hK.out _ _ (HS.out _ HF10.out) (fun hS10 => ?_)
    clear hK K
    (try simp only [List.getElem_toArray, List.getElem_cons_succ, List.getElem_cons_zero, Act.put, List.setIfInBounds_toArray, List.set_cons_zero, List.set_cons_succ])
    refine wpAnyH_done (by kernel_rfl) (NoPanic.normal ?_) _
    have HR10 : Hid (BX w10 (w.heap.size + 2) none 0 [] 0 false none 0 []) := ⟨(HF10.out.block _ HR4.out.lt (fun hm => by have h1 := HU6.out _ hm; omega)).trans HR4.out.1, noB_row _⟩
    have HBR10 : Hid (BR w10 a2 c2 f a9 c9 (td ++ [y])) := by
      refine ⟨(HOF4.out.keeps HF10.out.keeps).keeps (veil_keeps _ _), ?_⟩
      obtain ⟨a8, c8, e8, hr8⟩ := HV10.out.row (us := []) (by simp) (veil_mono _ (by simp))
      injection e8 with e8 _ e9
      subst e8; subst e9
      exact hr8.keeps (veil_keeps _ _)
    have HBL10 : Hid (Below w.heap.size w w10) := HBL4.out.trans (HF10.out.below HBL4.out.size fun k hk => by have h1 := HU6.out k hk; omega)
    have HNE2 : Hid (NEf f ∧ NEt (td ++ [y])) := ⟨HNE.out.1, fun x hx => by
      rcases List.mem_append.1 hx with h | h
      · exact HNE.out.2 x h
      · rw [List.mem_singleton] at h; rw [h]; exact HYN.out⟩
    obtain ⟨q0, q1, q2, q3⟩ := st_cells HX10.out
    obtain ⟨l0, l1, l2, l3⟩ := HR10.out.cells
    obtain ⟨k0, k1, k2, k3⟩ := HR10.out.free
    clear HS hSd
    go_wp2_with fail
    refine bodyPost_ret (v := .tuple #[.agg #[.slice a2 f.length c2, .int .i64 v, .bool true, .slice a9 (td.length + 1) c9], .int .i64 0]) (by simp [results, Try.results20, go_sem, *]) rfl ⟨a2, c2, a9, c9, rfl, by have h := HR10.out.br4 HNE2.out HBR10.out (.slice a2 f.length c2) (.int .i64 v) (.bool true) (.slice a9 (td.length + 1) c9); exact h, below_four (g := w.heap.size + 1 + 1) HBL10.out (by omega) _ _ _ _⟩
  refine AllReadyH.cons (o := _) rfl (fun K hK => ?_) AllReadyH.nil
  go_simp
  obtain ⟨w21, hw21⟩ : ∃ X, w16.alloc (.cells #[.bool y.neg, .slice a16 y.t.length c16] 32) = X := ⟨_, rfl⟩
  have hba : Below w16.heap.size w16 w21 := by rw [← hw21]; exact (Below.refl _ _).new _
  have HL11 : Hid (w21.heap[w16.heap.size]? = some (.cells #[.bool y.neg, .slice a16 y.t.length c16] 32 (0, 0))) := by rw [Hid, ← hw21]; exact heap_alloc_new _ _
  have HB11 := mkHid (HB6.out.then hba)
  have HN11 := mkHid (HN6.out.keeps (Fr.of hba).keeps)
  first | rw [hw21] | skip
  clear hw21 hba
  try dsimp only
  refine hK.out _ _ (HS.out _ (Fr.of HB11.out)) (fun hS11 => ?_)
  clear hK K
  (try simp only [List.getElem_toArray, List.getElem_cons_succ, List.getElem_cons_zero, Act.put, List.setIfInBounds_toArray, List.set_cons_zero, List.set_cons_succ])
  refine wpAnyH_ready (rs := [1]) (by kernel_rfl) (by simp) ?_
  refine AllReadyH.cons (o := _) rfl (fun K hK => ?_) AllReadyH.nil
  have tl := keep HBX4.out.cells.2.2.2 HB11.out
  go_simp
  clear tl
  try dsimp only
  refine hK.out _ _ (HS.out _ (Fr.of HB11.out)) (fun hS12 => ?_)
  clear hK K
  (try simp only [List.getElem_toArray, List.getElem_cons_succ, List.getElem_cons_zero, Act.put, List.setIfInBounds_toArray, List.set_cons_zero, List.set_cons_succ])
  refine wpAnyH_ready (rs := [5]) (by kernel_rfl) (by simp) ?_
  refine AllReadyH.cons (o := _) rfl (fun K hK => ?_) AllReadyH.nil
  have hf : Fr u6 y0 w21 := Fr.of HB11.out
  have hv : VOwn (veil u6 w21) W.heap.size 32 td (.slice a3 td.length c3) w21 := (HOT4.out.view hf.keeps).below HB11.out
  have hsz : W.heap.size ≤ w21.heap.size := by have h1 := HWZ.out; have h2 := HB11.out.size; have h3 := HZ4.out; have h4 := HZ3.out; have h5 := HS2.out; omega
  obtain ⟨v9, w9, hrun, hv9, hb9, hg9⟩ := appLit Try.underlying23 Try.infoChg (by decide) (by decide) hv (lt_cR HN11.out) HL11.out (by omega) hsz
  have hf9 : Fr u6 w21 w9 := ⟨hg9.os, hg9.tape, hg9.output, hg9.size, fun k hk hn => hg9.block k hk fun e => hn (HOB.out k e.symm)⟩
  obtain ⟨a9, c9, rfl, hle9, hmx9, _⟩ := hv9.slice
  rw [List.length_append, List.length_singleton] at hrun
  have HV9 := mkHid (hv9.view hf9.keeps)
  have HF9 := mkHid (hf.trans hf9)
  have HX9 : Hid (w9.heap[w2.heap.size]? = some (.cells #[.slice a2 f.length c2, .int .i64 v, .bool true, .slice a3 td.length c3] 25 (0, 0))) := by
    have h0 := (HB11.out.block w2.heap.size (by have h1 := HZ3.out; have h2 := HZ4.out; omega)).trans HBX4.out.1
    exact (hg9.block w2.heap.size (by have h1 := HZ3.out; have h2 := HZ4.out; have h3 := HB11.out.size; omega) fun e => hv.ne h0 (by decide) _ e.symm rfl).trans h0
  clear hf hv hsz hv9 hb9 hg9 hf9 hle9 hmx9
  (rw [if_pos (by rfl)]; simp [Oper.wp, execOp, resolve, invoke, builtin, Oper.upon, Act.eval, hrun, Result.andThen, Sem.run_bind])
  clear hrun
  try dsimp only
  refine hK.out _ _ (HS.out _ HF9.out) (fun hS13 => ?_)
  clear hK K
  (try simp only [List.getElem_toArray, List.getElem_cons_succ, List.getElem_cons_zero, Act.put, List.setIfInBounds_toArray, List.set_cons_zero, List.set_cons_succ])
  refine wpAnyH_take (i := 6) (oi := _) (v := ?_) rfl (by kernel_rfl) (by kernel_rfl) (by kernel_rfl) (fun _ _ _ h => h) (Or.inl ⟨by rfl, ?_⟩) (by assumption) ?_
  rotate_left
  · (intro w' hSw; obtain ⟨z0, z1⟩ := hSw; go_simp; try with_reducible rfl)
  (try simp only [List.getElem_toArray, List.getElem_cons_succ, List.getElem_cons_zero, Act.put, List.setIfInBounds_toArray, List.set_cons_zero, List.set_cons_succ])
  refine wpAnyH_ready (rs := [7]) (by kernel_rfl) (by simp) ?_
  refine AllReadyH.cons (o := _) rfl (fun K hK => ?_) AllReadyH.nil
  obtain ⟨t0, t1, t2, t3⟩ := st_cells HX9.out
  obtain ⟨s0, s1, s2, s3⟩ := st_free HX9.out
  go_simp
  obtain ⟨w10, hw10⟩ : ∃ X, w9.setCell ⟨w2.heap.size, 3, none⟩ (.slice a9 (td.length + 1) c9) = X := ⟨_, rfl⟩
  have HF10 : Hid (Fr u6 y0 w10) := by rw [Hid, ← hw10]; exact HF9.out.set HM6.out.1 _
  have HX10 : Hid (w10.heap[w2.heap.size]? = some (.cells #[.slice a2 f.length c2, .int .i64 v, .bool true, .slice a9 (td.length + 1) c9] 25 (0, 0))) := by rw [Hid, ← hw10]; exact st3_set HX9.out _
  have HV10 : Hid (VOwn (veil u6 w10) W.heap.size 32 (td ++ [y]) (.slice a9 (td ++ [y]).length c9) w10) := by
    have h1 := HV9.out.ne HX9.out (by decide)
    rw [Hid, ← hw10]
    exact (HV9.out.view ((Fr.refl u6 w9).set HM6.out.1 _).keeps).far fun b e => Below.heap_setCell w9 _ _ b (h1 b e)
  first | rw [hw10] | skip
  clear hw10 t0 t1 t2 t3 s0 s1 s2 s3
  try dsimp only
  refine hK.out _ _ (HS.out _ HF10.out) (fun hS14 => ?_)
  clear hK K
  (try simp only [List.getElem_toArray, List.getElem_cons_succ, List.getElem_cons_zero, Act.put, List.setIfInBounds_toArray, List.set_cons_zero, List.set_cons_succ])
  refine wpAnyH_done (by kernel_rfl) (NoPanic.normal ?_) _
  have HR10 : Hid (BX w10 (w.heap.size + 2) none 0 [] 0 false none 0 []) := ⟨(HF10.out.block _ HR4.out.lt (fun hm => by have h1 := HU6.out _ hm; omega)).trans HR4.out.1, noB_row _⟩
  have HBR10 : Hid (BR w10 a2 c2 f a9 c9 (td ++ [y])) := by
    refine ⟨(HOF4.out.keeps HF10.out.keeps).keeps (veil_keeps _ _), ?_⟩
    obtain ⟨a8, c8, e8, hr8⟩ := HV10.out.row (us := []) (by simp) (veil_mono _ (by simp))
    injection e8 with e8 _ e9
    subst e8; subst e9
    exact hr8.keeps (veil_keeps _ _)
  have HBL10 : Hid (Below w.heap.size w w10) := HBL4.out.trans (HF10.out.below HBL4.out.size fun k hk => by have h1 := HU6.out k hk; omega)
  have HNE2 : Hid (NEf f ∧ NEt (td ++ [y])) := ⟨HNE.out.1, fun x hx => by
    rcases List.mem_append.1 hx with h | h
    · exact HNE.out.2 x h
    · rw [List.mem_singleton] at h; rw [h]; exact HYN.out⟩
  obtain ⟨q0, q1, q2, q3⟩ := st_cells HX10.out
  obtain ⟨l0, l1, l2, l3⟩ := HR10.out.cells
  obtain ⟨k0, k1, k2, k3⟩ := HR10.out.free
  clear HS hSd
  go_wp2_with fail
  refine bodyPost_ret (v := .tuple #[.agg #[.slice a2 f.length c2, .int .i64 v, .bool true, .slice a9 (td.length + 1) c9], .int .i64 0]) (by simp [results, Try.results20, go_sem, *]) rfl ⟨a2, c2, a9, c9, rfl, by have h := HR10.out.br4 HNE2.out HBR10.out (.slice a2 f.length c2) (.int .i64 v) (.bool true) (.slice a9 (td.length + 1) c9); exact h, below_four (g := w.heap.size + 1 + 1) HBL10.out (by omega) _ _ _ _⟩
end Go.Proofs.Ytnpffificfghpaa
set_option linter.unusedVariables false
namespace Go.Proofs.Ytnpffificfghpaa
open Go.RowKit

/-! ### changed -/
theorem doing_add (y : Lt) (hn : y.neg = true) (ya : Option Addr) (yc : Nat) (w : World) :
    Calls Try.prog 150 #[.agg #[.bool true, .slice ya y.t.length yc]] w fun e w' => e = .returned (.func (.func 202) #[] #[]) ∧ Below w.heap.size w w' := by
  have hb0 := (Below.refl w.heap.size w).new (.cells #[.bool true, .slice ya y.t.length yc] 32)
  go_enter Try.func150, Try.ntmps150
  go_wp2
  go_ret
  exact ⟨rfl, hb0⟩
theorem doing_drop (y : Lt) (hn : y.neg = false) (ya : Option Addr) (yc : Nat) (w : World) :
    Calls Try.prog 150 #[.agg #[.bool false, .slice ya y.t.length yc]] w fun e w' => e = .returned (.func (.func 203) #[] #[]) ∧ Below w.heap.size w w' := by
  have hb0 := (Below.refl w.heap.size w).new (.cells #[.bool false, .slice ya y.t.length yc] 32)
  go_enter Try.func150, Try.ntmps150
  go_wp2
  go_ret
  exact ⟨rfl, hb0⟩
theorem commit1_any (x y : Bool) (w : World) : Calls Try.prog 76 #[.agg #[.bool x, .bool y]] w fun e w' => e = .returned (.bool (x && !y)) ∧ Below w.heap.size w w' := by
  have hb0 := (Below.refl w.heap.size w).new (.cells #[.bool x, .bool y] 103)
  cases x <;> cases y <;>
  · go_enter Try.func76, Try.ntmps76
    go_wp2
    go_ret
    exact ⟨rfl, hb0⟩
theorem now1_any (x y : Bool) (w : World) : Calls Try.prog 80 #[.agg #[.bool x, .bool y]] w fun e w' => e = .returned (.bool false) ∧ Below w.heap.size w w' := by
  have hb0 := (Below.refl w.heap.size w).new (.cells #[.bool x, .bool y] 103)
  go_enter Try.func80, Try.ntmps80
  go_wp2
  go_ret
  exact ⟨rfl, hb0⟩
end Go.Proofs.Ytnpffificfghpaa
set_option linter.unusedVariables false
namespace Go.Proofs.Ytnpffificfghpaa
open Go.RowKit

/-! ### changed, whole -/
set_option maxHeartbeats 3200000 in
set_option maxRecDepth 100000 in
theorem changed_any (g : Nat) (cb : Array Value) (p : Bool → Bool → Bool) (w : World) (a : Option Addr) (c : Nat) (f : List (List Cel)) (v : Int) (on : Bool) (a' : Option Addr) (c' : Nat) (td : List Lt) (h : BR w a c f a' c' td) (ok : OkB f td)
    (eg : ∀ args w, (callFunc g args).run Try.prog w = .ok (.enter g args) w) (hf : ∀ (W : World) (x y : Bool), Calls Try.prog g (#[.agg #[.bool x, .bool y]] ++ cb) W fun e W' => e = .returned (.bool (p x y)) ∧ Below W.heap.size W W')
    (B : Bool) (hB : Hid (bigP p f td = B)) (LL : List (List Cel)) (hL : Hid ((if B then [] else nowF f td) = LL)) :
    Calls Try.prog 75 #[.agg #[.slice a f.length c, .int .i64 v, .bool on, .slice a' td.length c'], .func (.func g) #[] cb] w fun e w' =>
      ∃ a2 c2, e = .returned (.tuple #[.slice a2 LL.length c2, .bool (!B)]) ∧ Row w' a2 c2 LL ∧ Below w.heap.size w w' := by
  obtain ⟨W, hW⟩ : ∃ W, w.alloc (.cells #[.slice a f.length c, .int .i64 v, .bool on, .slice a' td.length c'] 25) = W := ⟨_, rfl⟩
  have hb0 : Below w.heap.size w W := by rw [← hW]; exact (Below.refl _ _).new _
  have HX : Hid (BX W w.heap.size a c f v on a' c' td) := by rw [Hid, ← hW]; exact BX.made h
  have HT := mkHid (h.t.below hb0)
  have htm := h.t.max
  have htl := h.t.le
  have HFA := mkHid ok.fa
  have HFR := mkHid ok.fr
  have HF := mkHid hf
  have HB0 := mkHid hb0
  have hk0 : Keeps W (veil [] W) := fun _ _ _ h => veil_of (by simp) h
  have HC := mkHid (copiedRow_any [] a c W f (by simp) ((h.f.below hb0).keeps hk0) (Nat.le_trans ok.fr.len (by decide)) ok.fr.small)
  obtain ⟨e0, e1, e2, e3⟩ := HX.out.cells
  clear h ok hf hb0 hk0
  go_enter Try.func75, Try.ntmps75
  go_wp2_with fail
  first | rw [hW] | skip
  clear hW
  refine HC.out.mono ?_
  rintro e w2 ⟨a2, c2, rfl, hr2, hb2⟩
  have HR2 := mkHid (hr2.keeps (veil_keeps _ _))
  have s3 := (HX.out.below hb2).cells.2.2.2
  have HT2 := mkHid (HT.out.below hb2)
  have HB2 := mkHid (HB0.out.then hb2)
  have HI0 : Hid (nowF f (td.take 0) = f) := rfl
  have HP0 : Hid (bigP p f (td.take 0) = false) := rfl
  clear hr2 hb2 e0 e1 e2 e3 HT HX HC HB0
  go_wp2_with fail
  go_loopw [6, 17] (fun l i wr => ∃ (k : Nat) (L : List (List Cel)) (al : Option Addr) (cl : Nat), k ≤ td.length ∧ i = .int .i64 k ∧ l = .slice al L.length cl ∧ Hid (Row wr al cl L) ∧ Hid (Below w2.heap.size w2 wr) ∧ Hid (FR L) ∧ Hid (nowF f (td.take k) = L) ∧ Hid (bigP p f (td.take k) = false)) (fun l i wr => td.length - (intOf i).toNat)
  case atStart => exact ⟨0, f, a2, c2, Nat.zero_le _, rfl, rfl, HR2, Below.refl _ _, HFR, HI0, HP0⟩
  case round =>
    clear HR2 HI0 HP0 HFR s3
    obtain ⟨k, L, al, cl, hk, rfl, rfl, HRL, HBL, HFL, HNL, HPL⟩ := hrel
    by_cases hlt : k < td.length
    · have hlm := HRL.out.max
      have hll := HRL.out.le
      obtain ⟨tb, to, rfl, htb, hat⟩ := HT2.out.cases.resolve_left (fun e => by simp [e] at hlt)
      obtain ⟨ya, yc, d0, d1, hry⟩ := lt_at hat HBL.out hlt
      obtain ⟨y, hy⟩ : ∃ y, td[k] = y := ⟨_, rfl⟩
      rw [hy] at d0 d1 hry
      have HFY : Hid (factB y.t = true) := by rw [Hid, ← hy]; exact HFA.out _ (List.getElem_mem hlt)
      have hym := hry.max
      have hyl := hry.le
      obtain ⟨E, hE⟩ : ∃ E, doE L y = E := ⟨_, rfl⟩
      obtain ⟨D, hD⟩ : ∃ D, doF L y = D := ⟨_, rfl⟩
      have HN1 : Hid (nowF f (td.take (k + 1)) = stepF L y) := by rw [Hid, now_take hlt, HNL.out, hy]
      have HP1 : Hid (bigP p f (td.take (k + 1)) = p y.neg (decide (E = 0))) := by rw [Hid, bigP_take hlt, HPL.out, HNL.out, hy, hE, Bool.false_or]
      have HBT : Hid (p y.neg (decide (E = 0)) = true → B = true) := fun hp => hB.out.symm.trans (bigP_at hlt (by rw [HNL.out, hy, hE]; exact hp))
      have HFD : Hid (FR (stepF L y)) := HFL.out.step y
      have HSY : Hid (E = 0 → stepF L y = D) := fun h => by rw [step_yes (by rw [hE]; exact h), hD]
      have HSN : Hid (¬ E = 0 → stepF L y = L) := fun h => step_no (by rw [hE]; exact h)
      obtain ⟨w3, hw3⟩ : ∃ w3, wr.alloc (.cells #[.bool y.neg, .slice ya y.t.length yc] 32) = w3 := ⟨_, rfl⟩
      have hb3 : Below wr.heap.size wr w3 := by rw [← hw3]; exact (Below.refl _ _).new _
      have HK3 : Hid (w3.heap[wr.heap.size]? = some (.cells #[.bool y.neg, .slice ya y.t.length yc] 32 (0, 0))) := by rw [Hid, ← hw3]; exact heap_alloc_new _ _
      have HL3 := mkHid (HRL.out.below hb3)
      have HY3 := mkHid (hry.below hb3)
      have HB3 := mkHid (HBL.out.then hb3)
      obtain ⟨n, hn⟩ : ∃ n, y.neg = n := ⟨_, rfl⟩
      have HDE : Hid (doE L y = E) := hE
      have HDF : Hid (doF L y = D) := hD
      clear hy hE hD hry hb3 hat HRL HBL HNL HPL
      rw [hn] at d0 hw3 HK3 HP1 HBT
      cases n with
      | false =>
        have HE : Hid (dropE L y.t = E) := by have h := HDE.out; unfold doE at h; rw [hn] at h; exact h
        have HD : Hid (dropF L y.t = D) := by have h := HDF.out; unfold doF at h; rw [hn] at h; exact h
        have HS0 : Hid (∀ X, Below w3.heap.size w3 X → X.cell? ⟨wr.heap.size, 0, none⟩ = some (.bool false) ∧ X.cell? ⟨wr.heap.size, 1, none⟩ = some (.slice ya y.t.length yc)) := fun X h => by
          obtain ⟨u0, u1⟩ := b2_cells HK3.out
          exact ⟨keep u0 h, keep u1 h⟩
        have HDR : Hid (Below w3.heap.size w3 w3.drew) := (Below.refl _ _).drew
        have HNY := mkHid hn
        clear hn
        go_wp2_with fail
        first | rw [hw3] | skip
        clear hw3
        go_region_held3 (fun X => X.cell? ⟨wr.heap.size, 0, none⟩ = some (.bool false) ∧ X.cell? ⟨wr.heap.size, 1, none⟩ = some (.slice ya y.t.length yc))
          (first
            | exact HS0.out _ HDR.out
            | exact HS0.out _ (HDR.out.then hb4)
            | exact HS0.out _ ((HDR.out.then hb4).then hb5))
          (first
            | (go_at_call 150; refine (doing_drop y HNY.out ya yc _).mono ?_; rintro e w4 ⟨rfl, hb4⟩; have hL4 := (HL3.out.below HDR.out).below hb4; have hY4 := (HY3.out.below HDR.out).below hb4)
            | (go_at_call 203; refine (dropK hL4 hY4 HFL HD HE).mono ?_; rintro e w5 ⟨a5, c5, rfl, hr5, hb5⟩))
        have HR5 := mkHid hr5
        have hb35 := (HDR.out.then hb4).then hb5
        obtain ⟨z0, z1⟩ := HS0.out w5 hb35
        have HL5 := mkHid (HL3.out.below hb35)
        have HB5 := mkHid (HB3.out.then hb35)
        clear hL4 hY4 hr5 hb4 hb5 hb35 HS0 HDR HL3 HY3 HB3 HK3 d0 d1 HD HE HDE HDF
        obtain ⟨q, hq⟩ : ∃ q, p false (decide (E = 0)) = q := ⟨_, rfl⟩
        rw [hq] at HP1 HBT
        by_cases h0 : E = 0
        · have t0 : (E == 0) = true := by simp [h0]
          have HQ : Hid (p false true = q) := by rw [Hid, ← hq, decide_eq_true h0]
          have HS1 : Hid (stepF L y = D) := HSY.out h0
          clear h0 hq HSY HSN
          go_wp2_with fail
          refine (HF.out w5 false true).mono ?_
          rintro e w6 ⟨rfl, hb6⟩
          rw [HQ.out]
          cases q with
          | true =>
            have HBB : Hid (B = true) := HBT.out rfl
            have HLL : Hid (LL = []) := by rw [Hid, ← hL.out, HBB.out]; rfl
            go_wp2_with fail
            go_ret2
            rw [HBB.out, HLL.out]
            exact ⟨none, 0, rfl, nilRow _, HB2.out.then (HB5.out.then hb6)⟩
          | false =>
            have HND : Hid (nowF f (td.take (k + 1)) = D) := HN1.out.trans HS1.out
            have HFDD : Hid (FR D) := by rw [Hid, ← HS1.out]; exact HFD.out
            have HR6 := mkHid (HR5.out.below hb6)
            have HB6 := mkHid (HB5.out.then hb6)
            clear hb6 HS1 HFD HN1 HR5 HL5 HB5 HBT
            go_wp2_with fail
            go_round
            case rel => exact ⟨k + 1, D, a5, c5, by omega, by go_num, rfl, HR6, HB6, HFDD, HND, HP1⟩
            case measure => simp [intOf]; omega
        · have t0 : (E == 0) = false := by simp [h0]
          have HQ : Hid (p false false = q) := by rw [Hid, ← hq, decide_eq_false h0]
          have HS1 : Hid (stepF L y = L) := HSN.out h0
          clear h0 hq HSY HSN
          go_wp2_with fail
          refine (HF.out w5 false false).mono ?_
          rintro e w6 ⟨rfl, hb6⟩
          rw [HQ.out]
          cases q with
          | true =>
            have HBB : Hid (B = true) := HBT.out rfl
            have HLL : Hid (LL = []) := by rw [Hid, ← hL.out, HBB.out]; rfl
            go_wp2_with fail
            go_ret2
            rw [HBB.out, HLL.out]
            exact ⟨none, 0, rfl, nilRow _, HB2.out.then (HB5.out.then hb6)⟩
          | false =>
            have HND : Hid (nowF f (td.take (k + 1)) = L) := HN1.out.trans HS1.out
            have HR6 := mkHid (HL5.out.below hb6)
            have HB6 := mkHid (HB5.out.then hb6)
            clear hb6 HS1 HFD HN1 HR5 HL5 HB5 HBT
            go_wp2_with fail
            go_round
            case rel => exact ⟨k + 1, L, al, cl, by omega, by go_num, rfl, HR6, HB6, HFL, HND, HP1⟩
            case measure => simp [intOf]; omega
      | true =>
        have HE : Hid (addE L y.t = E) := by have h := HDE.out; unfold doE at h; rw [hn] at h; exact h
        have HD : Hid (addF L y.t = D) := by have h := HDF.out; unfold doF at h; rw [hn] at h; exact h
        have HS0 : Hid (∀ X, Below w3.heap.size w3 X → X.cell? ⟨wr.heap.size, 0, none⟩ = some (.bool true) ∧ X.cell? ⟨wr.heap.size, 1, none⟩ = some (.slice ya y.t.length yc)) := fun X h => by
          obtain ⟨u0, u1⟩ := b2_cells HK3.out
          exact ⟨keep u0 h, keep u1 h⟩
        have HDR : Hid (Below w3.heap.size w3 w3.drew) := (Below.refl _ _).drew
        have HNY := mkHid hn
        clear hn
        go_wp2_with fail
        first | rw [hw3] | skip
        clear hw3
        go_region_held3 (fun X => X.cell? ⟨wr.heap.size, 0, none⟩ = some (.bool true) ∧ X.cell? ⟨wr.heap.size, 1, none⟩ = some (.slice ya y.t.length yc))
          (first
            | exact HS0.out _ HDR.out
            | exact HS0.out _ (HDR.out.then hb4)
            | exact HS0.out _ ((HDR.out.then hb4).then hb5))
          (first
            | (go_at_call 150; refine (doing_add y HNY.out ya yc _).mono ?_; rintro e w4 ⟨rfl, hb4⟩; have hL4 := (HL3.out.below HDR.out).below hb4; have hY4 := (HY3.out.below HDR.out).below hb4)
            | (go_at_call 202; refine (addK hL4 hY4 HFL HD HE).mono ?_; rintro e w5 ⟨a5, c5, rfl, hr5, hb5⟩))
        have HR5 := mkHid hr5
        have hb35 := (HDR.out.then hb4).then hb5
        obtain ⟨z0, z1⟩ := HS0.out w5 hb35
        have HL5 := mkHid (HL3.out.below hb35)
        have HB5 := mkHid (HB3.out.then hb35)
        clear hL4 hY4 hr5 hb4 hb5 hb35 HS0 HDR HL3 HY3 HB3 HK3 d0 d1 HD HE HDE HDF
        obtain ⟨q, hq⟩ : ∃ q, p true (decide (E = 0)) = q := ⟨_, rfl⟩
        rw [hq] at HP1 HBT
        by_cases h0 : E = 0
        · have t0 : (E == 0) = true := by simp [h0]
          have HQ : Hid (p true true = q) := by rw [Hid, ← hq, decide_eq_true h0]
          have HS1 : Hid (stepF L y = D) := HSY.out h0
          clear h0 hq HSY HSN
          go_wp2_with fail
          refine (HF.out w5 true true).mono ?_
          rintro e w6 ⟨rfl, hb6⟩
          rw [HQ.out]
          cases q with
          | true =>
            have HBB : Hid (B = true) := HBT.out rfl
            have HLL : Hid (LL = []) := by rw [Hid, ← hL.out, HBB.out]; rfl
            go_wp2_with fail
            go_ret2
            rw [HBB.out, HLL.out]
            exact ⟨none, 0, rfl, nilRow _, HB2.out.then (HB5.out.then hb6)⟩
          | false =>
            have HND : Hid (nowF f (td.take (k + 1)) = D) := HN1.out.trans HS1.out
            have HFDD : Hid (FR D) := by rw [Hid, ← HS1.out]; exact HFD.out
            have HR6 := mkHid (HR5.out.below hb6)
            have HB6 := mkHid (HB5.out.then hb6)
            clear hb6 HS1 HFD HN1 HR5 HL5 HB5 HBT
            go_wp2_with fail
            go_round
            case rel => exact ⟨k + 1, D, a5, c5, by omega, by go_num, rfl, HR6, HB6, HFDD, HND, HP1⟩
            case measure => simp [intOf]; omega
        · have t0 : (E == 0) = false := by simp [h0]
          have HQ : Hid (p true false = q) := by rw [Hid, ← hq, decide_eq_false h0]
          have HS1 : Hid (stepF L y = L) := HSN.out h0
          clear h0 hq HSY HSN
          go_wp2_with fail
          refine (HF.out w5 true false).mono ?_
          rintro e w6 ⟨rfl, hb6⟩
          rw [HQ.out]
          cases q with
          | true =>
            have HBB : Hid (B = true) := HBT.out rfl
            have HLL : Hid (LL = []) := by rw [Hid, ← hL.out, HBB.out]; rfl
            go_wp2_with fail
            go_ret2
            rw [HBB.out, HLL.out]
            exact ⟨none, 0, rfl, nilRow _, HB2.out.then (HB5.out.then hb6)⟩
          | false =>
            have HND : Hid (nowF f (td.take (k + 1)) = L) := HN1.out.trans HS1.out
            have HR6 := mkHid (HL5.out.below hb6)
            have HB6 := mkHid (HB5.out.then hb6)
            clear hb6 HS1 HFD HN1 HR5 HL5 HB5 HBT
            go_wp2_with fail
            go_round
            case rel => exact ⟨k + 1, L, al, cl, by omega, by go_num, rfl, HR6, HB6, HFL, HND, HP1⟩
            case measure => simp [intOf]; omega
    · have HBB : Hid (B = false) := by rw [Hid, ← hB.out]; have h := HPL.out; rwa [List.take_of_length_le (by omega)] at h
      have HLL : Hid (LL = L) := by rw [Hid, ← hL.out, HBB.out, ← HNL.out, List.take_of_length_le (by omega)]; rfl
      clear HNL HPL
      go_wp2_with fail
      go_ret2
      rw [HBB.out, HLL.out]
      exact ⟨al, cl, rfl, HRL.out, HB2.out.then HBL.out⟩
end Go.Proofs.Ytnpffificfghpaa
set_option linter.unusedVariables false
namespace Go.Proofs.Ytnpffificfghpaa
open Go.RowKit

/-! ### Now, Commit -/
theorem lessF_fr {l m : List (List Cel)} (h : FR l) : FR (lessF l m) := h.less m
set_option maxHeartbeats 1600000 in
set_option maxRecDepth 100000 in
theorem now_any (w : World) (a : Option Addr) (c : Nat) (f : List (List Cel)) (v : Int) (on : Bool) (a' : Option Addr) (c' : Nat) (td : List Lt) (h : BR w a c f a' c' td) (ok : OkB f td) (m : List (List Cel)) (hm : Hid (nowF f td = m)) :
    Calls Try.prog 28 #[.agg #[.slice a f.length c, .int .i64 v, .bool on, .slice a' td.length c']] w fun e w' => ∃ a2 c2, e = .returned (.slice a2 m.length c2) ∧ Row w' a2 c2 m ∧ Below w.heap.size w w' := by
  obtain ⟨W, hW⟩ : ∃ W, w.alloc (.cells #[.slice a f.length c, .int .i64 v, .bool on, .slice a' td.length c'] 25) = W := ⟨_, rfl⟩
  have hb0 : Below w.heap.size w W := by rw [← hW]; exact (Below.refl _ _).new _
  have HX : Hid (BX W w.heap.size a c f v on a' c' td) := by rw [Hid, ← hW]; exact BX.made h
  have HC := mkHid (changed_any 80 #[] (fun _ _ => false) W a c f v on a' c' td (h.below hb0) ok (fun _ _ => by kernel_rfl) (fun W x y => now1_any x y W) false (bigP_no td f) m (by rw [Hid, if_neg (by simp)]; exact hm.out))
  obtain ⟨e0, e1, e2, e3⟩ := HX.out.cells
  clear h ok
  go_enter Try.func28, Try.ntmps28
  go_wp2_with fail
  first | rw [hW] | skip
  clear hW
  refine HC.out.mono ?_
  rintro e w2 ⟨a2, c2, rfl, hr2, hb2⟩
  go_wp2_with fail
  go_ret
  exact ⟨a2, c2, rfl, hr2, hb0.then hb2⟩

set_option maxHeartbeats 1600000 in
set_option maxRecDepth 100000 in
theorem commit_off (w : World) (a : Option Addr) (c : Nat) (f : List (List Cel)) (v : Int) (a' : Option Addr) (c' : Nat) (td : List Lt) (h : BR w a c f a' c' td) (ok : OkB f td) :
    Calls Try.prog 22 #[.agg #[.slice a f.length c, .int .i64 v, .bool false, .slice a' td.length c']] w fun e w' =>
      ∃ a2 c2 a3 c3, e = .returned (.tuple #[.agg #[.slice a2 f.length c2, .int .i64 v, .bool false, .slice a3 td.length c3], .slice none 0 0, .slice none 0 0, .int .i64 131]) ∧ BR w' a2 c2 f a3 c3 td ∧ Below w.heap.size w w' := by
  obtain ⟨W, hW⟩ : ∃ W, (w.alloc (.cells #[.slice a f.length c, .int .i64 v, .bool false, .slice a' td.length c'] 25)).alloc (.cells #[.slice none 0 0, .int .i64 0, .bool false, .slice none 0 0] 25) = W := ⟨_, rfl⟩
  have HE : Hid (Ent w W a c f v false a' c' td) := by rw [Hid, ← hW]; exact ent_made h
  have HNE := mkHid ok.ne
  have HC := mkHid (cop_any W a c f v false a' c' td (h.below HE.out.bel) ok)
  obtain ⟨e0, e1, e2, e3⟩ := HE.out.arg.cells
  have HR0 := mkHid HE.out.res
  have HB0 := mkHid HE.out.bel
  clear h ok
  go_enter Try.func22, Try.ntmps22
  go_wp2_with fail
  first | rw [hW] | skip
  clear hW
  refine HC.out.mono ?_
  rintro e w9 ⟨a2, c2, a3, c3, rfl, hbr, hown, hb9⟩
  have HR9 := mkHid (HR0.out.below hb9)
  have HBR9 := mkHid hbr
  have HBL9 := mkHid (HB0.out.then hb9)
  obtain ⟨l0, l1, l2, l3⟩ := HR9.out.cells
  obtain ⟨k0, k1, k2, k3⟩ := HR9.out.free
  clear hbr hown hb9 e0 e1 e2 e3
  go_wp2_with fail
  refine bodyPost_ret (v := .tuple #[.agg #[.slice a2 f.length c2, .int .i64 v, .bool false, .slice a3 td.length c3], .slice none 0 0, .slice none 0 0, .int .i64 131]) (by simp [results, Try.results22, go_sem, *]) rfl ⟨a2, c2, a3, c3, rfl, HR9.out.br4 HNE.out HBR9.out _ _ _ _, below_four HBL9.out (by simp) _ _ _ _⟩

set_option maxHeartbeats 1600000 in
set_option maxRecDepth 100000 in
theorem commit_big (w : World) (a : Option Addr) (c : Nat) (f : List (List Cel)) (v : Int) (a' : Option Addr) (c' : Nat) (td : List Lt) (h : BR w a c f a' c' td) (ok : OkB f td) (hbig : bigF f td = true) :
    Calls Try.prog 22 #[.agg #[.slice a f.length c, .int .i64 v, .bool true, .slice a' td.length c']] w fun e w' =>
      ∃ a2 c2 a3 c3, e = .returned (.tuple #[.agg #[.slice a2 f.length c2, .int .i64 v, .bool true, .slice a3 td.length c3], .slice none 0 0, .slice none 0 0, .int .i64 2]) ∧ BR w' a2 c2 f a3 c3 td ∧ Below w.heap.size w w' := by
  obtain ⟨W, hW⟩ : ∃ W, (w.alloc (.cells #[.slice a f.length c, .int .i64 v, .bool true, .slice a' td.length c'] 25)).alloc (.cells #[.slice none 0 0, .int .i64 0, .bool false, .slice none 0 0] 25) = W := ⟨_, rfl⟩
  have HE : Hid (Ent w W a c f v true a' c' td) := by rw [Hid, ← hW]; exact ent_made h
  have HNE := mkHid ok.ne
  have HC0 := mkHid (changed_any 76 #[] (fun x y => x && !y) W a c f v true a' c' td (h.below HE.out.bel) ok (fun _ _ => by kernel_rfl) (fun W x y => commit1_any x y W) true ((bigP_add td f).trans hbig) [] (by rw [Hid, if_pos rfl]))
  obtain ⟨e0, e1, e2, e3⟩ := HE.out.arg.cells
  have hC : ∀ X, Below W.heap.size W X → Calls Try.prog 73 #[.agg #[.slice a f.length c, .int .i64 v, .bool true, .slice a' td.length c']] X fun e w' => ∃ a2 c2 a3 c3, e = .returned (.agg #[.slice a2 f.length c2, .int .i64 v, .bool true, .slice a3 td.length c3]) ∧ BR w' a2 c2 f a3 c3 td ∧ True ∧ Below X.heap.size X w' := fun X hX => (cop_any X a c f v true a' c' td ((h.below HE.out.bel).below hX) ok).mono fun e w' ⟨a2, c2, a3, c3, h1, h2, _, h4⟩ => ⟨a2, c2, a3, c3, h1, h2, trivial, h4⟩
  have HCC := mkHid hC
  clear h ok hbig hC
  go_enter Try.func22, Try.ntmps22
  go_wp2_with fail
  first | rw [hW] | skip
  clear hW
  refine HC0.out.mono ?_
  rintro e w2 ⟨a5, c5, rfl, hr2, hb2⟩
  have HR2 := mkHid hr2
  have HA2 := mkHid (HE.out.arg.below hb2)
  have HR0 := mkHid (HE.out.res.below hb2)
  have HB0 := mkHid (HE.out.bel.then hb2)
  obtain ⟨e0, e1, e2, e3⟩ := HA2.out.cells
  have HC := mkHid (HCC.out w2 hb2)
  clear hr2 hb2 HC0 HCC
  go_wp2_with fail
  refine HC.out.mono ?_
  rintro e w9 ⟨a2, c2, a3, c3, rfl, hbr, hown, hb9⟩
  have HR9 := mkHid (HR0.out.below hb9)
  have HBR9 := mkHid hbr
  have HBL9 := mkHid (HB0.out.then hb9)
  obtain ⟨l0, l1, l2, l3⟩ := HR9.out.cells
  obtain ⟨k0, k1, k2, k3⟩ := HR9.out.free
  clear hbr hown hb9 e0 e1 e2 e3
  go_wp2_with fail
  refine bodyPost_ret (v := .tuple #[.agg #[.slice a2 f.length c2, .int .i64 v, .bool true, .slice a3 td.length c3], .slice none 0 0, .slice none 0 0, .int .i64 2]) (by simp [results, Try.results22, go_sem, *]) rfl ⟨a2, c2, a3, c3, rfl, HR9.out.br4 HNE.out HBR9.out _ _ _ _, below_four HBL9.out (by simp) _ _ _ _⟩

set_option maxHeartbeats 1600000 in
set_option maxRecDepth 100000 in
theorem commit_ok (w : World) (a : Option Addr) (c : Nat) (f : List (List Cel)) (v : Int) (a' : Option Addr) (c' : Nat) (td : List Lt) (h : BR w a c f a' c' td) (ok : OkB f td) (hbig : bigF f td = false) (hv1 : -4611686018427387904 ≤ v) (hv2 : v ≤ 4611686018427387904) (m x z : List (List Cel)) (hm : Hid (nowF f td = m)) (hx : Hid (lessF m f = x)) (hz : Hid (lessF f m = z)) :
    Calls Try.prog 22 #[.agg #[.slice a f.length c, .int .i64 v, .bool true, .slice a' td.length c']] w fun e w' =>
      ∃ a2 c2 a3 c3 a4 c4, e = .returned (.tuple #[.agg #[.slice a2 m.length c2, .int .i64 (v + 1), .bool false, .slice none 0 0], .slice a3 x.length c3, .slice a4 z.length c4, .int .i64 0]) ∧ Row w' a2 c2 m ∧ Row w' a3 c3 x ∧ Row w' a4 c4 z ∧ Below w.heap.size w w' := by
  obtain ⟨W, hW⟩ : ∃ W, (w.alloc (.cells #[.slice a f.length c, .int .i64 v, .bool true, .slice a' td.length c'] 25)).alloc (.cells #[.slice none 0 0, .int .i64 0, .bool false, .slice none 0 0] 25) = W := ⟨_, rfl⟩
  have HE : Hid (Ent w W a c f v true a' c' td) := by rw [Hid, ← hW]; exact ent_made h
  have HNE := mkHid ok.ne
  have HC0 := mkHid (changed_any 76 #[] (fun x y => x && !y) W a c f v true a' c' td (h.below HE.out.bel) ok (fun _ _ => by kernel_rfl) (fun W x y => commit1_any x y W) false ((bigP_add td f).trans hbig) m (by rw [Hid, if_neg (by simp)]; exact hm.out))
  obtain ⟨e0, e1, e2, e3⟩ := HE.out.arg.cells
  have HFR := mkHid ok.fr
  have HFM : Hid (FR m) := by rw [Hid, ← hm.out]; exact ok.fr.now
  have HNM := mkHid HFM.out.ne
  have HNX : Hid (NEf x) := by rw [Hid, ← hx.out]; exact (lessF_fr HFM.out).ne
  have HNZ : Hid (NEf z) := by rw [Hid, ← hz.out]; exact (lessF_fr ok.fr).ne
  clear h ok hbig
  go_enter Try.func22, Try.ntmps22
  go_wp2_with fail
  first | rw [hW] | skip
  clear hW
  refine HC0.out.mono ?_
  rintro e w2 ⟨a5, c5, rfl, hr2, hb2⟩
  have HR2 := mkHid hr2
  have HA2 := mkHid (HE.out.arg.below hb2)
  have HR0 := mkHid (HE.out.res.below hb2)
  have HB0 := mkHid (HE.out.bel.then hb2)
  obtain ⟨e0, e1, e2, e3⟩ := HA2.out.cells
  have HF2 := mkHid HA2.out.2.f
  clear hr2 hb2 HC0
  go_wp2_with fail
  refine (diffK HF2.out HR2.out HFR HFM hx hz).mono ?_
  rintro e w3 ⟨a3, c3, a4, c4, rfl, hr3, hr4, hb3⟩
  have HM3 := mkHid (HR2.out.below hb3)
  have HX3 := mkHid hr3
  have HZ3 := mkHid hr4
  have HR3 := mkHid (HR0.out.below hb3)
  have HB3 := mkHid (HB0.out.then hb3)
  obtain ⟨e0, e1, e2, e3⟩ := (HA2.out.below hb3).cells
  obtain ⟨l0, l1, l2, l3⟩ := HR3.out.cells
  obtain ⟨k0, k1, k2, k3⟩ := HR3.out.free
  clear hr3 hr4 hb3 HR2 HR0 HB0
  go_wp2_with fail
  refine bodyPost_ret (v := .tuple #[.agg #[.slice a5 m.length c5, .int .i64 (v + 1), .bool false, .slice none 0 0], .slice a3 x.length c3, .slice a4 z.length c4, .int .i64 0]) (by simp [results, Try.results22, go_sem, *]) rfl ⟨a5, c5, a3, c3, a4, c4, rfl, HR3.out.rows4 HNM.out HM3.out _ _ _ _, HR3.out.rows4 HNX.out HX3.out _ _ _ _, HR3.out.rows4 HNZ.out HZ3.out _ _ _ _, below_four HB3.out (by simp) _ _ _ _⟩
end Go.Proofs.Ytnpffificfghpaa
set_option linter.unusedVariables false
namespace Go.Proofs.Ytnpffificfghpaa
open Go.RowKit

/-! ### New, Right -/
theorem new13_any (w : World) : Calls Try.prog 30 #[] w fun e w' => e = .returned (.agg #[.slice none 0 0, .int .i64 0, .bool false, .slice none 0 0]) ∧ Below w.heap.size w w' := by
  have hb := (Below.refl w.heap.size w).new (.cells #[.slice none 0 0, .int .i64 0, .bool false, .slice none 0 0] 25)
  go_enter Try.func30, Try.ntmps30
  go_wp2
  refine bodyPost_ret (v := .agg #[.slice none 0 0, .int .i64 0, .bool false, .slice none 0 0]) (by simp [results, Try.results30, go_sem, *]) rfl ⟨rfl, ?_⟩
  first | exact hb | exact below_four hb (Nat.le_refl _) _ _ _ _
theorem refnew13_any (w : World) : Calls Try.prog 31 #[] w fun e w' => e = .returned (.agg #[.slice none 0 0, .int .i64 0, .bool false, .slice none 0 0]) ∧ Below w.heap.size w w' := by
  have hb := (Below.refl w.heap.size w).new (.cells #[.slice none 0 0, .int .i64 0, .bool false, .slice none 0 0] 25)
  go_enter Try.func31, Try.ntmps31
  go_wp2
  refine bodyPost_ret (v := .agg #[.slice none 0 0, .int .i64 0, .bool false, .slice none 0 0]) (by simp [results, Try.results31, go_sem, *]) rfl ⟨rfl, ?_⟩
  first | exact hb | exact below_four hb (Nat.le_refl _) _ _ _ _
theorem right1_any (y : Lt) (ya : Option Addr) (yc : Nat) (w : World) (hr : Row w ya yc y.t) (q : Bool) (hq : Hid (factB y.t = q)) :
    Calls Try.prog 66 #[.agg #[.bool y.neg, .slice ya y.t.length yc]] w fun e w' => e = .returned (.bool (!q)) ∧ Below w.heap.size w w' := by
  have hb0 := (Below.refl w.heap.size w).new (.cells #[.bool y.neg, .slice ya y.t.length yc] 32)
  have hr0 := hr.below hb0
  cases q <;>
  · go_enter Try.func66, Try.ntmps66
    go_wp2_with fail
    refine (fact_is hr0 hq).mono ?_; rintro e w1 ⟨rfl, hb1⟩
    go_wp2_with fail
    go_ret
    exact ⟨rfl, hb0.then hb1⟩
theorem tdB_bad {td : List Lt} {k : Nat} (hk : k < td.length) (h : factB td[k].t = false) : tdB td = false := by
  unfold tdB
  rw [List.all_eq_false]
  exact ⟨td[k], List.getElem_mem hk, by rw [h]; simp⟩
theorem tdB_end {td : List Lt} {k : Nat} (hk : ¬ k < td.length) (h : ∀ j (hj : j < td.length), j < k → factB td[j].t = true) : tdB td = true := by
  unfold tdB
  rw [List.all_eq_true]
  intro c hc
  obtain ⟨i, hi, rfl⟩ := List.getElem_of_mem hc
  exact h i hi (by omega)

set_option maxHeartbeats 1600000 in
theorem index13_any (a : Option Addr) (cap : Nat) (w : World) (td : List Lt) (hx : Row w a cap td) :
    Calls Try.prog 143 #[.slice a td.length cap, .func (.func 66) #[] #[]] w fun e w' => (∃ i : Int, e = .returned (.int .i64 i) ∧ -1 ≤ i ∧ decide (0 ≤ i) = !tdB td) ∧ Below w.heap.size w w' := by
  have hm := hx.max
  have hm2 := hx.le
  go_enter Try.func143, Try.ntmps143
  go_wp2
  go_loopw [5, 8] (fun _ i wr => ∃ k : Nat, k ≤ td.length ∧ i = .int .i64 k ∧ Below w.heap.size w wr ∧ Hid (∀ j (hj : j < td.length), j < k → factB td[j].t = true)) (fun _ i wr => td.length - (intOf i).toNat)
  case atStart => exact ⟨0, Nat.zero_le _, rfl, Below.refl _ _, fun j _ hj => absurd hj (Nat.not_lt_zero _)⟩
  case round =>
    obtain ⟨k, hk, rfl, hbl, HS⟩ := hrel
    by_cases hlt : k < td.length
    · obtain ⟨b, off, rfl, hb, hat⟩ := hx.cases.resolve_left (fun e => by simp [e] at hlt)
      obtain ⟨a1, c1, d0, d1, hr1⟩ := lt_at hat hbl hlt
      cases hf : factB td[k].t with
      | true =>
        have HF := mkHid hf
        have HT : Hid (∀ j (hj : j < td.length), j < k + 1 → factB td[j].t = true) := fun j hj h => by
          by_cases e : j < k
          · exact HS.out j hj e
          · obtain rfl : j = k := by omega
            exact HF.out
        clear HS hf
        go_wp2_with fail
        refine (right1_any td[k] a1 c1 _ hr1 true HF).mono ?_; rintro e w2 ⟨rfl, hb2⟩
        go_wp2_with fail
        go_round
        case rel => exact ⟨k + 1, by omega, by go_num, hbl.then hb2, HT⟩
        case measure => simp [intOf]; omega
      | false =>
        have HF := mkHid hf
        have HA : Hid (tdB td = false) := tdB_bad hlt hf
        clear HS hf
        go_wp2_with fail
        refine (right1_any td[k] a1 c1 _ hr1 false HF).mono ?_; rintro e w2 ⟨rfl, hb2⟩
        go_wp2_with fail
        go_ret
        exact ⟨⟨k, rfl, by omega, by rw [HA.out]; simp⟩, hbl.then hb2⟩
    · have HA : Hid (tdB td = true) := tdB_end hlt HS.out
      clear HS
      go_wp2
      go_ret
      exact ⟨⟨-1, rfl, by omega, by rw [HA.out]; simp⟩, hbl⟩
set_option maxHeartbeats 400000 in
theorem contains13_any (a : Option Addr) (cap : Nat) (w : World) (td : List Lt) (hx : Row w a cap td) (q : Bool) (hq : Hid (tdB td = q)) :
    Calls Try.prog 69 #[.slice a td.length cap, .func (.func 66) #[] #[]] w fun e w' => e = .returned (.bool (!q)) ∧ Below w.heap.size w w' := by
  have HI := mkHid (index13_any a cap w td hx)
  clear hx
  go_enter Try.func69, Try.ntmps69
  go_wp2_with fail
  refine HI.out.mono ?_; rintro e w2 ⟨⟨i, rfl, hi, hd⟩, hb⟩
  have HD := mkHid hd
  clear hd
  cases q with
  | true =>
    have h0 : ¬ 0 ≤ i := by have h := HD.out; rw [hq.out] at h; simpa using h
    go_wp2_with fail
    go_ret
    exact ⟨ret_bool (by first | (simp; done) | (simp; omega)), hb⟩
  | false =>
    have h0 : 0 ≤ i := by have h := HD.out; rw [hq.out] at h; simpa using h
    go_wp2_with fail
    go_ret
    exact ⟨ret_bool (by first | (simp; done) | (simp; omega)), hb⟩

theorem rightOf (f : List (List Cel)) (v : Int) (on : Bool) (td : List Lt) : (⟨f, v, on, td⟩ : Bs).right = (frightB f && (decide (0 ≤ v) && decide (v ≤ 1099511627776) && (on || decide (td.length = 0)) && tdB td)) := rfl

set_option maxHeartbeats 1600000 in
set_option maxRecDepth 100000 in
theorem right13_low (w : World) (a : Option Addr) (c : Nat) (f : List (List Cel)) (v : Int) (on : Bool) (a' : Option Addr) (c' : Nat) (td : List Lt) (h : BR w a c f a' c' td) (hv : v < 0) :
    Calls Try.prog 15 #[.agg #[.slice a f.length c, .int .i64 v, .bool on, .slice a' td.length c']] w fun e w' => e = .returned (.bool false) ∧ Below w.heap.size w w' := by
  obtain ⟨W, hW⟩ : ∃ W, w.alloc (.cells #[.slice a f.length c, .int .i64 v, .bool on, .slice a' td.length c'] 25) = W := ⟨_, rfl⟩
  have hb0 : Below w.heap.size w W := by rw [← hW]; exact (Below.refl _ _).new _
  have HX : Hid (BX W w.heap.size a c f v on a' c' td) := by rw [Hid, ← hW]; exact BX.made h
  have htm := h.t.max
  have htl := h.t.le
  obtain ⟨e0, e1, e2, e3⟩ := HX.out.cells
  clear h
  go_enter Try.func15, Try.ntmps15
  go_wp2_with fail
  go_ret
  exact ⟨rfl, hb0⟩

set_option maxHeartbeats 1600000 in
set_option maxRecDepth 100000 in
theorem right13_high (w : World) (a : Option Addr) (c : Nat) (f : List (List Cel)) (v : Int) (on : Bool) (a' : Option Addr) (c' : Nat) (td : List Lt) (h : BR w a c f a' c' td) (hv : 1099511627776 < v) :
    Calls Try.prog 15 #[.agg #[.slice a f.length c, .int .i64 v, .bool on, .slice a' td.length c']] w fun e w' => e = .returned (.bool false) ∧ Below w.heap.size w w' := by
  obtain ⟨W, hW⟩ : ∃ W, w.alloc (.cells #[.slice a f.length c, .int .i64 v, .bool on, .slice a' td.length c'] 25) = W := ⟨_, rfl⟩
  have hb0 : Below w.heap.size w W := by rw [← hW]; exact (Below.refl _ _).new _
  have HX : Hid (BX W w.heap.size a c f v on a' c' td) := by rw [Hid, ← hW]; exact BX.made h
  have htm := h.t.max
  have htl := h.t.le
  obtain ⟨e0, e1, e2, e3⟩ := HX.out.cells
  clear h
  have hv0 : ¬ v < 0 := by omega
  go_enter Try.func15, Try.ntmps15
  go_wp2_with fail
  go_ret
  exact ⟨rfl, hb0⟩

set_option maxHeartbeats 1600000 in
set_option maxRecDepth 100000 in
theorem right13_off (w : World) (a : Option Addr) (c : Nat) (f : List (List Cel)) (v : Int) (a' : Option Addr) (c' : Nat) (td : List Lt) (h : BR w a c f a' c' td) (hv0 : ¬ v < 0) (hv1 : ¬ 1099511627776 < v) (ht : 0 < td.length) :
    Calls Try.prog 15 #[.agg #[.slice a f.length c, .int .i64 v, .bool false, .slice a' td.length c']] w fun e w' => e = .returned (.bool false) ∧ Below w.heap.size w w' := by
  obtain ⟨W, hW⟩ : ∃ W, w.alloc (.cells #[.slice a f.length c, .int .i64 v, .bool false, .slice a' td.length c'] 25) = W := ⟨_, rfl⟩
  have hb0 : Below w.heap.size w W := by rw [← hW]; exact (Below.refl _ _).new _
  have HX : Hid (BX W w.heap.size a c f v false a' c' td) := by rw [Hid, ← hW]; exact BX.made h
  have htm := h.t.max
  have htl := h.t.le
  obtain ⟨e0, e1, e2, e3⟩ := HX.out.cells
  clear h
  go_enter Try.func15, Try.ntmps15
  go_wp2_with fail
  go_ret
  exact ⟨rfl, hb0⟩

set_option maxHeartbeats 1600000 in
set_option maxRecDepth 100000 in
theorem right13_got (w : World) (a : Option Addr) (c : Nat) (f : List (List Cel)) (v : Int) (a' : Option Addr) (c' : Nat) (td : List Lt) (h : BR w a c f a' c' td) (hv0 : ¬ v < 0) (hv1 : ¬ 1099511627776 < v) (q : Bool) (hq : Hid (frightB f = q)) (r : Bool) (hr : Hid (tdB td = r)) :
    Calls Try.prog 15 #[.agg #[.slice a f.length c, .int .i64 v, .bool true, .slice a' td.length c']] w fun e w' => e = .returned (.bool (q && r)) ∧ Below w.heap.size w w' := by
  obtain ⟨W, hW⟩ : ∃ W, w.alloc (.cells #[.slice a f.length c, .int .i64 v, .bool true, .slice a' td.length c'] 25) = W := ⟨_, rfl⟩
  have hb0 : Below w.heap.size w W := by rw [← hW]; exact (Below.refl _ _).new _
  have HX : Hid (BX W w.heap.size a c f v true a' c' td) := by rw [Hid, ← hW]; exact BX.made h
  have htm := h.t.max
  have htl := h.t.le
  obtain ⟨e0, e1, e2, e3⟩ := HX.out.cells
  clear h
  cases q with
  | false =>
    go_enter Try.func15, Try.ntmps15
    go_wp2_with fail
    first | rw [hW] | skip
    refine (rightK HX.out.2.f hq).mono ?_; rintro e w1 ⟨rfl, hb1⟩
    go_wp2_with fail
    go_ret
    exact ⟨rfl, hb0.then hb1⟩
  | true =>
    go_enter Try.func15, Try.ntmps15
    go_wp2_with fail
    first | rw [hW] | skip
    refine (rightK HX.out.2.f hq).mono ?_; rintro e w1 ⟨rfl, hb1⟩
    have HX1 := mkHid (HX.out.below hb1)
    obtain ⟨g0, g1, g2, g3⟩ := HX1.out.cells
    clear hW
    go_wp2_with fail
    refine (contains13_any a' c' w1 td HX1.out.2.t r hr).mono ?_; rintro e w2 ⟨rfl, hb2⟩
    go_wp2_with fail
    go_ret
    exact ⟨ret_bool (by cases r <;> rfl), (hb0.then hb1).then hb2⟩

set_option maxHeartbeats 1600000 in
set_option maxRecDepth 100000 in
theorem right13_gof (w : World) (a : Option Addr) (c : Nat) (f : List (List Cel)) (v : Int) (a' : Option Addr) (c' : Nat) (td : List Lt) (h : BR w a c f a' c' td) (hv0 : ¬ v < 0) (hv1 : ¬ 1099511627776 < v) (ht : ¬ 0 < td.length) (q : Bool) (hq : Hid (frightB f = q)) (r : Bool) (hr : Hid (tdB td = r)) :
    Calls Try.prog 15 #[.agg #[.slice a f.length c, .int .i64 v, .bool false, .slice a' td.length c']] w fun e w' => e = .returned (.bool (q && r)) ∧ Below w.heap.size w w' := by
  obtain ⟨W, hW⟩ : ∃ W, w.alloc (.cells #[.slice a f.length c, .int .i64 v, .bool false, .slice a' td.length c'] 25) = W := ⟨_, rfl⟩
  have hb0 : Below w.heap.size w W := by rw [← hW]; exact (Below.refl _ _).new _
  have HX : Hid (BX W w.heap.size a c f v false a' c' td) := by rw [Hid, ← hW]; exact BX.made h
  have htm := h.t.max
  have htl := h.t.le
  obtain ⟨e0, e1, e2, e3⟩ := HX.out.cells
  clear h
  cases q with
  | false =>
    go_enter Try.func15, Try.ntmps15
    go_wp2_with fail
    first | rw [hW] | skip
    refine (rightK HX.out.2.f hq).mono ?_; rintro e w1 ⟨rfl, hb1⟩
    go_wp2_with fail
    go_ret
    exact ⟨rfl, hb0.then hb1⟩
  | true =>
    go_enter Try.func15, Try.ntmps15
    go_wp2_with fail
    first | rw [hW] | skip
    refine (rightK HX.out.2.f hq).mono ?_; rintro e w1 ⟨rfl, hb1⟩
    have HX1 := mkHid (HX.out.below hb1)
    obtain ⟨g0, g1, g2, g3⟩ := HX1.out.cells
    clear hW
    go_wp2_with fail
    refine (contains13_any a' c' w1 td HX1.out.2.t r hr).mono ?_; rintro e w2 ⟨rfl, hb2⟩
    go_wp2_with fail
    go_ret
    exact ⟨ret_bool (by cases r <;> rfl), (hb0.then hb1).then hb2⟩
theorem right13_any (w : World) (a : Option Addr) (c : Nat) (f : List (List Cel)) (v : Int) (on : Bool) (a' : Option Addr) (c' : Nat) (td : List Lt) (h : BR w a c f a' c' td) :
    Calls Try.prog 15 #[.agg #[.slice a f.length c, .int .i64 v, .bool on, .slice a' td.length c']] w fun e w' => e = .returned (.bool (⟨f, v, on, td⟩ : Bs).right) ∧ Below w.heap.size w w' := by
  rw [rightOf]
  by_cases h0 : v < 0
  · rw [show decide (0 ≤ v) = false from decide_eq_false (by omega)]
    simpa using right13_low w a c f v on a' c' td h h0
  · by_cases h1 : 1099511627776 < v
    · rw [show decide (v ≤ 1099511627776) = false from decide_eq_false (by omega)]
      simpa using right13_high w a c f v on a' c' td h h1
    · rw [show decide (0 ≤ v) = true from decide_eq_true (by omega), show decide (v ≤ 1099511627776) = true from decide_eq_true (by omega)]
      cases on with
      | true => simpa using right13_got w a c f v a' c' td h h0 h1 _ rfl _ rfl
      | false =>
        by_cases h2 : 0 < td.length
        · rw [show decide (td.length = 0) = false from decide_eq_false (by omega)]
          simpa using right13_off w a c f v a' c' td h h0 h1 h2
        · rw [show decide (td.length = 0) = true from decide_eq_true (by omega)]
          simpa using right13_gof w a c f v a' c' td h h0 h1 h2 _ rfl _ rfl
end Go.Proofs.Ytnpffificfghpaa
