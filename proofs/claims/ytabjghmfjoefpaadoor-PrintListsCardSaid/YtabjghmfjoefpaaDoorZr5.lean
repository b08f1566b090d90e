import Derived.Test.YtabjghmfjoefpaaDoorZr4
set_option linter.unusedVariables false
namespace Go.Proofs.YtabjghmfjoefpaaDoor
open Go.RowKit

set_option maxRecDepth 100000 in
set_option maxHeartbeats 8000000 in
theorem rt_var {N : Nat} (HT : RefT N) (hN2 : N + 1 ≤ 200) (k : Int) (s : ByteArray) (n : Int) (ts : List Tm) (a : Option Addr) (cap : Nat) (w : World) (ht : (Tm.mk ⟨k, s, n⟩ ts).ok) (hN : (Tm.mk ⟨k, s, n⟩ ts).flat.length ≤ N + 1) (hlen : (textT (Tm.mk ⟨k, s, n⟩ ts)).length ≤ 1000000000) (hr : Row w a cap (Tm.mk ⟨k, s, n⟩ ts).flat) (hk : k = 1) (m : Nat) (hm : n = (m : Int)) (hm2 : m ≤ 999) :
    Calls Tryd.prog 17 #[.slice a (Tm.mk ⟨k, s, n⟩ ts).flat.length cap] w fun e w' => e = .returned (.string (tx (textT (Tm.mk ⟨k, s, n⟩ ts)))) ∧ Below w.heap.size w w' := by
  subst hk
  subst hm
  have h0 := flat_pos (Tm.mk ⟨1, s, (m : Int)⟩ ts)
  have hle := hr.le
  have hmx := hr.max
  have hRi := right_flat ht (by omega)
  have hpf : partsL (Tm.mk ⟨1, s, (m : Int)⟩ ts).flat = ts.map Tm.flat := parts_flat ht
  have hsm : ∀ u ∈ ts, u.flat.length ≤ N := fun u hu => by have := flat_arg_lt (t := Tm.mk ⟨1, s, (m : Int)⟩ ts) (u := u) hu; omega
  have hoks : oks ts := ((ok_iff _).1 ht).2.2
  have htl : ts.length = ar ⟨1, s, (m : Int)⟩ := ((ok_iff _).1 ht).2.1
  obtain ⟨bC, off, rfl, hbC, hat⟩ := hr.cases.resolve_left (fun e => by simp [e] at h0)
  obtain ⟨c0, c1, c2, hf⟩ := cel_at hat (Below.refl _ _) h0
  rw [flat_hd _ h0] at c0 c1 c2 hf
  simp only [Nat.zero_mul, Nat.add_zero] at c0 c1 c2
  replace c0 : w.cell? ⟨bC, off, none⟩ = some (.int .i64 1) := c0
  replace c1 : w.cell? ⟨bC, off + 1, none⟩ = some (.string s) := c1
  replace c2 : w.cell? ⟨bC, off + 2, none⟩ = some (.int .i64 (m : Int)) := c2
  have hb1 : Below w.heap.size w (w.alloc (.cells #[.int .i64 1, .string s, .int .i64 (m : Int)] 62)) := (Below.refl _ _).new _
  have f0 : (w.alloc (.cells #[.int .i64 1, .string s, .int .i64 (m : Int)] 62)).cell? ⟨w.heap.size, 0, none⟩ = some (.int .i64 1) := World.cell?_alloc_at _ _ _ 0 rfl
  have f1 : (w.alloc (.cells #[.int .i64 1, .string s, .int .i64 (m : Int)] 62)).cell? ⟨w.heap.size, 1, none⟩ = some (.string s) := World.cell?_alloc_at _ _ _ 1 rfl
  have f2 : (w.alloc (.cells #[.int .i64 1, .string s, .int .i64 (m : Int)] 62)).cell? ⟨w.heap.size, 2, none⟩ = some (.int .i64 (m : Int)) := World.cell?_alloc_at _ _ _ 2 rfl
  have y1 : decide ((0 : Int) < (((Tm.mk ⟨1, s, (m : Int)⟩ ts).flat.length : Nat) : Int)) = true := decide_eq_true (by omega)
  have y2 : decide (0 < (Tm.mk ⟨1, s, (m : Int)⟩ ts).flat.length) = true := decide_eq_true (by omega)
  have hr1 := hr.below hb1
  have htx : textT (Tm.mk ⟨1, s, (m : Int)⟩ ts) = varL m := by rw [text_var rfl]; rfl
  have HTX := mkHid htx
  clear htx
  have HR1 := mkHid hr1
  have HB1 := mkHid hb1
  have HRI := mkHid hRi
  have HPF := mkHid hpf
  have HSM := mkHid hsm
  have HOK := mkHid hoks
  have HT' := mkHid HT
  have HTO := mkHid ht
  have HTL := mkHid htl
  clear htl hr hr1 hb1 hRi hpf hsm hoks HT hat hbC ht
  go_enter Tryd.func17, Tryd.ntmps17
  go_wp2_with fail
  refine (rVarName_any m _ (by omega)).mono ?_
  rintro e w2 ⟨rfl, hb2⟩
  go_wp2_with fail
  go_ret
  exact ⟨by rw [HTX.out]; rfl, HB1.out.then hb2⟩
set_option maxRecDepth 100000 in
set_option maxHeartbeats 8000000 in
theorem rt_int {N : Nat} (HT : RefT N) (hN2 : N + 1 ≤ 200) (k : Int) (s : ByteArray) (n : Int) (ts : List Tm) (a : Option Addr) (cap : Nat) (w : World) (ht : (Tm.mk ⟨k, s, n⟩ ts).ok) (hN : (Tm.mk ⟨k, s, n⟩ ts).flat.length ≤ N + 1) (hlen : (textT (Tm.mk ⟨k, s, n⟩ ts)).length ≤ 1000000000) (hr : Row w a cap (Tm.mk ⟨k, s, n⟩ ts).flat) (hk : k = 2) (hm1 : -2147483647 ≤ n) (hm2 : n ≤ 2147483647) :
    Calls Tryd.prog 17 #[.slice a (Tm.mk ⟨k, s, n⟩ ts).flat.length cap] w fun e w' => e = .returned (.string (tx (textT (Tm.mk ⟨k, s, n⟩ ts)))) ∧ Below w.heap.size w w' := by
  subst hk
  have h0 := flat_pos (Tm.mk ⟨2, s, n⟩ ts)
  have hle := hr.le
  have hmx := hr.max
  have hRi := right_flat ht (by omega)
  have hpf : partsL (Tm.mk ⟨2, s, n⟩ ts).flat = ts.map Tm.flat := parts_flat ht
  have hsm : ∀ u ∈ ts, u.flat.length ≤ N := fun u hu => by have := flat_arg_lt (t := Tm.mk ⟨2, s, n⟩ ts) (u := u) hu; omega
  have hoks : oks ts := ((ok_iff _).1 ht).2.2
  have htl : ts.length = ar ⟨2, s, n⟩ := ((ok_iff _).1 ht).2.1
  obtain ⟨bC, off, rfl, hbC, hat⟩ := hr.cases.resolve_left (fun e => by simp [e] at h0)
  obtain ⟨c0, c1, c2, hf⟩ := cel_at hat (Below.refl _ _) h0
  rw [flat_hd _ h0] at c0 c1 c2 hf
  simp only [Nat.zero_mul, Nat.add_zero] at c0 c1 c2
  replace c0 : w.cell? ⟨bC, off, none⟩ = some (.int .i64 2) := c0
  replace c1 : w.cell? ⟨bC, off + 1, none⟩ = some (.string s) := c1
  replace c2 : w.cell? ⟨bC, off + 2, none⟩ = some (.int .i64 n) := c2
  have hb1 : Below w.heap.size w (w.alloc (.cells #[.int .i64 2, .string s, .int .i64 n] 62)) := (Below.refl _ _).new _
  have f0 : (w.alloc (.cells #[.int .i64 2, .string s, .int .i64 n] 62)).cell? ⟨w.heap.size, 0, none⟩ = some (.int .i64 2) := World.cell?_alloc_at _ _ _ 0 rfl
  have f1 : (w.alloc (.cells #[.int .i64 2, .string s, .int .i64 n] 62)).cell? ⟨w.heap.size, 1, none⟩ = some (.string s) := World.cell?_alloc_at _ _ _ 1 rfl
  have f2 : (w.alloc (.cells #[.int .i64 2, .string s, .int .i64 n] 62)).cell? ⟨w.heap.size, 2, none⟩ = some (.int .i64 n) := World.cell?_alloc_at _ _ _ 2 rfl
  have y1 : decide ((0 : Int) < (((Tm.mk ⟨2, s, n⟩ ts).flat.length : Nat) : Int)) = true := decide_eq_true (by omega)
  have y2 : decide (0 < (Tm.mk ⟨2, s, n⟩ ts).flat.length) = true := decide_eq_true (by omega)
  have hr1 := hr.below hb1
  have htx : textT (Tm.mk ⟨2, s, n⟩ ts) = Lib.itoa n := text_int rfl
  have HTX := mkHid htx
  clear htx
  have HR1 := mkHid hr1
  have HB1 := mkHid hb1
  have HRI := mkHid hRi
  have HPF := mkHid hpf
  have HSM := mkHid hsm
  have HOK := mkHid hoks
  have HT' := mkHid HT
  have HTO := mkHid ht
  have HTL := mkHid htl
  clear htl hr hr1 hb1 hRi hpf hsm hoks HT hat hbC ht
  go_enter Tryd.func17, Tryd.ntmps17
  go_wp2_with fail
  refine (rDigits_any n _ (by omega)).mono ?_
  rintro e w2 ⟨rfl, hb2⟩
  go_wp2_with fail
  go_ret
  exact ⟨by rw [HTX.out]; rfl, HB1.out.then hb2⟩
set_option maxRecDepth 100000 in
set_option maxHeartbeats 8000000 in
theorem rt_dot {N : Nat} (HT : RefT N) (hN2 : N + 1 ≤ 200) (k : Int) (s : ByteArray) (n : Int) (ts : List Tm) (a : Option Addr) (cap : Nat) (w : World) (ht : (Tm.mk ⟨k, s, n⟩ ts).ok) (hN : (Tm.mk ⟨k, s, n⟩ ts).flat.length ≤ N + 1) (hlen : (textT (Tm.mk ⟨k, s, n⟩ ts)).length ≤ 1000000000) (hr : Row w a cap (Tm.mk ⟨k, s, n⟩ ts).flat) (hk : k = 3) (hs : s = ⟨#[46]⟩) (hn : n = 2) :
    Calls Tryd.prog 17 #[.slice a (Tm.mk ⟨k, s, n⟩ ts).flat.length cap] w fun e w' => e = .returned (.string (tx (textT (Tm.mk ⟨k, s, n⟩ ts)))) ∧ Below w.heap.size w w' := by
  subst hk
  subst hs
  subst hn
  have h0 := flat_pos (Tm.mk ⟨3, ⟨#[46]⟩, 2⟩ ts)
  have hle := hr.le
  have hmx := hr.max
  have hRi := right_flat ht (by omega)
  have hpf : partsL (Tm.mk ⟨3, ⟨#[46]⟩, 2⟩ ts).flat = ts.map Tm.flat := parts_flat ht
  have hsm : ∀ u ∈ ts, u.flat.length ≤ N := fun u hu => by have := flat_arg_lt (t := Tm.mk ⟨3, ⟨#[46]⟩, 2⟩ ts) (u := u) hu; omega
  have hoks : oks ts := ((ok_iff _).1 ht).2.2
  have htl : ts.length = ar ⟨3, ⟨#[46]⟩, 2⟩ := ((ok_iff _).1 ht).2.1
  obtain ⟨bC, off, rfl, hbC, hat⟩ := hr.cases.resolve_left (fun e => by simp [e] at h0)
  obtain ⟨c0, c1, c2, hf⟩ := cel_at hat (Below.refl _ _) h0
  rw [flat_hd _ h0] at c0 c1 c2 hf
  simp only [Nat.zero_mul, Nat.add_zero] at c0 c1 c2
  replace c0 : w.cell? ⟨bC, off, none⟩ = some (.int .i64 3) := c0
  replace c1 : w.cell? ⟨bC, off + 1, none⟩ = some (.string ⟨#[46]⟩) := c1
  replace c2 : w.cell? ⟨bC, off + 2, none⟩ = some (.int .i64 2) := c2
  have hb1 : Below w.heap.size w (w.alloc (.cells #[.int .i64 3, .string ⟨#[46]⟩, .int .i64 2] 62)) := (Below.refl _ _).new _
  have f0 : (w.alloc (.cells #[.int .i64 3, .string ⟨#[46]⟩, .int .i64 2] 62)).cell? ⟨w.heap.size, 0, none⟩ = some (.int .i64 3) := World.cell?_alloc_at _ _ _ 0 rfl
  have f1 : (w.alloc (.cells #[.int .i64 3, .string ⟨#[46]⟩, .int .i64 2] 62)).cell? ⟨w.heap.size, 1, none⟩ = some (.string ⟨#[46]⟩) := World.cell?_alloc_at _ _ _ 1 rfl
  have f2 : (w.alloc (.cells #[.int .i64 3, .string ⟨#[46]⟩, .int .i64 2] 62)).cell? ⟨w.heap.size, 2, none⟩ = some (.int .i64 2) := World.cell?_alloc_at _ _ _ 2 rfl
  have y1 : decide ((0 : Int) < (((Tm.mk ⟨3, ⟨#[46]⟩, 2⟩ ts).flat.length : Nat) : Int)) = true := decide_eq_true (by omega)
  have y2 : decide (0 < (Tm.mk ⟨3, ⟨#[46]⟩, 2⟩ ts).flat.length) = true := decide_eq_true (by omega)
  have hr1 := hr.below hb1
  have HR1 := mkHid hr1
  have HB1 := mkHid hb1
  have HRI := mkHid hRi
  have HPF := mkHid hpf
  have HSM := mkHid hsm
  have HOK := mkHid hoks
  have HT' := mkHid HT
  have HTO := mkHid ht
  have HTL := mkHid htl
  clear htl hr hr1 hb1 hRi hpf hsm hoks HT hat hbC ht
  go_enter Tryd.func17, Tryd.ntmps17
  go_wp2_with fail
  refine (refparts_z _ cap _ _ HR1.out HRI.out).mono ?_
  rintro e w2 ⟨a', cap', vs, rfl, hown, hsl, hb2⟩
  obtain ⟨a2, cap2, e2, hrp⟩ := own_rowL hown (hsl w2 (HR1.out.below hb2))
  injection e2 with e2 _ e3
  subst e2; subst e3
  rw [HPF.out] at hrp ⊢
  rw [List.length_map]
  have hb12 := HB1.out.then hb2
  replace f0 := keep f0 hb2
  replace f1 := keep f1 hb2
  replace f2 := keep f2 hb2
  have HRP := mkHid hrp
  clear hown hsl c0 c1 c2
  have hli := rList_any HT'.out _ HTO.out (by omega) hN (.inl rfl) hlen _ cap w2 (HR1.out.below hb2)
  have HLI := mkHid hli
  clear hli hb2
  go_wp2_with fail
  refine HLI.out.mono ?_
  rintro e w3 ⟨rfl, hb3⟩
  go_wp2_with fail
  go_ret
  exact ⟨rfl, hb12.then hb3⟩
set_option maxRecDepth 100000 in
set_option maxHeartbeats 8000000 in
theorem rt_nil {N : Nat} (HT : RefT N) (hN2 : N + 1 ≤ 200) (k : Int) (s : ByteArray) (n : Int) (ts : List Tm) (a : Option Addr) (cap : Nat) (w : World) (ht : (Tm.mk ⟨k, s, n⟩ ts).ok) (hN : (Tm.mk ⟨k, s, n⟩ ts).flat.length ≤ N + 1) (hlen : (textT (Tm.mk ⟨k, s, n⟩ ts)).length ≤ 1000000000) (hr : Row w a cap (Tm.mk ⟨k, s, n⟩ ts).flat) (hk : k = 3) (hs : s = ⟨#[91, 93]⟩) (hn : n = 0) :
    Calls Tryd.prog 17 #[.slice a (Tm.mk ⟨k, s, n⟩ ts).flat.length cap] w fun e w' => e = .returned (.string (tx (textT (Tm.mk ⟨k, s, n⟩ ts)))) ∧ Below w.heap.size w w' := by
  subst hk
  subst hs
  subst hn
  have h0 := flat_pos (Tm.mk ⟨3, ⟨#[91, 93]⟩, 0⟩ ts)
  have hle := hr.le
  have hmx := hr.max
  have hRi := right_flat ht (by omega)
  have hpf : partsL (Tm.mk ⟨3, ⟨#[91, 93]⟩, 0⟩ ts).flat = ts.map Tm.flat := parts_flat ht
  have hsm : ∀ u ∈ ts, u.flat.length ≤ N := fun u hu => by have := flat_arg_lt (t := Tm.mk ⟨3, ⟨#[91, 93]⟩, 0⟩ ts) (u := u) hu; omega
  have hoks : oks ts := ((ok_iff _).1 ht).2.2
  have htl : ts.length = ar ⟨3, ⟨#[91, 93]⟩, 0⟩ := ((ok_iff _).1 ht).2.1
  obtain ⟨bC, off, rfl, hbC, hat⟩ := hr.cases.resolve_left (fun e => by simp [e] at h0)
  obtain ⟨c0, c1, c2, hf⟩ := cel_at hat (Below.refl _ _) h0
  rw [flat_hd _ h0] at c0 c1 c2 hf
  simp only [Nat.zero_mul, Nat.add_zero] at c0 c1 c2
  replace c0 : w.cell? ⟨bC, off, none⟩ = some (.int .i64 3) := c0
  replace c1 : w.cell? ⟨bC, off + 1, none⟩ = some (.string ⟨#[91, 93]⟩) := c1
  replace c2 : w.cell? ⟨bC, off + 2, none⟩ = some (.int .i64 0) := c2
  have hb1 : Below w.heap.size w (w.alloc (.cells #[.int .i64 3, .string ⟨#[91, 93]⟩, .int .i64 0] 62)) := (Below.refl _ _).new _
  have f0 : (w.alloc (.cells #[.int .i64 3, .string ⟨#[91, 93]⟩, .int .i64 0] 62)).cell? ⟨w.heap.size, 0, none⟩ = some (.int .i64 3) := World.cell?_alloc_at _ _ _ 0 rfl
  have f1 : (w.alloc (.cells #[.int .i64 3, .string ⟨#[91, 93]⟩, .int .i64 0] 62)).cell? ⟨w.heap.size, 1, none⟩ = some (.string ⟨#[91, 93]⟩) := World.cell?_alloc_at _ _ _ 1 rfl
  have f2 : (w.alloc (.cells #[.int .i64 3, .string ⟨#[91, 93]⟩, .int .i64 0] 62)).cell? ⟨w.heap.size, 2, none⟩ = some (.int .i64 0) := World.cell?_alloc_at _ _ _ 2 rfl
  have y1 : decide ((0 : Int) < (((Tm.mk ⟨3, ⟨#[91, 93]⟩, 0⟩ ts).flat.length : Nat) : Int)) = true := decide_eq_true (by omega)
  have y2 : decide (0 < (Tm.mk ⟨3, ⟨#[91, 93]⟩, 0⟩ ts).flat.length) = true := decide_eq_true (by omega)
  have hr1 := hr.below hb1
  have HR1 := mkHid hr1
  have HB1 := mkHid hb1
  have HRI := mkHid hRi
  have HPF := mkHid hpf
  have HSM := mkHid hsm
  have HOK := mkHid hoks
  have HT' := mkHid HT
  have HTO := mkHid ht
  have HTL := mkHid htl
  clear htl hr hr1 hb1 hRi hpf hsm hoks HT hat hbC ht
  go_enter Tryd.func17, Tryd.ntmps17
  go_wp2_with fail
  refine (refparts_z _ cap _ _ HR1.out HRI.out).mono ?_
  rintro e w2 ⟨a', cap', vs, rfl, hown, hsl, hb2⟩
  obtain ⟨a2, cap2, e2, hrp⟩ := own_rowL hown (hsl w2 (HR1.out.below hb2))
  injection e2 with e2 _ e3
  subst e2; subst e3
  rw [HPF.out] at hrp ⊢
  rw [List.length_map]
  have hb12 := HB1.out.then hb2
  replace f0 := keep f0 hb2
  replace f1 := keep f1 hb2
  replace f2 := keep f2 hb2
  have HRP := mkHid hrp
  clear hown hsl c0 c1 c2
  have hli := rList_any HT'.out _ HTO.out (by omega) hN (.inr rfl) hlen _ cap w2 (HR1.out.below hb2)
  have HLI := mkHid hli
  clear hli hb2
  go_wp2_with fail
  refine HLI.out.mono ?_
  rintro e w3 ⟨rfl, hb3⟩
  go_wp2_with fail
  go_ret
  exact ⟨rfl, hb12.then hb3⟩
set_option maxRecDepth 100000 in
set_option maxHeartbeats 8000000 in
theorem rt_minus {N : Nat} (HT : RefT N) (hN2 : N + 1 ≤ 200) (k : Int) (s : ByteArray) (n : Int) (ts : List Tm) (a : Option Addr) (cap : Nat) (w : World) (ht : (Tm.mk ⟨k, s, n⟩ ts).ok) (hN : (Tm.mk ⟨k, s, n⟩ ts).flat.length ≤ N + 1) (hlen : (textT (Tm.mk ⟨k, s, n⟩ ts)).length ≤ 1000000000) (hr : Row w a cap (Tm.mk ⟨k, s, n⟩ ts).flat) (hk : k = 3) (hs : s = ⟨#[45]⟩) (hn : n = 1) :
    Calls Tryd.prog 17 #[.slice a (Tm.mk ⟨k, s, n⟩ ts).flat.length cap] w fun e w' => e = .returned (.string (tx (textT (Tm.mk ⟨k, s, n⟩ ts)))) ∧ Below w.heap.size w w' := by
  subst hk
  subst hs
  subst hn
  have h0 := flat_pos (Tm.mk ⟨3, ⟨#[45]⟩, 1⟩ ts)
  have hle := hr.le
  have hmx := hr.max
  have hRi := right_flat ht (by omega)
  have hpf : partsL (Tm.mk ⟨3, ⟨#[45]⟩, 1⟩ ts).flat = ts.map Tm.flat := parts_flat ht
  have hsm : ∀ u ∈ ts, u.flat.length ≤ N := fun u hu => by have := flat_arg_lt (t := Tm.mk ⟨3, ⟨#[45]⟩, 1⟩ ts) (u := u) hu; omega
  have hoks : oks ts := ((ok_iff _).1 ht).2.2
  have htl : ts.length = ar ⟨3, ⟨#[45]⟩, 1⟩ := ((ok_iff _).1 ht).2.1
  obtain ⟨bC, off, rfl, hbC, hat⟩ := hr.cases.resolve_left (fun e => by simp [e] at h0)
  obtain ⟨c0, c1, c2, hf⟩ := cel_at hat (Below.refl _ _) h0
  rw [flat_hd _ h0] at c0 c1 c2 hf
  simp only [Nat.zero_mul, Nat.add_zero] at c0 c1 c2
  replace c0 : w.cell? ⟨bC, off, none⟩ = some (.int .i64 3) := c0
  replace c1 : w.cell? ⟨bC, off + 1, none⟩ = some (.string ⟨#[45]⟩) := c1
  replace c2 : w.cell? ⟨bC, off + 2, none⟩ = some (.int .i64 1) := c2
  have hb1 : Below w.heap.size w (w.alloc (.cells #[.int .i64 3, .string ⟨#[45]⟩, .int .i64 1] 62)) := (Below.refl _ _).new _
  have f0 : (w.alloc (.cells #[.int .i64 3, .string ⟨#[45]⟩, .int .i64 1] 62)).cell? ⟨w.heap.size, 0, none⟩ = some (.int .i64 3) := World.cell?_alloc_at _ _ _ 0 rfl
  have f1 : (w.alloc (.cells #[.int .i64 3, .string ⟨#[45]⟩, .int .i64 1] 62)).cell? ⟨w.heap.size, 1, none⟩ = some (.string ⟨#[45]⟩) := World.cell?_alloc_at _ _ _ 1 rfl
  have f2 : (w.alloc (.cells #[.int .i64 3, .string ⟨#[45]⟩, .int .i64 1] 62)).cell? ⟨w.heap.size, 2, none⟩ = some (.int .i64 1) := World.cell?_alloc_at _ _ _ 2 rfl
  have y1 : decide ((0 : Int) < (((Tm.mk ⟨3, ⟨#[45]⟩, 1⟩ ts).flat.length : Nat) : Int)) = true := decide_eq_true (by omega)
  have y2 : decide (0 < (Tm.mk ⟨3, ⟨#[45]⟩, 1⟩ ts).flat.length) = true := decide_eq_true (by omega)
  have hr1 := hr.below hb1
  have htx : textT (Tm.mk ⟨3, ⟨#[45]⟩, 1⟩ ts) = 45 :: 40 :: (sepL [] (textsT ts) ++ [41]) := text_minus rfl rfl rfl
  have HTX := mkHid htx
  rw [htx] at hlen
  clear htx
  have HR1 := mkHid hr1
  have HB1 := mkHid hb1
  have HRI := mkHid hRi
  have HPF := mkHid hpf
  have HSM := mkHid hsm
  have HOK := mkHid hoks
  have HT' := mkHid HT
  have HTO := mkHid ht
  have HTL := mkHid htl
  clear htl hr hr1 hb1 hRi hpf hsm hoks HT hat hbC ht
  go_enter Tryd.func17, Tryd.ntmps17
  go_wp2_with fail
  refine (refparts_z _ cap _ _ HR1.out HRI.out).mono ?_
  rintro e w2 ⟨a', cap', vs, rfl, hown, hsl, hb2⟩
  obtain ⟨a2, cap2, e2, hrp⟩ := own_rowL hown (hsl w2 (HR1.out.below hb2))
  injection e2 with e2 _ e3
  subst e2; subst e3
  rw [HPF.out] at hrp ⊢
  rw [List.length_map]
  have hb12 := HB1.out.then hb2
  replace f0 := keep f0 hb2
  replace f1 := keep f1 hb2
  replace f2 := keep f2 hb2
  have HRP := mkHid hrp
  clear hown hsl c0 c1 c2
  obtain ⟨x, rfl⟩ : ∃ x, ts = [x] := by
    match ts, HTL.out with
    | [x], _ => exact ⟨x, rfl⟩
  have hxl : (textT x).length ≤ 1000000000 - 3 := by simp [textsT, sepL] at hlen; omega
  obtain ⟨bP, oP, rfl, hbP, hatP⟩ := HRP.out.cases.resolve_left (fun e => by simp at e)
  obtain ⟨a0, cap0, p0, r0⟩ := list_at hatP (Below.refl _ _) (k := 0) (by simp)
  replace p0 : w2.cell? ⟨bP, oP, none⟩ = some (.slice a0 x.flat.length cap0) := p0
  replace r0 : Row w2 a0 cap0 x.flat := r0
  have hx := HT'.out x a0 cap0 w2 (oks_mem HOK.out x (by simp)) (HSM.out x (by simp)) (by omega) r0
  obtain ⟨u, hu⟩ : ∃ u, u = tx (textT x) := ⟨_, rfl⟩
  have hu1 : u.size ≤ 1000000000 := by rw [hu, tx_size]; omega
  have HE : Hid (tx [45, 40] ++ u ++ tx [41] = tx (textT (Tm.mk ⟨3, ⟨#[45]⟩, 1⟩ [x]))) := mkHid (by rw [HTX.out, hu, tx_append, tx_append]; simp [textsT, sepL])
  rw [← hu] at hx
  have HX := mkHid hx
  have z1 : ¬ 9223372036854775807 < 2 + u.size := by omega
  have z2 : ¬ 9223372036854775807 < 2 + u.size + 1 := by omega
  clear hx hu r0 hatP hbP hb2
  go_wp2_with fail
  refine HX.out.mono ?_
  rintro e w3 ⟨rfl, hb3⟩
  have HB3 := mkHid hb3
  clear hb3
  go_wp2_with fail
  go_ret
  exact ⟨by rw [← HE.out]; rfl, hb12.then HB3.out⟩
set_option maxRecDepth 100000 in
set_option maxHeartbeats 8000000 in
theorem rt_inf61 {N : Nat} (HT : RefT N) (hN2 : N + 1 ≤ 200) (k : Int) (s : ByteArray) (n : Int) (ts : List Tm) (a : Option Addr) (cap : Nat) (w : World) (ht : (Tm.mk ⟨k, s, n⟩ ts).ok) (hN : (Tm.mk ⟨k, s, n⟩ ts).flat.length ≤ N + 1) (hlen : (textT (Tm.mk ⟨k, s, n⟩ ts)).length ≤ 1000000000) (hr : Row w a cap (Tm.mk ⟨k, s, n⟩ ts).flat) (hk : k = 3) (hs : s = ⟨#[61]⟩) (hn : n = 2) :
    Calls Tryd.prog 17 #[.slice a (Tm.mk ⟨k, s, n⟩ ts).flat.length cap] w fun e w' => e = .returned (.string (tx (textT (Tm.mk ⟨k, s, n⟩ ts)))) ∧ Below w.heap.size w w' := by
  subst hk
  subst hs
  subst hn
  have h0 := flat_pos (Tm.mk ⟨3, ⟨#[61]⟩, 2⟩ ts)
  have hle := hr.le
  have hmx := hr.max
  have hRi := right_flat ht (by omega)
  have hpf : partsL (Tm.mk ⟨3, ⟨#[61]⟩, 2⟩ ts).flat = ts.map Tm.flat := parts_flat ht
  have hsm : ∀ u ∈ ts, u.flat.length ≤ N := fun u hu => by have := flat_arg_lt (t := Tm.mk ⟨3, ⟨#[61]⟩, 2⟩ ts) (u := u) hu; omega
  have hoks : oks ts := ((ok_iff _).1 ht).2.2
  have htl : ts.length = ar ⟨3, ⟨#[61]⟩, 2⟩ := ((ok_iff _).1 ht).2.1
  obtain ⟨bC, off, rfl, hbC, hat⟩ := hr.cases.resolve_left (fun e => by simp [e] at h0)
  obtain ⟨c0, c1, c2, hf⟩ := cel_at hat (Below.refl _ _) h0
  rw [flat_hd _ h0] at c0 c1 c2 hf
  simp only [Nat.zero_mul, Nat.add_zero] at c0 c1 c2
  replace c0 : w.cell? ⟨bC, off, none⟩ = some (.int .i64 3) := c0
  replace c1 : w.cell? ⟨bC, off + 1, none⟩ = some (.string ⟨#[61]⟩) := c1
  replace c2 : w.cell? ⟨bC, off + 2, none⟩ = some (.int .i64 2) := c2
  have hb1 : Below w.heap.size w (w.alloc (.cells #[.int .i64 3, .string ⟨#[61]⟩, .int .i64 2] 62)) := (Below.refl _ _).new _
  have f0 : (w.alloc (.cells #[.int .i64 3, .string ⟨#[61]⟩, .int .i64 2] 62)).cell? ⟨w.heap.size, 0, none⟩ = some (.int .i64 3) := World.cell?_alloc_at _ _ _ 0 rfl
  have f1 : (w.alloc (.cells #[.int .i64 3, .string ⟨#[61]⟩, .int .i64 2] 62)).cell? ⟨w.heap.size, 1, none⟩ = some (.string ⟨#[61]⟩) := World.cell?_alloc_at _ _ _ 1 rfl
  have f2 : (w.alloc (.cells #[.int .i64 3, .string ⟨#[61]⟩, .int .i64 2] 62)).cell? ⟨w.heap.size, 2, none⟩ = some (.int .i64 2) := World.cell?_alloc_at _ _ _ 2 rfl
  have y1 : decide ((0 : Int) < (((Tm.mk ⟨3, ⟨#[61]⟩, 2⟩ ts).flat.length : Nat) : Int)) = true := decide_eq_true (by omega)
  have y2 : decide (0 < (Tm.mk ⟨3, ⟨#[61]⟩, 2⟩ ts).flat.length) = true := decide_eq_true (by omega)
  have hr1 := hr.below hb1
  have htx : textT (Tm.mk ⟨3, ⟨#[61]⟩, 2⟩ ts) = 40 :: (sepL [32, 61, 32] (textsT ts) ++ [41]) := text_infix rfl (by decide +kernel)
  have HTX := mkHid htx
  rw [htx] at hlen
  clear htx
  have HR1 := mkHid hr1
  have HB1 := mkHid hb1
  have HRI := mkHid hRi
  have HPF := mkHid hpf
  have HSM := mkHid hsm
  have HOK := mkHid hoks
  have HT' := mkHid HT
  have HTO := mkHid ht
  have HTL := mkHid htl
  clear htl hr hr1 hb1 hRi hpf hsm hoks HT hat hbC ht
  go_enter Tryd.func17, Tryd.ntmps17
  go_wp2_with fail
  refine (refparts_z _ cap _ _ HR1.out HRI.out).mono ?_
  rintro e w2 ⟨a', cap', vs, rfl, hown, hsl, hb2⟩
  obtain ⟨a2, cap2, e2, hrp⟩ := own_rowL hown (hsl w2 (HR1.out.below hb2))
  injection e2 with e2 _ e3
  subst e2; subst e3
  rw [HPF.out] at hrp ⊢
  rw [List.length_map]
  have hb12 := HB1.out.then hb2
  replace f0 := keep f0 hb2
  replace f1 := keep f1 hb2
  replace f2 := keep f2 hb2
  have HRP := mkHid hrp
  clear hown hsl c0 c1 c2
  obtain ⟨x, y, rfl⟩ : ∃ x y, ts = [x, y] := by
    match ts, HTL.out with
    | [x, y], _ => exact ⟨x, y, rfl⟩
  have hxl : (textT x).length + (textT y).length ≤ 1000000000 - 5 := by simp [textsT, sepL] at hlen; omega
  obtain ⟨bP, oP, rfl, hbP, hatP⟩ := HRP.out.cases.resolve_left (fun e => by simp at e)
  obtain ⟨a0, cap0, p0, r0⟩ := list_at hatP (Below.refl _ _) (k := 0) (by simp)
  obtain ⟨a1, cap1, p1, r1⟩ := list_at hatP (Below.refl _ _) (k := 1) (by simp)
  replace p0 : w2.cell? ⟨bP, oP, none⟩ = some (.slice a0 x.flat.length cap0) := p0
  replace p1 : w2.cell? ⟨bP, oP + 1, none⟩ = some (.slice a1 y.flat.length cap1) := p1
  replace r0 : Row w2 a0 cap0 x.flat := r0
  replace r1 : Row w2 a1 cap1 y.flat := r1
  have hx : ∀ W, Below w2.heap.size w2 W → Calls Tryd.prog 17 #[.slice a0 x.flat.length cap0] W fun e w' => e = .returned (.string (tx (textT x))) ∧ Below W.heap.size W w' := fun W hW => HT'.out x a0 cap0 W (oks_mem HOK.out x (by simp)) (HSM.out x (by simp)) (by omega) (r0.below hW)
  have hy : ∀ W, Below w2.heap.size w2 W → Calls Tryd.prog 17 #[.slice a1 y.flat.length cap1] W fun e w' => e = .returned (.string (tx (textT y))) ∧ Below W.heap.size W w' := fun W hW => HT'.out y a1 cap1 W (oks_mem HOK.out y (by simp)) (HSM.out y (by simp)) (by omega) (r1.below hW)
  obtain ⟨u, hu⟩ : ∃ u, u = tx (textT x) := ⟨_, rfl⟩
  obtain ⟨v, hv⟩ : ∃ v, v = tx (textT y) := ⟨_, rfl⟩
  have huv : u.size + v.size ≤ 1000000000 := by rw [hu, hv, tx_size, tx_size]; omega
  have HE : Hid (tx [40] ++ u ++ tx [32] ++ tx [61] ++ tx [32] ++ v ++ tx [41] = tx (textT (Tm.mk ⟨3, ⟨#[61]⟩, 2⟩ [x, y]))) := mkHid (by rw [HTX.out, hu, hv]; simp only [tx_append]; simp [textsT, sepL])
  rw [← hu] at hx
  rw [← hv] at hy
  have HX := mkHid hx
  have HY := mkHid hy
  have z1 : ¬ 9223372036854775807 < 1 + u.size := by omega
  have z2 : ¬ 9223372036854775807 < 1 + u.size + 1 := by omega
  have z3 : ¬ 9223372036854775807 < 1 + u.size + 1 + 1 := by omega
  have z4 : ¬ 9223372036854775807 < 1 + u.size + 1 + 1 + 1 := by omega
  have z5 : ¬ 9223372036854775807 < 1 + u.size + 1 + 1 + 1 + v.size := by omega
  have z6 : ¬ 9223372036854775807 < 1 + u.size + 1 + 1 + 1 + v.size + 1 := by omega
  have HSQ : Hid (∀ W', Below w2.heap.size w2 W' → W'.cell? ⟨bP, oP, none⟩ = some (.slice a0 x.flat.length cap0) ∧ W'.cell? ⟨bP, oP + 1, none⟩ = some (.slice a1 y.flat.length cap1) ∧ W'.cell? ⟨w.heap.size, 1, none⟩ = some (.string ⟨#[61]⟩)) := fun W' h => ⟨keep p0 h, keep p1 h, keep f1 h⟩
  have hcd := (Below.refl w2.heap.size w2).drew
  rw [show ([x, y] : List Tm).length = 2 from rfl]
  clear hx hy hu hv r0 r1 hatP hbP hb2
  go_wp2_with fail
  refine wp_region_noPanic ?_
  refine wp_region_held_drew (S := (fun w' : World => w'.cell? ⟨bP, oP, none⟩ = some (.slice a0 x.flat.length cap0) ∧ w'.cell? ⟨bP, oP + 1, none⟩ = some (.slice a1 y.flat.length cap1) ∧ w'.cell? ⟨w.heap.size, 1, none⟩ = some (.string ⟨#[61]⟩))) (by kernel_rfl) (HSQ.out _ hcd) (fun hSd => ?_)
  refine wpAnyH_take (i := 0) (oi := _) (v := ?_) rfl (by kernel_rfl) (by kernel_rfl) (by kernel_rfl) (fun _ _ _ h => h) (Or.inl ⟨by rfl, ?_⟩) (by assumption) ?_
  rotate_left
  · (intro w' hSw; (try dsimp only at hSw); go_simp; try with_reducible rfl)
  (try simp only [Act.put, List.setIfInBounds_toArray, List.set_cons_zero, List.set_cons_succ])
  refine wpAnyH_take (i := 1) (oi := _) (v := ?_) rfl (by kernel_rfl) (by kernel_rfl) (by kernel_rfl) (fun _ _ _ h => h) (Or.inl ⟨by rfl, ?_⟩) (by assumption) ?_
  rotate_left
  · (intro w' hSw; (try dsimp only at hSw); go_simp; try with_reducible rfl)
  (try simp only [Act.put, List.setIfInBounds_toArray, List.set_cons_zero, List.set_cons_succ])
  refine wpAnyH_take (i := 2) (oi := _) (v := ?_) rfl (by kernel_rfl) (by kernel_rfl) (by kernel_rfl) (fun _ _ _ h => h) (Or.inl ⟨by rfl, ?_⟩) (by assumption) ?_
  rotate_left
  · (intro w' hSw; (try dsimp only at hSw); go_simp; try with_reducible rfl)
  (try simp only [Act.put, List.setIfInBounds_toArray, List.set_cons_zero, List.set_cons_succ])
  refine wpAnyH_take (i := 6) (oi := _) (v := ?_) rfl (by kernel_rfl) (by kernel_rfl) (by kernel_rfl) (fun _ _ _ h => h) (Or.inl ⟨by rfl, ?_⟩) (by assumption) ?_
  rotate_left
  · (intro w' hSw; (try dsimp only at hSw); go_simp; try with_reducible rfl)
  (try simp only [Act.put, List.setIfInBounds_toArray, List.set_cons_zero, List.set_cons_succ])
  refine wpAnyH_take (i := 7) (oi := _) (v := ?_) rfl (by kernel_rfl) (by kernel_rfl) (by kernel_rfl) (fun _ _ _ h => h) (Or.inl ⟨by rfl, ?_⟩) (by assumption) ?_
  rotate_left
  · (intro w' hSw; (try dsimp only at hSw); go_simp; try with_reducible rfl)
  (try simp only [Act.put, List.setIfInBounds_toArray, List.set_cons_zero, List.set_cons_succ])
  refine wpAnyH_take (i := 10) (oi := _) (v := ?_) rfl (by kernel_rfl) (by kernel_rfl) (by kernel_rfl) (fun _ _ _ h => h) (Or.inl ⟨by rfl, ?_⟩) (by assumption) ?_
  rotate_left
  · (intro w' hSw; (try dsimp only at hSw); go_simp; try with_reducible rfl)
  (try simp only [Act.put, List.setIfInBounds_toArray, List.set_cons_zero, List.set_cons_succ])
  refine wpAnyH_take (i := 11) (oi := _) (v := ?_) rfl (by kernel_rfl) (by kernel_rfl) (by kernel_rfl) (fun _ _ _ h => h) (Or.inl ⟨by rfl, ?_⟩) (by assumption) ?_
  rotate_left
  · (intro w' hSw; (try dsimp only at hSw); go_simp; try with_reducible rfl)
  (try simp only [Act.put, List.setIfInBounds_toArray, List.set_cons_zero, List.set_cons_succ])
  refine wpAnyH_take (i := 12) (oi := _) (v := ?_) rfl (by kernel_rfl) (by kernel_rfl) (by kernel_rfl) (fun _ _ _ h => h) (Or.inl ⟨by rfl, ?_⟩) (by assumption) ?_
  rotate_left
  · (intro w' hSw; (try dsimp only at hSw); go_simp; try with_reducible rfl)
  (try simp only [Act.put, List.setIfInBounds_toArray, List.set_cons_zero, List.set_cons_succ])
  refine wpAnyH_ready (rs := [3]) (by kernel_rfl) (by simp) ?_
  refine AllReadyH.cons (o := _) rfl (fun Kq hKq => ?_) AllReadyH.nil
  go_simp
  refine (HX.out _ hcd).mono ?_
  rintro e V1 ⟨rfl, hq1⟩
  have hc1 := hcd.then hq1
  try dsimp only
  refine hKq.out _ _ (HSQ.out _ hc1) (fun _ => ?_)
  clear hKq Kq
  (try simp only [Act.put, List.setIfInBounds_toArray, List.set_cons_zero, List.set_cons_succ])
  refine wpAnyH_take (i := 4) (oi := _) (v := ?_) rfl (by kernel_rfl) (by kernel_rfl) (by kernel_rfl) (fun _ _ _ h => h) (Or.inl ⟨by rfl, ?_⟩) (by assumption) ?_
  rotate_left
  · (intro w' hSw; (try dsimp only at hSw); go_simp; try with_reducible rfl)
  (try simp only [Act.put, List.setIfInBounds_toArray, List.set_cons_zero, List.set_cons_succ])
  refine wpAnyH_take (i := 5) (oi := _) (v := ?_) rfl (by kernel_rfl) (by kernel_rfl) (by kernel_rfl) (fun _ _ _ h => h) (Or.inl ⟨by rfl, ?_⟩) (by assumption) ?_
  rotate_left
  · (intro w' hSw; (try dsimp only at hSw); go_simp; try with_reducible rfl)
  (try simp only [Act.put, List.setIfInBounds_toArray, List.set_cons_zero, List.set_cons_succ])
  refine wpAnyH_take (i := 8) (oi := _) (v := ?_) rfl (by kernel_rfl) (by kernel_rfl) (by kernel_rfl) (fun _ _ _ h => h) (Or.inl ⟨by rfl, ?_⟩) (by assumption) ?_
  rotate_left
  · (intro w' hSw; (try dsimp only at hSw); go_simp; try with_reducible rfl)
  (try simp only [Act.put, List.setIfInBounds_toArray, List.set_cons_zero, List.set_cons_succ])
  refine wpAnyH_take (i := 9) (oi := _) (v := ?_) rfl (by kernel_rfl) (by kernel_rfl) (by kernel_rfl) (fun _ _ _ h => h) (Or.inl ⟨by rfl, ?_⟩) (by assumption) ?_
  rotate_left
  · (intro w' hSw; (try dsimp only at hSw); go_simp; try with_reducible rfl)
  (try simp only [Act.put, List.setIfInBounds_toArray, List.set_cons_zero, List.set_cons_succ])
  refine wpAnyH_ready (rs := [13]) (by kernel_rfl) (by simp) ?_
  refine AllReadyH.cons (o := _) rfl (fun Kq hKq => ?_) AllReadyH.nil
  go_simp
  refine (HY.out _ hc1).mono ?_
  rintro e V2 ⟨rfl, hq2⟩
  have hc2 := hc1.then hq2
  try dsimp only
  refine hKq.out _ _ (HSQ.out _ hc2) (fun _ => ?_)
  clear hKq Kq
  (try simp only [Act.put, List.setIfInBounds_toArray, List.set_cons_zero, List.set_cons_succ])
  refine wpAnyH_take (i := 14) (oi := _) (v := ?_) rfl (by kernel_rfl) (by kernel_rfl) (by kernel_rfl) (fun _ _ _ h => h) (Or.inl ⟨by rfl, ?_⟩) (by assumption) ?_
  rotate_left
  · (intro w' hSw; (try dsimp only at hSw); go_simp; try with_reducible rfl)
  (try simp only [Act.put, List.setIfInBounds_toArray, List.set_cons_zero, List.set_cons_succ])
  refine wpAnyH_take (i := 15) (oi := _) (v := ?_) rfl (by kernel_rfl) (by kernel_rfl) (by kernel_rfl) (fun _ _ _ h => h) (Or.inl ⟨by rfl, ?_⟩) (by assumption) ?_
  rotate_left
  · (intro w' hSw; (try dsimp only at hSw); go_simp; try with_reducible rfl)
  (try simp only [Act.put, List.setIfInBounds_toArray, List.set_cons_zero, List.set_cons_succ])
  refine wpAnyH_ready (rs := [16]) (by kernel_rfl) (by simp) ?_
  refine AllReadyH.cons (o := _) rfl (fun Kq hKq => ?_) AllReadyH.nil
  go_simp
  try dsimp only
  refine hKq.out _ _ (HSQ.out _ hc2) (fun _ => ?_)
  clear hKq Kq
  (try simp only [Act.put, List.setIfInBounds_toArray, List.set_cons_zero, List.set_cons_succ])
  refine wpAnyH_done (by kernel_rfl) (NoPanic.normal ?_) _
  have HQ := mkHid hc2
  clear hc1 hc2 hq1 hq2
  go_wp2_with fail
  go_ret
  exact ⟨by rw [← HE.out]; rfl, hb12.then HQ.out⟩
set_option maxRecDepth 100000 in
set_option maxHeartbeats 8000000 in
theorem rt_inf60 {N : Nat} (HT : RefT N) (hN2 : N + 1 ≤ 200) (k : Int) (s : ByteArray) (n : Int) (ts : List Tm) (a : Option Addr) (cap : Nat) (w : World) (ht : (Tm.mk ⟨k, s, n⟩ ts).ok) (hN : (Tm.mk ⟨k, s, n⟩ ts).flat.length ≤ N + 1) (hlen : (textT (Tm.mk ⟨k, s, n⟩ ts)).length ≤ 1000000000) (hr : Row w a cap (Tm.mk ⟨k, s, n⟩ ts).flat) (hk : k = 3) (hs : s = ⟨#[60]⟩) (hn : n = 2) :
    Calls Tryd.prog 17 #[.slice a (Tm.mk ⟨k, s, n⟩ ts).flat.length cap] w fun e w' => e = .returned (.string (tx (textT (Tm.mk ⟨k, s, n⟩ ts)))) ∧ Below w.heap.size w w' := by
  subst hk
  subst hs
  subst hn
  have h0 := flat_pos (Tm.mk ⟨3, ⟨#[60]⟩, 2⟩ ts)
  have hle := hr.le
  have hmx := hr.max
  have hRi := right_flat ht (by omega)
  have hpf : partsL (Tm.mk ⟨3, ⟨#[60]⟩, 2⟩ ts).flat = ts.map Tm.flat := parts_flat ht
  have hsm : ∀ u ∈ ts, u.flat.length ≤ N := fun u hu => by have := flat_arg_lt (t := Tm.mk ⟨3, ⟨#[60]⟩, 2⟩ ts) (u := u) hu; omega
  have hoks : oks ts := ((ok_iff _).1 ht).2.2
  have htl : ts.length = ar ⟨3, ⟨#[60]⟩, 2⟩ := ((ok_iff _).1 ht).2.1
  obtain ⟨bC, off, rfl, hbC, hat⟩ := hr.cases.resolve_left (fun e => by simp [e] at h0)
  obtain ⟨c0, c1, c2, hf⟩ := cel_at hat (Below.refl _ _) h0
  rw [flat_hd _ h0] at c0 c1 c2 hf
  simp only [Nat.zero_mul, Nat.add_zero] at c0 c1 c2
  replace c0 : w.cell? ⟨bC, off, none⟩ = some (.int .i64 3) := c0
  replace c1 : w.cell? ⟨bC, off + 1, none⟩ = some (.string ⟨#[60]⟩) := c1
  replace c2 : w.cell? ⟨bC, off + 2, none⟩ = some (.int .i64 2) := c2
  have hb1 : Below w.heap.size w (w.alloc (.cells #[.int .i64 3, .string ⟨#[60]⟩, .int .i64 2] 62)) := (Below.refl _ _).new _
  have f0 : (w.alloc (.cells #[.int .i64 3, .string ⟨#[60]⟩, .int .i64 2] 62)).cell? ⟨w.heap.size, 0, none⟩ = some (.int .i64 3) := World.cell?_alloc_at _ _ _ 0 rfl
  have f1 : (w.alloc (.cells #[.int .i64 3, .string ⟨#[60]⟩, .int .i64 2] 62)).cell? ⟨w.heap.size, 1, none⟩ = some (.string ⟨#[60]⟩) := World.cell?_alloc_at _ _ _ 1 rfl
  have f2 : (w.alloc (.cells #[.int .i64 3, .string ⟨#[60]⟩, .int .i64 2] 62)).cell? ⟨w.heap.size, 2, none⟩ = some (.int .i64 2) := World.cell?_alloc_at _ _ _ 2 rfl
  have y1 : decide ((0 : Int) < (((Tm.mk ⟨3, ⟨#[60]⟩, 2⟩ ts).flat.length : Nat) : Int)) = true := decide_eq_true (by omega)
  have y2 : decide (0 < (Tm.mk ⟨3, ⟨#[60]⟩, 2⟩ ts).flat.length) = true := decide_eq_true (by omega)
  have hr1 := hr.below hb1
  have htx : textT (Tm.mk ⟨3, ⟨#[60]⟩, 2⟩ ts) = 40 :: (sepL [32, 60, 32] (textsT ts) ++ [41]) := text_infix rfl (by decide +kernel)
  have HTX := mkHid htx
  rw [htx] at hlen
  clear htx
  have HR1 := mkHid hr1
  have HB1 := mkHid hb1
  have HRI := mkHid hRi
  have HPF := mkHid hpf
  have HSM := mkHid hsm
  have HOK := mkHid hoks
  have HT' := mkHid HT
  have HTO := mkHid ht
  have HTL := mkHid htl
  clear htl hr hr1 hb1 hRi hpf hsm hoks HT hat hbC ht
  go_enter Tryd.func17, Tryd.ntmps17
  go_wp2_with fail
  refine (refparts_z _ cap _ _ HR1.out HRI.out).mono ?_
  rintro e w2 ⟨a', cap', vs, rfl, hown, hsl, hb2⟩
  obtain ⟨a2, cap2, e2, hrp⟩ := own_rowL hown (hsl w2 (HR1.out.below hb2))
  injection e2 with e2 _ e3
  subst e2; subst e3
  rw [HPF.out] at hrp ⊢
  rw [List.length_map]
  have hb12 := HB1.out.then hb2
  replace f0 := keep f0 hb2
  replace f1 := keep f1 hb2
  replace f2 := keep f2 hb2
  have HRP := mkHid hrp
  clear hown hsl c0 c1 c2
  obtain ⟨x, y, rfl⟩ : ∃ x y, ts = [x, y] := by
    match ts, HTL.out with
    | [x, y], _ => exact ⟨x, y, rfl⟩
  have hxl : (textT x).length + (textT y).length ≤ 1000000000 - 5 := by simp [textsT, sepL] at hlen; omega
  obtain ⟨bP, oP, rfl, hbP, hatP⟩ := HRP.out.cases.resolve_left (fun e => by simp at e)
  obtain ⟨a0, cap0, p0, r0⟩ := list_at hatP (Below.refl _ _) (k := 0) (by simp)
  obtain ⟨a1, cap1, p1, r1⟩ := list_at hatP (Below.refl _ _) (k := 1) (by simp)
  replace p0 : w2.cell? ⟨bP, oP, none⟩ = some (.slice a0 x.flat.length cap0) := p0
  replace p1 : w2.cell? ⟨bP, oP + 1, none⟩ = some (.slice a1 y.flat.length cap1) := p1
  replace r0 : Row w2 a0 cap0 x.flat := r0
  replace r1 : Row w2 a1 cap1 y.flat := r1
  have hx : ∀ W, Below w2.heap.size w2 W → Calls Tryd.prog 17 #[.slice a0 x.flat.length cap0] W fun e w' => e = .returned (.string (tx (textT x))) ∧ Below W.heap.size W w' := fun W hW => HT'.out x a0 cap0 W (oks_mem HOK.out x (by simp)) (HSM.out x (by simp)) (by omega) (r0.below hW)
  have hy : ∀ W, Below w2.heap.size w2 W → Calls Tryd.prog 17 #[.slice a1 y.flat.length cap1] W fun e w' => e = .returned (.string (tx (textT y))) ∧ Below W.heap.size W w' := fun W hW => HT'.out y a1 cap1 W (oks_mem HOK.out y (by simp)) (HSM.out y (by simp)) (by omega) (r1.below hW)
  obtain ⟨u, hu⟩ : ∃ u, u = tx (textT x) := ⟨_, rfl⟩
  obtain ⟨v, hv⟩ : ∃ v, v = tx (textT y) := ⟨_, rfl⟩
  have huv : u.size + v.size ≤ 1000000000 := by rw [hu, hv, tx_size, tx_size]; omega
  have HE : Hid (tx [40] ++ u ++ tx [32] ++ tx [60] ++ tx [32] ++ v ++ tx [41] = tx (textT (Tm.mk ⟨3, ⟨#[60]⟩, 2⟩ [x, y]))) := mkHid (by rw [HTX.out, hu, hv]; simp only [tx_append]; simp [textsT, sepL])
  rw [← hu] at hx
  rw [← hv] at hy
  have HX := mkHid hx
  have HY := mkHid hy
  have z1 : ¬ 9223372036854775807 < 1 + u.size := by omega
  have z2 : ¬ 9223372036854775807 < 1 + u.size + 1 := by omega
  have z3 : ¬ 9223372036854775807 < 1 + u.size + 1 + 1 := by omega
  have z4 : ¬ 9223372036854775807 < 1 + u.size + 1 + 1 + 1 := by omega
  have z5 : ¬ 9223372036854775807 < 1 + u.size + 1 + 1 + 1 + v.size := by omega
  have z6 : ¬ 9223372036854775807 < 1 + u.size + 1 + 1 + 1 + v.size + 1 := by omega
  have HSQ : Hid (∀ W', Below w2.heap.size w2 W' → W'.cell? ⟨bP, oP, none⟩ = some (.slice a0 x.flat.length cap0) ∧ W'.cell? ⟨bP, oP + 1, none⟩ = some (.slice a1 y.flat.length cap1) ∧ W'.cell? ⟨w.heap.size, 1, none⟩ = some (.string ⟨#[60]⟩)) := fun W' h => ⟨keep p0 h, keep p1 h, keep f1 h⟩
  have hcd := (Below.refl w2.heap.size w2).drew
  rw [show ([x, y] : List Tm).length = 2 from rfl]
  clear hx hy hu hv r0 r1 hatP hbP hb2
  go_wp2_with fail
  refine wp_region_noPanic ?_
  refine wp_region_held_drew (S := (fun w' : World => w'.cell? ⟨bP, oP, none⟩ = some (.slice a0 x.flat.length cap0) ∧ w'.cell? ⟨bP, oP + 1, none⟩ = some (.slice a1 y.flat.length cap1) ∧ w'.cell? ⟨w.heap.size, 1, none⟩ = some (.string ⟨#[60]⟩))) (by kernel_rfl) (HSQ.out _ hcd) (fun hSd => ?_)
  refine wpAnyH_take (i := 0) (oi := _) (v := ?_) rfl (by kernel_rfl) (by kernel_rfl) (by kernel_rfl) (fun _ _ _ h => h) (Or.inl ⟨by rfl, ?_⟩) (by assumption) ?_
  rotate_left
  · (intro w' hSw; (try dsimp only at hSw); go_simp; try with_reducible rfl)
  (try simp only [Act.put, List.setIfInBounds_toArray, List.set_cons_zero, List.set_cons_succ])
  refine wpAnyH_take (i := 1) (oi := _) (v := ?_) rfl (by kernel_rfl) (by kernel_rfl) (by kernel_rfl) (fun _ _ _ h => h) (Or.inl ⟨by rfl, ?_⟩) (by assumption) ?_
  rotate_left
  · (intro w' hSw; (try dsimp only at hSw); go_simp; try with_reducible rfl)
  (try simp only [Act.put, List.setIfInBounds_toArray, List.set_cons_zero, List.set_cons_succ])
  refine wpAnyH_take (i := 2) (oi := _) (v := ?_) rfl (by kernel_rfl) (by kernel_rfl) (by kernel_rfl) (fun _ _ _ h => h) (Or.inl ⟨by rfl, ?_⟩) (by assumption) ?_
  rotate_left
  · (intro w' hSw; (try dsimp only at hSw); go_simp; try with_reducible rfl)
  (try simp only [Act.put, List.setIfInBounds_toArray, List.set_cons_zero, List.set_cons_succ])
  refine wpAnyH_take (i := 6) (oi := _) (v := ?_) rfl (by kernel_rfl) (by kernel_rfl) (by kernel_rfl) (fun _ _ _ h => h) (Or.inl ⟨by rfl, ?_⟩) (by assumption) ?_
  rotate_left
  · (intro w' hSw; (try dsimp only at hSw); go_simp; try with_reducible rfl)
  (try simp only [Act.put, List.setIfInBounds_toArray, List.set_cons_zero, List.set_cons_succ])
  refine wpAnyH_take (i := 7) (oi := _) (v := ?_) rfl (by kernel_rfl) (by kernel_rfl) (by kernel_rfl) (fun _ _ _ h => h) (Or.inl ⟨by rfl, ?_⟩) (by assumption) ?_
  rotate_left
  · (intro w' hSw; (try dsimp only at hSw); go_simp; try with_reducible rfl)
  (try simp only [Act.put, List.setIfInBounds_toArray, List.set_cons_zero, List.set_cons_succ])
  refine wpAnyH_take (i := 10) (oi := _) (v := ?_) rfl (by kernel_rfl) (by kernel_rfl) (by kernel_rfl) (fun _ _ _ h => h) (Or.inl ⟨by rfl, ?_⟩) (by assumption) ?_
  rotate_left
  · (intro w' hSw; (try dsimp only at hSw); go_simp; try with_reducible rfl)
  (try simp only [Act.put, List.setIfInBounds_toArray, List.set_cons_zero, List.set_cons_succ])
  refine wpAnyH_take (i := 11) (oi := _) (v := ?_) rfl (by kernel_rfl) (by kernel_rfl) (by kernel_rfl) (fun _ _ _ h => h) (Or.inl ⟨by rfl, ?_⟩) (by assumption) ?_
  rotate_left
  · (intro w' hSw; (try dsimp only at hSw); go_simp; try with_reducible rfl)
  (try simp only [Act.put, List.setIfInBounds_toArray, List.set_cons_zero, List.set_cons_succ])
  refine wpAnyH_take (i := 12) (oi := _) (v := ?_) rfl (by kernel_rfl) (by kernel_rfl) (by kernel_rfl) (fun _ _ _ h => h) (Or.inl ⟨by rfl, ?_⟩) (by assumption) ?_
  rotate_left
  · (intro w' hSw; (try dsimp only at hSw); go_simp; try with_reducible rfl)
  (try simp only [Act.put, List.setIfInBounds_toArray, List.set_cons_zero, List.set_cons_succ])
  refine wpAnyH_ready (rs := [3]) (by kernel_rfl) (by simp) ?_
  refine AllReadyH.cons (o := _) rfl (fun Kq hKq => ?_) AllReadyH.nil
  go_simp
  refine (HX.out _ hcd).mono ?_
  rintro e V1 ⟨rfl, hq1⟩
  have hc1 := hcd.then hq1
  try dsimp only
  refine hKq.out _ _ (HSQ.out _ hc1) (fun _ => ?_)
  clear hKq Kq
  (try simp only [Act.put, List.setIfInBounds_toArray, List.set_cons_zero, List.set_cons_succ])
  refine wpAnyH_take (i := 4) (oi := _) (v := ?_) rfl (by kernel_rfl) (by kernel_rfl) (by kernel_rfl) (fun _ _ _ h => h) (Or.inl ⟨by rfl, ?_⟩) (by assumption) ?_
  rotate_left
  · (intro w' hSw; (try dsimp only at hSw); go_simp; try with_reducible rfl)
  (try simp only [Act.put, List.setIfInBounds_toArray, List.set_cons_zero, List.set_cons_succ])
  refine wpAnyH_take (i := 5) (oi := _) (v := ?_) rfl (by kernel_rfl) (by kernel_rfl) (by kernel_rfl) (fun _ _ _ h => h) (Or.inl ⟨by rfl, ?_⟩) (by assumption) ?_
  rotate_left
  · (intro w' hSw; (try dsimp only at hSw); go_simp; try with_reducible rfl)
  (try simp only [Act.put, List.setIfInBounds_toArray, List.set_cons_zero, List.set_cons_succ])
  refine wpAnyH_take (i := 8) (oi := _) (v := ?_) rfl (by kernel_rfl) (by kernel_rfl) (by kernel_rfl) (fun _ _ _ h => h) (Or.inl ⟨by rfl, ?_⟩) (by assumption) ?_
  rotate_left
  · (intro w' hSw; (try dsimp only at hSw); go_simp; try with_reducible rfl)
  (try simp only [Act.put, List.setIfInBounds_toArray, List.set_cons_zero, List.set_cons_succ])
  refine wpAnyH_take (i := 9) (oi := _) (v := ?_) rfl (by kernel_rfl) (by kernel_rfl) (by kernel_rfl) (fun _ _ _ h => h) (Or.inl ⟨by rfl, ?_⟩) (by assumption) ?_
  rotate_left
  · (intro w' hSw; (try dsimp only at hSw); go_simp; try with_reducible rfl)
  (try simp only [Act.put, List.setIfInBounds_toArray, List.set_cons_zero, List.set_cons_succ])
  refine wpAnyH_ready (rs := [13]) (by kernel_rfl) (by simp) ?_
  refine AllReadyH.cons (o := _) rfl (fun Kq hKq => ?_) AllReadyH.nil
  go_simp
  refine (HY.out _ hc1).mono ?_
  rintro e V2 ⟨rfl, hq2⟩
  have hc2 := hc1.then hq2
  try dsimp only
  refine hKq.out _ _ (HSQ.out _ hc2) (fun _ => ?_)
  clear hKq Kq
  (try simp only [Act.put, List.setIfInBounds_toArray, List.set_cons_zero, List.set_cons_succ])
  refine wpAnyH_take (i := 14) (oi := _) (v := ?_) rfl (by kernel_rfl) (by kernel_rfl) (by kernel_rfl) (fun _ _ _ h => h) (Or.inl ⟨by rfl, ?_⟩) (by assumption) ?_
  rotate_left
  · (intro w' hSw; (try dsimp only at hSw); go_simp; try with_reducible rfl)
  (try simp only [Act.put, List.setIfInBounds_toArray, List.set_cons_zero, List.set_cons_succ])
  refine wpAnyH_take (i := 15) (oi := _) (v := ?_) rfl (by kernel_rfl) (by kernel_rfl) (by kernel_rfl) (fun _ _ _ h => h) (Or.inl ⟨by rfl, ?_⟩) (by assumption) ?_
  rotate_left
  · (intro w' hSw; (try dsimp only at hSw); go_simp; try with_reducible rfl)
  (try simp only [Act.put, List.setIfInBounds_toArray, List.set_cons_zero, List.set_cons_succ])
  refine wpAnyH_ready (rs := [16]) (by kernel_rfl) (by simp) ?_
  refine AllReadyH.cons (o := _) rfl (fun Kq hKq => ?_) AllReadyH.nil
  go_simp
  try dsimp only
  refine hKq.out _ _ (HSQ.out _ hc2) (fun _ => ?_)
  clear hKq Kq
  (try simp only [Act.put, List.setIfInBounds_toArray, List.set_cons_zero, List.set_cons_succ])
  refine wpAnyH_done (by kernel_rfl) (NoPanic.normal ?_) _
  have HQ := mkHid hc2
  clear hc1 hc2 hq1 hq2
  go_wp2_with fail
  go_ret
  exact ⟨by rw [← HE.out]; rfl, hb12.then HQ.out⟩
set_option maxRecDepth 100000 in
set_option maxHeartbeats 8000000 in
theorem rt_inf43 {N : Nat} (HT : RefT N) (hN2 : N + 1 ≤ 200) (k : Int) (s : ByteArray) (n : Int) (ts : List Tm) (a : Option Addr) (cap : Nat) (w : World) (ht : (Tm.mk ⟨k, s, n⟩ ts).ok) (hN : (Tm.mk ⟨k, s, n⟩ ts).flat.length ≤ N + 1) (hlen : (textT (Tm.mk ⟨k, s, n⟩ ts)).length ≤ 1000000000) (hr : Row w a cap (Tm.mk ⟨k, s, n⟩ ts).flat) (hk : k = 3) (hs : s = ⟨#[43]⟩) (hn : n = 2) :
    Calls Tryd.prog 17 #[.slice a (Tm.mk ⟨k, s, n⟩ ts).flat.length cap] w fun e w' => e = .returned (.string (tx (textT (Tm.mk ⟨k, s, n⟩ ts)))) ∧ Below w.heap.size w w' := by
  subst hk
  subst hs
  subst hn
  have h0 := flat_pos (Tm.mk ⟨3, ⟨#[43]⟩, 2⟩ ts)
  have hle := hr.le
  have hmx := hr.max
  have hRi := right_flat ht (by omega)
  have hpf : partsL (Tm.mk ⟨3, ⟨#[43]⟩, 2⟩ ts).flat = ts.map Tm.flat := parts_flat ht
  have hsm : ∀ u ∈ ts, u.flat.length ≤ N := fun u hu => by have := flat_arg_lt (t := Tm.mk ⟨3, ⟨#[43]⟩, 2⟩ ts) (u := u) hu; omega
  have hoks : oks ts := ((ok_iff _).1 ht).2.2
  have htl : ts.length = ar ⟨3, ⟨#[43]⟩, 2⟩ := ((ok_iff _).1 ht).2.1
  obtain ⟨bC, off, rfl, hbC, hat⟩ := hr.cases.resolve_left (fun e => by simp [e] at h0)
  obtain ⟨c0, c1, c2, hf⟩ := cel_at hat (Below.refl _ _) h0
  rw [flat_hd _ h0] at c0 c1 c2 hf
  simp only [Nat.zero_mul, Nat.add_zero] at c0 c1 c2
  replace c0 : w.cell? ⟨bC, off, none⟩ = some (.int .i64 3) := c0
  replace c1 : w.cell? ⟨bC, off + 1, none⟩ = some (.string ⟨#[43]⟩) := c1
  replace c2 : w.cell? ⟨bC, off + 2, none⟩ = some (.int .i64 2) := c2
  have hb1 : Below w.heap.size w (w.alloc (.cells #[.int .i64 3, .string ⟨#[43]⟩, .int .i64 2] 62)) := (Below.refl _ _).new _
  have f0 : (w.alloc (.cells #[.int .i64 3, .string ⟨#[43]⟩, .int .i64 2] 62)).cell? ⟨w.heap.size, 0, none⟩ = some (.int .i64 3) := World.cell?_alloc_at _ _ _ 0 rfl
  have f1 : (w.alloc (.cells #[.int .i64 3, .string ⟨#[43]⟩, .int .i64 2] 62)).cell? ⟨w.heap.size, 1, none⟩ = some (.string ⟨#[43]⟩) := World.cell?_alloc_at _ _ _ 1 rfl
  have f2 : (w.alloc (.cells #[.int .i64 3, .string ⟨#[43]⟩, .int .i64 2] 62)).cell? ⟨w.heap.size, 2, none⟩ = some (.int .i64 2) := World.cell?_alloc_at _ _ _ 2 rfl
  have y1 : decide ((0 : Int) < (((Tm.mk ⟨3, ⟨#[43]⟩, 2⟩ ts).flat.length : Nat) : Int)) = true := decide_eq_true (by omega)
  have y2 : decide (0 < (Tm.mk ⟨3, ⟨#[43]⟩, 2⟩ ts).flat.length) = true := decide_eq_true (by omega)
  have hr1 := hr.below hb1
  have htx : textT (Tm.mk ⟨3, ⟨#[43]⟩, 2⟩ ts) = 40 :: (sepL [32, 43, 32] (textsT ts) ++ [41]) := text_infix rfl (by decide +kernel)
  have HTX := mkHid htx
  rw [htx] at hlen
  clear htx
  have HR1 := mkHid hr1
  have HB1 := mkHid hb1
  have HRI := mkHid hRi
  have HPF := mkHid hpf
  have HSM := mkHid hsm
  have HOK := mkHid hoks
  have HT' := mkHid HT
  have HTO := mkHid ht
  have HTL := mkHid htl
  clear htl hr hr1 hb1 hRi hpf hsm hoks HT hat hbC ht
  go_enter Tryd.func17, Tryd.ntmps17
  go_wp2_with fail
  refine (refparts_z _ cap _ _ HR1.out HRI.out).mono ?_
  rintro e w2 ⟨a', cap', vs, rfl, hown, hsl, hb2⟩
  obtain ⟨a2, cap2, e2, hrp⟩ := own_rowL hown (hsl w2 (HR1.out.below hb2))
  injection e2 with e2 _ e3
  subst e2; subst e3
  rw [HPF.out] at hrp ⊢
  rw [List.length_map]
  have hb12 := HB1.out.then hb2
  replace f0 := keep f0 hb2
  replace f1 := keep f1 hb2
  replace f2 := keep f2 hb2
  have HRP := mkHid hrp
  clear hown hsl c0 c1 c2
  obtain ⟨x, y, rfl⟩ : ∃ x y, ts = [x, y] := by
    match ts, HTL.out with
    | [x, y], _ => exact ⟨x, y, rfl⟩
  have hxl : (textT x).length + (textT y).length ≤ 1000000000 - 5 := by simp [textsT, sepL] at hlen; omega
  obtain ⟨bP, oP, rfl, hbP, hatP⟩ := HRP.out.cases.resolve_left (fun e => by simp at e)
  obtain ⟨a0, cap0, p0, r0⟩ := list_at hatP (Below.refl _ _) (k := 0) (by simp)
  obtain ⟨a1, cap1, p1, r1⟩ := list_at hatP (Below.refl _ _) (k := 1) (by simp)
  replace p0 : w2.cell? ⟨bP, oP, none⟩ = some (.slice a0 x.flat.length cap0) := p0
  replace p1 : w2.cell? ⟨bP, oP + 1, none⟩ = some (.slice a1 y.flat.length cap1) := p1
  replace r0 : Row w2 a0 cap0 x.flat := r0
  replace r1 : Row w2 a1 cap1 y.flat := r1
  have hx : ∀ W, Below w2.heap.size w2 W → Calls Tryd.prog 17 #[.slice a0 x.flat.length cap0] W fun e w' => e = .returned (.string (tx (textT x))) ∧ Below W.heap.size W w' := fun W hW => HT'.out x a0 cap0 W (oks_mem HOK.out x (by simp)) (HSM.out x (by simp)) (by omega) (r0.below hW)
  have hy : ∀ W, Below w2.heap.size w2 W → Calls Tryd.prog 17 #[.slice a1 y.flat.length cap1] W fun e w' => e = .returned (.string (tx (textT y))) ∧ Below W.heap.size W w' := fun W hW => HT'.out y a1 cap1 W (oks_mem HOK.out y (by simp)) (HSM.out y (by simp)) (by omega) (r1.below hW)
  obtain ⟨u, hu⟩ : ∃ u, u = tx (textT x) := ⟨_, rfl⟩
  obtain ⟨v, hv⟩ : ∃ v, v = tx (textT y) := ⟨_, rfl⟩
  have huv : u.size + v.size ≤ 1000000000 := by rw [hu, hv, tx_size, tx_size]; omega
  have HE : Hid (tx [40] ++ u ++ tx [32] ++ tx [43] ++ tx [32] ++ v ++ tx [41] = tx (textT (Tm.mk ⟨3, ⟨#[43]⟩, 2⟩ [x, y]))) := mkHid (by rw [HTX.out, hu, hv]; simp only [tx_append]; simp [textsT, sepL])
  rw [← hu] at hx
  rw [← hv] at hy
  have HX := mkHid hx
  have HY := mkHid hy
  have z1 : ¬ 9223372036854775807 < 1 + u.size := by omega
  have z2 : ¬ 9223372036854775807 < 1 + u.size + 1 := by omega
  have z3 : ¬ 9223372036854775807 < 1 + u.size + 1 + 1 := by omega
  have z4 : ¬ 9223372036854775807 < 1 + u.size + 1 + 1 + 1 := by omega
  have z5 : ¬ 9223372036854775807 < 1 + u.size + 1 + 1 + 1 + v.size := by omega
  have z6 : ¬ 9223372036854775807 < 1 + u.size + 1 + 1 + 1 + v.size + 1 := by omega
  have HSQ : Hid (∀ W', Below w2.heap.size w2 W' → W'.cell? ⟨bP, oP, none⟩ = some (.slice a0 x.flat.length cap0) ∧ W'.cell? ⟨bP, oP + 1, none⟩ = some (.slice a1 y.flat.length cap1) ∧ W'.cell? ⟨w.heap.size, 1, none⟩ = some (.string ⟨#[43]⟩)) := fun W' h => ⟨keep p0 h, keep p1 h, keep f1 h⟩
  have hcd := (Below.refl w2.heap.size w2).drew
  rw [show ([x, y] : List Tm).length = 2 from rfl]
  clear hx hy hu hv r0 r1 hatP hbP hb2
  go_wp2_with fail
  refine wp_region_noPanic ?_
  refine wp_region_held_drew (S := (fun w' : World => w'.cell? ⟨bP, oP, none⟩ = some (.slice a0 x.flat.length cap0) ∧ w'.cell? ⟨bP, oP + 1, none⟩ = some (.slice a1 y.flat.length cap1) ∧ w'.cell? ⟨w.heap.size, 1, none⟩ = some (.string ⟨#[43]⟩))) (by kernel_rfl) (HSQ.out _ hcd) (fun hSd => ?_)
  refine wpAnyH_take (i := 0) (oi := _) (v := ?_) rfl (by kernel_rfl) (by kernel_rfl) (by kernel_rfl) (fun _ _ _ h => h) (Or.inl ⟨by rfl, ?_⟩) (by assumption) ?_
  rotate_left
  · (intro w' hSw; (try dsimp only at hSw); go_simp; try with_reducible rfl)
  (try simp only [Act.put, List.setIfInBounds_toArray, List.set_cons_zero, List.set_cons_succ])
  refine wpAnyH_take (i := 1) (oi := _) (v := ?_) rfl (by kernel_rfl) (by kernel_rfl) (by kernel_rfl) (fun _ _ _ h => h) (Or.inl ⟨by rfl, ?_⟩) (by assumption) ?_
  rotate_left
  · (intro w' hSw; (try dsimp only at hSw); go_simp; try with_reducible rfl)
  (try simp only [Act.put, List.setIfInBounds_toArray, List.set_cons_zero, List.set_cons_succ])
  refine wpAnyH_take (i := 2) (oi := _) (v := ?_) rfl (by kernel_rfl) (by kernel_rfl) (by kernel_rfl) (fun _ _ _ h => h) (Or.inl ⟨by rfl, ?_⟩) (by assumption) ?_
  rotate_left
  · (intro w' hSw; (try dsimp only at hSw); go_simp; try with_reducible rfl)
  (try simp only [Act.put, List.setIfInBounds_toArray, List.set_cons_zero, List.set_cons_succ])
  refine wpAnyH_take (i := 6) (oi := _) (v := ?_) rfl (by kernel_rfl) (by kernel_rfl) (by kernel_rfl) (fun _ _ _ h => h) (Or.inl ⟨by rfl, ?_⟩) (by assumption) ?_
  rotate_left
  · (intro w' hSw; (try dsimp only at hSw); go_simp; try with_reducible rfl)
  (try simp only [Act.put, List.setIfInBounds_toArray, List.set_cons_zero, List.set_cons_succ])
  refine wpAnyH_take (i := 7) (oi := _) (v := ?_) rfl (by kernel_rfl) (by kernel_rfl) (by kernel_rfl) (fun _ _ _ h => h) (Or.inl ⟨by rfl, ?_⟩) (by assumption) ?_
  rotate_left
  · (intro w' hSw; (try dsimp only at hSw); go_simp; try with_reducible rfl)
  (try simp only [Act.put, List.setIfInBounds_toArray, List.set_cons_zero, List.set_cons_succ])
  refine wpAnyH_take (i := 10) (oi := _) (v := ?_) rfl (by kernel_rfl) (by kernel_rfl) (by kernel_rfl) (fun _ _ _ h => h) (Or.inl ⟨by rfl, ?_⟩) (by assumption) ?_
  rotate_left
  · (intro w' hSw; (try dsimp only at hSw); go_simp; try with_reducible rfl)
  (try simp only [Act.put, List.setIfInBounds_toArray, List.set_cons_zero, List.set_cons_succ])
  refine wpAnyH_take (i := 11) (oi := _) (v := ?_) rfl (by kernel_rfl) (by kernel_rfl) (by kernel_rfl) (fun _ _ _ h => h) (Or.inl ⟨by rfl, ?_⟩) (by assumption) ?_
  rotate_left
  · (intro w' hSw; (try dsimp only at hSw); go_simp; try with_reducible rfl)
  (try simp only [Act.put, List.setIfInBounds_toArray, List.set_cons_zero, List.set_cons_succ])
  refine wpAnyH_take (i := 12) (oi := _) (v := ?_) rfl (by kernel_rfl) (by kernel_rfl) (by kernel_rfl) (fun _ _ _ h => h) (Or.inl ⟨by rfl, ?_⟩) (by assumption) ?_
  rotate_left
  · (intro w' hSw; (try dsimp only at hSw); go_simp; try with_reducible rfl)
  (try simp only [Act.put, List.setIfInBounds_toArray, List.set_cons_zero, List.set_cons_succ])
  refine wpAnyH_ready (rs := [3]) (by kernel_rfl) (by simp) ?_
  refine AllReadyH.cons (o := _) rfl (fun Kq hKq => ?_) AllReadyH.nil
  go_simp
  refine (HX.out _ hcd).mono ?_
  rintro e V1 ⟨rfl, hq1⟩
  have hc1 := hcd.then hq1
  try dsimp only
  refine hKq.out _ _ (HSQ.out _ hc1) (fun _ => ?_)
  clear hKq Kq
  (try simp only [Act.put, List.setIfInBounds_toArray, List.set_cons_zero, List.set_cons_succ])
  refine wpAnyH_take (i := 4) (oi := _) (v := ?_) rfl (by kernel_rfl) (by kernel_rfl) (by kernel_rfl) (fun _ _ _ h => h) (Or.inl ⟨by rfl, ?_⟩) (by assumption) ?_
  rotate_left
  · (intro w' hSw; (try dsimp only at hSw); go_simp; try with_reducible rfl)
  (try simp only [Act.put, List.setIfInBounds_toArray, List.set_cons_zero, List.set_cons_succ])
  refine wpAnyH_take (i := 5) (oi := _) (v := ?_) rfl (by kernel_rfl) (by kernel_rfl) (by kernel_rfl) (fun _ _ _ h => h) (Or.inl ⟨by rfl, ?_⟩) (by assumption) ?_
  rotate_left
  · (intro w' hSw; (try dsimp only at hSw); go_simp; try with_reducible rfl)
  (try simp only [Act.put, List.setIfInBounds_toArray, List.set_cons_zero, List.set_cons_succ])
  refine wpAnyH_take (i := 8) (oi := _) (v := ?_) rfl (by kernel_rfl) (by kernel_rfl) (by kernel_rfl) (fun _ _ _ h => h) (Or.inl ⟨by rfl, ?_⟩) (by assumption) ?_
  rotate_left
  · (intro w' hSw; (try dsimp only at hSw); go_simp; try with_reducible rfl)
  (try simp only [Act.put, List.setIfInBounds_toArray, List.set_cons_zero, List.set_cons_succ])
  refine wpAnyH_take (i := 9) (oi := _) (v := ?_) rfl (by kernel_rfl) (by kernel_rfl) (by kernel_rfl) (fun _ _ _ h => h) (Or.inl ⟨by rfl, ?_⟩) (by assumption) ?_
  rotate_left
  · (intro w' hSw; (try dsimp only at hSw); go_simp; try with_reducible rfl)
  (try simp only [Act.put, List.setIfInBounds_toArray, List.set_cons_zero, List.set_cons_succ])
  refine wpAnyH_ready (rs := [13]) (by kernel_rfl) (by simp) ?_
  refine AllReadyH.cons (o := _) rfl (fun Kq hKq => ?_) AllReadyH.nil
  go_simp
  refine (HY.out _ hc1).mono ?_
  rintro e V2 ⟨rfl, hq2⟩
  have hc2 := hc1.then hq2
  try dsimp only
  refine hKq.out _ _ (HSQ.out _ hc2) (fun _ => ?_)
  clear hKq Kq
  (try simp only [Act.put, List.setIfInBounds_toArray, List.set_cons_zero, List.set_cons_succ])
  refine wpAnyH_take (i := 14) (oi := _) (v := ?_) rfl (by kernel_rfl) (by kernel_rfl) (by kernel_rfl) (fun _ _ _ h => h) (Or.inl ⟨by rfl, ?_⟩) (by assumption) ?_
  rotate_left
  · (intro w' hSw; (try dsimp only at hSw); go_simp; try with_reducible rfl)
  (try simp only [Act.put, List.setIfInBounds_toArray, List.set_cons_zero, List.set_cons_succ])
  refine wpAnyH_take (i := 15) (oi := _) (v := ?_) rfl (by kernel_rfl) (by kernel_rfl) (by kernel_rfl) (fun _ _ _ h => h) (Or.inl ⟨by rfl, ?_⟩) (by assumption) ?_
  rotate_left
  · (intro w' hSw; (try dsimp only at hSw); go_simp; try with_reducible rfl)
  (try simp only [Act.put, List.setIfInBounds_toArray, List.set_cons_zero, List.set_cons_succ])
  refine wpAnyH_ready (rs := [16]) (by kernel_rfl) (by simp) ?_
  refine AllReadyH.cons (o := _) rfl (fun Kq hKq => ?_) AllReadyH.nil
  go_simp
  try dsimp only
  refine hKq.out _ _ (HSQ.out _ hc2) (fun _ => ?_)
  clear hKq Kq
  (try simp only [Act.put, List.setIfInBounds_toArray, List.set_cons_zero, List.set_cons_succ])
  refine wpAnyH_done (by kernel_rfl) (NoPanic.normal ?_) _
  have HQ := mkHid hc2
  clear hc1 hc2 hq1 hq2
  go_wp2_with fail
  go_ret
  exact ⟨by rw [← HE.out]; rfl, hb12.then HQ.out⟩
set_option maxRecDepth 100000 in
set_option maxHeartbeats 8000000 in
theorem rt_inf45 {N : Nat} (HT : RefT N) (hN2 : N + 1 ≤ 200) (k : Int) (s : ByteArray) (n : Int) (ts : List Tm) (a : Option Addr) (cap : Nat) (w : World) (ht : (Tm.mk ⟨k, s, n⟩ ts).ok) (hN : (Tm.mk ⟨k, s, n⟩ ts).flat.length ≤ N + 1) (hlen : (textT (Tm.mk ⟨k, s, n⟩ ts)).length ≤ 1000000000) (hr : Row w a cap (Tm.mk ⟨k, s, n⟩ ts).flat) (hk : k = 3) (hs : s = ⟨#[45]⟩) (hn : n = 2) :
    Calls Tryd.prog 17 #[.slice a (Tm.mk ⟨k, s, n⟩ ts).flat.length cap] w fun e w' => e = .returned (.string (tx (textT (Tm.mk ⟨k, s, n⟩ ts)))) ∧ Below w.heap.size w w' := by
  subst hk
  subst hs
  subst hn
  have h0 := flat_pos (Tm.mk ⟨3, ⟨#[45]⟩, 2⟩ ts)
  have hle := hr.le
  have hmx := hr.max
  have hRi := right_flat ht (by omega)
  have hpf : partsL (Tm.mk ⟨3, ⟨#[45]⟩, 2⟩ ts).flat = ts.map Tm.flat := parts_flat ht
  have hsm : ∀ u ∈ ts, u.flat.length ≤ N := fun u hu => by have := flat_arg_lt (t := Tm.mk ⟨3, ⟨#[45]⟩, 2⟩ ts) (u := u) hu; omega
  have hoks : oks ts := ((ok_iff _).1 ht).2.2
  have htl : ts.length = ar ⟨3, ⟨#[45]⟩, 2⟩ := ((ok_iff _).1 ht).2.1
  obtain ⟨bC, off, rfl, hbC, hat⟩ := hr.cases.resolve_left (fun e => by simp [e] at h0)
  obtain ⟨c0, c1, c2, hf⟩ := cel_at hat (Below.refl _ _) h0
  rw [flat_hd _ h0] at c0 c1 c2 hf
  simp only [Nat.zero_mul, Nat.add_zero] at c0 c1 c2
  replace c0 : w.cell? ⟨bC, off, none⟩ = some (.int .i64 3) := c0
  replace c1 : w.cell? ⟨bC, off + 1, none⟩ = some (.string ⟨#[45]⟩) := c1
  replace c2 : w.cell? ⟨bC, off + 2, none⟩ = some (.int .i64 2) := c2
  have hb1 : Below w.heap.size w (w.alloc (.cells #[.int .i64 3, .string ⟨#[45]⟩, .int .i64 2] 62)) := (Below.refl _ _).new _
  have f0 : (w.alloc (.cells #[.int .i64 3, .string ⟨#[45]⟩, .int .i64 2] 62)).cell? ⟨w.heap.size, 0, none⟩ = some (.int .i64 3) := World.cell?_alloc_at _ _ _ 0 rfl
  have f1 : (w.alloc (.cells #[.int .i64 3, .string ⟨#[45]⟩, .int .i64 2] 62)).cell? ⟨w.heap.size, 1, none⟩ = some (.string ⟨#[45]⟩) := World.cell?_alloc_at _ _ _ 1 rfl
  have f2 : (w.alloc (.cells #[.int .i64 3, .string ⟨#[45]⟩, .int .i64 2] 62)).cell? ⟨w.heap.size, 2, none⟩ = some (.int .i64 2) := World.cell?_alloc_at _ _ _ 2 rfl
  have y1 : decide ((0 : Int) < (((Tm.mk ⟨3, ⟨#[45]⟩, 2⟩ ts).flat.length : Nat) : Int)) = true := decide_eq_true (by omega)
  have y2 : decide (0 < (Tm.mk ⟨3, ⟨#[45]⟩, 2⟩ ts).flat.length) = true := decide_eq_true (by omega)
  have hr1 := hr.below hb1
  have htx : textT (Tm.mk ⟨3, ⟨#[45]⟩, 2⟩ ts) = 40 :: (sepL [32, 45, 32] (textsT ts) ++ [41]) := text_infix rfl (by decide +kernel)
  have HTX := mkHid htx
  rw [htx] at hlen
  clear htx
  have HR1 := mkHid hr1
  have HB1 := mkHid hb1
  have HRI := mkHid hRi
  have HPF := mkHid hpf
  have HSM := mkHid hsm
  have HOK := mkHid hoks
  have HT' := mkHid HT
  have HTO := mkHid ht
  have HTL := mkHid htl
  clear htl hr hr1 hb1 hRi hpf hsm hoks HT hat hbC ht
  go_enter Tryd.func17, Tryd.ntmps17
  go_wp2_with fail
  refine (refparts_z _ cap _ _ HR1.out HRI.out).mono ?_
  rintro e w2 ⟨a', cap', vs, rfl, hown, hsl, hb2⟩
  obtain ⟨a2, cap2, e2, hrp⟩ := own_rowL hown (hsl w2 (HR1.out.below hb2))
  injection e2 with e2 _ e3
  subst e2; subst e3
  rw [HPF.out] at hrp ⊢
  rw [List.length_map]
  have hb12 := HB1.out.then hb2
  replace f0 := keep f0 hb2
  replace f1 := keep f1 hb2
  replace f2 := keep f2 hb2
  have HRP := mkHid hrp
  clear hown hsl c0 c1 c2
  obtain ⟨x, y, rfl⟩ : ∃ x y, ts = [x, y] := by
    match ts, HTL.out with
    | [x, y], _ => exact ⟨x, y, rfl⟩
  have hxl : (textT x).length + (textT y).length ≤ 1000000000 - 5 := by simp [textsT, sepL] at hlen; omega
  obtain ⟨bP, oP, rfl, hbP, hatP⟩ := HRP.out.cases.resolve_left (fun e => by simp at e)
  obtain ⟨a0, cap0, p0, r0⟩ := list_at hatP (Below.refl _ _) (k := 0) (by simp)
  obtain ⟨a1, cap1, p1, r1⟩ := list_at hatP (Below.refl _ _) (k := 1) (by simp)
  replace p0 : w2.cell? ⟨bP, oP, none⟩ = some (.slice a0 x.flat.length cap0) := p0
  replace p1 : w2.cell? ⟨bP, oP + 1, none⟩ = some (.slice a1 y.flat.length cap1) := p1
  replace r0 : Row w2 a0 cap0 x.flat := r0
  replace r1 : Row w2 a1 cap1 y.flat := r1
  have hx : ∀ W, Below w2.heap.size w2 W → Calls Tryd.prog 17 #[.slice a0 x.flat.length cap0] W fun e w' => e = .returned (.string (tx (textT x))) ∧ Below W.heap.size W w' := fun W hW => HT'.out x a0 cap0 W (oks_mem HOK.out x (by simp)) (HSM.out x (by simp)) (by omega) (r0.below hW)
  have hy : ∀ W, Below w2.heap.size w2 W → Calls Tryd.prog 17 #[.slice a1 y.flat.length cap1] W fun e w' => e = .returned (.string (tx (textT y))) ∧ Below W.heap.size W w' := fun W hW => HT'.out y a1 cap1 W (oks_mem HOK.out y (by simp)) (HSM.out y (by simp)) (by omega) (r1.below hW)
  obtain ⟨u, hu⟩ : ∃ u, u = tx (textT x) := ⟨_, rfl⟩
  obtain ⟨v, hv⟩ : ∃ v, v = tx (textT y) := ⟨_, rfl⟩
  have huv : u.size + v.size ≤ 1000000000 := by rw [hu, hv, tx_size, tx_size]; omega
  have HE : Hid (tx [40] ++ u ++ tx [32] ++ tx [45] ++ tx [32] ++ v ++ tx [41] = tx (textT (Tm.mk ⟨3, ⟨#[45]⟩, 2⟩ [x, y]))) := mkHid (by rw [HTX.out, hu, hv]; simp only [tx_append]; simp [textsT, sepL])
  rw [← hu] at hx
  rw [← hv] at hy
  have HX := mkHid hx
  have HY := mkHid hy
  have z1 : ¬ 9223372036854775807 < 1 + u.size := by omega
  have z2 : ¬ 9223372036854775807 < 1 + u.size + 1 := by omega
  have z3 : ¬ 9223372036854775807 < 1 + u.size + 1 + 1 := by omega
  have z4 : ¬ 9223372036854775807 < 1 + u.size + 1 + 1 + 1 := by omega
  have z5 : ¬ 9223372036854775807 < 1 + u.size + 1 + 1 + 1 + v.size := by omega
  have z6 : ¬ 9223372036854775807 < 1 + u.size + 1 + 1 + 1 + v.size + 1 := by omega
  have HSQ : Hid (∀ W', Below w2.heap.size w2 W' → W'.cell? ⟨bP, oP, none⟩ = some (.slice a0 x.flat.length cap0) ∧ W'.cell? ⟨bP, oP + 1, none⟩ = some (.slice a1 y.flat.length cap1) ∧ W'.cell? ⟨w.heap.size, 1, none⟩ = some (.string ⟨#[45]⟩)) := fun W' h => ⟨keep p0 h, keep p1 h, keep f1 h⟩
  have hcd := (Below.refl w2.heap.size w2).drew
  rw [show ([x, y] : List Tm).length = 2 from rfl]
  clear hx hy hu hv r0 r1 hatP hbP hb2
  go_wp2_with fail
  refine wp_region_noPanic ?_
  refine wp_region_held_drew (S := (fun w' : World => w'.cell? ⟨bP, oP, none⟩ = some (.slice a0 x.flat.length cap0) ∧ w'.cell? ⟨bP, oP + 1, none⟩ = some (.slice a1 y.flat.length cap1) ∧ w'.cell? ⟨w.heap.size, 1, none⟩ = some (.string ⟨#[45]⟩))) (by kernel_rfl) (HSQ.out _ hcd) (fun hSd => ?_)
  refine wpAnyH_take (i := 0) (oi := _) (v := ?_) rfl (by kernel_rfl) (by kernel_rfl) (by kernel_rfl) (fun _ _ _ h => h) (Or.inl ⟨by rfl, ?_⟩) (by assumption) ?_
  rotate_left
  · (intro w' hSw; (try dsimp only at hSw); go_simp; try with_reducible rfl)
  (try simp only [Act.put, List.setIfInBounds_toArray, List.set_cons_zero, List.set_cons_succ])
  refine wpAnyH_take (i := 1) (oi := _) (v := ?_) rfl (by kernel_rfl) (by kernel_rfl) (by kernel_rfl) (fun _ _ _ h => h) (Or.inl ⟨by rfl, ?_⟩) (by assumption) ?_
  rotate_left
  · (intro w' hSw; (try dsimp only at hSw); go_simp; try with_reducible rfl)
  (try simp only [Act.put, List.setIfInBounds_toArray, List.set_cons_zero, List.set_cons_succ])
  refine wpAnyH_take (i := 2) (oi := _) (v := ?_) rfl (by kernel_rfl) (by kernel_rfl) (by kernel_rfl) (fun _ _ _ h => h) (Or.inl ⟨by rfl, ?_⟩) (by assumption) ?_
  rotate_left
  · (intro w' hSw; (try dsimp only at hSw); go_simp; try with_reducible rfl)
  (try simp only [Act.put, List.setIfInBounds_toArray, List.set_cons_zero, List.set_cons_succ])
  refine wpAnyH_take (i := 6) (oi := _) (v := ?_) rfl (by kernel_rfl) (by kernel_rfl) (by kernel_rfl) (fun _ _ _ h => h) (Or.inl ⟨by rfl, ?_⟩) (by assumption) ?_
  rotate_left
  · (intro w' hSw; (try dsimp only at hSw); go_simp; try with_reducible rfl)
  (try simp only [Act.put, List.setIfInBounds_toArray, List.set_cons_zero, List.set_cons_succ])
  refine wpAnyH_take (i := 7) (oi := _) (v := ?_) rfl (by kernel_rfl) (by kernel_rfl) (by kernel_rfl) (fun _ _ _ h => h) (Or.inl ⟨by rfl, ?_⟩) (by assumption) ?_
  rotate_left
  · (intro w' hSw; (try dsimp only at hSw); go_simp; try with_reducible rfl)
  (try simp only [Act.put, List.setIfInBounds_toArray, List.set_cons_zero, List.set_cons_succ])
  refine wpAnyH_take (i := 10) (oi := _) (v := ?_) rfl (by kernel_rfl) (by kernel_rfl) (by kernel_rfl) (fun _ _ _ h => h) (Or.inl ⟨by rfl, ?_⟩) (by assumption) ?_
  rotate_left
  · (intro w' hSw; (try dsimp only at hSw); go_simp; try with_reducible rfl)
  (try simp only [Act.put, List.setIfInBounds_toArray, List.set_cons_zero, List.set_cons_succ])
  refine wpAnyH_take (i := 11) (oi := _) (v := ?_) rfl (by kernel_rfl) (by kernel_rfl) (by kernel_rfl) (fun _ _ _ h => h) (Or.inl ⟨by rfl, ?_⟩) (by assumption) ?_
  rotate_left
  · (intro w' hSw; (try dsimp only at hSw); go_simp; try with_reducible rfl)
  (try simp only [Act.put, List.setIfInBounds_toArray, List.set_cons_zero, List.set_cons_succ])
  refine wpAnyH_take (i := 12) (oi := _) (v := ?_) rfl (by kernel_rfl) (by kernel_rfl) (by kernel_rfl) (fun _ _ _ h => h) (Or.inl ⟨by rfl, ?_⟩) (by assumption) ?_
  rotate_left
  · (intro w' hSw; (try dsimp only at hSw); go_simp; try with_reducible rfl)
  (try simp only [Act.put, List.setIfInBounds_toArray, List.set_cons_zero, List.set_cons_succ])
  refine wpAnyH_ready (rs := [3]) (by kernel_rfl) (by simp) ?_
  refine AllReadyH.cons (o := _) rfl (fun Kq hKq => ?_) AllReadyH.nil
  go_simp
  refine (HX.out _ hcd).mono ?_
  rintro e V1 ⟨rfl, hq1⟩
  have hc1 := hcd.then hq1
  try dsimp only
  refine hKq.out _ _ (HSQ.out _ hc1) (fun _ => ?_)
  clear hKq Kq
  (try simp only [Act.put, List.setIfInBounds_toArray, List.set_cons_zero, List.set_cons_succ])
  refine wpAnyH_take (i := 4) (oi := _) (v := ?_) rfl (by kernel_rfl) (by kernel_rfl) (by kernel_rfl) (fun _ _ _ h => h) (Or.inl ⟨by rfl, ?_⟩) (by assumption) ?_
  rotate_left
  · (intro w' hSw; (try dsimp only at hSw); go_simp; try with_reducible rfl)
  (try simp only [Act.put, List.setIfInBounds_toArray, List.set_cons_zero, List.set_cons_succ])
  refine wpAnyH_take (i := 5) (oi := _) (v := ?_) rfl (by kernel_rfl) (by kernel_rfl) (by kernel_rfl) (fun _ _ _ h => h) (Or.inl ⟨by rfl, ?_⟩) (by assumption) ?_
  rotate_left
  · (intro w' hSw; (try dsimp only at hSw); go_simp; try with_reducible rfl)
  (try simp only [Act.put, List.setIfInBounds_toArray, List.set_cons_zero, List.set_cons_succ])
  refine wpAnyH_take (i := 8) (oi := _) (v := ?_) rfl (by kernel_rfl) (by kernel_rfl) (by kernel_rfl) (fun _ _ _ h => h) (Or.inl ⟨by rfl, ?_⟩) (by assumption) ?_
  rotate_left
  · (intro w' hSw; (try dsimp only at hSw); go_simp; try with_reducible rfl)
  (try simp only [Act.put, List.setIfInBounds_toArray, List.set_cons_zero, List.set_cons_succ])
  refine wpAnyH_take (i := 9) (oi := _) (v := ?_) rfl (by kernel_rfl) (by kernel_rfl) (by kernel_rfl) (fun _ _ _ h => h) (Or.inl ⟨by rfl, ?_⟩) (by assumption) ?_
  rotate_left
  · (intro w' hSw; (try dsimp only at hSw); go_simp; try with_reducible rfl)
  (try simp only [Act.put, List.setIfInBounds_toArray, List.set_cons_zero, List.set_cons_succ])
  refine wpAnyH_ready (rs := [13]) (by kernel_rfl) (by simp) ?_
  refine AllReadyH.cons (o := _) rfl (fun Kq hKq => ?_) AllReadyH.nil
  go_simp
  refine (HY.out _ hc1).mono ?_
  rintro e V2 ⟨rfl, hq2⟩
  have hc2 := hc1.then hq2
  try dsimp only
  refine hKq.out _ _ (HSQ.out _ hc2) (fun _ => ?_)
  clear hKq Kq
  (try simp only [Act.put, List.setIfInBounds_toArray, List.set_cons_zero, List.set_cons_succ])
  refine wpAnyH_take (i := 14) (oi := _) (v := ?_) rfl (by kernel_rfl) (by kernel_rfl) (by kernel_rfl) (fun _ _ _ h => h) (Or.inl ⟨by rfl, ?_⟩) (by assumption) ?_
  rotate_left
  · (intro w' hSw; (try dsimp only at hSw); go_simp; try with_reducible rfl)
  (try simp only [Act.put, List.setIfInBounds_toArray, List.set_cons_zero, List.set_cons_succ])
  refine wpAnyH_take (i := 15) (oi := _) (v := ?_) rfl (by kernel_rfl) (by kernel_rfl) (by kernel_rfl) (fun _ _ _ h => h) (Or.inl ⟨by rfl, ?_⟩) (by assumption) ?_
  rotate_left
  · (intro w' hSw; (try dsimp only at hSw); go_simp; try with_reducible rfl)
  (try simp only [Act.put, List.setIfInBounds_toArray, List.set_cons_zero, List.set_cons_succ])
  refine wpAnyH_ready (rs := [16]) (by kernel_rfl) (by simp) ?_
  refine AllReadyH.cons (o := _) rfl (fun Kq hKq => ?_) AllReadyH.nil
  go_simp
  try dsimp only
  refine hKq.out _ _ (HSQ.out _ hc2) (fun _ => ?_)
  clear hKq Kq
  (try simp only [Act.put, List.setIfInBounds_toArray, List.set_cons_zero, List.set_cons_succ])
  refine wpAnyH_done (by kernel_rfl) (NoPanic.normal ?_) _
  have HQ := mkHid hc2
  clear hc1 hc2 hq1 hq2
  go_wp2_with fail
  go_ret
  exact ⟨by rw [← HE.out]; rfl, hb12.then HQ.out⟩
set_option maxRecDepth 100000 in
set_option maxHeartbeats 8000000 in
theorem rt_inf42 {N : Nat} (HT : RefT N) (hN2 : N + 1 ≤ 200) (k : Int) (s : ByteArray) (n : Int) (ts : List Tm) (a : Option Addr) (cap : Nat) (w : World) (ht : (Tm.mk ⟨k, s, n⟩ ts).ok) (hN : (Tm.mk ⟨k, s, n⟩ ts).flat.length ≤ N + 1) (hlen : (textT (Tm.mk ⟨k, s, n⟩ ts)).length ≤ 1000000000) (hr : Row w a cap (Tm.mk ⟨k, s, n⟩ ts).flat) (hk : k = 3) (hs : s = ⟨#[42]⟩) (hn : n = 2) :
    Calls Tryd.prog 17 #[.slice a (Tm.mk ⟨k, s, n⟩ ts).flat.length cap] w fun e w' => e = .returned (.string (tx (textT (Tm.mk ⟨k, s, n⟩ ts)))) ∧ Below w.heap.size w w' := by
  subst hk
  subst hs
  subst hn
  have h0 := flat_pos (Tm.mk ⟨3, ⟨#[42]⟩, 2⟩ ts)
  have hle := hr.le
  have hmx := hr.max
  have hRi := right_flat ht (by omega)
  have hpf : partsL (Tm.mk ⟨3, ⟨#[42]⟩, 2⟩ ts).flat = ts.map Tm.flat := parts_flat ht
  have hsm : ∀ u ∈ ts, u.flat.length ≤ N := fun u hu => by have := flat_arg_lt (t := Tm.mk ⟨3, ⟨#[42]⟩, 2⟩ ts) (u := u) hu; omega
  have hoks : oks ts := ((ok_iff _).1 ht).2.2
  have htl : ts.length = ar ⟨3, ⟨#[42]⟩, 2⟩ := ((ok_iff _).1 ht).2.1
  obtain ⟨bC, off, rfl, hbC, hat⟩ := hr.cases.resolve_left (fun e => by simp [e] at h0)
  obtain ⟨c0, c1, c2, hf⟩ := cel_at hat (Below.refl _ _) h0
  rw [flat_hd _ h0] at c0 c1 c2 hf
  simp only [Nat.zero_mul, Nat.add_zero] at c0 c1 c2
  replace c0 : w.cell? ⟨bC, off, none⟩ = some (.int .i64 3) := c0
  replace c1 : w.cell? ⟨bC, off + 1, none⟩ = some (.string ⟨#[42]⟩) := c1
  replace c2 : w.cell? ⟨bC, off + 2, none⟩ = some (.int .i64 2) := c2
  have hb1 : Below w.heap.size w (w.alloc (.cells #[.int .i64 3, .string ⟨#[42]⟩, .int .i64 2] 62)) := (Below.refl _ _).new _
  have f0 : (w.alloc (.cells #[.int .i64 3, .string ⟨#[42]⟩, .int .i64 2] 62)).cell? ⟨w.heap.size, 0, none⟩ = some (.int .i64 3) := World.cell?_alloc_at _ _ _ 0 rfl
  have f1 : (w.alloc (.cells #[.int .i64 3, .string ⟨#[42]⟩, .int .i64 2] 62)).cell? ⟨w.heap.size, 1, none⟩ = some (.string ⟨#[42]⟩) := World.cell?_alloc_at _ _ _ 1 rfl
  have f2 : (w.alloc (.cells #[.int .i64 3, .string ⟨#[42]⟩, .int .i64 2] 62)).cell? ⟨w.heap.size, 2, none⟩ = some (.int .i64 2) := World.cell?_alloc_at _ _ _ 2 rfl
  have y1 : decide ((0 : Int) < (((Tm.mk ⟨3, ⟨#[42]⟩, 2⟩ ts).flat.length : Nat) : Int)) = true := decide_eq_true (by omega)
  have y2 : decide (0 < (Tm.mk ⟨3, ⟨#[42]⟩, 2⟩ ts).flat.length) = true := decide_eq_true (by omega)
  have hr1 := hr.below hb1
  have htx : textT (Tm.mk ⟨3, ⟨#[42]⟩, 2⟩ ts) = 40 :: (sepL [32, 42, 32] (textsT ts) ++ [41]) := text_infix rfl (by decide +kernel)
  have HTX := mkHid htx
  rw [htx] at hlen
  clear htx
  have HR1 := mkHid hr1
  have HB1 := mkHid hb1
  have HRI := mkHid hRi
  have HPF := mkHid hpf
  have HSM := mkHid hsm
  have HOK := mkHid hoks
  have HT' := mkHid HT
  have HTO := mkHid ht
  have HTL := mkHid htl
  clear htl hr hr1 hb1 hRi hpf hsm hoks HT hat hbC ht
  go_enter Tryd.func17, Tryd.ntmps17
  go_wp2_with fail
  refine (refparts_z _ cap _ _ HR1.out HRI.out).mono ?_
  rintro e w2 ⟨a', cap', vs, rfl, hown, hsl, hb2⟩
  obtain ⟨a2, cap2, e2, hrp⟩ := own_rowL hown (hsl w2 (HR1.out.below hb2))
  injection e2 with e2 _ e3
  subst e2; subst e3
  rw [HPF.out] at hrp ⊢
  rw [List.length_map]
  have hb12 := HB1.out.then hb2
  replace f0 := keep f0 hb2
  replace f1 := keep f1 hb2
  replace f2 := keep f2 hb2
  have HRP := mkHid hrp
  clear hown hsl c0 c1 c2
  obtain ⟨x, y, rfl⟩ : ∃ x y, ts = [x, y] := by
    match ts, HTL.out with
    | [x, y], _ => exact ⟨x, y, rfl⟩
  have hxl : (textT x).length + (textT y).length ≤ 1000000000 - 5 := by simp [textsT, sepL] at hlen; omega
  obtain ⟨bP, oP, rfl, hbP, hatP⟩ := HRP.out.cases.resolve_left (fun e => by simp at e)
  obtain ⟨a0, cap0, p0, r0⟩ := list_at hatP (Below.refl _ _) (k := 0) (by simp)
  obtain ⟨a1, cap1, p1, r1⟩ := list_at hatP (Below.refl _ _) (k := 1) (by simp)
  replace p0 : w2.cell? ⟨bP, oP, none⟩ = some (.slice a0 x.flat.length cap0) := p0
  replace p1 : w2.cell? ⟨bP, oP + 1, none⟩ = some (.slice a1 y.flat.length cap1) := p1
  replace r0 : Row w2 a0 cap0 x.flat := r0
  replace r1 : Row w2 a1 cap1 y.flat := r1
  have hx : ∀ W, Below w2.heap.size w2 W → Calls Tryd.prog 17 #[.slice a0 x.flat.length cap0] W fun e w' => e = .returned (.string (tx (textT x))) ∧ Below W.heap.size W w' := fun W hW => HT'.out x a0 cap0 W (oks_mem HOK.out x (by simp)) (HSM.out x (by simp)) (by omega) (r0.below hW)
  have hy : ∀ W, Below w2.heap.size w2 W → Calls Tryd.prog 17 #[.slice a1 y.flat.length cap1] W fun e w' => e = .returned (.string (tx (textT y))) ∧ Below W.heap.size W w' := fun W hW => HT'.out y a1 cap1 W (oks_mem HOK.out y (by simp)) (HSM.out y (by simp)) (by omega) (r1.below hW)
  obtain ⟨u, hu⟩ : ∃ u, u = tx (textT x) := ⟨_, rfl⟩
  obtain ⟨v, hv⟩ : ∃ v, v = tx (textT y) := ⟨_, rfl⟩
  have huv : u.size + v.size ≤ 1000000000 := by rw [hu, hv, tx_size, tx_size]; omega
  have HE : Hid (tx [40] ++ u ++ tx [32] ++ tx [42] ++ tx [32] ++ v ++ tx [41] = tx (textT (Tm.mk ⟨3, ⟨#[42]⟩, 2⟩ [x, y]))) := mkHid (by rw [HTX.out, hu, hv]; simp only [tx_append]; simp [textsT, sepL])
  rw [← hu] at hx
  rw [← hv] at hy
  have HX := mkHid hx
  have HY := mkHid hy
  have z1 : ¬ 9223372036854775807 < 1 + u.size := by omega
  have z2 : ¬ 9223372036854775807 < 1 + u.size + 1 := by omega
  have z3 : ¬ 9223372036854775807 < 1 + u.size + 1 + 1 := by omega
  have z4 : ¬ 9223372036854775807 < 1 + u.size + 1 + 1 + 1 := by omega
  have z5 : ¬ 9223372036854775807 < 1 + u.size + 1 + 1 + 1 + v.size := by omega
  have z6 : ¬ 9223372036854775807 < 1 + u.size + 1 + 1 + 1 + v.size + 1 := by omega
  have HSQ : Hid (∀ W', Below w2.heap.size w2 W' → W'.cell? ⟨bP, oP, none⟩ = some (.slice a0 x.flat.length cap0) ∧ W'.cell? ⟨bP, oP + 1, none⟩ = some (.slice a1 y.flat.length cap1) ∧ W'.cell? ⟨w.heap.size, 1, none⟩ = some (.string ⟨#[42]⟩)) := fun W' h => ⟨keep p0 h, keep p1 h, keep f1 h⟩
  have hcd := (Below.refl w2.heap.size w2).drew
  rw [show ([x, y] : List Tm).length = 2 from rfl]
  clear hx hy hu hv r0 r1 hatP hbP hb2
  go_wp2_with fail
  refine wp_region_noPanic ?_
  refine wp_region_held_drew (S := (fun w' : World => w'.cell? ⟨bP, oP, none⟩ = some (.slice a0 x.flat.length cap0) ∧ w'.cell? ⟨bP, oP + 1, none⟩ = some (.slice a1 y.flat.length cap1) ∧ w'.cell? ⟨w.heap.size, 1, none⟩ = some (.string ⟨#[42]⟩))) (by kernel_rfl) (HSQ.out _ hcd) (fun hSd => ?_)
  refine wpAnyH_take (i := 0) (oi := _) (v := ?_) rfl (by kernel_rfl) (by kernel_rfl) (by kernel_rfl) (fun _ _ _ h => h) (Or.inl ⟨by rfl, ?_⟩) (by assumption) ?_
  rotate_left
  · (intro w' hSw; (try dsimp only at hSw); go_simp; try with_reducible rfl)
  (try simp only [Act.put, List.setIfInBounds_toArray, List.set_cons_zero, List.set_cons_succ])
  refine wpAnyH_take (i := 1) (oi := _) (v := ?_) rfl (by kernel_rfl) (by kernel_rfl) (by kernel_rfl) (fun _ _ _ h => h) (Or.inl ⟨by rfl, ?_⟩) (by assumption) ?_
  rotate_left
  · (intro w' hSw; (try dsimp only at hSw); go_simp; try with_reducible rfl)
  (try simp only [Act.put, List.setIfInBounds_toArray, List.set_cons_zero, List.set_cons_succ])
  refine wpAnyH_take (i := 2) (oi := _) (v := ?_) rfl (by kernel_rfl) (by kernel_rfl) (by kernel_rfl) (fun _ _ _ h => h) (Or.inl ⟨by rfl, ?_⟩) (by assumption) ?_
  rotate_left
  · (intro w' hSw; (try dsimp only at hSw); go_simp; try with_reducible rfl)
  (try simp only [Act.put, List.setIfInBounds_toArray, List.set_cons_zero, List.set_cons_succ])
  refine wpAnyH_take (i := 6) (oi := _) (v := ?_) rfl (by kernel_rfl) (by kernel_rfl) (by kernel_rfl) (fun _ _ _ h => h) (Or.inl ⟨by rfl, ?_⟩) (by assumption) ?_
  rotate_left
  · (intro w' hSw; (try dsimp only at hSw); go_simp; try with_reducible rfl)
  (try simp only [Act.put, List.setIfInBounds_toArray, List.set_cons_zero, List.set_cons_succ])
  refine wpAnyH_take (i := 7) (oi := _) (v := ?_) rfl (by kernel_rfl) (by kernel_rfl) (by kernel_rfl) (fun _ _ _ h => h) (Or.inl ⟨by rfl, ?_⟩) (by assumption) ?_
  rotate_left
  · (intro w' hSw; (try dsimp only at hSw); go_simp; try with_reducible rfl)
  (try simp only [Act.put, List.setIfInBounds_toArray, List.set_cons_zero, List.set_cons_succ])
  refine wpAnyH_take (i := 10) (oi := _) (v := ?_) rfl (by kernel_rfl) (by kernel_rfl) (by kernel_rfl) (fun _ _ _ h => h) (Or.inl ⟨by rfl, ?_⟩) (by assumption) ?_
  rotate_left
  · (intro w' hSw; (try dsimp only at hSw); go_simp; try with_reducible rfl)
  (try simp only [Act.put, List.setIfInBounds_toArray, List.set_cons_zero, List.set_cons_succ])
  refine wpAnyH_take (i := 11) (oi := _) (v := ?_) rfl (by kernel_rfl) (by kernel_rfl) (by kernel_rfl) (fun _ _ _ h => h) (Or.inl ⟨by rfl, ?_⟩) (by assumption) ?_
  rotate_left
  · (intro w' hSw; (try dsimp only at hSw); go_simp; try with_reducible rfl)
  (try simp only [Act.put, List.setIfInBounds_toArray, List.set_cons_zero, List.set_cons_succ])
  refine wpAnyH_take (i := 12) (oi := _) (v := ?_) rfl (by kernel_rfl) (by kernel_rfl) (by kernel_rfl) (fun _ _ _ h => h) (Or.inl ⟨by rfl, ?_⟩) (by assumption) ?_
  rotate_left
  · (intro w' hSw; (try dsimp only at hSw); go_simp; try with_reducible rfl)
  (try simp only [Act.put, List.setIfInBounds_toArray, List.set_cons_zero, List.set_cons_succ])
  refine wpAnyH_ready (rs := [3]) (by kernel_rfl) (by simp) ?_
  refine AllReadyH.cons (o := _) rfl (fun Kq hKq => ?_) AllReadyH.nil
  go_simp
  refine (HX.out _ hcd).mono ?_
  rintro e V1 ⟨rfl, hq1⟩
  have hc1 := hcd.then hq1
  try dsimp only
  refine hKq.out _ _ (HSQ.out _ hc1) (fun _ => ?_)
  clear hKq Kq
  (try simp only [Act.put, List.setIfInBounds_toArray, List.set_cons_zero, List.set_cons_succ])
  refine wpAnyH_take (i := 4) (oi := _) (v := ?_) rfl (by kernel_rfl) (by kernel_rfl) (by kernel_rfl) (fun _ _ _ h => h) (Or.inl ⟨by rfl, ?_⟩) (by assumption) ?_
  rotate_left
  · (intro w' hSw; (try dsimp only at hSw); go_simp; try with_reducible rfl)
  (try simp only [Act.put, List.setIfInBounds_toArray, List.set_cons_zero, List.set_cons_succ])
  refine wpAnyH_take (i := 5) (oi := _) (v := ?_) rfl (by kernel_rfl) (by kernel_rfl) (by kernel_rfl) (fun _ _ _ h => h) (Or.inl ⟨by rfl, ?_⟩) (by assumption) ?_
  rotate_left
  · (intro w' hSw; (try dsimp only at hSw); go_simp; try with_reducible rfl)
  (try simp only [Act.put, List.setIfInBounds_toArray, List.set_cons_zero, List.set_cons_succ])
  refine wpAnyH_take (i := 8) (oi := _) (v := ?_) rfl (by kernel_rfl) (by kernel_rfl) (by kernel_rfl) (fun _ _ _ h => h) (Or.inl ⟨by rfl, ?_⟩) (by assumption) ?_
  rotate_left
  · (intro w' hSw; (try dsimp only at hSw); go_simp; try with_reducible rfl)
  (try simp only [Act.put, List.setIfInBounds_toArray, List.set_cons_zero, List.set_cons_succ])
  refine wpAnyH_take (i := 9) (oi := _) (v := ?_) rfl (by kernel_rfl) (by kernel_rfl) (by kernel_rfl) (fun _ _ _ h => h) (Or.inl ⟨by rfl, ?_⟩) (by assumption) ?_
  rotate_left
  · (intro w' hSw; (try dsimp only at hSw); go_simp; try with_reducible rfl)
  (try simp only [Act.put, List.setIfInBounds_toArray, List.set_cons_zero, List.set_cons_succ])
  refine wpAnyH_ready (rs := [13]) (by kernel_rfl) (by simp) ?_
  refine AllReadyH.cons (o := _) rfl (fun Kq hKq => ?_) AllReadyH.nil
  go_simp
  refine (HY.out _ hc1).mono ?_
  rintro e V2 ⟨rfl, hq2⟩
  have hc2 := hc1.then hq2
  try dsimp only
  refine hKq.out _ _ (HSQ.out _ hc2) (fun _ => ?_)
  clear hKq Kq
  (try simp only [Act.put, List.setIfInBounds_toArray, List.set_cons_zero, List.set_cons_succ])
  refine wpAnyH_take (i := 14) (oi := _) (v := ?_) rfl (by kernel_rfl) (by kernel_rfl) (by kernel_rfl) (fun _ _ _ h => h) (Or.inl ⟨by rfl, ?_⟩) (by assumption) ?_
  rotate_left
  · (intro w' hSw; (try dsimp only at hSw); go_simp; try with_reducible rfl)
  (try simp only [Act.put, List.setIfInBounds_toArray, List.set_cons_zero, List.set_cons_succ])
  refine wpAnyH_take (i := 15) (oi := _) (v := ?_) rfl (by kernel_rfl) (by kernel_rfl) (by kernel_rfl) (fun _ _ _ h => h) (Or.inl ⟨by rfl, ?_⟩) (by assumption) ?_
  rotate_left
  · (intro w' hSw; (try dsimp only at hSw); go_simp; try with_reducible rfl)
  (try simp only [Act.put, List.setIfInBounds_toArray, List.set_cons_zero, List.set_cons_succ])
  refine wpAnyH_ready (rs := [16]) (by kernel_rfl) (by simp) ?_
  refine AllReadyH.cons (o := _) rfl (fun Kq hKq => ?_) AllReadyH.nil
  go_simp
  try dsimp only
  refine hKq.out _ _ (HSQ.out _ hc2) (fun _ => ?_)
  clear hKq Kq
  (try simp only [Act.put, List.setIfInBounds_toArray, List.set_cons_zero, List.set_cons_succ])
  refine wpAnyH_done (by kernel_rfl) (NoPanic.normal ?_) _
  have HQ := mkHid hc2
  clear hc1 hc2 hq1 hq2
  go_wp2_with fail
  go_ret
  exact ⟨by rw [← HE.out]; rfl, hb12.then HQ.out⟩
set_option maxRecDepth 100000 in
set_option maxHeartbeats 8000000 in
theorem rt_pl0 {N : Nat} (HT : RefT N) (hN2 : N + 1 ≤ 200) (k : Int) (s : ByteArray) (n : Int) (ts : List Tm) (a : Option Addr) (cap : Nat) (w : World) (ht : (Tm.mk ⟨k, s, n⟩ ts).ok) (hN : (Tm.mk ⟨k, s, n⟩ ts).flat.length ≤ N + 1) (hlen : (textT (Tm.mk ⟨k, s, n⟩ ts)).length ≤ 1000000000) (hr : Row w a cap (Tm.mk ⟨k, s, n⟩ ts).flat) (hk : k = 3) (hn : n = 0) (hs1 : 0 < s.size) (hs2 : s.size ≤ 12) (htx0 : textT (Tm.mk ⟨3, s, 0⟩ ts) = nameL s.data.toList) (e1 : (s.toList == [91, 93]) = false) :
    Calls Tryd.prog 17 #[.slice a (Tm.mk ⟨k, s, n⟩ ts).flat.length cap] w fun e w' => e = .returned (.string (tx (textT (Tm.mk ⟨k, s, n⟩ ts)))) ∧ Below w.heap.size w w' := by
  subst hk
  subst hn
  have h0 := flat_pos (Tm.mk ⟨3, s, 0⟩ ts)
  have hle := hr.le
  have hmx := hr.max
  have hRi := right_flat ht (by omega)
  have hpf : partsL (Tm.mk ⟨3, s, 0⟩ ts).flat = ts.map Tm.flat := parts_flat ht
  have hsm : ∀ u ∈ ts, u.flat.length ≤ N := fun u hu => by have := flat_arg_lt (t := Tm.mk ⟨3, s, 0⟩ ts) (u := u) hu; omega
  have hoks : oks ts := ((ok_iff _).1 ht).2.2
  have htl : ts.length = ar ⟨3, s, 0⟩ := ((ok_iff _).1 ht).2.1
  obtain ⟨bC, off, rfl, hbC, hat⟩ := hr.cases.resolve_left (fun e => by simp [e] at h0)
  obtain ⟨c0, c1, c2, hf⟩ := cel_at hat (Below.refl _ _) h0
  rw [flat_hd _ h0] at c0 c1 c2 hf
  simp only [Nat.zero_mul, Nat.add_zero] at c0 c1 c2
  replace c0 : w.cell? ⟨bC, off, none⟩ = some (.int .i64 3) := c0
  replace c1 : w.cell? ⟨bC, off + 1, none⟩ = some (.string s) := c1
  replace c2 : w.cell? ⟨bC, off + 2, none⟩ = some (.int .i64 0) := c2
  have hb1 : Below w.heap.size w (w.alloc (.cells #[.int .i64 3, .string s, .int .i64 0] 62)) := (Below.refl _ _).new _
  have f0 : (w.alloc (.cells #[.int .i64 3, .string s, .int .i64 0] 62)).cell? ⟨w.heap.size, 0, none⟩ = some (.int .i64 3) := World.cell?_alloc_at _ _ _ 0 rfl
  have f1 : (w.alloc (.cells #[.int .i64 3, .string s, .int .i64 0] 62)).cell? ⟨w.heap.size, 1, none⟩ = some (.string s) := World.cell?_alloc_at _ _ _ 1 rfl
  have f2 : (w.alloc (.cells #[.int .i64 3, .string s, .int .i64 0] 62)).cell? ⟨w.heap.size, 2, none⟩ = some (.int .i64 0) := World.cell?_alloc_at _ _ _ 2 rfl
  have y1 : decide ((0 : Int) < (((Tm.mk ⟨3, s, 0⟩ ts).flat.length : Nat) : Int)) = true := decide_eq_true (by omega)
  have y2 : decide (0 < (Tm.mk ⟨3, s, 0⟩ ts).flat.length) = true := decide_eq_true (by omega)
  have hr1 := hr.below hb1
  have HTX := mkHid htx0
  rw [htx0] at hlen
  clear htx0
  have HR1 := mkHid hr1
  have HB1 := mkHid hb1
  have HRI := mkHid hRi
  have HPF := mkHid hpf
  have HSM := mkHid hsm
  have HOK := mkHid hoks
  have HT' := mkHid HT
  have HTO := mkHid ht
  have HTL := mkHid htl
  clear htl hr hr1 hb1 hRi hpf hsm hoks HT hat hbC ht
  go_enter Tryd.func17, Tryd.ntmps17
  go_wp2_with fail
  refine (refparts_z _ cap _ _ HR1.out HRI.out).mono ?_
  rintro e w2 ⟨a', cap', vs, rfl, hown, hsl, hb2⟩
  obtain ⟨a2, cap2, e2, hrp⟩ := own_rowL hown (hsl w2 (HR1.out.below hb2))
  injection e2 with e2 _ e3
  subst e2; subst e3
  rw [HPF.out] at hrp ⊢
  rw [List.length_map]
  have hb12 := HB1.out.then hb2
  replace f0 := keep f0 hb2
  replace f1 := keep f1 hb2
  replace f2 := keep f2 hb2
  have HRP := mkHid hrp
  clear hown hsl c0 c1 c2
  have hnl : (nameL s.data.toList).length ≤ 100 := by unfold nameL; split <;> simp <;> omega
  go_wp2_with fail
  refine (rQuote_any s _ (by omega) hs1).mono ?_
  rintro e w3 ⟨rfl, rfl⟩
  go_wp2_with fail
  go_ret
  exact ⟨by rw [HTX.out]; rfl, hb12⟩
set_option maxRecDepth 100000 in
set_option maxHeartbeats 8000000 in
theorem rt_pl1 {N : Nat} (HT : RefT N) (hN2 : N + 1 ≤ 200) (k : Int) (s : ByteArray) (n : Int) (ts : List Tm) (a : Option Addr) (cap : Nat) (w : World) (ht : (Tm.mk ⟨k, s, n⟩ ts).ok) (hN : (Tm.mk ⟨k, s, n⟩ ts).flat.length ≤ N + 1) (hlen : (textT (Tm.mk ⟨k, s, n⟩ ts)).length ≤ 1000000000) (hr : Row w a cap (Tm.mk ⟨k, s, n⟩ ts).flat) (hk : k = 3) (hn : n = 1) (hs1 : 0 < s.size) (hs2 : s.size ≤ 12) (htx0 : textT (Tm.mk ⟨3, s, 1⟩ ts) = nameL s.data.toList ++ (40 :: (sepL [44] (textsT ts) ++ [41]))) (e1 : (s.toList == [45]) = false) :
    Calls Tryd.prog 17 #[.slice a (Tm.mk ⟨k, s, n⟩ ts).flat.length cap] w fun e w' => e = .returned (.string (tx (textT (Tm.mk ⟨k, s, n⟩ ts)))) ∧ Below w.heap.size w w' := by
  subst hk
  subst hn
  have h0 := flat_pos (Tm.mk ⟨3, s, 1⟩ ts)
  have hle := hr.le
  have hmx := hr.max
  have hRi := right_flat ht (by omega)
  have hpf : partsL (Tm.mk ⟨3, s, 1⟩ ts).flat = ts.map Tm.flat := parts_flat ht
  have hsm : ∀ u ∈ ts, u.flat.length ≤ N := fun u hu => by have := flat_arg_lt (t := Tm.mk ⟨3, s, 1⟩ ts) (u := u) hu; omega
  have hoks : oks ts := ((ok_iff _).1 ht).2.2
  have htl : ts.length = ar ⟨3, s, 1⟩ := ((ok_iff _).1 ht).2.1
  obtain ⟨bC, off, rfl, hbC, hat⟩ := hr.cases.resolve_left (fun e => by simp [e] at h0)
  obtain ⟨c0, c1, c2, hf⟩ := cel_at hat (Below.refl _ _) h0
  rw [flat_hd _ h0] at c0 c1 c2 hf
  simp only [Nat.zero_mul, Nat.add_zero] at c0 c1 c2
  replace c0 : w.cell? ⟨bC, off, none⟩ = some (.int .i64 3) := c0
  replace c1 : w.cell? ⟨bC, off + 1, none⟩ = some (.string s) := c1
  replace c2 : w.cell? ⟨bC, off + 2, none⟩ = some (.int .i64 1) := c2
  have hb1 : Below w.heap.size w (w.alloc (.cells #[.int .i64 3, .string s, .int .i64 1] 62)) := (Below.refl _ _).new _
  have f0 : (w.alloc (.cells #[.int .i64 3, .string s, .int .i64 1] 62)).cell? ⟨w.heap.size, 0, none⟩ = some (.int .i64 3) := World.cell?_alloc_at _ _ _ 0 rfl
  have f1 : (w.alloc (.cells #[.int .i64 3, .string s, .int .i64 1] 62)).cell? ⟨w.heap.size, 1, none⟩ = some (.string s) := World.cell?_alloc_at _ _ _ 1 rfl
  have f2 : (w.alloc (.cells #[.int .i64 3, .string s, .int .i64 1] 62)).cell? ⟨w.heap.size, 2, none⟩ = some (.int .i64 1) := World.cell?_alloc_at _ _ _ 2 rfl
  have y1 : decide ((0 : Int) < (((Tm.mk ⟨3, s, 1⟩ ts).flat.length : Nat) : Int)) = true := decide_eq_true (by omega)
  have y2 : decide (0 < (Tm.mk ⟨3, s, 1⟩ ts).flat.length) = true := decide_eq_true (by omega)
  have hr1 := hr.below hb1
  have HTX := mkHid htx0
  rw [htx0] at hlen
  clear htx0
  have HR1 := mkHid hr1
  have HB1 := mkHid hb1
  have HRI := mkHid hRi
  have HPF := mkHid hpf
  have HSM := mkHid hsm
  have HOK := mkHid hoks
  have HT' := mkHid HT
  have HTO := mkHid ht
  have HTL := mkHid htl
  clear htl hr hr1 hb1 hRi hpf hsm hoks HT hat hbC ht
  go_enter Tryd.func17, Tryd.ntmps17
  go_wp2_with fail
  refine (refparts_z _ cap _ _ HR1.out HRI.out).mono ?_
  rintro e w2 ⟨a', cap', vs, rfl, hown, hsl, hb2⟩
  obtain ⟨a2, cap2, e2, hrp⟩ := own_rowL hown (hsl w2 (HR1.out.below hb2))
  injection e2 with e2 _ e3
  subst e2; subst e3
  rw [HPF.out] at hrp ⊢
  rw [List.length_map]
  have hb12 := HB1.out.then hb2
  replace f0 := keep f0 hb2
  replace f1 := keep f1 hb2
  replace f2 := keep f2 hb2
  have HRP := mkHid hrp
  clear hown hsl c0 c1 c2
  have hnl : (nameL s.data.toList).length ≤ 100 := by unfold nameL; split <;> simp <;> omega
  have hl1 : (sepL [44] (textsT ts)).length ≤ 1000000000 - 10 ∨ (sepL [44] (textsT ts)).length + (nameL s.data.toList).length + 2 ≤ 1000000000 := by right; simp at hlen; omega
  have hl2 : (sepL [44] (textsT ts)).length + (nameL s.data.toList).length + 2 ≤ 1000000000 := by simp at hlen; omega
  have htxs := rTexts_any HT'.out ts a' cap' w2 HOK.out HSM.out (by omega) HRP.out
  obtain ⟨u, hu⟩ : ∃ u, u = tx (nameL s.data.toList) := ⟨_, rfl⟩
  obtain ⟨v, hv⟩ : ∃ v, v = tx (sepL [44] (textsT ts)) := ⟨_, rfl⟩
  have huv : u.size + v.size + 2 ≤ 1000000000 := by rw [hu, hv, tx_size, tx_size]; omega
  have HE : Hid (u ++ tx [40] ++ v ++ tx [41] = tx (textT (Tm.mk ⟨3, s, 1⟩ ts))) := mkHid (by rw [HTX.out, hu, hv]; simp only [tx_append]; simp)
  have hqu : ∀ W, Calls Tryd.prog 21 #[.string s] W fun e w' => e = .returned (.string u) ∧ W = w' := fun W => by rw [hu]; exact rQuote_any s W (by omega) hs1
  rw [← hv] at htxs
  have HQU := mkHid hqu
  have HTS := mkHid htxs
  have z1 : ¬ 9223372036854775807 < u.size + 1 := by omega
  have z2 : ¬ 9223372036854775807 < u.size + 1 + v.size := by omega
  have z3 : ¬ 9223372036854775807 < u.size + 1 + v.size + 1 := by omega
  clear hqu htxs hu hv hl1 hl2 hb2
  go_wp2_with fail
  refine (HQU.out _).mono ?_
  rintro e w3 ⟨rfl, rfl⟩
  go_wp2_with fail
  refine HTS.out.mono ?_
  rintro e w4 ⟨rfl, hb4⟩
  have HB4 := mkHid hb4
  clear hb4
  go_wp2_with fail
  go_ret
  exact ⟨by rw [← HE.out]; rfl, hb12.then HB4.out⟩
set_option maxRecDepth 100000 in
set_option maxHeartbeats 8000000 in
theorem rt_pl2 {N : Nat} (HT : RefT N) (hN2 : N + 1 ≤ 200) (k : Int) (s : ByteArray) (n : Int) (ts : List Tm) (a : Option Addr) (cap : Nat) (w : World) (ht : (Tm.mk ⟨k, s, n⟩ ts).ok) (hN : (Tm.mk ⟨k, s, n⟩ ts).flat.length ≤ N + 1) (hlen : (textT (Tm.mk ⟨k, s, n⟩ ts)).length ≤ 1000000000) (hr : Row w a cap (Tm.mk ⟨k, s, n⟩ ts).flat) (hk : k = 3) (hn : n = 2) (hs1 : 0 < s.size) (hs2 : s.size ≤ 12) (htx0 : textT (Tm.mk ⟨3, s, 2⟩ ts) = nameL s.data.toList ++ (40 :: (sepL [44] (textsT ts) ++ [41]))) (e1 : (s.toList == [61]) = false) (e2 : (s.toList == [60]) = false) (e3 : (s.toList == [43]) = false) (e4 : (s.toList == [45]) = false) (e5 : (s.toList == [42]) = false) (e6 : (s.toList == [46]) = false) :
    Calls Tryd.prog 17 #[.slice a (Tm.mk ⟨k, s, n⟩ ts).flat.length cap] w fun e w' => e = .returned (.string (tx (textT (Tm.mk ⟨k, s, n⟩ ts)))) ∧ Below w.heap.size w w' := by
  subst hk
  subst hn
  have h0 := flat_pos (Tm.mk ⟨3, s, 2⟩ ts)
  have hle := hr.le
  have hmx := hr.max
  have hRi := right_flat ht (by omega)
  have hpf : partsL (Tm.mk ⟨3, s, 2⟩ ts).flat = ts.map Tm.flat := parts_flat ht
  have hsm : ∀ u ∈ ts, u.flat.length ≤ N := fun u hu => by have := flat_arg_lt (t := Tm.mk ⟨3, s, 2⟩ ts) (u := u) hu; omega
  have hoks : oks ts := ((ok_iff _).1 ht).2.2
  have htl : ts.length = ar ⟨3, s, 2⟩ := ((ok_iff _).1 ht).2.1
  obtain ⟨bC, off, rfl, hbC, hat⟩ := hr.cases.resolve_left (fun e => by simp [e] at h0)
  obtain ⟨c0, c1, c2, hf⟩ := cel_at hat (Below.refl _ _) h0
  rw [flat_hd _ h0] at c0 c1 c2 hf
  simp only [Nat.zero_mul, Nat.add_zero] at c0 c1 c2
  replace c0 : w.cell? ⟨bC, off, none⟩ = some (.int .i64 3) := c0
  replace c1 : w.cell? ⟨bC, off + 1, none⟩ = some (.string s) := c1
  replace c2 : w.cell? ⟨bC, off + 2, none⟩ = some (.int .i64 2) := c2
  have hb1 : Below w.heap.size w (w.alloc (.cells #[.int .i64 3, .string s, .int .i64 2] 62)) := (Below.refl _ _).new _
  have f0 : (w.alloc (.cells #[.int .i64 3, .string s, .int .i64 2] 62)).cell? ⟨w.heap.size, 0, none⟩ = some (.int .i64 3) := World.cell?_alloc_at _ _ _ 0 rfl
  have f1 : (w.alloc (.cells #[.int .i64 3, .string s, .int .i64 2] 62)).cell? ⟨w.heap.size, 1, none⟩ = some (.string s) := World.cell?_alloc_at _ _ _ 1 rfl
  have f2 : (w.alloc (.cells #[.int .i64 3, .string s, .int .i64 2] 62)).cell? ⟨w.heap.size, 2, none⟩ = some (.int .i64 2) := World.cell?_alloc_at _ _ _ 2 rfl
  have y1 : decide ((0 : Int) < (((Tm.mk ⟨3, s, 2⟩ ts).flat.length : Nat) : Int)) = true := decide_eq_true (by omega)
  have y2 : decide (0 < (Tm.mk ⟨3, s, 2⟩ ts).flat.length) = true := decide_eq_true (by omega)
  have hr1 := hr.below hb1
  have HTX := mkHid htx0
  rw [htx0] at hlen
  clear htx0
  have HR1 := mkHid hr1
  have HB1 := mkHid hb1
  have HRI := mkHid hRi
  have HPF := mkHid hpf
  have HSM := mkHid hsm
  have HOK := mkHid hoks
  have HT' := mkHid HT
  have HTO := mkHid ht
  have HTL := mkHid htl
  clear htl hr hr1 hb1 hRi hpf hsm hoks HT hat hbC ht
  go_enter Tryd.func17, Tryd.ntmps17
  go_wp2_with fail
  refine (refparts_z _ cap _ _ HR1.out HRI.out).mono ?_
  rintro e w2 ⟨a', cap', vs, rfl, hown, hsl, hb2⟩
  obtain ⟨a2, cap2, e2, hrp⟩ := own_rowL hown (hsl w2 (HR1.out.below hb2))
  injection e2 with e2 _ e3
  subst e2; subst e3
  rw [HPF.out] at hrp ⊢
  rw [List.length_map]
  have hb12 := HB1.out.then hb2
  replace f0 := keep f0 hb2
  replace f1 := keep f1 hb2
  replace f2 := keep f2 hb2
  have HRP := mkHid hrp
  clear hown hsl c0 c1 c2
  have hnl : (nameL s.data.toList).length ≤ 100 := by unfold nameL; split <;> simp <;> omega
  have hl1 : (sepL [44] (textsT ts)).length ≤ 1000000000 - 10 ∨ (sepL [44] (textsT ts)).length + (nameL s.data.toList).length + 2 ≤ 1000000000 := by right; simp at hlen; omega
  have hl2 : (sepL [44] (textsT ts)).length + (nameL s.data.toList).length + 2 ≤ 1000000000 := by simp at hlen; omega
  have htxs := rTexts_any HT'.out ts a' cap' w2 HOK.out HSM.out (by omega) HRP.out
  obtain ⟨u, hu⟩ : ∃ u, u = tx (nameL s.data.toList) := ⟨_, rfl⟩
  obtain ⟨v, hv⟩ : ∃ v, v = tx (sepL [44] (textsT ts)) := ⟨_, rfl⟩
  have huv : u.size + v.size + 2 ≤ 1000000000 := by rw [hu, hv, tx_size, tx_size]; omega
  have HE : Hid (u ++ tx [40] ++ v ++ tx [41] = tx (textT (Tm.mk ⟨3, s, 2⟩ ts))) := mkHid (by rw [HTX.out, hu, hv]; simp only [tx_append]; simp)
  have hqu : ∀ W, Calls Tryd.prog 21 #[.string s] W fun e w' => e = .returned (.string u) ∧ W = w' := fun W => by rw [hu]; exact rQuote_any s W (by omega) hs1
  rw [← hv] at htxs
  have HQU := mkHid hqu
  have HTS := mkHid htxs
  have z1 : ¬ 9223372036854775807 < u.size + 1 := by omega
  have z2 : ¬ 9223372036854775807 < u.size + 1 + v.size := by omega
  have z3 : ¬ 9223372036854775807 < u.size + 1 + v.size + 1 := by omega
  clear hqu htxs hu hv hl1 hl2 hb2
  go_wp2_with fail
  refine (HQU.out _).mono ?_
  rintro e w3 ⟨rfl, rfl⟩
  go_wp2_with fail
  refine HTS.out.mono ?_
  rintro e w4 ⟨rfl, hb4⟩
  have HB4 := mkHid hb4
  clear hb4
  go_wp2_with fail
  go_ret
  exact ⟨by rw [← HE.out]; rfl, hb12.then HB4.out⟩
set_option maxRecDepth 100000 in
set_option maxHeartbeats 8000000 in
theorem rt_pl3 {N : Nat} (HT : RefT N) (hN2 : N + 1 ≤ 200) (k : Int) (s : ByteArray) (n : Int) (ts : List Tm) (a : Option Addr) (cap : Nat) (w : World) (ht : (Tm.mk ⟨k, s, n⟩ ts).ok) (hN : (Tm.mk ⟨k, s, n⟩ ts).flat.length ≤ N + 1) (hlen : (textT (Tm.mk ⟨k, s, n⟩ ts)).length ≤ 1000000000) (hr : Row w a cap (Tm.mk ⟨k, s, n⟩ ts).flat) (hk : k = 3) (hn : n = 3) (hs1 : 0 < s.size) (hs2 : s.size ≤ 12) (htx0 : textT (Tm.mk ⟨3, s, 3⟩ ts) = nameL s.data.toList ++ (40 :: (sepL [44] (textsT ts) ++ [41]))) :
    Calls Tryd.prog 17 #[.slice a (Tm.mk ⟨k, s, n⟩ ts).flat.length cap] w fun e w' => e = .returned (.string (tx (textT (Tm.mk ⟨k, s, n⟩ ts)))) ∧ Below w.heap.size w w' := by
  subst hk
  subst hn
  have h0 := flat_pos (Tm.mk ⟨3, s, 3⟩ ts)
  have hle := hr.le
  have hmx := hr.max
  have hRi := right_flat ht (by omega)
  have hpf : partsL (Tm.mk ⟨3, s, 3⟩ ts).flat = ts.map Tm.flat := parts_flat ht
  have hsm : ∀ u ∈ ts, u.flat.length ≤ N := fun u hu => by have := flat_arg_lt (t := Tm.mk ⟨3, s, 3⟩ ts) (u := u) hu; omega
  have hoks : oks ts := ((ok_iff _).1 ht).2.2
  have htl : ts.length = ar ⟨3, s, 3⟩ := ((ok_iff _).1 ht).2.1
  obtain ⟨bC, off, rfl, hbC, hat⟩ := hr.cases.resolve_left (fun e => by simp [e] at h0)
  obtain ⟨c0, c1, c2, hf⟩ := cel_at hat (Below.refl _ _) h0
  rw [flat_hd _ h0] at c0 c1 c2 hf
  simp only [Nat.zero_mul, Nat.add_zero] at c0 c1 c2
  replace c0 : w.cell? ⟨bC, off, none⟩ = some (.int .i64 3) := c0
  replace c1 : w.cell? ⟨bC, off + 1, none⟩ = some (.string s) := c1
  replace c2 : w.cell? ⟨bC, off + 2, none⟩ = some (.int .i64 3) := c2
  have hb1 : Below w.heap.size w (w.alloc (.cells #[.int .i64 3, .string s, .int .i64 3] 62)) := (Below.refl _ _).new _
  have f0 : (w.alloc (.cells #[.int .i64 3, .string s, .int .i64 3] 62)).cell? ⟨w.heap.size, 0, none⟩ = some (.int .i64 3) := World.cell?_alloc_at _ _ _ 0 rfl
  have f1 : (w.alloc (.cells #[.int .i64 3, .string s, .int .i64 3] 62)).cell? ⟨w.heap.size, 1, none⟩ = some (.string s) := World.cell?_alloc_at _ _ _ 1 rfl
  have f2 : (w.alloc (.cells #[.int .i64 3, .string s, .int .i64 3] 62)).cell? ⟨w.heap.size, 2, none⟩ = some (.int .i64 3) := World.cell?_alloc_at _ _ _ 2 rfl
  have y1 : decide ((0 : Int) < (((Tm.mk ⟨3, s, 3⟩ ts).flat.length : Nat) : Int)) = true := decide_eq_true (by omega)
  have y2 : decide (0 < (Tm.mk ⟨3, s, 3⟩ ts).flat.length) = true := decide_eq_true (by omega)
  have hr1 := hr.below hb1
  have HTX := mkHid htx0
  rw [htx0] at hlen
  clear htx0
  have HR1 := mkHid hr1
  have HB1 := mkHid hb1
  have HRI := mkHid hRi
  have HPF := mkHid hpf
  have HSM := mkHid hsm
  have HOK := mkHid hoks
  have HT' := mkHid HT
  have HTO := mkHid ht
  have HTL := mkHid htl
  clear htl hr hr1 hb1 hRi hpf hsm hoks HT hat hbC ht
  go_enter Tryd.func17, Tryd.ntmps17
  go_wp2_with fail
  refine (refparts_z _ cap _ _ HR1.out HRI.out).mono ?_
  rintro e w2 ⟨a', cap', vs, rfl, hown, hsl, hb2⟩
  obtain ⟨a2, cap2, e2, hrp⟩ := own_rowL hown (hsl w2 (HR1.out.below hb2))
  injection e2 with e2 _ e3
  subst e2; subst e3
  rw [HPF.out] at hrp ⊢
  rw [List.length_map]
  have hb12 := HB1.out.then hb2
  replace f0 := keep f0 hb2
  replace f1 := keep f1 hb2
  replace f2 := keep f2 hb2
  have HRP := mkHid hrp
  clear hown hsl c0 c1 c2
  have hnl : (nameL s.data.toList).length ≤ 100 := by unfold nameL; split <;> simp <;> omega
  have hl1 : (sepL [44] (textsT ts)).length ≤ 1000000000 - 10 ∨ (sepL [44] (textsT ts)).length + (nameL s.data.toList).length + 2 ≤ 1000000000 := by right; simp at hlen; omega
  have hl2 : (sepL [44] (textsT ts)).length + (nameL s.data.toList).length + 2 ≤ 1000000000 := by simp at hlen; omega
  have htxs := rTexts_any HT'.out ts a' cap' w2 HOK.out HSM.out (by omega) HRP.out
  obtain ⟨u, hu⟩ : ∃ u, u = tx (nameL s.data.toList) := ⟨_, rfl⟩
  obtain ⟨v, hv⟩ : ∃ v, v = tx (sepL [44] (textsT ts)) := ⟨_, rfl⟩
  have huv : u.size + v.size + 2 ≤ 1000000000 := by rw [hu, hv, tx_size, tx_size]; omega
  have HE : Hid (u ++ tx [40] ++ v ++ tx [41] = tx (textT (Tm.mk ⟨3, s, 3⟩ ts))) := mkHid (by rw [HTX.out, hu, hv]; simp only [tx_append]; simp)
  have hqu : ∀ W, Calls Tryd.prog 21 #[.string s] W fun e w' => e = .returned (.string u) ∧ W = w' := fun W => by rw [hu]; exact rQuote_any s W (by omega) hs1
  rw [← hv] at htxs
  have HQU := mkHid hqu
  have HTS := mkHid htxs
  have z1 : ¬ 9223372036854775807 < u.size + 1 := by omega
  have z2 : ¬ 9223372036854775807 < u.size + 1 + v.size := by omega
  have z3 : ¬ 9223372036854775807 < u.size + 1 + v.size + 1 := by omega
  clear hqu htxs hu hv hl1 hl2 hb2
  go_wp2_with fail
  refine (HQU.out _).mono ?_
  rintro e w3 ⟨rfl, rfl⟩
  go_wp2_with fail
  refine HTS.out.mono ?_
  rintro e w4 ⟨rfl, hb4⟩
  have HB4 := mkHid hb4
  clear hb4
  go_wp2_with fail
  go_ret
  exact ⟨by rw [← HE.out]; rfl, hb12.then HB4.out⟩
set_option maxRecDepth 100000 in
set_option maxHeartbeats 8000000 in
theorem rt_pl4 {N : Nat} (HT : RefT N) (hN2 : N + 1 ≤ 200) (k : Int) (s : ByteArray) (n : Int) (ts : List Tm) (a : Option Addr) (cap : Nat) (w : World) (ht : (Tm.mk ⟨k, s, n⟩ ts).ok) (hN : (Tm.mk ⟨k, s, n⟩ ts).flat.length ≤ N + 1) (hlen : (textT (Tm.mk ⟨k, s, n⟩ ts)).length ≤ 1000000000) (hr : Row w a cap (Tm.mk ⟨k, s, n⟩ ts).flat) (hk : k = 3) (hn : n = 4) (hs1 : 0 < s.size) (hs2 : s.size ≤ 12) (htx0 : textT (Tm.mk ⟨3, s, 4⟩ ts) = nameL s.data.toList ++ (40 :: (sepL [44] (textsT ts) ++ [41]))) :
    Calls Tryd.prog 17 #[.slice a (Tm.mk ⟨k, s, n⟩ ts).flat.length cap] w fun e w' => e = .returned (.string (tx (textT (Tm.mk ⟨k, s, n⟩ ts)))) ∧ Below w.heap.size w w' := by
  subst hk
  subst hn
  have h0 := flat_pos (Tm.mk ⟨3, s, 4⟩ ts)
  have hle := hr.le
  have hmx := hr.max
  have hRi := right_flat ht (by omega)
  have hpf : partsL (Tm.mk ⟨3, s, 4⟩ ts).flat = ts.map Tm.flat := parts_flat ht
  have hsm : ∀ u ∈ ts, u.flat.length ≤ N := fun u hu => by have := flat_arg_lt (t := Tm.mk ⟨3, s, 4⟩ ts) (u := u) hu; omega
  have hoks : oks ts := ((ok_iff _).1 ht).2.2
  have htl : ts.length = ar ⟨3, s, 4⟩ := ((ok_iff _).1 ht).2.1
  obtain ⟨bC, off, rfl, hbC, hat⟩ := hr.cases.resolve_left (fun e => by simp [e] at h0)
  obtain ⟨c0, c1, c2, hf⟩ := cel_at hat (Below.refl _ _) h0
  rw [flat_hd _ h0] at c0 c1 c2 hf
  simp only [Nat.zero_mul, Nat.add_zero] at c0 c1 c2
  replace c0 : w.cell? ⟨bC, off, none⟩ = some (.int .i64 3) := c0
  replace c1 : w.cell? ⟨bC, off + 1, none⟩ = some (.string s) := c1
  replace c2 : w.cell? ⟨bC, off + 2, none⟩ = some (.int .i64 4) := c2
  have hb1 : Below w.heap.size w (w.alloc (.cells #[.int .i64 3, .string s, .int .i64 4] 62)) := (Below.refl _ _).new _
  have f0 : (w.alloc (.cells #[.int .i64 3, .string s, .int .i64 4] 62)).cell? ⟨w.heap.size, 0, none⟩ = some (.int .i64 3) := World.cell?_alloc_at _ _ _ 0 rfl
  have f1 : (w.alloc (.cells #[.int .i64 3, .string s, .int .i64 4] 62)).cell? ⟨w.heap.size, 1, none⟩ = some (.string s) := World.cell?_alloc_at _ _ _ 1 rfl
  have f2 : (w.alloc (.cells #[.int .i64 3, .string s, .int .i64 4] 62)).cell? ⟨w.heap.size, 2, none⟩ = some (.int .i64 4) := World.cell?_alloc_at _ _ _ 2 rfl
  have y1 : decide ((0 : Int) < (((Tm.mk ⟨3, s, 4⟩ ts).flat.length : Nat) : Int)) = true := decide_eq_true (by omega)
  have y2 : decide (0 < (Tm.mk ⟨3, s, 4⟩ ts).flat.length) = true := decide_eq_true (by omega)
  have hr1 := hr.below hb1
  have HTX := mkHid htx0
  rw [htx0] at hlen
  clear htx0
  have HR1 := mkHid hr1
  have HB1 := mkHid hb1
  have HRI := mkHid hRi
  have HPF := mkHid hpf
  have HSM := mkHid hsm
  have HOK := mkHid hoks
  have HT' := mkHid HT
  have HTO := mkHid ht
  have HTL := mkHid htl
  clear htl hr hr1 hb1 hRi hpf hsm hoks HT hat hbC ht
  go_enter Tryd.func17, Tryd.ntmps17
  go_wp2_with fail
  refine (refparts_z _ cap _ _ HR1.out HRI.out).mono ?_
  rintro e w2 ⟨a', cap', vs, rfl, hown, hsl, hb2⟩
  obtain ⟨a2, cap2, e2, hrp⟩ := own_rowL hown (hsl w2 (HR1.out.below hb2))
  injection e2 with e2 _ e3
  subst e2; subst e3
  rw [HPF.out] at hrp ⊢
  rw [List.length_map]
  have hb12 := HB1.out.then hb2
  replace f0 := keep f0 hb2
  replace f1 := keep f1 hb2
  replace f2 := keep f2 hb2
  have HRP := mkHid hrp
  clear hown hsl c0 c1 c2
  have hnl : (nameL s.data.toList).length ≤ 100 := by unfold nameL; split <;> simp <;> omega
  have hl1 : (sepL [44] (textsT ts)).length ≤ 1000000000 - 10 ∨ (sepL [44] (textsT ts)).length + (nameL s.data.toList).length + 2 ≤ 1000000000 := by right; simp at hlen; omega
  have hl2 : (sepL [44] (textsT ts)).length + (nameL s.data.toList).length + 2 ≤ 1000000000 := by simp at hlen; omega
  have htxs := rTexts_any HT'.out ts a' cap' w2 HOK.out HSM.out (by omega) HRP.out
  obtain ⟨u, hu⟩ : ∃ u, u = tx (nameL s.data.toList) := ⟨_, rfl⟩
  obtain ⟨v, hv⟩ : ∃ v, v = tx (sepL [44] (textsT ts)) := ⟨_, rfl⟩
  have huv : u.size + v.size + 2 ≤ 1000000000 := by rw [hu, hv, tx_size, tx_size]; omega
  have HE : Hid (u ++ tx [40] ++ v ++ tx [41] = tx (textT (Tm.mk ⟨3, s, 4⟩ ts))) := mkHid (by rw [HTX.out, hu, hv]; simp only [tx_append]; simp)
  have hqu : ∀ W, Calls Tryd.prog 21 #[.string s] W fun e w' => e = .returned (.string u) ∧ W = w' := fun W => by rw [hu]; exact rQuote_any s W (by omega) hs1
  rw [← hv] at htxs
  have HQU := mkHid hqu
  have HTS := mkHid htxs
  have z1 : ¬ 9223372036854775807 < u.size + 1 := by omega
  have z2 : ¬ 9223372036854775807 < u.size + 1 + v.size := by omega
  have z3 : ¬ 9223372036854775807 < u.size + 1 + v.size + 1 := by omega
  clear hqu htxs hu hv hl1 hl2 hb2
  go_wp2_with fail
  refine (HQU.out _).mono ?_
  rintro e w3 ⟨rfl, rfl⟩
  go_wp2_with fail
  refine HTS.out.mono ?_
  rintro e w4 ⟨rfl, hb4⟩
  have HB4 := mkHid hb4
  clear hb4
  go_wp2_with fail
  go_ret
  exact ⟨by rw [← HE.out]; rfl, hb12.then HB4.out⟩
set_option maxRecDepth 100000 in
set_option maxHeartbeats 8000000 in
theorem rt_pl5 {N : Nat} (HT : RefT N) (hN2 : N + 1 ≤ 200) (k : Int) (s : ByteArray) (n : Int) (ts : List Tm) (a : Option Addr) (cap : Nat) (w : World) (ht : (Tm.mk ⟨k, s, n⟩ ts).ok) (hN : (Tm.mk ⟨k, s, n⟩ ts).flat.length ≤ N + 1) (hlen : (textT (Tm.mk ⟨k, s, n⟩ ts)).length ≤ 1000000000) (hr : Row w a cap (Tm.mk ⟨k, s, n⟩ ts).flat) (hk : k = 3) (hn : n = 5) (hs1 : 0 < s.size) (hs2 : s.size ≤ 12) (htx0 : textT (Tm.mk ⟨3, s, 5⟩ ts) = nameL s.data.toList ++ (40 :: (sepL [44] (textsT ts) ++ [41]))) :
    Calls Tryd.prog 17 #[.slice a (Tm.mk ⟨k, s, n⟩ ts).flat.length cap] w fun e w' => e = .returned (.string (tx (textT (Tm.mk ⟨k, s, n⟩ ts)))) ∧ Below w.heap.size w w' := by
  subst hk
  subst hn
  have h0 := flat_pos (Tm.mk ⟨3, s, 5⟩ ts)
  have hle := hr.le
  have hmx := hr.max
  have hRi := right_flat ht (by omega)
  have hpf : partsL (Tm.mk ⟨3, s, 5⟩ ts).flat = ts.map Tm.flat := parts_flat ht
  have hsm : ∀ u ∈ ts, u.flat.length ≤ N := fun u hu => by have := flat_arg_lt (t := Tm.mk ⟨3, s, 5⟩ ts) (u := u) hu; omega
  have hoks : oks ts := ((ok_iff _).1 ht).2.2
  have htl : ts.length = ar ⟨3, s, 5⟩ := ((ok_iff _).1 ht).2.1
  obtain ⟨bC, off, rfl, hbC, hat⟩ := hr.cases.resolve_left (fun e => by simp [e] at h0)
  obtain ⟨c0, c1, c2, hf⟩ := cel_at hat (Below.refl _ _) h0
  rw [flat_hd _ h0] at c0 c1 c2 hf
  simp only [Nat.zero_mul, Nat.add_zero] at c0 c1 c2
  replace c0 : w.cell? ⟨bC, off, none⟩ = some (.int .i64 3) := c0
  replace c1 : w.cell? ⟨bC, off + 1, none⟩ = some (.string s) := c1
  replace c2 : w.cell? ⟨bC, off + 2, none⟩ = some (.int .i64 5) := c2
  have hb1 : Below w.heap.size w (w.alloc (.cells #[.int .i64 3, .string s, .int .i64 5] 62)) := (Below.refl _ _).new _
  have f0 : (w.alloc (.cells #[.int .i64 3, .string s, .int .i64 5] 62)).cell? ⟨w.heap.size, 0, none⟩ = some (.int .i64 3) := World.cell?_alloc_at _ _ _ 0 rfl
  have f1 : (w.alloc (.cells #[.int .i64 3, .string s, .int .i64 5] 62)).cell? ⟨w.heap.size, 1, none⟩ = some (.string s) := World.cell?_alloc_at _ _ _ 1 rfl
  have f2 : (w.alloc (.cells #[.int .i64 3, .string s, .int .i64 5] 62)).cell? ⟨w.heap.size, 2, none⟩ = some (.int .i64 5) := World.cell?_alloc_at _ _ _ 2 rfl
  have y1 : decide ((0 : Int) < (((Tm.mk ⟨3, s, 5⟩ ts).flat.length : Nat) : Int)) = true := decide_eq_true (by omega)
  have y2 : decide (0 < (Tm.mk ⟨3, s, 5⟩ ts).flat.length) = true := decide_eq_true (by omega)
  have hr1 := hr.below hb1
  have HTX := mkHid htx0
  rw [htx0] at hlen
  clear htx0
  have HR1 := mkHid hr1
  have HB1 := mkHid hb1
  have HRI := mkHid hRi
  have HPF := mkHid hpf
  have HSM := mkHid hsm
  have HOK := mkHid hoks
  have HT' := mkHid HT
  have HTO := mkHid ht
  have HTL := mkHid htl
  clear htl hr hr1 hb1 hRi hpf hsm hoks HT hat hbC ht
  go_enter Tryd.func17, Tryd.ntmps17
  go_wp2_with fail
  refine (refparts_z _ cap _ _ HR1.out HRI.out).mono ?_
  rintro e w2 ⟨a', cap', vs, rfl, hown, hsl, hb2⟩
  obtain ⟨a2, cap2, e2, hrp⟩ := own_rowL hown (hsl w2 (HR1.out.below hb2))
  injection e2 with e2 _ e3
  subst e2; subst e3
  rw [HPF.out] at hrp ⊢
  rw [List.length_map]
  have hb12 := HB1.out.then hb2
  replace f0 := keep f0 hb2
  replace f1 := keep f1 hb2
  replace f2 := keep f2 hb2
  have HRP := mkHid hrp
  clear hown hsl c0 c1 c2
  have hnl : (nameL s.data.toList).length ≤ 100 := by unfold nameL; split <;> simp <;> omega
  have hl1 : (sepL [44] (textsT ts)).length ≤ 1000000000 - 10 ∨ (sepL [44] (textsT ts)).length + (nameL s.data.toList).length + 2 ≤ 1000000000 := by right; simp at hlen; omega
  have hl2 : (sepL [44] (textsT ts)).length + (nameL s.data.toList).length + 2 ≤ 1000000000 := by simp at hlen; omega
  have htxs := rTexts_any HT'.out ts a' cap' w2 HOK.out HSM.out (by omega) HRP.out
  obtain ⟨u, hu⟩ : ∃ u, u = tx (nameL s.data.toList) := ⟨_, rfl⟩
  obtain ⟨v, hv⟩ : ∃ v, v = tx (sepL [44] (textsT ts)) := ⟨_, rfl⟩
  have huv : u.size + v.size + 2 ≤ 1000000000 := by rw [hu, hv, tx_size, tx_size]; omega
  have HE : Hid (u ++ tx [40] ++ v ++ tx [41] = tx (textT (Tm.mk ⟨3, s, 5⟩ ts))) := mkHid (by rw [HTX.out, hu, hv]; simp only [tx_append]; simp)
  have hqu : ∀ W, Calls Tryd.prog 21 #[.string s] W fun e w' => e = .returned (.string u) ∧ W = w' := fun W => by rw [hu]; exact rQuote_any s W (by omega) hs1
  rw [← hv] at htxs
  have HQU := mkHid hqu
  have HTS := mkHid htxs
  have z1 : ¬ 9223372036854775807 < u.size + 1 := by omega
  have z2 : ¬ 9223372036854775807 < u.size + 1 + v.size := by omega
  have z3 : ¬ 9223372036854775807 < u.size + 1 + v.size + 1 := by omega
  clear hqu htxs hu hv hl1 hl2 hb2
  go_wp2_with fail
  refine (HQU.out _).mono ?_
  rintro e w3 ⟨rfl, rfl⟩
  go_wp2_with fail
  refine HTS.out.mono ?_
  rintro e w4 ⟨rfl, hb4⟩
  have HB4 := mkHid hb4
  clear hb4
  go_wp2_with fail
  go_ret
  exact ⟨by rw [← HE.out]; rfl, hb12.then HB4.out⟩
set_option maxRecDepth 100000 in
set_option maxHeartbeats 8000000 in
theorem rt_pl6 {N : Nat} (HT : RefT N) (hN2 : N + 1 ≤ 200) (k : Int) (s : ByteArray) (n : Int) (ts : List Tm) (a : Option Addr) (cap : Nat) (w : World) (ht : (Tm.mk ⟨k, s, n⟩ ts).ok) (hN : (Tm.mk ⟨k, s, n⟩ ts).flat.length ≤ N + 1) (hlen : (textT (Tm.mk ⟨k, s, n⟩ ts)).length ≤ 1000000000) (hr : Row w a cap (Tm.mk ⟨k, s, n⟩ ts).flat) (hk : k = 3) (hn : n = 6) (hs1 : 0 < s.size) (hs2 : s.size ≤ 12) (htx0 : textT (Tm.mk ⟨3, s, 6⟩ ts) = nameL s.data.toList ++ (40 :: (sepL [44] (textsT ts) ++ [41]))) :
    Calls Tryd.prog 17 #[.slice a (Tm.mk ⟨k, s, n⟩ ts).flat.length cap] w fun e w' => e = .returned (.string (tx (textT (Tm.mk ⟨k, s, n⟩ ts)))) ∧ Below w.heap.size w w' := by
  subst hk
  subst hn
  have h0 := flat_pos (Tm.mk ⟨3, s, 6⟩ ts)
  have hle := hr.le
  have hmx := hr.max
  have hRi := right_flat ht (by omega)
  have hpf : partsL (Tm.mk ⟨3, s, 6⟩ ts).flat = ts.map Tm.flat := parts_flat ht
  have hsm : ∀ u ∈ ts, u.flat.length ≤ N := fun u hu => by have := flat_arg_lt (t := Tm.mk ⟨3, s, 6⟩ ts) (u := u) hu; omega
  have hoks : oks ts := ((ok_iff _).1 ht).2.2
  have htl : ts.length = ar ⟨3, s, 6⟩ := ((ok_iff _).1 ht).2.1
  obtain ⟨bC, off, rfl, hbC, hat⟩ := hr.cases.resolve_left (fun e => by simp [e] at h0)
  obtain ⟨c0, c1, c2, hf⟩ := cel_at hat (Below.refl _ _) h0
  rw [flat_hd _ h0] at c0 c1 c2 hf
  simp only [Nat.zero_mul, Nat.add_zero] at c0 c1 c2
  replace c0 : w.cell? ⟨bC, off, none⟩ = some (.int .i64 3) := c0
  replace c1 : w.cell? ⟨bC, off + 1, none⟩ = some (.string s) := c1
  replace c2 : w.cell? ⟨bC, off + 2, none⟩ = some (.int .i64 6) := c2
  have hb1 : Below w.heap.size w (w.alloc (.cells #[.int .i64 3, .string s, .int .i64 6] 62)) := (Below.refl _ _).new _
  have f0 : (w.alloc (.cells #[.int .i64 3, .string s, .int .i64 6] 62)).cell? ⟨w.heap.size, 0, none⟩ = some (.int .i64 3) := World.cell?_alloc_at _ _ _ 0 rfl
  have f1 : (w.alloc (.cells #[.int .i64 3, .string s, .int .i64 6] 62)).cell? ⟨w.heap.size, 1, none⟩ = some (.string s) := World.cell?_alloc_at _ _ _ 1 rfl
  have f2 : (w.alloc (.cells #[.int .i64 3, .string s, .int .i64 6] 62)).cell? ⟨w.heap.size, 2, none⟩ = some (.int .i64 6) := World.cell?_alloc_at _ _ _ 2 rfl
  have y1 : decide ((0 : Int) < (((Tm.mk ⟨3, s, 6⟩ ts).flat.length : Nat) : Int)) = true := decide_eq_true (by omega)
  have y2 : decide (0 < (Tm.mk ⟨3, s, 6⟩ ts).flat.length) = true := decide_eq_true (by omega)
  have hr1 := hr.below hb1
  have HTX := mkHid htx0
  rw [htx0] at hlen
  clear htx0
  have HR1 := mkHid hr1
  have HB1 := mkHid hb1
  have HRI := mkHid hRi
  have HPF := mkHid hpf
  have HSM := mkHid hsm
  have HOK := mkHid hoks
  have HT' := mkHid HT
  have HTO := mkHid ht
  have HTL := mkHid htl
  clear htl hr hr1 hb1 hRi hpf hsm hoks HT hat hbC ht
  go_enter Tryd.func17, Tryd.ntmps17
  go_wp2_with fail
  refine (refparts_z _ cap _ _ HR1.out HRI.out).mono ?_
  rintro e w2 ⟨a', cap', vs, rfl, hown, hsl, hb2⟩
  obtain ⟨a2, cap2, e2, hrp⟩ := own_rowL hown (hsl w2 (HR1.out.below hb2))
  injection e2 with e2 _ e3
  subst e2; subst e3
  rw [HPF.out] at hrp ⊢
  rw [List.length_map]
  have hb12 := HB1.out.then hb2
  replace f0 := keep f0 hb2
  replace f1 := keep f1 hb2
  replace f2 := keep f2 hb2
  have HRP := mkHid hrp
  clear hown hsl c0 c1 c2
  have hnl : (nameL s.data.toList).length ≤ 100 := by unfold nameL; split <;> simp <;> omega
  have hl1 : (sepL [44] (textsT ts)).length ≤ 1000000000 - 10 ∨ (sepL [44] (textsT ts)).length + (nameL s.data.toList).length + 2 ≤ 1000000000 := by right; simp at hlen; omega
  have hl2 : (sepL [44] (textsT ts)).length + (nameL s.data.toList).length + 2 ≤ 1000000000 := by simp at hlen; omega
  have htxs := rTexts_any HT'.out ts a' cap' w2 HOK.out HSM.out (by omega) HRP.out
  obtain ⟨u, hu⟩ : ∃ u, u = tx (nameL s.data.toList) := ⟨_, rfl⟩
  obtain ⟨v, hv⟩ : ∃ v, v = tx (sepL [44] (textsT ts)) := ⟨_, rfl⟩
  have huv : u.size + v.size + 2 ≤ 1000000000 := by rw [hu, hv, tx_size, tx_size]; omega
  have HE : Hid (u ++ tx [40] ++ v ++ tx [41] = tx (textT (Tm.mk ⟨3, s, 6⟩ ts))) := mkHid (by rw [HTX.out, hu, hv]; simp only [tx_append]; simp)
  have hqu : ∀ W, Calls Tryd.prog 21 #[.string s] W fun e w' => e = .returned (.string u) ∧ W = w' := fun W => by rw [hu]; exact rQuote_any s W (by omega) hs1
  rw [← hv] at htxs
  have HQU := mkHid hqu
  have HTS := mkHid htxs
  have z1 : ¬ 9223372036854775807 < u.size + 1 := by omega
  have z2 : ¬ 9223372036854775807 < u.size + 1 + v.size := by omega
  have z3 : ¬ 9223372036854775807 < u.size + 1 + v.size + 1 := by omega
  clear hqu htxs hu hv hl1 hl2 hb2
  go_wp2_with fail
  refine (HQU.out _).mono ?_
  rintro e w3 ⟨rfl, rfl⟩
  go_wp2_with fail
  refine HTS.out.mono ?_
  rintro e w4 ⟨rfl, hb4⟩
  have HB4 := mkHid hb4
  clear hb4
  go_wp2_with fail
  go_ret
  exact ⟨by rw [← HE.out]; rfl, hb12.then HB4.out⟩
end Go.Proofs.YtabjghmfjoefpaaDoor
set_option linter.unusedVariables false
namespace Go.Proofs.YtabjghmfjoefpaaDoor
open Go.RowKit

theorem bytes_of {s : ByteArray} {l : List UInt8} (h : s.data.toList = l) : s = ⟨l.toArray⟩ := by
  subst h; apply ByteArray.ext; simp
theorem name_pos {c : Cel} (h : cellOk c = true) (hk : c.k = 3) : 0 < c.s.size := by
  simp only [cellOk, Bool.or_eq_true, Bool.and_eq_true, decide_eq_true_eq, nameOk] at h
  rcases h with (h | h) | h
  · omega
  · omega
  · have := h.1.1.2.1.2; omega
/-! ### the document's terms, whole -/
theorem refT_all : ∀ N, N ≤ 200 → RefT N
  | 0, _ => fun t a cap w _ hN => by have := flat_pos t; omega
  | N + 1, h200 => by
    have HT := refT_all N (by omega)
    intro t a cap w ht hN hlen hr
    obtain ⟨⟨k, s, n⟩, ts⟩ := t
    rcases cell_kind ht.1 with ⟨hk, h1, h2⟩ | ⟨hk, h1, h2⟩ | ⟨hk, hs, h1, h2⟩
    · exact rt_var HT h200 k s n ts a cap w ht hN hlen hr hk n.toNat (by simp at h1; omega) (by simp at h1 h2; omega)
    · exact rt_int HT h200 k s n ts a cap w ht hN hlen hr hk h1 h2
    · have h0 := name_pos ht.1 hk
      cases hi : infixB ⟨k, s, n⟩ with
      | true =>
        simp only [infixB, Bool.and_eq_true, decide_eq_true_eq, signs, List.contains_cons, List.contains_nil, Bool.or_false, Bool.or_eq_true, beq_iff_eq] at hi
        obtain ⟨hi, hn⟩ := hi
        rcases hi with e | e | e | e | e
        · exact rt_inf61 HT h200 k s n ts a cap w ht hN hlen hr hk (bytes_of e) hn
        · exact rt_inf60 HT h200 k s n ts a cap w ht hN hlen hr hk (bytes_of e) hn
        · exact rt_inf43 HT h200 k s n ts a cap w ht hN hlen hr hk (bytes_of e) hn
        · exact rt_inf45 HT h200 k s n ts a cap w ht hN hlen hr hk (bytes_of e) hn
        · exact rt_inf42 HT h200 k s n ts a cap w ht hN hlen hr hk (bytes_of e) hn
      | false =>
        cases hm : isC ⟨k, s, n⟩ [45] 1 with
        | true =>
          simp only [isC, Bool.and_eq_true, decide_eq_true_eq] at hm
          exact rt_minus HT h200 k s n ts a cap w ht hN hlen hr hk (bytes_of hm.1.2) hm.2
        | false =>
          cases hn : isC ⟨k, s, n⟩ [91, 93] 0 with
          | true =>
            simp only [isC, Bool.and_eq_true, decide_eq_true_eq] at hn
            exact rt_nil HT h200 k s n ts a cap w ht hN hlen hr hk (bytes_of hn.1.2) hn.2
          | false =>
            cases hd : isC ⟨k, s, n⟩ [46] 2 with
            | true =>
              simp only [isC, Bool.and_eq_true, decide_eq_true_eq] at hd
              exact rt_dot HT h200 k s n ts a cap w ht hN hlen hr hk (bytes_of hd.1.2) hd.2
            | false =>
              have htx := text_plain (ts := ts) hk hi hm hn hd
              have hw := infixB_way ⟨k, s, n⟩
              rw [hi] at hw
              have hn7 : n = 0 ∨ n = 1 ∨ n = 2 ∨ n = 3 ∨ n = 4 ∨ n = 5 ∨ n = 6 := by simp at h1 h2; omega
              have lit : ∀ {l : List UInt8}, s.data.toList ≠ l → (s.toList == l) = false := fun h => by rw [ByteArray.toList_eq]; simpa using h
              subst hk
              rcases hn7 with rfl | rfl | rfl | rfl | rfl | rfl | rfl
              · exact rt_pl0 HT h200 3 s 0 ts a cap w ht hN hlen hr rfl rfl h0 hs (by rw [htx]; simp) (lit fun e => by simp [isC, e] at hn)
              · exact rt_pl1 HT h200 3 s 1 ts a cap w ht hN hlen hr rfl rfl h0 hs (by rw [htx]; simp) (lit fun e => by simp [isC, e] at hm)
              · simp at hw
                exact rt_pl2 HT h200 3 s 2 ts a cap w ht hN hlen hr rfl rfl h0 hs (by rw [htx]; simp) (lit fun e => by simp [infixB, signs, e] at hi) (lit fun e => by simp [infixB, signs, e] at hi) (lit fun e => by simp [infixB, signs, e] at hi) (lit fun e => by simp [infixB, signs, e] at hi) (lit fun e => by simp [infixB, signs, e] at hi) (lit fun e => by simp [isC, e] at hd)
              · exact rt_pl3 HT h200 3 s 3 ts a cap w ht hN hlen hr rfl rfl h0 hs (by rw [htx]; simp)
              · exact rt_pl4 HT h200 3 s 4 ts a cap w ht hN hlen hr rfl rfl h0 hs (by rw [htx]; simp)
              · exact rt_pl5 HT h200 3 s 5 ts a cap w ht hN hlen hr rfl rfl h0 hs (by rw [htx]; simp)
              · exact rt_pl6 HT h200 3 s 6 ts a cap w ht hN hlen hr rfl rfl h0 hs (by rw [htx]; simp)
end Go.Proofs.YtabjghmfjoefpaaDoor
set_option linter.unusedVariables false
namespace Go.Proofs.YtabjghmfjoefpaaDoor
open Go.RowKit

/-! ### texts of terms: how long, and of which bytes -/
theorem tm_len {P : Tm → Prop} (H : ∀ t, (∀ u ∈ t.args, P u) → P t) (t : Tm) : P t := by
  have key : ∀ N, ∀ t : Tm, t.flat.length ≤ N → P t := by
    intro N
    induction N with
    | zero => intro t h; have := flat_pos t; omega
    | succ N ih => exact fun t h => H t fun u hu => ih u (by have := flat_arg_lt hu; omega)
  exact key _ t (Nat.le_refl _)
theorem decL_20 {n : Nat} (h : n < 18446744073709551616) : (Lib.decDigits n).length ≤ 20 := by
  rw [Lib.decDigits_length]; exact nDig_le h
theorem sepL_len (s : List UInt8) (xs : List (List UInt8)) : (sepL s xs).length ≤ (xs.map List.length).sum + xs.length * s.length := by
  cases xs with
  | nil => simp [sepL]
  | cons x r =>
    simp only [sepL, List.length_append, List.map_cons, List.sum_cons, List.length_cons]
    have : ((r.map fun y => s ++ y).flatten).length = (r.map List.length).sum + r.length * s.length := by
      induction r with
      | nil => simp
      | cons y r ih => simp [ih, Nat.add_mul]; omega
    rw [this, Nat.add_mul]; omega
theorem texts_len {ts : List Tm} (h : ∀ u ∈ ts, (textT u).length ≤ 40 * u.flat.length) : ((textsT ts).map List.length).sum ≤ 40 * (flats ts).length := by
  induction ts with
  | nil => simp [textsT, flats]
  | cons t ts ih =>
    have h1 := h t List.mem_cons_self
    have h2 := ih fun u hu => h u (List.mem_cons_of_mem _ hu)
    simp only [textsT, List.map_cons, List.sum_cons, flats, List.length_append] at h2 ⊢
    omega
theorem flat_args (t : Tm) : t.flat.length = 1 + (flats t.args).length := by rw [flat_cons]; simp; omega
theorem itoaT_len {n : Int} (h1 : -2147483647 ≤ n) (h2 : n ≤ 2147483647) : (Lib.itoa n).length ≤ 21 := by
  unfold Lib.itoa
  split
  · have := decL_20 (n := n.natAbs) (by omega); simp; omega
  · have := decL_20 (n := n.toNat) (by omega); omega
theorem varL_len {n : Nat} (h : n ≤ 1000) : (varL n).length ≤ 21 := by
  unfold varL
  have := decL_20 (n := n / 26) (by omega)
  split <;> simp <;> omega
theorem nameL_len (s : List UInt8) : (nameL s).length ≤ s.length + 2 := by unfold nameL; split <;> simp
theorem text_len (t : Tm) (ht : t.ok) : (textT t).length ≤ 40 * t.flat.length ∧ (behT t).length ≤ 40 * t.flat.length + 2 := by
  induction t using tm_len with
  | H t ih =>
    obtain ⟨c, ts⟩ := t
    have hfl := flat_args (.mk c ts)
    obtain ⟨h1, h2, h3⟩ := ht
    have IH : ∀ u ∈ ts, (textT u).length ≤ 40 * u.flat.length ∧ (behT u).length ≤ 40 * u.flat.length + 2 := fun u hu => ih u hu (oks_mem h3 u hu)
    have hts := texts_len fun u hu => (IH u hu).1
    have hal : (textsT ts).length = ts.length := by simp [textsT]
    simp only [Tm.args] at hfl
    have own : (textT (.mk c ts)).length ≤ 40 * (Tm.mk c ts).flat.length ∧ (isC c [46] 2 = true → (behT (.mk c ts)).length ≤ 40 * (Tm.mk c ts).flat.length + 2) := by
      have dot : isC c [46] 2 = true → (item (boths ts)).length + 1 ≤ 40 * (Tm.mk c ts).flat.length := by
        intro hd
        obtain ⟨x, y, rfl, hx, hy⟩ := ok_two (c := c) (ts := ts) ⟨h1, h2, h3⟩ hd
        have i1 := (IH x (by simp)).1
        have i2 := (IH y (by simp)).2
        rw [item_two, List.length_append]
        simp only [flats, List.length_append, List.length_nil] at hfl
        omega
      refine ⟨?_, fun hd => by rw [beh_list hd]; have := dot hd; simp; omega⟩
      rcases cell_kind h1 with ⟨hk, k1, k2⟩ | ⟨hk, k1, k2⟩ | ⟨hk, hs, k1, k2⟩
      · rw [text_var hk]; have := varL_len (n := c.n.toNat) (by omega); omega
      · rw [text_int hk]; have := itoaT_len (n := c.n) (by omega) (by omega); omega
      · have hsl : c.s.data.toList.length ≤ 12 := by simpa using hs
        cases hi : infixB c with
        | true =>
          rw [text_infix hk hi]
          have hn2 : ts.length = 2 := by
            rw [h2]; unfold ar; rw [if_pos hk]
            simp [infixB] at hi; rw [hi.2]; rfl
          have := sepL_len (32 :: c.s.data.toList ++ [32]) (textsT ts)
          rw [hal, hn2] at this
          simp at this ⊢; omega
        | false =>
          cases hm : isC c [45] 1 with
          | true =>
            rw [text_minus hk hi hm]
            have := sepL_len [] (textsT ts)
            simp at this ⊢; omega
          | false =>
            cases hn : isC c [91, 93] 0 with
            | true => rw [text_nil hk hi hm hn]; simp; omega
            | false =>
              cases hd : isC c [46] 2 with
              | true => rw [text_list hk hi hm hn hd]; have := dot hd; simp; omega
              | false =>
                rw [text_plain hk hi hm hn hd, List.length_append]
                have q1 := nameL_len c.s.data.toList
                have q2 := sepL_len [44] (textsT ts)
                have hn6 : ts.length ≤ 6 := by rw [h2]; unfold ar; rw [if_pos hk]; omega
                rw [hal] at q2
                split <;> simp at q2 ⊢ <;> omega
    refine ⟨own.1, ?_⟩
    cases hd : isC c [46] 2 with
    | true => exact own.2 hd
    | false =>
      cases hn : isC c [91, 93] 0 with
      | true => rw [beh_nil hd hn]; simp
      | false => rw [beh_bar hd hn]; have := own.1; simp; omega
theorem text_small {t : Tm} (ht : t.ok) (h : t.flat.length ≤ 200) : (textT t).length ≤ 8000 := by have := (text_len t ht).1; omega
theorem litT_small {t : Tm} (neg : Bool) (ht : t.ok) (h : t.flat.length ≤ 200) : (litT neg t).length ≤ 8003 := by
  have := text_small ht h
  unfold litT; cases neg <;> simp <;> omega
end Go.Proofs.YtabjghmfjoefpaaDoor
set_option linter.unusedVariables false
namespace Go.Proofs.YtabjghmfjoefpaaDoor
open Go.RowKit

/-! ### the document's clauses and programs -/
def clTo (c : Ct) (k : Nat) : List UInt8 := textT c.h ++ (if 0 < k then [32, 58, 45, 32] ++ sepL [44, 32] ((litsT c.b).take k) else [])
theorem clTo_zero (c : Ct) : clTo c 0 = textT c.h := by simp [clTo]
theorem clTo_one (c : Ct) (h : 0 < c.b.length) : clTo c 1 = clTo c 0 ++ (([32, 58, 45, 32] : List UInt8) ++ litT (c.b[0]).1 (c.b[0]).2) := by
  have e := takeL_next (ts := c.b) (k := 0) h
  rw [clTo_zero, clTo, if_pos (by omega), e]
  simp [sepL_one]
theorem clTo_succ (c : Ct) {k : Nat} (h : k < c.b.length) (h0 : 0 < k) : clTo c (k + 1) = clTo c k ++ (([44, 32] : List UInt8) ++ litT (c.b[k]).1 (c.b[k]).2) := by
  have hne : (litsT c.b).take k ≠ [] := fun e => by
    have := congrArg List.length e
    rw [List.length_take, litsT, List.length_map, Nat.min_eq_left (by omega), List.length_nil] at this; omega
  rw [clTo, clTo, if_pos (by omega), if_pos h0, takeL_next h, sepL_snoc _ hne]
  simp
theorem clTo_all (c : Ct) : clTo c c.b.length ++ [46] = c.text := by
  have e : (litsT c.b).take c.b.length = litsT c.b := List.take_of_length_le (by simp [litsT])
  rw [clTo, e, Ct.text, clauseT, List.append_assoc]
theorem clTo_step (c : Ct) {k : Nat} (h : k < c.b.length) : (clTo c k).length + (litT (c.b[k]).1 (c.b[k]).2).length + 2 ≤ (clTo c (k + 1)).length := by
  by_cases h0 : 0 < k
  · rw [clTo_succ c h h0]; simp; omega
  · obtain rfl : k = 0 := by omega
    rw [clTo_one c h]; simp; omega
theorem clTo_mono (c : Ct) {j k : Nat} (hjk : j ≤ k) (hk : k ≤ c.b.length) : (clTo c j).length ≤ (clTo c k).length := by
  induction k with
  | zero => have : j = 0 := by omega
            rw [this]; exact Nat.le_refl _
  | succ k ih =>
    by_cases e : j = k + 1
    · rw [e]; exact Nat.le_refl _
    · have := ih (by omega) (by omega); have := clTo_step c (k := k) (by omega); omega

set_option maxRecDepth 100000 in
set_option maxHeartbeats 8000000 in
theorem rClause_any (c : Ct) (hc : c.ok) (a1 : Option Addr) (cap1 : Nat) (a2 : Option Addr) (cap2 : Nat) (w : World) (hlen : c.text.length ≤ 1000000000) (hr1 : Row w a1 cap1 c.h.flat) (hr2 : Row w a2 cap2 (c.b.map litR)) :
    Calls Tryd.prog 14 #[.agg #[.slice a1 c.h.flat.length cap1, .slice a2 c.b.length cap2]] w fun e w' => e = .returned (.string (tx c.text)) ∧ Below w.heap.size w w' := by
  have hle := hr2.le
  have hmx := hr2.max
  rw [List.length_map] at hle
  have hall : (clTo c c.b.length).length + 1 ≤ 1000000000 := by have := clTo_all c; rw [← this] at hlen; simpa using hlen
  have HS : Hid (∀ k, k ≤ c.b.length → (clTo c k).length + 1 ≤ 1000000000) := mkHid fun k hk => by
    have := clTo_mono c hk (Nat.le_refl _); omega
  have h0s : (textT c.h).length ≤ 1000000000 := by have := HS.out 0 (by omega); rw [clTo_zero] at this; omega
  have HC0 := mkHid (refT_all 200 (Nat.le_refl _) c.h a1 cap1 (w.alloc (.cells #[.slice a1 c.h.flat.length cap1, .slice a2 c.b.length cap2] 33)) hc.h hc.h200 h0s (hr1.below ((Below.refl _ _).new _)))
  have HR2 := mkHid hr2
  have HOK := mkHid hc
  have HZ := mkHid (clTo_zero c)
  have HA := mkHid (clTo_all c)
  clear hr1 hr2 hc hlen hall h0s
  go_enter Tryd.func14, Tryd.ntmps14
  go_wp2_with fail
  have hb1 : Below w.heap.size w (w.alloc (.cells #[.slice a1 c.h.flat.length cap1, .slice a2 c.b.length cap2] 33)) := (Below.refl _ _).new _
  have f1 : (w.alloc (.cells #[.slice a1 c.h.flat.length cap1, .slice a2 c.b.length cap2] 33)).cell? ⟨w.heap.size, 1, none⟩ = some (.slice a2 c.b.length cap2) := World.cell?_alloc_at _ _ _ 1 rfl
  refine HC0.out.mono ?_
  generalize w.alloc (.cells #[.slice a1 c.h.flat.length cap1, .slice a2 c.b.length cap2] 33) = w1 at *
  rintro e w2 ⟨rfl, hb2⟩
  have hb02 := hb1.then hb2
  have f2 := keep f1 hb2
  have HF2 := mkHid f2
  have HB02 := mkHid hb02
  clear hb1 hb2 f1 HC0
  go_wp2
  go_loopw [3, 4] (fun s i wr => ∃ k : Nat, k ≤ c.b.length ∧ i = .int .i64 k ∧ Hid (s = .string (tx (clTo c k))) ∧ Below w2.heap.size w2 wr) (fun s i wr => c.b.length - (intOf i).toNat)
  case atStart => exact ⟨0, Nat.zero_le _, rfl, by rw [Hid, HZ.out], Below.refl _ _⟩
  case round =>
    obtain ⟨k, hk, rfl, HSS, hb⟩ := hrel
    rename World => W
    have q1 := keep HF2.out hb
    have hb0W := HB02.out.then hb
    by_cases hlt : k < c.b.length
    · have hlt' : k < (c.b.map litR).length := by simpa using hlt
      obtain ⟨b, off, rfl, hbl, hat⟩ := HR2.out.cases.resolve_left (fun e => by rw [e] at hlt'; simp at hlt')
      obtain ⟨a3, cap3, d0, d1, r3⟩ := lt_at hat hb0W hlt'
      rw [List.getElem_map] at d0 d1 r3
      simp only [litR] at d0 d1 r3
      obtain ⟨neg, t, hnt⟩ : ∃ neg t, c.b[k] = (neg, t) := ⟨_, _, rfl⟩
      have hmem := List.getElem_mem hlt
      have hst := clTo_step c hlt
      have hsz := HS.out (k + 1) (by omega)
      have ho1 := HOK.out.b _ hmem
      have ho2 := HOK.out.b200 _ hmem
      rw [hnt] at d0 d1 r3 hst ho1 ho2
      dsimp only at hst ho1 ho2
      have hlt2 : (textT t).length ≤ (litT neg t).length := by unfold litT; simp
      have htl : (textT t).length + (clTo c k).length + 3 ≤ 1000000000 := by omega
      have hll : (litT neg t).length + (clTo c k).length + 3 ≤ 1000000000 := by omega
      have HC := mkHid (refT_all 200 (Nat.le_refl _) t a3 cap3 W ho1 ho2 (by omega) r3)
      have HB := mkHid hb0W
      have HBW := mkHid hb
      obtain ⟨s, hs⟩ : ∃ s, s = tx (clTo c k) := ⟨_, rfl⟩
      obtain ⟨u, hu⟩ : ∃ u, u = tx (textT t) := ⟨_, rfl⟩
      have hs1 : s.size = (clTo c k).length := by rw [hs, tx_size]
      have hu1 : u.size = (textT t).length := by rw [hu, tx_size]
      rw [← hu] at HC
      have HSK := mkHid hs
      have HUK := mkHid hu
      have hsv := HSS.out
      rw [← hs] at hsv
      subst hsv
      have hsu : s.size + u.size + 7 ≤ 1000000010 := by omega
      have hsu2 : neg = true → s.size + u.size + 5 ≤ 1000000000 := fun e => by subst e; simp [litT] at hll; omega
      clear hs hu hst hsz hat r3 hbl hb ho1 ho2 hlt2 htl hll hs1 hu1 HSS hmem
      by_cases h0k : k = 0
      · cases neg with
        | true =>
          have HE : Hid (s ++ tx [32, 58, 45, 32] ++ tx [92, 43, 32] ++ u = tx (clTo c (k + 1))) := by
            rw [Hid, HSK.out, HUK.out, h0k, clTo_one c (by omega)]
            have hnt0 : c.b[0] = (true, t) := by simpa [h0k] using hnt
            rw [hnt0]
            simp only [tx_append]
            simp [litT]
          have z1 : ¬ 9223372036854775807 < s.size + 4 := by omega
          have z2 : ¬ 9223372036854775807 < s.size + 4 + 3 := by omega
          have z3 : ¬ 9223372036854775807 < s.size + 4 + 3 + u.size := by omega
          clear hnt hsu2
          have hkz : ((k : Int) == 0) = true := by simp [h0k]
          clear h0k
          go_wp2_with fail
          refine HC.out.mono ?_; rintro e w3 ⟨rfl, hb3⟩
          have HB3 := mkHid hb3
          clear hb3
          go_wp2
          go_round
          case rel => exact ⟨k + 1, by omega, by go_num, by rw [Hid, ← HE.out]; rfl, HBW.out.then HB3.out⟩
          case measure => simp [intOf]; omega
        | false =>
          have HE : Hid (s ++ tx [32, 58, 45, 32] ++ u = tx (clTo c (k + 1))) := by
            rw [Hid, HSK.out, HUK.out, h0k, clTo_one c (by omega)]
            have hnt0 : c.b[0] = (false, t) := by simpa [h0k] using hnt
            rw [hnt0]
            simp only [tx_append]
            simp [litT]
          have z1 : ¬ 9223372036854775807 < s.size + 4 := by omega
          have z2 : ¬ 9223372036854775807 < s.size + 4 + u.size := by omega
          clear hnt hsu2
          have hkz : ((k : Int) == 0) = true := by simp [h0k]
          clear h0k
          go_wp2_with fail
          refine HC.out.mono ?_; rintro e w3 ⟨rfl, hb3⟩
          have HB3 := mkHid hb3
          clear hb3
          go_wp2
          go_round
          case rel => exact ⟨k + 1, by omega, by go_num, by rw [Hid, ← HE.out]; rfl, HBW.out.then HB3.out⟩
          case measure => simp [intOf]; omega
      · cases neg with
        | true =>
          have HE : Hid (s ++ tx [44, 32] ++ tx [92, 43, 32] ++ u = tx (clTo c (k + 1))) := by
            rw [Hid, HSK.out, HUK.out, clTo_succ c hlt (by omega), hnt]
            simp only [tx_append]
            simp [litT]
          have z1 : ¬ 9223372036854775807 < s.size + 2 := by omega
          have z2 : ¬ 9223372036854775807 < s.size + 2 + 3 := by omega
          have z3 : ¬ 9223372036854775807 < s.size + 2 + 3 + u.size := by omega
          clear hnt hsu2
          have hkz : ((k : Int) == 0) = false := by simp; omega
          go_wp2_with fail
          refine HC.out.mono ?_; rintro e w3 ⟨rfl, hb3⟩
          have HB3 := mkHid hb3
          clear hb3
          go_wp2
          go_round
          case rel => exact ⟨k + 1, by omega, by go_num, by rw [Hid, ← HE.out]; rfl, HBW.out.then HB3.out⟩
          case measure => simp [intOf]; omega
        | false =>
          have HE : Hid (s ++ tx [44, 32] ++ u = tx (clTo c (k + 1))) := by
            rw [Hid, HSK.out, HUK.out, clTo_succ c hlt (by omega), hnt]
            simp only [tx_append]
            simp [litT]
          have z1 : ¬ 9223372036854775807 < s.size + 2 := by omega
          have z2 : ¬ 9223372036854775807 < s.size + 2 + u.size := by omega
          clear hnt hsu2
          have hkz : ((k : Int) == 0) = false := by simp; omega
          go_wp2_with fail
          refine HC.out.mono ?_; rintro e w3 ⟨rfl, hb3⟩
          have HB3 := mkHid hb3
          clear hb3
          go_wp2
          go_round
          case rel => exact ⟨k + 1, by omega, by go_num, by rw [Hid, ← HE.out]; rfl, HBW.out.then HB3.out⟩
          case measure => simp [intOf]; omega
    · obtain rfl : k = c.b.length := by omega
      obtain ⟨s, hs⟩ : ∃ s, s = tx (clTo c c.b.length) := ⟨_, rfl⟩
      have hs1 : s.size ≤ 1000000000 := by have := HS.out c.b.length (Nat.le_refl _); rw [hs, tx_size]; omega
      have HE : Hid (s ++ tx [46] = tx c.text) := by rw [Hid, hs, tx_append, HA.out]
      have hsv := HSS.out
      rw [← hs] at hsv
      subst hsv
      have HB := mkHid hb0W
      clear hs hb hb0W HSS
      go_wp2
      go_ret
      exact ⟨by rw [← HE.out]; rfl, HB.out⟩
end Go.Proofs.YtabjghmfjoefpaaDoor
set_option linter.unusedVariables false
namespace Go.Proofs.YtabjghmfjoefpaaDoor
open Go.RowKit

theorem progT_mono {cs : List Ct} {k : Nat} (h : k ≤ cs.length) : (progT (cs.take k)).length ≤ (progT cs).length := progT_le h
set_option maxRecDepth 100000 in
set_option maxHeartbeats 4000000 in
theorem rProgram_any (cs : List Ct) (hok : ∀ c ∈ cs, c.ok) (a : Option Addr) (cap : Nat) (w : World) (hlen : (progT cs).length ≤ 1000000000) (hr : Row w a cap (cs.map Ct.row)) :
    Calls Tryd.prog 19 #[.slice a cs.length cap] w fun e w' => e = .returned (.string (tx (progT cs))) ∧ Below w.heap.size w w' := by
  have hle := hr.le
  have hmx := hr.max
  rw [List.length_map] at hle
  have HR := mkHid hr
  have HOK := mkHid hok
  clear hr hok
  go_enter Tryd.func19, Tryd.ntmps19
  go_wp2
  go_loopw [3, 4] (fun s i wr => ∃ k : Nat, k ≤ cs.length ∧ i = .int .i64 k ∧ Hid (s = .string (tx (progT (cs.take k)))) ∧ Below w.heap.size w wr) (fun s i wr => cs.length - (intOf i).toNat)
  case atStart => exact ⟨0, Nat.zero_le _, rfl, rfl, Below.refl _ _⟩
  case round =>
    obtain ⟨k, hk, rfl, HSS, hb⟩ := hrel
    rename World => W
    by_cases hlt : k < cs.length
    · have hlt' : k < (cs.map Ct.row).length := by simpa using hlt
      obtain ⟨b, off, rfl, hbl, hat⟩ := HR.out.cases.resolve_left (fun e => by rw [e] at hlt'; simp at hlt')
      obtain ⟨a1, cap1, a2, cap2, d0, d1, r1, r2⟩ := cl_at hat hb hlt'
      rw [List.getElem_map] at d0 d1 r1 r2
      simp only [Ct.row, List.length_map] at d0 d1 r1 r2
      have hmem := List.getElem_mem hlt
      have hpl := progT_mono (cs := cs) (k := k + 1) (by omega)
      rw [progT_next hlt, List.length_append, List.length_append] at hpl
      simp only [List.length_cons, List.length_nil] at hpl
      have HC := mkHid (rClause_any cs[k] (HOK.out _ hmem) a1 cap1 a2 cap2 W (by omega) r1 r2)
      have HB := mkHid hb
      obtain ⟨s, hs⟩ : ∃ s, s = tx (progT (cs.take k)) := ⟨_, rfl⟩
      obtain ⟨u, hu⟩ : ∃ u, u = tx cs[k].text := ⟨_, rfl⟩
      have hs1 : s.size = (progT (cs.take k)).length := by rw [hs, tx_size]
      have hu1 : u.size = cs[k].text.length := by rw [hu, tx_size]
      rw [← hu] at HC
      have HE : Hid (s ++ u ++ tx [10] = tx (progT (cs.take (k + 1)))) := by rw [Hid, hs, hu, progT_next hlt, tx_append, tx_append, List.append_assoc]
      have hsv := HSS.out
      rw [← hs] at hsv
      subst hsv
      have z1 : ¬ 9223372036854775807 < s.size + u.size := by omega
      have z2 : ¬ 9223372036854775807 < s.size + u.size + 1 := by omega
      clear hs hu hpl hat r1 r2 hbl hb hs1 hu1 HSS hmem
      go_wp2_with fail
      refine HC.out.mono ?_; rintro e w3 ⟨rfl, hb3⟩
      have HB3 := mkHid hb3
      clear hb3
      go_wp2
      go_round
      case rel => exact ⟨k + 1, by omega, by go_num, by rw [Hid, ← HE.out]; rfl, HB.out.then HB3.out⟩
      case measure => simp [intOf]; omega
    · obtain rfl : k = cs.length := by omega
      have hsv := HSS.out
      rw [List.take_length] at hsv
      subst hsv
      have HB := mkHid hb
      clear hb HSS
      go_wp2
      go_ret
      exact ⟨rfl, HB.out⟩
end Go.Proofs.YtabjghmfjoefpaaDoor
set_option linter.unusedVariables false
namespace Go.Proofs.YtabjghmfjoefpaaDoor
open Go.RowKit
namespace Md
theorem MadeAt.veil {w0 w w' : World} {a a' : Option Addr} {cap cap' : Nat} {xs ys : List Cel} (h : MadeAt w a cap xs w' a' cap' ys) (hx : Row w0 a cap xs) (hw : Below w0.heap.size w0 w) (hb : Below w.heap.size w w') {us : List Nat} (hus : ∀ k ∈ us, w0.heap.size ≤ k ∧ k < w.heap.size) : Row (Go.Proofs.YtabjghmfjoefpaaDoor.veil us w') a' cap' ys := by
  rcases h with ⟨rfl, rfl, rfl⟩ | h
  · exact hx.keeps (fun b o v hc => veil_of (fun e => by have := cell_lt hc; have := (hus _ e).1; omega) (keep hc (hw.then hb)))
  · exact Row.keeps h (fun b o v hc => by
      obtain ⟨h1, h2⟩ := under_cell hc
      exact veil_of (fun e => by have := (hus _ e).2; omega) h2)
theorem aC_ok : (Tm.mk ⟨3, ⟨#[97]⟩, 0⟩ []).ok := ⟨by decide +kernel, rfl, trivial⟩
/-- what an atom is: a right term that begins with a Fun -/
structure AtomT (most : Nat) (t : Tm) : Prop where
  ok : t.ok
  len : t.flat.length ≤ most
  fn : t.hd.k = 3
end Md
open Md
set_option maxHeartbeats 1600000 in
theorem atom_where (a : Option Addr) (cap : Nat) (w : World) (xs : List Cel) (hx : Row w a cap xs) (most : Nat) (hm1 : 1 ≤ most) (hm2 : most ≤ 200) :
    Calls Tryd.prog 28 #[.slice a xs.length cap, .int .i64 most] w fun e w' => ∃ a' cap' t, e = .returned (.slice a' (Tm.flat t).length cap') ∧ MadeAt w a cap xs w' a' cap' t.flat ∧ AtomT most t ∧ Below w.heap.size w w' := by
  have HM := mkHid (made_where a cap w xs hx most hm1 hm2)
  have HX := mkHid hx
  clear hx
  go_enter Tryd.func28, Tryd.ntmps28
  go_wp2_with fail
  refine HM.out.mono ?_
  rintro e w1 ⟨a1, cap1, ys, rfl, hat, hr, hl, hb1⟩
  obtain ⟨t, ht, rfl, _⟩ := right_tm hr
  have hrow := hat.row HX.out hb1
  have hpos := flat_pos t
  obtain ⟨b, off, rfl, hbb, hatr⟩ := hrow.cases.resolve_left (fun e => by rw [e] at hpos; simp at hpos)
  obtain ⟨c0, c1, c2, hf⟩ := cel_at hatr (Below.refl _ _) hpos
  rw [flat_hd t hpos] at c0 c1 c2 hf
  simp only [Nat.zero_mul, Nat.add_zero] at c0 c1 c2
  have HAT := mkHid hat
  have HT := mkHid ht
  have HB := mkHid hb1
  by_cases hk : t.hd.k = 3
  · have HK := mkHid hk
    have hkk : (t.hd.k == 3) = true := by simp [hk]
    clear hat hr ht hrow hatr hk hb1
    go_wp2_with fail
    go_ret
    exact ⟨_, _, t, rfl, HAT.out, ⟨HT.out, hl, HK.out⟩, HB.out⟩
  · have hkk : (t.hd.k == 3) = false := by simp [hk]
    clear hat hr ht hrow hatr hk
    have hn := hb1.new (.cells #[.int .i64 3, .string ⟨#[97]⟩, .int .i64 0] 62)
    have hown : (w1.alloc (.cells #[.int .i64 3, .string ⟨#[97]⟩, .int .i64 0] 62)).ownsRow w.heap.size 62 3 (.slice (some ⟨w1.heap.size, 0, none⟩) 1 1) 1 (flat [⟨3, ⟨#[97]⟩, 0⟩]) := by
      have := World.ownsRow_lit (base := w.heap.size) (e := 62) (size := 3) w1 #[.int .i64 3, .string ⟨#[97]⟩, .int .i64 0] 1 hb1.size (by unfold maxLen; omega) rfl
      simpa [flat] using this
    obtain ⟨a5, cap5, e5, hr5⟩ := own_new (xs := [⟨3, ⟨#[97]⟩, 0⟩]) hown (fun c hc => by rw [List.mem_singleton.1 hc]; exact cfit _ _ _ (by decide) (by decide) (by decide))
    have HE5 := mkHid e5
    have HR5 := mkHid hr5
    have HN := mkHid hn
    clear e5 hr5 hn hown hb1
    go_wp2_with fail
    go_ret
    exact ⟨a5, cap5, .mk ⟨3, ⟨#[97]⟩, 0⟩ [], by rw [HE5.out]; rfl, .inr HR5.out, ⟨aC_ok, hm1, rfl⟩, HN.out⟩

namespace Md
theorem infoLitM : (Tryd.prog.info? 49).map (fun i => (i.zero, i.size, i.bytes)) = some (some (.agg #[.bool false, .slice none 0 0]), 2, 32) := by kernel_rfl
theorem infoClauseM : (Tryd.prog.info? 33).map (fun i => (i.zero, i.size, i.bytes)) = some (some (.agg #[.slice none 0 0, .slice none 0 0]), 2, 48) := by kernel_rfl
/-- the body of a clause that is made: its block, and its row -/
structure BodyI (us : List Nat) (B : Nat) (ah : Option Addr) (hn ch : Nat) (acc : List Lt) (vb : Value) (W : World) : Prop where
  blk : W.heap[B]? = some (.cells #[.slice ah hn ch, vb] 33 (0, 0))
  own : ∃ vs, W.ownsRow (B + 1) 49 2 vb acc.length vs ∧ CRows (veil (B :: (vb.ownBlock.toList ++ us)) W) vs acc
theorem BodyI.start (us : List Nat) (w : World) (ah : Option Addr) (hn ch : Nat) : BodyI us w.heap.size ah hn ch [] (.slice none 0 0) (w.alloc (.cells #[.slice ah hn ch, .slice none 0 0] 33)) :=
  ⟨heap_alloc_new w _, ⟨[], World.ownsRow_nil _ _ _ _, .nil⟩⟩
theorem BodyI.shape {us : List Nat} {B : Nat} {ah : Option Addr} {hn ch : Nat} {acc : List Lt} {vb : Value} {W : World} (h : BodyI us B ah hn ch acc vb W) : ∃ g cap, vb = .slice g acc.length cap := by
  obtain ⟨vs, h1, _⟩ := h.own
  rcases h1.2 with ⟨rfl, h0⟩ | ⟨g, cap, cur, rfl, _⟩
  · exact ⟨none, 0, by rw [h0]⟩
  · exact ⟨_, _, rfl⟩
theorem BodyI.add {us : List Nat} {B : Nat} {ah : Option Addr} {hn ch : Nat} {acc : List Lt} {vb : Value} {W : World} (h : BodyI us B ah hn ch acc vb W) (hl : acc.length ≤ 1000) (hus : ∀ k ∈ us, k < B) (hBW : B < W.heap.size) {neg : Bool} {ta : Option Addr} {tc : Nat} {t : List Cel} (hr : Row (veil (B :: (vb.ownBlock.toList ++ us)) W) ta tc t) (ty : TypeId) :
    ∃ g cap wa, (Builtin.append_ #[31, 31] ty #[vb, .slice (some ⟨W.heap.size, 0, none⟩) 1 1]).run Tryd.prog (W.alloc (.cells #[.bool neg, .slice ta t.length tc] 49)) = .ok (.slice (some ⟨g, 0, none⟩) (acc.length + 1) cap) wa ∧
      wa.heap[B]? = some (.cells #[.slice ah hn ch, vb] 33 (0, 0)) ∧ Below (B + 1) W wa ∧
      BodyI us B ah hn ch (acc ++ [⟨neg, t⟩]) (.slice (some ⟨g, 0, none⟩) (acc.length + 1) cap) (wa.setCell ⟨B, 1, none⟩ (.slice (some ⟨g, 0, none⟩) (acc.length + 1) cap)) := by
  obtain ⟨vs, h1, h2⟩ := h.own
  obtain ⟨i, hi, hz0, hz1, hz2⟩ := info_parts infoLitM
  have hsrc := src_new W #[.bool neg, .slice ta t.length tc] 49 2 (by simp) (fun u hu => by simp at hu; rcases hu with rfl | rfl <;> rfl)
  obtain ⟨v', wa, hrun, k1, k2, k3⟩ := run_append_where (P := Tryd.prog) (W.alloc (.cells #[.bool neg, .slice ta t.length tc] 49)) (B + 1) 31 ty 49 i _ 2 32 Tryd.underlying31 hi hz0 hz1 hz2 rfl (by omega) vb acc.length vs (h1.alloc _)
    ⟨W.heap.size, 0, none⟩ 1 1 [.bool neg, .slice ta t.length tc] hsrc.len (hsrc.cells _ rfl) hsrc.one (by unfold maxLen; omega) (by omega) (by simp; omega)
  obtain ⟨g, cap, rfl⟩ : ∃ g cap, v' = .slice (some ⟨g, 0, none⟩) (acc.length + 1) cap := by
    rcases k1.2 with ⟨_, h0⟩ | ⟨g, cap, _, e, _⟩
    · omega
    · exact ⟨g, cap, e⟩
  have hlt := h1.lt
  have hlt2 := k1.lt g rfl
  have hBb : Below (B + 1) W wa := by
    refine ⟨k2.os, k2.tape, k2.output, by have := k2.size; simp at this; omega, fun k hk => ?_⟩
    exact (k2.block k (by simp; omega) (fun e => by have := (hlt k e.symm).1; omega)).trans (heap_alloc_old _ _ (by omega))
  have hblk : wa.heap[B]? = some (.cells #[.slice ah hn ch, vb] 33 (0, 0)) := (hBb.block B (by omega)).trans h.blk
  have hoth : ∀ q, q ≠ B → (wa.setCell ⟨B, 1, none⟩ (.slice (some ⟨g, 0, none⟩) (acc.length + 1) cap)).heap[q]? = wa.heap[q]? := fun q hq => Below.heap_setCell wa ⟨B, 1, none⟩ _ q hq
  have hkeeps : Keeps (veil (B :: (vb.ownBlock.toList ++ us)) W) (veil (B :: ((Value.slice (some ⟨g, 0, none⟩) (acc.length + 1) cap).ownBlock.toList ++ us)) (wa.setCell ⟨B, 1, none⟩ (.slice (some ⟨g, 0, none⟩) (acc.length + 1) cap))) := by
    intro b o v hc
    obtain ⟨n1, n2⟩ := veil_cell hc
    have hbl := cell_lt n2
    simp only [List.mem_cons, List.mem_append, Option.mem_toList, not_or] at n1
    obtain ⟨m1, m2, m3⟩ := n1
    refine veil_of ?_ ?_
    · simp only [List.mem_cons, List.mem_append, Option.mem_toList, not_or]
      refine ⟨m1, ?_, m3⟩
      intro e
      rcases k3 with q | q
      · rw [q] at e; exact m2 e
      · rw [q] at e
        injection e with e
        simp at e; omega
    · refine (World.cell?_of_block (w := W) (a := ⟨b, o, none⟩) ?_).trans n2
      refine (hoth b m1).trans ?_
      exact (k2.block b (by simp; omega) (fun e => m2 e.symm)).trans (heap_alloc_old _ _ hbl)
  refine ⟨g, cap, wa, hrun, hblk, hBb, ?_, ?_⟩
  · simp only [World.setCell, Array.getElem?_modify, if_true, hblk, Option.map_some]
    simp
  · refine ⟨vs ++ [.bool neg, .slice ta t.length tc], ?_, (h2.keeps hkeeps).snoc (cs := [.bool neg, .slice ta t.length tc]) ⟨ta, tc, rfl, hr.keeps hkeeps⟩⟩
    rw [List.length_append]
    refine World.ownsRow.kept (row := some B) k1 ⟨rfl, rfl, rfl, by simp [World.setCell], fun k hk hne => hoth k (fun e => hne (by rw [e]))⟩ (.inr ?_)
    intro e
    have e' : g = B := Option.some.inj e
    omega
end Md
end Go.Proofs.YtabjghmfjoefpaaDoor
