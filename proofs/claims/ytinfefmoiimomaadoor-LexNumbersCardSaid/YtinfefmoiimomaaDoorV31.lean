import Derived.Test.YtinfefmoiimomaaDoorV17
import Derived.Test.YtinfefmoiimomaaDoorVP3
import Derived.Test.YtinfefmoiimomaaDoorVLay2
import Derived.Shelf.Strconv.Itoa1
import Derived.Shelf.Strconv.Itoa2
import Derived.Lib.ItoaMem
import Derived.Lib.SmallJoins
import Derived.Laws.IdiomStrings
namespace Go.Proofs.YtinfefmoiimomaaDoor
open Go.RowKit Go.Sort

/-! ### a number in digits, and what is read of it -/
theorem decN_snoc (l : List UInt8) (c : UInt8) : decN (l ++ [c]) = decN l * 10 + (c.toNat - 48) := by simp [decN, List.foldl_append]
theorem dig_val {k : Nat} (h : k < 10) : (UInt8.ofNat (48 + k)).toNat = 48 + k := by rw [UInt8.toNat_ofNat']; omega
theorem dig_is {k : Nat} (h : k < 10) : digitB (UInt8.ofNat (48 + k)) = true :=
  (by decide : ∀ i : Fin 10, digitB (UInt8.ofNat (48 + i.val)) = true) ⟨k, h⟩
theorem decDigits_all (u : Nat) : ∀ c ∈ Lib.decDigits u, digitB c = true := by
  induction u using Nat.strongRecOn with
  | _ u ih =>
    by_cases h : u < 10
    · rw [Lib.decDigits, dif_pos h]; simp only [List.mem_singleton]; rintro c rfl; exact dig_is h
    · rw [Lib.decDigits, dif_neg h]
      intro c hc
      rcases List.mem_append.1 hc with hc | hc
      · exact ih (u / 10) (by omega) c hc
      · simp only [List.mem_singleton] at hc; subst hc; exact dig_is (by omega)
theorem decDigits_val (u : Nat) : decN (Lib.decDigits u) = u := by
  induction u using Nat.strongRecOn with
  | _ u ih =>
    by_cases h : u < 10
    · rw [Lib.decDigits, dif_pos h]
      have := dig_val h
      simp only [decN, List.foldl_cons, List.foldl_nil]
      omega
    · rw [Lib.decDigits, dif_neg h, decN_snoc, ih (u / 10) (by omega), dig_val (by omega)]
      omega
def zeroL (j : Nat) (u : Nat) : List UInt8 := List.replicate j 48 ++ Lib.decDigits u
theorem zeroL_all (j u : Nat) : ∀ c ∈ zeroL j u, digitB c = true := by
  intro c hc
  rcases List.mem_append.1 hc with hc | hc
  · obtain ⟨-, rfl⟩ := List.mem_replicate.1 hc; decide
  · exact decDigits_all u c hc
theorem zeroL_val (j u : Nat) : decN (zeroL j u) = u := by
  induction j with
  | zero => rw [zeroL, List.replicate_zero, List.nil_append, decDigits_val]
  | succ j ih =>
    rw [zeroL, List.replicate_succ, List.cons_append, ← zeroL]
    exact ih
theorem nDigits_le {u : Nat} (h : u < 18446744073709551616) : Lib.nDigits u ≤ 20 := by
  by_cases h1 : 1 ≤ u
  · have := Lib.numDigits_eq u h1 h; split at this <;> omega
  · rw [Lib.nDigits_small (by omega)]; omega
theorem zeroL_len {j u : Nat} (h : u < 18446744073709551616) : (zeroL j u).length ≤ j + 20 ∧ 1 ≤ (zeroL j u).length := by
  have h1 := nDigits_le h
  have h2 := Lib.nDigits_pos u
  rw [zeroL, List.length_append, List.length_replicate, Lib.decDigits_length]; omega
def zeroS (j u : Nat) : ByteArray := mkB (zeroL j u)
theorem zeroS_zero (u : Nat) : zeroS 0 u = ⟨(Lib.decDigits u).toArray⟩ := rfl
theorem zeroS_succ (j u : Nat) : (⟨#[48]⟩ : ByteArray) ++ zeroS j u = zeroS (j + 1) u := by
  apply ByteArray.ext
  simp [zeroS, zeroL, mkB, List.replicate_succ]
theorem num_list (t : ByteArray) : ((⟨#[32]⟩ : ByteArray) ++ t ++ ⟨#[46]⟩).data.toList = 32 :: (t.data.toList ++ [46]) := by simp

/-! ### what is read of it -/
theorem dig_not : ∀ c : UInt8, digitB c = true → smallB c = false ∧ greatB c = false ∧ blankB c = false ∧ (c == 37) = false := by
  have h : ∀ c : UInt8, (!digitB c || (!smallB c && !greatB c && !blankB c && !(c == 37))) = true := all_u8 (p := fun c => !digitB c || (!smallB c && !greatB c && !blankB c && !(c == 37))) (by decide +kernel)
  intro c hc
  have := h c
  rw [hc] at this
  simpa [and_assoc] using this
theorem tok_num {l : List UInt8} (hl : ∀ c ∈ l, digitB c = true) (hp : 1 ≤ l.length) : tokL (l ++ [46]) = if 2147483647 < decN l then .err 2 else .tok 3 l (decN l) l.length := by
  have ht : (l ++ [46]).takeWhile digitB = l := by
    rw [List.takeWhile_append_of_pos hl]
    have : ([46] : List UInt8).takeWhile digitB = [] := by decide
    rw [this, List.append_nil]
  cases l with
  | nil => simp at hp
  | cons c r =>
    have hc := hl c (List.mem_cons_self ..)
    obtain ⟨h1, h2, -, -⟩ := dig_not c hc
    rw [List.cons_append] at ht ⊢
    simp only [tokL, h1, h2, hc, Bool.false_eq_true, if_false, if_true, numS, span, ht]
theorem lex_num {l : List UInt8} (hl : ∀ c ∈ l, digitB c = true) (hp : 1 ≤ l.length) (hb : l.length ≤ 100) (hn : decN l ≤ 2147483647) :
    lexL (32 :: (l ++ [46])) = .ok [⟨3, mkB l, decN l, 1⟩, ⟨6, mkB [46], 0, ((1 + l.length : Nat) : Int)⟩] := by
  unfold lexL
  rw [if_neg (by simp; omega), lexW_blank (by decide)]
  have ht := tok_num hl hp
  rw [if_neg (by omega)] at ht
  have hd : (l ++ [46]).drop l.length = [46] := by simp
  cases l with
  | nil => simp at hp
  | cons c r =>
    obtain ⟨-, -, h3, h4⟩ := dig_not c (hl c (List.mem_cons_self ..))
    rw [List.cons_append] at ht hd ⊢
    rw [lexW_tok h3 h4 ht, hd, lexW_tok (by decide) (by decide) (show tokL [46] = .tok 6 [46] 0 1 by decide)]
    rw [show ([46] : List UInt8).drop 1 = [] from rfl, lexW_nil]
    simp [conR]
theorem lex_numB {l : List UInt8} (hl : ∀ c ∈ l, digitB c = true) (hp : 1 ≤ l.length) (hb : l.length ≤ 100) (hn : 2147483647 < decN l) :
    lexL (32 :: (l ++ [46])) = .error (1, 2) := by
  unfold lexL
  rw [if_neg (by simp; omega), lexW_blank (by decide)]
  have ht := tok_num hl hp
  rw [if_pos hn] at ht
  cases l with
  | nil => simp at hp
  | cons c r =>
    obtain ⟨-, -, h3, h4⟩ := dig_not c (hl c (List.mem_cons_self ..))
    rw [List.cons_append] at ht ⊢
    rw [lexW_err h3 h4 ht]

/-! ### strconv.FormatUint at ten -/
abbrev TabU (w : World) : Prop := Lib.TabIs Tryd.prog w "internal/strconv.uint64pow10" .u64 Lib.pow10Tab
theorem Tryd.gPow : Tryd.prog.globalNamed "internal/strconv.uint64pow10" = some 0 := by kernel_rfl
theorem TabU.below {w w' : World} (h : TabU w) (hb : Below w.heap.size w w') : TabU w' := Joins.tab_stays Tryd.gPow h hb (Nat.le_refl _)
theorem below_grow (w : World) (k : Nat) (os : Array Obj) : Below w.heap.size w (grow (w.drewN k) os) :=
  ⟨rfl, rfl, rfl, by simp [grow], fun a ha => by simp [grow, Array.getElem?_append, ha]⟩
theorem holds_zero0 (w : World) (T : TypeId) (nd : Nat) (hs : nd ≤ 24) : Holds (fun (b : UInt8) => Value.int .u8 (b.toNat : Int)) (w.alloc (.cells Lib.zeros24 T)) w.heap.size 0 (Array.replicate nd (0 : UInt8)) := fun j hj => by
  have hj' : j < nd := by simpa using hj
  refine ⟨?_, World.frozen?_alloc_new _ _ _ _⟩
  rw [World.cell?_alloc_new, Lib.zeros24_at _ (by omega), getElem!_pos _ j hj]
  simp
theorem fin_pos0 (w : World) (o : Obj) (dk : Array UInt8) (k : Nat) : ∃ os, (putRow (fun (b : UInt8) => Value.int .u8 (b.toNat : Int)) (w.alloc o) w.heap.size 0 dk).drewN k = grow (w.drewN k) os := by
  rw [alloc_eq_grow]
  obtain ⟨os', _, e⟩ := putRow_grow_new (fun (b : UInt8) => Value.int .u8 (b.toNat : Int)) w #[o] w.heap.size 0 dk (Nat.le_refl _)
  exact ⟨os', by rw [e]; rfl⟩
set_option maxHeartbeats 3200000 in
set_option maxRecDepth 100000 in
theorem formatU_any (u : Nat) (hu : u < 18446744073709551616) (w : World) (htab : TabU w) :
    Calls Tryd.prog 29 #[.int .u64 u, .int .i64 10] w fun e w' => e = .returned (.string ⟨(Lib.decDigits u).toArray⟩) ∧ Below w.heap.size w w' := by
  by_cases hs : u < 100
  · go_enter Tryd.func29, Tryd.ntmps29
    go_wp2_with fail
    refine (Any.internal_strconv_small Tryd.lays283 u hs _).mono ?_; rintro e w' ⟨rfl, rfl⟩
    go_wp2
    go_ret
    exact ⟨rfl, Below.refl _ _⟩
  · have hu1 : 1 ≤ u := by omega
    have hnd20 := nDigits_le hu
    have hal : Tryd.prog.arrayLen 56 = 24 := by kernel_rfl
    have hsl1 : ∀ W, (Instr.sliceAt 56 (.pointer (some ⟨w.heap.size, 0, none⟩)) none (some (.int .i64 (Lib.nDigits u : Int))) none).run Tryd.prog W = .ok (.slice (some ⟨w.heap.size, 0, none⟩) (Lib.nDigits u) 24) W := fun W => by
      rw [run_sliceAt_array_h W 56 ⟨w.heap.size, 0, none⟩ (by kernel_rfl) .i64 (Lib.nDigits u : Int) (by omega) (by rw [hal]; omega)]
      go_simp
      first | done | omega
    have hH0 := holds_zero0 w 56 (Lib.nDigits u) (by omega)
    have hfmt := Any.internal_strconv_formatBase10 Tryd.lays285 w.heap.size 0 24 u (Array.replicate (Lib.nDigits u) 0) (w.alloc (.cells Lib.zeros24 56)) hH0 (by rw [Array.size_replicate]; exact Lib.lt_pow_nDigits u) hu (by rw [Array.size_replicate]; omega)
    rw [Array.size_replicate] at hfmt
    have HH0 := Lib.hid hH0
    clear hH0 hal
    go_enter Tryd.func29, Tryd.ntmps29
    go_wp2_with fail
    refine (Any.internal_strconv_numDigits Tryd.laysM284 u hu1 hu _ (Lib.tabIs_alloc htab _)).mono ?_; rintro e w' ⟨rfl, rfl⟩
    go_wp2_with fail
    refine hfmt.mono ?_
    rintro e w' ⟨rfl, k, v', dk, rfl, hF⟩
    have hcv : (convert 38 9 (.slice (some ⟨w.heap.size, 0, none⟩) (Lib.nDigits u) 24)).run Tryd.prog ((putRow (fun (b : UInt8) => Value.int .u8 (b.toNat : Int)) (w.alloc (.cells Lib.zeros24 56)) w.heap.size 0 dk).drewN k) = .ok (.string ⟨(Lib.decDigits u).toArray⟩) ((putRow (fun (b : UInt8) => Value.int .u8 (b.toNat : Int)) (w.alloc (.cells Lib.zeros24 56)) w.heap.size 0 dk).drewN k) := by
      have h := run_convert_bytes_back (P := Tryd.prog) ((putRow (fun (b : UInt8) => Value.int .u8 (b.toNat : Int)) (w.alloc (.cells Lib.zeros24 56)) w.heap.size 0 dk).drewN k) 38 9 5 ⟨w.heap.size, 0, none⟩ 24 (Lib.decDigits u) Tryd.underlying38 Tryd.underlying5 Tryd.underlying9 (fun j hj => by
        rw [Lib.row_is_numeral hF j hj, Lib.add_plain, World.cell?_drewN]
        exact cell?_putRow (fun (b : UInt8) => Value.int .u8 (b.toNat : Int)) _ w.heap.size 0 _ dk HH0.out (by rw [hF.size, Array.size_replicate]) j (by rw [hF.size]; rw [Lib.decDigits_length] at hj; exact hj))
      rw [Lib.decDigits_length] at h
      exact h
    go_wp2
    go_ret
    obtain ⟨os, eo⟩ := fin_pos0 w (.cells Lib.zeros24 56) dk k
    refine ⟨rfl, ?_⟩
    have hb := below_grow w k os
    rw [← eo] at hb
    exact hb
theorem formatUint_any (u : Nat) (hu : u < 18446744073709551616) (w : World) (htab : TabU w) :
    Calls Tryd.prog 22 #[.int .u64 u, .int .i64 10] w fun e w' => e = .returned (.string ⟨(Lib.decDigits u).toArray⟩) ∧ Below w.heap.size w w' := by
  go_enter Tryd.func22, Tryd.ntmps22
  go_wp2_with fail
  refine (formatU_any u hu w htab).mono ?_; rintro e w' ⟨rfl, hb⟩
  go_wp2
  go_ret
  exact ⟨rfl, hb⟩
end Go.Proofs.YtinfefmoiimomaaDoor
