/-
  Of layer 10 of sorrel: whatever arguments come in, the law CodeOnce returns true, and what was handed in reads as it did: each register is set once, as an argument or by an instruction, and ahead of where it is used; all up to Regs are. No condition.
-/
import Derived.Test.YtkkiemideldioaaZr8
set_option linter.unusedVariables false
namespace Go.Proofs.Ytkkiemideldioaa
open Go.RowKit

/-- a block of truths -/
def RowB10 (w : World) (u : Nat) (U : List Bool) : Prop := w.heap[u]? = some (.cells (U.map Value.bool).toArray 4 (0, 0))
theorem RowB10.lt {w : World} {u : Nat} {U : List Bool} (h : RowB10 w u U) : u < w.heap.size := (Array.getElem?_eq_some_iff.1 h).1
theorem RowB10.read {w : World} {u : Nat} {U : List Bool} (h : RowB10 w u U) {k : Nat} (hk : k < U.length) : w.cell? ⟨u, k, none⟩ = some (.bool U[k]) := by
  rw [cell_of_row w u k _ _ _ h]; simp [hk]
theorem RowB10.free {w : World} {u : Nat} {U : List Bool} (h : RowB10 w u U) (k : Nat) : w.frozen? ⟨u, k, none⟩ = false := by
  unfold RowB10 at h
  simp [World.frozen?, h]
theorem RowB10.set {w : World} {u : Nat} {U : List Bool} (h : RowB10 w u U) (k : Nat) (v : Bool) : RowB10 (w.setCell ⟨u, k, none⟩ (.bool v)) u (U.set k v) := by
  unfold RowB10 at *
  simp only [World.setCell, Array.getElem?_modify, if_true, h, Option.map_some]
  simp
theorem RowB10.below {w w' : World} {u : Nat} {U : List Bool} (h : RowB10 w u U) (hb : Below w.heap.size w w') : RowB10 w' u U := (hb.block u h.lt).trans h
theorem RowB10.new {w : World} {u : Nat} {U : List Bool} (h : RowB10 w u U) (o : Obj) : RowB10 (w.alloc o) u U := (heap_alloc_old _ _ h.lt).trans h
theorem Try.infoBool10 : (Try.prog.info? 4).map (fun i => (i.zero, i.size, i.bytes)) = some (some (.bool false), 1, 1) := by kernel_rfl
theorem made_bools10 (n : Nat) : madeCells (Value.bool false).cells n = Array.replicate n (Value.bool false) := by
  unfold madeCells
  simp only [Value.cells]
  apply Array.ext
  · simp
  · intro i h1 h2
    simp [Nat.mod_one]
theorem run_bools10 (n : Nat) (hn : n ≤ 1000000) (w : World) : (Instr.makeSlice 46 (.int .i64 n) (.int .i64 n)).run Try.prog w = .ok (.slice (some ⟨w.heap.size, 0, none⟩) n n) (w.alloc (.cells (Array.replicate n (Value.bool false)) 4)) := by
  obtain ⟨i, hi, hz0, hz1, hz2⟩ := info_parts Try.infoBool10
  have hrun := run_make (P := Try.prog) w 46 4 i _ Try.underlying46 hi hz0 .i64 .i64 n n (by omega) (Int.le_refl _) (by rw [hz2]; omega) (by omega)
  rw [hz1, Nat.mul_one, Int.toNat_natCast, made_bools10] at hrun
  exact hrun
/-- the first k of N are set -/
def setB (N k : Nat) : List Bool := (List.range N).map fun j => decide (j < k)
theorem setB_len (N k : Nat) : (setB N k).length = N := by simp [setB]
theorem setB_get {N k j : Nat} (h : j < (setB N k).length) : (setB N k)[j] = decide (j < k) := by simp [setB]
theorem setB_set (N k : Nat) : (setB N k).set k true = setB N (k + 1) := by
  apply List.ext_getElem
  · simp [setB]
  · intro i h1 h2
    rw [List.getElem_set, setB_get]
    split
    · rename_i e
      subst e
      rw [setB_get]
      simp
    · rename_i e
      rw [setB_get]
      simp only [decide_eq_decide]
      omega
theorem setB_zero (w : World) (N : Nat) : RowB10 (w.alloc (.cells (Array.replicate N (Value.bool false)) 4)) w.heap.size (setB N 0) := by
  unfold RowB10
  rw [heap_alloc_new]
  congr 2
  apply Array.ext
  · simp [setB]
  · intro i h1 h2
    simp [setB]
theorem setB_cell {w : World} {u N k j : Nat} {r : Bool} (h : RowB10 w u (setB N k)) (hj : j < N) (hr : decide (j < k) = r) : w.cell? ⟨u, j, none⟩ = some (.bool r) := by
  rw [h.read (by rw [setB_len]; exact hj), setB_get, hr]
theorem once_at {L : List Ins} {k : Nat} (hk : k < L.length) {j K : Int} (h : onceGo j (L.drop k) = some K) :
    (isVal L[k] = true → 0 ≤ L[k].x ∧ L[k].x < j) ∧ (isArg L[k] = true → 0 ≤ L[k].a ∧ L[k].a < j) ∧ (setsX L[k] = true → L[k].x = j ∧ onceGo (j + 1) (L.drop (k + 1)) = some K) ∧ (L[k].op = 8 → L[k].a = j ∧ onceGo (j + 1) (L.drop (k + 1)) = some K) ∧ (setsX L[k] = false → ¬ L[k].op = 8 → onceGo j (L.drop (k + 1)) = some K) := by
  rw [List.drop_eq_getElem_cons hk, onceGo_cons] at h
  split at h
  · cases h
  · rename_i h0
    rw [Bool.not_eq_true, Bool.or_eq_false_iff] at h0
    obtain ⟨h1, h2⟩ := h0
    refine ⟨fun e => by rw [e] at h1; simpa using h1, fun e => by rw [e] at h2; simpa using h2, fun e => ?_, fun e => ?_, fun e e8 => ?_⟩
    · rw [if_pos e] at h
      split at h
      · rename_i e2; exact ⟨e2, h⟩
      · cases h
    · rw [if_neg (by rw [op8_sets e]; simp), if_pos e] at h
      split at h
      · rename_i e2; exact ⟨e2, h⟩
      · cases h
    · rw [if_neg (by rw [e]; simp), if_neg e8] at h
      exact h
set_option maxHeartbeats 3200000 in
set_option maxRecDepth 100000 in
theorem setsY (op x a : Int) (s : ByteArray) (n : Int) (neg : Bool) (hop : op = 1 ∨ op = 5 ∨ op = 9) (w : World) :
    Calls Try.prog 27 #[.agg #[.int .i64 op, .int .i64 x, .int .i64 a, .string s, .int .i64 n, .bool neg]] w fun e w' => e = .returned (.tuple #[.bool true, .int .i64 x]) ∧ Below w.heap.size w w' := by
  have hn := (Below.refl w.heap.size w).new (.cells #[.int .i64 op, .int .i64 x, .int .i64 a, .string s, .int .i64 n, .bool neg] 48)
  have HN := mkHid hn
  clear hn
  rcases hop with rfl | rfl | rfl <;>
  · go_enter Try.func27, Try.ntmps27
    go_wp2_with fail
    go_quiet (fail)
    go_wp2_with fail
    refine bodyPost_ret (v := .tuple #[.bool true, .int .i64 x]) (by simp [results, Try.results27, go_sem, *]) rfl ⟨rfl, ?_⟩
    exact HN.out.then (drewN_belowI _ _)
set_option maxHeartbeats 3200000 in
set_option maxRecDepth 100000 in
theorem sets8 (x a : Int) (s : ByteArray) (n : Int) (neg : Bool) (w : World) :
    Calls Try.prog 27 #[.agg #[.int .i64 8, .int .i64 x, .int .i64 a, .string s, .int .i64 n, .bool neg]] w fun e w' => e = .returned (.tuple #[.bool true, .int .i64 a]) ∧ Below w.heap.size w w' := by
  have hn := (Below.refl w.heap.size w).new (.cells #[.int .i64 8, .int .i64 x, .int .i64 a, .string s, .int .i64 n, .bool neg] 48)
  have HN := mkHid hn
  clear hn
  go_enter Try.func27, Try.ntmps27
  go_wp2_with fail
  go_quiet (fail)
  go_wp2_with fail
  refine bodyPost_ret (v := .tuple #[.bool true, .int .i64 a]) (by simp [results, Try.results27, go_sem, *]) rfl ⟨rfl, ?_⟩
  exact HN.out.then (drewN_belowI _ _)
set_option maxHeartbeats 3200000 in
set_option maxRecDepth 100000 in
theorem setsN (op x a : Int) (s : ByteArray) (n : Int) (neg : Bool) (h1 : ¬ op = 1) (h5 : ¬ op = 5) (h9 : ¬ op = 9) (h8 : ¬ op = 8) (w : World) :
    Calls Try.prog 27 #[.agg #[.int .i64 op, .int .i64 x, .int .i64 a, .string s, .int .i64 n, .bool neg]] w fun e w' => e = .returned (.tuple #[.bool false, .int .i64 0]) ∧ Below w.heap.size w w' := by
  have hn := (Below.refl w.heap.size w).new (.cells #[.int .i64 op, .int .i64 x, .int .i64 a, .string s, .int .i64 n, .bool neg] 48)
  have HN := mkHid hn
  have d1 : (op == 1) = false := by simp [h1]
  have d5 : (op == 5) = false := by simp [h5]
  have d9 : (op == 9) = false := by simp [h9]
  have d8 : (op == 8) = false := by simp [h8]
  clear hn
  go_enter Try.func27, Try.ntmps27
  go_wp2_with fail
  refine bodyPost_ret (v := .tuple #[.bool false, .int .i64 0]) (by simp [results, Try.results27, go_sem, *]) rfl ⟨rfl, ?_⟩
  exact HN.out
set_option maxRecDepth 100000 in
set_option maxHeartbeats 25600000 in
theorem lawOnce_any (W : World) (x : Cl) (a : Option Addr) (b : Nat) (e : Option Addr) (c : Nat) (hu : Row W a b x.h) (hv : Row W e c x.b) :
    Calls Try.prog 8 #[.agg #[.slice a x.h.length b, .slice e x.b.length c]] W fun r W' => r = .returned (.bool true) ∧ Below W.heap.size W W' := by
  have hb0 := (Below.refl W.heap.size W).new (.cells #[.slice a x.h.length b, .slice e x.b.length c] 25)
  have hm3 := hv.max
  have hm4 := hv.le
  have hm1 := hu.max
  have hm2 := hu.le
  have p0 : (W.alloc (.cells #[.slice a x.h.length b, .slice e x.b.length c] 25)).cell? ⟨W.heap.size, 0, none⟩ = some (.slice a x.h.length b) := World.cell?_alloc_at _ _ W.heap.size 0 rfl
  have p1 : (W.alloc (.cells #[.slice a x.h.length b, .slice e x.b.length c] 25)).cell? ⟨W.heap.size, 1, none⟩ = some (.slice e x.b.length c) := World.cell?_alloc_at _ _ W.heap.size 1 rfl
  have HX := mkHid (hu.below hb0)
  have HX1 := mkHid (hv.below hb0)
  have HB0 := mkHid hb0
  obtain ⟨W0, hW⟩ : ∃ W0, W.alloc (.cells #[.slice a x.h.length b, .slice e x.b.length c] 25) = W0 := ⟨_, rfl⟩
  rw [hW] at p0 p1 HX HX1 HB0
  have HSZ : Hid (W.heap.size < W0.heap.size) := by rw [Hid, ← hW]; simp
  clear hu hv hb0
  cases hG : greatB [x]
  · cases hM : mayB x
    · go_enter Try.func8, Try.ntmps8
      go_wp2_with fail
      first | rw [hW] | skip
      clear hW
      refine (head10_any _).mono ?_
      rintro r w1 ⟨rfl, hb1⟩
      have HB1 := mkHid (HB0.out.then hb1)
      have q0 := keep p0 hb1
      have q1 := keep p1 hb1
      have HX2 := mkHid (HX.out.below hb1)
      have HX3 := mkHid (HX1.out.below hb1)
      have HZ2 : Hid (W.heap.size < w1.heap.size) := by have h1 := HSZ.out; have h2 := hb1.size; rw [Hid]; omega
      clear hb1 HB0 p0 p1 HX HX1 HSZ
      go_wp2_with fail
      have HT1 := mkHid (great7K _ _ _ [x] 1 _ (row_cl x HX2.out HX3.out) rfl hG)
      have hn1 := (Below.refl w1.heap.size w1).new (.cells #[.slice a x.h.length b, .slice e x.b.length c] 25)
      refine HT1.out.mono ?_
      clear HT1
      rintro r w2 ⟨rfl, hb2⟩
      have hb2' := hn1.then hb2
      have HB2 := mkHid (HB1.out.then hb2')
      have r0 := keep q0 hb2'
      have r1 := keep q1 hb2'
      have HX4 := mkHid (HX2.out.below hb2')
      have HX5 := mkHid (HX3.out.below hb2')
      have HZ3 : Hid (W.heap.size < w2.heap.size) := by have h1 := HZ2.out; have h2 := hb2'.size; rw [Hid]; omega
      clear hb2 hn1 hb2' HB1 q0 q1 HX2 HX3 HZ2
      go_wp2_with fail
      have HT1 := mkHid (mayK a b e c _ x _ _ _ HX4.out HX5.out rfl rfl hM)
      refine HT1.out.mono ?_
      clear HT1
      rintro r w3 ⟨rfl, hb3⟩
      have HB3 := mkHid (HB2.out.then hb3)
      have s0 := keep r0 hb3
      have s1 := keep r1 hb3
      have HX6 := mkHid (HX4.out.below hb3)
      have HX7 := mkHid (HX5.out.below hb3)
      have HZ4 : Hid (W.heap.size < w3.heap.size) := by have h1 := HZ3.out; have h2 := hb3.size; rw [Hid]; omega
      clear hb3 HB2 r0 r1 HX4 HX5 HZ3
      go_wp2_with fail
      go_ret
      exact ⟨rfl, HB3.out⟩
    · obtain ⟨h, bl, hT⟩ := may_trees hM
      go_enter Try.func8, Try.ntmps8
      go_wp2_with fail
      first | rw [hW] | skip
      clear hW
      refine (head10_any _).mono ?_
      rintro r w1 ⟨rfl, hb1⟩
      have HB1 := mkHid (HB0.out.then hb1)
      have q0 := keep p0 hb1
      have q1 := keep p1 hb1
      have HX2 := mkHid (HX.out.below hb1)
      have HX3 := mkHid (HX1.out.below hb1)
      have HZ2 : Hid (W.heap.size < w1.heap.size) := by have h1 := HSZ.out; have h2 := hb1.size; rw [Hid]; omega
      clear hb1 HB0 p0 p1 HX HX1 HSZ
      go_wp2_with fail
      have HT1 := mkHid (great7K _ _ _ [x] 1 _ (row_cl x HX2.out HX3.out) rfl hG)
      have hn1 := (Below.refl w1.heap.size w1).new (.cells #[.slice a x.h.length b, .slice e x.b.length c] 25)
      refine HT1.out.mono ?_
      clear HT1
      rintro r w2 ⟨rfl, hb2⟩
      have hb2' := hn1.then hb2
      have HB2 := mkHid (HB1.out.then hb2')
      have r0 := keep q0 hb2'
      have r1 := keep q1 hb2'
      have HX4 := mkHid (HX2.out.below hb2')
      have HX5 := mkHid (HX3.out.below hb2')
      have HZ3 : Hid (W.heap.size < w2.heap.size) := by have h1 := HZ2.out; have h2 := hb2'.size; rw [Hid]; omega
      clear hb2 hn1 hb2' HB1 q0 q1 HX2 HX3 HZ2
      go_wp2_with fail
      have HT1 := mkHid (mayK a b e c _ x _ _ _ HX4.out HX5.out rfl rfl hM)
      refine HT1.out.mono ?_
      clear HT1
      rintro r w3 ⟨rfl, hb3⟩
      have HB3 := mkHid (HB2.out.then hb3)
      have s0 := keep r0 hb3
      have s1 := keep r1 hb3
      have HX6 := mkHid (HX4.out.below hb3)
      have HX7 := mkHid (HX5.out.below hb3)
      have HZ4 : Hid (W.heap.size < w3.heap.size) := by have h1 := HZ3.out; have h2 := hb3.size; rw [Hid]; omega
      clear hb3 HB2 r0 r1 HX4 HX5 HZ3
      go_wp2_with fail
      have HT1 := mkHid (compQ a b e c _ x h bl hT HX6.out HX7.out)
      refine HT1.out.mono ?_
      clear HT1
      rintro r w4 ⟨a2, c2, L, rfl, hrl, hL, hb4⟩
      have HL := mkHid hrl
      have HLE := mkHid hL
      have hlm := comp_shorts hT
      rw [← hL] at hlm
      obtain ⟨hl1, hl2⟩ := hlm
      have HB4 := mkHid (HB3.out.then hb4)
      have t0 := keep s0 hb4
      have t1 := keep s1 hb4
      have HX8 := mkHid (HX6.out.below hb4)
      have HX9 := mkHid (HX7.out.below hb4)
      have HZ5 : Hid (W.heap.size < w4.heap.size) := by have h1 := HZ4.out; have h2 := hb4.size; rw [Hid]; omega
      clear hb4 HB3 s0 s1 HX6 HX7 HZ4 hrl hL
      obtain ⟨K, hK1, hK2, hK3⟩ := compS_regs h bl hT.kinds (ok_aris h hT.ok) hT.h3 fun p hp => (hT.litk p hp).1
      have hz := compS_zero (h := h) (bl := bl)
      rw [← HLE.out] at hK2 hK3 hz
      have hle := onceGo_le L _ K hK2
      have hhn : 0 ≤ h.hd.n ∧ h.hd.n ≤ 6 := by
        have h1 := (ok_iff h |>.1 hT.ok).1
        unfold cellOk at h1
        rw [hT.h3] at h1
        simp at h1
        omega
      obtain ⟨hn, hhe⟩ : ∃ hn : Nat, h.hd.n = (hn : Int) := ⟨h.hd.n.toNat, by omega⟩
      obtain ⟨N, hNe⟩ : ∃ N : Nat, K = (N : Int) := ⟨K.toNat, by omega⟩
      subst hNe
      have hup := (once_facts L _ _ hK2).2.1
      rw [hhe] at hK1 hK2 hle hhn
      have hlo : ∀ i ∈ L, 0 ≤ i.x ∧ i.x ≤ N ∧ 0 ≤ i.a ∧ i.a ≤ N := by
        intro i hi
        obtain ⟨k, hk, rfl⟩ := List.getElem_of_mem hi
        have key : ∀ (L : List Ins) (j : Int), 0 ≤ j → onceGo j L = some (N : Int) → ∀ i ∈ L, (isVal i = true → 0 ≤ i.x) ∧ (isArg i = true → 0 ≤ i.a) ∧ (setsX i = true → 0 ≤ i.x) ∧ (i.op = 8 → 0 ≤ i.a) := by
          intro L
          induction L with
          | nil => intro j _ _ i hi; cases hi
          | cons y L ih =>
            intro j hj ho i hi
            have h0 := once_at (L := y :: L) (k := 0) (by simp) ho
            simp only [List.getElem_cons_zero, List.drop_zero, Nat.zero_add, List.drop_succ_cons] at h0
            obtain ⟨g1, g2, g3, g4, g5⟩ := h0
            rcases List.mem_cons.1 hi with rfl | hi
            · exact ⟨fun e => (g1 e).1, fun e => (g2 e).1, fun e => by have := (g3 e).1; omega, fun e => by have := (g4 e).1; omega⟩
            · by_cases e1 : setsX y = true
              · exact ih (j + 1) (by omega) (g3 e1).2 i hi
              · by_cases e8 : y.op = 8
                · exact ih (j + 1) (by omega) (g4 e8).2 i hi
                · exact ih j hj (g5 (by simpa using e1) e8) i hi
        have g := key L hn (by omega) hK2 _ hi
        have hu := hup _ hi
        have hz0 := hz _ hi
        refine ⟨?_, ?_, ?_, ?_⟩
        · cases e : inX L[k]
          · rw [hz0.1 e]; omega
          · rcases inX_or e with e1 | e1
            · exact g.1 e1
            · exact g.2.2.1 e1
        · cases e : inX L[k]
          · rw [hz0.1 e]; omega
          · have := hu.1 e; omega
        · cases e : inA L[k]
          · rw [hz0.2 e]; omega
          · rcases inA_or e with e1 | e1
            · exact g.2.1 e1
            · exact g.2.2.2 e1
        · cases e : inA L[k]
          · rw [hz0.2 e]; omega
          · have := hu.2 e; omega
      have hN1 : N ≤ L.length + 6 := by omega
      have hN2 : hn ≤ N := by omega
      have hN3 : N ≤ 10000 := by omega
      have hd1 : decide (N < hn) = false := by simp; omega
      have hd2 : decide (L.length + 6 < N) = false := by simp; omega
      have hd3 : decide ((L.length : Int) + 6 < (N : Int)) = false := by simp; omega
      have hd4 : ¬ N < hn := by omega
      have hd5 : ¬ (L.length : Int) + 6 < (N : Int) := by omega
      have HLO := mkHid hlo
      have HK2 := mkHid hK2
      have HHE := mkHid hhe
      clear hlo hK2 hz hup hle
      have hmk := run_bools10 N (by omega)
      go_wp2_with fail
      refine (regsK a2 c2 w4 L L.length N rfl hK3 (fun i hi => by have := HLO.out i hi; omega) HL.out).mono ?_
      rintro r w5 ⟨rfl, hb5⟩
      have HB5 := mkHid (HB4.out.then hb5)
      have u0 := keep t0 hb5
      have HL5 := mkHid (HL.out.below hb5)
      have hx5 := HX8.out.below hb5
      have hpos : 0 < x.h.length := by rw [hT.eh]; exact flat_pos h
      obtain ⟨b6, o6, hab, hb6, hat6⟩ := hx5.cases.resolve_left (fun e => by simp [e] at hpos)
      subst hab
      have hc6 := cel_at hat6 (Below.refl _ _) hpos
      have hce : x.h[0] = h.hd := by simp only [hT.eh, flat_cons, List.getElem_cons_zero]
      rw [hce] at hc6
      have u2 : w5.cell? ⟨b6, o6 + 2, none⟩ = some (.int .i64 hn) := by rw [← HHE.out]; simpa using hc6.c2
      have HU0 := mkHid u0
      have HU2 := mkHid u2
      clear hb5 t0 t1 HL HX8 HX9 HB4 HZ5 hx5 hat6 hc6 hce hK3
      go_wp2_with fail
      have HRB := mkHid (setB_zero w5 N)
      have HBN := mkHid ((Below.refl w5.heap.size w5).new (.cells (Array.replicate N (Value.bool false)) 4))
      clear hmk u0 u2
      go_loopw [8] (fun i wr => ∃ k : Nat, k ≤ hn ∧ i = .int .i64 k ∧ Hid (Below w5.heap.size w5 wr) ∧ Hid (RowB10 wr w5.heap.size (setB N k))) (fun i wr => hn - (intOf i).toNat)
      case atStart => exact ⟨0, Nat.zero_le _, rfl, HBN, HRB⟩
      case round =>
        clear HRB HBN
        obtain ⟨k, hk, rfl, HB, HR⟩ := hrel
        have u0 := keep HU0.out HB.out
        have u2 := keep HU2.out HB.out
        by_cases hlt : k < hn
        · have hkN : k < N := by omega
          have hfr := HR.out.free k
          have hcl := setB_cell HR.out hkN (r := false) (by simp)
          have HR2 : Hid (RowB10 (wr.setCell ⟨w5.heap.size, k, none⟩ (.bool true)) w5.heap.size (setB N (k + 1))) := by
            rw [Hid, ← setB_set]
            exact HR.out.set k true
          have HB2 := mkHid (HB.out.setCell (p := ⟨w5.heap.size, k, none⟩) (Nat.le_refl _) (.bool true))
          go_wp2_with fail
          go_round
          case rel => exact ⟨k + 1, by omega, by go_num, HB2, HR2⟩
          case measure => simp [intOf]; omega
        · obtain rfl : k = hn := by omega
          obtain ⟨wA, hwA⟩ : ∃ X, X = wr := ⟨_, rfl⟩
          subst hwA
          go_wp2_with fail
          clear u0 u2
          go_loopw [9, 10, 11, 12, 13, 14] (fun i _ _ _ _ _ wr => ∃ q j : Nat, q ≤ L.length ∧ j ≤ N ∧ i = .int .i64 q ∧ Hid (Below w5.heap.size w5 wr) ∧ Hid (RowB10 wr w5.heap.size (setB N j)) ∧ Hid (onceGo j (L.drop q) = some (N : Int))) (fun i _ _ _ _ _ wr => L.length - (intOf i).toNat)
          case atStart => exact ⟨0, k, Nat.zero_le _, hN2, rfl, HB, HR, HK2⟩
          case round =>
            clear HB HR
            obtain ⟨q, j, hq, hjN, rfl, HB, HR, HO⟩ := hrel
            by_cases hltq : q < L.length
            · obtain ⟨bb, off, hab, hb, hat⟩ := HL5.out.cases.resolve_left (fun e => by simp [e] at hltq)
              subst hab
              obtain ⟨c0, c1, c2', c3, c4, c5, hf⟩ := ins_at hat HB.out hltq
              obtain ⟨g1, g2, g3, g4, g5⟩ := once_at hltq HO.out
              obtain ⟨l1, l2, l3, l4⟩ := HLO.out _ (List.getElem_mem hltq)
              have HN1 := HB.out.size
              obtain ⟨i, hi⟩ : ∃ i, L[q] = i := ⟨_, rfl⟩
              rw [hi] at c0 c1 c2' c3 c4 c5 g1 g2 g3 g4 g5 l1 l2 l3 l4
              obtain ⟨op, X, A, sn, nn, ng⟩ := i
              simp only at c0 c1 c2' c3 c4 c5 g1 g2 g3 g4 g5 l1 l2 l3 l4
              obtain ⟨X, rfl⟩ : ∃ n : Nat, X = (n : Int) := ⟨X.toNat, by omega⟩
              obtain ⟨A, rfl⟩ : ∃ n : Nat, A = (n : Int) := ⟨A.toNat, by omega⟩
              have hx0 : ¬ (X : Int) < 0 := by omega
              have ha0 : ¬ (A : Int) < 0 := by omega
              have hx1 : ¬ (N : Int) < (X : Int) := by omega
              have ha1 : ¬ (N : Int) < (A : Int) := by omega
              have hx2 : decide (N < X) = false := by simp; omega
              have ha2 : decide (N < A) = false := by simp; omega
              clear hf hat hi l1 l2 l3 l4 HO
              by_cases h1 : op = 1
              · subst h1
                obtain ⟨v6, v7⟩ := g2 (by simp [isArg])
                have v8 : A < j := by omega
                have v9 : ¬ N ≤ A := by omega
                have va : decide (N ≤ A) = false := by simp; omega
                obtain ⟨s1, s2⟩ := g3 (by simp [setsX])
                obtain rfl : X = j := by omega
                have hjlt : X < N := by have := (onceGo_le _ _ _ s2).1; omega
                have HO2 : Hid (onceGo ((X + 1 : Nat) : Int) (L.drop (q + 1)) = some (N : Int)) := by
                  have e9 : ((X + 1 : Nat) : Int) = (X : Int) + 1 := by omega
                  rw [Hid, e9]
                  exact s2
                clear s1 s2
                have w1 : ¬ N ≤ X := by omega
                have w2 : decide (N ≤ X) = false := by simp; omega
                clear g1 g2 g3 g4 g5
                have hnb := (Below.refl wr.heap.size wr).new (.cells #[.int .i64 1, .int .i64 X, .int .i64 A, .string sn, .int .i64 nn, .bool ng] 48)
                have HR1 := mkHid (HR.out.new (.cells #[.int .i64 1, .int .i64 X, .int .i64 A, .string sn, .int .i64 nn, .bool ng] 48))
                have HB1 := mkHid (HB.out.new (.cells #[.int .i64 1, .int .i64 X, .int .i64 A, .string sn, .int .i64 nn, .bool ng] 48))
                have ra := setB_cell HR1.out (show A < N by omega) (r := true) (by simp; omega)
                clear hnb
                go_wp2_with fail
                refine (setsY _ _ _ _ _ _ (by omega) _).mono ?_
                rintro r w8 ⟨rfl, hb8⟩
                have HR2 := mkHid (HR1.out.below hb8)
                have HB2 := mkHid (HB1.out.then hb8)
                clear hb8
                clear ra
                have rs := setB_cell HR2.out hjlt (r := false) (by simp)
                have rf := HR2.out.free X
                have HR3 : Hid (RowB10 (w8.setCell ⟨w5.heap.size, X, none⟩ (.bool true)) w5.heap.size (setB N (X + 1))) := by
                  rw [Hid, ← setB_set]
                  exact HR2.out.set X true
                have HB3 := mkHid (HB2.out.setCell (p := ⟨w5.heap.size, X, none⟩) (Nat.le_refl _) (.bool true))
                go_wp2_with fail
                go_round
                case rel => exact ⟨q + 1, X + 1, by omega, by omega, by go_num, HB3, HR3, HO2⟩
                case measure => simp [intOf]; omega
              · have d1 : (op == 1) = false := by simp [h1]
                by_cases h2 : op = 2
                · subst h2
                  obtain ⟨v1, v2⟩ := g1 (by simp [isVal])
                  have v3 : X < j := by omega
                  have v4 : ¬ N ≤ X := by omega
                  have v5 : decide (N ≤ X) = false := by simp; omega
                  obtain ⟨v6, v7⟩ := g2 (by simp [isArg])
                  have v8 : A < j := by omega
                  have v9 : ¬ N ≤ A := by omega
                  have va : decide (N ≤ A) = false := by simp; omega
                  have HO2 := mkHid (g5 (by simp [setsX]) (by simp))
                  clear g1 g2 g3 g4 g5
                  have hnb := (Below.refl wr.heap.size wr).new (.cells #[.int .i64 2, .int .i64 X, .int .i64 A, .string sn, .int .i64 nn, .bool ng] 48)
                  have HR1 := mkHid (HR.out.new (.cells #[.int .i64 2, .int .i64 X, .int .i64 A, .string sn, .int .i64 nn, .bool ng] 48))
                  have HB1 := mkHid (HB.out.new (.cells #[.int .i64 2, .int .i64 X, .int .i64 A, .string sn, .int .i64 nn, .bool ng] 48))
                  have rv := setB_cell HR1.out (show X < N by omega) (r := true) (by simp; omega)
                  have ra := setB_cell HR1.out (show A < N by omega) (r := true) (by simp; omega)
                  clear hnb
                  go_wp2_with fail
                  refine (setsN _ _ _ _ _ _ (by decide) (by decide) (by decide) (by decide) _).mono ?_
                  rintro r w8 ⟨rfl, hb8⟩
                  have HR2 := mkHid (HR1.out.below hb8)
                  have HB2 := mkHid (HB1.out.then hb8)
                  clear hb8
                  clear rv
                  clear ra
                  go_wp2_with fail
                  go_round
                  case rel => exact ⟨q + 1, j, by omega, by omega, by go_num, HB2, HR2, HO2⟩
                  case measure => simp [intOf]; omega
                · have d2 : (op == 2) = false := by simp [h2]
                  by_cases h3 : op = 3
                  · subst h3
                    obtain ⟨v6, v7⟩ := g2 (by simp [isArg])
                    have v8 : A < j := by omega
                    have v9 : ¬ N ≤ A := by omega
                    have va : decide (N ≤ A) = false := by simp; omega
                    have HO2 := mkHid (g5 (by simp [setsX]) (by simp))
                    clear g1 g2 g3 g4 g5
                    have hnb := (Below.refl wr.heap.size wr).new (.cells #[.int .i64 3, .int .i64 X, .int .i64 A, .string sn, .int .i64 nn, .bool ng] 48)
                    have HR1 := mkHid (HR.out.new (.cells #[.int .i64 3, .int .i64 X, .int .i64 A, .string sn, .int .i64 nn, .bool ng] 48))
                    have HB1 := mkHid (HB.out.new (.cells #[.int .i64 3, .int .i64 X, .int .i64 A, .string sn, .int .i64 nn, .bool ng] 48))
                    have ra := setB_cell HR1.out (show A < N by omega) (r := true) (by simp; omega)
                    clear hnb
                    go_wp2_with fail
                    refine (setsN _ _ _ _ _ _ (by decide) (by decide) (by decide) (by decide) _).mono ?_
                    rintro r w8 ⟨rfl, hb8⟩
                    have HR2 := mkHid (HR1.out.below hb8)
                    have HB2 := mkHid (HB1.out.then hb8)
                    clear hb8
                    clear ra
                    go_wp2_with fail
                    go_round
                    case rel => exact ⟨q + 1, j, by omega, by omega, by go_num, HB2, HR2, HO2⟩
                    case measure => simp [intOf]; omega
                  · have d3 : (op == 3) = false := by simp [h3]
                    by_cases h4 : op = 4
                    · subst h4
                      obtain ⟨v6, v7⟩ := g2 (by simp [isArg])
                      have v8 : A < j := by omega
                      have v9 : ¬ N ≤ A := by omega
                      have va : decide (N ≤ A) = false := by simp; omega
                      have HO2 := mkHid (g5 (by simp [setsX]) (by simp))
                      clear g1 g2 g3 g4 g5
                      have hnb := (Below.refl wr.heap.size wr).new (.cells #[.int .i64 4, .int .i64 X, .int .i64 A, .string sn, .int .i64 nn, .bool ng] 48)
                      have HR1 := mkHid (HR.out.new (.cells #[.int .i64 4, .int .i64 X, .int .i64 A, .string sn, .int .i64 nn, .bool ng] 48))
                      have HB1 := mkHid (HB.out.new (.cells #[.int .i64 4, .int .i64 X, .int .i64 A, .string sn, .int .i64 nn, .bool ng] 48))
                      have ra := setB_cell HR1.out (show A < N by omega) (r := true) (by simp; omega)
                      clear hnb
                      go_wp2_with fail
                      refine (setsN _ _ _ _ _ _ (by decide) (by decide) (by decide) (by decide) _).mono ?_
                      rintro r w8 ⟨rfl, hb8⟩
                      have HR2 := mkHid (HR1.out.below hb8)
                      have HB2 := mkHid (HB1.out.then hb8)
                      clear hb8
                      clear ra
                      go_wp2_with fail
                      go_round
                      case rel => exact ⟨q + 1, j, by omega, by omega, by go_num, HB2, HR2, HO2⟩
                      case measure => simp [intOf]; omega
                    · have d4 : (op == 4) = false := by simp [h4]
                      by_cases h5 : op = 5
                      · subst h5
                        obtain ⟨s1, s2⟩ := g3 (by simp [setsX])
                        obtain rfl : X = j := by omega
                        have hjlt : X < N := by have := (onceGo_le _ _ _ s2).1; omega
                        have HO2 : Hid (onceGo ((X + 1 : Nat) : Int) (L.drop (q + 1)) = some (N : Int)) := by
                          have e9 : ((X + 1 : Nat) : Int) = (X : Int) + 1 := by omega
                          rw [Hid, e9]
                          exact s2
                        clear s1 s2
                        have w1 : ¬ N ≤ X := by omega
                        have w2 : decide (N ≤ X) = false := by simp; omega
                        clear g1 g2 g3 g4 g5
                        have hnb := (Below.refl wr.heap.size wr).new (.cells #[.int .i64 5, .int .i64 X, .int .i64 A, .string sn, .int .i64 nn, .bool ng] 48)
                        have HR1 := mkHid (HR.out.new (.cells #[.int .i64 5, .int .i64 X, .int .i64 A, .string sn, .int .i64 nn, .bool ng] 48))
                        have HB1 := mkHid (HB.out.new (.cells #[.int .i64 5, .int .i64 X, .int .i64 A, .string sn, .int .i64 nn, .bool ng] 48))
                        clear hnb
                        go_wp2_with fail
                        refine (setsY _ _ _ _ _ _ (by omega) _).mono ?_
                        rintro r w8 ⟨rfl, hb8⟩
                        have HR2 := mkHid (HR1.out.below hb8)
                        have HB2 := mkHid (HB1.out.then hb8)
                        clear hb8
                        have rs := setB_cell HR2.out hjlt (r := false) (by simp)
                        have rf := HR2.out.free X
                        have HR3 : Hid (RowB10 (w8.setCell ⟨w5.heap.size, X, none⟩ (.bool true)) w5.heap.size (setB N (X + 1))) := by
                          rw [Hid, ← setB_set]
                          exact HR2.out.set X true
                        have HB3 := mkHid (HB2.out.setCell (p := ⟨w5.heap.size, X, none⟩) (Nat.le_refl _) (.bool true))
                        go_wp2_with fail
                        go_round
                        case rel => exact ⟨q + 1, X + 1, by omega, by omega, by go_num, HB3, HR3, HO2⟩
                        case measure => simp [intOf]; omega
                      · have d5 : (op == 5) = false := by simp [h5]
                        by_cases h6 : op = 6
                        · subst h6
                          obtain ⟨v1, v2⟩ := g1 (by simp [isVal])
                          have v3 : X < j := by omega
                          have v4 : ¬ N ≤ X := by omega
                          have v5 : decide (N ≤ X) = false := by simp; omega
                          have HO2 := mkHid (g5 (by simp [setsX]) (by simp))
                          clear g1 g2 g3 g4 g5
                          have hnb := (Below.refl wr.heap.size wr).new (.cells #[.int .i64 6, .int .i64 X, .int .i64 A, .string sn, .int .i64 nn, .bool ng] 48)
                          have HR1 := mkHid (HR.out.new (.cells #[.int .i64 6, .int .i64 X, .int .i64 A, .string sn, .int .i64 nn, .bool ng] 48))
                          have HB1 := mkHid (HB.out.new (.cells #[.int .i64 6, .int .i64 X, .int .i64 A, .string sn, .int .i64 nn, .bool ng] 48))
                          have rv := setB_cell HR1.out (show X < N by omega) (r := true) (by simp; omega)
                          clear hnb
                          go_wp2_with fail
                          refine (setsN _ _ _ _ _ _ (by decide) (by decide) (by decide) (by decide) _).mono ?_
                          rintro r w8 ⟨rfl, hb8⟩
                          have HR2 := mkHid (HR1.out.below hb8)
                          have HB2 := mkHid (HB1.out.then hb8)
                          clear hb8
                          clear rv
                          go_wp2_with fail
                          go_round
                          case rel => exact ⟨q + 1, j, by omega, by omega, by go_num, HB2, HR2, HO2⟩
                          case measure => simp [intOf]; omega
                        · have d6 : (op == 6) = false := by simp [h6]
                          by_cases h8 : op = 8
                          · subst h8
                            obtain ⟨s1, s2⟩ := g4 (by simp)
                            obtain rfl : A = j := by omega
                            have hjlt : A < N := by have := (onceGo_le _ _ _ s2).1; omega
                            have HO2 : Hid (onceGo ((A + 1 : Nat) : Int) (L.drop (q + 1)) = some (N : Int)) := by
                              have e9 : ((A + 1 : Nat) : Int) = (A : Int) + 1 := by omega
                              rw [Hid, e9]
                              exact s2
                            clear s1 s2
                            have w1 : ¬ N ≤ A := by omega
                            have w2 : decide (N ≤ A) = false := by simp; omega
                            clear g1 g2 g3 g4 g5
                            have hnb := (Below.refl wr.heap.size wr).new (.cells #[.int .i64 8, .int .i64 X, .int .i64 A, .string sn, .int .i64 nn, .bool ng] 48)
                            have HR1 := mkHid (HR.out.new (.cells #[.int .i64 8, .int .i64 X, .int .i64 A, .string sn, .int .i64 nn, .bool ng] 48))
                            have HB1 := mkHid (HB.out.new (.cells #[.int .i64 8, .int .i64 X, .int .i64 A, .string sn, .int .i64 nn, .bool ng] 48))
                            clear hnb
                            go_wp2_with fail
                            refine (sets8 _ _ _ _ _ _).mono ?_
                            rintro r w8 ⟨rfl, hb8⟩
                            have HR2 := mkHid (HR1.out.below hb8)
                            have HB2 := mkHid (HB1.out.then hb8)
                            clear hb8
                            have rs := setB_cell HR2.out hjlt (r := false) (by simp)
                            have rf := HR2.out.free A
                            have HR3 : Hid (RowB10 (w8.setCell ⟨w5.heap.size, A, none⟩ (.bool true)) w5.heap.size (setB N (A + 1))) := by
                              rw [Hid, ← setB_set]
                              exact HR2.out.set A true
                            have HB3 := mkHid (HB2.out.setCell (p := ⟨w5.heap.size, A, none⟩) (Nat.le_refl _) (.bool true))
                            go_wp2_with fail
                            go_round
                            case rel => exact ⟨q + 1, A + 1, by omega, by omega, by go_num, HB3, HR3, HO2⟩
                            case measure => simp [intOf]; omega
                          · have d8 : (op == 8) = false := by simp [h8]
                            by_cases h9 : op = 9
                            · subst h9
                              obtain ⟨s1, s2⟩ := g3 (by simp [setsX])
                              obtain rfl : X = j := by omega
                              have hjlt : X < N := by have := (onceGo_le _ _ _ s2).1; omega
                              have HO2 : Hid (onceGo ((X + 1 : Nat) : Int) (L.drop (q + 1)) = some (N : Int)) := by
                                have e9 : ((X + 1 : Nat) : Int) = (X : Int) + 1 := by omega
                                rw [Hid, e9]
                                exact s2
                              clear s1 s2
                              have w1 : ¬ N ≤ X := by omega
                              have w2 : decide (N ≤ X) = false := by simp; omega
                              clear g1 g2 g3 g4 g5
                              have hnb := (Below.refl wr.heap.size wr).new (.cells #[.int .i64 9, .int .i64 X, .int .i64 A, .string sn, .int .i64 nn, .bool ng] 48)
                              have HR1 := mkHid (HR.out.new (.cells #[.int .i64 9, .int .i64 X, .int .i64 A, .string sn, .int .i64 nn, .bool ng] 48))
                              have HB1 := mkHid (HB.out.new (.cells #[.int .i64 9, .int .i64 X, .int .i64 A, .string sn, .int .i64 nn, .bool ng] 48))
                              clear hnb
                              go_wp2_with fail
                              refine (setsY _ _ _ _ _ _ (by omega) _).mono ?_
                              rintro r w8 ⟨rfl, hb8⟩
                              have HR2 := mkHid (HR1.out.below hb8)
                              have HB2 := mkHid (HB1.out.then hb8)
                              clear hb8
                              have rs := setB_cell HR2.out hjlt (r := false) (by simp)
                              have rf := HR2.out.free X
                              have HR3 : Hid (RowB10 (w8.setCell ⟨w5.heap.size, X, none⟩ (.bool true)) w5.heap.size (setB N (X + 1))) := by
                                rw [Hid, ← setB_set]
                                exact HR2.out.set X true
                              have HB3 := mkHid (HB2.out.setCell (p := ⟨w5.heap.size, X, none⟩) (Nat.le_refl _) (.bool true))
                              go_wp2_with fail
                              go_round
                              case rel => exact ⟨q + 1, X + 1, by omega, by omega, by go_num, HB3, HR3, HO2⟩
                              case measure => simp [intOf]; omega
                            · have d9 : (op == 9) = false := by simp [h9]
                              by_cases h10 : op = 10
                              · subst h10
                                obtain ⟨v1, v2⟩ := g1 (by simp [isVal])
                                have v3 : X < j := by omega
                                have v4 : ¬ N ≤ X := by omega
                                have v5 : decide (N ≤ X) = false := by simp; omega
                                have HO2 := mkHid (g5 (by simp [setsX]) (by simp))
                                clear g1 g2 g3 g4 g5
                                have hnb := (Below.refl wr.heap.size wr).new (.cells #[.int .i64 10, .int .i64 X, .int .i64 A, .string sn, .int .i64 nn, .bool ng] 48)
                                have HR1 := mkHid (HR.out.new (.cells #[.int .i64 10, .int .i64 X, .int .i64 A, .string sn, .int .i64 nn, .bool ng] 48))
                                have HB1 := mkHid (HB.out.new (.cells #[.int .i64 10, .int .i64 X, .int .i64 A, .string sn, .int .i64 nn, .bool ng] 48))
                                have rv := setB_cell HR1.out (show X < N by omega) (r := true) (by simp; omega)
                                clear hnb
                                go_wp2_with fail
                                refine (setsN _ _ _ _ _ _ (by decide) (by decide) (by decide) (by decide) _).mono ?_
                                rintro r w8 ⟨rfl, hb8⟩
                                have HR2 := mkHid (HR1.out.below hb8)
                                have HB2 := mkHid (HB1.out.then hb8)
                                clear hb8
                                clear rv
                                go_wp2_with fail
                                go_round
                                case rel => exact ⟨q + 1, j, by omega, by omega, by go_num, HB2, HR2, HO2⟩
                                case measure => simp [intOf]; omega
                              · have d10 : (op == 10) = false := by simp [h10]
                                by_cases h12 : op = 12
                                · subst h12
                                  obtain ⟨v6, v7⟩ := g2 (by simp [isArg])
                                  have v8 : A < j := by omega
                                  have v9 : ¬ N ≤ A := by omega
                                  have va : decide (N ≤ A) = false := by simp; omega
                                  have HO2 := mkHid (g5 (by simp [setsX]) (by simp))
                                  clear g1 g2 g3 g4 g5
                                  have hnb := (Below.refl wr.heap.size wr).new (.cells #[.int .i64 12, .int .i64 X, .int .i64 A, .string sn, .int .i64 nn, .bool ng] 48)
                                  have HR1 := mkHid (HR.out.new (.cells #[.int .i64 12, .int .i64 X, .int .i64 A, .string sn, .int .i64 nn, .bool ng] 48))
                                  have HB1 := mkHid (HB.out.new (.cells #[.int .i64 12, .int .i64 X, .int .i64 A, .string sn, .int .i64 nn, .bool ng] 48))
                                  have ra := setB_cell HR1.out (show A < N by omega) (r := true) (by simp; omega)
                                  clear hnb
                                  go_wp2_with fail
                                  refine (setsN _ _ _ _ _ _ (by decide) (by decide) (by decide) (by decide) _).mono ?_
                                  rintro r w8 ⟨rfl, hb8⟩
                                  have HR2 := mkHid (HR1.out.below hb8)
                                  have HB2 := mkHid (HB1.out.then hb8)
                                  clear hb8
                                  clear ra
                                  go_wp2_with fail
                                  go_round
                                  case rel => exact ⟨q + 1, j, by omega, by omega, by go_num, HB2, HR2, HO2⟩
                                  case measure => simp [intOf]; omega
                                · have d12 : (op == 12) = false := by simp [h12]
                                  have HO2 := mkHid (g5 (by simp [setsX, h1, h5, h9]) (by exact h8))
                                  clear g1 g2 g3 g4 g5
                                  have hnb := (Below.refl wr.heap.size wr).new (.cells #[.int .i64 op, .int .i64 X, .int .i64 A, .string sn, .int .i64 nn, .bool ng] 48)
                                  have HR1 := mkHid (HR.out.new (.cells #[.int .i64 op, .int .i64 X, .int .i64 A, .string sn, .int .i64 nn, .bool ng] 48))
                                  have HB1 := mkHid (HB.out.new (.cells #[.int .i64 op, .int .i64 X, .int .i64 A, .string sn, .int .i64 nn, .bool ng] 48))
                                  clear hnb
                                  go_wp2_with fail
                                  refine (setsN _ _ _ _ _ _ h1 h5 h9 h8 _).mono ?_
                                  rintro r w8 ⟨rfl, hb8⟩
                                  have HR2 := mkHid (HR1.out.below hb8)
                                  have HB2 := mkHid (HB1.out.then hb8)
                                  clear hb8
                                  go_wp2_with fail
                                  go_round
                                  case rel => exact ⟨q + 1, j, by omega, by omega, by go_num, HB2, HR2, HO2⟩
                                  case measure => simp [intOf]; omega
            · have hje : j = N := by
                have h5 := HO.out
                rw [List.drop_eq_nil_of_le (by omega)] at h5
                unfold onceGo at h5
                injection h5 with h5
                omega
              subst hje
              clear HO
              go_wp2_with fail
              obtain ⟨wB, hwB⟩ : ∃ X, X = wr := ⟨_, rfl⟩
              subst hwB
              go_loop [15] (fun i => ∃ t : Nat, t ≤ j ∧ i = .int .i64 t) (fun i => j - (intOf i).toNat)
              case atStart => exact ⟨0, Nat.zero_le _, rfl⟩
              case round =>
                obtain ⟨t, ht, rfl⟩ := hrel
                by_cases hltt : t < j
                · have hcl := setB_cell HR.out hltt (r := true) (by simp; omega)
                  go_wp2_with fail
                  go_round
                  case rel => exact ⟨t + 1, by omega, by go_num⟩
                  case measure => simp [intOf]; omega
                · go_wp2_with fail
                  go_ret
                  exact ⟨rfl, HB5.out.then HB.out⟩
  · go_enter Try.func8, Try.ntmps8
    go_wp2_with fail
    first | rw [hW] | skip
    clear hW
    refine (head10_any _).mono ?_
    rintro r w1 ⟨rfl, hb1⟩
    have HB1 := mkHid (HB0.out.then hb1)
    have q0 := keep p0 hb1
    have q1 := keep p1 hb1
    have HX2 := mkHid (HX.out.below hb1)
    have HX3 := mkHid (HX1.out.below hb1)
    have HZ2 : Hid (W.heap.size < w1.heap.size) := by have h1 := HSZ.out; have h2 := hb1.size; rw [Hid]; omega
    clear hb1 HB0 p0 p1 HX HX1 HSZ
    go_wp2_with fail
    have HT1 := mkHid (great7K _ _ _ [x] 1 _ (row_cl x HX2.out HX3.out) rfl hG)
    have hn1 := (Below.refl w1.heap.size w1).new (.cells #[.slice a x.h.length b, .slice e x.b.length c] 25)
    refine HT1.out.mono ?_
    clear HT1
    rintro r w2 ⟨rfl, hb2⟩
    have hb2' := hn1.then hb2
    have HB2 := mkHid (HB1.out.then hb2')
    have r0 := keep q0 hb2'
    have r1 := keep q1 hb2'
    have HX4 := mkHid (HX2.out.below hb2')
    have HX5 := mkHid (HX3.out.below hb2')
    have HZ3 : Hid (W.heap.size < w2.heap.size) := by have h1 := HZ2.out; have h2 := hb2'.size; rw [Hid]; omega
    clear hb2 hn1 hb2' HB1 q0 q1 HX2 HX3 HZ2
    go_wp2_with fail
    go_ret
    exact ⟨rfl, HB2.out⟩
end Go.Proofs.Ytkkiemideldioaa
namespace Go.Proofs.Ytkkiemideldioaa
open Go.RowKit Go.ChangeShapes Go.WideShapes Go.ChangeAt
open Go.ChangeMaps (open_string)

set_option maxRecDepth 100000 in
set_option maxHeartbeats 1000000 in
theorem CodeOnce_lifted (os : Os) (started : os.Started) (H : Type) (enc : TypeId × Value → H) :
    ReturnsInHanded {} Try.checked os 8 .any (Rows.codeOnceSpec.pre6 enc Try.prog Try.f8 Rows.codeOnceRow.domain false) (Rows.codeOnceSpec.post enc Try.prog Try.f8 false true false false) := by
  refine returnsInHanded_of_change (C := Try.checked) Try.own started (by kernel_rfl) Try.func8
    (ChangeSpec.witness6 (enc := enc) (C := Try.checked) false ⟨#[], #[.agg #[.slice none 0 0, .slice none 0 0]], []⟩ 8 (by kernel_rfl) (by kernel_rfl) (by kernel_rfl) (by kernel_rfl)) ?_
  intro W base args ds gs before hval0 hW hcnd _
  have hval : ∀ (j : Nat) t v, Try.f8.params[j]? = some t → args[j]? = some v → Value.okWide Try.prog W .any base t v := hval0
  have hW' := hW
  obtain ⟨p, q, hA0, hV, rfl, hfz, hnd⟩ := hW
  have hA : DataW.TrodAll enc Try.prog W 0 (fun _ => true) true Try.f8.params.toList args.toList ds p := hA0
  rw [Try.params8] at hA hval
  obtain ⟨v0, vs0, d0, ds0, p0, q0, hargs, rfl, rfl, h0, r0⟩ := trodAll_cons hA
  obtain ⟨rfl, rfl, rfl⟩ := trodAll_nil r0
  obtain rfl : args = #[v0] := by cases args; simp_all
  obtain ⟨rfl, rfl⟩ := trodVars_none hV
  have k0 := h0
  have lt0 : ∀ x ∈ p0, x.block < W.heap.size := by obtain ⟨m, hm⟩ := k0; exact DataW.trod_lt m _ _ _ hm
  obtain ⟨x0, a0, b0, e0, c0, rfl, hu0, hv0⟩ : ∃ (x : Cl) (a : Option Addr) (b : Nat) (e : Option Addr) (c : Nat), v0 = .agg #[.slice a x.h.length b, .slice e x.b.length c] ∧ Row W a b x.h ∧ Row W e c x.b := by
    obtain ⟨⟨l⟩, rfl⟩ := agg_clause (hval 0 25 v0 rfl rfl)
    obtain ⟨fuel, hf⟩ := h0
    obtain ⟨x, a, b, e, c, hc, g0, g1⟩ := open_clause7 hf
    have hc' : l = [.slice a x.h.length b, .slice e x.b.length c] := hc
    exact ⟨x, a, b, e, c, by rw [hc'], g0, g1⟩
  clear hA0 hval0
  refine (lawOnce_any W x0 a0 b0 e0 c0 hu0 hv0).mono fun e W' ⟨he, bel⟩ => ?_
  subst he
  exact ⟨_, rfl, _, _, _, [], _, [], hW', trodAll_mk1 (shut_bool Try.underlying4 _), (trodAll_cons_mk (Below.trod Try.laidOut (by kernel_rfl) (of_decide_eq_true (by kernel_rfl)) k0 bel lt0) trodAll_mk0), rfl, bel.frame _, fun h => by cases h⟩

theorem CodeOnce_over : Rows.codeOnceRow.holds Try.pinned (OpenSpec.ofChange Rows.codeOnceSpec) :=
  OpenClaim.holds_of_wide 8 Try.f8 rfl rfl rfl rfl rfl rfl rfl ⟨rfl, rfl, rfl, rfl, rfl⟩ rfl rfl rfl rfl rfl (by kernel_rfl) Try.func8 (by kernel_rfl)
    (of_decide_eq_true (by kernel_rfl)) (by unfold Func.isWrapper; first | (rw [if_pos (by decide +kernel)]; kernel_rfl) | (rw [if_neg (by decide +kernel)]; exact ⟨rfl, rfl⟩))
    (fun os started H enc _ => CodeOnce_lifted os started H enc)

theorem CodeOnce_holds : Rows.CodeOnceSaid := CodeOnce_over
end Go.Proofs.Ytkkiemideldioaa
