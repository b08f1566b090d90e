import Derived.Test.YtkbgdpgmnigcbaaC6
import Derived.Test.YtkbgdpgmnigcbaaMaps
namespace Go.Proofs.Ytkbgdpgmnigcbaa
open Go.RowKit
theorem Try.zeroBool (w : World) : (zeroValue 4).run Try.prog w = .ok (.bool false) w := by kernel_rfl
theorem wf64 {n : Int} (h1 : -9223372036854775808 ≤ n) (h2 : n ≤ 9223372036854775807) : (Lit.int .i64 n).wf = true := WalkArith.wf_i64 ⟨h1, h2⟩

theorem own_ne {w : World} {B e size : Nat} {v : Value} {n : Nat} {xs : List Value} (h : w.ownsRow (B + 1) e size v n xs) : some B ≠ v.ownBlock := by
  intro hv
  have := h.lt B hv.symm
  omega
theorem own_map {w w' : World} {B e size : Nat} {v : Value} {n : Nat} {xs : List Value} (h : w.ownsRow (B + 1) e size v n xs) (hg : w.grownBy w' (some B)) : w'.ownsRow (B + 1) e size v n xs :=
  h.kept hg (.inr (fun e => own_ne h e.symm))
theorem grown_at {w w' : World} {g B : Nat} (hg : w.grownBy w' (some g)) (hB : B ≤ w.heap.size) (h : B ≤ g) : Below B w w' :=
  (Below.refl B w).grown hg hB (fun k hk => by simp at hk; omega)

set_option maxHeartbeats 800000 in
theorem vars_own (a : Option Addr) (cap : Nat) (w : World) (xs : List Cel) (hr : Row w a cap xs) (hl : xs.length ≤ 1000000) :
    Calls Try.prog 21 #[.slice a xs.length cap] w fun e w' => ∃ a' cap', e = .returned (.slice a' (varsL xs).length cap') ∧ w'.ownsRow (w.heap.size + 1) 3 1 (.slice a' (varsL xs).length cap') (varsL xs).length ((varsL xs).map (Value.int .i64)) ∧ Row w' a' cap' (varsL xs) ∧ Below w.heap.size w w' := by
  have hc := hr.le
  have hc2 := hr.max
  have hmm := @run_makeMap Try.prog
  have hm0 := MapIB.made Try.prog 3 4 w
  have hb0 := (Below.refl w.heap.size w).new (.map #[] 0)
  go_enter Try.func21, Try.ntmps21
  go_wp2_with fail
  go_loopw [3, 10] (fun v i wr => ∃ (k : Nat) (acc : List Int) (f : Int → Bool), k ≤ xs.length ∧ acc.length ≤ k ∧ i = .int .i64 k ∧ wr.ownsRow (w.heap.size + 1) 3 1 v acc.length (acc.map (Value.int .i64)) ∧ Below w.heap.size w wr ∧ MapIB Try.prog 3 4 wr w.heap.size k f ∧ Hid (∀ n, f n = decide (n ∈ acc)) ∧ Hid (∀ n ∈ acc, -9223372036854775808 ≤ n ∧ n ≤ 9223372036854775807) ∧ Hid (varsL xs = varsGo acc (xs.drop k))) (fun v i wr => xs.length - (intOf i).toNat)
  case atStart => exact ⟨0, [], _, Nat.zero_le _, Nat.zero_le _, rfl, World.ownsRow_nil _ _ _ _, hb0, hm0, by simp [Hid], by simp [Hid], rfl⟩
  case round =>
    obtain ⟨k, acc, f, hk, hak, rfl, hown, hbl, hmap, HF, HA, HS⟩ := hrel
    by_cases hlt : k < xs.length
    · obtain ⟨b, off, rfl, hb, hat⟩ := hr.cases.resolve_left (fun e => by simp [e] at hlt)
      obtain ⟨c0, c1, c2, hf⟩ := cel_at hat hbl hlt
      have hst := varsGo_step acc xs k hlt
      by_cases h1 : xs[k].k = 1
      · have t1 : (xs[k].k == 1) = true := by simp [h1]
        have hlk : ∀ o, (Instr.lookup 52 (.map (some w.heap.size)) (.int .i64 xs[k].n) false).run Try.prog (wr.alloc o) = .ok (.bool (decide (xs[k].n ∈ acc))) (wr.alloc o) := fun o => by
          rw [← HF.out]
          exact (hmap.alloc o).run_lookup Try.underlying3 Try.underlying52 Try.underlying4 (Try.zeroBool _) (wf64 hf.n1 hf.n2)
        by_cases h2 : xs[k].n ∈ acc
        · have HT : Hid (varsL xs = varsGo acc (xs.drop (k + 1))) := by rw [Hid, HS.out, hst, if_neg (by simp [h2])]
          rw [decide_eq_true h2] at hlk
          clear h1 h2 HS hst
          go_wp2
          go_round
          case rel => exact ⟨k + 1, acc, f, by omega, by omega, by go_num, hown.alloc _, hbl.new _, (hmap.alloc _).mono, HF, HA, HT⟩
          case measure => simp [intOf]; omega
        · have HT : Hid (varsL xs = varsGo (acc ++ [xs[k].n]) (xs.drop (k + 1))) := by rw [Hid, HS.out, hst, if_pos ⟨h1, h2⟩]
          have HF' : Hid (∀ n, (if n = xs[k].n then true else f n) = decide (n ∈ acc ++ [xs[k].n])) := by
            intro n
            by_cases e : n = xs[k].n
            · simp [e]
            · rw [if_neg e, HF.out]; simp [e]
          rw [decide_eq_false h2] at hlk
          clear h1 h2 HS hst
          go_wp2_with (first
            | (at_mapUpdate; refine (hmap.alloc _).wpl_update rfl _ _ _ rfl Try.underlying3 Try.underlying52 Try.underlying4 rfl (by omega) xs[k].n rfl (wf64 hf.n1 hf.n2) true rfl ?_; intro w1 hmap1 hg1; have q2 : w1.cell? ⟨wr.heap.size, 2, none⟩ = some (.int .i64 xs[k].n) := hg1.cell (by go_simp) (by have := hbl.size; have := hmap.lt; simp; omega); have hown1 := own_map (hown.alloc (.cells #[.int .i64 xs[k].k, .string xs[k].s, .int .i64 xs[k].n] 40)) hg1; have hbl1 := (hbl.new _).trans (grown_at hg1 (Nat.le_trans hbl.size (by simp)) (Nat.le_refl _)))
            | (at_builtin; refine wpList_app rfl _ _ 28 rfl (w.heap.size + 1) 3 1 8 _ Try.underlying28 Try.infoInt rfl (by decide) (by decide) _ acc.length _ rfl (hown1.alloc _) (some ⟨_, 0, none⟩) 1 1 [.int .i64 xs[k].n] rfl (src_new _ #[.int .i64 xs[k].n] _ 1 rfl (by simp [Value.oneCell'])) (by omega) (by have := hmap1.lt; simp; omega) ?_; intro v' w2 hown2 hg2 hb2))
          go_round
          case rel => exact ⟨k + 1, acc ++ [xs[k].n], _, by omega, by simp; omega, by go_num, by simpa using hown2, (hbl1.new _).trans (hb2.mono (by omega)), (hmap1.alloc _).kept hg2 (own_ne hown1), HF', out_fit HA.out hf.n1 hf.n2, HT⟩
          case measure => simp [intOf]; omega
      · have t1 : (xs[k].k == 1) = false := by simp [h1]
        have HT : Hid (varsL xs = varsGo acc (xs.drop (k + 1))) := by rw [Hid, HS.out, hst, if_neg (fun h => h1 h.1)]
        clear h1 HS hst
        go_wp2
        go_round
        case rel => exact ⟨k + 1, acc, f, by omega, by omega, by go_num, hown.alloc _, hbl.new _, (hmap.alloc _).mono, HF, HA, HT⟩
        case measure => simp [intOf]; omega
    · have HT : Hid (varsL xs = acc) := by rw [Hid, HS.out, List.drop_eq_nil_of_le (by omega)]; rfl
      obtain ⟨a', cap', rfl, hrow⟩ := own_rowI hown HA.out
      clear HS
      go_wp2
      go_ret
      exact ⟨a', cap', by rw [HT.out]; rfl, by rw [HT.out]; exact hown, by rw [HT.out]; exact hrow, hbl⟩
theorem vars_any (a : Option Addr) (cap : Nat) (w : World) (xs : List Cel) (hr : Row w a cap xs) (hl : xs.length ≤ 1000000) :
    Calls Try.prog 21 #[.slice a xs.length cap] w fun e w' => ∃ a' cap', e = .returned (.slice a' (varsL xs).length cap') ∧ Row w' a' cap' (varsL xs) ∧ Below w.heap.size w w' :=
  (vars_own a cap w xs hr hl).mono fun _ _ ⟨a', cap', he, _, hr', hb⟩ => ⟨a', cap', he, hr', hb⟩
end Go.Proofs.Ytkbgdpgmnigcbaa
