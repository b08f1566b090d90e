import Derived.Test.YtkbgdpgmnigcbaaC5
namespace Go.Proofs.Ytkbgdpgmnigcbaa
open Go.RowKit
theorem Try.infoInt : (Try.prog.info? 3).map (fun i => (i.zero, i.size, i.bytes)) = some (some (.int .i64 0), 1, 8) := by kernel_rfl
theorem out_fit {acc : List Int} {n : Int} (h : ∀ m ∈ acc, -9223372036854775808 ≤ m ∧ m ≤ 9223372036854775807) (h1 : -9223372036854775808 ≤ n) (h2 : n ≤ 9223372036854775807) : ∀ m ∈ acc ++ [n], -9223372036854775808 ≤ m ∧ m ≤ 9223372036854775807 := by
  intro m hm
  rcases List.mem_append.1 hm with h' | h'
  · exact h m h'
  · simp at h'; subst h'; exact ⟨h1, h2⟩

theorem own_below {w w' : World} {B e size : Nat} {v : Value} {n : Nat} {xs : List Value} (h : w.ownsRow B e size v n xs) (hb : Below w.heap.size w w') : w'.ownsRow B e size v n xs :=
  h.kept (row := none) ⟨hb.os, hb.tape, hb.output, hb.size, fun k hk _ => hb.block k hk⟩ (by cases hv : v.ownBlock <;> simp)

set_option maxHeartbeats 800000 in
theorem refvars_any (a : Option Addr) (cap : Nat) (w : World) (xs : List Cel) (hr : Row w a cap xs) (hl : xs.length ≤ 1000000) :
    Calls Try.prog 22 #[.slice a xs.length cap] w fun e w' => ∃ a' cap', e = .returned (.slice a' (varsL xs).length cap') ∧ Row w' a' cap' (varsL xs) ∧ Below w.heap.size w w' := by
  have hc := hr.le
  have hc2 := hr.max
  have hm0 := World.ownsRow_made (base := w.heap.size) (e := 3) (size := 1) w #[] 0 (Nat.le_refl _) (by unfold maxLen; omega) rfl
  have hb0 := (Below.refl w.heap.size w).new (.cells #[] 3)
  go_enter Try.func22, Try.ntmps22
  go_wp2_with fail
  go_loopw [3, 4] (fun v i wr => ∃ (k : Nat) (acc : List Int), k ≤ xs.length ∧ acc.length ≤ k ∧ i = .int .i64 k ∧ wr.ownsRow w.heap.size 3 1 v acc.length (acc.map (Value.int .i64)) ∧ Below w.heap.size w wr ∧ (∀ n ∈ acc, -9223372036854775808 ≤ n ∧ n ≤ 9223372036854775807) ∧ Hid (varsL xs = varsGo acc (xs.drop k))) (fun v i wr => xs.length - (intOf i).toNat)
  case atStart => exact ⟨0, [], Nat.zero_le _, Nat.zero_le _, rfl, hm0, hb0, by simp, rfl⟩
  case round =>
    obtain ⟨k, acc, hk, hak, rfl, hown, hbl, haf, HS⟩ := hrel
    obtain ⟨a', cap', rfl, hrow⟩ := own_rowI hown haf
    have HA := mkHid haf
    by_cases hlt : k < xs.length
    · obtain ⟨b, off, rfl, hb, hat⟩ := hr.cases.resolve_left (fun e => by simp [e] at hlt)
      obtain ⟨c0, c1, c2, hf⟩ := cel_at hat hbl hlt
      have hst := varsGo_step acc xs k hlt
      by_cases h1 : xs[k].k = 1
      · have t1 : (xs[k].k == 1) = true := by simp [h1]
        by_cases h2 : xs[k].n ∈ acc
        · have HT : Hid (varsL xs = varsGo acc (xs.drop (k + 1))) := by rw [Hid, HS.out, hst, if_neg (by simp [h2])]
          have hd := mkHid (decide_eq_true h2)
          clear h1 h2 HS hst haf
          go_wp2_with (go_at_call 36; refine (refin_any a' cap' xs[k].n _ acc hrow).mono ?_; rintro e w' ⟨rfl, hb1⟩; rw [hd.out])
          go_round
          case rel => exact ⟨k + 1, acc, by omega, by omega, by go_num, own_below hown hb1, hbl.then hb1, HA.out, HT⟩
          case measure => simp [intOf]; omega
        · have HT : Hid (varsL xs = varsGo (acc ++ [xs[k].n]) (xs.drop (k + 1))) := by rw [Hid, HS.out, hst, if_pos ⟨h1, h2⟩]
          have hd := mkHid (decide_eq_false h2)
          clear h1 h2 HS hst haf
          go_wp2_with (first
            | (go_at_call 36; refine (refin_any a' cap' xs[k].n _ acc hrow).mono ?_; rintro e w' ⟨rfl, hb1⟩; rw [hd.out]; have d0 := keep c0 hb1; have d2 := keep c2 hb1; have hown1 := own_below hown hb1; have hbl1 := hbl.then hb1; clear c0 c1 c2)
            | (at_builtin; refine wpList_app rfl _ _ 28 rfl w.heap.size 3 1 8 _ Try.underlying28 Try.infoInt rfl (by decide) (by decide) _ acc.length _ rfl (hown1.alloc _) (some ⟨_, 0, none⟩) 1 1 [.int .i64 xs[k].n] rfl (src_new _ #[.int .i64 xs[k].n] _ 1 rfl (by simp [Value.oneCell'])) (by omega) (Nat.le_trans hbl1.size (by simp)) ?_; intro v' w2 hown2 _ hb2))
          go_round
          case rel => exact ⟨k + 1, acc ++ [xs[k].n], by omega, by simp; omega, by go_num, by simpa using hown2, (hbl1.new _).trans hb2, out_fit HA.out hf.n1 hf.n2, HT⟩
          case measure => simp [intOf]; omega
      · have t1 : (xs[k].k == 1) = false := by simp [h1]
        have HT : Hid (varsL xs = varsGo acc (xs.drop (k + 1))) := by rw [Hid, HS.out, hst, if_neg (fun h => h1 h.1)]
        clear h1 HS hst haf
        go_wp2
        go_round
        case rel => exact ⟨k + 1, acc, by omega, by omega, by go_num, hown, hbl, HA.out, HT⟩
        case measure => simp [intOf]; omega
    · have HT : Hid (varsL xs = acc) := by rw [Hid, HS.out, List.drop_eq_nil_of_le (by omega)]; rfl
      clear HS haf
      go_wp2
      go_ret
      exact ⟨a', cap', by rw [HT.out]; rfl, by rw [HT.out]; exact hrow, hbl⟩
end Go.Proofs.Ytkbgdpgmnigcbaa
