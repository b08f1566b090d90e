import Derived.Test.YtkbgdpgmnigcbaaC12
namespace Go.Proofs.Ytkbgdpgmnigcbaa
open Go.RowKit

set_option maxHeartbeats 800000 in
theorem depth_any (t : Tm) (ht : t.ok) (h200 : t.flat.length ≤ 200) (a : Option Addr) (cap : Nat) (w : World) (hr : Row w a cap t.flat) :
    Calls Try.prog 18 #[.slice a t.flat.length cap] w fun e w' => e = .returned (.int .i64 t.depth) ∧ Below w.heap.size w w' := by
  have hmf : ∀ (fn : Fn) (first cap : Array Value) (w : World), (Instr.makeFunc fn first cap).run Try.prog w = .ok (.func fn first cap) w := fun _ _ _ _ => rfl
  have hm := hr.max
  have hle := hr.le
  have HR := mkHid (right_flat ht h200)
  have hb0 := (Below.refl w.heap.size w).new (.cells #[.slice a t.flat.length cap] 22)
  go_enter Try.func18, Try.ntmps18
  go_wp2_with (first
    | (go_at_call 14; refine (right_any _ cap _ t.flat (hr.below hb0)).mono ?_; rintro e w1 ⟨rfl, hb1⟩; rw [HR.out]; have d0 : w1.cell? ⟨w.heap.size, 0, none⟩ = some (.slice a t.flat.length cap) := keep (by go_simp) hb1; have hsz := hb1.size; simp only [World.size_alloc] at hsz))
  have hl0 := cell_lt d0
  refine (depthc_any t.flat a cap w.heap.size w1.heap.size (w1.heap.size + 1) (by omega) (by omega) (by omega) (by omega) h200 t.flat.length t 0 [] _ (Nat.le_refl _) ht (by simp) ?_ ?_ ?_ ?_).mono ?_
  · exact (hr.below (hb0.then hb1)).keeps (fresh_keeps (Keeps.of (((Below.refl _ _).new _).new _)) (Nat.le_refl _))
  · exact fresh_keeps (Keeps.of (((Below.refl _ _).new _).new _)) (Nat.le_refl _) _ _ _ d0
  · exact (Below.heap_alloc _ _ _ (by simp)).trans (heap_alloc_new w1 _)
  · exact hide_of_ne (by omega) (by go_simp)
  rintro e w2 ⟨rfl, hg, _⟩
  go_wp2
  go_ret
  have hb4 := ((hb0.then hb1).new (.cells #[.int .i64 0] 3)).new (.cells #[.func (.func 40) #[] #[.pointer (some ⟨w.heap.size, 0, none⟩), .pointer (some ⟨w1.heap.size, 0, none⟩), .pointer (some ⟨w1.heap.size + 1, 0, none⟩)]] 50)
  exact ⟨rfl, hb4.trans (grown_at hg hb4.size (by omega))⟩

set_option maxHeartbeats 800000 in
theorem refdepth_any (n : Nat) : ∀ (t : Tm) (a : Option Addr) (cap : Nat) (w : World), t.flat.length ≤ n → t.ok → t.flat.length ≤ 200 → Row w a cap t.flat →
    Calls Try.prog 19 #[.slice a t.flat.length cap] w fun e w' => e = .returned (.int .i64 t.depth) ∧ Below w.heap.size w w' := by
  induction n with
  | zero => intro t a cap w hn; have := flat_pos t; omega
  | succ n ih =>
    intro t a cap w hn ht h200 hr
    have HR := mkHid (right_flat ht h200)
    have HP : Hid (partsL t.flat = t.args.map Tm.flat) := parts_flat ht
    have hargs := args_le6 ht
    have hd0 := depths_small t t.args.length (by omega)
    rw [List.take_length] at hd0
    go_enter Try.func19, Try.ntmps19
    go_wp2_with (go_at_call 27; refine (refparts_any a cap _ t.flat hr HR.out).mono ?_; rintro e w1 ⟨a', cap', rfl, hr1, hb1⟩; rw [HP.out] at hr1 ⊢; rw [List.length_map])
    go_loopw [4, 5] (fun m j wr => ∃ (k : Nat), k ≤ t.args.length ∧ j = .int .i64 k ∧ m = .int .i64 (depths (t.args.take k)) ∧ Below w1.heap.size w1 wr) (fun m j wr => t.args.length - (intOf j).toNat)
    case atStart => exact ⟨0, Nat.zero_le _, rfl, rfl, Below.refl _ _⟩
    case round =>
      obtain ⟨k, hk, rfl, rfl, hbl⟩ := hrel
      have hd1 := depths_small t k (by omega)
      by_cases hlt : k < t.args.length
      · have hlt' : k < (t.args.map Tm.flat).length := by simpa using hlt
        obtain ⟨b, off, rfl, hb, hat⟩ := hr1.cases.resolve_left (fun e => by rw [e] at hlt'; simp at hlt')
        obtain ⟨a1, cap1, c0, hr2⟩ := list_at hat hbl hlt'
        rw [List.getElem_map] at c0 hr2
        have hsm := flat_arg_lt (List.getElem_mem hlt)
        have hok := oks_mem ((ok_iff t).1 ht).2.2 _ (List.getElem_mem hlt)
        have hT := mkHid (depths_take t hlt)
        have hd2 := depth_le t.args[k]
        by_cases hmx : depths (t.args.take k) < t.args[k].depth
        · have hT' : Hid (depths (t.args.take (k + 1)) = t.args[k].depth) := by rw [Hid, hT.out]; omega
          go_wp2_with (go_at_call 19; refine (ih t.args[k] _ _ _ (by omega) hok (by omega) hr2).mono ?_; rintro e w3 ⟨rfl, hb3⟩)
          go_round
          case rel => exact ⟨k + 1, by omega, by go_num, by rw [hT'.out], hbl.then hb3⟩
          case measure => simp [intOf]; omega
        · have hT' : Hid (depths (t.args.take (k + 1)) = depths (t.args.take k)) := by rw [Hid, hT.out]; omega
          go_wp2_with (go_at_call 19; refine (ih t.args[k] _ _ _ (by omega) hok (by omega) hr2).mono ?_; rintro e w3 ⟨rfl, hb3⟩)
          go_round
          case rel => exact ⟨k + 1, by omega, by go_num, by rw [hT'.out], hbl.then hb3⟩
          case measure => simp [intOf]; omega
      · obtain rfl : k = t.args.length := by omega
        have hD : Hid (((depths t.args : Nat) : Int) + 1 = t.depth) := by rw [Hid, depth_eq]; omega
        go_wp2
        go_ret
        exact ⟨ret_int hD.out, hb1.then hbl⟩
end Go.Proofs.Ytkbgdpgmnigcbaa
