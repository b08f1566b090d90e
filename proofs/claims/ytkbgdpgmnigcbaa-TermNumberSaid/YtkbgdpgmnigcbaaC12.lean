import Derived.Test.YtkbgdpgmnigcbaaC11
import Derived.Test.YtkbgdpgmnigcbaaTm
import Derived.OneCell
namespace Go.Proofs.Ytkbgdpgmnigcbaa
open Go.RowKit

theorem grown_trans {a b c : World} {r : Option Nat} (h : a.grownBy b r) (k : b.grownBy c r) : a.grownBy c r :=
  ⟨k.os.trans h.os, k.tape.trans h.tape, k.output.trans h.output, Nat.le_trans h.size k.size, fun i hi hn => (k.block i (Nat.lt_of_lt_of_le hi h.size) hn).trans (h.block i hi hn)⟩
theorem grown_set (w : World) (g o : Nat) (v : Value) : w.grownBy (w.setCell ⟨g, o, none⟩ v) (some g) :=
  ⟨rfl, rfl, rfl, by simp [World.setCell], fun k _ hn => Below.heap_setCell w ⟨g, o, none⟩ v k (fun e => hn (by rw [e]))⟩
theorem max_nat (a b : Nat) : ((max a b : Nat) : Int) = if (a : Int) < b then (b : Int) else a := by omega

theorem drop_arg {xs r : List Cel} {i : Nat} {t : Tm} (h : xs.drop i = t.flat ++ r) {k : Nat} (hk : k < t.args.length) : xs.drop (i + 1 + (flats (t.args.take k)).length) = t.args[k].flat ++ (flats (t.args.drop (k + 1)) ++ r) := by
  have hs : t.args = t.args.take k ++ (t.args[k] :: t.args.drop (k + 1)) := by
    rw [← List.drop_eq_getElem_cons hk, List.take_append_drop]
  have hf : flats t.args = flats (t.args.take k) ++ (t.args[k].flat ++ flats (t.args.drop (k + 1))) := by
    conv => lhs; rw [hs]
    rw [flats_append]; rfl
  rw [Nat.add_assoc, ← List.drop_drop, h, flat_cons t, hf, Nat.add_comm 1, List.cons_append, List.drop_succ_cons, List.append_assoc, List.drop_left, List.append_assoc]
theorem depths_take (t : Tm) {k : Nat} (hk : k < t.args.length) : depths (t.args.take (k + 1)) = max (depths (t.args.take k)) t.args[k].depth := by
  rw [List.take_succ_eq_append_getElem hk, depths_append]; simp [depths]
theorem flats_take (t : Tm) {k : Nat} (hk : k < t.args.length) : (flats (t.args.take (k + 1))).length = (flats (t.args.take k)).length + t.args[k].flat.length := by
  rw [List.take_succ_eq_append_getElem hk, flats_append]; simp [flats]
theorem depths_small (t : Tm) (k : Nat) (h : t.flat.length ≤ 1000) : depths (t.args.take k) ≤ 1000 := by
  have h1 := depths_le (t.args.take k)
  have hs : t.args = t.args.take k ++ t.args.drop k := (List.take_append_drop _ _).symm
  have := congrArg List.length (congrArg flats hs)
  rw [flats_append, List.length_append] at this
  rw [flat_cons t, List.length_cons] at h
  omega

theorem args_le6 {t : Tm} (h : t.ok) : t.args.length ≤ 6 := by
  have h := (ok_iff t).1 h
  rw [h.2.1]; exact ar_le _ h.1

set_option maxHeartbeats 1600000 in
theorem depthc_any (xs : List Cel) (a : Option Addr) (cap b0 b1 b2 : Nat) (_h01 : ¬ b0 = b1) (_h10 : ¬ b1 = b0) (_h12 : ¬ b1 = b2) (_h21 : ¬ b2 = b1) (hl : xs.length ≤ 200) (n : Nat) : ∀ (t : Tm) (i : Nat) (r : List Cel) (w : World), t.flat.length ≤ n → t.ok → xs.drop i = t.flat ++ r →
    Row (hide (some b1) w) a cap xs → (hide (some b1) w).cell? ⟨b0, 0, none⟩ = some (.slice a xs.length cap) → w.heap[b1]? = some (.cells #[.int .i64 i] 3 (0, 0)) →
    (hide (some b1) w).cell? ⟨b2, 0, none⟩ = some (.func (.func 40) #[] #[.pointer (some ⟨b0, 0, none⟩), .pointer (some ⟨b1, 0, none⟩), .pointer (some ⟨b2, 0, none⟩)]) →
    Calls Try.prog 40 #[.pointer (some ⟨b0, 0, none⟩), .pointer (some ⟨b1, 0, none⟩), .pointer (some ⟨b2, 0, none⟩)] w fun e w' => e = .returned (.int .i64 t.depth) ∧ w.grownBy w' (some b1) ∧ w'.heap[b1]? = some (.cells #[.int .i64 ((i + t.flat.length : Nat) : Int)] 3 (0, 0)) := by
  induction n with
  | zero => intro t i r w hn; have := flat_pos t; omega
  | succ n ih =>
    intro t i r w hn ht hd hR h0 h1 h2
    have hm := hR.max
    have hle := hR.le
    have hlen := congrArg List.length hd
    rw [List.length_drop, List.length_append] at hlen
    have hfp := flat_pos t
    have hi : i < xs.length := by omega
    have hx : xs[i] = t.hd := by
      have := (List.drop_eq_getElem_cons hi).symm.trans (hd.trans (by rw [flat_cons, List.cons_append]))
      exact (List.cons.inj this).1
    obtain ⟨b, off, rfl, hb, hat⟩ := hR.cases.resolve_left (fun e => by simp [e] at hi)
    obtain ⟨c0, c1, c2, hf⟩ := (cel_at hat (Below.refl _ _) hi).keeps (hide_keeps _ _)
    have k0 := hide_keeps _ _ _ _ _ h0
    have k2 := hide_keeps _ _ _ _ _ h2
    have k1 : w.cell? ⟨b1, 0, none⟩ = some (.int .i64 i) := by simp [World.cell?, h1]
    have hfz : w.frozen? ⟨b1, 0, none⟩ = false := by simp [World.frozen?, h1]
    have hlt1 := cell_lt k1
    have hargs := args_le6 ht
    have hd0 := depths_small t t.args.length (by omega)
    rw [List.take_length] at hd0
    have hH := mkHid h1
    have HA : Hid (arI t.hd = t.args.length) := by
      have h := (ok_iff t).1 ht
      rw [Hid, arI_ar h.1, h.2.1]
    clear h1
    go_enter Try.func40, Try.ntmps40
    go_wp2_with (go_at_call 41; refine (arguments_any t.hd _).mono ?_; rintro e w1 ⟨rfl, hb1⟩; rw [HA.out])
    have g1 : w.grownBy w1 (some b1) := grown_trans (grown_trans (grown_set w b1 0 _) (World.grownBy_alloc _ _ _)) (below_grown hb1 _)
    have p1 : Hid (w1.heap[b1]? = some (.cells #[.int .i64 ((i + 1 + (flats (t.args.take 0)).length : Nat) : Int)] 3 (0, 0))) := by
      have q := one_setCell (u := .int .i64 ((i : Int) + 1)) hH.out
      have q2 := (Below.heap_alloc _ (.cells #[.int .i64 t.hd.k, .string t.hd.s, .int .i64 t.hd.n] 40) b1 (lt_of_block q)).trans q
      exact (hb1.block b1 (lt_of_block q2)).trans q2
    clear hH k0 k1 k2 hfz c0 c1 c2
    go_loopw [5, 14] (fun m j wr => ∃ (k : Nat), k ≤ t.args.length ∧ j = .int .i64 k ∧ m = .int .i64 (depths (t.args.take k)) ∧ w.grownBy wr (some b1) ∧ Hid (wr.heap[b1]? = some (.cells #[.int .i64 ((i + 1 + (flats (t.args.take k)).length : Nat) : Int)] 3 (0, 0)))) (fun m j wr => t.args.length - (intOf j).toNat)
    case atStart => exact ⟨0, Nat.zero_le _, rfl, rfl, g1, p1⟩
    case round =>
      obtain ⟨k, hk, rfl, rfl, hg, hp⟩ := hrel
      have hG := grown_keeps hg
      have h0' := hG _ _ _ h0
      have h2' := hG _ _ _ h2
      have hR' := hR.keeps hG
      have q2 := hide_keeps _ _ _ _ _ h2'
      have hd1 := depths_small t k (by omega)
      by_cases hlt : k < t.args.length
      · have hsm := flat_arg_lt (List.getElem_mem hlt)
        have hok := oks_mem ((ok_iff t).1 ht).2.2 _ (List.getElem_mem hlt)
        have hda := drop_arg hd hlt
        have hT := mkHid (depths_take t hlt)
        have hF := mkHid (flats_take t hlt)
        have hd2 := depth_le t.args[k]
        by_cases hmx : depths (t.args.take k) < t.args[k].depth
        · have hT' : Hid (depths (t.args.take (k + 1)) = t.args[k].depth) := by rw [Hid, hT.out]; omega
          go_wp2_with (go_at_call 40; refine (ih t.args[k] _ _ _ (by omega) hok hda hR' h0' hp.out h2').mono ?_; rintro e w3 ⟨rfl, hg3, hp3⟩; have hp4 := mkHid hp3; clear hp3)
          go_round
          case rel => exact ⟨k + 1, by omega, by go_num, by rw [hT'.out], grown_trans hg hg3, by rw [Hid, hp4.out, hF.out]; congr 5; omega⟩
          case measure => simp [intOf]; omega
        · have hT' : Hid (depths (t.args.take (k + 1)) = depths (t.args.take k)) := by rw [Hid, hT.out]; omega
          go_wp2_with (go_at_call 40; refine (ih t.args[k] _ _ _ (by omega) hok hda hR' h0' hp.out h2').mono ?_; rintro e w3 ⟨rfl, hg3, hp3⟩; have hp4 := mkHid hp3; clear hp3)
          go_round
          case rel => exact ⟨k + 1, by omega, by go_num, by rw [hT'.out], grown_trans hg hg3, by rw [Hid, hp4.out, hF.out]; congr 5; omega⟩
          case measure => simp [intOf]; omega
      · obtain rfl : k = t.args.length := by omega
        have hD : Hid (((depths t.args : Nat) : Int) + 1 = t.depth) := by rw [Hid, depth_eq]; omega
        have hE : Hid (i + 1 + (flats (t.args.take t.args.length)).length = i + t.flat.length) := by rw [Hid, List.take_length, flat_cons t, List.length_cons]; omega
        go_wp2
        go_ret
        exact ⟨ret_int hD.out, hg, by rw [← hE.out]; exact hp.out⟩
end Go.Proofs.Ytkbgdpgmnigcbaa
