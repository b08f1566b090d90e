import Derived.Test.YtinfefmoiimomaaDoorV21
namespace Go.Proofs.YtinfefmoiimomaaDoor
open Go.RowKit

theorem Ord.step {L : List UInt8} {e : Nat} {u : Tok} {us : List Tok} (h : Ord L e (u :: us)) : ∃ (p : Nat) (k : Int) (t : List UInt8) (n : Int) (len : Nat), u = ⟨k, mkB t, n, p⟩ ∧ e ≤ p ∧ p < L.length ∧ (pst false ((L.drop e).take (p - e))).isSome = true ∧ TokIs (L.drop p) k t n len ∧ Ord L (p + len) us := by
  cases h with
  | cons h1 h2 h3 h4 h5 => exact ⟨_, _, _, _, _, rfl, h1, h2, h3, h4, h5⟩
theorem Ord.stop {L : List UInt8} {e : Nat} (h : Ord L e []) : e ≤ L.length ∧ (pst false (L.drop e)).isSome = true := by
  cases h with
  | nil h1 h2 => exact ⟨h1, h2⟩
theorem cut_list (s : ByteArray) (a b : Nat) : (s.extract a b).data.toList = (s.data.toList.drop a).take (b - a) := by
  simp [ByteArray.data_extract, List.extract]
theorem cut_eq {s : ByteArray} {a b : Nat} {t : List UInt8} (h : (s.data.toList.drop a).take (b - a) = t) : s.extract a b = mkB t := by
  have h1 := cut_list s a b
  rw [h] at h1
  apply ByteArray.ext
  rw [← Array.toList_inj, h1]
  simp [mkB]
/-- what is known of a token where it stands -/
theorem tok_here {s : ByteArray} {p : Nat} {k : Int} {t : List UInt8} {n : Int} {len : Nat} (hp : p < s.size) (h : TokIs (s.data.toList.drop p) k t n len) :
    1 ≤ (mkB t).size ∧ ((s[p] = 39 ∧ len = (mkB t).size + 2 ∧ s.extract (p + 1) (p + 1 + (mkB t).size) = mkB t ∧ p + 1 + (mkB t).size < s.size) ∨ (s[p] ≠ 39 ∧ len = (mkB t).size ∧ s.extract p (p + (mkB t).size) = mkB t ∧ p + (mkB t).size ≤ s.size)) := by
  rw [drop_consB s p hp] at h
  obtain ⟨h1, h2⟩ := h.text
  rw [mkB_size]
  refine ⟨h1, ?_⟩
  rcases h2 with ⟨e, h3, h4, h5⟩ | ⟨e, h3, h4, h5⟩
  · refine .inl ⟨e, h3, cut_eq (by rw [show p + 1 + t.length - (p + 1) = t.length by omega]; exact h4), ?_⟩
    rw [List.length_drop, size_list] at h5; omega
  · refine .inr ⟨e, h3, cut_eq (by rw [show p + t.length - p = t.length by omega, drop_consB s p hp]; exact h4), ?_⟩
    rw [List.length_cons, List.length_drop, size_list] at h5; omega

set_option maxHeartbeats 6400000 in
set_option maxRecDepth 100000 in
theorem order_ok (s : ByteArray) (ts : List Tok) (w : World) (hs : s.size ≤ 5000) (hA : lexL s.data.toList = .ok ts) (hw : LibVars w) :
    Calls Tryd.prog 4 #[.string s] w fun e w' => e = .returned (.bool true) ∧ Below w.heap.size w w' := by
  have has : s.size ≤ 1000000000 := by omega
  have hO : Ord s.data.toList 0 (ts.drop 0) := lexW_ord (by rw [List.drop_zero, ← hA, lexL_eq (by omega)])
  have hlt := (lexL_good hA).2.1
  rw [size_list] at hlt
  have HA := mkHid hA
  have HO := mkHid hO
  clear hA hO
  go_enter Tryd.func4, Tryd.ntmps4
  go_wp2_with fail
  refine (head_any w hw).mono ?_; rintro e w1 ⟨rfl, hb1⟩
  go_wp2_with fail
  refine (lex_ok has (hw.below hb1) HA.out).mono ?_; rintro e w2 ⟨a2, cap2, rfl, hr2, _, hb2⟩
  replace hb1 := hb1.then hb2
  have HR2 := mkHid hr2
  clear hr2 hw
  go_wp2
  go_loopw [7, 8] (fun en i wr => ∃ k e : Nat, k ≤ ts.length ∧ i = .int .i64 k ∧ en = .int .i64 e ∧ e ≤ s.size ∧ Below w2.heap.size w2 wr ∧ Hid (Ord s.data.toList e (ts.drop k))) (fun en i wr => ts.length - (intOf i).toNat)
  case atStart => exact ⟨0, 0, Nat.zero_le _, rfl, rfl, Nat.zero_le _, Below.refl _ _, HO⟩
  case round =>
    clear HO
    obtain ⟨k, e, hk, rfl, rfl, he, hbl, HO⟩ := hrel
    by_cases hlk : k < ts.length
    · have hO := HO.out
      rw [List.drop_eq_getElem_cons hlk] at hO
      obtain ⟨p, kk, tt, nn, len, hu, hep, hpl, hps, hti, hO'⟩ := hO.step
      rw [size_list] at hpl
      obtain ⟨b, off, rfl, _⟩ := HR2.out.cases.resolve_left (fun e => by simp [e] at hlk)
      have hat := tok_at HR2.out hbl hlk
      rw [hu] at hat
      obtain ⟨c0, c1, c2, c3, hf⟩ := hat
      simp only at c0 c1 c2 c3
      have hps' : (pst false (s.extract e p).data.toList).isSome = true := by rw [cut_list]; exact hps
      have hes : (s.extract e p).size ≤ 1000000 := by rw [ByteArray.size_extract]; omega
      have HP := mkHid hps'
      have HN := mkHid hO'
      obtain ⟨h1, h2⟩ := tok_here hpl hti
      generalize mkB tt = S at c1 hf h1 h2 hu
      have z0 : ((S.size : Int) == 0) = false := by rw [beq_eq_false_iff_ne]; omega
      have hp0 : (0 : Int) ≤ (p : Int) := by omega
      have hp1 : (p : Int) < (s.size : Int) := by omega
      have ep : (e : Int) ≤ (p : Int) := by omega
      have h39 : ((s[p].toNat : Int) == 39) = (s[p] == 39) := eqU s[p] 39
      clear hu hO hps hti hO' hps' HO hf
      rcases h2 with ⟨e39, hlen, hx, hle⟩ | ⟨e39, hlen, hx, hle⟩
      · have g : (s[p] == 39) = true := by simpa using e39
        rw [g] at h39
        have HX := mkHid hx
        have HL := mkHid hlen
        have q0 : (p : Int) < (p : Int) + 1 := by omega
        have q1 : ((p : Int) + 1 + (S.size : Int)).toNat = p + 1 + S.size := by omega
        have q2 : ((p : Int) + 1).toNat = p + 1 := by omega
        have q3 : decide ((s.size : Int) < (p : Int) + 1 + (S.size : Int)) = false := by simp; omega
        have q5 : ((s.extract (p + 1) (p + 1 + S.size)).toList == S.toList) = true := by rw [hx]; simp
        clear e39 g hx hlen
        go_wp2_with fail
        refine (passed_yes _ _ hes HP.out).mono ?_; rintro e w3 ⟨rfl, rfl⟩
        go_wp2
        go_quiet (fail)
        go_wp2
        go_roundw
        case rel => exact ⟨k + 1, p + 1 + S.size + 1, by omega, by go_num, by go_num, by omega, ⟨hbl.os, hbl.tape, hbl.output, hbl.size, hbl.block⟩, by have h := HN.out; rw [HL.out] at h; rw [Hid, show p + 1 + S.size + 1 = p + (S.size + 2) by omega]; exact h⟩
        case measure => simp [intOf]; omega
      · have g : (s[p] == 39) = false := by simpa using e39
        rw [g] at h39
        have HX := mkHid hx
        have HL := mkHid hlen
        have q1 : ((p : Int) + (S.size : Int)).toNat = p + S.size := by omega
        have q3 : decide ((s.size : Int) < (p : Int) + (S.size : Int)) = false := by simp; omega
        have q5 : ((s.extract p (p + S.size)).toList == S.toList) = true := by rw [hx]; simp
        clear e39 g hx hlen
        go_wp2_with fail
        refine (passed_yes _ _ hes HP.out).mono ?_; rintro e w3 ⟨rfl, rfl⟩
        go_wp2
        go_quiet (fail)
        go_wp2
        go_roundw
        case rel => exact ⟨k + 1, p + S.size, by omega, by go_num, by go_num, by omega, ⟨hbl.os, hbl.tape, hbl.output, hbl.size, hbl.block⟩, by have h := HN.out; rw [HL.out] at h; exact h⟩
        case measure => simp [intOf]; omega
    · have hO := HO.out
      rw [List.drop_of_length_le (by omega)] at hO
      obtain ⟨_, hps⟩ := hO.stop
      have hps' : (pst false (s.extract e s.size).data.toList).isSome = true := by rw [extract_list]; exact hps
      have hes : (s.extract e s.size).size ≤ 1000000 := by rw [ByteArray.size_extract]; omega
      have HP := mkHid hps'
      clear hO hps hps' HO
      go_wp2_with fail
      refine (passed_yes _ _ hes HP.out).mono ?_; rintro e w3 ⟨rfl, rfl⟩
      go_wp2
      go_ret
      exact ⟨rfl, hb1.then hbl⟩
set_option maxHeartbeats 800000 in
set_option maxRecDepth 100000 in
theorem lawOrder_any (s : ByteArray) (w : World) (has : s.size ≤ 140737488355328) (hw : LibVars w) :
    Calls Tryd.prog 4 #[.string s] w fun e w' => e = .returned (.bool true) ∧ Below w.heap.size w w' := by
  by_cases hbig : 5000 < (s.size : Int)
  · go_enter Tryd.func4, Tryd.ntmps4
    go_wp2_with fail
    refine (head_any w hw).mono ?_; rintro e w1 ⟨rfl, hb1⟩
    go_wp2
    go_ret
    exact ⟨rfl, hb1⟩
  have ha : s.size ≤ 5000 := by omega
  cases hA : lexL s.data.toList with
  | error pe =>
    obtain ⟨p, er⟩ := pe
    obtain ⟨hne, _⟩ := lexL_bad hA
    have t1 : (er == 0) = false := by simp; omega
    have t2 : (er != 0) = true := by simp; omega
    have HA := mkHid hA
    clear hA hne
    go_enter Tryd.func4, Tryd.ntmps4
    go_wp2_with fail
    refine (head_any w hw).mono ?_; rintro e w1 ⟨rfl, hb1⟩
    go_wp2_with fail
    refine (lex_er (by omega) (hw.below hb1) HA.out).mono ?_; rintro e w2 ⟨rfl, hb2⟩
    go_wp2
    go_ret
    exact ⟨rfl, hb1.then hb2⟩
  | ok ts => exact order_ok s ts w ha hA hw
end Go.Proofs.YtinfefmoiimomaaDoor
