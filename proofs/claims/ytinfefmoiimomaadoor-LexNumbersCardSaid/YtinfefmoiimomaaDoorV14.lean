import Derived.Test.YtinfefmoiimomaaDoorV13
namespace Go.Proofs.YtinfefmoiimomaaDoor
open Go.RowKit

theorem lexL_eq {s : ByteArray} (h : s.size ≤ 20000) : lexL s.data.toList = lexW false s.data.toList 0 := by
  unfold lexL; rw [if_neg (by rw [size_list]; omega)]
theorem lexL_big {s : ByteArray} (h : 20000 < s.size) : lexL s.data.toList = .error (0, 2) := by
  unfold lexL; rw [if_pos (by rw [size_list]; omega)]
set_option maxHeartbeats 800000 in
set_option maxRecDepth 100000 in
theorem lexAll_any (s : ByteArray) (w : World) (hs : s.size ≤ 1000000000) (hw : LibVars w) :
    Calls Tryd.prog 12 #[.string s] w fun e w' => LexOut w' e (lexL s.data.toList) ∧ Below w.heap.size w w' := by
  by_cases h : s.size ≤ 20000
  · rw [lexL_eq h]; exact lex_any s w h hw
  · have HL := mkHid (lexL_big (by omega) : lexL s.data.toList = .error (0, 2))
    have h' : 20000 < s.size := by omega
    clear hw
    go_enter Tryd.func12, Tryd.ntmps12
    go_wp2
    go_step3
    go_wp2
    try rw [Exit.noGoto_ret]
    go_ret3
    rw [HL.out]
    exact ⟨rfl, Below.refl _ _⟩

theorem Row.tok {w w' : World} {b off cap : Nat} {ts : List Tok} (h : Row w (some ⟨b, off, none⟩) cap ts) (hb : Below w.heap.size w w') {i : Nat} {t : Tok} (hi : ts[i]? = some t) : TokAt w' b (off + i * 4) t := by
  obtain ⟨b', off', e, hc⟩ := h.at_ i t hi
  simp at e
  obtain ⟨rfl, rfl⟩ := e
  exact TokAt.keeps (show TokAt w b (off + i * 4) t from hc) (Keeps.of hb)
theorem Tok.eq_iff (x y : Tok) : x = y ↔ x.k = y.k ∧ x.s = y.s ∧ x.n = y.n ∧ x.p = y.p := by
  cases x; cases y; simp
theorem toListB_inj (a b : ByteArray) : (a.toList = b.toList) ↔ a = b := by
  rw [ByteArray.toList_eq, ByteArray.toList_eq]
  constructor
  · intro e
    cases a; cases b
    simp at e
    rw [e]
  · intro e; rw [e]
set_option maxHeartbeats 800000 in
theorem run_eql_tok (x y : Tok) (w : World) : (binOp .eql 30 (.agg #[.int .i64 x.k, .string x.s, .int .i64 x.n, .int .i64 x.p]) (.agg #[.int .i64 y.k, .string y.s, .int .i64 y.n, .int .i64 y.p])).run Tryd.prog w = .ok (.bool (decide (x = y))) w := by
  by_cases h1 : x.k = y.k
  · by_cases h2 : x.s = y.s
    · by_cases h3 : x.n = y.n
      · by_cases h4 : x.p = y.p
        · have : x = y := (Tok.eq_iff x y).2 ⟨h1, h2, h3, h4⟩
          subst this
          go_simp
        · have h5 : ¬ x = y := fun e => h4 (by rw [e])
          have h6 : (x.p == y.p) = false := by simp [h4]
          go_simp
      · have h4 : ¬ x = y := fun e => h3 (by rw [e])
        have h5 : (x.n == y.n) = false := by simp [h3]
        go_simp
    · have h4 : ¬ x = y := fun e => h2 (by rw [e])
      have h5 : (x.s.toList == y.s.toList) = false := by simp [toListB_inj, h2]
      go_simp
  · have h4 : ¬ x = y := fun e => h1 (by rw [e])
    have h5 : (x.k == y.k) = false := by simp [h1]
    go_simp
set_option maxHeartbeats 800000 in
theorem run_neq_tok (x y : Tok) (w : World) : (binOp .neq 30 (.agg #[.int .i64 x.k, .string x.s, .int .i64 x.n, .int .i64 x.p]) (.agg #[.int .i64 y.k, .string y.s, .int .i64 y.n, .int .i64 y.p])).run Tryd.prog w = .ok (.bool (!decide (x = y))) w := by
  by_cases h1 : x.k = y.k
  · by_cases h2 : x.s = y.s
    · by_cases h3 : x.n = y.n
      · by_cases h4 : x.p = y.p
        · have : x = y := (Tok.eq_iff x y).2 ⟨h1, h2, h3, h4⟩
          subst this
          go_simp
        · have h5 : ¬ x = y := fun e => h4 (by rw [e])
          have h6 : (x.p == y.p) = false := by simp [h4]
          go_simp
      · have h4 : ¬ x = y := fun e => h3 (by rw [e])
        have h5 : (x.n == y.n) = false := by simp [h3]
        go_simp
    · have h4 : ¬ x = y := fun e => h2 (by rw [e])
      have h5 : (x.s.toList == y.s.toList) = false := by simp [toListB_inj, h2]
      go_simp
  · have h4 : ¬ x = y := fun e => h1 (by rw [e])
    have h5 : (x.k == y.k) = false := by simp [h1]
    go_simp
end Go.Proofs.YtinfefmoiimomaaDoor
