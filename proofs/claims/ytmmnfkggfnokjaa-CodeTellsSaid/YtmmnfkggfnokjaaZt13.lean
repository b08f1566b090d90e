/-
  Of layer 10 of sorrel: whatever arguments come in, the law CodeTells returns true, and what was handed in reads as it did: the code of any clause, and how many registers any code has, are the document's. No condition.
-/
import Derived.Test.YtmmnfkggfnokjaaZt12
namespace Go.Proofs.Ytmmnfkggfnokjaa
open Go.RowKit Go.ChangeShapes Go.WideShapes Go.Deep Go.ChangeAt
theorem Try.cells4 : Try.prog.cellsOf 4 = 1 := by kernel_rfl
theorem Try.cells88 : Try.prog.cellsOf 88 = 2 := by kernel_rfl
theorem Try.cells23 : Try.prog.cellsOf 23 = 1 := by kernel_rfl
theorem Try.cells25 : Try.prog.cellsOf 25 = 2 := by kernel_rfl
section
variable {H : Type} {enc : TypeId × Value → H} {w : World} {held : Bool}
theorem open_slv {fuel : Nat} {t e : TypeId} (he : Try.prog.underlying t = some (.slice e)) {v : Value} {x : DataW H × List MemPlace} (h : DataW.trod enc Try.prog w 0 (fun _ => true) held fuel t [v] = some x) : ∃ a len cap, v = .slice a len cap := by
  rcases open_slice he h with ⟨hcs, _⟩ | ⟨ad, l, c, m, n, D, Pl, hcs, _⟩
  · simp at hcs; exact ⟨_, _, _, hcs⟩
  · simp at hcs; exact ⟨_, _, _, hcs⟩
set_option maxRecDepth 100000 in
theorem open_lit7 {n : Nat} {cs : List Value} {x : DataW H × List MemPlace} (h : DataW.trod enc Try.prog w 0 (fun _ => true) held n 88 cs = some x) :
    ∃ (v : Bool) (t : List Cel) (a : Option Addr) (cap : Nat), cs = [.bool v, .slice a t.length cap] ∧ Row w a cap t := by
  obtain ⟨ys, m, _, _, hlen, hyl, hf⟩ := DataW.trod_struct Try.underlying88 h
  rw [Try.cells88] at hlen
  match cs, hlen with
  | [v0, v1], _ =>
    have h0 : DataW.trod enc Try.prog w 0 (fun _ => true) held m 4 (([v0, v1].drop 0).take (Try.prog.cellsOf 4)) = ys[0]? := hf 0 _ rfl
    have h1 : DataW.trod enc Try.prog w 0 (fun _ => true) held m 22 (([v0, v1].drop 1).take (Try.prog.cellsOf 22)) = ys[1]? := hf 1 _ rfl
    rw [Try.cells4] at h0
    rw [Try.cells22] at h1
    have hy : ∀ i : Nat, i < 2 → ∃ y, ys[i]? = some y := fun i hi => ⟨_, List.getElem?_eq_getElem (by rw [hyl]; exact hi)⟩
    obtain ⟨y0, e0⟩ := hy 0 (by omega)
    obtain ⟨y1, e1⟩ := hy 1 (by omega)
    rw [e0] at h0
    rw [e1] at h1
    obtain ⟨a0, q0, _⟩ := DataW.trod_bool Try.underlying4 h0
    simp at q0
    have h1' : DataW.trod enc Try.prog w 0 (fun _ => true) held m 22 [v1] = some y1 := by simpa using h1
    obtain ⟨a', len, cap, rfl⟩ := open_slv Try.underlying22 h1'
    obtain ⟨xs, rfl, hr⟩ := open_cells h1'
    exact ⟨a0, xs, a', cap, by rw [q0], hr⟩
set_option maxRecDepth 100000 in
theorem E_lit7 (n : Nat) (a : Addr) (cs : List Value) (x : DataW H × List MemPlace) (hc : w.cells? 0 a 2 = some cs) (h : DataW.trod enc Try.prog w 0 (fun _ => true) held n 88 cs = some x) : ∃ (b o : Nat) (y : Lt), a = ⟨b, o, none⟩ ∧ Rep.E w b o y := by
  obtain ⟨v, t, a', cap, rfl, hr⟩ := open_lit7 h
  obtain ⟨_, _, hat⟩ := World.cells?_some hc
  have h0 := hat 0 (by omega)
  obtain ⟨b, o, rfl⟩ : ∃ b o, a = ⟨b, o, none⟩ := spot_none (by simpa [Addr.add] using h0)
  refine ⟨b, o, ⟨v, t⟩, rfl, ?_⟩
  have h1 := hat 1 (by omega)
  rw [add_lit] at h0 h1
  exact ⟨a', cap, h0, h1, hr⟩
theorem open_lits7 {fuel : Nat} {a : Option Addr} {len cap : Nat} {x : DataW H × List MemPlace} (h : DataW.trod enc Try.prog w 0 (fun _ => true) held fuel 23 [.slice a len cap] = some x) :
    ∃ xs : List Lt, xs.length = len ∧ Row w a cap xs :=
  open_rows Try.underlying23 Try.cells88 (fun n a cs x h1 h2 => E_lit7 n a cs x h1 h2) h
set_option maxRecDepth 100000 in
theorem open_clause7 {n : Nat} {cs : List Value} {x : DataW H × List MemPlace} (h : DataW.trod enc Try.prog w 0 (fun _ => true) held n 25 cs = some x) :
    ∃ (c : Cl) (a : Option Addr) (cap : Nat) (a' : Option Addr) (cap' : Nat), cs = [.slice a c.h.length cap, .slice a' c.b.length cap'] ∧ Row w a cap c.h ∧ Row w a' cap' c.b := by
  obtain ⟨ys, m, _, _, hlen, hyl, hf⟩ := DataW.trod_struct Try.underlying25 h
  rw [Try.cells25] at hlen
  match cs, hlen with
  | [v0, v1], _ =>
    have h0 : DataW.trod enc Try.prog w 0 (fun _ => true) held m 22 (([v0, v1].drop 0).take (Try.prog.cellsOf 22)) = ys[0]? := hf 0 _ rfl
    have h1 : DataW.trod enc Try.prog w 0 (fun _ => true) held m 23 (([v0, v1].drop 1).take (Try.prog.cellsOf 23)) = ys[1]? := hf 1 _ rfl
    rw [Try.cells22] at h0
    rw [Try.cells23] at h1
    have hy : ∀ i : Nat, i < 2 → ∃ y, ys[i]? = some y := fun i hi => ⟨_, List.getElem?_eq_getElem (by rw [hyl]; exact hi)⟩
    obtain ⟨y0, e0⟩ := hy 0 (by omega)
    obtain ⟨y1, e1⟩ := hy 1 (by omega)
    rw [e0] at h0
    rw [e1] at h1
    have h0' : DataW.trod enc Try.prog w 0 (fun _ => true) held m 22 [v0] = some y0 := by simpa using h0
    have h1' : DataW.trod enc Try.prog w 0 (fun _ => true) held m 23 [v1] = some y1 := by simpa using h1
    obtain ⟨a, len, cap, rfl⟩ := open_slv Try.underlying22 h0'
    obtain ⟨a', len', cap', rfl⟩ := open_slv Try.underlying23 h1'
    obtain ⟨xs, rfl, hr⟩ := open_cells h0'
    obtain ⟨ls, rfl, hr'⟩ := open_lits7 h1'
    exact ⟨⟨xs, ls⟩, a, cap, a', cap', rfl, hr, hr'⟩
set_option maxRecDepth 100000 in
theorem agg_clause {base : Nat} {v : Value} (hk : Value.okWide Try.prog w .any base 25 v) : ∃ cs, v = .agg cs := by
  simp only [Value.okWide, Try.underlying25] at hk
  obtain ⟨cs, h1, _⟩ := hk
  exact ⟨cs, h1⟩
end
end Go.Proofs.Ytmmnfkggfnokjaa
namespace Go.Proofs.Ytmmnfkggfnokjaa
open Go.RowKit Go.ChangeShapes Go.WideShapes
theorem Try.cells90 : Try.prog.cellsOf 90 = 6 := by kernel_rfl
section
variable {w : World} {H : Type} {enc : TypeId × Value → H} {held : Bool}
set_option maxRecDepth 100000 in
theorem open_ins10 {n : Nat} {cs : List Value} {x : DataW H × List MemPlace} (h : DataW.trod enc Try.prog w 0 (fun _ => true) held n 90 cs = some x) :
    ∃ c : Ins, cs = [.int .i64 c.op, .int .i64 c.x, .int .i64 c.a, .string c.s, .int .i64 c.n, .bool c.neg] ∧ c.fit := by
  obtain ⟨ys, m, _, _, hlen, hyl, hf⟩ := DataW.trod_struct Try.underlying90 h
  rw [Try.cells90] at hlen
  match cs, hlen with
  | [v0, v1, v2, v3, v4, v5], _ =>
    have h0 : DataW.trod enc Try.prog w 0 (fun _ => true) held m 3 (([v0, v1, v2, v3, v4, v5].drop 0).take (Try.prog.cellsOf 3)) = ys[0]? := hf 0 _ rfl
    have h1 : DataW.trod enc Try.prog w 0 (fun _ => true) held m 3 (([v0, v1, v2, v3, v4, v5].drop 1).take (Try.prog.cellsOf 3)) = ys[1]? := hf 1 _ rfl
    have h2 : DataW.trod enc Try.prog w 0 (fun _ => true) held m 3 (([v0, v1, v2, v3, v4, v5].drop 2).take (Try.prog.cellsOf 3)) = ys[2]? := hf 2 _ rfl
    have h3 : DataW.trod enc Try.prog w 0 (fun _ => true) held m 9 (([v0, v1, v2, v3, v4, v5].drop 3).take (Try.prog.cellsOf 9)) = ys[3]? := hf 3 _ rfl
    have h4 : DataW.trod enc Try.prog w 0 (fun _ => true) held m 3 (([v0, v1, v2, v3, v4, v5].drop 4).take (Try.prog.cellsOf 3)) = ys[4]? := hf 4 _ rfl
    have h5 : DataW.trod enc Try.prog w 0 (fun _ => true) held m 4 (([v0, v1, v2, v3, v4, v5].drop 5).take (Try.prog.cellsOf 4)) = ys[5]? := hf 5 _ rfl
    rw [Try.cells3] at h0 h1 h2 h4
    rw [Try.cells9] at h3
    rw [Try.cells4] at h5
    have hy : ∀ i : Nat, i < 6 → ∃ y, ys[i]? = some y := fun i hi => ⟨_, List.getElem?_eq_getElem (by rw [hyl]; exact hi)⟩
    obtain ⟨y0, e0⟩ := hy 0 (by omega)
    obtain ⟨y1, e1⟩ := hy 1 (by omega)
    obtain ⟨y2, e2⟩ := hy 2 (by omega)
    obtain ⟨y3, e3⟩ := hy 3 (by omega)
    obtain ⟨y4, e4⟩ := hy 4 (by omega)
    obtain ⟨y5, e5⟩ := hy 5 (by omega)
    rw [e0] at h0
    rw [e1] at h1
    rw [e2] at h2
    rw [e3] at h3
    rw [e4] at h4
    rw [e5] at h5
    obtain ⟨a0, q0, _, f0⟩ := DataW.trod_int Try.underlying3 h0
    obtain ⟨a1, q1, _, f1⟩ := DataW.trod_int Try.underlying3 h1
    obtain ⟨a2, q2, _, f2⟩ := DataW.trod_int Try.underlying3 h2
    obtain ⟨a3, q3, _, f3⟩ := DataW.trod_string Try.underlying9 h3
    obtain ⟨a4, q4, _, f4⟩ := DataW.trod_int Try.underlying3 h4
    obtain ⟨a5, q5, _⟩ := DataW.trod_bool Try.underlying4 h5
    simp at q0 q1 q2 q3 q4 q5
    exact ⟨⟨a0, a1, a2, a3, a4, a5⟩, by rw [q0, q1, q2, q3, q4, q5], ⟨(i64_wf f0).1, (i64_wf f0).2, (i64_wf f1).1, (i64_wf f1).2, (i64_wf f2).1, (i64_wf f2).2, by unfold maxLen at f3; exact f3, (i64_wf f4).1, (i64_wf f4).2⟩⟩
set_option maxRecDepth 100000 in
theorem E_ins10 (n : Nat) (a : Addr) (cs : List Value) (x : DataW H × List MemPlace) (hc : w.cells? 0 a 6 = some cs) (h : DataW.trod enc Try.prog w 0 (fun _ => true) held n 90 cs = some x) : ∃ (b o : Nat) (y : Ins), a = ⟨b, o, none⟩ ∧ Rep.E w b o y := by
  obtain ⟨c, rfl, hf⟩ := open_ins10 h
  obtain ⟨_, _, hat⟩ := World.cells?_some hc
  have h0 := hat 0 (by omega)
  obtain ⟨b, o, rfl⟩ : ∃ b o, a = ⟨b, o, none⟩ := spot_none (by simpa [Addr.add] using h0)
  refine ⟨b, o, c, rfl, ?_⟩
  have h1 := hat 1 (by omega)
  have h2 := hat 2 (by omega)
  have h3 := hat 3 (by omega)
  have h4 := hat 4 (by omega)
  have h5 := hat 5 (by omega)
  rw [add_lit] at h0 h1 h2 h3 h4 h5
  exact ⟨h0, h1, h2, h3, h4, h5, hf⟩
/-- []Instr -/
theorem open_inss10 {fuel : Nat} {a : Option Addr} {len cap : Nat} {x : DataW H × List MemPlace} (h : DataW.trod enc Try.prog w 0 (fun _ => true) held fuel 26 [.slice a len cap] = some x) :
    ∃ xs : List Ins, xs.length = len ∧ Row w a cap xs :=
  open_rows Try.underlying26 Try.cells90 (fun n a cs x h1 h2 => E_ins10 n a cs x h1 h2) h
end
end Go.Proofs.Ytmmnfkggfnokjaa
namespace Go.Proofs.Ytmmnfkggfnokjaa
open Go.RowKit Go.ChangeShapes Go.WideShapes Go.ChangeAt
open Go.ChangeMaps (open_string)
set_option maxRecDepth 100000 in
set_option maxHeartbeats 1000000 in
theorem CodeTells_lifted (os : Os) (started : os.Started) (H : Type) (enc : TypeId × Value → H) :
    ReturnsInHanded {} Try.checked os 3 .any (Rows.codeTellsSpec.pre6 enc Try.prog Try.f3 Rows.codeTellsRow.domain false) (Rows.codeTellsSpec.post enc Try.prog Try.f3 false true false false) := by
  refine returnsInHanded_of_change (C := Try.checked) Try.own started (by kernel_rfl) Try.func3
    (ChangeSpec.witness6 (enc := enc) (C := Try.checked) false ⟨#[], #[.agg #[.slice none 0 0, .slice none 0 0], .slice none 0 0], []⟩ 8 (by kernel_rfl) (by kernel_rfl) (by kernel_rfl) (by kernel_rfl)) ?_
  intro W base args ds gs before hval0 hW hcnd _
  have hval : ∀ (j : Nat) t v, Try.f3.params[j]? = some t → args[j]? = some v → Value.okWide Try.prog W .any base t v := hval0
  have hW' := hW
  obtain ⟨p, q, hA0, hV, rfl, hfz, hnd⟩ := hW
  have hA : DataW.TrodAll enc Try.prog W 0 (fun _ => true) true Try.f3.params.toList args.toList ds p := hA0
  rw [Try.params3] at hA hval
  obtain ⟨v0, vs0, d0, ds0, p0, q0, hargs, rfl, rfl, h0, r0⟩ := trodAll_cons hA
  obtain ⟨v1, vs1, d1, ds1, p1, q1, rfl, rfl, rfl, h1, r1⟩ := trodAll_cons r0
  obtain ⟨rfl, rfl, rfl⟩ := trodAll_nil r1
  obtain rfl : args = #[v0, v1] := by cases args; simp_all
  obtain ⟨rfl, rfl⟩ := trodVars_none hV
  have k0 := h0
  have lt0 : ∀ x ∈ p0, x.block < W.heap.size := by obtain ⟨m, hm⟩ := k0; exact DataW.trod_lt m _ _ _ hm
  obtain ⟨x0, a0, b0, e0, c0, rfl, hu0, hv0⟩ : ∃ (x : Cl) (a : Option Addr) (b : Nat) (e : Option Addr) (c : Nat), v0 = .agg #[.slice a x.h.length b, .slice e x.b.length c] ∧ Row W a b x.h ∧ Row W e c x.b := by
    obtain ⟨⟨l⟩, rfl⟩ := agg_clause (hval 0 25 v0 rfl rfl)
    obtain ⟨fuel, hf⟩ := h0
    obtain ⟨x, a, b, e, c, hc, g0, g1⟩ := open_clause7 hf
    have hc' : l = [.slice a x.h.length b, .slice e x.b.length c] := hc
    exact ⟨x, a, b, e, c, by rw [hc'], g0, g1⟩
  have k1 := h1
  have lt1 : ∀ x ∈ p1, x.block < W.heap.size := by obtain ⟨m, hm⟩ := k1; exact DataW.trod_lt m _ _ _ hm
  obtain ⟨a1, len1, cap1, rfl⟩ := okWide_slice Try.underlying26 (hval 1 26 v1 rfl rfl)
  obtain ⟨xs1, rfl, hr1⟩ : ∃ xs : List Ins, xs.length = len1 ∧ Row W a1 cap1 xs := by
    obtain ⟨fuel, hf⟩ := h1
    exact open_inss10 hf
  clear hA0 hval0
  refine (lawTells_any W x0 a0 b0 e0 c0 hu0 hv0 xs1 a1 cap1 hr1).mono fun e W' ⟨he, bel⟩ => ?_
  subst he
  exact ⟨_, rfl, _, _, _, [], _, [], hW', trodAll_mk1 (shut_bool Try.underlying4 _), (trodAll_cons_mk (Below.trod Try.laidOut (by kernel_rfl) (of_decide_eq_true (by kernel_rfl)) k0 bel lt0) (trodAll_cons_mk (Below.trod Try.laidOut (by kernel_rfl) (of_decide_eq_true (by kernel_rfl)) k1 bel lt1) trodAll_mk0)), rfl, bel.frame _, fun h => by cases h⟩
theorem CodeTells_over : Rows.codeTellsRow.holds Try.pinned (OpenSpec.ofChange Rows.codeTellsSpec) :=
  OpenClaim.holds_of_wide 3 Try.f3 rfl rfl rfl rfl rfl rfl rfl ⟨rfl, rfl, rfl, rfl, rfl⟩ rfl rfl rfl rfl rfl (by kernel_rfl) Try.func3 (by kernel_rfl)
    (of_decide_eq_true (by kernel_rfl)) (by unfold Func.isWrapper; first | (rw [if_pos (by decide +kernel)]; kernel_rfl) | (rw [if_neg (by decide +kernel)]; exact ⟨rfl, rfl⟩))
    (fun os started H enc _ => CodeTells_lifted os started H enc)
theorem CodeTells_holds : Rows.CodeTellsSaid := CodeTells_over
end Go.Proofs.Ytmmnfkggfnokjaa
