/-
  Of layer 3 of sorrel: whatever two rows of cells come in, the law UnifyTurn returns true, and both rows read as they did: the other way round Mgu is the same; of a term and itself it is nothing; of a term and one that is deeper by a name around it there is none. No condition.
-/
import Derived.Test.YtlddglajdcednaaZq8
import Derived.Deep.Slices
import Derived.Deep.Fields
import Derived.ChangeSame
import Derived.ProofKit
import Derived.OpenShut
import Derived.ShutString
import Derived.ChangeOld
import Derived.Lib.SmallJoins
namespace Go.Proofs.Ytlddglajdcednaa
open Go.RowKit Go.ChangeShapes Go.WideShapes Go.Deep Go.ChangeAt

theorem Try.own : ownKnob Try.prog.godebug = none := by kernel_rfl
theorem Try.laidOut : laidOutB Try.prog = true := by kernel_rfl
theorem Try.cells42 : Try.prog.cellsOf 42 = 3 := by kernel_rfl
theorem Try.cells22 : Try.prog.cellsOf 22 = 1 := by kernel_rfl
theorem Try.cells3 : Try.prog.cellsOf 3 = 1 := by kernel_rfl
theorem Try.cells9 : Try.prog.cellsOf 9 = 1 := by kernel_rfl

theorem i64_wf {n : Int} (h : (Lit.int .i64 n).wf = true) : -9223372036854775808 ≤ n ∧ n ≤ 9223372036854775807 := by
  simp [Lit.wf, IntKind.min, IntKind.max, IntKind.signed, IntKind.bits] at h
  omega
theorem add_lit (b o j : Nat) : (Addr.mk b o none).add j = ⟨b, o + j, none⟩ := by unfold Addr.add; split <;> simp_all

section
variable {H : Type} {enc : TypeId × Value → H} {w : World} {spare : Nat → Bool} {held : Bool}
set_option maxRecDepth 100000 in
/-- three cells that read as a cell of a term -/
theorem open_cell {n : Nat} {cs : List Value} {x : DataW H × List MemPlace} (h : DataW.trod enc Try.prog w 0 spare held n 42 cs = some x) :
    ∃ c : Cel, cs = [.int .i64 c.k, .string c.s, .int .i64 c.n] ∧ c.fit := by
  obtain ⟨ys, m, _, _, hlen, hyl, hf⟩ := DataW.trod_struct Try.underlying42 h
  rw [Try.cells42] at hlen
  match cs, hlen with
  | [v0, v1, v2], _ =>
    have h0 : DataW.trod enc Try.prog w 0 spare held m 3 (([v0, v1, v2].drop 0).take (Try.prog.cellsOf 3)) = ys[0]? := hf 0 _ rfl
    have h1 : DataW.trod enc Try.prog w 0 spare held m 9 (([v0, v1, v2].drop 1).take (Try.prog.cellsOf 9)) = ys[1]? := hf 1 _ rfl
    have h2 : DataW.trod enc Try.prog w 0 spare held m 3 (([v0, v1, v2].drop 2).take (Try.prog.cellsOf 3)) = ys[2]? := hf 2 _ rfl
    rw [Try.cells3] at h0 h2
    rw [Try.cells9] at h1
    have hy : ∀ i : Nat, i < 3 → ∃ y, ys[i]? = some y := fun i hi => ⟨_, List.getElem?_eq_getElem (by rw [hyl]; exact hi)⟩
    obtain ⟨y0, e0⟩ := hy 0 (by omega)
    obtain ⟨y1, e1⟩ := hy 1 (by omega)
    obtain ⟨y2, e2⟩ := hy 2 (by omega)
    rw [e0] at h0
    rw [e1] at h1
    rw [e2] at h2
    obtain ⟨a0, q0, _, f0⟩ := DataW.trod_int Try.underlying3 h0
    obtain ⟨a1, q1, _, f1⟩ := DataW.trod_string Try.underlying9 h1
    obtain ⟨a2, q2, _, f2⟩ := DataW.trod_int Try.underlying3 h2
    simp at q0 q1 q2
    refine ⟨⟨a0, a1, a2⟩, by rw [q0, q1, q2], ⟨(i64_wf f0).1, (i64_wf f0).2, (i64_wf f2).1, (i64_wf f2).2, by unfold maxLen at f1; exact f1⟩⟩

/-- what rows of a kind are made of -/
theorem open_rows {α : Type} [Rep α] {t e : TypeId} (ht : Try.prog.underlying t = some (.slice e)) (hC : Try.prog.cellsOf e = Rep.sz α)
    (hE : ∀ (n : Nat) (a : Addr) (cs : List Value) (x : DataW H × List MemPlace), w.cells? 0 a (Rep.sz α) = some cs → DataW.trod enc Try.prog w 0 (fun _ => true) held n e cs = some x → ∃ (b o : Nat) (y : α), a = ⟨b, o, none⟩ ∧ Rep.E w b o y)
    {fuel : Nat} {a : Option Addr} {len cap : Nat} {x : DataW H × List MemPlace} (h : DataW.trod enc Try.prog w 0 (fun _ => true) held fuel t [.slice a len cap] = some x) :
    ∃ xs : List α, xs.length = len ∧ Row w a cap xs := by
  rcases open_slice ht h with ⟨hcs, _⟩ | ⟨ad, l, c, m, n, D, Pl, hcs, _, hl, hm, hmm, _, hi⟩
  · simp at hcs
    obtain ⟨rfl, rfl, rfl⟩ := hcs
    exact ⟨[], rfl, Row.empty _ _ _ (by omega) (fun _ => rfl)⟩
  · simp at hcs
    obtain ⟨rfl, rfl, rfl⟩ := hcs
    simp only [if_true] at hmm
    subst hmm
    have key : ∀ i, i < len → ∃ (b o : Nat) (y : α), ad.add (i * Rep.sz α) = ⟨b, o, none⟩ ∧ Rep.E w b o y := by
      intro i hil
      obtain ⟨cs', hc, ht'⟩ := hi i (by omega)
      rw [hC] at hc
      exact hE n _ cs' _ hc ht'
    have hy : ∀ i : Fin len, ∃ y : α, ∃ b o, ad.add (i.val * Rep.sz α) = ⟨b, o, none⟩ ∧ Rep.E w b o y := fun i => by
      obtain ⟨b, o, y, e1, e2⟩ := key i.val i.isLt
      exact ⟨y, b, o, e1, e2⟩
    let f : Fin len → α := fun i => Classical.choose (hy i)
    have hf : ∀ i : Fin len, ∃ b o, ad.add (i.val * Rep.sz α) = ⟨b, o, none⟩ ∧ Rep.E w b o (f i) := fun i => Classical.choose_spec (hy i)
    refine ⟨List.ofFn f, List.length_ofFn, ⟨by rw [List.length_ofFn]; exact hl, by unfold maxLen at hm; omega, (fun e => by cases e), fun i x hx => ?_⟩⟩
    have hil : i < len := by
      have := (List.getElem?_eq_some_iff.1 hx).1; rwa [List.length_ofFn] at this
    have hx' : f ⟨i, hil⟩ = x := by
      rw [List.getElem?_eq_getElem (by rw [List.length_ofFn]; exact hil), List.getElem_ofFn] at hx
      exact Option.some.inj hx
    obtain ⟨b, o, e1, e2⟩ := hf ⟨i, hil⟩
    obtain ⟨b0, o0, s0⟩ := ad
    have hz := hf ⟨0, by omega⟩
    obtain ⟨b1, o1, e3, _⟩ := hz
    simp only [Nat.zero_mul, Addr.add, if_true] at e3
    injection e3 with e3 e4 e5
    subst e5
    rw [add_lit] at e1
    injection e1 with e1 e6
    subst e1
    refine ⟨b0, o0, rfl, ?_⟩
    rw [hx'] at e2
    rw [← e6] at e2
    exact e2

theorem spot_none {a : Addr} {v : Value} (h : w.cell? a = some v) : ∃ b o, a = ⟨b, o, none⟩ := by
  have := World.cell?_spot h
  obtain ⟨b, o, s⟩ := a
  simp at this
  subst this
  exact ⟨b, o, rfl⟩
theorem E_cell (n : Nat) (a : Addr) (cs : List Value) (x : DataW H × List MemPlace) (hc : w.cells? 0 a 3 = some cs) (h : DataW.trod enc Try.prog w 0 spare held n 42 cs = some x) : ∃ (b o : Nat) (y : Cel), a = ⟨b, o, none⟩ ∧ Rep.E w b o y := by
  obtain ⟨c, rfl, hf⟩ := open_cell h
  obtain ⟨_, _, hat⟩ := World.cells?_some hc
  have h0 := hat 0 (by omega)
  obtain ⟨b, o, rfl⟩ : ∃ b o, a = ⟨b, o, none⟩ := spot_none (by simpa [Addr.add] using h0)
  refine ⟨b, o, c, rfl, ?_⟩
  have h1 := hat 1 (by omega)
  have h2 := hat 2 (by omega)
  rw [add_lit] at h0 h1 h2
  exact ⟨h0, h1, h2, hf⟩
/-- []Cell -/
theorem open_cells {fuel : Nat} {a : Option Addr} {len cap : Nat} {x : DataW H × List MemPlace} (h : DataW.trod enc Try.prog w 0 (fun _ => true) held fuel 22 [.slice a len cap] = some x) :
    ∃ xs : List Cel, xs.length = len ∧ Row w a cap xs :=
  open_rows Try.underlying22 Try.cells42 (fun n a cs x h1 h2 => E_cell n a cs x h1 h2) h
theorem E_list {α : Type} [Rep α] {e : TypeId} {el : TypeId} (he : Try.prog.underlying e = some (.slice el))
    (hop : ∀ {fuel : Nat} {a : Option Addr} {len cap : Nat} {x : DataW H × List MemPlace}, DataW.trod enc Try.prog w 0 (fun _ => true) held fuel e [.slice a len cap] = some x → ∃ xs : List α, xs.length = len ∧ Row w a cap xs)
    (n : Nat) (a : Addr) (cs : List Value) (x : DataW H × List MemPlace) (hc : w.cells? 0 a 1 = some cs) (h : DataW.trod enc Try.prog w 0 (fun _ => true) held n e cs = some x) : ∃ (b o : Nat) (y : List α), a = ⟨b, o, none⟩ ∧ Rep.E w b o y := by
  obtain ⟨_, hl, hat⟩ := World.cells?_some hc
  have h0 := hat 0 (by omega)
  match cs, hl with
  | [v], _ =>
    have hv : ∃ a' len cap, v = .slice a' len cap := by
      rcases open_slice he h with ⟨hcs, _⟩ | ⟨ad, l, c, m, n, D, Pl, hcs, _⟩
      · simp at hcs; exact ⟨_, _, _, hcs⟩
      · simp at hcs; exact ⟨_, _, _, hcs⟩
    obtain ⟨a', len, cap, rfl⟩ := hv
    obtain ⟨xs, rfl, hr⟩ := hop h
    obtain ⟨b, o, rfl⟩ : ∃ b o, a = ⟨b, o, none⟩ := spot_none (by simpa [Addr.add] using h0)
    rw [add_lit] at h0
    exact ⟨b, o, xs, rfl, ⟨a', cap, h0, hr⟩⟩
/-- [][]Cell -/
theorem open_cellss {fuel : Nat} {a : Option Addr} {len cap : Nat} {x : DataW H × List MemPlace} (h : DataW.trod enc Try.prog w 0 (fun _ => true) held fuel 40 [.slice a len cap] = some x) :
    ∃ xs : List (List Cel), xs.length = len ∧ Row w a cap xs :=
  open_rows Try.underlying40 Try.cells22 (fun n a cs x h1 h2 => E_list (α := Cel) Try.underlying22 open_cells n a cs x h1 h2) h
end
end Go.Proofs.Ytlddglajdcednaa
namespace Go.Proofs.Ytlddglajdcednaa
open Go.RowKit Go.ChangeShapes Go.WideShapes Go.Deep Go.ChangeAt

theorem Try.cells39 : Try.prog.cellsOf 39 = 2 := by kernel_rfl
section
variable {H : Type} {enc : TypeId × Value → H} {w : World} {held : Bool}
set_option maxRecDepth 100000 in
/-- two cells that read as a binding -/
theorem open_bind {n : Nat} {cs : List Value} {x : DataW H × List MemPlace} (h : DataW.trod enc Try.prog w 0 (fun _ => true) held n 39 cs = some x) :
    ∃ (v : Int) (t : List Cel) (a : Option Addr) (cap : Nat), cs = [.int .i64 v, .slice a t.length cap] ∧ Row w a cap t ∧ -9223372036854775808 ≤ v ∧ v ≤ 9223372036854775807 := by
  obtain ⟨ys, m, _, _, hlen, hyl, hf⟩ := DataW.trod_struct Try.underlying39 h
  rw [Try.cells39] at hlen
  match cs, hlen with
  | [v0, v1], _ =>
    have h0 : DataW.trod enc Try.prog w 0 (fun _ => true) held m 3 (([v0, v1].drop 0).take (Try.prog.cellsOf 3)) = ys[0]? := hf 0 _ rfl
    have h1 : DataW.trod enc Try.prog w 0 (fun _ => true) held m 22 (([v0, v1].drop 1).take (Try.prog.cellsOf 22)) = ys[1]? := hf 1 _ rfl
    rw [Try.cells3] at h0
    rw [Try.cells22] at h1
    have hy : ∀ i : Nat, i < 2 → ∃ y, ys[i]? = some y := fun i hi => ⟨_, List.getElem?_eq_getElem (by rw [hyl]; exact hi)⟩
    obtain ⟨y0, e0⟩ := hy 0 (by omega)
    obtain ⟨y1, e1⟩ := hy 1 (by omega)
    rw [e0] at h0
    rw [e1] at h1
    obtain ⟨a0, q0, _, f0⟩ := DataW.trod_int Try.underlying3 h0
    simp at q0
    have h1' : DataW.trod enc Try.prog w 0 (fun _ => true) held m 22 [v1] = some y1 := by simpa using h1
    have hv : ∃ a' len cap, v1 = .slice a' len cap := by
      rcases open_slice Try.underlying22 h1' with ⟨hcs, _⟩ | ⟨ad, l, c, m, n, D, Pl, hcs, _⟩
      · simp at hcs; exact ⟨_, _, _, hcs⟩
      · simp at hcs; exact ⟨_, _, _, hcs⟩
    obtain ⟨a', len, cap, rfl⟩ := hv
    obtain ⟨xs, rfl, hr⟩ := open_cells h1'
    exact ⟨a0, xs, a', cap, by rw [q0], hr, (i64_wf f0).1, (i64_wf f0).2⟩
theorem E_bind (n : Nat) (a : Addr) (cs : List Value) (x : DataW H × List MemPlace) (hc : w.cells? 0 a 2 = some cs) (h : DataW.trod enc Try.prog w 0 (fun _ => true) held n 39 cs = some x) : ∃ (b o : Nat) (y : Bnd), a = ⟨b, o, none⟩ ∧ Rep.E w b o y := by
  obtain ⟨v, t, a', cap, rfl, hr, hl, hh⟩ := open_bind h
  obtain ⟨_, _, hat⟩ := World.cells?_some hc
  have h0 := hat 0 (by omega)
  obtain ⟨b, o, rfl⟩ : ∃ b o, a = ⟨b, o, none⟩ := spot_none (by simpa [Addr.add] using h0)
  refine ⟨b, o, ⟨v, t⟩, rfl, ?_⟩
  have h1 := hat 1 (by omega)
  rw [add_lit] at h0 h1
  exact ⟨⟨a', cap, h0, h1, hr⟩, hl, hh⟩
/-- []Bind -/
theorem open_binds {fuel : Nat} {a : Option Addr} {len cap : Nat} {x : DataW H × List MemPlace} (h : DataW.trod enc Try.prog w 0 (fun _ => true) held fuel 25 [.slice a len cap] = some x) :
    ∃ xs : List Bnd, xs.length = len ∧ Row w a cap xs :=
  open_rows Try.underlying25 Try.cells39 (fun n a cs x h1 h2 => E_bind n a cs x h1 h2) h
end
end Go.Proofs.Ytlddglajdcednaa
namespace Go.Proofs.Ytlddglajdcednaa
open Go.RowKit Go.ChangeShapes Go.WideShapes Go.ChangeAt
open Go.ChangeMaps (open_string)

set_option maxRecDepth 100000 in
set_option maxHeartbeats 1000000 in
theorem UnifyTurn_lifted (os : Os) (started : os.Started) (H : Type) (enc : TypeId × Value → H) :
    ReturnsInHanded {} Try.checked os 6 .any (Rows.unifyTurnSpec.pre6 enc Try.prog Try.f6 Rows.unifyTurnRow.domain false) (Rows.unifyTurnSpec.post enc Try.prog Try.f6 false true false false) := by
  refine returnsInHanded_of_change (C := Try.checked) Try.own started (by kernel_rfl) Try.func6
    (ChangeSpec.witness6 (enc := enc) (C := Try.checked) false ⟨#[], #[.slice none 0 0, .slice none 0 0], []⟩ 8 (by kernel_rfl) (by kernel_rfl) (by kernel_rfl) (by kernel_rfl)) ?_
  intro W base args ds gs before hval0 hW hcnd _
  have hval : ∀ (j : Nat) t v, Try.f6.params[j]? = some t → args[j]? = some v → Value.okWide Try.prog W .any base t v := hval0
  have hW' := hW
  obtain ⟨p, q, hA0, hV, rfl, hfz, hnd⟩ := hW
  have hA : DataW.TrodAll enc Try.prog W 0 (fun _ => true) true Try.f6.params.toList args.toList ds p := hA0
  rw [Try.params6] at hA hval
  obtain ⟨v0, vs0, d0, ds0, p0, q0, hargs, rfl, rfl, h0, r0⟩ := trodAll_cons hA
  obtain ⟨v1, vs1, d1, ds1, p1, q1, rfl, rfl, rfl, h1, r1⟩ := trodAll_cons r0
  obtain ⟨rfl, rfl, rfl⟩ := trodAll_nil r1
  obtain rfl : args = #[v0, v1] := by cases args; simp_all
  obtain ⟨rfl, rfl⟩ := trodVars_none hV
  have k0 := h0
  have lt0 : ∀ x ∈ p0, x.block < W.heap.size := by obtain ⟨m, hm⟩ := k0; exact DataW.trod_lt m _ _ _ hm
  obtain ⟨a0, len0, cap0, rfl⟩ := okWide_slice Try.underlying22 (hval 0 22 v0 rfl rfl)
  obtain ⟨xs0, rfl, hr0⟩ : ∃ xs : List Cel, xs.length = len0 ∧ Row W a0 cap0 xs := by
    obtain ⟨fuel, hf⟩ := h0
    exact open_cells hf
  have k1 := h1
  have lt1 : ∀ x ∈ p1, x.block < W.heap.size := by obtain ⟨m, hm⟩ := k1; exact DataW.trod_lt m _ _ _ hm
  obtain ⟨a1, len1, cap1, rfl⟩ := okWide_slice Try.underlying22 (hval 1 22 v1 rfl rfl)
  obtain ⟨xs1, rfl, hr1⟩ : ∃ xs : List Cel, xs.length = len1 ∧ Row W a1 cap1 xs := by
    obtain ⟨fuel, hf⟩ := h1
    exact open_cells hf
  clear hA0 hval0
  refine (lawTurn_any W xs0 xs1 a0 cap0 a1 cap1 hr0 hr1).mono fun e W' ⟨he, bel⟩ => ?_
  subst he
  exact ⟨_, rfl, _, _, _, [], _, [], hW', trodAll_mk1 (shut_bool Try.underlying4 _), (trodAll_cons_mk (Below.trod Try.laidOut (by kernel_rfl) (of_decide_eq_true (by kernel_rfl)) k0 bel lt0) (trodAll_cons_mk (Below.trod Try.laidOut (by kernel_rfl) (of_decide_eq_true (by kernel_rfl)) k1 bel lt1) trodAll_mk0)), rfl, bel.frame _, fun h => by cases h⟩

theorem UnifyTurn_over : Rows.unifyTurnRow.holds Try.pinned (OpenSpec.ofChange Rows.unifyTurnSpec) :=
  OpenClaim.holds_of_wide 6 Try.f6 rfl rfl rfl rfl rfl rfl rfl ⟨rfl, rfl, rfl, rfl, rfl⟩ rfl rfl rfl rfl rfl (by kernel_rfl) Try.func6 (by kernel_rfl)
    (of_decide_eq_true (by kernel_rfl)) (by unfold Func.isWrapper; first | (rw [if_pos (by decide +kernel)]; kernel_rfl) | (rw [if_neg (by decide +kernel)]; exact ⟨rfl, rfl⟩))
    (fun os started H enc _ => UnifyTurn_lifted os started H enc)

theorem UnifyTurn_holds : Rows.UnifyTurnSaid := UnifyTurn_over
end Go.Proofs.Ytlddglajdcednaa
