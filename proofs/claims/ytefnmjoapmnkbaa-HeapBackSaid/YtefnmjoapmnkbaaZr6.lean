import Derived.Test.YtefnmjoapmnkbaaZr5
import Derived.Deep.RegionHeld3
set_option linter.unusedVariables false
namespace Go.Proofs.Ytefnmjoapmnkbaa
open Go.RowKit

/-! ### the document's search -/
def SlotsOk (l : List Cel) : Prop := ∀ (k : Nat) (h : k < l.length), slotB l k l[k] = true
theorem top_of {l : List Cel} (h : SlotsOk l) {k : Nat} (hk : k < l.length) (h4 : l[k].k = 4) : 0 ≤ l[k].n ∧ l[k].n ≤ 6 ∧ (k : Int) + l[k].n < l.length ∧ nameOk l[k].s = true ∧ slotsB l k l[k].n = true := by
  have := h k hk
  unfold slotB at this
  rw [if_neg (by omega), if_neg (by omega), if_neg (by omega), if_pos h4] at this
  unfold topB at this
  simp only [Bool.and_eq_true, decide_eq_true_eq] at this
  obtain ⟨⟨⟨⟨h1, h2⟩, h3⟩, h5⟩, h6⟩ := this
  exact ⟨h1, h2, h3, h5, h6⟩
theorem on_of {l : List Cel} (h : SlotsOk l) {k : Nat} (hk : k < l.length) (h4 : l[k].k = 1 ∨ l[k].k = 3) : 0 ≤ l[k].n ∧ l[k].n < (l.length : Int) := by
  have := h k hk
  unfold slotB at this
  rcases h4 with h4 | h4
  · rw [if_pos h4] at this
    simp [standsB] at this
    exact this.2
  · rw [if_neg (by omega), if_neg (by omega), if_pos h4] at this
    simp only [Bool.and_eq_true] at this
    obtain ⟨_, h2⟩ := this
    unfold ptrB at h2
    split at h2
    · assumption
    · cases h2
theorem leads_edge {l : List Cel} (h : SlotsOk l) {k : Nat} (hk : k < l.length) (x : Int) : x ∈ leadsL k l[k] ↔ ∃ b : Nat, x = b ∧ edge l k b := by
  by_cases h4 : l[k].k = 4
  · obtain ⟨h1, h2, h3, _⟩ := top_of h hk h4
    unfold leadsL
    rw [if_neg (by simp [onwardB, h4]), if_pos h4, List.nil_append, List.mem_map]
    constructor
    · rintro ⟨i, hi, rfl⟩
      rw [List.mem_range] at hi
      refine ⟨k + 1 + i, by omega, hk, ?_, ?_⟩
      · rw [leads1, if_pos h4]; omega
      · rw [leads2, if_pos h4]; omega
    · rintro ⟨b, rfl, _, h5, h6⟩
      rw [leads1, if_pos h4] at h5
      rw [leads2, if_pos h4] at h6
      exact ⟨b - (k + 1), by rw [List.mem_range]; omega, by omega⟩
  · unfold leadsL
    rw [if_neg h4, List.append_nil]
    by_cases ho : onwardB l[k] k = true
    · have hs : 0 ≤ l[k].n ∧ l[k].n < (l.length : Int) := on_of h hk (by
        simp [onwardB] at ho
        rcases ho with ho | ho
        · exact .inr ho
        · exact .inl ho.1)
      have hst : standsB l l[k].n = true := by simp [standsB]; exact hs
      rw [if_pos ho]
      constructor
      · intro hx
        simp at hx
        refine ⟨l[k].n.toNat, by omega, hk, ?_, ?_⟩
        · rw [leads1, if_neg h4, if_pos ⟨ho, hst⟩]; omega
        · rw [leads2, if_neg h4, if_pos ⟨ho, hst⟩]; omega
      · rintro ⟨b, rfl, _, h5, h6⟩
        rw [leads1, if_neg h4, if_pos ⟨ho, hst⟩] at h5
        rw [leads2, if_neg h4, if_pos ⟨ho, hst⟩] at h6
        simp
        omega
    · rw [if_neg ho]
      constructor
      · intro hx; cases hx
      · rintro ⟨b, rfl, _, h5, h6⟩
        rw [leads1, if_neg h4, if_neg (fun h => ho h.1)] at h5
        rw [leads2, if_neg h4, if_neg (fun h => ho h.1)] at h6
        omega
theorem leadsL_few {l : List Cel} (h : SlotsOk l) {k : Nat} (hk : k < l.length) : (leadsL k l[k]).length ≤ 7 := by
  unfold leadsL
  by_cases h4 : l[k].k = 4
  · obtain ⟨h1, h2, h3, _⟩ := top_of h hk h4
    rw [if_neg (by simp [onwardB, h4]), if_pos h4]
    simp
    omega
  · rw [if_neg h4]
    split <;> simp
/-- what was seen, and what of it is still to do -/
structure Bfs (l : List Cel) (s : Nat) (seen : List Bool) (row : List Int) : Prop where
  len : seen.length = l.length
  dues : ∀ x ∈ row, ∃ k : Nat, x = k ∧ k < l.length
  met : ∀ k : Nat, seen[k]? = some true → Reach l s k
  next : ∀ k b : Nat, seen[k]? = some true → edge l k b → seen[b]? = some true ∨ (k : Int) ∈ row
  src : seen[s]? = some true
  reach : ∀ k : Nat, (k : Int) ∈ row → Reach l s k
/-- of the first one's ways on some were gone -/
structure BfsGo (l : List Cel) (s k : Nat) (seen : List Bool) (row : List Int) (m : Nat) (hk : k < l.length) : Prop where
  len : seen.length = l.length
  dues : ∀ x ∈ row, ∃ k : Nat, x = k ∧ k < l.length
  met : ∀ k : Nat, seen[k]? = some true → Reach l s k
  next : ∀ j b : Nat, seen[j]? = some true → edge l j b → seen[b]? = some true ∨ (j : Int) ∈ row ∨ (j = k ∧ (b : Int) ∈ (leadsL k l[k]).drop m)
  src : seen[s]? = some true
  reach : ∀ k : Nat, (k : Int) ∈ row → Reach l s k
theorem Bfs.start {l : List Cel} {s : Nat} (hs : s < l.length) : Bfs l s ((List.replicate l.length false).set s true) [(s : Int)] := by
  have hset : ∀ k : Nat, ((List.replicate l.length false).set s true)[k]? = some true → k = s := fun k hk => by
    by_cases e : s = k
    · exact e.symm
    · rw [List.getElem?_set_ne e, List.getElem?_replicate] at hk
      split at hk <;> simp at hk
  refine ⟨by simp, fun x hx => ?_, fun k hk => ?_, fun k b hk e => ?_, by rw [List.getElem?_set_self (by simpa using hs)], fun k hk => ?_⟩
  · simp at hx; exact ⟨s, hx, hs⟩
  · rw [hset k hk]; exact .refl _
  · rw [hset k hk]; exact .inr (by simp)
  · simp at hk
    have : k = s := by omega
    subst this; exact .refl _
theorem Bfs.pop {l : List Cel} {s k : Nat} {seen : List Bool} {row : List Int} (h : Bfs l s seen ((k : Int) :: row)) (ho : SlotsOk l) (hk : k < l.length) : BfsGo l s k seen row 0 hk := by
  refine ⟨h.len, fun x hx => h.dues x (List.mem_cons_of_mem _ hx), h.met, fun j b hj e => ?_, h.src, fun j hj => h.reach j (List.mem_cons_of_mem _ hj)⟩
  rcases h.next j b hj e with h1 | h1
  · exact .inl h1
  · rcases List.mem_cons.1 h1 with h2 | h2
    · have : j = k := by omega
      subst this
      exact .inr (.inr ⟨rfl, by rw [List.drop_zero]; exact (leads_edge ho hk b).2 ⟨b, rfl, e⟩⟩)
    · exact .inr (.inl h2)
theorem BfsGo.skip {l : List Cel} {s k : Nat} {seen : List Bool} {row : List Int} {m b : Nat} {hk : k < l.length} (h : BfsGo l s k seen row m hk) (hm : m < (leadsL k l[k]).length) (e : (leadsL k l[k])[m] = (b : Int)) (hb : seen[b]? = some true) : BfsGo l s k seen row (m + 1) hk := by
  refine ⟨h.len, h.dues, h.met, fun j c hj ec => ?_, h.src, h.reach⟩
  rcases h.next j c hj ec with h1 | h1 | ⟨h1, h2⟩
  · exact .inl h1
  · exact .inr (.inl h1)
  · rw [List.drop_eq_getElem_cons hm, e] at h2
    rcases List.mem_cons.1 h2 with h3 | h3
    · have : c = b := by omega
      subst this; exact .inl hb
    · exact .inr (.inr ⟨h1, h3⟩)
theorem BfsGo.add {l : List Cel} {s k : Nat} {seen : List Bool} {row : List Int} {m b : Nat} {hk : k < l.length} (h : BfsGo l s k seen row m hk) (ho : SlotsOk l) (hm : m < (leadsL k l[k]).length) (e : (leadsL k l[k])[m] = (b : Int)) (hbl : b < l.length) (hks : Reach l s k) : BfsGo l s k (seen.set b true) (row ++ [(b : Int)]) (m + 1) hk := by
  have hbs : b < seen.length := by rw [h.len]; exact hbl
  have hed : edge l k b := by
    obtain ⟨b', e1, e2⟩ := (leads_edge ho hk (b : Int)).1 (by rw [← e]; exact List.getElem_mem hm)
    have : b = b' := by omega
    subst this; exact e2
  have hR : Reach l s b := hks.trans (.one hed)
  have hold : ∀ c : Nat, seen[c]? = some true → (seen.set b true)[c]? = some true := fun c hc => by
    by_cases ec : b = c
    · subst ec; rw [List.getElem?_set_self hbs]
    · rw [List.getElem?_set_ne ec]; exact hc
  refine ⟨by rw [List.length_set]; exact h.len, fun x hx => ?_, fun j hj => ?_, fun j c hj ec => ?_, hold _ h.src, fun j hj => ?_⟩
  · rcases List.mem_append.1 hx with hx | hx
    · exact h.dues x hx
    · simp at hx; exact ⟨b, hx, hbl⟩
  · by_cases ej : b = j
    · subst ej; exact hR
    · rw [List.getElem?_set_ne ej] at hj; exact h.met j hj
  · by_cases ej : b = j
    · subst ej; exact .inr (.inl (by simp))
    · rw [List.getElem?_set_ne ej] at hj
      rcases h.next j c hj ec with h1 | h1 | ⟨h1, h2⟩
      · exact .inl (hold c h1)
      · exact .inr (.inl (List.mem_append_left _ h1))
      · rw [List.drop_eq_getElem_cons hm, e] at h2
        rcases List.mem_cons.1 h2 with h3 | h3
        · have : c = b := by omega
          subst this; exact .inl (List.getElem?_set_self hbs)
        · exact .inr (.inr ⟨h1, h3⟩)
  · rcases List.mem_append.1 hj with hj | hj
    · exact h.reach j hj
    · simp at hj
      have : j = b := by omega
      subst this; exact hR
theorem BfsGo.stop {l : List Cel} {s k : Nat} {seen : List Bool} {row : List Int} {m : Nat} {hk : k < l.length} (h : BfsGo l s k seen row m hk) (hm : (leadsL k l[k]).length ≤ m) : Bfs l s seen row := by
  refine ⟨h.len, h.dues, h.met, fun j b hj e => ?_, h.src, h.reach⟩
  rcases h.next j b hj e with h1 | h1 | ⟨h1, h2⟩
  · exact .inl h1
  · exact .inr h1
  · rw [List.drop_eq_nil_of_le hm] at h2
    cases h2
theorem Bfs.over {l : List Cel} {s : Nat} {seen : List Bool} (h : Bfs l s seen []) (k : Nat) : seen[k]? = some true ↔ Reach l s k := by
  refine ⟨h.met k, fun hr => ?_⟩
  have key : ∀ a c, Reach l a c → seen[a]? = some true → seen[c]? = some true := by
    intro a c hr
    induction hr with
    | refl => exact id
    | step e _ ih =>
      intro ha
      refine ih ?_
      rcases h.next _ _ ha e with h1 | h1
      · exact h1
      · cases h1
  exact key s k hr h.src
end Go.Proofs.Ytefnmjoapmnkbaa
set_option linter.unusedVariables false
namespace Go.Proofs.Ytefnmjoapmnkbaa
open Go.RowKit

/-- append of all of a slice, which tells which block turned and where the row lies -/
theorem wpList_accsW {α : Type} [RepC α] {P : Program} {w : World} {ops : Array Oper} {rest : List Oper} {o : Oper} {a : Act} {Q : Exit → Act → World → Prop} (hgd : o.guard = none) (s x : Operand) (t : TypeId)
    (ho : o.op = .call { callee := .builtin .append, args := #[s, x], argTypes := #[t, t] })
    (B e bytes : Nat) (z : Value) (ht : P.underlying t = some (.slice e)) (hinfo : (P.info? e).map (fun i => (i.zero, i.size, i.bytes)) = some (some z, Rep.sz α, bytes))
    (hzs : z.cells.size = Rep.sz α) (hby : bytes ≤ 1000)
    (v : Value) (acc : List α) (hacc : AccInv B e acc v w) (hs : a.eval s = v) (ad : Addr) (cap : Nat) (ys : List α) (hr : Row (hide v.ownBlock w) (some ad) cap ys)
    (hx : a.eval x = .slice (some ad) ys.length cap)
    (hmax : acc.length + ys.length ≤ 1000000000) (hB : B ≤ w.heap.size)
    (h : ∀ v' w', AccInv B e (acc ++ ys) v' w' → w.grownBy w' v.ownBlock → (v'.ownBlock = v.ownBlock ∨ v'.ownBlock = some w.heap.size) → wpList P ops Q rest (a.put o.dst v') w') : wpList P ops Q (o :: rest) a w := by
  obtain ⟨vs, hown, hc⟩ := hacc.ex
  obtain ⟨us, hu, hsrc⟩ := hr.srcK (hide_keeps _ _)
  obtain ⟨i, hi, hz0, hz1, hz2⟩ := info_parts hinfo
  have hb : (acc.length + ys.length) * bytes ≤ 140737488355328 := Nat.le_trans (Nat.mul_le_mul hmax hby) (by decide)
  refine wpList_plain hgd fun K hK => ?_
  obtain ⟨v', w', hr2, h2, h3, h4⟩ := run_append_where (P := P) w B t o.type e i z (Rep.sz α) bytes ht hi hz0 hz1 hz2 hzs RepC.pos v acc.length vs hown ad ys.length cap us hsrc.len (hsrc.cells ad rfl) hsrc.one (by unfold maxLen; omega) hb hB
  unfold Oper.wp execOp
  simp only [ho, resolve, invoke, builtin, Sem.run_bind, Sem.run_pure, Result.andThen_ok, List.map_toArray, List.map_cons, List.map_nil, hs, hx, hr2]
  refine hK _ _ (h v' w' ⟨vs ++ us, by rw [List.length_append]; exact h2, ?_⟩ h3 h4)
  have hk := hide_next h3 h4
  exact (hc.keeps hk).append (hu.keeps hk)
theorem vk_keeps {W W' : World} {u : Nat} {v v' : Value} (hf : Fr (u :: v.ownBlock.toList) W W') (hn : NewAt W v v') : Keeps (veil (u :: v.ownBlock.toList) W) (veil (u :: v'.ownBlock.toList) W') := by
  intro b o x hc
  have h1 := hf.keeps b o x hc
  obtain ⟨hb, hc'⟩ := veil_cell hc
  have hl := cell_lt hc'
  refine veil_of (fun e => ?_) (veil_cell h1).2
  simp at hb e
  rcases e with e | e
  · exact hb.1 e
  · rcases hn with e2 | ⟨b', e2, hb2⟩
    · rw [e2] at e; exact hb.2 e
    · rw [e] at e2; injection e2 with e2; omega
theorem AccInv.emptyI (w : World) {B : Nat} (hB : B ≤ w.heap.size) : AccInv B 3 ([] : List Int) (.slice (some ⟨w.heap.size, 0, none⟩) 0 0) (w.alloc (.cells #[] 3)) := AccInv.made w hB rfl
def RchPost (w : World) (l : List Cel) (s : Nat) (e : Ending) (w' : World) : Prop :=
  ∃ u seen, e = .returned (.slice (some ⟨u, 0, none⟩) l.length l.length) ∧ RowT w' u seen ∧ seen.length = l.length ∧ (∀ k : Nat, seen[k]? = some true ↔ Reach l s k) ∧ Below w.heap.size w w'
/-- between two rounds of the search -/
structure RG (w W0 : World) (l : List Cel) (s : Nat) (K : Nat) (v : Value) (row : List Int) (seen : List Bool) (W : World) : Prop where
  acc : AccInv (w.heap.size + 2) 3 row v W
  rt : RowT W (w.heap.size + 1) seen
  few : falsesB seen * 2 + row.length ≤ K
  fr : Below (w.heap.size + 1) W0 W
theorem RG.size {w W0 : World} {l : List Cel} {s K : Nat} {v : Value} {row : List Int} {seen : List Bool} {W : World} (h : RG w W0 l s K v row seen W) : w.heap.size + 2 ≤ W.heap.size := h.rt.lt
theorem RG.calm {w W0 : World} {l : List Cel} {s K : Nat} {v : Value} {row : List Int} {seen : List Bool} {W W' : World} (h : RG w W0 l s K v row seen W) (hb : Below W.heap.size W W') : RG w W0 l s K v row seen W' :=
  ⟨h.acc.below hb, h.rt.below hb, h.few, h.fr.trans (hb.mono (by have := h.size; omega))⟩
theorem RG.mono {w W0 : World} {l : List Cel} {s K K' : Nat} {v : Value} {row : List Int} {seen : List Bool} {W : World} (h : RG w W0 l s K v row seen W) (hk : K ≤ K') : RG w W0 l s K' v row seen W := ⟨h.acc, h.rt, Nat.le_trans h.few hk, h.fr⟩
theorem RG.mark {w W0 : World} {l : List Cel} {s K b : Nat} {v : Value} {row : List Int} {seen : List Bool} {W : World} (h : RG w W0 l s K v row seen W) (hb : seen[b]? = some false) :
    RG w W0 l s (K - 2) v row (seen.set b true) (W.setCell ⟨w.heap.size + 1, b, none⟩ (.bool true)) ∧ 2 ≤ K ∧ Fr ((w.heap.size + 1) :: v.ownBlock.toList) W (W.setCell ⟨w.heap.size + 1, b, none⟩ (.bool true)) := by
  have h1 := falsesB_set hb
  have h2 := h.few
  refine ⟨⟨h.acc.keptI (set_grown W (w.heap.size + 1) b (.bool true)) (fun e => by have := (h.acc.lt _ e).1; omega), h.rt.set b true, by omega, h.fr.trans ((Below.refl (w.heap.size + 1) W).setCell (Nat.le_refl (w.heap.size + 1)) _)⟩, by omega, (Fr.refl _ _).set (by simp) _⟩
theorem RG.push {w W0 : World} {l : List Cel} {s K : Nat} {v v' : Value} {row : List Int} {seen : List Bool} {W W' : World} {x : Int} {T : Nat} {cs : Array Value} (h : RG w W0 l s K v row seen W) (ha : AccInv (w.heap.size + 2) 3 (row ++ [x]) v' W') (hg : (W.alloc (.cells cs T)).grownBy W' v.ownBlock) (hw : v'.ownBlock = v.ownBlock ∨ v'.ownBlock = some (W.heap.size + 1)) :
    RG w W0 l s (K + 1) v' (row ++ [x]) seen W' ∧ Fr ((w.heap.size + 1) :: v.ownBlock.toList) W W' ∧ NewAt W v v' := by
  have hz := h.size
  have hf : Fr v.ownBlock.toList W W' := ((Fr.of ((Below.refl W.heap.size W).new (.cells cs T))).trans (grown_fr hg))
  have hvo : ∀ b ∈ v.ownBlock.toList, w.heap.size + 2 ≤ b := fun b hb => by simp at hb; exact (h.acc.lt b hb).1
  refine ⟨⟨ha, h.rt.fr hf (fun e => by have := hvo _ e; omega), ?_, h.fr.trans (hf.below (by omega) (fun b hb => by have := hvo b hb; omega))⟩, hf.sub (fun b hb => List.mem_cons_of_mem _ hb), ?_⟩
  · have := h.few
    simp
    omega
  · rcases hw with e | e
    · exact .inl e
    · exact .inr ⟨_, e, by omega⟩
set_option maxRecDepth 100000 in
set_option maxHeartbeats 16000000 in
theorem refreach_any (a : Option Addr) (cap : Nat) (a' : Option Addr) (n' cap' : Nat) (r : Int) (w : World) (l : List Cel) (hr : Row w a cap l) (hl : l.length ≤ 5000) (ho : SlotsOk l) (s : Nat) (hs : s < l.length) :
    Calls Try.prog 77 #[hv a l.length cap a' n' cap' r, .int .i64 s] w (RchPost w l s) := by
  have hm := hr.max
  have hle := hr.le
  have hms := run_boolsH l.length (by omega)
  have hb2 : Below w.heap.size w (((w.alloc (.cells #[.slice a l.length cap, .slice a' n' cap', .int .i64 r] 25)).alloc (.cells ((Array.replicate l.length (Value.bool false)).setIfInBounds s (Value.bool true)) 4)).alloc (.cells #[.int .i64 s] 3)) := ((Below.refl _ _).new _).new _ |>.new _
  have hM1 : RowT (((w.alloc (.cells #[.slice a l.length cap, .slice a' n' cap', .int .i64 r] 25)).alloc (.cells ((Array.replicate l.length (Value.bool false)).setIfInBounds s (Value.bool true)) 4)).alloc (.cells #[.int .i64 s] 3)) (w.heap.size + 1) ((List.replicate l.length false).set s true) := by
    refine RowT.alloc ?_ _
    unfold RowT
    have h1 := heap_alloc_new (w.alloc (.cells #[.slice a l.length cap, .slice a' n' cap', .int .i64 r] 25)) (.cells ((Array.replicate l.length (Value.bool false)).setIfInBounds s (Value.bool true)) 4)
    rw [World.size_alloc] at h1
    rw [h1]
    congr 2
    apply Array.ext'
    simp [List.map_set]
  have hA0 : AccInv (w.heap.size + 2) 3 [(s : Int)] (.slice (some ⟨w.heap.size + 1 + 1, 0, none⟩) 1 1) (((w.alloc (.cells #[.slice a l.length cap, .slice a' n' cap', .int .i64 r] 25)).alloc (.cells ((Array.replicate l.length (Value.bool false)).setIfInBounds s (Value.bool true)) 4)).alloc (.cells #[.int .i64 s] 3)) := by
    have := AccInv.oneI (B := w.heap.size + 2) ((w.alloc (.cells #[.slice a l.length cap, .slice a' n' cap', .int .i64 r] 25)).alloc (.cells ((Array.replicate l.length (Value.bool false)).setIfInBounds s (Value.bool true)) 4)) (s : Int) (by omega) (by omega) (by simp)
    rwa [World.size_alloc, World.size_alloc] at this
  have e0 : (((w.alloc (.cells #[.slice a l.length cap, .slice a' n' cap', .int .i64 r] 25)).alloc (.cells ((Array.replicate l.length (Value.bool false)).setIfInBounds s (Value.bool true)) 4)).alloc (.cells #[.int .i64 s] 3)).cell? ⟨w.heap.size, 0, none⟩ = some (.slice a l.length cap) := keep (keep (World.cell?_alloc_at _ _ w.heap.size 0 rfl) ((Below.refl _ _).new _)) ((Below.refl _ _).new _)
  have e1 : (((w.alloc (.cells #[.slice a l.length cap, .slice a' n' cap', .int .i64 r] 25)).alloc (.cells ((Array.replicate l.length (Value.bool false)).setIfInBounds s (Value.bool true)) 4)).alloc (.cells #[.int .i64 s] 3)).cell? ⟨w.heap.size, 1, none⟩ = some (.slice a' n' cap') := keep (keep (World.cell?_alloc_at _ _ w.heap.size 1 rfl) ((Below.refl _ _).new _)) ((Below.refl _ _).new _)
  have e2 : (((w.alloc (.cells #[.slice a l.length cap, .slice a' n' cap', .int .i64 r] 25)).alloc (.cells ((Array.replicate l.length (Value.bool false)).setIfInBounds s (Value.bool true)) 4)).alloc (.cells #[.int .i64 s] 3)).cell? ⟨w.heap.size, 2, none⟩ = some (.int .i64 r) := keep (keep (World.cell?_alloc_at _ _ w.heap.size 2 rfl) ((Below.refl _ _).new _)) ((Below.refl _ _).new _)
  have hF0 := falsesB_init l.length
  have hG0 : RG w (((w.alloc (.cells #[.slice a l.length cap, .slice a' n' cap', .int .i64 r] 25)).alloc (.cells ((Array.replicate l.length (Value.bool false)).setIfInBounds s (Value.bool true)) 4)).alloc (.cells #[.int .i64 s] 3)) l s (2 * l.length + 1) (.slice (some ⟨w.heap.size + 1 + 1, 0, none⟩) 1 1) [(s : Int)] ((List.replicate l.length false).set s true) (((w.alloc (.cells #[.slice a l.length cap, .slice a' n' cap', .int .i64 r] 25)).alloc (.cells ((Array.replicate l.length (Value.bool false)).setIfInBounds s (Value.bool true)) 4)).alloc (.cells #[.int .i64 s] 3)) := by
    refine ⟨hA0, hM1, ?_, Below.refl _ _⟩
    have := falsesB_set (st := List.replicate l.length false) (k := s) (by rw [List.getElem?_replicate, if_pos hs])
    simp
    omega
  have HG0 := mkHid hG0
  have HB2 := mkHid hb2
  have HR := mkHid hr
  have HO := mkHid ho
  have hsi : (0 : Int) ≤ (s : Int) := by omega
  have hsi2 : (s : Int) < (l.length : Int) := by omega
  clear hM1 hA0 hG0 hb2 hr hF0 ho
  go_enter Try.func77, Try.ntmps77
  go_wp2_with fail
  obtain ⟨W0, hW0⟩ : ∃ W0, (((w.alloc (.cells #[.slice a l.length cap, .slice a' n' cap', .int .i64 r] 25)).alloc (.cells ((Array.replicate l.length (Value.bool false)).setIfInBounds s (Value.bool true)) 4)).alloc (.cells #[.int .i64 s] 3)) = W0 := ⟨_, rfl⟩
  rw [hW0] at e0 e1 e2 HB2 HG0 ⊢
  clear hW0
  go_loopg [6, 7, 8] (2 * l.length + 1) (fun kk v x7 x8 wr => ∃ (av : Option Addr) (cv n : Nat) (row : List Int) (seen : List Bool), v = .slice av n cv ∧ Hid (n = row.length) ∧ kk ≤ 2 * l.length + 1 ∧ Hid (RG w W0 l s kk (.slice av n cv) row seen wr) ∧ Hid (Bfs l s seen row))
  case atStart => exact ⟨_, _, _, [(s : Int)], (List.replicate l.length false).set s true, rfl, rfl, Nat.le_refl _, HG0, Bfs.start hs⟩
  case round =>
    obtain ⟨av, cv, n, row, seen, rfl, HN, hkk, HG, HBF⟩ := hrel
    have f0 := (HG.out.fr.cell (p := ⟨w.heap.size, 0, none⟩) (by simp)).trans e0
    have f1 := (HG.out.fr.cell (p := ⟨w.heap.size, 1, none⟩) (by simp)).trans e1
    have f2 := (HG.out.fr.cell (p := ⟨w.heap.size, 2, none⟩) (by simp)).trans e2
    have HBW : Hid (Below w.heap.size w wr) := HB2.out.trans (HG.out.fr.mono (by omega))
    cases row with
    | nil =>
      obtain rfl : n = 0 := HN.out
      go_wp2_with fail
      go_ret
      exact ⟨w.heap.size + 1, seen, rfl, HG.out.rt, HBF.out.len, fun k => HBF.out.over k, HBW.out⟩
    | cons y row =>
      obtain ⟨k, e, hk⟩ := HBF.out.dues y List.mem_cons_self
      subst e
      have HKS := mkHid (HBF.out.reach k List.mem_cons_self)
      have HBG := mkHid (HBF.out.pop HO.out hk)
      obtain rfl : n = row.length + 1 := HN.out
      obtain ⟨g, gc, e9, hfz, hcs⟩ := HG.out.acc.atI (by simp)
      rw [List.length_cons] at e9
      cases e9
      have c0 := hcs 0 (by simp)
      simp only [List.getElem_cons_zero] at c0
      obtain ⟨_, _, e8, hrow⟩ := HG.out.acc.row
      rw [List.length_cons] at e8
      cases e8
      have hrl := hrow.le
      have hrm := hrow.max
      rw [List.length_cons] at hrl
      have HROW := mkHid hrow
      have HFW := mkHid HG.out.few
      have hrl2 : row.length ≤ 20000 := by have := HFW.out; rw [List.length_cons] at this; omega
      have HGd := mkHid (HG.out.calm (Below.refl wr.heap.size wr).drew)
      have HLE := fun (w1 : World) (hb : Below wr.heap.size wr w1) => refleads_new a cap a' n' cap' r w1 l k ((HR.out.below HBW.out).below hb) hk (by omega) (fun h4 => by have := (top_of HO.out hk h4).2.1; omega)
      have HLE := mkHid HLE
      have HLF := mkHid (leadsL_few HO.out hk)
      clear hcs hfz hrow HBF
      go_wp2_with fail
      go_region_held3 (fun w' => w'.cell? ⟨w.heap.size, 0, none⟩ = some (.slice a l.length cap) ∧ w'.cell? ⟨w.heap.size, 1, none⟩ = some (.slice a' n' cap') ∧ w'.cell? ⟨w.heap.size, 2, none⟩ = some (.int .i64 r) ∧ w'.cell? ⟨g, 0, none⟩ = some (.int .i64 k))
        (first
          | exact ⟨f0, f1, f2, c0⟩
          | exact ⟨keep (w := wr.drew) f0 hb3, keep (w := wr.drew) f1 hb3, keep (w := wr.drew) f2 hb3, keep (w := wr.drew) c0 hb3⟩)
        (first
          | (go_at_call 107; refine (HLE.out wr.drew (Below.refl _ _).drew).mono ?_; rintro e w3 ⟨a3, c3, rfl, hnew, hb3⟩))
      have HG3 := mkHid (HGd.out.calm hb3)
      have hz3 := HG3.out.size
      have hgk : Hid (1 ≤ gk) := by have := HFW.out; rw [List.length_cons] at this; rw [Hid]; omega
      obtain ⟨L, hL⟩ : ∃ L, L = leadsL k l[k] := ⟨_, rfl⟩
      rw [← hL] at hnew HLF ⊢
      have HLL := mkHid hL
      have HNW := mkHid hnew
      have hlm := hnew.row.max
      have hll := hnew.row.le
      have HROW3 := mkHid ((HROW.out.below (Below.refl wr.heap.size wr).drew).below hb3)
      have HB3 := mkHid ((Below.refl wr.heap.size wr).drew.trans hb3)
      have HWZ := mkHid HG.out.size
      have HWZ3 : Hid (wr.heap.size ≤ w3.heap.size) := hb3.size
      have HFEW3 : Hid (falsesB seen * 2 + row.length ≤ gk - 1) := by have := HFW.out; rw [List.length_cons] at this; rw [Hid]; omega
      clear hL hnew hb3 f0 f1 f2 c0 HLE HGd
      rename_i hHeld
      clear hHeld
      have key : ∀ (ad : Addr) (cp : Nat), Row (hide (some w3.heap.size) (w3.alloc (.cells #[] 3))) (some ad) cp row → True := fun _ _ _ => trivial
      clear key
      have HAL : Hid (∀ v' w4, AccInv (w.heap.size + 2) 3 row v' w4 → (w3.alloc (.cells #[] 3)).grownBy w4 (some w3.heap.size) → (v'.ownBlock = some w3.heap.size ∨ v'.ownBlock = some (w3.heap.size + 1)) →
          RG w W0 l s (gk - 1) v' row seen w4 ∧ Row (veil ((w.heap.size + 1) :: v'.ownBlock.toList) w4) a3 c3 L) := fun v' w4 ha hg hw => by
        have hold : ∀ b, b < w3.heap.size → w4.heap[b]? = w3.heap[b]? := fun b hb => (hg.block b (by simp; omega) (fun e => by injection e with e; omega)).trans (heap_alloc_old w3 _ hb)
        have hwb : Below w3.heap.size w3 w4 := ⟨hg.os, hg.tape, hg.output, by have := hg.size; simp at this; omega, hold⟩
        refine ⟨⟨ha, HG3.out.rt.below hwb, HFEW3.out, HG3.out.fr.trans (hwb.mono (by have := HG3.out.size; omega))⟩, Row.keeps HNW.out ?_⟩
        intro b o x hc
        obtain ⟨h1, h2⟩ := under_cell hc
        have hl2 := cell_lt h2
        have h3 : wr.heap.size ≤ b := h1
        refine veil_of (fun e => ?_) ((World.cell?_of_block (a := ⟨b, o, none⟩) (hold b hl2)).trans h2)
        simp at e
        rcases e with e | e
        · have := HWZ.out; omega
        · rcases hw with e2 | e2
          · rw [e] at e2; injection e2 with e2; omega
          · rw [e] at e2; injection e2 with e2; omega
      have HSR : Hid (∀ {sa : Option Addr} {cp : Nat}, Row w3 sa cp row → Row (hide (some w3.heap.size) (w3.alloc (.cells #[] 3))) sa cp row) := fun h => h.keeps (fresh_keeps (Keeps.of ((Below.refl _ _).new _)) (Nat.le_refl _))
      have HEM := mkHid (AccInv.emptyI w3 (B := w.heap.size + 2) (by omega))
      by_cases hc1 : cv = 1
      · have hrn : row = [] := List.eq_nil_of_length_eq_zero (by omega)
        have HR1 : Hid (Row (hide (some w3.heap.size) (w3.alloc (.cells #[] 3))) (some ⟨g, 0, none⟩) 0 ([] : List Int)) := Row.empty _ _ _ (by omega) (fun e => by cases e)
        subst hc1
        have HRN := mkHid hrn
        clear hrn
        go_wp2_with (at_builtin; refine wpList_accsW (α := Int) rfl _ _ 23 rfl (w.heap.size + 2) 3 8 _ Try.underlying23 Try.infoInt rfl (by decide) (.slice (some ⟨w3.heap.size, 0, none⟩) 0 0) [] HEM.out (by rfl) ⟨g, 0, none⟩ 0 [] HR1.out (by rfl) (by simp) (by simp; omega) ?_; intro v' w4 ha hg hw; obtain ⟨hG4, hL4⟩ := HAL.out v' w4 (by rw [HRN.out]; exact ha) hg (by rw [World.size_alloc] at hw; exact hw); obtain ⟨a5, c5, rfl, _⟩ := hG4.acc.row; have HG4 := mkHid hG4; have HL4 := mkHid hL4; clear ha hg hw hG4 hL4)
        go_wp2_with fail
        go_loopw [6, 8] (fun v i wz => ∃ (m : Nat) (av : Option Addr) (cv n : Nat) (row : List Int) (seen : List Bool), i = .int .i64 m ∧ m ≤ L.length ∧ v = .slice av n cv ∧ Hid (n = row.length) ∧ Hid (RG w W0 l s (gk - 1) (.slice av n cv) row seen wz) ∧ Hid (BfsGo l s k seen row m hk) ∧ Hid (Row (veil ((w.heap.size + 1) :: (Value.slice av n cv).ownBlock.toList) wz) a3 c3 L)) (fun v i wz => L.length - (intOf i).toNat)
        case atStart => exact ⟨0, _, _, _, row, seen, rfl, Nat.zero_le _, rfl, rfl, HG4, HBG, HL4⟩
        case round =>
          clear HG4 HL4 HBG HR1 HEM HSR HAL HROW3 HROW
          obtain ⟨m, av, cv, n, row, seen, rfl, hml, rfl, HN, HG, HBG, HLR⟩ := hrel
          by_cases hlt : m < L.length
          · have HME : Hid (∃ b : Nat, L[m] = b ∧ edge l k b) := (leads_edge HO.out hk L[m]).1 (by rw [← HLL.out]; exact List.getElem_mem hlt)
            obtain ⟨x, hx, hed⟩ := HME.out
            have hxl := hed.lt.2
            have hlm2 : m < (leadsL k l[k]).length := by rw [← HLL.out]; exact hlt
            have HLM : Hid ((leadsL k l[k])[m]'hlm2 = (x : Int)) := by
              rw [Hid, ← hx]
              congr 1
              exact HLL.out.symm
            obtain ⟨bL, oL, rfl, hbL, hatL⟩ := (HLR.out.keeps (veil_keeps _ _)).cases.resolve_left (fun e => by simp [e] at hlt)
            obtain ⟨d0, _, _⟩ := int_at hatL (Below.refl _ _) hlt
            rw [hx] at d0
            have hxs : x < seen.length := by rw [HBG.out.len]; exact hxl
            have r0 := HG.out.rt.read hxs
            have z0 := HG.out.rt.free x
            have HSX : Hid (seen[x]? = some seen[x]) := List.getElem?_eq_getElem hxs
            have hxi : (0 : Int) ≤ (x : Int) := by omega
            have hxi2 : (x : Int) < (l.length : Int) := by omega
            have hsz9 := HG.out.size
            have hfew9 := HG.out.few
            have hrl9 : row.length ≤ 20000 := by omega
            clear hatL hx hed HME hfew9
            generalize seen[x] = sx at *
            cases sx with
            | true =>
              have HB' := mkHid (HBG.out.skip hlm2 HLM.out HSX.out)
              go_wp2_with fail
              go_round
              case rel => exact ⟨m + 1, _, _, _, row, seen, by go_num, by omega, rfl, HN, HG, HB', HLR⟩
              case measure => simp [intOf]; omega
            | false =>
              have HB' := mkHid (HBG.out.add HO.out hlm2 HLM.out hxl HKS.out)
              obtain ⟨hG5, hK2, hF5⟩ := HG.out.mark HSX.out
              have HLR5 : Hid (Row (veil ((w.heap.size + 1) :: (Value.slice av n cv).ownBlock.toList) (wr.setCell ⟨w.heap.size + 1, x, none⟩ (.bool true))) (some ⟨bL, oL, none⟩) c3 L) := HLR.out.keeps (vk_keeps hF5 (.inl rfl))
              have HG5 := mkHid hG5
              have HK2 := mkHid hK2
              have d0' : (wr.setCell ⟨w.heap.size + 1, x, none⟩ (.bool true)).cell? ⟨bL, oL + m, none⟩ = some (.int .i64 x) := by
                have hbu : bL ≠ w.heap.size + 1 := by
                  obtain ⟨_, _, e, hE⟩ := HLR.out.at_ m _ (List.getElem?_eq_getElem hlt)
                  cases e
                  exact fun h => (veil_cell hE.c).1 (by simp [h])
                exact (World.cell?_of_block (a := ⟨bL, oL + m, none⟩) (Below.heap_setCell wr ⟨w.heap.size + 1, x, none⟩ _ bL hbu)).trans d0
              have hse : Hid ((wr.setCell ⟨w.heap.size + 1, x, none⟩ (.bool true)).heap.size = wr.heap.size) := by rw [Hid]; simp [World.setCell]
              have HNL : Hid (row.length = n) := HN.out.symm
              clear hG5 hK2 hF5
              go_wp2_with (at_builtin; refine wpList_accW (α := Int) rfl _ _ 23 rfl (w.heap.size + 2) 3 8 _ Try.underlying23 Try.infoInt rfl (by decide) _ row HG5.out.acc (by rfl) _ #[.int .i64 x] (x : Int) ⟨rfl, by omega, by omega⟩ (by rw [hse.out]; rfl) (by omega) HG5.out.size ?_; intro v' w6 ha hg hw; obtain ⟨hG6, hF6, hN6⟩ := HG5.out.push ha hg hw; obtain ⟨a6, c6, e6, _⟩ := hG6.acc.row; rw [show (row ++ [(x : Int)]).length = row.length + 1 by simp] at e6; subst e6; have HLR6 := mkHid (HLR5.out.keeps (vk_keeps hF6 hN6)); have HG6 := mkHid (hG6.mono (K' := gk - 1) (by have := HK2.out; omega)); clear ha hg hw hG6 hF6 hN6)
              go_round
              case rel => exact ⟨m + 1, a6, c6, _, row ++ [(x : Int)], seen.set x true, by go_num, by omega, rfl, (show _ = _ by simp), HG6, HB', HLR6⟩
              case measure => simp [intOf]; omega
          · have HST := mkHid (HBG.out.stop (by rw [← HLL.out]; omega))
            go_wp2_with fail
            go_roundg (gk - 1)
            case measure => have := hgk.out; omega
            case rel => exact ⟨av, cv, n, row, seen, rfl, HN, by omega, HG, HST⟩
      · have HR1 : Hid (Row (hide (some w3.heap.size) (w3.alloc (.cells #[] 3))) (some ⟨g, 1, none⟩) (cv - 1) row) := by
          have := HROW3.out.dropI (q := 1) (by simp)
          simp only [List.drop_one, List.tail_cons, Option.map_some] at this
          exact HSR.out this
        have hcn : 1 < cv := by omega
        go_wp2_with (at_builtin; refine wpList_accsW (α := Int) rfl _ _ 23 rfl (w.heap.size + 2) 3 8 _ Try.underlying23 Try.infoInt rfl (by decide) (.slice (some ⟨w3.heap.size, 0, none⟩) 0 0) [] HEM.out (by rfl) ⟨g, 1, none⟩ (cv - 1) row HR1.out (by rfl) (by simp; omega) (by simp; omega) ?_; intro v' w4 ha hg hw; obtain ⟨hG4, hL4⟩ := HAL.out v' w4 ha hg (by rw [World.size_alloc] at hw; exact hw); obtain ⟨a5, c5, rfl, _⟩ := hG4.acc.row; have HG4 := mkHid hG4; have HL4 := mkHid hL4; clear ha hg hw hG4 hL4)
        go_wp2_with fail
        go_loopw [6, 8] (fun v i wz => ∃ (m : Nat) (av : Option Addr) (cv n : Nat) (row : List Int) (seen : List Bool), i = .int .i64 m ∧ m ≤ L.length ∧ v = .slice av n cv ∧ Hid (n = row.length) ∧ Hid (RG w W0 l s (gk - 1) (.slice av n cv) row seen wz) ∧ Hid (BfsGo l s k seen row m hk) ∧ Hid (Row (veil ((w.heap.size + 1) :: (Value.slice av n cv).ownBlock.toList) wz) a3 c3 L)) (fun v i wz => L.length - (intOf i).toNat)
        case atStart => exact ⟨0, _, _, _, row, seen, rfl, Nat.zero_le _, rfl, rfl, HG4, HBG, HL4⟩
        case round =>
          clear HG4 HL4 HBG HR1 HEM HSR HAL HROW3 HROW
          obtain ⟨m, av, cv, n, row, seen, rfl, hml, rfl, HN, HG, HBG, HLR⟩ := hrel
          by_cases hlt : m < L.length
          · have HME : Hid (∃ b : Nat, L[m] = b ∧ edge l k b) := (leads_edge HO.out hk L[m]).1 (by rw [← HLL.out]; exact List.getElem_mem hlt)
            obtain ⟨x, hx, hed⟩ := HME.out
            have hxl := hed.lt.2
            have hlm2 : m < (leadsL k l[k]).length := by rw [← HLL.out]; exact hlt
            have HLM : Hid ((leadsL k l[k])[m]'hlm2 = (x : Int)) := by
              rw [Hid, ← hx]
              congr 1
              exact HLL.out.symm
            obtain ⟨bL, oL, rfl, hbL, hatL⟩ := (HLR.out.keeps (veil_keeps _ _)).cases.resolve_left (fun e => by simp [e] at hlt)
            obtain ⟨d0, _, _⟩ := int_at hatL (Below.refl _ _) hlt
            rw [hx] at d0
            have hxs : x < seen.length := by rw [HBG.out.len]; exact hxl
            have r0 := HG.out.rt.read hxs
            have z0 := HG.out.rt.free x
            have HSX : Hid (seen[x]? = some seen[x]) := List.getElem?_eq_getElem hxs
            have hxi : (0 : Int) ≤ (x : Int) := by omega
            have hxi2 : (x : Int) < (l.length : Int) := by omega
            have hsz9 := HG.out.size
            have hfew9 := HG.out.few
            have hrl9 : row.length ≤ 20000 := by omega
            clear hatL hx hed HME hfew9
            generalize seen[x] = sx at *
            cases sx with
            | true =>
              have HB' := mkHid (HBG.out.skip hlm2 HLM.out HSX.out)
              go_wp2_with fail
              go_round
              case rel => exact ⟨m + 1, _, _, _, row, seen, by go_num, by omega, rfl, HN, HG, HB', HLR⟩
              case measure => simp [intOf]; omega
            | false =>
              have HB' := mkHid (HBG.out.add HO.out hlm2 HLM.out hxl HKS.out)
              obtain ⟨hG5, hK2, hF5⟩ := HG.out.mark HSX.out
              have HLR5 : Hid (Row (veil ((w.heap.size + 1) :: (Value.slice av n cv).ownBlock.toList) (wr.setCell ⟨w.heap.size + 1, x, none⟩ (.bool true))) (some ⟨bL, oL, none⟩) c3 L) := HLR.out.keeps (vk_keeps hF5 (.inl rfl))
              have HG5 := mkHid hG5
              have HK2 := mkHid hK2
              have d0' : (wr.setCell ⟨w.heap.size + 1, x, none⟩ (.bool true)).cell? ⟨bL, oL + m, none⟩ = some (.int .i64 x) := by
                have hbu : bL ≠ w.heap.size + 1 := by
                  obtain ⟨_, _, e, hE⟩ := HLR.out.at_ m _ (List.getElem?_eq_getElem hlt)
                  cases e
                  exact fun h => (veil_cell hE.c).1 (by simp [h])
                exact (World.cell?_of_block (a := ⟨bL, oL + m, none⟩) (Below.heap_setCell wr ⟨w.heap.size + 1, x, none⟩ _ bL hbu)).trans d0
              have hse : Hid ((wr.setCell ⟨w.heap.size + 1, x, none⟩ (.bool true)).heap.size = wr.heap.size) := by rw [Hid]; simp [World.setCell]
              have HNL : Hid (row.length = n) := HN.out.symm
              clear hG5 hK2 hF5
              go_wp2_with (at_builtin; refine wpList_accW (α := Int) rfl _ _ 23 rfl (w.heap.size + 2) 3 8 _ Try.underlying23 Try.infoInt rfl (by decide) _ row HG5.out.acc (by rfl) _ #[.int .i64 x] (x : Int) ⟨rfl, by omega, by omega⟩ (by rw [hse.out]; rfl) (by omega) HG5.out.size ?_; intro v' w6 ha hg hw; obtain ⟨hG6, hF6, hN6⟩ := HG5.out.push ha hg hw; obtain ⟨a6, c6, e6, _⟩ := hG6.acc.row; rw [show (row ++ [(x : Int)]).length = row.length + 1 by simp] at e6; subst e6; have HLR6 := mkHid (HLR5.out.keeps (vk_keeps hF6 hN6)); have HG6 := mkHid (hG6.mono (K' := gk - 1) (by have := HK2.out; omega)); clear ha hg hw hG6 hF6 hN6)
              go_round
              case rel => exact ⟨m + 1, a6, c6, _, row ++ [(x : Int)], seen.set x true, by go_num, by omega, rfl, (show _ = _ by simp), HG6, HB', HLR6⟩
              case measure => simp [intOf]; omega
          · have HST := mkHid (HBG.out.stop (by rw [← HLL.out]; omega))
            go_wp2_with fail
            go_roundg (gk - 1)
            case measure => have := hgk.out; omega
            case rel => exact ⟨av, cv, n, row, seen, rfl, HN, by omega, HG, HST⟩
end Go.Proofs.Ytefnmjoapmnkbaa
set_option linter.unusedVariables false
namespace Go.Proofs.Ytefnmjoapmnkbaa
open Go.RowKit

theorem cdecH {p : Prop} : @decide p (Classical.propDecidable p) = true ↔ p := @decide_eq_true_iff p (Classical.propDecidable p)
def RndPost (w : World) (l : List Cel) (e : Ending) (w' : World) : Prop := (∃ b, e = .returned (.bool b) ∧ (b = true ↔ ¬ Acyc l)) ∧ Below w.heap.size w w'
/-- without a circle each way ends -/
theorem acyc_of_no {l : List Cel} (h : ∀ k, ¬ Path l k k) : Acyc l := by
  refine acyc_of_rank (fun k => ((List.range l.length).filter (fun x => @decide (Path l k x) (Classical.propDecidable _))).length) fun a b e => ?_
  refine filter_ltH _ _ _ (fun x _ hx => ?_) ⟨b, List.mem_range.2 e.lt.2, cdecH.2 (.one e), ?_⟩
  · rw [cdecH] at hx ⊢
    exact ⟨b, e, hx.reach⟩
  · cases hq : @decide (Path l b b) (Classical.propDecidable _) with
    | false => rfl
    | true => exact absurd (cdecH.1 hq) (h b)
set_option maxRecDepth 100000 in
set_option maxHeartbeats 6400000 in
theorem refround_any (a : Option Addr) (cap : Nat) (a' : Option Addr) (n' cap' : Nat) (r : Int) (w : World) (l : List Cel) (hr : Row w a cap l) (hl : l.length ≤ 5000) (ho : SlotsOk l) :
    Calls Try.prog 56 #[hv a l.length cap a' n' cap' r] w (RndPost w l) := by
  have hm := hr.max
  have hle := hr.le
  have hb1 := (Below.refl w.heap.size w).new (.cells #[.slice a l.length cap, .slice a' n' cap', .int .i64 r] 25)
  have e0 : (w.alloc (.cells #[.slice a l.length cap, .slice a' n' cap', .int .i64 r] 25)).cell? ⟨w.heap.size, 0, none⟩ = some (.slice a l.length cap) := World.cell?_alloc_at _ _ w.heap.size 0 rfl
  have e1 : (w.alloc (.cells #[.slice a l.length cap, .slice a' n' cap', .int .i64 r] 25)).cell? ⟨w.heap.size, 1, none⟩ = some (.slice a' n' cap') := World.cell?_alloc_at _ _ w.heap.size 1 rfl
  have e2 : (w.alloc (.cells #[.slice a l.length cap, .slice a' n' cap', .int .i64 r] 25)).cell? ⟨w.heap.size, 2, none⟩ = some (.int .i64 r) := World.cell?_alloc_at _ _ w.heap.size 2 rfl
  have HR := mkHid hr
  have HO := mkHid ho
  clear hr ho
  go_enter Try.func56, Try.ntmps56
  go_wp2_with fail
  obtain ⟨W, hW⟩ : ∃ W, (w.alloc (.cells #[.slice a l.length cap, .slice a' n' cap', .int .i64 r] 25)) = W := ⟨_, rfl⟩
  rw [hW] at hb1 e0 e1 e2 ⊢
  clear hW
  go_loopw [3, 4, 5] (fun v x y wr => ∃ i : Nat, v = .int .i64 i ∧ i ≤ l.length ∧ Hid (∀ j : Nat, j < i → ¬ Path l j j) ∧ Hid (Below W.heap.size W wr)) (fun v x y wr => l.length - (intOf v).toNat)
  case atStart => exact ⟨0, rfl, Nat.zero_le _, fun j hj => by omega, Below.refl _ _⟩
  case round =>
    obtain ⟨i, rfl, hi, HNP, HB⟩ := hrel
    have f0 := keep e0 HB.out
    have f1 := keep e1 HB.out
    have f2 := keep e2 HB.out
    have HBW := mkHid (hb1.then HB.out)
    by_cases hlt : i < l.length
    · have HLE := mkHid (refleads_new a cap a' n' cap' r _ l i (HR.out.below HBW.out) hlt (by omega) (fun h4 => by have := (top_of HO.out hlt h4).2.1; omega))
      go_wp2_with fail
      refine HLE.out.mono ?_
      rintro e w1 ⟨a3, c3, rfl, hnew, hbl⟩
      obtain ⟨L, hL⟩ : ∃ L, L = leadsL i l[i] := ⟨_, rfl⟩
      rw [← hL] at hnew ⊢
      have HLL := mkHid hL
      have HLR := mkHid hnew.row
      have hlm := hnew.row.max
      have hll := hnew.row.le
      have HB1 := mkHid (HB.out.then hbl)
      clear hL hnew hbl HLE f0 f1 f2
      have hii : (0 : Int) ≤ (i : Int) := by omega
      have hii2 : (i : Int) < (l.length : Int) := by omega
      go_wp2_with fail
      go_loopw [5] (fun v wz => ∃ m : Nat, v = .int .i64 m ∧ m ≤ L.length ∧ Hid (∀ (j : Nat) (hj : j < L.length), j < m → ∀ b : Nat, L[j] = b → ¬ Reach l b i) ∧ Hid (Below w1.heap.size w1 wz)) (fun v wz => L.length - (intOf v).toNat)
      case atStart => exact ⟨0, rfl, Nat.zero_le _, fun j _ hj => by omega, Below.refl _ _⟩
      case round =>
        obtain ⟨m, rfl, hml, HNR, HB2⟩ := hrel
        have HB3 := mkHid (HB1.out.then HB2.out)
        have g0 := keep e0 HB3.out
        have g1 := keep e1 HB3.out
        have g2 := keep e2 HB3.out
        by_cases hlt2 : m < L.length
        · have HME : Hid (∃ b : Nat, L[m] = b ∧ edge l i b) := (leads_edge HO.out hlt L[m]).1 (by rw [← HLL.out]; exact List.getElem_mem hlt2)
          obtain ⟨x, hx, hed⟩ := HME.out
          have hxl := hed.lt.2
          have HED := mkHid hed
          obtain ⟨bL, oL, rfl, hbL, hatL⟩ := (HLR.out.below HB2.out).cases.resolve_left (fun e => by simp [e] at hlt2)
          obtain ⟨d0, _, _⟩ := int_at hatL (Below.refl _ _) hlt2
          have HNX : Hid (¬ Reach l x i → ∀ (j : Nat) (hj : j < L.length), j < m + 1 → ∀ b : Nat, L[j] = b → ¬ Reach l b i) := fun h j hj hj2 b hb => by
            by_cases e : j = m
            · subst e
              rw [hx] at hb
              have : x = b := by omega
              subst this; exact h
            · exact HNR.out j hj (by omega) b hb
          rw [hx] at d0
          have HRC := fun (w2 : World) (hb : Below wr.heap.size wr w2) => refreach_any a cap a' n' cap' r w2 l ((HR.out.below (hb1.then HB3.out)).below hb) hl HO.out x hxl
          have HRC := mkHid HRC
          clear hatL hx hed HME
          go_wp2_with fail
          have HS1 : Hid ((fun w' : World => w'.cell? ⟨w.heap.size, 0, none⟩ = some (.slice a l.length cap) ∧ w'.cell? ⟨w.heap.size, 1, none⟩ = some (.slice a' n' cap') ∧ w'.cell? ⟨w.heap.size, 2, none⟩ = some (.int .i64 r) ∧ w'.cell? ⟨bL, oL + m, none⟩ = some (.int .i64 x)) wr.drew) := ⟨g0, g1, g2, d0⟩
          have hs1h := HS1.out
          refine wp_region_noPanic ?_
          refine wp_region_held_drew (S := (fun w' : World => w'.cell? ⟨w.heap.size, 0, none⟩ = some (.slice a l.length cap) ∧ w'.cell? ⟨w.heap.size, 1, none⟩ = some (.slice a' n' cap') ∧ w'.cell? ⟨w.heap.size, 2, none⟩ = some (.int .i64 r) ∧ w'.cell? ⟨bL, oL + m, none⟩ = some (.int .i64 x))) (by kernel_rfl) (hs1h) (fun hSd => ?_)
          clear hs1h
          refine wpAnyH_take (i := 0) (oi := _) (v := ?_) rfl (by kernel_rfl) (by kernel_rfl) (by kernel_rfl) (fun _ _ _ h => h) (Or.inl ⟨by rfl, ?_⟩) (by assumption) ?_
          rotate_left
          · (intro w' hSw; (try dsimp only at hSw); go_simp; try with_reducible rfl)
          (try simp only [Act.put, List.setIfInBounds_toArray, List.set_cons_zero, List.set_cons_succ])
          refine wpAnyH_take (i := 1) (oi := _) (v := ?_) rfl (by kernel_rfl) (by kernel_rfl) (by kernel_rfl) (fun _ _ _ h => h) (Or.inl ⟨by rfl, ?_⟩) (by assumption) ?_
          rotate_left
          · (intro w' hSw; (try dsimp only at hSw); go_simp; try with_reducible rfl)
          (try simp only [Act.put, List.setIfInBounds_toArray, List.set_cons_zero, List.set_cons_succ])
          refine wpAnyH_take (i := 2) (oi := _) (v := ?_) rfl (by kernel_rfl) (by kernel_rfl) (by kernel_rfl) (fun _ _ _ h => h) (Or.inl ⟨by rfl, ?_⟩) (by assumption) ?_
          rotate_left
          · (intro w' hSw; (try dsimp only at hSw); go_simp; try with_reducible rfl)
          (try simp only [Act.put, List.setIfInBounds_toArray, List.set_cons_zero, List.set_cons_succ])
          refine wpAnyH_take (i := 3) (oi := _) (v := ?_) rfl (by kernel_rfl) (by kernel_rfl) (by kernel_rfl) (fun _ _ _ h => h) (Or.inl ⟨by rfl, ?_⟩) (by assumption) ?_
          rotate_left
          · (intro w' hSw; (try dsimp only at hSw); go_simp; try with_reducible rfl)
          (try simp only [Act.put, List.setIfInBounds_toArray, List.set_cons_zero, List.set_cons_succ])
          refine wpAnyH_take (i := 4) (oi := _) (v := ?_) rfl (by kernel_rfl) (by kernel_rfl) (by kernel_rfl) (fun _ _ _ h => h) (Or.inl ⟨by rfl, ?_⟩) (by assumption) ?_
          rotate_left
          · (intro w' hSw; (try dsimp only at hSw); go_simp; try with_reducible rfl)
          (try simp only [Act.put, List.setIfInBounds_toArray, List.set_cons_zero, List.set_cons_succ])
          refine wpAnyH_take (i := 6) (oi := _) (v := ?_) rfl (by kernel_rfl) (by kernel_rfl) (by kernel_rfl) (fun _ _ _ h => h) (Or.inl ⟨by rfl, ?_⟩) (by assumption) ?_
          rotate_left
          · (intro w' hSw; (try dsimp only at hSw); go_simp; try with_reducible rfl)
          (try simp only [Act.put, List.setIfInBounds_toArray, List.set_cons_zero, List.set_cons_succ])
          refine wpAnyH_ready (rs := [5]) (by kernel_rfl) (by simp) ?_
          refine AllReadyH.cons (o := _) rfl (fun K hK => ?_) AllReadyH.nil
          go_simp
          refine (HRC.out wr.drew (Below.refl _ _).drew).mono ?_
          rintro e w5 ⟨u5, seen, rfl, hrt, hsl, hsr, hb5⟩
          have hkk : i < seen.length := by rw [hsl]; exact hlt
          have r5 := hrt.read hkk
          have HSR := mkHid (hsr i)
          have HSE : Hid (seen[i]? = some seen[i]) := List.getElem?_eq_getElem hkk
          have HBX := mkHid ((Below.refl wr.heap.size wr).drew.trans hb5)
          have hSL : ¬ seen.length ≤ i := by omega
          have HS2 : Hid ((fun w' : World => w'.cell? ⟨w.heap.size, 0, none⟩ = some (.slice a l.length cap) ∧ w'.cell? ⟨w.heap.size, 1, none⟩ = some (.slice a' n' cap') ∧ w'.cell? ⟨w.heap.size, 2, none⟩ = some (.int .i64 r) ∧ w'.cell? ⟨bL, oL + m, none⟩ = some (.int .i64 x)) w5) := ⟨keep (w := wr.drew) g0 hb5, keep (w := wr.drew) g1 hb5, keep (w := wr.drew) g2 hb5, keep (w := wr.drew) d0 hb5⟩
          generalize seen[i] = sx at *
          clear hrt hsl hsr hb5
          refine hK.out _ _ HS2.out (fun hS3 => ?_)
          clear hK K
          (try simp only [Act.put, List.setIfInBounds_toArray, List.set_cons_zero, List.set_cons_succ])
          refine wpAnyH_take (i := 7) (oi := _) (v := ?_) rfl (by kernel_rfl) (by kernel_rfl) (by kernel_rfl) (fun _ _ _ h => h) (Or.inl ⟨by rfl, ?_⟩) (by assumption) ?_
          rotate_left
          · (intro w' hSw; (try dsimp only at hSw); go_simp; try with_reducible rfl)
          (try simp only [Act.put, List.setIfInBounds_toArray, List.set_cons_zero, List.set_cons_succ])
          refine wpAnyH_ready (rs := [8]) (by kernel_rfl) (by simp) ?_
          refine AllReadyH.cons (o := _) rfl (fun K hK => ?_) AllReadyH.nil
          go_simp
          refine hK.out _ _ HS2.out (fun hS3 => ?_)
          clear hK K
          (try simp only [Act.put, List.setIfInBounds_toArray, List.set_cons_zero, List.set_cons_succ])
          refine wpAnyH_done (by kernel_rfl) (NoPanic.normal ?_) _
          have HB6 := mkHid (HB2.out.then HBX.out)
          cases sx with
          | true =>
            have HCY : Hid (¬ Acyc l) := fun h => h.no_path i ⟨x, HED.out, HSR.out.1 HSE.out⟩
            go_wp2_with fail
            go_ret
            exact ⟨⟨true, rfl, fun _ => HCY.out, fun _ => rfl⟩, hb1.then (HB1.out.then HB6.out)⟩
          | false =>
            have HNO : Hid (¬ Reach l x i) := fun h => by have := HSR.out.2 h; rw [HSE.out] at this; cases this
            have HNX2 := mkHid (HNX.out HNO.out)
            go_wp2_with fail
            go_round
            case rel => exact ⟨m + 1, by go_num, by omega, HNX2, HB6⟩
            case measure => simp [intOf]; omega
        · have HNI : Hid (∀ j : Nat, j < i + 1 → ¬ Path l j j) := fun j hj => by
            by_cases e : j = i
            · subst e
              rintro ⟨b, he, hrb⟩
              have hmem : (b : Int) ∈ L := by rw [HLL.out]; exact (leads_edge HO.out hlt b).2 ⟨b, rfl, he⟩
              obtain ⟨q, hq, hqe⟩ := List.getElem_of_mem hmem
              exact HNR.out q hq (by omega) b hqe hrb
            · exact HNP.out j (by omega)
          go_wp2_with fail
          go_round
          case rel => exact ⟨i + 1, by go_num, by omega, HNI, HB3⟩
          case measure => simp [intOf]; omega
    · go_wp2_with fail
      go_ret
      refine ⟨⟨false, rfl, fun h => (by cases h), fun h => absurd (acyc_of_no fun k hk => ?_) h⟩, HBW.out⟩
      by_cases hkl : k < l.length
      · exact HNP.out k (by omega) hk
      · obtain ⟨b, he, _⟩ := hk
        exact hkl he.lt.1
end Go.Proofs.Ytefnmjoapmnkbaa
set_option linter.unusedVariables false
namespace Go.Proofs.Ytefnmjoapmnkbaa
open Go.RowKit

/-! ### the document's Right and May -/
def boundB (l : List Cel) (i : Int) : Bool := if h : 0 ≤ i ∧ i.toNat < l.length then l[i.toNat].k == 1 && l[i.toNat].n != i else false
theorem boundB_iff (l : List Cel) (i : Int) : boundB l i = true ↔ BoundAt l i := by
  unfold boundB BoundAt
  constructor
  · intro h
    split at h
    · rename_i hc
      simp at h
      exact ⟨i.toNat, by omega, hc.2, h.1, by have := h.2; omega⟩
    · cases h
  · rintro ⟨k, rfl, hk, h1, h2⟩
    rw [dif_pos ⟨by omega, by simpa using hk⟩]
    simp [h1, h2]
theorem refbound_any (a : Option Addr) (cap : Nat) (a' : Option Addr) (n' cap' : Nat) (r i : Int) (w : World) (l : List Cel) (hr : Row w a cap l) :
    Calls Try.prog 55 #[hv a l.length cap a' n' cap' r, .int .i64 i] w fun e w' => e = .returned (.bool (boundB l i)) ∧ Below w.heap.size w w' := by
  by_cases h : 0 ≤ i ∧ i < (l.length : Int)
  · obtain ⟨k, rfl⟩ : ∃ k : Nat, i = k := ⟨i.toNat, by omega⟩
    have hk : k < l.length := by omega
    refine (refbound_at a cap a' n' cap' r w l k hr hk).mono ?_
    rintro e w1 ⟨rfl, hb⟩
    refine ⟨?_, hb⟩
    unfold boundB
    rw [dif_pos ⟨by omega, by simpa using hk⟩]
    simp
  · refine (refbound_off a cap a' n' cap' r i w l.length h).mono ?_
    rintro e w1 ⟨rfl, hb⟩
    refine ⟨?_, hb⟩
    unfold boundB
    rw [dif_neg (by omega)]
theorem trail_of {l : List Cel} {ts : List Int} (h : ∀ (q : Nat) (hq : q < ts.length), BoundAt l ts[q] ∧ ts[q] ∉ ts.take q) : TrailOk l ts := by
  refine ⟨fun t ht => ?_, ?_⟩
  · obtain ⟨q, hq, rfl⟩ := List.getElem_of_mem ht
    exact (h q hq).1
  · rw [List.nodup_iff_pairwise_ne, List.pairwise_iff_getElem]
    intro i j hi hj hij he
    refine (h j hj).2 ?_
    rw [← he]
    exact List.mem_take_iff_getElem.2 ⟨i, by omega, rfl⟩
theorem trail_no {l : List Cel} {ts : List Int} (h : TrailOk l ts) (q : Nat) (hq : q < ts.length) : BoundAt l ts[q] ∧ ts[q] ∉ ts.take q := by
  refine ⟨h.1 _ (List.getElem_mem hq), fun hm => ?_⟩
  obtain ⟨i, hi, he⟩ := List.mem_take_iff_getElem.1 hm
  have := (List.pairwise_iff_getElem.1 (List.nodup_iff_pairwise_ne.1 h.2)) i q (by omega) hq (by omega)
  exact this he
def R8RightPost (w : World) (l : List Cel) (ts : List Int) (r : Int) (e : Ending) (w' : World) : Prop := (∃ b, e = .returned (.bool b) ∧ (b = true ↔ RightP l ts r)) ∧ Below w.heap.size w w'

set_option maxRecDepth 100000 in
set_option maxHeartbeats 6400000 in
theorem r8right_any (a : Option Addr) (cap : Nat) (a' : Option Addr) (cap' : Nat) (r : Int) (w : World) (l : List Cel) (ts : List Int) (hr : Row w a cap l) (ht : Row w a' cap' ts) (hl : l.length ≤ 5000) :
    Calls Try.prog 14 #[hv a l.length cap a' ts.length cap' r] w (R8RightPost w l ts r) := by
  have hm := hr.max
  have hle := hr.le
  have hm2 := ht.max
  have hle2 := ht.le
  have hb1 := (Below.refl w.heap.size w).new (.cells #[.slice a l.length cap, .slice a' ts.length cap', .int .i64 r] 25)
  have e0 : (w.alloc (.cells #[.slice a l.length cap, .slice a' ts.length cap', .int .i64 r] 25)).cell? ⟨w.heap.size, 0, none⟩ = some (.slice a l.length cap) := World.cell?_alloc_at _ _ w.heap.size 0 rfl
  have e1 : (w.alloc (.cells #[.slice a l.length cap, .slice a' ts.length cap', .int .i64 r] 25)).cell? ⟨w.heap.size, 1, none⟩ = some (.slice a' ts.length cap') := World.cell?_alloc_at _ _ w.heap.size 1 rfl
  have e2 : (w.alloc (.cells #[.slice a l.length cap, .slice a' ts.length cap', .int .i64 r] 25)).cell? ⟨w.heap.size, 2, none⟩ = some (.int .i64 r) := World.cell?_alloc_at _ _ w.heap.size 2 rfl
  have HR := mkHid hr
  have HT := mkHid ht
  clear hr ht
  by_cases q0 : r < 1
  · have HE : Hid (¬ RightP l ts r) := fun h => by have := h.r1; omega
    go_enter Try.func14, Try.ntmps14
    go_wp2_with fail
    go_ret
    exact ⟨⟨false, rfl, fun h => (by cases h), fun h => absurd h HE.out⟩, hb1⟩
  by_cases q1 : r > 4096
  · have HE : Hid (¬ RightP l ts r) := fun h => by have := h.r2; omega
    go_enter Try.func14, Try.ntmps14
    go_wp2_with fail
    go_ret
    exact ⟨⟨false, rfl, fun h => (by cases h), fun h => absurd h HE.out⟩, hb1⟩
  by_cases q2 : (l.length : Int) > r
  · have HE : Hid (¬ RightP l ts r) := fun h => by have := h.few; omega
    go_enter Try.func14, Try.ntmps14
    go_wp2_with fail
    go_ret
    exact ⟨⟨false, rfl, fun h => (by cases h), fun h => absurd h HE.out⟩, hb1⟩
  go_enter Try.func14, Try.ntmps14
  go_wp2_with fail
  obtain ⟨W, hW⟩ : ∃ W, (w.alloc (.cells #[.slice a l.length cap, .slice a' ts.length cap', .int .i64 r] 25)) = W := ⟨_, rfl⟩
  rw [hW] at hb1 e0 e1 e2 ⊢
  clear hW
  have HR1 := mkHid (HR.out.below hb1)
  have HT1 := mkHid (HT.out.below hb1)
  have Q0 := mkHid q0
  have Q1 := mkHid q1
  have Q2 := mkHid q2
  clear q0 q1 q2
  go_loopw [3] (fun i wr => ∃ (j : Nat), i = .int .i64 j ∧ j ≤ l.length ∧ Hid (∀ (k : Nat) (h : k < l.length), k < j → slotB l k l[k] = true) ∧ Hid (Below W.heap.size W wr)) (fun i wr => l.length - (intOf i).toNat)
  case atStart => exact ⟨0, rfl, Nat.zero_le _, fun k h hk => by omega, Below.refl _ _⟩
  case round =>
    obtain ⟨j, rfl, hj, HS, HB⟩ := hrel
    have f0 := keep e0 HB.out
    have f1 := keep e1 HB.out
    have f2 := keep e2 HB.out
    by_cases hlt : j < l.length
    · cases q3 : slotB l j l[j] with
      | true =>
        have Q3 := mkHid q3
        clear q3
        go_wp2_with (go_at_call 54; refine (refslot_any a cap a' ts.length cap' r j _ l (HR1.out.below HB.out) hlt (by omega)).mono ?_; rintro e w1 ⟨rfl, hb2⟩; rw [Q3.out])
        go_round
        case rel =>
          refine ⟨j + 1, by go_num, by omega, fun k h hk => ?_, HB.out.then hb2⟩
          by_cases e : k = j
          · subst e; exact Q3.out
          · exact HS.out k h (by omega)
        case measure => simp [intOf]; omega
      | false =>
        have HE : Hid (¬ RightP l ts r) := fun h => by
          have := h.slots j hlt
          rw [q3] at this; cases this
        have Q3 := mkHid q3
        clear q3
        go_wp2_with (go_at_call 54; refine (refslot_any a cap a' ts.length cap' r j _ l (HR1.out.below HB.out) hlt (by omega)).mono ?_; rintro e w1 ⟨rfl, hb2⟩; rw [Q3.out])
        go_ret
        exact ⟨⟨false, rfl, fun h => (by cases h), fun h => absurd h HE.out⟩, hb1.then (HB.out.then hb2)⟩
    · have HALL : Hid (∀ (k : Nat) (h : k < l.length), slotB l k l[k] = true) := fun k h => HS.out k h (by omega)
      clear HS
      go_wp2_with fail
      obtain ⟨W2, hW2⟩ : ∃ W2, wr = W2 := ⟨_, rfl⟩
      rw [hW2] at HB f0 f1 f2 ⊢
      have HRW := mkHid (HR1.out.below HB.out)
      have HTW := mkHid (HT1.out.below HB.out)
      clear hW2
      go_loopw [4] (fun v wz => ∃ m : Nat, v = .int .i64 m ∧ m ≤ ts.length ∧ Hid (∀ (q : Nat) (hq : q < ts.length), q < m → BoundAt l ts[q] ∧ ts[q] ∉ ts.take q) ∧ Hid (Below W2.heap.size W2 wz)) (fun v wz => ts.length - (intOf v).toNat)
      case atStart => exact ⟨0, rfl, Nat.zero_le _, fun k h hk => by omega, Below.refl _ _⟩
      case round =>
        obtain ⟨m, rfl, hm3, HQ, HB2⟩ := hrel
        have g0 := keep f0 HB2.out
        have g1 := keep f1 HB2.out
        have g2 := keep f2 HB2.out
        have HBW := mkHid (hb1.then (HB.out.then HB2.out))
        by_cases hlt2 : m < ts.length
        · obtain ⟨bT, oT, rfl, hbT, hatT⟩ := (HTW.out.below HB2.out).cases.resolve_left (fun e => by simp [e] at hlt2)
          obtain ⟨d0, _, _⟩ := int_at hatT (Below.refl _ _) hlt2
          have HTT : Hid (Row wr (some ⟨bT, oT, none⟩) cap' ts) := HTW.out.below HB2.out
          obtain ⟨x, hx⟩ : ∃ x : Int, x = ts[m] := ⟨_, rfl⟩
          rw [← hx] at d0
          have HX := mkHid hx
          have hml : m ≤ ts.length := by omega
          have hmc : m ≤ cap' := by omega
          clear hx hatT
          have HRX : Hid (Row wr a cap l) := HRW.out.below HB2.out
          cases q4 : boundB l x with
          | false =>
            have HE : Hid (¬ RightP l ts r) := fun h => by
              have := (trail_no h.trail m hlt2).1
              rw [← HX.out, ← boundB_iff, q4] at this; cases this
            have Q4 := mkHid q4
            clear q4
            go_wp2_with fail
            have HS1 : Hid ((fun w' : World => w'.cell? ⟨w.heap.size, 0, none⟩ = some (.slice a l.length cap) ∧ w'.cell? ⟨w.heap.size, 1, none⟩ = some (.slice (some ⟨bT, oT, none⟩) ts.length cap') ∧ w'.cell? ⟨w.heap.size, 2, none⟩ = some (.int .i64 r) ∧ w'.cell? ⟨bT, oT + m, none⟩ = some (.int .i64 x)) wr.drew) := ⟨g0, g1, g2, d0⟩
            have hs1h := HS1.out
            refine wp_region_noPanic ?_
            refine wp_region_held_drew (S := (fun w' : World => w'.cell? ⟨w.heap.size, 0, none⟩ = some (.slice a l.length cap) ∧ w'.cell? ⟨w.heap.size, 1, none⟩ = some (.slice (some ⟨bT, oT, none⟩) ts.length cap') ∧ w'.cell? ⟨w.heap.size, 2, none⟩ = some (.int .i64 r) ∧ w'.cell? ⟨bT, oT + m, none⟩ = some (.int .i64 x))) (by kernel_rfl) (hs1h) (fun hSd => ?_)
            clear hs1h
            refine wpAnyH_take (i := 0) (oi := _) (v := ?_) rfl (by kernel_rfl) (by kernel_rfl) (by kernel_rfl) (fun _ _ _ h => h) (Or.inl ⟨by rfl, ?_⟩) (by assumption) ?_
            rotate_left
            · (intro w' hSw; (try dsimp only at hSw); go_simp; try with_reducible rfl)
            (try simp only [List.getElem_toArray, List.getElem_cons_succ, List.getElem_cons_zero, Act.put, List.setIfInBounds_toArray, List.set_cons_zero, List.set_cons_succ])
            refine wpAnyH_take (i := 1) (oi := _) (v := ?_) rfl (by kernel_rfl) (by kernel_rfl) (by kernel_rfl) (fun _ _ _ h => h) (Or.inl ⟨by rfl, ?_⟩) (by assumption) ?_
            rotate_left
            · (intro w' hSw; (try dsimp only at hSw); go_simp; try with_reducible rfl)
            (try simp only [List.getElem_toArray, List.getElem_cons_succ, List.getElem_cons_zero, Act.put, List.setIfInBounds_toArray, List.set_cons_zero, List.set_cons_succ])
            refine wpAnyH_take (i := 2) (oi := _) (v := ?_) rfl (by kernel_rfl) (by kernel_rfl) (by kernel_rfl) (fun _ _ _ h => h) (Or.inl ⟨by rfl, ?_⟩) (by assumption) ?_
            rotate_left
            · (intro w' hSw; (try dsimp only at hSw); go_simp; try with_reducible rfl)
            (try simp only [List.getElem_toArray, List.getElem_cons_succ, List.getElem_cons_zero, Act.put, List.setIfInBounds_toArray, List.set_cons_zero, List.set_cons_succ])
            refine wpAnyH_take (i := 3) (oi := _) (v := ?_) rfl (by kernel_rfl) (by kernel_rfl) (by kernel_rfl) (fun _ _ _ h => h) (Or.inl ⟨by rfl, ?_⟩) (by assumption) ?_
            rotate_left
            · (intro w' hSw; (try dsimp only at hSw); go_simp; try with_reducible rfl)
            (try simp only [List.getElem_toArray, List.getElem_cons_succ, List.getElem_cons_zero, Act.put, List.setIfInBounds_toArray, List.set_cons_zero, List.set_cons_succ])
            refine wpAnyH_take (i := 4) (oi := _) (v := ?_) rfl (by kernel_rfl) (by kernel_rfl) (by kernel_rfl) (fun _ _ _ h => h) (Or.inl ⟨by rfl, ?_⟩) (by assumption) ?_
            rotate_left
            · (intro w' hSw; (try dsimp only at hSw); go_simp; try with_reducible rfl)
            (try simp only [List.getElem_toArray, List.getElem_cons_succ, List.getElem_cons_zero, Act.put, List.setIfInBounds_toArray, List.set_cons_zero, List.set_cons_succ])
            refine wpAnyH_take (i := 5) (oi := _) (v := ?_) rfl (by kernel_rfl) (by kernel_rfl) (by kernel_rfl) (fun _ _ _ h => h) (Or.inl ⟨by rfl, ?_⟩) (by assumption) ?_
            rotate_left
            · (intro w' hSw; (try dsimp only at hSw); go_simp; try with_reducible rfl)
            (try simp only [List.getElem_toArray, List.getElem_cons_succ, List.getElem_cons_zero, Act.put, List.setIfInBounds_toArray, List.set_cons_zero, List.set_cons_succ])
            refine wpAnyH_ready (rs := [6]) (by kernel_rfl) (by simp) ?_
            refine AllReadyH.cons (o := _) rfl (fun K hK => ?_) AllReadyH.nil
            go_simp
            refine (refbound_any a cap (some ⟨bT, oT, none⟩) ts.length cap' r x _ l (HRX.out.below (Below.refl _ _).drew)).mono ?_
            rintro e w1 ⟨rfl, hb2⟩
            rw [Q4.out]
            have HBX := mkHid ((Below.refl wr.heap.size wr).drew.trans hb2)
            have HS2 : Hid ((fun w' : World => w'.cell? ⟨w.heap.size, 0, none⟩ = some (.slice a l.length cap) ∧ w'.cell? ⟨w.heap.size, 1, none⟩ = some (.slice (some ⟨bT, oT, none⟩) ts.length cap') ∧ w'.cell? ⟨w.heap.size, 2, none⟩ = some (.int .i64 r) ∧ w'.cell? ⟨bT, oT + m, none⟩ = some (.int .i64 x)) w1) := ⟨keep (w := wr.drew) g0 hb2, keep (w := wr.drew) g1 hb2, keep (w := wr.drew) g2 hb2, keep (w := wr.drew) d0 hb2⟩
            have HTR : Hid (Row w1 (some ⟨bT, oT, none⟩) cap' (ts.take m)) := by
              show Row w1 (some ⟨bT, oT, none⟩) cap' (ts.take m)
              have := ((HTT.out.below (Below.refl _ _).drew).below hb2).slice (i := 0) (j := m) (Nat.zero_le _) hml
              simpa using this
            clear hb2
            refine hK.out _ _ HS2.out (fun hS3 => ?_)
            clear hK K
            (try simp only [List.getElem_toArray, List.getElem_cons_succ, List.getElem_cons_zero, Act.put, List.setIfInBounds_toArray, List.set_cons_zero, List.set_cons_succ])
            refine wpAnyH_take (i := 7) (oi := _) (v := ?_) rfl (by kernel_rfl) (by kernel_rfl) (by kernel_rfl) (fun _ _ _ h => h) (Or.inl ⟨by rfl, ?_⟩) (by assumption) ?_
            rotate_left
            · (intro w' hSw; (try dsimp only at hSw); go_simp; try with_reducible rfl)
            (try simp only [List.getElem_toArray, List.getElem_cons_succ, List.getElem_cons_zero, Act.put, List.setIfInBounds_toArray, List.set_cons_zero, List.set_cons_succ])
            refine wpAnyH_take (i := 8) (oi := _) (v := ?_) rfl (by kernel_rfl) (by kernel_rfl) (by kernel_rfl) (fun _ _ _ h => h) (Or.inl ⟨by rfl, ?_⟩) (by assumption) ?_
            rotate_left
            · (intro w' hSw; (try dsimp only at hSw); go_simp; try with_reducible rfl)
            (try simp only [List.getElem_toArray, List.getElem_cons_succ, List.getElem_cons_zero, Act.put, List.setIfInBounds_toArray, List.set_cons_zero, List.set_cons_succ])
            refine wpAnyH_take (i := 9) (oi := _) (v := undef) rfl (by kernel_rfl) (by kernel_rfl) (by kernel_rfl) (fun _ _ _ h => h) (Or.inr ⟨by kernel_rfl, rfl⟩) (by assumption) ?_
            (try simp only [List.getElem_toArray, List.getElem_cons_succ, List.getElem_cons_zero, Act.put, List.setIfInBounds_toArray, List.set_cons_zero, List.set_cons_succ])
            refine wpAnyH_take (i := 10) (oi := _) (v := undef) rfl (by kernel_rfl) (by kernel_rfl) (by kernel_rfl) (fun _ _ _ h => h) (Or.inr ⟨by kernel_rfl, rfl⟩) (by assumption) ?_
            (try simp only [List.getElem_toArray, List.getElem_cons_succ, List.getElem_cons_zero, Act.put, List.setIfInBounds_toArray, List.set_cons_zero, List.set_cons_succ])
            refine wpAnyH_take (i := 11) (oi := _) (v := undef) rfl (by kernel_rfl) (by kernel_rfl) (by kernel_rfl) (fun _ _ _ h => h) (Or.inr ⟨by kernel_rfl, rfl⟩) (by assumption) ?_
            (try simp only [List.getElem_toArray, List.getElem_cons_succ, List.getElem_cons_zero, Act.put, List.setIfInBounds_toArray, List.set_cons_zero, List.set_cons_succ])
            refine wpAnyH_take (i := 12) (oi := _) (v := undef) rfl (by kernel_rfl) (by kernel_rfl) (by kernel_rfl) (fun _ _ _ h => h) (Or.inr ⟨by kernel_rfl, rfl⟩) (by assumption) ?_
            (try simp only [List.getElem_toArray, List.getElem_cons_succ, List.getElem_cons_zero, Act.put, List.setIfInBounds_toArray, List.set_cons_zero, List.set_cons_succ])
            refine wpAnyH_take (i := 13) (oi := _) (v := undef) rfl (by kernel_rfl) (by kernel_rfl) (by kernel_rfl) (fun _ _ _ h => h) (Or.inr ⟨by kernel_rfl, rfl⟩) (by assumption) ?_
            (try simp only [List.getElem_toArray, List.getElem_cons_succ, List.getElem_cons_zero, Act.put, List.setIfInBounds_toArray, List.set_cons_zero, List.set_cons_succ])
            refine wpAnyH_take (i := 14) (oi := _) (v := undef) rfl (by kernel_rfl) (by kernel_rfl) (by kernel_rfl) (fun _ _ _ h => h) (Or.inr ⟨by kernel_rfl, rfl⟩) (by assumption) ?_
            (try simp only [List.getElem_toArray, List.getElem_cons_succ, List.getElem_cons_zero, Act.put, List.setIfInBounds_toArray, List.set_cons_zero, List.set_cons_succ])
            refine wpAnyH_take (i := 15) (oi := _) (v := undef) rfl (by kernel_rfl) (by kernel_rfl) (by kernel_rfl) (fun _ _ _ h => h) (Or.inr ⟨by kernel_rfl, rfl⟩) (by assumption) ?_
            (try simp only [List.getElem_toArray, List.getElem_cons_succ, List.getElem_cons_zero, Act.put, List.setIfInBounds_toArray, List.set_cons_zero, List.set_cons_succ])
            refine wpAnyH_take (i := 16) (oi := _) (v := undef) rfl (by kernel_rfl) (by kernel_rfl) (by kernel_rfl) (fun _ _ _ h => h) (Or.inr ⟨by kernel_rfl, rfl⟩) (by assumption) ?_
            (try simp only [List.getElem_toArray, List.getElem_cons_succ, List.getElem_cons_zero, Act.put, List.setIfInBounds_toArray, List.set_cons_zero, List.set_cons_succ])
            refine wpAnyH_take (i := 17) (oi := _) (v := undef) rfl (by kernel_rfl) (by kernel_rfl) (by kernel_rfl) (fun _ _ _ h => h) (Or.inr ⟨by kernel_rfl, rfl⟩) (by assumption) ?_
            (try simp only [List.getElem_toArray, List.getElem_cons_succ, List.getElem_cons_zero, Act.put, List.setIfInBounds_toArray, List.set_cons_zero, List.set_cons_succ])
            refine wpAnyH_take (i := 18) (oi := _) (v := undef) rfl (by kernel_rfl) (by kernel_rfl) (by kernel_rfl) (fun _ _ _ h => h) (Or.inr ⟨by kernel_rfl, rfl⟩) (by assumption) ?_
            (try simp only [List.getElem_toArray, List.getElem_cons_succ, List.getElem_cons_zero, Act.put, List.setIfInBounds_toArray, List.set_cons_zero, List.set_cons_succ])
            refine wpAnyH_take (i := 19) (oi := _) (v := .bool true) rfl (by kernel_rfl) (by kernel_rfl) (by kernel_rfl) (fun _ _ _ h => h) (Or.inl ⟨by kernel_rfl, fun w' _ => by kernel_rfl⟩) (by assumption) ?_
            (try simp only [List.getElem_toArray, List.getElem_cons_succ, List.getElem_cons_zero, Act.put, List.setIfInBounds_toArray, List.set_cons_zero, List.set_cons_succ])
            refine wpAnyH_done (by kernel_rfl) (NoPanic.normal ?_) _
            go_wp2_with fail
            go_ret
            exact ⟨⟨false, rfl, fun h => (by cases h), fun h => absurd h HE.out⟩, hb1.then (HB.out.then (HB2.out.then HBX.out))⟩
          | true =>
            have Q4 := mkHid q4
            clear q4
            cases q5 : decide (x ∈ ts.take m) with
            | true =>
              have HE : Hid (¬ RightP l ts r) := fun h => by
                have := (trail_no h.trail m hlt2).2
                rw [← HX.out] at this
                exact this (by simpa using q5)
              have Q5 := mkHid q5
              clear q5
              go_wp2_with fail
              have HS1 : Hid ((fun w' : World => w'.cell? ⟨w.heap.size, 0, none⟩ = some (.slice a l.length cap) ∧ w'.cell? ⟨w.heap.size, 1, none⟩ = some (.slice (some ⟨bT, oT, none⟩) ts.length cap') ∧ w'.cell? ⟨w.heap.size, 2, none⟩ = some (.int .i64 r) ∧ w'.cell? ⟨bT, oT + m, none⟩ = some (.int .i64 x)) wr.drew) := ⟨g0, g1, g2, d0⟩
              have hs1h := HS1.out
              refine wp_region_noPanic ?_
              refine wp_region_held_drew (S := (fun w' : World => w'.cell? ⟨w.heap.size, 0, none⟩ = some (.slice a l.length cap) ∧ w'.cell? ⟨w.heap.size, 1, none⟩ = some (.slice (some ⟨bT, oT, none⟩) ts.length cap') ∧ w'.cell? ⟨w.heap.size, 2, none⟩ = some (.int .i64 r) ∧ w'.cell? ⟨bT, oT + m, none⟩ = some (.int .i64 x))) (by kernel_rfl) (hs1h) (fun hSd => ?_)
              clear hs1h
              refine wpAnyH_take (i := 0) (oi := _) (v := ?_) rfl (by kernel_rfl) (by kernel_rfl) (by kernel_rfl) (fun _ _ _ h => h) (Or.inl ⟨by rfl, ?_⟩) (by assumption) ?_
              rotate_left
              · (intro w' hSw; (try dsimp only at hSw); go_simp; try with_reducible rfl)
              (try simp only [List.getElem_toArray, List.getElem_cons_succ, List.getElem_cons_zero, Act.put, List.setIfInBounds_toArray, List.set_cons_zero, List.set_cons_succ])
              refine wpAnyH_take (i := 1) (oi := _) (v := ?_) rfl (by kernel_rfl) (by kernel_rfl) (by kernel_rfl) (fun _ _ _ h => h) (Or.inl ⟨by rfl, ?_⟩) (by assumption) ?_
              rotate_left
              · (intro w' hSw; (try dsimp only at hSw); go_simp; try with_reducible rfl)
              (try simp only [List.getElem_toArray, List.getElem_cons_succ, List.getElem_cons_zero, Act.put, List.setIfInBounds_toArray, List.set_cons_zero, List.set_cons_succ])
              refine wpAnyH_take (i := 2) (oi := _) (v := ?_) rfl (by kernel_rfl) (by kernel_rfl) (by kernel_rfl) (fun _ _ _ h => h) (Or.inl ⟨by rfl, ?_⟩) (by assumption) ?_
              rotate_left
              · (intro w' hSw; (try dsimp only at hSw); go_simp; try with_reducible rfl)
              (try simp only [List.getElem_toArray, List.getElem_cons_succ, List.getElem_cons_zero, Act.put, List.setIfInBounds_toArray, List.set_cons_zero, List.set_cons_succ])
              refine wpAnyH_take (i := 3) (oi := _) (v := ?_) rfl (by kernel_rfl) (by kernel_rfl) (by kernel_rfl) (fun _ _ _ h => h) (Or.inl ⟨by rfl, ?_⟩) (by assumption) ?_
              rotate_left
              · (intro w' hSw; (try dsimp only at hSw); go_simp; try with_reducible rfl)
              (try simp only [List.getElem_toArray, List.getElem_cons_succ, List.getElem_cons_zero, Act.put, List.setIfInBounds_toArray, List.set_cons_zero, List.set_cons_succ])
              refine wpAnyH_take (i := 4) (oi := _) (v := ?_) rfl (by kernel_rfl) (by kernel_rfl) (by kernel_rfl) (fun _ _ _ h => h) (Or.inl ⟨by rfl, ?_⟩) (by assumption) ?_
              rotate_left
              · (intro w' hSw; (try dsimp only at hSw); go_simp; try with_reducible rfl)
              (try simp only [List.getElem_toArray, List.getElem_cons_succ, List.getElem_cons_zero, Act.put, List.setIfInBounds_toArray, List.set_cons_zero, List.set_cons_succ])
              refine wpAnyH_take (i := 5) (oi := _) (v := ?_) rfl (by kernel_rfl) (by kernel_rfl) (by kernel_rfl) (fun _ _ _ h => h) (Or.inl ⟨by rfl, ?_⟩) (by assumption) ?_
              rotate_left
              · (intro w' hSw; (try dsimp only at hSw); go_simp; try with_reducible rfl)
              (try simp only [List.getElem_toArray, List.getElem_cons_succ, List.getElem_cons_zero, Act.put, List.setIfInBounds_toArray, List.set_cons_zero, List.set_cons_succ])
              refine wpAnyH_ready (rs := [6]) (by kernel_rfl) (by simp) ?_
              refine AllReadyH.cons (o := _) rfl (fun K hK => ?_) AllReadyH.nil
              go_simp
              refine (refbound_any a cap (some ⟨bT, oT, none⟩) ts.length cap' r x _ l (HRX.out.below (Below.refl _ _).drew)).mono ?_
              rintro e w1 ⟨rfl, hb2⟩
              rw [Q4.out]
              have HBX := mkHid ((Below.refl wr.heap.size wr).drew.trans hb2)
              have HS2 : Hid ((fun w' : World => w'.cell? ⟨w.heap.size, 0, none⟩ = some (.slice a l.length cap) ∧ w'.cell? ⟨w.heap.size, 1, none⟩ = some (.slice (some ⟨bT, oT, none⟩) ts.length cap') ∧ w'.cell? ⟨w.heap.size, 2, none⟩ = some (.int .i64 r) ∧ w'.cell? ⟨bT, oT + m, none⟩ = some (.int .i64 x)) w1) := ⟨keep (w := wr.drew) g0 hb2, keep (w := wr.drew) g1 hb2, keep (w := wr.drew) g2 hb2, keep (w := wr.drew) d0 hb2⟩
              have HTR : Hid (Row w1 (some ⟨bT, oT, none⟩) cap' (ts.take m)) := by
                show Row w1 (some ⟨bT, oT, none⟩) cap' (ts.take m)
                have := ((HTT.out.below (Below.refl _ _).drew).below hb2).slice (i := 0) (j := m) (Nat.zero_le _) hml
                simpa using this
              clear hb2
              refine hK.out _ _ HS2.out (fun hS3 => ?_)
              clear hK K
              (try simp only [List.getElem_toArray, List.getElem_cons_succ, List.getElem_cons_zero, Act.put, List.setIfInBounds_toArray, List.set_cons_zero, List.set_cons_succ])
              refine wpAnyH_take (i := 7) (oi := _) (v := ?_) rfl (by kernel_rfl) (by kernel_rfl) (by kernel_rfl) (fun _ _ _ h => h) (Or.inl ⟨by rfl, ?_⟩) (by assumption) ?_
              rotate_left
              · (intro w' hSw; (try dsimp only at hSw); go_simp; try with_reducible rfl)
              (try simp only [List.getElem_toArray, List.getElem_cons_succ, List.getElem_cons_zero, Act.put, List.setIfInBounds_toArray, List.set_cons_zero, List.set_cons_succ])
              refine wpAnyH_take (i := 8) (oi := _) (v := ?_) rfl (by kernel_rfl) (by kernel_rfl) (by kernel_rfl) (fun _ _ _ h => h) (Or.inl ⟨by rfl, ?_⟩) (by assumption) ?_
              rotate_left
              · (intro w' hSw; (try dsimp only at hSw); go_simp; try with_reducible rfl)
              (try simp only [List.getElem_toArray, List.getElem_cons_succ, List.getElem_cons_zero, Act.put, List.setIfInBounds_toArray, List.set_cons_zero, List.set_cons_succ])
              refine wpAnyH_take (i := 9) (oi := _) (v := ?_) rfl (by kernel_rfl) (by kernel_rfl) (by kernel_rfl) (fun _ _ _ h => h) (Or.inl ⟨by rfl, ?_⟩) (by assumption) ?_
              rotate_left
              · (intro w' hSw; (try dsimp only at hSw); go_simp; try with_reducible rfl)
              (try simp only [List.getElem_toArray, List.getElem_cons_succ, List.getElem_cons_zero, Act.put, List.setIfInBounds_toArray, List.set_cons_zero, List.set_cons_succ])
              refine wpAnyH_take (i := 10) (oi := _) (v := ?_) rfl (by kernel_rfl) (by kernel_rfl) (by kernel_rfl) (fun _ _ _ h => h) (Or.inl ⟨by rfl, ?_⟩) (by assumption) ?_
              rotate_left
              · (intro w' hSw; (try dsimp only at hSw); go_simp; try with_reducible rfl)
              (try simp only [List.getElem_toArray, List.getElem_cons_succ, List.getElem_cons_zero, Act.put, List.setIfInBounds_toArray, List.set_cons_zero, List.set_cons_succ])
              refine wpAnyH_take (i := 11) (oi := _) (v := ?_) rfl (by kernel_rfl) (by kernel_rfl) (by kernel_rfl) (fun _ _ _ h => h) (Or.inl ⟨by rfl, ?_⟩) (by assumption) ?_
              rotate_left
              · (intro w' hSw; (try dsimp only at hSw); go_simp; try with_reducible rfl)
              (try simp only [List.getElem_toArray, List.getElem_cons_succ, List.getElem_cons_zero, Act.put, List.setIfInBounds_toArray, List.set_cons_zero, List.set_cons_succ])
              refine wpAnyH_take (i := 12) (oi := _) (v := ?_) rfl (by kernel_rfl) (by kernel_rfl) (by kernel_rfl) (fun _ _ _ h => h) (Or.inl ⟨by rfl, ?_⟩) (by assumption) ?_
              rotate_left
              · (intro w' hSw; (try dsimp only at hSw); go_simp; try with_reducible rfl)
              (try simp only [List.getElem_toArray, List.getElem_cons_succ, List.getElem_cons_zero, Act.put, List.setIfInBounds_toArray, List.set_cons_zero, List.set_cons_succ])
              refine wpAnyH_take (i := 13) (oi := _) (v := ?_) rfl (by kernel_rfl) (by kernel_rfl) (by kernel_rfl) (fun _ _ _ h => h) (Or.inl ⟨by rfl, ?_⟩) (by assumption) ?_
              rotate_left
              · (intro w' hSw; (try dsimp only at hSw); go_simp; try with_reducible rfl)
              (try simp only [List.getElem_toArray, List.getElem_cons_succ, List.getElem_cons_zero, Act.put, List.setIfInBounds_toArray, List.set_cons_zero, List.set_cons_succ])
              refine wpAnyH_take (i := 14) (oi := _) (v := ?_) rfl (by kernel_rfl) (by kernel_rfl) (by kernel_rfl) (fun _ _ _ h => h) (Or.inl ⟨by rfl, ?_⟩) (by assumption) ?_
              rotate_left
              · (intro w' hSw; (try dsimp only at hSw); go_simp; try with_reducible rfl)
              (try simp only [List.getElem_toArray, List.getElem_cons_succ, List.getElem_cons_zero, Act.put, List.setIfInBounds_toArray, List.set_cons_zero, List.set_cons_succ])
              refine wpAnyH_take (i := 15) (oi := _) (v := ?_) rfl (by kernel_rfl) (by kernel_rfl) (by kernel_rfl) (fun _ _ _ h => h) (Or.inl ⟨by rfl, ?_⟩) (by assumption) ?_
              rotate_left
              · (intro w' hSw; (try dsimp only at hSw); go_simp; try with_reducible rfl)
              (try simp only [List.getElem_toArray, List.getElem_cons_succ, List.getElem_cons_zero, Act.put, List.setIfInBounds_toArray, List.set_cons_zero, List.set_cons_succ])
              refine wpAnyH_take (i := 16) (oi := _) (v := ?_) rfl (by kernel_rfl) (by kernel_rfl) (by kernel_rfl) (fun _ _ _ h => h) (Or.inl ⟨by rfl, ?_⟩) (by assumption) ?_
              rotate_left
              · (intro w' hSw; (try dsimp only at hSw); go_simp; try with_reducible rfl)
              (try simp only [List.getElem_toArray, List.getElem_cons_succ, List.getElem_cons_zero, Act.put, List.setIfInBounds_toArray, List.set_cons_zero, List.set_cons_succ])
              refine wpAnyH_take (i := 17) (oi := _) (v := ?_) rfl (by kernel_rfl) (by kernel_rfl) (by kernel_rfl) (fun _ _ _ h => h) (Or.inl ⟨by rfl, ?_⟩) (by assumption) ?_
              rotate_left
              · (intro w' hSw; (try dsimp only at hSw); go_simp; try with_reducible rfl)
              (try simp only [List.getElem_toArray, List.getElem_cons_succ, List.getElem_cons_zero, Act.put, List.setIfInBounds_toArray, List.set_cons_zero, List.set_cons_succ])
              refine wpAnyH_ready (rs := [18]) (by kernel_rfl) (by simp) ?_
              refine AllReadyH.cons (o := _) rfl (fun K hK => ?_) AllReadyH.nil
              go_simp
              have htl : (ts.take m).length = m := by simp; omega
              have HCI := refin_any (some ⟨bT, oT, none⟩) cap' x w1 (ts.take m) HTR.out
              rw [htl] at HCI
              clear htl
              refine HCI.mono ?_
              rintro e w2 ⟨rfl, hb3⟩
              rw [Q5.out]
              have HBY := mkHid (HBX.out.trans (Below.mono hb3 HBX.out.size))
              have HS3 : Hid ((fun w' : World => w'.cell? ⟨w.heap.size, 0, none⟩ = some (.slice a l.length cap) ∧ w'.cell? ⟨w.heap.size, 1, none⟩ = some (.slice (some ⟨bT, oT, none⟩) ts.length cap') ∧ w'.cell? ⟨w.heap.size, 2, none⟩ = some (.int .i64 r) ∧ w'.cell? ⟨bT, oT + m, none⟩ = some (.int .i64 x)) w2) := ⟨keep HS2.out.1 hb3, keep HS2.out.2.1 hb3, keep HS2.out.2.2.1 hb3, keep HS2.out.2.2.2 hb3⟩
              clear hb3 HCI
              refine hK.out _ _ HS3.out (fun hS3 => ?_)
              clear hK K
              (try simp only [List.getElem_toArray, List.getElem_cons_succ, List.getElem_cons_zero, Act.put, List.setIfInBounds_toArray, List.set_cons_zero, List.set_cons_succ])
              refine wpAnyH_take (i := 19) (oi := _) (v := .bool true) rfl (by kernel_rfl) (by kernel_rfl) (by kernel_rfl) (fun _ _ _ h => h) (Or.inl ⟨by kernel_rfl, fun w' _ => by kernel_rfl⟩) (by assumption) ?_
              (try simp only [List.getElem_toArray, List.getElem_cons_succ, List.getElem_cons_zero, Act.put, List.setIfInBounds_toArray, List.set_cons_zero, List.set_cons_succ])
              refine wpAnyH_done (by kernel_rfl) (NoPanic.normal ?_) _
              go_wp2_with fail
              go_ret
              exact ⟨⟨false, rfl, fun h => (by cases h), fun h => absurd h HE.out⟩, hb1.then (HB.out.then (HB2.out.then HBY.out))⟩
            | false =>
              have HNX : Hid (∀ (q : Nat) (hq : q < ts.length), q < m + 1 → BoundAt l ts[q] ∧ ts[q] ∉ ts.take q) := fun q hq hqm => by
                by_cases e : q = m
                · subst e
                  exact ⟨(boundB_iff _ _).1 (by rw [← HX.out]; exact Q4.out), by rw [← HX.out]; simpa using q5⟩
                · exact HQ.out q hq (by omega)
              have Q5 := mkHid q5
              clear q5
              go_wp2_with fail
              have HS1 : Hid ((fun w' : World => w'.cell? ⟨w.heap.size, 0, none⟩ = some (.slice a l.length cap) ∧ w'.cell? ⟨w.heap.size, 1, none⟩ = some (.slice (some ⟨bT, oT, none⟩) ts.length cap') ∧ w'.cell? ⟨w.heap.size, 2, none⟩ = some (.int .i64 r) ∧ w'.cell? ⟨bT, oT + m, none⟩ = some (.int .i64 x)) wr.drew) := ⟨g0, g1, g2, d0⟩
              have hs1h := HS1.out
              refine wp_region_noPanic ?_
              refine wp_region_held_drew (S := (fun w' : World => w'.cell? ⟨w.heap.size, 0, none⟩ = some (.slice a l.length cap) ∧ w'.cell? ⟨w.heap.size, 1, none⟩ = some (.slice (some ⟨bT, oT, none⟩) ts.length cap') ∧ w'.cell? ⟨w.heap.size, 2, none⟩ = some (.int .i64 r) ∧ w'.cell? ⟨bT, oT + m, none⟩ = some (.int .i64 x))) (by kernel_rfl) (hs1h) (fun hSd => ?_)
              clear hs1h
              refine wpAnyH_take (i := 0) (oi := _) (v := ?_) rfl (by kernel_rfl) (by kernel_rfl) (by kernel_rfl) (fun _ _ _ h => h) (Or.inl ⟨by rfl, ?_⟩) (by assumption) ?_
              rotate_left
              · (intro w' hSw; (try dsimp only at hSw); go_simp; try with_reducible rfl)
              (try simp only [List.getElem_toArray, List.getElem_cons_succ, List.getElem_cons_zero, Act.put, List.setIfInBounds_toArray, List.set_cons_zero, List.set_cons_succ])
              refine wpAnyH_take (i := 1) (oi := _) (v := ?_) rfl (by kernel_rfl) (by kernel_rfl) (by kernel_rfl) (fun _ _ _ h => h) (Or.inl ⟨by rfl, ?_⟩) (by assumption) ?_
              rotate_left
              · (intro w' hSw; (try dsimp only at hSw); go_simp; try with_reducible rfl)
              (try simp only [List.getElem_toArray, List.getElem_cons_succ, List.getElem_cons_zero, Act.put, List.setIfInBounds_toArray, List.set_cons_zero, List.set_cons_succ])
              refine wpAnyH_take (i := 2) (oi := _) (v := ?_) rfl (by kernel_rfl) (by kernel_rfl) (by kernel_rfl) (fun _ _ _ h => h) (Or.inl ⟨by rfl, ?_⟩) (by assumption) ?_
              rotate_left
              · (intro w' hSw; (try dsimp only at hSw); go_simp; try with_reducible rfl)
              (try simp only [List.getElem_toArray, List.getElem_cons_succ, List.getElem_cons_zero, Act.put, List.setIfInBounds_toArray, List.set_cons_zero, List.set_cons_succ])
              refine wpAnyH_take (i := 3) (oi := _) (v := ?_) rfl (by kernel_rfl) (by kernel_rfl) (by kernel_rfl) (fun _ _ _ h => h) (Or.inl ⟨by rfl, ?_⟩) (by assumption) ?_
              rotate_left
              · (intro w' hSw; (try dsimp only at hSw); go_simp; try with_reducible rfl)
              (try simp only [List.getElem_toArray, List.getElem_cons_succ, List.getElem_cons_zero, Act.put, List.setIfInBounds_toArray, List.set_cons_zero, List.set_cons_succ])
              refine wpAnyH_take (i := 4) (oi := _) (v := ?_) rfl (by kernel_rfl) (by kernel_rfl) (by kernel_rfl) (fun _ _ _ h => h) (Or.inl ⟨by rfl, ?_⟩) (by assumption) ?_
              rotate_left
              · (intro w' hSw; (try dsimp only at hSw); go_simp; try with_reducible rfl)
              (try simp only [List.getElem_toArray, List.getElem_cons_succ, List.getElem_cons_zero, Act.put, List.setIfInBounds_toArray, List.set_cons_zero, List.set_cons_succ])
              refine wpAnyH_take (i := 5) (oi := _) (v := ?_) rfl (by kernel_rfl) (by kernel_rfl) (by kernel_rfl) (fun _ _ _ h => h) (Or.inl ⟨by rfl, ?_⟩) (by assumption) ?_
              rotate_left
              · (intro w' hSw; (try dsimp only at hSw); go_simp; try with_reducible rfl)
              (try simp only [List.getElem_toArray, List.getElem_cons_succ, List.getElem_cons_zero, Act.put, List.setIfInBounds_toArray, List.set_cons_zero, List.set_cons_succ])
              refine wpAnyH_ready (rs := [6]) (by kernel_rfl) (by simp) ?_
              refine AllReadyH.cons (o := _) rfl (fun K hK => ?_) AllReadyH.nil
              go_simp
              refine (refbound_any a cap (some ⟨bT, oT, none⟩) ts.length cap' r x _ l (HRX.out.below (Below.refl _ _).drew)).mono ?_
              rintro e w1 ⟨rfl, hb2⟩
              rw [Q4.out]
              have HBX := mkHid ((Below.refl wr.heap.size wr).drew.trans hb2)
              have HS2 : Hid ((fun w' : World => w'.cell? ⟨w.heap.size, 0, none⟩ = some (.slice a l.length cap) ∧ w'.cell? ⟨w.heap.size, 1, none⟩ = some (.slice (some ⟨bT, oT, none⟩) ts.length cap') ∧ w'.cell? ⟨w.heap.size, 2, none⟩ = some (.int .i64 r) ∧ w'.cell? ⟨bT, oT + m, none⟩ = some (.int .i64 x)) w1) := ⟨keep (w := wr.drew) g0 hb2, keep (w := wr.drew) g1 hb2, keep (w := wr.drew) g2 hb2, keep (w := wr.drew) d0 hb2⟩
              have HTR : Hid (Row w1 (some ⟨bT, oT, none⟩) cap' (ts.take m)) := by
                show Row w1 (some ⟨bT, oT, none⟩) cap' (ts.take m)
                have := ((HTT.out.below (Below.refl _ _).drew).below hb2).slice (i := 0) (j := m) (Nat.zero_le _) hml
                simpa using this
              clear hb2
              refine hK.out _ _ HS2.out (fun hS3 => ?_)
              clear hK K
              (try simp only [List.getElem_toArray, List.getElem_cons_succ, List.getElem_cons_zero, Act.put, List.setIfInBounds_toArray, List.set_cons_zero, List.set_cons_succ])
              refine wpAnyH_take (i := 7) (oi := _) (v := ?_) rfl (by kernel_rfl) (by kernel_rfl) (by kernel_rfl) (fun _ _ _ h => h) (Or.inl ⟨by rfl, ?_⟩) (by assumption) ?_
              rotate_left
              · (intro w' hSw; (try dsimp only at hSw); go_simp; try with_reducible rfl)
              (try simp only [List.getElem_toArray, List.getElem_cons_succ, List.getElem_cons_zero, Act.put, List.setIfInBounds_toArray, List.set_cons_zero, List.set_cons_succ])
              refine wpAnyH_take (i := 8) (oi := _) (v := ?_) rfl (by kernel_rfl) (by kernel_rfl) (by kernel_rfl) (fun _ _ _ h => h) (Or.inl ⟨by rfl, ?_⟩) (by assumption) ?_
              rotate_left
              · (intro w' hSw; (try dsimp only at hSw); go_simp; try with_reducible rfl)
              (try simp only [List.getElem_toArray, List.getElem_cons_succ, List.getElem_cons_zero, Act.put, List.setIfInBounds_toArray, List.set_cons_zero, List.set_cons_succ])
              refine wpAnyH_take (i := 9) (oi := _) (v := ?_) rfl (by kernel_rfl) (by kernel_rfl) (by kernel_rfl) (fun _ _ _ h => h) (Or.inl ⟨by rfl, ?_⟩) (by assumption) ?_
              rotate_left
              · (intro w' hSw; (try dsimp only at hSw); go_simp; try with_reducible rfl)
              (try simp only [List.getElem_toArray, List.getElem_cons_succ, List.getElem_cons_zero, Act.put, List.setIfInBounds_toArray, List.set_cons_zero, List.set_cons_succ])
              refine wpAnyH_take (i := 10) (oi := _) (v := ?_) rfl (by kernel_rfl) (by kernel_rfl) (by kernel_rfl) (fun _ _ _ h => h) (Or.inl ⟨by rfl, ?_⟩) (by assumption) ?_
              rotate_left
              · (intro w' hSw; (try dsimp only at hSw); go_simp; try with_reducible rfl)
              (try simp only [List.getElem_toArray, List.getElem_cons_succ, List.getElem_cons_zero, Act.put, List.setIfInBounds_toArray, List.set_cons_zero, List.set_cons_succ])
              refine wpAnyH_take (i := 11) (oi := _) (v := ?_) rfl (by kernel_rfl) (by kernel_rfl) (by kernel_rfl) (fun _ _ _ h => h) (Or.inl ⟨by rfl, ?_⟩) (by assumption) ?_
              rotate_left
              · (intro w' hSw; (try dsimp only at hSw); go_simp; try with_reducible rfl)
              (try simp only [List.getElem_toArray, List.getElem_cons_succ, List.getElem_cons_zero, Act.put, List.setIfInBounds_toArray, List.set_cons_zero, List.set_cons_succ])
              refine wpAnyH_take (i := 12) (oi := _) (v := ?_) rfl (by kernel_rfl) (by kernel_rfl) (by kernel_rfl) (fun _ _ _ h => h) (Or.inl ⟨by rfl, ?_⟩) (by assumption) ?_
              rotate_left
              · (intro w' hSw; (try dsimp only at hSw); go_simp; try with_reducible rfl)
              (try simp only [List.getElem_toArray, List.getElem_cons_succ, List.getElem_cons_zero, Act.put, List.setIfInBounds_toArray, List.set_cons_zero, List.set_cons_succ])
              refine wpAnyH_take (i := 13) (oi := _) (v := ?_) rfl (by kernel_rfl) (by kernel_rfl) (by kernel_rfl) (fun _ _ _ h => h) (Or.inl ⟨by rfl, ?_⟩) (by assumption) ?_
              rotate_left
              · (intro w' hSw; (try dsimp only at hSw); go_simp; try with_reducible rfl)
              (try simp only [List.getElem_toArray, List.getElem_cons_succ, List.getElem_cons_zero, Act.put, List.setIfInBounds_toArray, List.set_cons_zero, List.set_cons_succ])
              refine wpAnyH_take (i := 14) (oi := _) (v := ?_) rfl (by kernel_rfl) (by kernel_rfl) (by kernel_rfl) (fun _ _ _ h => h) (Or.inl ⟨by rfl, ?_⟩) (by assumption) ?_
              rotate_left
              · (intro w' hSw; (try dsimp only at hSw); go_simp; try with_reducible rfl)
              (try simp only [List.getElem_toArray, List.getElem_cons_succ, List.getElem_cons_zero, Act.put, List.setIfInBounds_toArray, List.set_cons_zero, List.set_cons_succ])
              refine wpAnyH_take (i := 15) (oi := _) (v := ?_) rfl (by kernel_rfl) (by kernel_rfl) (by kernel_rfl) (fun _ _ _ h => h) (Or.inl ⟨by rfl, ?_⟩) (by assumption) ?_
              rotate_left
              · (intro w' hSw; (try dsimp only at hSw); go_simp; try with_reducible rfl)
              (try simp only [List.getElem_toArray, List.getElem_cons_succ, List.getElem_cons_zero, Act.put, List.setIfInBounds_toArray, List.set_cons_zero, List.set_cons_succ])
              refine wpAnyH_take (i := 16) (oi := _) (v := ?_) rfl (by kernel_rfl) (by kernel_rfl) (by kernel_rfl) (fun _ _ _ h => h) (Or.inl ⟨by rfl, ?_⟩) (by assumption) ?_
              rotate_left
              · (intro w' hSw; (try dsimp only at hSw); go_simp; try with_reducible rfl)
              (try simp only [List.getElem_toArray, List.getElem_cons_succ, List.getElem_cons_zero, Act.put, List.setIfInBounds_toArray, List.set_cons_zero, List.set_cons_succ])
              refine wpAnyH_take (i := 17) (oi := _) (v := ?_) rfl (by kernel_rfl) (by kernel_rfl) (by kernel_rfl) (fun _ _ _ h => h) (Or.inl ⟨by rfl, ?_⟩) (by assumption) ?_
              rotate_left
              · (intro w' hSw; (try dsimp only at hSw); go_simp; try with_reducible rfl)
              (try simp only [List.getElem_toArray, List.getElem_cons_succ, List.getElem_cons_zero, Act.put, List.setIfInBounds_toArray, List.set_cons_zero, List.set_cons_succ])
              refine wpAnyH_ready (rs := [18]) (by kernel_rfl) (by simp) ?_
              refine AllReadyH.cons (o := _) rfl (fun K hK => ?_) AllReadyH.nil
              go_simp
              have htl : (ts.take m).length = m := by simp; omega
              have HCI := refin_any (some ⟨bT, oT, none⟩) cap' x w1 (ts.take m) HTR.out
              rw [htl] at HCI
              clear htl
              refine HCI.mono ?_
              rintro e w2 ⟨rfl, hb3⟩
              rw [Q5.out]
              have HBY := mkHid (HBX.out.trans (Below.mono hb3 HBX.out.size))
              have HS3 : Hid ((fun w' : World => w'.cell? ⟨w.heap.size, 0, none⟩ = some (.slice a l.length cap) ∧ w'.cell? ⟨w.heap.size, 1, none⟩ = some (.slice (some ⟨bT, oT, none⟩) ts.length cap') ∧ w'.cell? ⟨w.heap.size, 2, none⟩ = some (.int .i64 r) ∧ w'.cell? ⟨bT, oT + m, none⟩ = some (.int .i64 x)) w2) := ⟨keep HS2.out.1 hb3, keep HS2.out.2.1 hb3, keep HS2.out.2.2.1 hb3, keep HS2.out.2.2.2 hb3⟩
              clear hb3 HCI
              refine hK.out _ _ HS3.out (fun hS3 => ?_)
              clear hK K
              (try simp only [List.getElem_toArray, List.getElem_cons_succ, List.getElem_cons_zero, Act.put, List.setIfInBounds_toArray, List.set_cons_zero, List.set_cons_succ])
              refine wpAnyH_take (i := 19) (oi := _) (v := .bool false) rfl (by kernel_rfl) (by kernel_rfl) (by kernel_rfl) (fun _ _ _ h => h) (Or.inl ⟨by kernel_rfl, fun w' _ => by kernel_rfl⟩) (by assumption) ?_
              (try simp only [List.getElem_toArray, List.getElem_cons_succ, List.getElem_cons_zero, Act.put, List.setIfInBounds_toArray, List.set_cons_zero, List.set_cons_succ])
              refine wpAnyH_done (by kernel_rfl) (NoPanic.normal ?_) _
              have HBZ := mkHid (HB2.out.then HBY.out)
              go_wp2_with fail
              go_round
              case rel => exact ⟨m + 1, by go_num, by omega, HNX, HBZ⟩
              case measure => simp [intOf]; omega
        · have HTO : Hid (TrailOk l ts) := trail_of fun q hq => HQ.out q hq (by omega)
          have HRZ := mkHid (HRW.out.below HB2.out)
          go_wp2_with fail
          refine (refround_any a cap _ _ _ _ _ l HRZ.out hl HALL.out).mono ?_
          rintro e w3 ⟨⟨b, rfl, hB⟩, hb3⟩
          have HBB := mkHid hB
          have HB3 := mkHid hb3
          clear hB hb3
          cases b with
          | true =>
            go_wp2_with fail
            go_ret
            exact ⟨⟨false, rfl, fun h => (by cases h), fun h => absurd h.acyc (HBB.out.1 (by first | rfl | trivial))⟩, HBW.out.then HB3.out⟩
          | false =>
            go_wp2_with fail
            go_ret
            refine ⟨⟨true, rfl, fun _ => ⟨by have := Q0.out; omega, by have := Q1.out; omega, by have := Q2.out; omega, HALL.out, ?_, HTO.out⟩, fun _ => rfl⟩, HBW.out.then HB3.out⟩
            exact Classical.byContradiction fun hc => by have := HBB.out.2 hc; cases this
end Go.Proofs.Ytefnmjoapmnkbaa
set_option linter.unusedVariables false
namespace Go.Proofs.Ytefnmjoapmnkbaa
open Go.RowKit

def MayP (l : List Cel) (ts : List Int) (r : Int) : Prop := l.length ≤ 120 ∧ ts.length ≤ 120 ∧ RightP l ts r
def MayPost8 (w : World) (l : List Cel) (ts : List Int) (r : Int) (e : Ending) (w' : World) : Prop := (∃ b, e = .returned (.bool b) ∧ (b = true ↔ MayP l ts r)) ∧ Below w.heap.size w w'
set_option maxRecDepth 100000 in
set_option maxHeartbeats 3200000 in
theorem may8_any (a : Option Addr) (cap : Nat) (a' : Option Addr) (cap' : Nat) (r : Int) (w : World) (l : List Cel) (ts : List Int) (hr : Row w a cap l) (ht : Row w a' cap' ts) :
    Calls Try.prog 32 #[hv a l.length cap a' ts.length cap' r] w (MayPost8 w l ts r) := by
  have hm := hr.max
  have hle := hr.le
  have hm2 := ht.max
  have hle2 := ht.le
  have hb1 := (Below.refl w.heap.size w).new (.cells #[.slice a l.length cap, .slice a' ts.length cap', .int .i64 r] 25)
  have e0 : (w.alloc (.cells #[.slice a l.length cap, .slice a' ts.length cap', .int .i64 r] 25)).cell? ⟨w.heap.size, 0, none⟩ = some (.slice a l.length cap) := World.cell?_alloc_at _ _ w.heap.size 0 rfl
  have e1 : (w.alloc (.cells #[.slice a l.length cap, .slice a' ts.length cap', .int .i64 r] 25)).cell? ⟨w.heap.size, 1, none⟩ = some (.slice a' ts.length cap') := World.cell?_alloc_at _ _ w.heap.size 1 rfl
  have e2 : (w.alloc (.cells #[.slice a l.length cap, .slice a' ts.length cap', .int .i64 r] 25)).cell? ⟨w.heap.size, 2, none⟩ = some (.int .i64 r) := World.cell?_alloc_at _ _ w.heap.size 2 rfl
  have HR := mkHid (hr.below hb1)
  have HT := mkHid (ht.below hb1)
  have HB1 := mkHid hb1
  clear hr ht
  by_cases q0 : (l.length : Int) ≤ 120
  · by_cases q1 : (ts.length : Int) ≤ 120
    · go_enter Try.func32, Try.ntmps32
      go_wp2_with fail
      obtain ⟨W, hW⟩ : ∃ W, (w.alloc (.cells #[.slice a l.length cap, .slice a' ts.length cap', .int .i64 r] 25)) = W := ⟨_, rfl⟩
      rw [hW] at HR HT HB1 e0 e1 e2 ⊢
      clear hW hb1
      refine (r8right_any a cap a' cap' r W l ts HR.out HT.out (by omega)).mono ?_
      rintro e w1 ⟨⟨b, rfl, hB⟩, hb2⟩
      have HBB := mkHid hB
      have HB2 := mkHid hb2
      have Q0 : Hid (l.length ≤ 120) := by show l.length ≤ 120; omega
      have Q1 : Hid (ts.length ≤ 120) := by show ts.length ≤ 120; omega
      clear hB hb2
      cases b with
      | true =>
        go_wp2_with fail
        go_ret
        exact ⟨⟨true, rfl, fun _ => ⟨Q0.out, Q1.out, HBB.out.1 (by first | rfl | trivial)⟩, fun _ => rfl⟩, HB1.out.then HB2.out⟩
      | false =>
        go_wp2_with fail
        go_ret
        exact ⟨⟨false, rfl, fun h => (by cases h), fun h => (by have := HBB.out.2 h.2.2; cases this)⟩, HB1.out.then HB2.out⟩
    · have HE : Hid (¬ MayP l ts r) := fun h => by have := h.2.1; omega
      go_enter Try.func32, Try.ntmps32
      go_wp2_with fail
      go_ret
      exact ⟨⟨false, rfl, fun h => (by cases h), fun h => absurd h HE.out⟩, HB1.out⟩
  · have HE : Hid (¬ MayP l ts r) := fun h => by have := h.1; omega
    go_enter Try.func32, Try.ntmps32
    go_wp2_with fail
    go_ret
    exact ⟨⟨false, rfl, fun h => (by cases h), fun h => absurd h HE.out⟩, HB1.out⟩
end Go.Proofs.Ytefnmjoapmnkbaa
set_option linter.unusedVariables false
namespace Go.Proofs.Ytefnmjoapmnkbaa
open Go.RowKit

/-! ### the head's literals, and what the calls answer there -/
def hV (n : Int) : Cel := ⟨1, ⟨#[]⟩, n⟩
def hN (n : Int) : Cel := ⟨2, ⟨#[]⟩, n⟩
def hP (n : Int) : Cel := ⟨3, ⟨#[]⟩, n⟩
def hF3 : Cel := ⟨3, ⟨#[102]⟩, 3⟩
def hG1 : Cel := ⟨3, ⟨#[103]⟩, 1⟩
def sF3 : Cel := ⟨4, ⟨#[102]⟩, 3⟩
def sG1 : Cel := ⟨4, ⟨#[103]⟩, 1⟩
def hdT : List Cel := [hF3, hV 0, hG1, hV 0, hN 7]
def hdTm : Tm := .mk hF3 [.mk (hV 0) [], .mk hG1 [.mk (hV 0) []], .mk (hN 7) []]
def hdH : List Cel := [sF3, hV 1, hP 4, hN 7, sG1, hV 1]
def hdG : List Cel := [sF3, hV 1, hP 4, hN 7, sG1, hV 1, hN 7]
def hdU : List Cel := [sF3, hV 6, hP 4, hN 7, sG1, hV 1, hN 7]
theorem hdTm_flat : hdTm.flat = hdT := by simp [hdTm, Tm.flat, hdT, flats]
theorem hdTm_ok : hdTm.ok := by simp [hdTm, Tm.ok, oks]; decide +kernel
theorem hdN_ok : (Tm.mk (hN 7) []).ok := by simp [Tm.ok, oks]; decide +kernel
theorem hdV0_ok : (Tm.mk (hV 0) []).ok := by simp [Tm.ok, oks]; decide +kernel
theorem hdV1_ok : (Tm.mk (hV 1) []).ok := by simp [Tm.ok, oks]; decide +kernel
theorem put_h1 : putS [] (widenL [] (varsL hdT)) hdTm = ((hdH, [1]), 0) := by decide +kernel
theorem put_h2 : putS hdH (widenL [1] (varsL [hN 7])) (.mk (hN 7) []) = ((hdG, [1]), 6) := by decide +kernel
theorem put_h3 : ((putS hdG (widenL [1] (varsL [hV 1])) (.mk (hV 1) [])).1.1.length) = 8 := by decide +kernel
theorem put_h4 : putS hdG (widenL [1] (varsL [hV 0])) (.mk (hV 0) []) = ((hdG, [1]), 1) := by decide +kernel
theorem get_u : getL hdU 0 = [hF3, hN 7, hG1, hN 7, hN 7] ∧ getB hdU 0 = true := by decide +kernel
theorem get_g : getL hdG 2 = [hG1, hV 1] ∧ getB hdG 2 = true := by decide +kernel
theorem undo_u : undoL hdU [1] 6 0 = hdH := by decide +kernel
theorem Fol.det {xs : List Cel} {a b : Int} {x y x' y' : Nat} (h : Fol xs a b x y) (h' : Fol xs a b x' y') : x = x' ∧ y = y' := by
  obtain ⟨i, j, h1, h2, rfl, rfl⟩ := h
  obtain ⟨i', j', h3, h4, rfl, rfl⟩ := h'
  have e1 : i = i' := by have := Option.some.inj (h1.symm.trans h3); omega
  have e2 : j = j' := by have := Option.some.inj (h2.symm.trans h4); omega
  subst e1; subst e2
  exact ⟨rfl, rfl⟩
theorem Fol.on {xs : List Cel} {a b : Int} {x y : Nat} (h : Fol xs a b x y) : ¬ (followL xs xs.length a = none ∨ followL xs xs.length b = none) := by
  obtain ⟨i, j, h1, h2, rfl, rfl⟩ := h
  rw [h1, h2]; simp
theorem URun.det {xs : List Cel} {ts : List Int} {ps met : List (Int × Int)} {r : Option (List Cel × List Int)} (h : URun xs ts ps met r) : ∀ {r' : Option (List Cel × List Int)}, URun xs ts ps met r' → r = r' := by
  induction h with
  | done xs ts met => intro r' h'; cases h'; rfl
  | off hn =>
    intro r' h'
    cases h' with
    | off h2 => rfl
    | skip hf => exact absurd hn hf.on
    | circle hf => rfl
    | bind hf => exact absurd hn hf.on
    | unlike hf => rfl
    | plain hf => exact absurd hn hf.on
    | tops hf => exact absurd hn hf.on
  | skip hf h hr ih =>
    intro r' h'
    cases h' with
    | off h2 => exact absurd h2 hf.on
    | skip hf2 h2 hr2 => exact ih hr2
    | circle hf2 h2 => obtain ⟨rfl, rfl⟩ := hf.det hf2; exact absurd h h2
    | bind hf2 h2 => obtain ⟨rfl, rfl⟩ := hf.det hf2; exact absurd h h2
    | unlike hf2 h2 => obtain ⟨rfl, rfl⟩ := hf.det hf2; exact absurd h h2
    | plain hf2 h2 => obtain ⟨rfl, rfl⟩ := hf.det hf2; exact absurd h h2
    | tops hf2 h2 => obtain ⟨rfl, rfl⟩ := hf.det hf2; exact absurd h h2
  | circle hf h h2 h3 =>
    intro r' h'
    cases h' with
    | off => rfl
    | skip hf2 hh => obtain ⟨rfl, rfl⟩ := hf.det hf2; exact absurd hh h
    | circle => rfl
    | bind hf2 _ _ h4 => obtain ⟨rfl, rfl⟩ := hf.det hf2; exact absurd h3 h4
    | unlike => rfl
    | plain hf2 _ hh => obtain ⟨rfl, rfl⟩ := hf.det hf2; exact absurd h2 hh
    | tops hf2 _ hh => obtain ⟨rfl, rfl⟩ := hf.det hf2; exact absurd h2 hh
  | bind hf h h2 h3 hr ih =>
    intro r' h'
    cases h' with
    | off h2 => exact absurd h2 hf.on
    | skip hf2 hh => obtain ⟨rfl, rfl⟩ := hf.det hf2; exact absurd hh h
    | circle hf2 _ _ h4 => obtain ⟨rfl, rfl⟩ := hf.det hf2; exact absurd h4 h3
    | bind hf2 _ _ _ hr2 => obtain ⟨rfl, rfl⟩ := hf.det hf2; exact ih hr2
    | unlike hf2 _ hh => obtain ⟨rfl, rfl⟩ := hf.det hf2; exact absurd h2 hh
    | plain hf2 _ hh => obtain ⟨rfl, rfl⟩ := hf.det hf2; exact absurd h2 hh
    | tops hf2 _ hh => obtain ⟨rfl, rfl⟩ := hf.det hf2; exact absurd h2 hh
  | unlike hf h h2 h3 =>
    intro r' h'
    cases h' with
    | off => rfl
    | skip hf2 hh => obtain ⟨rfl, rfl⟩ := hf.det hf2; exact absurd hh h
    | circle => rfl
    | bind hf2 _ hh => obtain ⟨rfl, rfl⟩ := hf.det hf2; exact absurd hh h2
    | unlike => rfl
    | plain hf2 _ _ hh => obtain ⟨rfl, rfl⟩ := hf.det hf2; exact absurd hh h3
    | tops hf2 _ _ hh => obtain ⟨rfl, rfl⟩ := hf.det hf2; exact absurd hh h3
  | plain hf h h2 h3 h4 hr ih =>
    intro r' h'
    cases h' with
    | off h2 => exact absurd h2 hf.on
    | skip hf2 hh => obtain ⟨rfl, rfl⟩ := hf.det hf2; exact absurd hh h
    | circle hf2 _ hh => obtain ⟨rfl, rfl⟩ := hf.det hf2; exact absurd hh h2
    | bind hf2 _ hh => obtain ⟨rfl, rfl⟩ := hf.det hf2; exact absurd hh h2
    | unlike hf2 _ _ hh => obtain ⟨rfl, rfl⟩ := hf.det hf2; exact absurd h3 hh
    | plain hf2 _ _ _ _ hr2 => exact ih hr2
    | tops hf2 _ _ _ hh => obtain ⟨rfl, rfl⟩ := hf.det hf2; exact absurd hh h4
  | tops hf h h2 h3 h4 hr ih =>
    intro r' h'
    cases h' with
    | off h2 => exact absurd h2 hf.on
    | skip hf2 hh => obtain ⟨rfl, rfl⟩ := hf.det hf2; exact absurd hh h
    | circle hf2 _ hh => obtain ⟨rfl, rfl⟩ := hf.det hf2; exact absurd hh h2
    | bind hf2 _ hh => obtain ⟨rfl, rfl⟩ := hf.det hf2; exact absurd hh h2
    | unlike hf2 _ _ hh => obtain ⟨rfl, rfl⟩ := hf.det hf2; exact absurd h3 hh
    | plain hf2 _ _ _ hh => obtain ⟨rfl, rfl⟩ := hf.det hf2; exact absurd h4 hh
    | tops hf2 _ _ _ _ hr2 => obtain ⟨rfl, rfl⟩ := hf.det hf2; exact ih hr2
theorem uout_some {xs xs' : List Cel} {ts ts' : List Int} {p q : Int} (h : URun xs ts [(p, q)] [] (some (xs', ts'))) {X : List Cel} {T : List Int} {b : Bool} (hu : UOut xs ts p q X T b) : X = xs' ∧ T = ts' ∧ b = true := by
  rcases hu with ⟨rfl, h2, rfl, rfl⟩ | ⟨rfl, h2⟩
  · have := h.det h2; simp at this
  · have := h.det h2; simp at this; exact ⟨this.1.symm, this.2.symm, rfl⟩
theorem uout_none {xs : List Cel} {ts : List Int} {p q : Int} (h : URun xs ts [(p, q)] [] none) {X : List Cel} {T : List Int} {b : Bool} (hu : UOut xs ts p q X T b) : X = xs ∧ T = ts ∧ b = false := by
  rcases hu with ⟨rfl, h2, rfl, rfl⟩ | ⟨rfl, h2⟩
  · exact ⟨rfl, rfl, rfl⟩
  · have := h.det h2; simp at this
def edgeB (l : List Cel) (a b : Nat) : Bool := if h : a < l.length then decide (leads1 l a l[a] ≤ (b : Int)) && decide ((b : Int) < leads2 l a l[a]) else false
theorem edgeB_iff {l : List Cel} {a b : Nat} : edgeB l a b = true ↔ edge l a b := by
  unfold edgeB edge
  constructor
  · intro h
    split at h
    · rename_i hl
      simp at h
      exact ⟨hl, h.1, h.2⟩
    · cases h
  · rintro ⟨hl, h1, h2⟩
    rw [dif_pos hl]
    simp [h1, h2]
theorem leaf_reach {l : List Cel} {k : Nat} (h : ∀ b, ¬ edge l k b) {c : Nat} (hr : Reach l k c) : k = c := by
  cases hr with
  | refl => rfl
  | step e _ => exact absurd e (h _)
theorem hd_u1 : URun hdG [] [(1, 6)] [] (some (hdU, [1])) := by
  refine .bind (x := 1) (y := 6) ⟨1, 6, by decide +kernel, by decide +kernel, rfl, rfl⟩ (by decide +kernel) (by decide +kernel) ?_ ?_
  · rw [show giveT hdG 1 6 = 6 by decide +kernel, show giveA hdG 1 6 = 1 by decide +kernel]
    intro h
    have := leaf_reach (fun b he => ?_) h
    · omega
    · have h7 := he.lt.2
      have : ∀ b, b < 7 → edgeB hdG 6 b = false := by decide +kernel
      have h8 := this b h7
      rw [edgeB_iff.2 he] at h8
      cases h8
  · rw [show bindS hdG (giveA hdG 1 6) (giveT hdG 1 6) = hdU by decide +kernel, show ([] : List Int) ++ [(giveA hdG 1 6 : Int)] = [1] by decide +kernel]
    exact .done _ _ _
theorem hd_u2 : URun hdG [] [(1, 2)] [] none := by
  refine .circle (x := 1) (y := 4) ⟨1, 4, by decide +kernel, by decide +kernel, rfl, rfl⟩ (by decide +kernel) (by decide +kernel) ?_
  rw [show giveT hdG 1 4 = 4 by decide +kernel, show giveA hdG 1 4 = 1 by decide +kernel]
  exact .step (b := 5) (edgeB_iff.1 (by decide +kernel)) (.one (edgeB_iff.1 (by decide +kernel)))
theorem hd_right : RightP hdU [1] 7 := by
  refine ⟨by omega, by omega, by decide, ?_, ?_, ?_⟩
  · have : ∀ k : Nat, k < 7 → slotB hdU k (cellN hdU k) = true := by decide +kernel
    intro k hk
    have h := this k hk
    rwa [cellN_at hk] at h
  · refine acyc_of_rank (fun k => [5, 1, 4, 0, 3, 2, 0].getD k 0) fun a b e => ?_
    have : ∀ a : Nat, a < 7 → ∀ b : Nat, b < 7 → edgeB hdU a b = true → [5, 1, 4, 0, 3, 2, 0].getD b 0 < [5, 1, 4, 0, 3, 2, 0].getD a 0 := by decide +kernel
    exact this a e.lt.1 b e.lt.2 (edgeB_iff.2 e)
  · refine ⟨fun t ht => ?_, by simp⟩
    simp at ht
    subst ht
    exact ⟨1, rfl, by decide, by decide +kernel, by decide +kernel⟩
theorem hd_wrong : ¬ RightP [] [] 0 := fun h => by have := h.r1; omega
theorem few_of {xs : List Cel} (h : (xs.all fun c => !decide (c.k = 4) || decide (c.n ≤ 6)) = true) : Few xs := by
  intro k hk
  by_cases hl : k < xs.length
  · rw [cellN_at hl] at hk ⊢
    have := List.all_eq_true.1 h _ (List.getElem_mem hl)
    simp [hk] at this
    exact this
  · unfold cellN at hk
    rw [List.getD_eq_getElem?_getD, List.getElem?_eq_none (by omega)] at hk
    simp at hk
theorem hdG_few : Few hdG := few_of (by decide +kernel)
/-- Put at a known answer -/
theorem put_known {a : Option Addr} {cap : Nat} {a' : Option Addr} {cap' : Nat} {r : Int} {b : Option Addr} {cab : Nat} {c : Option Addr} {cac : Nat} {w : World} {xs : List Cel} {ts ps : List Int} {T : List Cel} (t : Tm) (hx : Row w a cap xs) (ht : Row w a' cap' ts) (hT : Row w b cab T) (hp : Row w c cac ps)
    (hTt : t.flat = T) (hok : t.ok) (h200 : T.length ≤ 200) (hl : xs.length ≤ 5000) (hl2 : ts.length ≤ 800000) (hl3 : ps.length ≤ 1000) (hkn : (varsL T).all (knownV xs.length ps) = true) {X : List Cel} {P : Int} {A : List Int} (hS : putS xs (widenL ps (varsL T)) t = ((X, A), P)) (hr : (X.length : Int) ≤ r) :
    Calls Try.prog 20 #[hv a xs.length cap a' ts.length cap' r, .slice b T.length cab, .slice c ps.length cac] w fun e w' => ∃ a2 c2 a3 c3 a4 c4, e = .returned (.tuple #[hv a2 X.length c2 a3 ts.length c3 r, .int .i64 P, .slice a4 A.length c4, .int .i64 0]) ∧ Row w' a2 c2 X ∧ Row w' a3 c3 ts ∧ Row w' a4 c4 A ∧ Below w.heap.size w w' := by
  subst hTt
  refine (hput_any a cap a' cap' r b cab c cac w xs ts ps t hx ht hT hp hok h200 hl hl2 hl3 hkn).mono ?_
  rintro e w1 ⟨xs', pl, at', er, a2, c2, a3, c3, a4, c4, rfl, hP, h1, h2, h3, hb⟩
  rw [hS] at hP
  rcases hP with ⟨h, _⟩ | ⟨_, rfl, rfl, rfl, rfl⟩
  · exact absurd hr (by simpa using h)
  · exact ⟨a2, c2, a3, c3, a4, c4, rfl, h1.row, h2.row, h3.row, hb⟩
theorem put_full {a : Option Addr} {cap : Nat} {a' : Option Addr} {cap' : Nat} {r : Int} {b : Option Addr} {cab : Nat} {c : Option Addr} {cac : Nat} {w : World} {xs : List Cel} {ts ps : List Int} {T : List Cel} (t : Tm) (hx : Row w a cap xs) (ht : Row w a' cap' ts) (hT : Row w b cab T) (hp : Row w c cac ps)
    (hTt : t.flat = T) (hok : t.ok) (h200 : T.length ≤ 200) (hl : xs.length ≤ 5000) (hl2 : ts.length ≤ 800000) (hl3 : ps.length ≤ 1000) (hkn : (varsL T).all (knownV xs.length ps) = true) (hr : r < ((putS xs (widenL ps (varsL T)) t).1.1.length : Int)) :
    Calls Try.prog 20 #[hv a xs.length cap a' ts.length cap' r, .slice b T.length cab, .slice c ps.length cac] w fun e w' => ∃ a2 c2 a3 c3 a4 c4, e = .returned (.tuple #[hv a2 xs.length c2 a3 ts.length c3 r, .int .i64 0, .slice a4 0 c4, .int .i64 80]) ∧ Row w' a2 c2 xs ∧ Row w' a3 c3 ts ∧ Row w' a4 c4 ([] : List Int) ∧ Below w.heap.size w w' := by
  subst hTt
  refine (hput_any a cap a' cap' r b cab c cac w xs ts ps t hx ht hT hp hok h200 hl hl2 hl3 hkn).mono ?_
  rintro e w1 ⟨xs', pl, at', er, a2, c2, a3, c3, a4, c4, rfl, hP, h1, h2, h3, hb⟩
  rcases hP with ⟨_, rfl, rfl, rfl, rfl⟩ | ⟨h, _⟩
  · exact ⟨a2, c2, a3, c3, a4, c4, rfl, h1.row, h2.row, h3.row, hb⟩
  · exact absurd hr (by omega)
/-- Unify at a known answer -/
theorem unify_known {a : Option Addr} {cap : Nat} {a' : Option Addr} {cap' : Nat} {r : Int} {p q : Int} {w : World} {xs : List Cel} {ts : List Int} (hx : Row w a cap xs) (ht : Row w a' cap' ts) (hl : xs.length ≤ 5000) (hl2 : ts.length ≤ 800000) (hf : pfit (p, q)) (hw : Few xs) {X : List Cel} {T : List Int} {b : Bool}
    (h : ∀ {X' T' b'}, UOut xs ts p q X' T' b' → X' = X ∧ T' = T ∧ b' = b) :
    Calls Try.prog 24 #[hv a xs.length cap a' ts.length cap' r, .int .i64 p, .int .i64 q] w fun e w' => ∃ a2 c2 a3 c3, e = .returned (.tuple #[hv a2 X.length c2 a3 T.length c3 r, .bool b]) ∧ Row w' a2 c2 X ∧ Row w' a3 c3 T ∧ Below w.heap.size w w' := by
  refine (hunify a cap a' cap' r p q w xs ts hx ht hl hl2 hf hw).mono ?_
  rintro e w1 ⟨xs', ts', t, a2, c2, a3, c3, rfl, hU, h1, h2, hb⟩
  obtain ⟨rfl, rfl, rfl⟩ := h hU
  exact ⟨a2, c2, a3, c3, rfl, h1.row, h2.row, hb⟩
end Go.Proofs.Ytefnmjoapmnkbaa
set_option linter.unusedVariables false
namespace Go.Proofs.Ytefnmjoapmnkbaa
open Go.RowKit

theorem v8_any (n : Int) (w : World) : Calls Try.prog 36 #[.int .i64 n] w fun e w' => e = .returned (.agg #[.int .i64 1, .string ⟨#[]⟩, .int .i64 n]) ∧ Below w.heap.size w w' := by
  have hb := ((Below.refl w.heap.size w).new (.cells #[.int .i64 1, .string ⟨#[]⟩, .int .i64 n] 54))
  go_enter Try.func36, Try.ntmps36
  go_wp2
  exact bodyPost_ret (v := .agg #[.int .i64 1, .string ⟨#[]⟩, .int .i64 n]) (by simp [results, Try.results36, go_sem]) rfl ⟨rfl, hb⟩
theorem n8_any (n : Int) (w : World) : Calls Try.prog 49 #[.int .i64 n] w fun e w' => e = .returned (.agg #[.int .i64 2, .string ⟨#[]⟩, .int .i64 n]) ∧ Below w.heap.size w w' := by
  have hb := ((Below.refl w.heap.size w).new (.cells #[.int .i64 2, .string ⟨#[]⟩, .int .i64 n] 54))
  go_enter Try.func49, Try.ntmps49
  go_wp2
  exact bodyPost_ret (v := .agg #[.int .i64 2, .string ⟨#[]⟩, .int .i64 n]) (by simp [results, Try.results49, go_sem]) rfl ⟨rfl, hb⟩
theorem f8_any (s : ByteArray) (n : Int) (w : World) : Calls Try.prog 48 #[.string s, .int .i64 n] w fun e w' => e = .returned (.agg #[.int .i64 3, .string s, .int .i64 n]) ∧ Below w.heap.size w w' := by
  have hb := ((Below.refl w.heap.size w).new (.cells #[.int .i64 3, .string s, .int .i64 n] 54))
  go_enter Try.func48, Try.ntmps48
  go_wp2
  exact bodyPost_ret (v := .agg #[.int .i64 3, .string s, .int .i64 n]) (by simp [results, Try.results48, go_sem]) rfl ⟨rfl, hb⟩
def fitB (c : Cel) : Bool := decide (-9223372036854775808 ≤ c.k) && decide (c.k ≤ 9223372036854775807) && decide (-9223372036854775808 ≤ c.n) && decide (c.n ≤ 9223372036854775807) && decide (c.s.size ≤ 1000)
theorem fit_of {c : Cel} (h : fitB c = true) : c.fit := by
  unfold fitB at h
  simp only [Bool.and_eq_true, decide_eq_true_eq] at h
  obtain ⟨⟨⟨⟨h1, h2⟩, h3⟩, h4⟩, h5⟩ := h
  exact ⟨h1, h2, h3, h4, by omega⟩
theorem fits_of {xs : List Cel} (h : xs.all fitB = true) : ∀ c ∈ xs, c.fit := fun c hc => fit_of (List.all_eq_true.1 h c hc)
theorem cellsH (w : World) (xs : List Cel) (n : Nat) (vs : Array Value) (hv : (flat xs).toArray = vs) (hn : xs.length = n) (h : xs.all fitB = true) (hl : xs.length ≤ 1000) (T : TypeId) : Row (w.alloc (.cells vs T)) (some ⟨w.heap.size, 0, none⟩) n xs := by
  subst hv; subst hn
  obtain ⟨a, cap, e, hr⟩ := own_row (w := w.alloc (.cells (flat xs).toArray T)) (B := w.heap.size) (e := T) (v := .slice (some ⟨w.heap.size, 0, none⟩) xs.length xs.length) (xs := xs)
    ⟨flat_length xs, .inr ⟨w.heap.size, xs.length, _, rfl, Nat.le_refl _, heap_alloc_new w _, Nat.le_refl _, by unfold maxLen; omega, by simp [flat_length], by rw [List.take_of_length_le (by simp [flat_length])]⟩⟩ (fits_of h)
  cases e
  exact hr
theorem nil_row {α : Type} [Rep α] (w : World) : Row w none 0 ([] : List α) := Row.empty w none 0 (by omega) (fun _ => rfl)
theorem putK {a : Option Addr} {cap : Nat} {a' : Option Addr} {cap' : Nat} {r : Int} {b : Option Addr} {cab : Nat} {c : Option Addr} {cac : Nat} {w : World} {xs : List Cel} {ts ps : List Int} {T : List Cel} (t : Tm) (hx : Row w a cap xs) (ht : Row w a' cap' ts) (hT : Row w b cab T) (hp : Row w c cac ps)
    (hTt : t.flat = T) (hok : t.ok) (h200 : T.length ≤ 200) (hl : xs.length ≤ 5000) (hl2 : ts.length ≤ 800000) (hl3 : ps.length ≤ 1000) (hkn : (varsL T).all (knownV xs.length ps) = true) {X : List Cel} {P : Int} {A : List Int} (hS : putS xs (widenL ps (varsL T)) t = ((X, A), P)) (hr : (X.length : Int) ≤ r)
    {n m k q n2 k2 : Nat} (h1 : xs.length = n) (h2 : ts.length = m) (h3 : T.length = k) (h4 : ps.length = q) (h5 : X.length = n2) (h6 : A.length = k2) :
    Calls Try.prog 20 #[hv a n cap a' m cap' r, .slice b k cab, .slice c q cac] w fun e w' => ∃ a2 c2 a3 c3 a4 c4, e = .returned (.tuple #[hv a2 n2 c2 a3 m c3 r, .int .i64 P, .slice a4 k2 c4, .int .i64 0]) ∧ Row w' a2 c2 X ∧ Row w' a3 c3 ts ∧ Row w' a4 c4 A ∧ Below w.heap.size w w' := by
  subst h1; subst h2; subst h3; subst h4; subst h5; subst h6
  exact put_known t hx ht hT hp hTt hok h200 hl hl2 hl3 hkn hS hr
theorem putF {a : Option Addr} {cap : Nat} {a' : Option Addr} {cap' : Nat} {r : Int} {b : Option Addr} {cab : Nat} {c : Option Addr} {cac : Nat} {w : World} {xs : List Cel} {ts ps : List Int} {T : List Cel} (t : Tm) (hx : Row w a cap xs) (ht : Row w a' cap' ts) (hT : Row w b cab T) (hp : Row w c cac ps)
    (hTt : t.flat = T) (hok : t.ok) (h200 : T.length ≤ 200) (hl : xs.length ≤ 5000) (hl2 : ts.length ≤ 800000) (hl3 : ps.length ≤ 1000) (hkn : (varsL T).all (knownV xs.length ps) = true) (hr : r < ((putS xs (widenL ps (varsL T)) t).1.1.length : Int))
    {n m k q : Nat} (h1 : xs.length = n) (h2 : ts.length = m) (h3 : T.length = k) (h4 : ps.length = q) :
    Calls Try.prog 20 #[hv a n cap a' m cap' r, .slice b k cab, .slice c q cac] w fun e w' => ∃ a2 c2 a3 c3 a4 c4, e = .returned (.tuple #[hv a2 n c2 a3 m c3 r, .int .i64 0, .slice a4 0 c4, .int .i64 80]) ∧ Row w' a2 c2 xs ∧ Row w' a3 c3 ts ∧ Row w' a4 c4 ([] : List Int) ∧ Below w.heap.size w w' := by
  subst h1; subst h2; subst h3; subst h4
  exact put_full t hx ht hT hp hTt hok h200 hl hl2 hl3 hkn hr
theorem uniK {a : Option Addr} {cap : Nat} {a' : Option Addr} {cap' : Nat} {r : Int} {p q : Int} {w : World} {xs : List Cel} {ts : List Int} (hx : Row w a cap xs) (ht : Row w a' cap' ts) (hl : xs.length ≤ 5000) (hl2 : ts.length ≤ 800000) (hf : pfit (p, q)) (hw : Few xs) {X : List Cel} {T : List Int} {b : Bool}
    (h : ∀ {X' T' b'}, UOut xs ts p q X' T' b' → X' = X ∧ T' = T ∧ b' = b) {n m n2 m2 : Nat} (h1 : xs.length = n) (h2 : ts.length = m) (h3 : X.length = n2) (h4 : T.length = m2) :
    Calls Try.prog 24 #[hv a n cap a' m cap' r, .int .i64 p, .int .i64 q] w fun e w' => ∃ a2 c2 a3 c3, e = .returned (.tuple #[hv a2 n2 c2 a3 m2 c3 r, .bool b]) ∧ Row w' a2 c2 X ∧ Row w' a3 c3 T ∧ Below w.heap.size w w' := by
  subst h1; subst h2; subst h3; subst h4
  exact unify_known hx ht hl hl2 hf hw h
theorem getK {a : Option Addr} {cap : Nat} {a' : Option Addr} {n' cap' : Nat} {r i : Int} {w : World} {l : List Cel} (hr : Row w a cap l) (hl : l.length ≤ 5000) (i1 : -9223372036854775808 ≤ i) (i2 : i ≤ 9223372036854775807) {X : List Cel} (h : getL l i = X ∧ getB l i = true) {n n2 : Nat} (h1 : l.length = n) (h2 : X.length = n2) :
    Calls Try.prog 22 #[hv a n cap a' n' cap' r, .int .i64 i] w fun e w' => ∃ a2 c2, e = .returned (.tuple #[.slice a2 n2 c2, .bool true]) ∧ Row w' a2 c2 X ∧ Below w.heap.size w w' := by
  subst h1; subst h2
  obtain ⟨rfl, hb⟩ := h
  have := hget_any a cap a' n' cap' r i w l hr hl i1 i2
  rw [hb] at this
  exact this
theorem undoK {a : Option Addr} {cap : Nat} {a' : Option Addr} {cap' : Nat} {r mc mt : Int} {ra : Option Addr} {rn rc : Nat} {w : World} {xs : List Cel} {ts : List Int} (hx : Row w a cap xs) (ht : Row w a' cap' ts) (hl : xs.length ≤ 1000000) (hl2 : ts.length ≤ 1000000)
    (h1 : -9223372036854775808 ≤ mc) (h2 : mc ≤ 9223372036854775807) (h3 : -9223372036854775808 ≤ mt) (h4 : mt ≤ 9223372036854775807) {X : List Cel} {T : List Int} (hX : undoL xs ts mc mt = X) (hT : ts.take (begN ts.length mt) = T) {n m n2 m2 : Nat} (k1 : xs.length = n) (k2 : ts.length = m) (k3 : X.length = n2) (k4 : begN m mt = m2) :
    Calls Try.prog 30 #[hv a n cap a' m cap' r, .agg #[.int .i64 mc, .int .i64 mt, .slice ra rn rc]] w fun e w' => ∃ a2 cap2 a3 cap3, e = .returned (hv a2 n2 cap2 a3 m2 cap3 r) ∧ Row w' a2 cap2 X ∧ Row w' a3 cap3 T ∧ Below w.heap.size w w' := by
  subst k1; subst k2; subst k3; subst k4; subst hX; subst hT
  exact undo_any a cap a' cap' r mc mt ra rn rc w xs ts hx ht hl hl2 h1 h2 h3 h4
theorem intsK {a : Option Addr} {cap : Nat} {a' : Option Addr} {cap' : Nat} {w : World} {xs : List Int} (hx : Row w a cap xs) (hy : Row w a' cap' xs) {n : Nat} (h : xs.length = n) :
    Calls Try.prog 28 #[.slice a n cap, .slice a' n cap'] w fun e w' => e = .returned (.bool true) ∧ Below w.heap.size w w' := by
  subst h
  have := refints_any a cap a' cap' w xs xs hx hy
  rwa [show decide (xs = xs) = true by simp] at this
theorem sameK {a : Option Addr} {cap : Nat} {b : Option Addr} {cab : Nat} {r : Int} {a' : Option Addr} {cap' : Nat} {b' : Option Addr} {cab' : Nat} {w : World} {xs : List Cel} {ts : List Int}
    (hx : Row w a cap xs) (hy : Row w a' cap' xs) (ht : Row w b cab ts) (hu : Row w b' cab' ts) {n m : Nat} (h : xs.length = n) (h2 : ts.length = m) :
    Calls Try.prog 15 #[hv a n cap b m cab r, hv a' n cap' b' m cab' r] w fun e w' => e = .returned (.bool true) ∧ Below w.heap.size w w' := by
  subst h; subst h2
  have := refsameh_any a cap b cab r a' cap' b' cab' r w xs xs ts ts hx hy ht hu
  rwa [show decide (xs = xs ∧ ts = ts ∧ r = r) = true by simp] at this
theorem sameTK {a : Option Addr} {cap : Nat} {a' : Option Addr} {cap' : Nat} {w : World} {xs : List Cel} (hx : Row w a cap xs) (hy : Row w a' cap' xs) {n : Nat} (h : xs.length = n) :
    Calls Try.prog 29 #[.slice a n cap, .slice a' n cap'] w fun e w' => e = .returned (.bool true) ∧ Below w.heap.size w w' := by
  subst h
  have := refsame_any a cap a' cap' w xs xs hx hy
  rwa [show decide (xs = xs) = true by simp] at this
theorem rightK {a : Option Addr} {cap : Nat} {a' : Option Addr} {cap' : Nat} {r : Int} {w : World} {l : List Cel} {ts : List Int} (hr : Row w a cap l) (ht : Row w a' cap' ts) (hl : l.length ≤ 1000000) {b : Bool} (h : b = true ↔ RightP l ts r) {n m : Nat} (h1 : l.length = n) (h2 : ts.length = m) :
    Calls Try.prog 13 #[hv a n cap a' m cap' r] w fun e w' => e = .returned (.bool b) ∧ Below w.heap.size w w' := by
  subst h1; subst h2
  refine (hright_any a cap a' cap' r w l ts hr ht hl).mono ?_
  rintro e w1 ⟨⟨b', rfl, hB⟩, hb⟩
  refine ⟨?_, hb⟩
  rw [show b' = b from Bool.eq_iff_iff.2 (hB.trans h.symm)]
end Go.Proofs.Ytefnmjoapmnkbaa
set_option linter.unusedVariables false
namespace Go.Proofs.Ytefnmjoapmnkbaa
open Go.RowKit

/-! ### boxes of heaps -/
/-- a box that was just made -/
def ZB (W : World) (V : Nat) : Prop := W.heap[V]? = some (.cells #[.slice none 0 0, .slice none 0 0, .int .i64 0] 25 (0, 0))
/-- a box that holds a heap -/
structure HBx (W : World) (V : Nat) (a : Option Addr) (n c : Nat) (a' : Option Addr) (n' c' : Nat) (r : Int) : Prop where
  c0 : W.cell? ⟨V, 0, none⟩ = some (.slice a n c)
  c1 : W.cell? ⟨V, 1, none⟩ = some (.slice a' n' c')
  c2 : W.cell? ⟨V, 2, none⟩ = some (.int .i64 r)
theorem HBx.below {W W' : World} {V : Nat} {a : Option Addr} {n c : Nat} {a' : Option Addr} {n' c' : Nat} {r : Int} (h : HBx W V a n c a' n' c' r) (hb : Below W.heap.size W W') : HBx W' V a n c a' n' c' r := ⟨keep h.c0 hb, keep h.c1 hb, keep h.c2 hb⟩
section
variable {W W' : World} {V : Nat}
theorem ZB.new (W : World) : ZB (W.alloc (.cells #[.slice none 0 0, .slice none 0 0, .int .i64 0] 25)) W.heap.size := heap_alloc_new W _
theorem ZB.lt (h : ZB W V) : V < W.heap.size := by
  unfold ZB at h
  exact (Array.getElem?_eq_some_iff.1 h).1
theorem ZB.below (h : ZB W V) (hb : Below W.heap.size W W') : ZB W' V := (hb.block V h.lt).trans h
theorem ZB.cell (h : ZB W V) (k : Nat) : W.cell? ⟨V, k, none⟩ = (#[Value.slice none 0 0, .slice none 0 0, .int .i64 0])[k]? := cell_of_row W V k _ _ _ h
theorem ZB.froz (h : ZB W V) (k : Nat) : W.frozen? ⟨V, k, none⟩ = false := by
  unfold ZB at h
  simp [World.frozen?, h]
theorem ZB.cel (h : ZB W V) {b o : Nat} {x : Cel} (hc : CelAt W b o x) : b ≠ V := by
  rintro rfl
  have h0 := hc.c0
  have h1 := hc.c1
  rw [h.cell] at h0 h1
  match o with
  | 0 => simp at h0
  | 1 => simp at h0
  | 2 => simp at h1
  | o + 3 => simp at h0
theorem ZB.int (h : ZB W V) {b o : Nat} {x : Int} (hc : IntE W b o x) (hx : x ≠ 0) : b ≠ V := by
  rintro rfl
  have h0 := hc.c
  rw [h.cell] at h0
  match o with
  | 0 => simp at h0
  | 1 => simp at h0
  | 2 => simp at h0; exact hx h0.symm
  | o + 3 => simp at h0
/-- all but the box is as it was -/
def Oth (V : Nat) (W W' : World) : Prop := ∀ b o v, b ≠ V → W.cell? ⟨b, o, none⟩ = some v → W'.cell? ⟨b, o, none⟩ = some v
theorem Oth.set3 (W : World) (V : Nat) (x y z : Value) : Oth V W (((W.setCell ⟨V, 0, none⟩ x).setCell ⟨V, 1, none⟩ y).setCell ⟨V, 2, none⟩ z) := fun b o v hb h =>
  (World.cell?_of_block (a := ⟨b, o, none⟩) ((set3_grown V W x y z).block b (cell_lt h) (fun e => hb (by injection e)))).trans h
theorem Oth.cels (ho : Oth V W W') (hz : ZB W V) {a : Option Addr} {c : Nat} {xs : List Cel} (hr : Row W a c xs) : Row W' a c xs :=
  ⟨hr.le, hr.max, hr.nil, fun i x hi => by
    obtain ⟨b, off, e, he⟩ := hr.at_ i x hi
    have hn := hz.cel he
    exact ⟨b, off, e, ⟨ho _ _ _ hn he.c0, ho _ _ _ hn he.c1, ho _ _ _ hn he.c2, he.fit⟩⟩⟩
theorem Oth.ints (ho : Oth V W W') (hz : ZB W V) {a : Option Addr} {c : Nat} {xs : List Int} (hr : Row W a c xs) (h0 : ∀ x ∈ xs, x ≠ 0) : Row W' a c xs :=
  ⟨hr.le, hr.max, hr.nil, fun i x hi => by
    obtain ⟨b, off, e, he⟩ := hr.at_ i x hi
    have hn := hz.int he (h0 x (List.mem_of_getElem? hi))
    exact ⟨b, off, e, ⟨ho _ _ _ hn he.c, he.lo, he.hi⟩⟩⟩
theorem HBx.set3 {a : Option Addr} {n c : Nat} {a' : Option Addr} {n' c' : Nat} {r : Int} (hz : ZB W V) : HBx (((W.setCell ⟨V, 0, none⟩ (.slice a n c)).setCell ⟨V, 1, none⟩ (.slice a' n' c')).setCell ⟨V, 2, none⟩ (.int .i64 r)) V a n c a' n' c' r := by
  have hz' := hz
  unfold ZB at hz'
  have key : (((W.setCell ⟨V, 0, none⟩ (.slice a n c)).setCell ⟨V, 1, none⟩ (.slice a' n' c')).setCell ⟨V, 2, none⟩ (.int .i64 r)).heap[V]? = some (.cells #[.slice a n c, .slice a' n' c', .int .i64 r] 25 (0, 0)) := by
    simp [World.setCell, Array.getElem?_modify, hz', Option.map_some]
  exact ⟨cell_of_row _ V 0 _ _ _ key, cell_of_row _ V 1 _ _ _ key, cell_of_row _ V 2 _ _ _ key⟩
end
theorem intH (w : World) (T : TypeId) : Row (w.alloc (.cells #[.int .i64 1] T)) (some ⟨w.heap.size, 0, none⟩) 1 ([1] : List Int) := by
  refine ⟨by decide, by omega, (fun e => by cases e), fun i x hi => ?_⟩
  match i with
  | 0 =>
    simp at hi
    subst hi
    exact ⟨w.heap.size, 0, rfl, ⟨World.cell?_alloc_at _ _ _ 0 rfl, by omega, by omega⟩⟩
  | i + 1 => simp at hi
theorem markK {a : Option Addr} {n cap : Nat} {a' : Option Addr} {n' cap' : Nat} {r : Int} (w : World) {x y : Int} (hx : (n : Int) = x) (hy : (n' : Int) = y) :
    Calls Try.prog 26 #[hv a n cap a' n' cap' r, .slice none 0 0] w fun e w' => ∃ a2 c2, e = .returned (.agg #[.int .i64 x, .int .i64 y, .slice a2 0 c2]) ∧ Below w.heap.size w w' := by
  subst hx; subst hy
  refine (mark_any a n cap a' n' cap' r none 0 w [] (nil_row _) (by decide)).mono ?_
  rintro e w1 ⟨a2, c2, rfl, _, hb⟩
  exact ⟨a2, c2, rfl, hb⟩
end Go.Proofs.Ytefnmjoapmnkbaa
