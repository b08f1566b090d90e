import Derived.Test.YtlddglajdcednaaZr3
import Derived.Test.YtlddglajdcednaaRows
import Derived.Shelf.Spec.SlicesGrow
import Derived.Deep.RegionHeld3
import Derived.WalkMore
import Derived.WalkSmall
import Derived.OwnWalkIn
import Derived.Deep.LoopGhost
namespace Go.Proofs.Ytlddglajdcednaa
open Go.RowKit

theorem clone_new2 (a : Option Addr) (cap : Nat) (w : World) (xs : List Cel) (hx : Row w a cap xs) (hl : xs.length ≤ 1000000) :
    Calls Try.prog 51 #[.slice a xs.length cap] w fun e w' => ∃ a2 cap2, e = .returned (.slice a2 xs.length cap2) ∧ NewRow w.heap.size w' a2 cap2 xs ∧ Below w.heap.size w w' :=
  (clone_any a cap w xs hx hl).mono fun e w' ⟨v, he, ho, hb⟩ => by
    obtain ⟨a2, cap2, rfl, hr⟩ := own_new ho hx.fit
    exact ⟨a2, cap2, he, hr, hb⟩

/-! ### what the map of images holds -/
theorem img_keeps : ∀ (p t : List Cel) (f g : Int → Option (List Cel)), imgGo p t f = some g → ∀ i, (f i).isSome → (g i).isSome
  | [], t, f, g, h, i, hi => by simp [imgGo] at h; subst h; exact hi
  | c :: p, t, f, g, h, i, hi => by
    simp only [imgGo] at h
    split at h
    · cases hr : sk 1 t with
      | none => rw [hr] at h; cases h
      | some r =>
        rw [hr] at h
        simp only at h
        split at h
        · refine img_keeps p r _ g h i ?_
          unfold updF
          split
          · rfl
          · exact hi
        · cases h
    · cases t with
      | nil => cases h
      | cons d t' =>
        simp only at h
        split at h
        · exact img_keeps p t' f g h i hi
        · cases h
theorem img_all : ∀ (p t : List Cel) (f g : Int → Option (List Cel)), imgGo p t f = some g → ∀ c ∈ p, c.k = 1 → (g c.n).isSome
  | [], t, f, g, h, c, hc, _ => by simp at hc
  | d :: p, t, f, g, h, c, hc, h1 => by
    simp only [imgGo] at h
    split at h
    · next hd =>
      cases hr : sk 1 t with
      | none => rw [hr] at h; cases h
      | some r =>
        rw [hr] at h
        simp only at h
        split at h
        · rcases List.mem_cons.1 hc with rfl | hc
          · exact img_keeps p r _ g h _ (by unfold updF; simp)
          · exact img_all p r _ g h c hc h1
        · cases h
    · next hd =>
      cases t with
      | nil => cases h
      | cons e t' =>
        simp only at h
        split at h
        · rcases List.mem_cons.1 hc with rfl | hc
          · exact absurd h1 hd
          · exact img_all p t' f g h c hc h1
        · cases h
theorem img_range {n : Nat} : ∀ (p t : List Cel) (f g : Int → Option (List Cel)), imgGo p t f = some g → t.length ≤ n → (∀ i q, f i = some q → 1 ≤ q.length ∧ q.length ≤ n) → ∀ i q, g i = some q → 1 ≤ q.length ∧ q.length ≤ n
  | [], t, f, g, h, _, hf, i, q, hq => by simp [imgGo] at h; subst h; exact hf i q hq
  | c :: p, t, f, g, h, hn, hf, i, q, hq => by
    simp only [imgGo] at h
    split at h
    · cases hr : sk 1 t with
      | none => rw [hr] at h; cases h
      | some r =>
        rw [hr] at h
        simp only at h
        have h1 := sk_pos (m := 0) hr
        split at h
        · refine img_range p r _ g h (by omega) (fun i q hq => ?_) i q hq
          unfold updF at hq
          split at hq
          · cases hq; simp; omega
          · exact hf i q hq
        · cases h
    · cases t with
      | nil => cases h
      | cons d t' =>
        simp only at h
        simp only [List.length_cons] at hn
        split at h
        · exact img_range p t' f g h (by omega) hf i q hq
        · cases h
theorem riseI_mem {xs : List Int} {n : Int} (h : n ∈ riseI xs) : n ∈ xs := by
  have h1 := compact_sub (sortI xs).toArray (sortI xs).length (by simp) n h
  have h2 : n ∈ sortI xs := by simpa using h1
  unfold sortI at h2
  exact List.mem_mergeSort.1 h2
theorem varsGo_src2 (xs : List Cel) : ∀ (acc : List Int) (n : Int), n ∈ varsGo acc xs → n ∈ acc ∨ ∃ c ∈ xs, c.k = 1 ∧ c.n = n := by
  induction xs with
  | nil => intro acc n h; exact .inl h
  | cons c l ih =>
    intro acc n h
    rcases ih _ n h with h | ⟨d, hd, h1, h2⟩
    · split at h
      · rename_i hc
        rcases List.mem_append.1 h with h | h
        · exact .inl h
        · simp at h; exact .inr ⟨c, by simp, hc.1, h.symm⟩
      · exact .inl h
    · exact .inr ⟨d, by simp [hd], h1, h2⟩
/-- what Match tells -/
def matchL (p t : List Cel) : List Bnd := match imgGo p t (fun _ => none) with
  | none => []
  | some f => bindL (fun v => (f v).getD []) (riseI (varsL p))
def matchB (p t : List Cel) : Bool := (imgGo p t (fun _ => none)).isSome
theorem MapTB.get {w0 w : World} {m n : Nat} {f : Int → Option (List Cel)} (h : MapTB w0 w m n f) {i : Int} {q : List Cel} (hq : f i = some q) (hi : (Lit.int .i64 i).wf = true) :
    ∃ a cap, (Instr.lookup 66 (.map (some m)) (.int .i64 i) false).run Try.prog w = .ok (.slice a q.length cap) w ∧ Row w0 a cap q := by
  obtain ⟨g, h1, h2⟩ := h.ex
  have h3 := h2 i
  rw [hq] at h3
  obtain ⟨a, cap, e, hr⟩ := h3
  have hrun := h1.run_look (t := 66) (e := 22) Try.underlying3 Try.underlying66 (Try.zeroCells2 w) hi
  rw [e] at hrun
  exact ⟨a, cap, hrun, hr⟩
set_option maxHeartbeats 800000 in
theorem match1_any {w0 : World} {m n : Nat} {f : Int → Option (List Cel)} (T6 : Nat) (W : World) (v : Int) (q : List Cel) (hM : MapTB w0 W m n f) (hw : Below w0.heap.size w0 W) (hT : W.cell? ⟨T6, 0, none⟩ = some (.map (some m))) (hq : f v = some q) (hv : (Lit.int .i64 v).wf = true) (hl : q.length ≤ 1000) :
    Calls Try.prog 50 #[.int .i64 v, .pointer (some ⟨T6, 0, none⟩)] W fun e W' => ∃ a cap, e = .returned (.tuple #[.slice a q.length cap, .bool true]) ∧ NewRow W.heap.size W' a cap q ∧ Below W.heap.size W W' := by
  obtain ⟨a, cap, hrun, hr⟩ := hM.get hq hv
  have hr2 := hr.below hw
  go_enter Try.func50, Try.ntmps50
  go_wp2_with fail
  refine (clone_new2 a cap _ q hr2 (by omega)).mono ?_; rintro e w1 ⟨a2, cap2, rfl, hr3, hb⟩
  go_wp2_with fail
  go_ret2
  exact ⟨a2, cap2, rfl, hr3, hb⟩

set_option maxHeartbeats 3200000 in
set_option maxRecDepth 100000 in
theorem match_any (a : Option Addr) (cap : Nat) (a' : Option Addr) (cap' : Nat) (w : World) (p t : List Cel) (hp : Row w a cap p) (ht : Row w a' cap' t) (rp : rightB p = true) (rt : rightB t = true) :
    Calls Try.prog 15 #[.slice a p.length cap, .slice a' t.length cap'] w fun e w' => ∃ a2 cap2, e = .returned (.tuple #[.slice a2 (matchL p t).length cap2, .bool (matchB p t)]) ∧ Row w' a2 cap2 (matchL p t) ∧ Below w.heap.size w w' := by
  have hm := hp.max
  have hle := hp.le
  have hm2 := ht.max
  have hle2 := ht.le
  have hpl : p.length ≤ 200 := (right_sk rp).elim fun c h => h.elim fun l h => by obtain ⟨rfl, _, _, h⟩ := h; exact h
  have htl : t.length ≤ 200 := (right_sk rt).elim fun c h => h.elim fun l h => by obtain ⟨rfl, _, _, h⟩ := h; exact h
  have HP := mkHid rp
  have HT := mkHid rt
  clear rp rt
  cases hI : imgGo p t (fun _ => none) with
  | none =>
    have HL : Hid (matchL p t = []) := by rw [Hid]; unfold matchL; rw [hI]
    have HB : Hid (matchB p t = false) := by rw [Hid]; unfold matchB; rw [hI]; rfl
    go_enter Try.func15, Try.ntmps15
    go_wp2_with fail
    refine (right_lit rfl hp HP.out).mono ?_; rintro e w1 ⟨rfl, hb1⟩
    go_wp2_with fail
    with_reducible refine (right_lit rfl (ht.below hb1) HT.out).mono ?_
    rintro e w2 ⟨rfl, hb2⟩
    replace hb1 := hb1.then hb2
    go_wp2_with fail
    refine (images_any a cap a' cap' w2 p t (hp.below hb1) (ht.below hb1) HP.out HT.out).mono ?_
    rintro e w3 ⟨hb3, ⟨_, rfl⟩ | ⟨f, m, n, h, _, _⟩⟩
    · clear hI
      go_wp2_with fail
      go_ret2
      rw [HL.out, HB.out]
      exact ⟨none, 0, rfl, Row.empty _ _ _ (by omega) (fun _ => rfl), (hb1.then hb3).new _⟩
    · rw [hI] at h; cases h
  | some f =>
    have HL : Hid (matchL p t = bindL (fun v => (f v).getD []) (riseI (varsL p))) := by rw [Hid]; unfold matchL; rw [hI]
    have HB : Hid (matchB p t = true) := by rw [Hid]; unfold matchB; rw [hI]; rfl
    have HA : Hid (∀ v ∈ riseI (varsL p), ∃ q, f v = some q ∧ 1 ≤ q.length ∧ q.length ≤ 200 ∧ (Lit.int .i64 v).wf = true) := by
      intro v hv
      have h1 := riseI_mem hv
      obtain ⟨c, hc, h2, h3⟩ := (varsGo_src2 p [] v h1).resolve_left (by simp)
      have h4 := img_all p t _ f hI c hc h2
      rw [h3] at h4
      obtain ⟨q, hq⟩ := Option.isSome_iff_exists.1 h4
      have h5 := img_range (n := 200) p t _ f hI htl (by simp) v q hq
      have h6 := hp.fit c hc
      exact ⟨q, hq, h5.1, h5.2, by rw [← h3]; exact wf64 h6.n1 h6.n2⟩
    have hvl := varsGo_length p []
    rw [show varsGo [] p = varsL p from rfl, List.length_nil, Nat.zero_add] at hvl
    go_enter Try.func15, Try.ntmps15
    go_wp2_with fail
    refine (right_lit rfl hp HP.out).mono ?_; rintro e w1 ⟨rfl, hb1⟩
    go_wp2_with fail
    with_reducible refine (right_lit rfl (ht.below hb1) HT.out).mono ?_
    rintro e w2 ⟨rfl, hb2⟩
    replace hb1 := hb1.then hb2
    go_wp2_with fail
    refine (images_any a cap a' cap' w2 p t (hp.below hb1) (ht.below hb1) HP.out HT.out).mono ?_
    rintro e w3 ⟨hb3, ⟨h, _⟩ | ⟨g, m, n, h, rfl, hM⟩⟩
    · rw [hI] at h; cases h
    rw [hI] at h
    obtain rfl : f = g := Option.some.inj h
    have HM := mkHid hM
    clear hI h hM
    replace hb1' := hb1.then hb3
    have hTn : (w3.alloc (.cells #[.map (some m)] 66)).cell? ⟨w3.heap.size, 0, none⟩ = some (.map (some m)) := World.cell?_alloc_at _ _ _ 0 rfl
    have hb4 := hb1'.new (.cells #[.map (some m)] 66)
    have hM4 := HM.out.below ((Below.refl _ _).new (.cells #[.map (some m)] 66))
    have hb34 := hb3.new (.cells #[.map (some m)] 66)
    go_wp2_with fail
    refine (vars_any a cap _ p (hp.below hb4) (by omega)).mono ?_
    rintro e w5 ⟨av, capv, rfl, hrv, hb5⟩
    have hT5 := keep hTn hb5
    have hM5 := hM4.below hb5
    have hb05 := hb4.then hb5
    have hb25 := hb34.then hb5
    go_wp2_with fail
    refine (bindingsM_any w3.heap.size av capv w5 (varsL p) (riseI (varsL p)) (fun v => (f v).getD []) rfl hrv (by omega) ?_).mono ?_
    · intro W v hW hv
      obtain ⟨q, hq, q1, q2, q3⟩ := HA.out v hv
      have hk := match1_any w3.heap.size W v q (hM5.below hW) (hb25.then hW) (keep hT5 hW) hq q3 (by omega)
      refine hk.mono ?_
      rintro e W' ⟨a6, cap6, he, hr6, hb6⟩
      simp only [hq, Option.getD_some]
      exact ⟨a6, cap6, he, hr6, q1, by omega, hb6⟩
    · rintro e w6 ⟨a7, cap7, rfl, hr7, hb7⟩
      go_wp2_with fail
      go_ret2
      rw [HL.out, HB.out]
      exact ⟨a7, cap7, rfl, hr7, hb05.then hb7⟩
end Go.Proofs.Ytlddglajdcednaa
namespace Go.Proofs.Ytlddglajdcednaa
open Go.Shelf
def Try.growC_ren : Go.Shelf.Ren := ⟨fun | 4 => 81 | n => n, fun | 22 => 22 | 25 => 42 | 3 => 3 | 4 => 4 | 9 => 9 | 20 => 20 | 0 => 0 | n => n, fun | n => n⟩
theorem Try.growC : Go.Proofs.Lays8.n4 Try.prog Try.growC_ren := {
  mixed := by kernel_rfl
  f4 := ⟨Try.f81.name, by decide, Try.func81.trans (congrArg some (by kernel_rfl))⟩
  t0 := Try.underlying0
  a0 := Try.isAgg0
  z0 := Try.sizeOf0
  v0 := Try.zeroValue0
  t3 := Try.underlying3
  a3 := Try.isAgg3
  z3 := Try.sizeOf3
  v3 := Try.zeroValue3
  t4 := Try.underlying4
  a4 := Try.isAgg4
  z4 := Try.sizeOf4
  v4 := Try.zeroValue4
  t9 := Try.underlying9
  a9 := Try.isAgg9
  z9 := Try.sizeOf9
  v9 := Try.zeroValue9
  t20 := Try.underlying20
  a20 := Try.isAgg20
  z20 := Try.sizeOf20
  v20 := Try.zeroValue20
  t22 := Try.underlying22
  a22 := Try.isAgg22
  z22 := Try.sizeOf22
  v22 := Try.zeroValue22 }
end Go.Proofs.Ytlddglajdcednaa
namespace Go.Proofs.Ytlddglajdcednaa
open Go.Shelf
def Try.growI_ren : Go.Shelf.Ren := ⟨fun | 4 => 72 | n => n, fun | 22 => 36 | 25 => 3 | 3 => 3 | 4 => 4 | 9 => 9 | 20 => 20 | 0 => 0 | n => n, fun | n => n⟩
theorem Try.growI : Go.Proofs.Lays8.n4 Try.prog Try.growI_ren := {
  mixed := by kernel_rfl
  f4 := ⟨Try.f72.name, by decide, Try.func72.trans (congrArg some (by kernel_rfl))⟩
  t0 := Try.underlying0
  a0 := Try.isAgg0
  z0 := Try.sizeOf0
  v0 := Try.zeroValue0
  t3 := Try.underlying3
  a3 := Try.isAgg3
  z3 := Try.sizeOf3
  v3 := Try.zeroValue3
  t4 := Try.underlying4
  a4 := Try.isAgg4
  z4 := Try.sizeOf4
  v4 := Try.zeroValue4
  t9 := Try.underlying9
  a9 := Try.isAgg9
  z9 := Try.sizeOf9
  v9 := Try.zeroValue9
  t20 := Try.underlying20
  a20 := Try.isAgg20
  z20 := Try.sizeOf20
  v20 := Try.zeroValue20
  t22 := Try.underlying36
  a22 := Try.isAgg36
  z22 := Try.sizeOf36
  v22 := Try.zeroValue36 }
end Go.Proofs.Ytlddglajdcednaa
namespace Go.Proofs.Ytlddglajdcednaa
open Go.RowKit Go.Shelf Go.Lib

set_option maxHeartbeats 800000 in
theorem variant_any (a : Option Addr) (cap : Nat) (a' : Option Addr) (cap' : Nat) (w : World) (xs ys : List Cel) (hx : Row w a cap xs) (hy : Row w a' cap' ys) (h1 : 0 < xs.length) (h2 : 0 < ys.length) (hl : xs.length ≤ 1000000) (hl2 : ys.length ≤ 1000000) :
    Calls Try.prog 18 #[.slice a xs.length cap, .slice a' ys.length cap'] w fun e w' => e = .returned (.bool (decide (numL xs = numL ys))) ∧ Below w.heap.size w w' := by
  have hn : (numL ys).length = ys.length := by unfold numL; simp
  go_enter Try.func18, Try.ntmps18
  go_wp2_with fail
  refine (number_any a cap w xs hx hl h1).mono ?_; rintro e w1 ⟨a1, cap1, rfl, r1, hb1⟩
  go_wp2_with fail
  with_reducible refine (number_any a' cap' w1 ys (hy.below hb1) hl2 h2).mono ?_
  rintro e w2 ⟨a2, cap2, rfl, r2, hb2⟩
  clear hn
  go_wp2_with fail
  refine (same_any a1 cap1 a2 cap2 w2 (numL xs) (numL ys) (r1.below hb2) r2).mono ?_; rintro e w3 ⟨rfl, hb3⟩
  go_wp2_with fail
  go_ret
  exact ⟨rfl, (hb1.then hb2).then hb3⟩

theorem own_grown (w : World) (e n size : Nat) (z : Value) (hz : z.cells.size = size) (hn : n ≤ 1000000) :
    (w.drew.alloc (.cells (([] : List Value).toArray ++ Builtin.zeroCells z.cells (0 + n - 0) ++ Builtin.zeroCells z.cells (grownCap w (0 + n) 0 e - (0 + n))) e)).ownsRow w.heap.size e size (.slice (some ⟨w.heap.size, 0, none⟩) 0 (grownCap w (0 + n) 0 e)) 0 [] := by
  have h1 := grownCap_ge w (0 + n) 0 e
  have h2 := grownCap_le_maxLen w (0 + n) 0 e (by unfold maxLen; omega)
  refine ⟨by simp, .inr ⟨w.heap.size, _, _, rfl, Nat.le_refl _, World.alloc_heap_new w.drew _, Nat.zero_le _, h2, ?_, by simp⟩⟩
  simp only [Builtin.zeroCells, Array.size_append, Array.size_map, Array.size_range, hz, List.size_toArray, List.length_nil, Nat.zero_add, Nat.sub_zero]
  rw [Nat.zero_add] at h1
  rw [← Nat.add_mul, Nat.add_sub_cancel' h1]
theorem cel_crows {w : World} {vs : List Value} {xs : List Cel} (h : CRows w vs xs) : vs = flat xs := by
  induction h with
  | nil => rfl
  | cons hc _ ih =>
    obtain ⟨rfl, _⟩ := hc
    rw [ih]; rfl
theorem AccInv.base {α : Type} [RepC α] {B B' e : Nat} {acc : List α} {v : Value} {w : World} (h : AccInv B e acc v w) (hB : B' ≤ B) : AccInv B' e acc v w := by
  obtain ⟨vs, ho, hc⟩ := h.ex
  exact ⟨vs, own_mono ho hB, hc⟩
theorem AccInv.newRow {B e : Nat} {acc : List Cel} {v : Value} {w : World} (h : AccInv B e acc v w) : ∃ a cap, v = .slice a acc.length cap ∧ NewRow B w a cap acc := by
  obtain ⟨vs, ho, hc⟩ := h.ex
  obtain ⟨a, cap, e1, hr⟩ := h.row
  have h1 : vs = flat acc := cel_crows hc
  subst h1
  exact own_new ho hr.fit
/-- Grow of nothing -/
theorem growC_nil (w : World) (n : Nat) (hn : n ≤ 1000000) :
    Calls Try.prog 81 #[.slice none 0 0, .int .i64 n] w fun e w' => ∃ v, e = .returned v ∧ AccInv w.heap.size 42 ([] : List Cel) v w' ∧ Below w.heap.size w w' := by
  obtain ⟨i, hi, hz0, hz1, hz2⟩ := info_parts Try.infoCell
  by_cases h0 : n = 0
  · subst h0
    refine (Any8.slices_Grow_room Try.growC none 0 0 0 w (by omega) (by omega) (by omega) (by omega)).mono ?_
    rintro e w' ⟨rfl, rfl⟩
    exact ⟨_, rfl, AccInv.nil _ _ _, Below.refl _ _⟩
  · refine (Any8.slices_Grow_grow Try.growC i _ hi hz0 (by omega) none 0 0 n [] w (by omega) (by omega) (by rw [hz2]; omega) (by omega) (by simp) (fun _ => rfl) (fun a e => by cases e)).mono ?_
    rintro e w' ⟨rfl, rfl⟩
    refine ⟨_, rfl, ⟨[], own_grown w 42 n 3 _ rfl hn, .nil⟩, (Below.refl _ _).drew.alloc (Nat.le_refl _) _⟩
theorem growI_nil (w : World) (n : Nat) (hn : n ≤ 1000000) :
    Calls Try.prog 72 #[.slice none 0 0, .int .i64 n] w fun e w' => ∃ v, e = .returned v ∧ AccInv w.heap.size 3 ([] : List Int) v w' ∧ Below w.heap.size w w' := by
  obtain ⟨i, hi, hz0, hz1, hz2⟩ := info_parts Try.infoInt
  by_cases h0 : n = 0
  · subst h0
    refine (Any8.slices_Grow_room Try.growI none 0 0 0 w (by omega) (by omega) (by omega) (by omega)).mono ?_
    rintro e w' ⟨rfl, rfl⟩
    exact ⟨_, rfl, AccInv.nil _ _ _, Below.refl _ _⟩
  · refine (Any8.slices_Grow_grow Try.growI i _ hi hz0 (by omega) none 0 0 n [] w (by omega) (by omega) (by rw [hz2]; omega) (by omega) (by simp) (fun _ => rfl) (fun a e => by cases e)).mono ?_
    rintro e w' ⟨rfl, rfl⟩
    exact ⟨_, rfl, ⟨[], own_grown w 3 n 1 _ rfl hn, .nil⟩, (Below.refl _ _).drew.alloc (Nat.le_refl _) _⟩

/-- how many stand in the first rows -/
def totL {α : Type} (l : List (List α)) (k : Nat) : Nat := (l.take k).flatten.length
/-- all that stands in rows, one behind the other -/
def sizeAll {α : Type} (l : List (List α)) : Nat := l.flatten.length
theorem flat_take {α : Type} {l : List (List α)} {k : Nat} (hk : k < l.length) : (l.take (k + 1)).flatten = (l.take k).flatten ++ l[k] := by
  rw [List.take_succ_eq_append_getElem hk, List.flatten_append]; simp
theorem flat_take_len {α : Type} (l : List (List α)) (k : Nat) : (l.take k).flatten.length ≤ l.flatten.length := by
  conv => rhs; rw [← List.take_append_drop k l, List.flatten_append, List.length_append]
  omega

set_option maxHeartbeats 1600000 in
set_option maxRecDepth 100000 in
theorem concatC_any (a : Option Addr) (cap : Nat) (w : World) (l : List (List Cel)) (L : List Cel) (hL : l.flatten = L) (hr : Row w a cap l) (hl : l.length ≤ 1000) (hs : L.length ≤ 1000000) :
    Calls Try.prog 63 #[.slice a l.length cap] w fun e w' => ∃ a' cap', e = .returned (.slice a' L.length cap') ∧ NewRow w.heap.size w' a' cap' L ∧ Below w.heap.size w w' := by
  have hm := hr.max
  have hle := hr.le
  have HLL := mkHid hL
  have HF : Hid (∀ k, totL l k ≤ L.length) := fun k => by unfold totL; rw [← hL]; exact flat_take_len l k
  clear hL
  go_enter Try.func63, Try.ntmps63
  go_wp2_with fail
  go_loopw [3, 5, 11] (fun n s i wr => ∃ k : Nat, k ≤ l.length ∧ i = .int .i64 k ∧ n = .int .i64 (totL l k) ∧ Below w.heap.size w wr) (fun n s i wr => l.length - (intOf i).toNat)
  case atStart => exact ⟨0, Nat.zero_le _, rfl, rfl, Below.refl _ _⟩
  case round =>
    obtain ⟨k, hk, rfl, rfl, hbl⟩ := hrel
    have hfl := HF.out k
    by_cases hlt : k < l.length
    · obtain ⟨b, off, rfl, hb, hat⟩ := hr.cases.resolve_left (fun e => by simp [e] at hlt)
      obtain ⟨a1, cap1, d0, hr1⟩ := list_at hat hbl hlt
      have hfl2 := HF.out (k + 1)
      have hlen : totL l (k + 1) = totL l k + l[k].length := by unfold totL; rw [flat_take hlt, List.length_append]
      have HLen := mkHid hlen
      have hlk : totL l k + l[k].length ≤ 1000000 := by omega
      clear hlen hfl2
      go_wp2_with fail
      go_round
      case rel => exact ⟨k + 1, by omega, by go_num, by rw [HLen.out]; go_num, hbl⟩
      case measure => simp [intOf]; omega
    · have HL : totL l k = L.length := by unfold totL; rw [List.take_of_length_le (by omega), HLL.out]
      rw [HL] at hfl ⊢
      clear HL
      go_wp2_with fail
      refine (growC_nil wr L.length hs).mono ?_; rintro e w2 ⟨v, rfl, hacc, hb2⟩
      have hbl2 := hbl.then hb2
      clear hb2
      have hB2 := hbl.size
      go_wp2_with fail
      go_loopw [6, 8, 27] (fun v s i wz => ∃ k : Nat, k ≤ l.length ∧ i = .int .i64 k ∧ AccInv w.heap.size 42 (l.take k).flatten v wz ∧ Below w.heap.size w wz) (fun v s i wz => l.length - (intOf i).toNat)
      case atStart => exact ⟨0, Nat.zero_le _, rfl, AccInv.base hacc hB2, hbl2⟩
      case round =>
        clear hacc hbl2
        obtain ⟨k2, hk2, rfl, hacc, hbz⟩ := hrel
        by_cases hlt2 : k2 < l.length
        · obtain ⟨b, off, rfl, hb, hat⟩ := hr.cases.resolve_left (fun e => by simp [e] at hlt2)
          obtain ⟨a1, cap1, d0, hr1⟩ := list_at hat hbz hlt2
          obtain ⟨a2, cap2, e0, hr0⟩ := list_at hat (Below.refl _ _) hlt2
          have hee : Value.slice a1 l[k2].length cap1 = .slice a2 l[k2].length cap2 := by
            have := keep e0 hbz; rw [d0] at this; exact Option.some.inj this
          injection hee with q1 _ q2
          subst q1; subst q2
          have hfl2 := HF.out (k2 + 1)
          have HT := mkHid (flat_take hlt2)
          unfold totL at hfl2
          rw [HT.out, List.length_append] at hfl2
          have hroom : (l.take k2).flatten.length + l[k2].length ≤ 1000000000 := by omega
          have HR := mkHid hroom
          clear hfl2 hroom
          have hro := Row.keeps hr0 (hacc.fresh hbz)
          go_wp2_with (at_builtin; refine wpList_accs (α := Cel) rfl _ _ 22 rfl w.heap.size 42 32 _ Try.underlying22 Try.infoCell rfl (by decide) _ (l.take k2).flatten hacc (by rfl) _ _ l[k2] hro (by rfl) HR.out hbz.size ?_; intro v' w3 hacc3 hb3)
          go_round
          case rel => exact ⟨k2 + 1, by omega, by go_num, hacc3.lit HT.out.symm, hbz.trans hb3⟩
          case measure => simp [intOf]; omega
        · have HL2 : (l.take k2).flatten = L := by rw [List.take_of_length_le (by omega), HLL.out]
          rw [HL2] at hacc
          clear HL2
          obtain ⟨a5, cap5, rfl, hrow⟩ := hacc.newRow
          clear hacc
          go_wp2_with fail
          go_ret
          exact ⟨a5, cap5, rfl, hrow, hbz⟩
end Go.Proofs.Ytlddglajdcednaa
namespace Go.Proofs.Ytlddglajdcednaa
open Go.RowKit

theorem Try.info55 : (Try.prog.info? 3).map (fun i => (i.zero, i.size, i.bytes)) = some (some (.int .i64 0), 1, 8) := by kernel_rfl
/-- make of a slice of numbers, as a run -/
theorem run_ints (n : Nat) (hn : n ≤ 1000000) (w : World) : (Instr.makeSlice 36 (.int .i64 n) (.int .i64 n)).run Try.prog w = .ok (.slice (some ⟨w.heap.size, 0, none⟩) n n) (w.alloc (.cells (Array.replicate n (Value.int .i64 0)) 3)) := by
  obtain ⟨i, hi, hz0, hz1, hz2⟩ := info_parts Try.infoInt
  have hrun := run_make (P := Try.prog) w 36 3 i _ Try.underlying36 hi hz0 .i64 .i64 n n (by omega) (Int.le_refl _) (by rw [hz2]; omega) (by omega)
  rw [hz1, Nat.mul_one, Int.toNat_natCast, made_ints] at hrun
  exact hrun

/-- the classes' object, just made -/
structure Laid0 (w1 W : World) (C g m u s : Nat) (a1 : Option Addr) (cap1 : Nat) (l : List Cel) : Prop where
  old : w1.heap.size ≤ g ∧ w1.heap.size ≤ m ∧ w1.heap.size ≤ u ∧ w1.heap.size ≤ s ∧ w1.heap.size ≤ C
  ne : g ≠ u ∧ g ≠ s ∧ u ≠ s ∧ m ≠ u ∧ m ≠ s ∧ C ≠ u ∧ C ≠ s ∧ C ≠ m ∧ C ≠ g ∧ m ≠ g
  E : RowU W g (endsL l)
  U : RowU W u (List.replicate l.length 0)
  S : RowU W s (List.replicate l.length 0)
  M : MapV Try.prog 3 W m 0 (fun _ => none)
  box : W.heap[C]? = some (.cells #[.slice a1 l.length cap1, .slice (some ⟨g, 0, none⟩) l.length l.length, .map (some m), .slice (some ⟨u, 0, none⟩) l.length l.length, .slice (some ⟨s, 0, none⟩) l.length l.length] 79 (0, 0))
  b : Below w1.heap.size w1 W
theorem RowU.made2 {w : World} {n u : Nat} (h : w.heap.size = u) : RowU (w.alloc (.cells (Array.replicate n (Value.int .i64 0)) 3)) u (List.replicate n 0) := by
  subst h; exact RowU.made w n
theorem map_made2 {w : World} {m : Nat} (h : w.heap.size = m) : MapV Try.prog 3 (w.alloc (.map #[] 0)) m 0 (fun _ => none) := by
  subst h; exact MapV.made Try.prog 3 w
theorem box_new {w : World} {o : Obj} {C : Nat} (h : w.heap.size = C) : (w.alloc o).heap[C]? = some o := by
  subst h; exact heap_alloc_new w o

theorem MapV.run_update {P : Program} {k e t : TypeId} {w : World} {b n : Nat} {f : Int → Option Value} (h : MapV P k w b n f) (hk : P.underlying k = some (.int .i64)) (ht : P.underlying t = some (.map k e)) (hn : n < 9223372036854775807) (i : Int) (hi : (Lit.int .i64 i).wf = true) (z : Value) :
    ∃ w', (Instr.mapUpdate t (.map (some b)) (.int .i64 i) z).run P w = .ok () w' ∧ MapV P k w' b (n + 1) (fun j => if j = i then some z else f j) ∧ w.grownBy w' (some b) := by
  obtain ⟨D, h, hf⟩ := h.ex
  obtain ⟨w', hrun, h1, h2⟩ := h.update (Go.Maps.int_keyed hk) ht (by unfold maxLen; omega) (Go.Maps.keyOf_int_mk hk hi) (show heldElem z = some (.held z, []) from rfl)
  exact ⟨w', hrun, ⟨_, h1, MapV.put_at h.isMap hf i z⟩, h2⟩

/-! ### where a variable first stands -/
def isV (v : Int) (c : Cel) : Bool := decide (c.k = 1) && decide (c.n = v)
def firstO (l : List Cel) (v : Int) : Option Nat := l.findIdx? (isV v)
def firstV (l : List Cel) (v : Int) : Option Value := (firstO l v).map fun i => Value.int .i64 (i : Int)
def upAt (l : List Cel) (k : Nat) : Nat := match l[k]? with
  | none => k
  | some c => if c.k = 1 then (firstO (l.take k) c.n).getD k else k
def upL (l : List Cel) : List Int := (List.range l.length).map fun k => (upAt l k : Int)
def upK (l : List Cel) (k : Nat) : List Int := (upL l).take k ++ List.replicate (l.length - k) 0
theorem upL_length (l : List Cel) : (upL l).length = l.length := by simp [upL]
theorem upK_length {l : List Cel} {k : Nat} (hk : k ≤ l.length) : (upK l k).length = l.length := by
  unfold upK; rw [List.length_append, List.length_take, upL_length, List.length_replicate]; omega
theorem upK_zero (l : List Cel) : upK l 0 = List.replicate l.length 0 := by simp [upK]
theorem upK_all {l : List Cel} {k : Nat} (h : l.length ≤ k) : upK l k = upL l := by
  unfold upK; rw [List.take_of_length_le (by rw [upL_length]; exact h), show l.length - k = 0 by omega]; simp
theorem upK_set {l : List Cel} {k : Nat} (hk : k < l.length) {v : Int} (hv : v = upAt l k) : (upK l k).set k v = upK l (k + 1) := by
  subst hv
  unfold upK
  have h1 : k < (upL l).length := by rw [upL_length]; exact hk
  have h2 : (upL l)[k] = (upAt l k : Int) := by simp [upL]
  rw [List.set_append_right _ _ (by simp; omega), List.take_succ_eq_append_getElem h1, h2]
  have h3 : k - ((upL l).take k).length = 0 := by rw [List.length_take]; omega
  rw [h3, show l.length - k = (l.length - (k + 1)) + 1 by omega, List.replicate_succ, List.set_cons_zero, List.append_assoc]
  rfl
theorem first_lt {l : List Cel} {v : Int} {i : Nat} (h : firstO l v = some i) : i < l.length := by
  unfold firstO at h
  exact (List.findIdx?_eq_some_iff_getElem.1 h).1
theorem first_take {l : List Cel} {k : Nat} (hk : k < l.length) (v : Int) : firstO (l.take (k + 1)) v = match firstO (l.take k) v with
    | some i => some i
    | none => if isV v l[k] then some k else none := by
  unfold firstO
  rw [List.take_succ_eq_append_getElem hk, List.findIdx?_append]
  cases h : (l.take k).findIdx? (isV v) with
  | some i => rfl
  | none =>
    simp only [Option.none_or]
    rw [List.length_take, Nat.min_eq_left (Nat.le_of_lt hk)]
    by_cases h2 : isV v l[k] = true
    · simp [List.findIdx?_cons, h2]
    · simp [List.findIdx?_cons, h2]
/-- the classes' object in memory -/
structure LaidW (w1 W : World) (C g m u s : Nat) (a1 : Option Addr) (cap1 : Nat) (l : List Cel) (k : Nat) : Prop where
  E : RowU W g (endsL l)
  U : RowU W u (upK l k)
  S : RowU W s (List.replicate l.length 0)
  M : ∃ n, n ≤ k ∧ MapV Try.prog 3 W m n (firstV (l.take k))
  box : W.heap[C]? = some (.cells #[.slice a1 l.length cap1, .slice (some ⟨g, 0, none⟩) l.length l.length, .map (some m), .slice (some ⟨u, 0, none⟩) l.length l.length, .slice (some ⟨s, 0, none⟩) l.length l.length] 79 (0, 0))
  b : Below w1.heap.size w1 W

theorem Fr.ofGrown {u m : Nat} {w w' : World} (h : w.grownBy w' (some m)) : Fr [u, m] w w' :=
  ⟨h.os, h.tape, h.output, h.size, fun k hk hn => h.block k hk (fun e => hn (by cases e; simp))⟩
theorem LaidW.step {w1 W W' : World} {C g m u s : Nat} {a1 : Option Addr} {cap1 : Nat} {l : List Cel} {k : Nat} (h : LaidW w1 W C g m u s a1 cap1 l k) (hf : Fr [u, m] W W') (hg : g ∉ [u, m]) (hs : s ∉ [u, m]) (hC : C ∉ [u, m]) (hum : ∀ k ∈ [u, m], w1.heap.size ≤ k)
    (hU : RowU W' u (upK l (k + 1))) {n : Nat} (hn : n ≤ k + 1) (hM : MapV Try.prog 3 W' m n (firstV (l.take (k + 1)))) : LaidW w1 W' C g m u s a1 cap1 l (k + 1) :=
  ⟨h.E.fr hf hg, hU, h.S.fr hf hs, ⟨n, hn, hM⟩, (hf.block C (Array.getElem?_eq_some_iff.1 h.box).1 hC).trans h.box, h.b.trans (hf.below h.b.size hum)⟩
theorem firstV_same {l : List Cel} {k : Nat} (hk : k < l.length) (h : ∀ v, isV v l[k] = true → (firstO (l.take k) v).isSome) : firstV (l.take (k + 1)) = firstV (l.take k) := by
  funext v
  unfold firstV
  rw [first_take hk]
  cases hf : firstO (l.take k) v with
  | some i => rfl
  | none =>
    simp only
    rw [if_neg]
    intro h2
    have := h v h2
    rw [hf] at this; cases this
theorem firstV_new {l : List Cel} {k : Nat} (hk : k < l.length) (h1 : l[k].k = 1) (hf : firstO (l.take k) l[k].n = none) : firstV (l.take (k + 1)) = fun j => if j = l[k].n then some (.int .i64 (k : Int)) else firstV (l.take k) j := by
  funext v
  unfold firstV
  rw [first_take hk]
  by_cases e : v = l[k].n
  · subst e
    rw [hf, if_pos rfl]
    simp [isV, h1]
  · rw [if_neg e]
    cases hz : firstO (l.take k) v with
    | some i => rfl
    | none =>
      simp only
      rw [if_neg]
      simp [isV]
      intro _ e2
      exact e e2.symm
theorem upAt_other {l : List Cel} {k : Nat} (hk : k < l.length) (h : ¬ l[k].k = 1) : upAt l k = k := by
  unfold upAt; rw [List.getElem?_eq_getElem hk]; simp [h]
theorem upAt_var {l : List Cel} {k : Nat} (hk : k < l.length) (h : l[k].k = 1) : upAt l k = (firstO (l.take k) l[k].n).getD k := by
  unfold upAt; rw [List.getElem?_eq_getElem hk]; simp [h]

set_option maxHeartbeats 16000000 in
set_option maxRecDepth 100000 in
theorem laid_any (a : Option Addr) (cap : Nat) (a' : Option Addr) (cap' : Nat) (w : World) (xs ys l : List Cel) (hl : [xs, ys].flatten = l) (hx : Row w a cap xs) (hy : Row w a' cap' ys) (h200 : l.length ≤ 400) (hG : Good l) :
    Calls Try.prog 35 #[.slice a xs.length cap, .slice a' ys.length cap'] w fun e w' => ∃ C g m u s a1 cap1 w1, e = .returned (.pointer (some ⟨C, 0, none⟩)) ∧ Below w.heap.size w w1 ∧ NewRow w.heap.size w1 a1 cap1 l ∧ (w1.heap.size ≤ g ∧ w1.heap.size ≤ m ∧ w1.heap.size ≤ u ∧ w1.heap.size ≤ s ∧ w1.heap.size ≤ C) ∧ (g ≠ u ∧ g ≠ s ∧ u ≠ s ∧ m ≠ u ∧ m ≠ s ∧ C ≠ u ∧ C ≠ s ∧ C ≠ m ∧ C ≠ g ∧ m ≠ g) ∧ LaidW w1 w' C g m u s a1 cap1 l l.length := by
  have hm := hx.max
  have hle := hx.le
  have hm2 := hy.max
  have hle2 := hy.le
  have HL := mkHid hl
  have HG := mkHid hG
  clear hl hG
  go_enter Try.func35, Try.ntmps35
  go_wp2_with fail
  have x1 : Row (w.alloc (.cells #[.slice a xs.length cap, .slice a' ys.length cap'] 22)) (some ⟨w.heap.size, 0, none⟩) 2 [xs, ys] := by
    have hb := (Below.refl w.heap.size w).new (.cells #[.slice a xs.length cap, .slice a' ys.length cap'] 22)
    exact row_new (α := List Cel) w #[.slice a xs.length cap, .slice a' ys.length cap'] (22, 0) (xs := [xs, ys]) (CRows.cons (cs := [.slice a xs.length cap]) ⟨a, cap, rfl, hx.below hb⟩ (CRows.cons (cs := [.slice a' ys.length cap']) ⟨a', cap', rfl, hy.below hb⟩ .nil)) (by simp)
  have hb1 := (Below.refl w.heap.size w).new (.cells #[.slice a xs.length cap, .slice a' ys.length cap'] 22)
  refine (concatC_any _ _ _ [xs, ys] l HL.out x1 (by simp) (by omega)).mono ?_
  rintro e w1 ⟨a1, cap1, rfl, r1, hb2⟩
  have hb := hb1.then hb2
  clear x1 hb1 hb2
  have r1n := r1
  replace r1 := r1.row
  go_wp2_with fail
  generalize hA : Act.mk _ _ = A0
  refine Code.wp_mono (Q := fun e A' W' => e = .normal ∧ ∃ C g m u s, A' = (((((((((((((A0.put (some 15) (.slice a1 l.length cap1)).put (some 16) (.slice a1 l.length cap1)).put (some 17) (.slice (some ⟨g, 0, none⟩) l.length l.length)).put (some 18) (.map (some m))).put (some 19) (.slice a1 l.length cap1)).put (some 20) (.int .i64 l.length)).put (some 21) (.slice (some ⟨u, 0, none⟩) l.length l.length)).put (some 22) (.slice a1 l.length cap1)).put (some 23) (.int .i64 l.length)).put (some 24) (.slice (some ⟨s, 0, none⟩) l.length l.length)).put (some 25) (.agg #[.slice a1 l.length cap1, .slice (some ⟨g, 0, none⟩) l.length l.length, .map (some m), .slice (some ⟨u, 0, none⟩) l.length l.length, .slice (some ⟨s, 0, none⟩) l.length l.length])).put (some 26) (.pointer (some ⟨C, 0, none⟩))).put (some 6) (.pointer (some ⟨C, 0, none⟩))) ∧ Laid0 w1 W' C g m u s a1 cap1 l) ?_ ?_
  · rintro e A' W' ⟨rfl, C, g, m, u, s, rfl, hL⟩
    subst hA
    simp only [Act.put, List.setIfInBounds_toArray, List.set_cons_zero, List.set_cons_succ]
    have hold := hL.old
    obtain ⟨ne1, ne2, ne3, ne4, ne5, ne6, ne7, ne8, ne9, ne10⟩ := hL.ne
    have hLW : LaidW w1 W' C g m u s a1 cap1 l 0 := ⟨hL.E, by rw [upK_zero]; exact hL.U, hL.S, ⟨0, Nat.le_refl _, by rw [List.take_zero]; exact hL.M⟩, hL.box, hL.b⟩
    clear hL
    go_wp2_with fail
    go_loopw [7, 8, 9, 10, 29] (fun at_ cb fst met i wr => ∃ k : Nat, k ≤ l.length ∧ i = .int .i64 k ∧ LaidW w1 wr C g m u s a1 cap1 l k) (fun at_ cb fst met i wr => l.length - (intOf i).toNat)
    case atStart => exact ⟨0, Nat.zero_le _, rfl, hLW⟩
    case round =>
      clear hLW
      obtain ⟨k, hk, rfl, hL⟩ := hrel
      by_cases hlt : k < l.length
      · obtain ⟨b1, off1, e1, hb1', hat1⟩ := r1.cases.resolve_left (fun e => by simp [e] at hlt)
        subst e1
        obtain ⟨c0, c1, c2, hf⟩ := cel_at hat1 hL.b hlt
        have hCl := (Array.getElem?_eq_some_iff.1 hL.box).1
        have hul := hL.U.lt
        have hki : (0 : Int) ≤ (k : Int) := by omega
        have hki2 : (k : Int) < (l.length : Int) := by omega
        have hkU : k < (upK l k).length := by rw [upK_length hk]; exact hlt
        have hbx1 : (wr.alloc (.cells #[.int .i64 l[k].k, .string l[k].s, .int .i64 l[k].n] 42)).heap[C]? = some _ := (Below.heap_alloc wr _ C hCl).trans hL.box
        have hU1 := hL.U.alloc (.cells #[.int .i64 l[k].k, .string l[k].s, .int .i64 l[k].n] 42)
        have e3 : (wr.alloc (.cells #[.int .i64 l[k].k, .string l[k].s, .int .i64 l[k].n] 42)).cell? ⟨C, 3, none⟩ = some (.slice (some ⟨u, 0, none⟩) l.length l.length) := by simp [World.cell?, hbx1]
        have eu := hU1.read hkU
        have fu := hU1.free k
        generalize (upK l k)[k] = old at eu
        -- behind the store
        have hU2 := (hL.U.set k (k : Int)).alloc (.cells #[.int .i64 l[k].k, .string l[k].s, .int .i64 l[k].n] 42)
        have hbx2 : ((wr.setCell ⟨u, k, none⟩ (.int .i64 k)).alloc (.cells #[.int .i64 l[k].k, .string l[k].s, .int .i64 l[k].n] 42)).heap[C]? = some _ := (Below.heap_alloc _ _ C (by simp [World.setCell]; exact hCl)).trans ((Below.heap_setCell wr ⟨u, k, none⟩ _ C ne6).trans hL.box)
        have hbz : ((wr.setCell ⟨u, k, none⟩ (.int .i64 k)).alloc (.cells #[.int .i64 l[k].k, .string l[k].s, .int .i64 l[k].n] 42)).heap[wr.heap.size]? = some _ := box_new (by simp [World.setCell])
        have g0 : ((wr.setCell ⟨u, k, none⟩ (.int .i64 k)).alloc (.cells #[.int .i64 l[k].k, .string l[k].s, .int .i64 l[k].n] 42)).cell? ⟨wr.heap.size, 0, none⟩ = some (.int .i64 l[k].k) := (cell_of_row _ _ 0 _ _ _ hbz).trans rfl
        have g2 : ((wr.setCell ⟨u, k, none⟩ (.int .i64 k)).alloc (.cells #[.int .i64 l[k].k, .string l[k].s, .int .i64 l[k].n] 42)).cell? ⟨wr.heap.size, 2, none⟩ = some (.int .i64 l[k].n) := (cell_of_row _ _ 2 _ _ _ hbz).trans rfl
        have h2 : ((wr.setCell ⟨u, k, none⟩ (.int .i64 k)).alloc (.cells #[.int .i64 l[k].k, .string l[k].s, .int .i64 l[k].n] 42)).cell? ⟨C, 2, none⟩ = some (.map (some m)) := by simp [World.cell?, hbx2]
        have h3 : ((wr.setCell ⟨u, k, none⟩ (.int .i64 k)).alloc (.cells #[.int .i64 l[k].k, .string l[k].s, .int .i64 l[k].n] 42)).cell? ⟨C, 3, none⟩ = some (.slice (some ⟨u, 0, none⟩) l.length l.length) := by simp [World.cell?, hbx2]
        obtain ⟨n, hn, hM⟩ := hL.M
        have hml := hM.lt
        have hf2 : Fr [u, m] wr ((wr.setCell ⟨u, k, none⟩ (.int .i64 k)).alloc (.cells #[.int .i64 l[k].k, .string l[k].s, .int .i64 l[k].n] 42)) := ((Fr.refl _ _).set (by simp) _).alloc _
        have hM2 : MapV Try.prog 3 ((wr.setCell ⟨u, k, none⟩ (.int .i64 k)).alloc (.cells #[.int .i64 l[k].k, .string l[k].s, .int .i64 l[k].n] 42)) m n (firstV (l.take k)) :=
          (hM.kept (row := some u) (grown_set _ u k _) (by simp; omega)).alloc _
        clear hbx1 hbx2 hbz hU1 hM
        have HL := mkHid hL
        have HU2 := mkHid hU2
        have HM2 := mkHid hM2
        have HF2 := mkHid hf2
        have hgn : g ∉ [u, m] := by simp; omega
        have hsn : s ∉ [u, m] := by simp; omega
        have hCn : C ∉ [u, m] := by simp; omega
        have hum : ∀ k ∈ [u, m], w1.heap.size ≤ k := by simp; omega
        have HN := mkHid (And.intro hgn (And.intro hsn (And.intro hCn hum)))
        clear hL hU2 hM2 hf2 hgn hsn hCn hum
        by_cases hv : l[k].k = 1
        · have t1 : (l[k].k != 1) = false := by simp [hv]
          have hwf : (Lit.int .i64 l[k].n).wf = true := wf64 hf.n1 hf.n2
          have HMq : Hid (∀ q, MapV Try.prog 3 (((wr.setCell ⟨u, k, none⟩ (.int .i64 k)).alloc (.cells #[.int .i64 l[k].k, .string l[k].s, .int .i64 l[k].n] 42)).drewN q) m n (firstV (l.take k))) := fun q => HM2.out.below ⟨rfl, rfl, rfl, Nat.le_refl _, fun _ _ => rfl⟩
          have HF3 : Hid (∀ q, Fr [u, m] wr (((wr.setCell ⟨u, k, none⟩ (.int .i64 k)).alloc (.cells #[.int .i64 l[k].k, .string l[k].s, .int .i64 l[k].n] 42)).drewN q)) := fun q => HF2.out.trans ⟨rfl, rfl, rfl, Nat.le_refl _, fun _ _ _ => rfl⟩
          cases hfo : firstO (l.take k) l[k].n with
          | some i =>
            have hlk : ∀ q, (Instr.lookup 77 (.map (some m)) (.int .i64 l[k].n) true).run Try.prog (((wr.setCell ⟨u, k, none⟩ (.int .i64 k)).alloc (.cells #[.int .i64 l[k].k, .string l[k].s, .int .i64 l[k].n] 42)).drewN q) = .ok (.tuple #[.int .i64 i, .bool true]) (((wr.setCell ⟨u, k, none⟩ (.int .i64 k)).alloc (.cells #[.int .i64 l[k].k, .string l[k].s, .int .i64 l[k].n] 42)).drewN q) := fun q => by
              have h := (HMq.out q).run_ok (t := 77) (e := 3) Try.underlying3 Try.underlying77 (Try.zeroInt _) hwf
              unfold firstV at h
              rw [hfo] at h
              exact h
            have hik := first_lt hfo
            rw [List.length_take] at hik
            have HUs : Hid (∀ q, RowU ((((wr.setCell ⟨u, k, none⟩ (.int .i64 k)).alloc (.cells #[.int .i64 l[k].k, .string l[k].s, .int .i64 l[k].n] 42)).drewN q).setCell ⟨u, k, none⟩ (.int .i64 i)) u (upK l (k + 1))) := by
              intro q
              rw [← upK_set hlt (v := (i : Int)) (by rw [upAt_var hlt hv, hfo]; rfl)]
              have h := (show RowU (((wr.setCell ⟨u, k, none⟩ (.int .i64 k)).alloc (.cells #[.int .i64 l[k].k, .string l[k].s, .int .i64 l[k].n] 42)).drewN q) u ((upK l k).set k (k : Int)) from HU2.out).set k (i : Int)
              rw [List.set_set] at h
              exact h
            have HV := mkHid (firstV_same hlt (fun v h => by
              simp [isV, hv] at h
              rw [← h, hfo]; rfl))
            have eu2 : ((wr.setCell ⟨u, k, none⟩ (.int .i64 k)).alloc (.cells #[.int .i64 l[k].k, .string l[k].s, .int .i64 l[k].n] 42)).cell? ⟨u, k, none⟩ = some (.int .i64 k) := by
              have h := HU2.out.read (k := k) (by rw [List.length_set]; exact hkU)
              rw [List.getElem_set_self] at h
              exact h
            have fu2 : ((wr.setCell ⟨u, k, none⟩ (.int .i64 k)).alloc (.cells #[.int .i64 l[k].k, .string l[k].s, .int .i64 l[k].n] 42)).frozen? ⟨u, k, none⟩ = false := HU2.out.free k
            clear hv hfo
            go_wp2_with fail
            go_quiet (fail)
            go_wp2_with fail
            go_round
            case rel => exact ⟨k + 1, by omega, by go_num, HL.out.step (Fr.set (g := u) (HF3.out _) (by simp) _) HN.out.1 HN.out.2.1 HN.out.2.2.1 HN.out.2.2.2 (HUs.out _) (n := n) (by omega) (by rw [HV.out]; exact (HMq.out _).kept (row := some u) (grown_set _ u k _) (by simp; omega))⟩
            case measure => simp [intOf]; omega
          | none =>
            have hlk : ∀ q, (Instr.lookup 77 (.map (some m)) (.int .i64 l[k].n) true).run Try.prog (((wr.setCell ⟨u, k, none⟩ (.int .i64 k)).alloc (.cells #[.int .i64 l[k].k, .string l[k].s, .int .i64 l[k].n] 42)).drewN q) = .ok (.tuple #[.int .i64 0, .bool false]) (((wr.setCell ⟨u, k, none⟩ (.int .i64 k)).alloc (.cells #[.int .i64 l[k].k, .string l[k].s, .int .i64 l[k].n] 42)).drewN q) := fun q => by
              have h := (HMq.out q).run_ok (t := 77) (e := 3) Try.underlying3 Try.underlying77 (Try.zeroInt _) hwf
              unfold firstV at h
              rw [hfo] at h
              exact h
            have hup : ∀ q, ∃ w', (Instr.mapUpdate 77 (.map (some m)) (.int .i64 l[k].n) (.int .i64 k)).run Try.prog (((wr.setCell ⟨u, k, none⟩ (.int .i64 k)).alloc (.cells #[.int .i64 l[k].k, .string l[k].s, .int .i64 l[k].n] 42)).drewN q) = .ok () w' ∧ MapV Try.prog 3 w' m (n + 1) (firstV (l.take (k + 1))) ∧ (((wr.setCell ⟨u, k, none⟩ (.int .i64 k)).alloc (.cells #[.int .i64 l[k].k, .string l[k].s, .int .i64 l[k].n] 42)).drewN q).grownBy w' (some m) := fun q => by
              rw [firstV_new hlt hv hfo]
              exact (HMq.out q).run_update Try.underlying3 Try.underlying77 (by omega) l[k].n hwf _
            obtain ⟨wu, hwu⟩ : ∃ wu : Nat → World, ∀ q, (Instr.mapUpdate 77 (.map (some m)) (.int .i64 l[k].n) (.int .i64 k)).run Try.prog (((wr.setCell ⟨u, k, none⟩ (.int .i64 k)).alloc (.cells #[.int .i64 l[k].k, .string l[k].s, .int .i64 l[k].n] 42)).drewN q) = .ok () (wu q) ∧ MapV Try.prog 3 (wu q) m (n + 1) (firstV (l.take (k + 1))) ∧ (((wr.setCell ⟨u, k, none⟩ (.int .i64 k)).alloc (.cells #[.int .i64 l[k].k, .string l[k].s, .int .i64 l[k].n] 42)).drewN q).grownBy (wu q) (some m) :=
              ⟨fun q => Classical.choose (hup q), fun q => Classical.choose_spec (hup q)⟩
            have hup1 : ∀ q, (Instr.mapUpdate 77 (.map (some m)) (.int .i64 l[k].n) (.int .i64 k)).run Try.prog (((wr.setCell ⟨u, k, none⟩ (.int .i64 k)).alloc (.cells #[.int .i64 l[k].k, .string l[k].s, .int .i64 l[k].n] 42)).drewN q) = .ok () (wu q) := fun q => (hwu q).1
            have hup2 : ∀ q, (Instr.mapUpdate 77 (.map (some m)) (.int .i64 l[k].n) (.int .i64 k)).run Try.prog (((wr.setCell ⟨u, k, none⟩ (.int .i64 k)).alloc (.cells #[.int .i64 l[k].k, .string l[k].s, .int .i64 l[k].n] 42)).drewN q).drew = .ok () (wu (q + 1)) := fun q => (hwu (q + 1)).1
            have HWU : Hid (∀ q, MapV Try.prog 3 (wu q) m (n + 1) (firstV (l.take (k + 1))) ∧ (((wr.setCell ⟨u, k, none⟩ (.int .i64 k)).alloc (.cells #[.int .i64 l[k].k, .string l[k].s, .int .i64 l[k].n] 42)).drewN q).grownBy (wu q) (some m)) := fun q => (hwu q).2
            have HUs : Hid (∀ q, RowU (wu q) u (upK l (k + 1))) := fun q => by
              rw [← upK_set hlt (v := (k : Int)) (by rw [upAt_var hlt hv, hfo]; rfl)]
              exact (show RowU (((wr.setCell ⟨u, k, none⟩ (.int .i64 k)).alloc (.cells #[.int .i64 l[k].k, .string l[k].s, .int .i64 l[k].n] 42)).drewN q) u ((upK l k).set k (k : Int)) from HU2.out).grown (hwu q).2.2 (by simp; omega)
            have s2 : ∀ q, (wu q).cell? ⟨C, 2, none⟩ = some (.map (some m)) := fun q => (World.cell?_of_block (w := ((wr.setCell ⟨u, k, none⟩ (.int .i64 k)).alloc (.cells #[.int .i64 l[k].k, .string l[k].s, .int .i64 l[k].n] 42)).drewN q) (a := ⟨C, 2, none⟩) ((hwu q).2.2.block C (by simp [World.drewN, World.setCell]; omega) (by simp; omega))).trans h2
            have s3 : ∀ q, (wu q).cell? ⟨wr.heap.size, 2, none⟩ = some (.int .i64 l[k].n) := fun q => (World.cell?_of_block (w := ((wr.setCell ⟨u, k, none⟩ (.int .i64 k)).alloc (.cells #[.int .i64 l[k].k, .string l[k].s, .int .i64 l[k].n] 42)).drewN q) (a := ⟨wr.heap.size, 2, none⟩) ((hwu q).2.2.block wr.heap.size (by simp [World.drewN, World.setCell]) (by have := HL.out.b.size; simp; omega))).trans g2
            clear hv hfo hup hwu
            go_wp2_with fail
            go_quiet (fail)
            go_wp2_with fail
            go_region_held3 (fun w' => w'.cell? ⟨C, 2, none⟩ = some (.map (some m)) ∧ w'.cell? ⟨wr.heap.size, 2, none⟩ = some (.int .i64 l[k].n))
              (first | exact ⟨h2, g2⟩ | exact ⟨s2 _, s3 _⟩)
              (fail)
            go_wp2
            go_round
            case rel => exact ⟨k + 1, by omega, by go_num, HL.out.step ((HF3.out _).trans (Fr.ofGrown (HWU.out _).2)) HN.out.1 HN.out.2.1 HN.out.2.2.1 HN.out.2.2.2 (HUs.out _) (n := n + 1) (by omega) (HWU.out _).1⟩
            case measure => simp [intOf]; omega
        · have t1 : (l[k].k != 1) = true := by simp [hv]
          have HUs : Hid (RowU ((wr.setCell ⟨u, k, none⟩ (.int .i64 k)).alloc (.cells #[.int .i64 l[k].k, .string l[k].s, .int .i64 l[k].n] 42)) u (upK l (k + 1))) := by
            rw [Hid, ← upK_set hlt (v := (k : Int)) (by rw [upAt_other hlt hv])]; exact HU2.out
          have HV := mkHid (firstV_same hlt (fun v h => by simp [isV, hv] at h))
          clear hv
          go_wp2_with fail
          go_round
          case rel => exact ⟨k + 1, by omega, by go_num, HL.out.step HF2.out HN.out.1 HN.out.2.1 HN.out.2.2.1 HN.out.2.2.2 HUs.out (n := n) (by omega) (by rw [HV.out]; exact HM2.out)⟩
          case measure => simp [intOf]; omega
      · obtain rfl : k = l.length := by omega
        go_wp2_with fail
        go_ret
        exact ⟨C, g, m, u, s, a1, cap1, w1, rfl, hb, r1n.mono (by simp), hold, ⟨ne1, ne2, ne3, ne4, ne5, ne6, ne7, ne8, ne9, ne10⟩, hL⟩
  · subst hA
    have hmm := @run_makeMap Try.prog
    have hms := run_ints l.length (by omega)
    have r2 : Row w1.drew a1 cap1 l := r1.below (Below.refl _ _).drew
    go_region_held3 (fun _ => True) (trivial)
      (first
        | (go_at_call 64; refine (ends_any a1 cap1 _ l r2 HG.out (by omega)).mono ?_; rintro e w4 ⟨g, rfl, hg, hE, hb4⟩)
        | (go_at_call 64; refine (ends_any a1 cap1 _ l (r2.below ((Below.refl _ _).new _)) HG.out (by omega)).mono ?_; rintro e w4 ⟨g, rfl, hg, hE, hb4⟩)
        | (go_at_call 64; refine (ends_any a1 cap1 _ l (r2.below (((Below.refl _ _).new _).new _)) HG.out (by omega)).mono ?_; rintro e w4 ⟨g, rfl, hg, hE, hb4⟩)
        | (go_at_call 64; refine (ends_any a1 cap1 _ l (r2.below ((((Below.refl _ _).new _).new _).new _)) HG.out (by omega)).mono ?_; rintro e w4 ⟨g, rfl, hg, hE, hb4⟩))
    all_goals
      have q1 := hb4.size
      have q2 := hE.lt
      have q0 : w1.drew.heap.size = w1.heap.size := rfl
      have hbd : Below w1.heap.size w1 w1.drew := (Below.refl _ _).drew
      simp only [World.size_alloc, q0] at q1 hg
      refine ⟨rfl, _, _, _, _, _, (by rfl), ⟨?_, ?_, ?_, ?_, ?_, ?_, ?_, ?_⟩⟩
      · omega
      · omega
      · repeat (first | exact hE | refine RowU.alloc ?_ _ | refine RowU.below ?_ hb4)
      · repeat (first | exact RowU.made2 (by first | rfl | (simp only [World.size_alloc]; done) | (simp only [World.size_alloc]; rfl)) | refine RowU.alloc ?_ _ | refine RowU.below ?_ hb4)
      · repeat (first | exact RowU.made2 (by first | rfl | (simp only [World.size_alloc]; done) | (simp only [World.size_alloc]; rfl)) | refine RowU.alloc ?_ _ | refine RowU.below ?_ hb4)
      · repeat (first | exact map_made2 (by first | rfl | (simp only [World.size_alloc]; done) | (simp only [World.size_alloc]; rfl)) | refine MapV.alloc ?_ _ | refine MapV.below ?_ hb4)
      · exact box_new (by first | rfl | (simp only [World.size_alloc]; done) | (simp only [World.size_alloc]; rfl))
      · repeat (first | exact hbd | refine Below.new ?_ _ | refine Below.then ?_ hb4)
end Go.Proofs.Ytlddglajdcednaa

namespace Go.Proofs.Ytlddglajdcednaa
open Go.RowKit

/-! ### the classes' own reckoning, on rows of numbers: r: of each place the one that stands for its class -/
def uniR (r : List Nat) (x y : Nat) : List Nat := r.map fun z => if z = x then y else z
/-- one pair of places: the classes behind it, and what is to do behind it; nothing: a clash -/
def joinStep (l : List Cel) (r : List Nat) (p q : Nat) : Option (List Nat × List (Nat × Nat)) :=
  let x := r.getD p 0
  let y := r.getD q 0
  match l[x]?, l[y]? with
  | some c, some d =>
    if x = y then some (r, [])
    else if yieldsB c d then some (uniR r x y, [])
    else if yieldsB d c then some (uniR r y x, [])
    else if c = d then some (uniR r x y, ((argsL l x).zip (argsL l y)).reverse)
    else none
  | _, _ => none
/-- all pairs that are to do, the last one first -/
def joinL (l : List Cel) : Nat → List Nat → List (Nat × Nat) → Option (List Nat)
  | _, r, [] => some r
  | 0, _, _ => none
  | f + 1, r, (p, q) :: t => match joinStep l r p q with
    | none => none
    | some (r', u) => joinL l f r' (u ++ t)
/-- the sizes of the classes' terms; nothing: one is within itself -/
def measureL (l : List Cel) (r : List Nat) : Nat → List Int → Nat → Option (List Int)
  | 0, _, _ => none
  | f + 1, s, p =>
    let x := r.getD p 0
    if s.getD x 0 = 0 then
      match (argsL l x).foldl (fun (o : Option (List Int × Int)) q => o.bind fun (s', n) => (measureL l r f s' q).map fun s2 => (s2, n + s2.getD (r.getD q 0) 0)) (some (s.set x (-1), 1)) with
      | none => none
      | some (s', n) => some (s'.set x (min n 201))
    else if s.getD x 0 = -1 then none else some s
/-- the term of a place's class -/
def layL (l : List Cel) (r : List Nat) : Nat → Nat → List Cel
  | 0, _ => []
  | f + 1, p => match l[r.getD p 0]? with
    | none => []
    | some c => c :: (argsL l (r.getD p 0)).flatMap (layL l r f)
/-- what is told of two right terms: none: they can't be made alike; some none: too long -/
def mguL (a b : List Cel) : Option (Option (List Bnd)) :=
  let l := a ++ b
  let n := l.length
  match joinL l (7 * n + 1) ((List.range n).map (upAt l)) [(0, a.length)] with
  | none => none
  | some r => match measureL l r (n + 1) (List.replicate n 0) 0 with
    | none => none
    | some s =>
      let vs := riseI (varsL a ++ varsL b)
      let at_ := fun v => r.getD ((firstO l v).getD 0) 0
      if vs.any (fun v => decide (200 < s.getD (at_ v) 0)) then some none
      else some (some (bindL (fun v => layL l r (n + 1) (at_ v)) vs))
end Go.Proofs.Ytlddglajdcednaa

namespace Go.Proofs.Ytlddglajdcednaa
open Go.RowKit

/-! ### the forest, when one class goes to another -/
section
variable {n : Nat} {U : List Int} {r d : Nat → Nat}
theorem Roots.union (h : Roots n U r d) {x y : Nat} (hx : x < n) (hy : y < n) (hrx : r x = x) (hry : r y = y) (hne : x ≠ y) :
    Roots n (U.set x (y : Int)) (fun z => if r z = x then y else r z) (fun z => if r z = x then d z + d y + 1 else d z) := by
  have hxl : x < U.length := by rw [h.len]; exact hx
  have hyx : r y ≠ x := by rw [hry]; exact fun e => hne e.symm
  refine ⟨by rw [List.length_set]; exact h.len, fun z hz => ?_, fun z hz => ?_, fun z hz => ?_⟩
  · by_cases e : x = z
    · subst e
      refine ⟨y, by rw [List.getElem?_set_self hxl], hy, ?_, fun _ => ?_, fun e => absurd e.symm hne⟩
      · simp only [hrx, if_true, if_neg hyx, hry]
        split <;> rfl
      · simp only [hrx, if_true, if_neg hyx]; omega
    · obtain ⟨q, e1, hq1, hq2, hq3, hq4⟩ := h.up z hz
      refine ⟨q, by rw [List.getElem?_set_ne e]; exact e1, hq1, by simp only [hq2], fun hqz => ?_, fun hqz => ?_⟩
      · have := hq3 hqz
        simp only [hq2]
        split <;> omega
      · have hrz := hq4 hqz
        have : r z ≠ x := by rw [hrz]; exact fun e' => e e'.symm
        simp only [if_neg this]; exact hrz
  · split
    · exact hy
    · exact h.lt z hz
  · split
    · rw [List.getElem?_set_ne hne]
      have := h.top y hy
      rwa [hry] at this
    · rename_i hz2
      rw [List.getElem?_set_ne (fun e => hz2 e.symm)]
      exact h.top z hz
end
/-- the place that stands for a class stands for itself -/
theorem Roots.idem {n : Nat} {U : List Int} {r d : Nat → Nat} (h : Roots n U r d) {z : Nat} (hz : z < n) : r (r z) = r z := by
  obtain ⟨q, e1, _, _, _, hq4⟩ := h.up (r z) (h.lt z hz)
  rw [h.top z hz] at e1
  injection e1 with e1
  exact hq4 (by omega)

/-! ### how long joining lasts -/
/-- how many places stand for their classes -/
def tops (r : List Nat) : Nat := ((List.range r.length).filter fun k => r.getD k 0 = k).length
theorem uniR_length (r : List Nat) (x y : Nat) : (uniR r x y).length = r.length := by simp [uniR]
theorem uniR_get (r : List Nat) (x y : Nat) {k : Nat} (hk : k < r.length) : (uniR r x y).getD k 0 = if r.getD k 0 = x then y else r.getD k 0 := by
  simp [uniR, List.getD_eq_getElem?_getD, List.getElem?_map, List.getElem?_eq_getElem hk]
theorem tops_uni {r : List Nat} {x y : Nat} (hx : x < r.length) (hrx : r.getD x 0 = x) (hry : r.getD y 0 = y) (hne : x ≠ y) : tops (uniR r x y) + 1 ≤ tops r := by
  unfold tops
  rw [uniR_length]
  have h1 : ∀ k ∈ List.range r.length, ((uniR r x y).getD k 0 = k) → (r.getD k 0 = k ∧ k ≠ x) := by
    intro k hk e
    rw [uniR_get r x y (List.mem_range.1 hk)] at e
    by_cases h : r.getD k 0 = x
    · rw [if_pos h] at e
      subst e
      rw [hry] at h
      exact absurd h.symm hne
    · rw [if_neg h] at e
      exact ⟨e, fun e' => h (by rw [e', hrx])⟩
  have h2 : ((List.range r.length).filter fun k => (uniR r x y).getD k 0 = k).length ≤ (((List.range r.length).filter fun k => r.getD k 0 = k).filter fun k => k ≠ x).length := by
    rw [List.filter_filter, ← List.countP_eq_length_filter, ← List.countP_eq_length_filter]
    refine List.countP_mono_left (fun k hk e => ?_)
    have := h1 k hk (by simpa using e)
    simp only [Bool.and_eq_true, decide_eq_true_eq]
    exact ⟨this.2, this.1⟩
  have h3 : (((List.range r.length).filter fun k => r.getD k 0 = k).filter fun k => k ≠ x).length < ((List.range r.length).filter fun k => r.getD k 0 = k).length := by
    rw [List.length_filter_lt_length_iff_exists]
    exact ⟨x, List.mem_filter.2 ⟨List.mem_range.2 hx, by simpa using hrx⟩, by simp⟩
  omega
end Go.Proofs.Ytlddglajdcednaa

namespace Go.Proofs.Ytlddglajdcednaa
open Go.RowKit

/-- rows of classes, and what is to do -/
structure JoinOk (l : List Cel) (r : List Nat) (t : List (Nat × Nat)) : Prop where
  len : r.length = l.length
  top : ∀ k, k < l.length → r.getD k 0 < l.length ∧ r.getD (r.getD k 0) 0 = r.getD k 0
  todo : ∀ p ∈ t, p.1 < l.length ∧ p.2 < l.length
theorem args_lt {l : List Cel} (hG : Good l) {i q : Nat} (h : q ∈ argsL l i) : q < l.length := by
  unfold argsL at h
  cases hi : l[i]? with
  | none => rw [hi] at h; cases h
  | some c =>
    rw [hi] at h
    obtain ⟨hlt, rfl⟩ := List.getElem?_eq_some_iff.1 hi
    obtain ⟨j, hj, rfl⟩ := List.mem_map.1 h
    have hj := List.mem_range.1 hj
    obtain ⟨g1, g2, g3⟩ := good_after hG hlt (j := j) (by omega)
    have := g3 hj
    unfold argP
    omega
theorem args_len {l : List Cel} (hG : Good l) (i : Nat) : (argsL l i).length ≤ 6 := by
  unfold argsL
  cases hi : l[i]? with
  | none => simp
  | some c =>
    obtain ⟨hlt, rfl⟩ := List.getElem?_eq_some_iff.1 hi
    obtain ⟨hc, _⟩ := good_cell hG hlt
    have := ar_le _ hc
    simpa using this
theorem JoinOk.uni {l : List Cel} {r : List Nat} {t : List (Nat × Nat)} (h : JoinOk l r t) {x y : Nat} (hy : y < l.length) (hry : r.getD y 0 = y) (hne : x ≠ y) : JoinOk l (uniR r x y) t := by
  refine ⟨(uniR_length r x y).trans h.len, fun k hk => ?_, h.todo⟩
  obtain ⟨h1, h2⟩ := h.top k hk
  rw [uniR_get r x y (by rw [h.len]; exact hk)]
  split
  · refine ⟨hy, ?_⟩
    rw [uniR_get r x y (by rw [h.len]; exact hy), hry, if_neg (fun e => hne e.symm)]
  · rename_i hz
    refine ⟨h1, ?_⟩
    rw [uniR_get r x y (by rw [h.len]; exact h1), h2, if_neg hz]
theorem join_step {l : List Cel} (hG : Good l) {r r' : List Nat} {p q : Nat} {t u : List (Nat × Nat)} (h : JoinOk l r ((p, q) :: t)) (hs : joinStep l r p q = some (r', u)) :
    JoinOk l r' (u ++ t) ∧ 7 * tops r' + u.length ≤ 7 * tops r := by
  obtain ⟨hp, hq⟩ := h.todo (p, q) List.mem_cons_self
  obtain ⟨x1, x2⟩ := h.top p hp
  obtain ⟨y1, y2⟩ := h.top q hq
  have ht : JoinOk l r t := ⟨h.len, h.top, fun z hz => h.todo z (List.mem_cons_of_mem _ hz)⟩
  unfold joinStep at hs
  simp only [List.getElem?_eq_getElem x1, List.getElem?_eq_getElem y1] at hs
  split at hs
  · cases hs; exact ⟨ht, by simp⟩
  · rename_i hne
    have u1 := tops_uni (by rw [h.len]; exact x1) x2 y2 hne
    have u2 := tops_uni (by rw [h.len]; exact y1) y2 x2 (fun e => hne e.symm)
    split at hs
    · cases hs; exact ⟨ht.uni y1 y2 hne, by rw [List.length_nil]; omega⟩
    · split at hs
      · cases hs; exact ⟨ht.uni x1 x2 (fun e => hne e.symm), by rw [List.length_nil]; omega⟩
      · split at hs
        · cases hs
          have k1 := ht.uni (x := r.getD p 0) y1 y2 hne
          refine ⟨⟨k1.len, k1.top, fun z hz => ?_⟩, ?_⟩
          · rcases List.mem_append.1 hz with hz | hz
            · have hz := List.of_mem_zip (List.mem_reverse.1 hz)
              exact ⟨args_lt hG hz.1, args_lt hG hz.2⟩
            · exact ht.todo z hz
          · have := args_len hG (r.getD p 0)
            rw [List.length_reverse, List.length_zip]
            omega
        · cases hs
/-- as many steps as are wanted, or more: the same answer -/
theorem join_fuel {l : List Cel} (hG : Good l) : ∀ (f g : Nat) (r : List Nat) (t : List (Nat × Nat)), JoinOk l r t → 7 * tops r + t.length ≤ f → 7 * tops r + t.length ≤ g → joinL l f r t = joinL l g r t := by
  intro f
  induction f with
  | zero =>
    intro g r t h hf hg
    have : t = [] := List.eq_nil_of_length_eq_zero (by omega)
    subst this
    cases g <;> rfl
  | succ f ih =>
    intro g r t h hf hg
    cases t with
    | nil => cases g <;> rfl
    | cons pq t =>
      obtain ⟨p, q⟩ := pq
      rw [List.length_cons] at hf hg
      cases g with
      | zero => omega
      | succ g =>
        unfold joinL
        cases hs : joinStep l r p q with
        | none => rfl
        | some o =>
          obtain ⟨r', u⟩ := o
          obtain ⟨k1, k2⟩ := join_step hG h hs
          exact ih g r' (u ++ t) k1 (by rw [List.length_append]; omega) (by rw [List.length_append]; omega)
theorem Roots.congr {n : Nat} {U : List Int} {r r' d : Nat → Nat} (h : Roots n U r d) (e : ∀ k, k < n → r' k = r k) : Roots n U r' d := by
  refine ⟨h.len, fun x hx => ?_, fun x hx => by rw [e x hx]; exact h.lt x hx, fun x hx => by rw [e x hx]; exact h.top x hx⟩
  obtain ⟨y, h1, h2, h3, h4, h5⟩ := h.up x hx
  exact ⟨y, h1, h2, by rw [e x hx, e y h2]; exact h3, h4, fun q => by rw [e x hx]; exact h5 q⟩
/-- the forest and the row of classes, when one class goes to another -/
theorem Roots.uni {l : List Cel} {U : List Int} {r : List Nat} {d : Nat → Nat} {t : List (Nat × Nat)} (h : Roots l.length U (fun k => r.getD k 0) d) (hj : JoinOk l r t) {x y : Nat} (hx : x < l.length) (hy : y < l.length) (hrx : r.getD x 0 = x) (hry : r.getD y 0 = y) (hne : x ≠ y) :
    ∃ d', Roots l.length (U.set x (y : Int)) (fun k => (uniR r x y).getD k 0) d' :=
  ⟨_, (h.union hx hy hrx hry hne).congr (fun k hk => uniR_get r x y (by rw [hj.len]; exact hk))⟩
/-- a scope whose labels no jump goes back to, at the wide fence -/
theorem wpIn_scope_wide {n : Nat} {P : Program} {c : Code} {Q : Exit → Act → World → Prop} {a : Act} {w : World} (h : c.wpIn Fence.wide n P (Exit.noGoto Q) a w) : (Code.scope c).wpIn Fence.wide n P Q a w :=
  wpIn_wide.2 (wp_scope_straight (wpIn_wide.1 h))
end Go.Proofs.Ytlddglajdcednaa

namespace Go.Proofs.Ytlddglajdcednaa
open Go.RowKit

/-! ### the forest as laid has it -/
theorem upAt_le {l : List Cel} {k : Nat} (hk : k < l.length) : upAt l k ≤ k ∧ upAt l (upAt l k) = upAt l k := by
  by_cases h : l[k].k = 1
  · cases hf : firstO (l.take k) l[k].n with
    | none =>
      have e : upAt l k = k := by rw [upAt_var hk h, hf]; rfl
      rw [e]; exact ⟨Nat.le_refl _, e⟩
    | some i =>
      have e : upAt l k = i := by rw [upAt_var hk h, hf]; rfl
      have hi := first_lt hf
      rw [List.length_take] at hi
      unfold firstO at hf
      obtain ⟨h1, h2, h3⟩ := List.findIdx?_eq_some_iff_getElem.1 hf
      have hil : i < l.length := by omega
      rw [List.getElem_take] at h2
      simp [isV] at h2
      rw [e]
      refine ⟨by omega, ?_⟩
      rw [upAt_var hil h2.1, h2.2]
      cases hg : firstO (l.take i) l[k].n with
      | none => rfl
      | some j =>
        exfalso
        have hj := first_lt hg
        rw [List.length_take] at hj
        unfold firstO at hg
        obtain ⟨g1, g2, _⟩ := List.findIdx?_eq_some_iff_getElem.1 hg
        have := h3 j (by omega)
        rw [List.getElem_take] at g2 this
        exact this g2
  · have e : upAt l k = k := by unfold upAt; rw [List.getElem?_eq_getElem hk]; simp [h]
    rw [e]; exact ⟨Nat.le_refl _, e⟩
def ups (l : List Cel) : List Nat := (List.range l.length).map (upAt l)
theorem ups_get {l : List Cel} {k : Nat} (hk : k < l.length) : (ups l).getD k 0 = upAt l k := by
  simp [ups, List.getD_eq_getElem?_getD, List.getElem?_map, List.getElem?_range hk]
theorem upL_get {l : List Cel} {k : Nat} (hk : k < l.length) : (upL l)[k]? = some (upAt l k : Int) := by
  simp [upL, List.getElem?_map, List.getElem?_range hk]
theorem laid_ok (l : List Cel) (t : List (Nat × Nat)) (ht : ∀ p ∈ t, p.1 < l.length ∧ p.2 < l.length) : JoinOk l (ups l) t := by
  refine ⟨by simp [ups], fun k hk => ?_, ht⟩
  obtain ⟨h1, h2⟩ := upAt_le hk
  rw [ups_get hk, ups_get (by omega), h2]
  exact ⟨by omega, rfl⟩
theorem laid_roots (l : List Cel) : Roots l.length (upL l) (fun k => (ups l).getD k 0) (fun k => if upAt l k = k then 0 else 1) := by
  refine ⟨upL_length l, fun x hx => ?_, fun x hx => ?_, fun x hx => ?_⟩
  · obtain ⟨h1, h2⟩ := upAt_le hx
    refine ⟨upAt l x, upL_get hx, by omega, ?_, fun hne => ?_, fun e => ?_⟩
    · rw [ups_get hx, ups_get (by omega), h2]
    · rw [if_pos h2, if_neg hne]; omega
    · rw [ups_get hx, e]
  · rw [ups_get hx]
    have := (upAt_le hx).1
    omega
  · obtain ⟨h1, h2⟩ := upAt_le hx
    rw [ups_get hx, upL_get (by omega), h2]
end Go.Proofs.Ytlddglajdcednaa

namespace Go.Proofs.Ytlddglajdcednaa
open Go.RowKit

/-! ### the row of pairs that are to do -/
def flatP (t : List (Nat × Nat)) : List Value := t.flatMap fun p => [.int .i64 p.1, .int .i64 p.2]
theorem flatP_len (t : List (Nat × Nat)) : (flatP t).length = t.length * 2 := by
  induction t with
  | nil => rfl
  | cons p t ih => unfold flatP at ih ⊢; rw [List.flatMap_cons, List.length_append, ih, List.length_cons]; simp; omega
theorem flatP_snoc (t : List (Nat × Nat)) (p : Nat × Nat) : flatP (t ++ [p]) = flatP t ++ [.int .i64 p.1, .int .i64 p.2] := by simp [flatP]
/-- the last one is the first to do -/
structure Todo (W : World) (B g cap : Nat) (t : List (Nat × Nat)) : Prop where
  row : W.ownsRow B 81 2 (.slice (some ⟨g, 0, none⟩) t.length cap) t.length (flatP t.reverse)
section
variable {W W' : World} {B g cap : Nat} {t : List (Nat × Nat)} {p : Nat × Nat}
theorem Todo.lt (h : Todo W B g cap t) : B ≤ g ∧ g < W.heap.size := h.row.lt g rfl
theorem Todo.block (h : Todo W B g cap t) (e : W'.heap[g]? = W.heap[g]?) : Todo W' B g cap t := by
  refine ⟨h.row.1, ?_⟩
  rcases h.row.2 with ⟨e1, _⟩ | ⟨g', cap', cur, hv, hb, hgg, rest⟩
  · cases e1
  · cases hv
    exact .inr ⟨g, cap, cur, rfl, hb, e.trans hgg, rest⟩
theorem Todo.room (h : Todo W B g cap t) : t.length ≤ cap ∧ cap ≤ 9223372036854775807 := by
  rcases h.row.2 with ⟨e1, _⟩ | ⟨g', cap', cur, hv, hb, hgg, h1, h2, _⟩
  · cases e1
  · cases hv
    exact ⟨h1, by unfold maxLen at h2; omega⟩
theorem Todo.pop (h : Todo W B g cap (p :: t)) : Todo W B g cap t := by
  have h1 := h.row
  rw [List.length_cons, List.reverse_cons, flatP_snoc] at h1
  exact ⟨ownsRow_pop (by rw [flatP_len, List.length_reverse]) h1⟩
theorem Todo.read (h : Todo W B g cap (p :: t)) : W.cell? ⟨g, t.length * 2, none⟩ = some (.int .i64 p.1) ∧ W.cell? ⟨g, t.length * 2 + 1, none⟩ = some (.int .i64 p.2) := by
  have h1 := h.row.cells (g := g) rfl
  rw [List.reverse_cons, flatP_snoc] at h1
  have e1 : (flatP t.reverse).length = t.length * 2 := by rw [flatP_len, List.length_reverse]
  have h2 := h1 (t.length * 2) (.int .i64 p.1) (by rw [List.getElem?_append_right (by omega), e1]; simp)
  have h3 := h1 (t.length * 2 + 1) (.int .i64 p.2) (by rw [List.getElem?_append_right (by omega), e1, show t.length * 2 + 1 - t.length * 2 = 1 by omega]; simp)
  have ha : ∀ j, (Addr.mk g 0 none).add j = ⟨g, j, none⟩ := fun j => by unfold Addr.add; split <;> simp_all
  rw [ha] at h2 h3
  exact ⟨h2, h3⟩
theorem Todo.first (w : World) (hB : B ≤ w.heap.size) (p : Nat × Nat) : Todo (w.alloc (.cells #[.int .i64 p.1, .int .i64 p.2] 81)) B w.heap.size 1 [p] :=
  ⟨by rfl, .inr ⟨w.heap.size, 1, #[.int .i64 p.1, .int .i64 p.2], rfl, hB, heap_alloc_new w _, Nat.le_refl _, by unfold maxLen; omega, rfl, rfl⟩⟩
end
theorem Try.infoPair : (Try.prog.info? 81).map (fun i => (i.zero, i.size, i.bytes)) = some (some (.agg #[.int .i64 0, .int .i64 0]), 2, 16) := by kernel_rfl
/-- append of one pair, laid just ahead of it -/
theorem wpListIn_push {F : Fence} {n : Nat} {w : World} {ops : Array Oper} {rest : List Oper} {o : Oper} {a : Act} {Q : Exit → Act → World → Prop}
    (hg : o.guard = none) (s x : Operand) (hop : o.op = Op.call { callee := Callee.builtin Builtin.append, args := #[s, x], argTypes := #[82, 82] })
    (B g cap : Nat) (t : List (Nat × Nat)) (p : Nat × Nat) (hT : Todo w B g cap t) (hs : a.eval s = .slice (some ⟨g, 0, none⟩) t.length cap) (hx : a.eval x = .slice (some ⟨w.heap.size, 0, none⟩) 1 1)
    (hB : B ≤ w.heap.size) (hl : t.length ≤ 1000000)
    (hK : ∀ g' cap' w', Todo w' B g' cap' (p :: t) → (w.alloc (.cells #[.int .i64 p.1, .int .i64 p.2] 81)).grownBy w' (some g) → (g' = g ∨ g' = w.heap.size + 1) → wpListIn F n Try.prog ops Q rest (a.put o.dst (.slice (some ⟨g', 0, none⟩) (t.length + 1) cap')) w') :
    wpListIn F n Try.prog ops Q (o :: rest) a (w.alloc (.cells #[.int .i64 p.1, .int .i64 p.2] 81)) := by
  obtain ⟨i, hi, hz0, hz1, hz2⟩ := info_parts Try.infoPair
  refine wpListIn_plain hg fun K hK' => ?_
  obtain ⟨v', w', hrun, h2, h3, h4⟩ := run_append_where (P := Try.prog) (w.alloc (.cells #[.int .i64 p.1, .int .i64 p.2] 81)) B 82 o.type 81 i _ 2 16 Try.underlying82 hi hz0 hz1 hz2 rfl (by omega) _ t.length _ (hT.row.alloc _)
    ⟨w.heap.size, 0, none⟩ 1 1 [.int .i64 p.1, .int .i64 p.2] rfl (by
      intro j u hj
      match j, hj with
      | 0, hj => simp at hj; subst hj; simp [Addr.add, World.cell?_alloc_at]
      | 1, hj => simp at hj; subst hj; simp [Addr.add, World.cell?_alloc_at]
      | j + 2, hj => simp at hj) (by intro u hu; simp at hu; rcases hu with rfl | rfl <;> rfl) (by unfold maxLen; omega) (by omega) (by simp; omega)
  have hrow : w'.ownsRow B 81 2 v' (t.length + 1) (flatP (p :: t).reverse) := by
    rw [List.reverse_cons, flatP_snoc]; exact h2
  obtain ⟨g', cap', rfl⟩ : ∃ g' cap', v' = .slice (some ⟨g', 0, none⟩) (t.length + 1) cap' := by
    rcases hrow.2 with ⟨_, h0⟩ | ⟨g', cap', _, e, _⟩
    · omega
    · exact ⟨g', cap', e⟩
  unfold Oper.wpIn
  refine ⟨?_, ?_⟩
  · simp [Oper.about, hop, resolve, Target.leads, Sem.run_pure]
  · rw [Oper.semAt_plain F _ _ (by rw [hop]; intro c hc'; cases hc')]
    simp [execOp, hop, resolve, invoke, builtin, hs, hx, hrun, Result.andThen]
    refine hK' _ _ (hK g' cap' w' ⟨by simpa using hrow⟩ h3 ?_)
    rcases h4 with e | e
    · left; simpa [Value.ownBlock] using e
    · right; simpa [Value.ownBlock] using e
end Go.Proofs.Ytlddglajdcednaa

namespace Go.Proofs.Ytlddglajdcednaa
open Go.RowKit

/-- the memory between two rounds of joining -/
structure JM (w : World) (u : Nat) (l : List Cel) (r : List Nat) (t : List (Nat × Nat)) (U : List Int) (d : Nat → Nat) (g cap : Nat) (Ds : List Nat) (W : World) : Prop where
  up : RowU W u U
  roots : Roots l.length U (fun k => r.getD k 0) d
  box : Boxed W (w.heap.size + 1) 82 (.slice (some ⟨g, 0, none⟩) t.length cap)
  todo : Todo W w.heap.size g cap t
  gb : g ≠ w.heap.size + 1
  fr : Fr [u] w W
  nodup : Ds.Nodup
  marks : ∀ D ∈ Ds, w.heap.size ≤ D ∧ W.heap[D]? = some (.deferred (some []))
/-- between two rounds of joining -/
structure JW (w : World) (u : Nat) (l : List Cel) (r0 : List Nat) (t0 : List (Nat × Nat)) (k : Nat) (r : List Nat) (t : List (Nat × Nat)) (U : List Int) (d : Nat → Nat) (g cap : Nat) (Ds : List Nat) (W : World) : Prop where
  ok : JoinOk l r t
  fuel : k = 7 * tops r + t.length
  le : k ≤ 7 * l.length + 1
  same : joinL l (7 * l.length + 1) r0 t0 = joinL l k r t
  m : JM w u l r t U d g cap Ds W
section
variable {w W W' : World} {u : Nat} {l : List Cel} {r r' : List Nat} {t : List (Nat × Nat)} {U U' : List Int} {d d' : Nat → Nat} {g cap : Nat} {Ds : List Nat}
/-- but for u all blocks that were there are as they were -/
theorem JM.next (h : JM w u l r t U d g cap Ds W) (hu : u < w.heap.size) (hf : Fr [u] W W') (hU : RowU W' u U') (hR : Roots l.length U' (fun k => r'.getD k 0) d') : JM w u l r' t U' d' g cap Ds W' := by
  have hb := h.box.lt
  have hg := h.todo.lt
  refine ⟨hU, hR, (hf.block _ hb (by simp; omega)).trans h.box, h.todo.block (hf.block _ hg.2 (by simp; omega)), h.gb, h.fr.trans hf, h.nodup, fun D hD => ⟨(h.marks D hD).1, ?_⟩⟩
  have h1 := h.marks D hD
  exact (hf.block D (Array.getElem?_eq_some_iff.1 h1.2).1 (by simp; omega)).trans h1.2
theorem JM.alloc (h : JM w u l r t U d g cap Ds W) (hu : u < w.heap.size) (o : Obj) : JM w u l r t U d g cap Ds (W.alloc o) := h.next hu ((Fr.refl _ _).alloc o) (h.up.alloc o) h.roots
theorem JM.below (h : JM w u l r t U d g cap Ds W) (hu : u < w.heap.size) (hb : Below W.heap.size W W') : JM w u l r t U d g cap Ds W' := h.next hu (Fr.of hb) (h.up.below hb) h.roots
/-- one class goes to another -/
theorem JM.uni (h : JM w u l r t U d g cap Ds W) (hu : u < w.heap.size) (hj : JoinOk l r t) {x y : Nat} (hx : x < l.length) (hy : y < l.length) (hrx : r.getD x 0 = x) (hry : r.getD y 0 = y) (hne : x ≠ y) :
    ∃ d', JM w u l (uniR r x y) t (U.set x (y : Int)) d' g cap Ds (W.setCell ⟨u, x, none⟩ (.int .i64 y)) := by
  obtain ⟨d', h1⟩ := h.roots.uni hj hx hy hrx hry hne
  exact ⟨d', h.next hu ((Fr.refl _ _).set (by simp) _) (h.up.set _ _) h1⟩
/-- the last pair is taken from the row -/
theorem JM.pop {p : Nat × Nat} (h : JM w u l r (p :: t) U d g cap Ds W) (hu : u < w.heap.size) : JM w u l r t U d g cap Ds (W.setCell ⟨w.heap.size + 1, 0, none⟩ (.slice (some ⟨g, 0, none⟩) t.length cap)) := by
  refine ⟨h.up.setOther (by omega) _, h.roots, h.box.set _, h.todo.pop.block (Below.heap_setCell W ⟨w.heap.size + 1, 0, none⟩ _ g h.gb), h.gb, ?_, h.nodup, fun D hD => ⟨(h.marks D hD).1, ?_⟩⟩
  · exact ⟨h.fr.os, h.fr.tape, h.fr.output, by have := h.fr.size; simpa [World.setCell] using this, fun k hk hn => (Below.heap_setCell W ⟨w.heap.size + 1, 0, none⟩ _ k (by simp; omega)).trans (h.fr.block k hk hn)⟩
  · have h1 := (h.marks D hD).2
    refine (Below.heap_setCell W ⟨w.heap.size + 1, 0, none⟩ _ D (fun e => ?_)).trans h1
    rw [show D = w.heap.size + 1 from e, show W.heap[w.heap.size + 1]? = _ from h.box] at h1
    cases h1
theorem JM.shut (h : JM w u l r t U d g cap Ds W) : Fr [u] w (shutAll Ds W) := by
  have hk : KpN w.heap.size [u] W (shutAll Ds W) := shutAll_kpn (fun D hD => .inl (h.marks D hD).1)
  exact KpN.fr h.fr hk (Nat.le_refl _)
/-- the round is done: what is to do is as it is, or more -/
theorem JW.next {r0 : List Nat} {t0 t' : List (Nat × Nat)} {k : Nat} {p q : Nat} {u2 : List (Nat × Nat)} {W0 : World} {U0 : List Int} {d0 : Nat → Nat} {g0 cap0 : Nat} {Ds0 : List Nat} (hG : Good l) (h : JW w u l r0 t0 k r ((p, q) :: t) U0 d0 g0 cap0 Ds0 W0) (hs : joinStep l r p q = some (r', u2)) (ht : u2 ++ t = t') (hm : JM w u l r' t' U' d' g cap Ds W) :
    ∃ k', k' < k ∧ JW w u l r0 t0 k' r' t' U' d' g cap Ds W := by
  subst ht
  obtain ⟨h1, h2⟩ := join_step hG h.ok hs
  have hf := h.fuel
  rw [List.length_cons] at hf
  have hle := h.le
  refine ⟨7 * tops r' + (u2 ++ t).length, by rw [List.length_append]; omega, h1, rfl, by rw [List.length_append]; omega, ?_, hm⟩
  rw [h.same]
  obtain ⟨f, rfl⟩ : ∃ f, k = f + 1 := ⟨k - 1, by omega⟩
  conv => lhs; unfold joinL
  simp only [hs]
  exact join_fuel hG _ _ _ _ h1 (by rw [List.length_append]; omega) (Nat.le_refl _)
theorem JW.clash {r0 : List Nat} {t0 : List (Nat × Nat)} {k : Nat} {p q : Nat} {W0 : World} {U0 : List Int} {d0 : Nat → Nat} {g0 cap0 : Nat} {Ds0 : List Nat} (h : JW w u l r0 t0 k r ((p, q) :: t) U0 d0 g0 cap0 Ds0 W0) (hs : joinStep l r p q = none) :
    joinL l (7 * l.length + 1) r0 t0 = none := by
  have hf := h.fuel
  rw [List.length_cons] at hf
  rw [h.same]
  obtain ⟨f, rfl⟩ : ∃ f, k = f + 1 := ⟨k - 1, by omega⟩
  unfold joinL
  simp only [hs]
end
/-! ### the loop over the pairs of arguments -/
def ofPre {n : Nat} (pre : List (Place n × Place n)) : List (Nat × Nat) := pre.map fun e => (e.1.1, e.2.1)
/-- what is to do grows by the pairs that have come; WR: the memory at the loop's begin -/
structure JIx (w WR : World) {n : Nat} (g : Nat) (t : List (Nat × Nat)) (pre : List (Place n × Place n)) (g' cap' : Nat) (W : World) : Prop where
  box : Boxed W (w.heap.size + 1) 82 (.slice (some ⟨g', 0, none⟩) ((ofPre pre).reverse ++ t).length cap')
  todo : Todo W w.heap.size g' cap' ((ofPre pre).reverse ++ t)
  wh : g' = g ∨ WR.heap.size + 8 ≤ g'
  kp : KpN WR.heap.size [w.heap.size + 1, g] WR W
def JI (w WR : World) {n : Nat} (g : Nat) (t : List (Nat × Nat)) (pre : List (Place n × Place n)) (W : World) : Prop := ∃ g' cap', JIx w WR g t pre g' cap' W
theorem Todo.cells {W : World} {B g cap : Nat} {t : List (Nat × Nat)} (h : Todo W B g cap t) : ∃ cur, W.heap[g]? = some (.cells cur 81 (0, 0)) := by
  rcases h.row.2 with ⟨e1, _⟩ | ⟨g', cap', cur, hv, hb, hgg, _⟩
  · cases e1
  · cases hv
    exact ⟨cur, hgg⟩
theorem JI.own {w WR : World} {n g : Nat} {t : List (Nat × Nat)} (hB : w.heap.size + 1 < WR.heap.size) (hg : g < WR.heap.size) : OwnX WR.heap.size (some (WR.heap.size + 2 + 1)) (JI (n := n) w WR g t) := by
  rintro pre W W' row ⟨g', cap', h⟩ hgr hr
  have h1 : row ≠ some (w.heap.size + 1) := fun e => (hr _ e).elim (fun q => by have : WR.heap.size + 2 + 1 = w.heap.size + 1 := Option.some.inj q; omega) (fun q => by have := q.1; omega)
  have h2 : row ≠ some g' := fun e => (hr _ e).elim (fun q => by have := h.wh; have : WR.heap.size + 2 + 1 = g' := Option.some.inj q; omega) (fun ⟨_, o, q1, q2⟩ => by
    obtain ⟨cur, hc⟩ := h.todo.cells
    rw [hc] at q1
    cases q1
    cases q2)
  refine ⟨g', cap', h.box.kept hgr (fun e => h1 e.symm), h.todo.block (hgr.block _ h.todo.lt.2 (fun e => h2 e.symm)), h.wh, h.kp.trans ⟨hgr.os, hgr.tape, hgr.output, hgr.size, fun k hk _ => hgr.block k (Nat.lt_of_lt_of_le hk h.kp.size) (fun e => ?_)⟩⟩
  exact (hr k e.symm).elim (fun q => by have : WR.heap.size + 2 + 1 = k := Option.some.inj q; omega) (fun q => by have := q.1; omega)
theorem JI.start {w WR : World} {n g cap u : Nat} {l : List Cel} {r : List Nat} {t : List (Nat × Nat)} {U : List Int} {d : Nat → Nat} {Ds : List Nat} (h : JM w u l r t U d g cap Ds WR) : JI (n := n) w WR g t [] WR :=
  ⟨g, cap, h.box, h.todo, .inl rfl, KpN.refl _ _ _⟩
/-- one pair more -/
theorem JIx.push {w WR W w' : World} {n g g' cap' g2 cap2 : Nat} {t : List (Nat × Nat)} {pre : List (Place n × Place n)} {x y : Place n} {us : List Nat} (hB : w.heap.size + 1 < WR.heap.size) (hg : g < WR.heap.size) (hgb : g ≠ w.heap.size + 1) (hsz : WR.heap.size + 8 ≤ W.heap.size)
    (h : JIx w WR g t pre g' cap' W) (hus : w.heap.size + 1 ∈ us ∧ g ∈ us)
    (hT : Todo w' w.heap.size g2 cap2 ((x.1, y.1) :: ((ofPre pre).reverse ++ t))) (hgr : (W.alloc (.cells #[.int .i64 x.1, .int .i64 y.1] 81)).grownBy w' (some g')) (hw : g2 = g' ∨ g2 = W.heap.size + 1) :
    Boxed w' (w.heap.size + 1) 82 (.slice (some ⟨g', 0, none⟩) ((ofPre pre).reverse ++ t).length cap') ∧
    Two WR.heap.size W (w'.setCell ⟨w.heap.size + 1, 0, none⟩ (.slice (some ⟨g2, 0, none⟩) (((ofPre pre).reverse ++ t).length + 1) cap2)) ∧ KpN (WR.heap.size + 8) us W (w'.setCell ⟨w.heap.size + 1, 0, none⟩ (.slice (some ⟨g2, 0, none⟩) (((ofPre pre).reverse ++ t).length + 1) cap2)) ∧
      JI w WR g t (pre ++ [(x, y)]) (w'.setCell ⟨w.heap.size + 1, 0, none⟩ (.slice (some ⟨g2, 0, none⟩) (((ofPre pre).reverse ++ t).length + 1) cap2)) := by
  have hwh := h.wh
  have hb1 : ∀ k, k < W.heap.size → k ≠ g' → w'.heap[k]? = W.heap[k]? := fun k hk hn => (hgr.block k (by simp; omega) (fun e => hn (Option.some.inj e))).trans (heap_alloc_old _ _ hk)
  have hbx : Boxed w' (w.heap.size + 1) 82 (.slice (some ⟨g', 0, none⟩) ((ofPre pre).reverse ++ t).length cap') := (hb1 _ (by omega) (by omega)).trans h.box
  have hs : W.heap.size ≤ w'.heap.size := by have := hgr.size; simp at this; omega
  have hb2 : ∀ k, k < W.heap.size → k ≠ g' → k ≠ w.heap.size + 1 → (w'.setCell ⟨w.heap.size + 1, 0, none⟩ (.slice (some ⟨g2, 0, none⟩) (((ofPre pre).reverse ++ t).length + 1) cap2)).heap[k]? = W.heap[k]? := fun k hk hn hm =>
    (Below.heap_setCell w' ⟨w.heap.size + 1, 0, none⟩ _ k hm).trans (hb1 k hk hn)
  have hk : ∀ N vs, N ≤ W.heap.size → w.heap.size + 1 ∈ vs → (g' ∈ vs ∨ N ≤ g') → KpN N vs W (w'.setCell ⟨w.heap.size + 1, 0, none⟩ (.slice (some ⟨g2, 0, none⟩) (((ofPre pre).reverse ++ t).length + 1) cap2)) := fun N vs hN hv hv2 =>
    ⟨hgr.os, hgr.tape, hgr.output, by simpa [World.setCell] using hs, fun k hk hn => hb2 k (by omega) (fun e => by subst e; rcases hv2 with q | q; exact hn q; omega) (fun e => by subst e; exact hn hv)⟩
  have e1 : (ofPre (pre ++ [(x, y)])).reverse ++ t = (x.1, y.1) :: ((ofPre pre).reverse ++ t) := by simp [ofPre]
  refine ⟨hbx, ⟨hb2 _ (by omega) (by omega) (by omega), hb2 _ (by omega) (by omega) (by omega)⟩, hk _ _ hsz hus.1 (by rcases hwh with q | q; exact .inl (by rw [q]; exact hus.2); exact .inr q), g2, cap2, ?_⟩
  refine ⟨by rw [e1]; exact hbx.set _, ?_, by omega, h.kp.trans (hk _ _ (by omega) (by simp) (by rcases hwh with q | q; exact .inl (by rw [q]; simp); exact .inr (by omega)))⟩
  rw [e1]
  refine hT.block (Below.heap_setCell w' ⟨w.heap.size + 1, 0, none⟩ _ g2 ?_)
  show g2 ≠ w.heap.size + 1
  omega
/-- all pairs have come -/
theorem JI.done {w WR W : World} {n g cap u D : Nat} {l : List Cel} {r : List Nat} {t : List (Nat × Nat)} {U : List Int} {d : Nat → Nat} {Ds : List Nat} {zs : List (Place n × Place n)} {A B : List Nat} (h : JM w u l r t U d g cap Ds WR) (hu : u < w.heap.size) (hB : w.heap.size + 1 < WR.heap.size) (hI : JI w WR g t zs W) (hD : WR.heap.size ≤ D) (hDd : W.heap[D]? = some (.deferred (some [])))
    (hA1 : zs.map (fun e => e.1.1) = A) (hA2 : zs.map (fun e => e.2.1) = B) : ∃ g' cap', JM w u l r ((A.zip B).reverse ++ t) U d g' cap' (D :: Ds) W := by
  obtain ⟨g', cap', hx⟩ := hI
  have e1 : ofPre zs = A.zip B := by rw [← hA1, ← hA2, List.zip_map']; rfl
  have hg := h.todo.lt
  have hbx := hx.box
  have htd := hx.todo
  rw [e1] at hbx htd
  refine ⟨g', cap', ?_, h.roots, hbx, htd, by have := hx.wh; have := h.gb; omega, ?_, ?_, ?_⟩
  · exact (hx.kp.block u (by omega) (by simp; omega)).trans h.up
  · exact KpN.fr h.fr (⟨hx.kp.os, hx.kp.tape, hx.kp.output, hx.kp.size, fun k hk _ => hx.kp.block k (by omega) (by simp; omega)⟩ : KpN w.heap.size [u] WR W) (Nat.le_refl _)
  · exact List.nodup_cons.2 ⟨fun e => by have := (Array.getElem?_eq_some_iff.1 (h.marks D e).2).1; omega, h.nodup⟩
  · intro E hE
    rcases List.mem_cons.1 hE with rfl | hE
    · exact ⟨by omega, hDd⟩
    · have h1 := h.marks E hE
      refine ⟨h1.1, (hx.kp.block E (Array.getElem?_eq_some_iff.1 h1.2).1 ?_).trans h1.2⟩
      intro e
      simp only [List.mem_cons, List.not_mem_nil, or_false] at e
      rcases e with rfl | rfl
      · rw [show WR.heap[w.heap.size + 1]? = _ from h.box] at h1; cases h1.2
      · obtain ⟨cur, hc⟩ := h.todo.cells
        rw [hc] at h1; cases h1.2
/-- without more blocks, which are newer -/
theorem veil_more {us vs : List Nat} {w W : World} {u : Nat} (hf : Fr [u] w W) (hu : u ∈ us) (h : ∀ k ∈ vs, k ∈ us ∨ w.heap.size ≤ k) : Keeps (veil us w) (veil vs W) := by
  intro b o v hc
  obtain ⟨hb, hc'⟩ := veil_cell hc
  have hl := cell_lt hc'
  exact veil_of (fun e => (h b e).elim hb (fun q => by omega)) ((World.cell?_of_block (a := ⟨b, o, none⟩) (hf.block b hl (by simp; rintro rfl; exact hb hu))).trans hc')

/-- what joining tells -/
def JoinPost (w : World) (u : Nat) (l : List Cel) (o : Option (List Nat)) (e : Ending) (w' : World) : Prop := Fr [u] w w' ∧ match o with
  | none => e = .returned (.bool false)
  | some r' => e = .returned (.bool true) ∧ JoinOk l r' [] ∧ ∃ U' d', RowU w' u U' ∧ Roots l.length U' (fun k => r'.getD k 0) d'
theorem tops_le (r : List Nat) : tops r ≤ r.length := by
  unfold tops
  have h := List.length_filter_le (fun k => decide (r.getD k 0 = k)) (List.range r.length)
  rwa [List.length_range] at h

end Go.Proofs.Ytlddglajdcednaa
