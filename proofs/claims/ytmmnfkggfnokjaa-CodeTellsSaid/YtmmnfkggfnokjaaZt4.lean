import Derived.Test.YtmmnfkggfnokjaaZt3
import Derived.OrdersHeld
import Derived.Deep.RegionHeld3
import Derived.Deep.LoopGhost
set_option linter.unusedVariables false
namespace Go.Proofs.Ytmmnfkggfnokjaa
open Go.RowKit
/-! ### a literal's structure: the memory -/
theorem RowU.madeN (w : World) (n : Nat) : RowU (w.alloc (.cells (Array.replicate n (Value.int .i64 0)) 3)) w.heap.size (List.replicate n (0 : Int)) := by
  unfold RowU
  rw [heap_alloc_new]
  congr 2
  simp
theorem made_intsN (n : Nat) : madeCells (Value.int .i64 0).cells n = Array.replicate n (Value.int .i64 0) := by
  unfold madeCells
  simp only [Value.cells]
  apply Array.ext
  · simp
  · intro i h1 h2
    simp [Nat.mod_one]
theorem run_intsN (n : Nat) (hn : n ≤ 1000000) (w : World) : (Instr.makeSlice 41 (.int .i64 n) (.int .i64 n)).run Try.prog w = .ok (.slice (some ⟨w.heap.size, 0, none⟩) n n) (w.alloc (.cells (Array.replicate n (Value.int .i64 0)) 3)) := by
  obtain ⟨i, hi, hz0, hz1, hz2⟩ := info_parts Try.infoInt
  have hrun := run_make (P := Try.prog) w 41 3 i _ Try.underlying41 hi hz0 .i64 .i64 n n (by omega) (Int.le_refl _) (by rw [hz2]; omega) (by omega)
  rw [hz1, Nat.mul_one, Int.toNat_natCast, made_intsN] at hrun
  exact hrun
/-- the closure that calls itself -/
def strF (F M : Nat) : Value := .func (.func 147) #[] #[.pointer (some ⟨F, 0, none⟩), .pointer (some ⟨M, 0, none⟩)]
structure StrN (w : World) (B L g : Nat) (vc : Value) (F M : Nat) (a : Option Addr) (c : Nat) (t : Tm) (a3 : Option Addr) (c3 I : Nat) (rs : List Int) (m : MkS) (vk : Value) (W : World) : Prop where
  mkm : MkM W B L g vk m 0 0
  inn : RowU W I rs
  iI : I ∉ kB L g vk
  tr : Row (veil (I :: kB L g vk) W) a c t.flat
  ps : Row (veil (I :: kB L g vk) W) a3 c3 (t.args.map Tm.flat)
  f : (veil (I :: kB L g vk) W).cell? ⟨F, 0, none⟩ = some (strF F M)
  mc : (veil (I :: kB L g vk) W).cell? ⟨M, 0, none⟩ = some (.pointer (some ⟨L, 0, none⟩))
  fr : Fr (kB L g vc) w W
  new : NewAtN w vc vk
  hI : w.heap.size ≤ I
section
variable {w W W' : World} {B L g F M c c3 I : Nat} {vc vk vk' : Value} {a a3 : Option Addr} {t : Tm} {rs : List Int} {m m' : MkS}
theorem veilI_keeps (hf : Fr (kB L g vk) W W') (hn : NewAtN W vk vk') : Keeps (veil (I :: kB L g vk) W) (veil (I :: kB L g vk') W') := fun b o x hx => by
  obtain ⟨h1, h2⟩ := veil_cell hx
  have hl := cell_lt h2
  simp only [List.mem_cons, not_or] at h1
  refine veil_of (fun e => ?_) ((World.cell?_of_block (w := W) (a := ⟨b, o, none⟩) (hf.block b hl h1.2)).trans h2)
  rcases List.mem_cons.1 e with e | e
  · exact h1.1 e
  · rcases kB_new hn b e with e | e
    · exact h1.2 e
    · omega
theorem StrN.mkr (h : StrN w B L g vc F M a c t a3 c3 I rs m vk W) (hM : MkM W' B L g vk' m' 0 0) (hf : Fr (kB L g vk) W W') (hn : NewAtN W vk vk') : StrN w B L g vc F M a c t a3 c3 I rs m' vk' W' := by
  have hk := veilI_keeps (I := I) hf hn
  have hlt := h.inn.lt
  exact ⟨hM, h.inn.fr hf h.iI, fun e => by rcases kB_new hn I e with e | e; exact h.iI e; omega, h.tr.keeps hk, h.ps.keeps hk, hk _ _ _ h.f, hk _ _ _ h.mc, frK_trans h.fr h.new hf, newAtN_trans h.new h.fr.size hn, h.hI⟩
theorem StrN.below (h : StrN w B L g vc F M a c t a3 c3 I rs m vk W) (hb : Below W.heap.size W W') : StrN w B L g vc F M a c t a3 c3 I rs m vk W' := h.mkr (h.mkm.below hb) (Fr.of hb) (.inl rfl)
theorem StrN.set (h : StrN w B L g vc F M a c t a3 c3 I rs m vk W) (k : Nat) (v : Int) : StrN w B L g vc F M a c t a3 c3 I (rs.set k v) m vk (W.setCell ⟨I, k, none⟩ (.int .i64 v)) := by
  have hf : Fr [I] W (W.setCell ⟨I, k, none⟩ (.int .i64 v)) := (Fr.refl _ _).set (by simp) _
  have hk : Keeps (veil (I :: kB L g vk) W) (veil (I :: kB L g vk) (W.setCell ⟨I, k, none⟩ (.int .i64 v))) := Fr.keeps (hf.sub (by simp))
  refine ⟨h.mkm.fr hf (fun b hb e => ?_), h.inn.set k v, h.iI, h.tr.keeps hk, h.ps.keeps hk, hk _ _ _ h.f, hk _ _ _ h.mc, ?_, h.new, h.hI⟩
  · simp at e; exact h.iI (e ▸ hb)
  · have h2 : Fr ([I] ++ kB L g vc) w (W.setCell ⟨I, k, none⟩ (.int .i64 v)) := (h.fr.sub fun k hk => List.mem_append_right _ hk).trans (hf.sub fun k hk => List.mem_append_left _ hk)
    exact h2.fresh fun k hk => by simp at hk; rw [hk]; exact h.hI
end
/-! ### what is plain of it -/
theorem innerS_cons (t : Tm) (ts : List Tm) (m : MkS) : innerS (t :: ts) m = if t.hd.k = 3 then ((innerS ts (structS t m).1).1, (structS t m).2 :: (innerS ts (structS t m).1).2) else ((innerS ts m).1, 0 :: (innerS ts m).2) := by
  conv => lhs; unfold innerS
theorem innerS_append (a b : List Tm) : ∀ m : MkS, innerS (a ++ b) m = ((innerS b (innerS a m).1).1, (innerS a m).2 ++ (innerS b (innerS a m).1).2) := by
  induction a with
  | nil => intro m; simp [innerS]
  | cons t a ih =>
    intro m
    rw [List.cons_append, innerS_cons t (a ++ b), innerS_cons t a]
    by_cases h3 : t.hd.k = 3
    · simp only [if_pos h3]; rw [ih]; simp
    · simp only [if_neg h3]; rw [ih]; simp
theorem innerS_next {ts : List Tm} {k : Nat} (hk : k < ts.length) (m : MkS) : innerS (ts.take (k + 1)) m = if ts[k].hd.k = 3 then ((structS ts[k] (innerS (ts.take k) m).1).1, (innerS (ts.take k) m).2 ++ [(structS ts[k] (innerS (ts.take k) m).1).2]) else ((innerS (ts.take k) m).1, (innerS (ts.take k) m).2 ++ [0]) := by
  rw [List.take_succ_eq_append_getElem hk, innerS_append, innerS_cons]
  split
  · simp [innerS]
  · simp [innerS]
theorem setsS_next {ts : List Tm} {rs : List Int} {k : Nat} (hk : k < ts.length) (hr : k < rs.length) (m : MkS) : setsS (ts.take (k + 1)) (rs.take (k + 1)) m = setS ts[k].hd rs[k] (setsS (ts.take k) (rs.take k) m) := by
  have key : ∀ (a : List Tm) (b : List Int) (t : Tm) (r : Int) (m : MkS), a.length = b.length → setsS (a ++ [t]) (b ++ [r]) m = setS t.hd r (setsS a b m) := by
    intro a
    induction a with
    | nil => intro b t r m h; cases b with
      | nil => simp [setsS]
      | cons _ _ => simp at h
    | cons x a ih => intro b t r m h; cases b with
      | nil => simp at h
      | cons y b => simp only [List.cons_append, setsS]; exact ih b t r _ (by simpa using h)
  rw [List.take_succ_eq_append_getElem hk, List.take_succ_eq_append_getElem hr]
  exact key _ _ _ _ _ (by rw [List.length_take, List.length_take]; omega)
theorem setS_short (c : Cel) (r : Int) (m : MkS) : (setS c r m).code.length ≤ m.code.length + 1 := by
  unfold setS
  split
  · rw [var_len]; omega
  · split
    · rw [lay_len]; omega
    · split
      · rw [lay_len]; omega
      · omega
theorem setsS_short : ∀ (ts : List Tm) (rs : List Int) (m : MkS), (setsS ts rs m).code.length ≤ m.code.length + ts.length
  | [], _, m => by simp [setsS]
  | t :: ts, [], m => by simp [setsS]
  | t :: ts, r :: rs, m => by
    unfold setsS
    have := setsS_short ts rs (setS t.hd r m)
    have := setS_short t.hd r m
    simp only [List.length_cons]
    omega
mutual
theorem structS_short : ∀ (t : Tm) (m : MkS), (structS t m).1.code.length ≤ m.code.length + 2 * t.flat.length
  | .mk c ts, m => by
    unfold structS
    have h1 := innerS_short ts m
    have h2 := setsS_short ts (innerS ts m).2 ((innerS ts m).1.fresh.lay ⟨8, 0, (innerS ts m).1.next, c.s, c.n, false⟩)
    rw [lay_len] at h2
    have e : (innerS ts m).1.fresh.code.length = (innerS ts m).1.code.length := rfl
    simp only [Tm.flat, List.length_cons]
    omega
theorem innerS_short : ∀ (ts : List Tm) (m : MkS), (innerS ts m).1.code.length + ts.length ≤ m.code.length + 2 * (flats ts).length
  | [], m => by simp [innerS]
  | t :: ts, m => by
    rw [innerS_cons]
    have hf := flat_pos t
    simp only [flats, List.length_append, List.length_cons]
    split
    · have h1 := structS_short' t m
      have h2 := innerS_short ts (structS t m).1
      simp only
      omega
    · have h2 := innerS_short ts m
      simp only
      omega
theorem structS_short' : ∀ (t : Tm) (m : MkS), (structS t m).1.code.length + 1 ≤ m.code.length + 2 * t.flat.length
  | .mk c ts, m => by
    unfold structS
    have h1 := innerS_short ts m
    have h2 := setsS_short ts (innerS ts m).2 ((innerS ts m).1.fresh.lay ⟨8, 0, (innerS ts m).1.next, c.s, c.n, false⟩)
    rw [lay_len] at h2
    have e : (innerS ts m).1.fresh.code.length = (innerS ts m).1.code.length := rfl
    simp only [Tm.flat, List.length_cons]
    omega
end
end Go.Proofs.Ytmmnfkggfnokjaa
set_option linter.unusedVariables false
namespace Go.Proofs.Ytmmnfkggfnokjaa
open Go.RowKit
theorem innerS_rng : ∀ (ts : List Tm) (m : MkS), KindsL ts → m.fit → ∀ r ∈ (innerS ts m).2, 0 ≤ r ∧ r ≤ (innerS ts m).1.next
  | [], m, _, _, r, hr => by simp [innerS] at hr
  | t :: ts, m, hk, hf, r, hr => by
    rw [innerS_cons] at hr ⊢
    by_cases h3 : t.hd.k = 3
    · rw [if_pos h3] at hr ⊢
      obtain ⟨⟨f1, n1, _⟩, s1, s2⟩ := structS_lays t m hk.1 hf
      obtain ⟨⟨f2, n2, _⟩, _⟩ := innerS_lays ts (structS t m).1 hk.2 f1
      rcases List.mem_cons.1 hr with rfl | hr
      · exact ⟨s1, by simp only; omega⟩
      · exact innerS_rng ts (structS t m).1 hk.2 f1 r hr
    · rw [if_neg h3] at hr ⊢
      rcases List.mem_cons.1 hr with rfl | hr
      · obtain ⟨⟨f2, n2, _⟩, _⟩ := innerS_lays ts m hk.2 hf
        have := hf.1
        exact ⟨Int.le_refl _, by simp only; omega⟩
      · exact innerS_rng ts m hk.2 hf r hr
theorem pad_set {l : List Int} {n k : Nat} (hl : l.length = k) (hk : k < n) (v : Int) : (l ++ List.replicate (n - k) 0).set k v = (l ++ [v]) ++ List.replicate (n - (k + 1)) 0 := by
  subst hl
  rw [List.set_append_right _ _ (Nat.le_refl _), Nat.sub_self, show n - l.length = (n - (l.length + 1)) + 1 by omega, List.replicate_succ]
  simp
theorem pad_zero {l : List Int} {n k : Nat} (hk : k < n) : l ++ List.replicate (n - k) 0 = (l ++ [0]) ++ List.replicate (n - (k + 1)) 0 := by
  rw [show n - k = (n - (k + 1)) + 1 by omega, List.replicate_succ]
  simp
theorem flats_take_le (ts : List Tm) (k : Nat) (hk : k < ts.length) : 2 * (flats (ts.take k)).length + 2 * ts[k].flat.length ≤ 2 * (flats ts).length := by
  have h3 := congrArg List.length (flats_append (ts.take (k + 1)) (ts.drop (k + 1)))
  rw [List.take_append_drop, List.length_append, List.take_succ_eq_append_getElem hk, flats_append, List.length_append] at h3
  have h4 : (flats [ts[k]]).length = ts[k].flat.length := by simp [flats]
  omega
set_option maxRecDepth 100000 in
set_option maxHeartbeats 12800000 in
theorem struct_any (B L g F M : Nat) : ∀ (n : Nat) (t : Tm) (w : World) (vc : Value) (m : MkS) (a : Option Addr) (c : Nat), t.flat.length ≤ n → t.ok → t.hd.k = 3 → t.flat.length ≤ 200 → MkM w B L g vc m 0 0 → Row (veil (kB L g vc) w) a c t.flat →
    (veil (kB L g vc) w).cell? ⟨F, 0, none⟩ = some (strF F M) → (veil (kB L g vc) w).cell? ⟨M, 0, none⟩ = some (.pointer (some ⟨L, 0, none⟩)) → m.code.length + 2 * t.flat.length ≤ 800000 →
    Calls Try.prog 147 #[.slice a t.flat.length c, .pointer (some ⟨F, 0, none⟩), .pointer (some ⟨M, 0, none⟩)] w (KPost w B L g vc (structS t m).1 0 0 (.int .i64 (structS t m).2)) := by
  intro n
  induction n with
  | zero => intro t w vc m a c h; have := flat_pos t; omega
  | succ n ih =>
    intro t w vc m a c hn hok h3 h200 hM hr hF hMc hl
    have HRI := mkHid (right_flat hok h200)
    have HPF := mkHid (parts_flat hok)
    have HRT := mkHid (hr.keeps (veil_keeps _ _))
    have hpl := hr.le
    have hpm := hr.max
    have HM := mkHid hM
    have HR := mkHid hr
    have HFF := mkHid hF
    have HMM := mkHid hMc
    have IH := mkHid ih
    have HFC := mkHid (flat_cons t)
    have HFL : Hid (t.flat.length = (flats t.args).length + 1) := by rw [Hid, flat_cons]; simp
    have hal : (t.args.map Tm.flat).length = t.args.length := List.length_map _
    have HAL := mkHid hal
    have ha6 : t.args.length ≤ 6 := by
      have h1 := ar_le _ ((ok_iff t).1 hok).1
      rw [((ok_iff t).1 hok).2.1]
      exact h1
    have HOKS := mkHid ((ok_iff t).1 hok).2.2
    have HKN := mkHid (ok_kinds t hok)
    have HST : Hid (structS t m = (setsS t.args (innerS t.args m).2 ((innerS t.args m).1.fresh.lay ⟨8, 0, (innerS t.args m).1.next, t.hd.s, t.hd.n, false⟩), (innerS t.args m).1.next)) := by
      cases t with
      | mk c0 us => rw [Hid]; conv => lhs; unfold structS
                    rfl
    have HSH : Hid (∀ u ∈ t.args, u.flat.length ≤ 200 ∧ u.flat.length ≤ n) := fun u hu => by have := mem_short hu; omega
    have HIS := mkHid (innerS_short t.args m)
    clear ih hM hr hF hMc hal
    go_enter Try.func147, Try.ntmps147
    go_wp2_with fail
    refine (parts_newN a c w t.flat HRT.out HRI.out).mono ?_
    rintro e w1 ⟨a3, c3, rfl, hnew, hb1⟩
    rw [HPF.out] at hnew ⊢
    have hle := hnew.row.le
    have hmx := hnew.row.max
    rw [HAL.out] at hle ⊢
    have hmk := run_intsN t.args.length (by omega) w1
    have HNW := mkHid hnew
    have HB1 := mkHid hb1
    clear hnew hb1
    go_wp2_with fail
    obtain ⟨W1, hW⟩ : ∃ V, w1.alloc (.cells (Array.replicate t.args.length (Value.int .i64 0)) 3) = V := ⟨_, rfl⟩
    have hbw : Below w1.heap.size w1 W1 := by rw [← hW]; exact (Below.refl _ _).new _
    have hru : RowU W1 w1.heap.size (List.replicate t.args.length (0 : Int)) := by rw [← hW]; exact RowU.madeN _ _
    rw [hW]
    clear hW hmk
    obtain ⟨I, hI⟩ : ∃ V, w1.heap.size = V := ⟨_, rfl⟩
    have hwI : w.heap.size ≤ I := by rw [← hI]; exact HB1.out.size
    rw [hI] at hru ⊢
    have HG0 : Hid (StrN w B L g vc F M a c t a3 c3 I ((innerS (t.args.take 0) m).2 ++ List.replicate (t.args.length - 0) 0) (innerS (t.args.take 0) m).1 vc W1) := by
      simp only [List.take_zero, innerS, Nat.sub_zero, List.nil_append]
      have hb2 : Below w.heap.size w W1 := HB1.out.then hbw
      have hnI : I ∉ kB L g vc := fun e => by have := (HM.out.allB I e).2; omega
      have hk : ∀ {b o : Nat} {x : Value}, (veil (kB L g vc) w).cell? ⟨b, o, none⟩ = some x → (veil (I :: kB L g vc) W1).cell? ⟨b, o, none⟩ = some x := fun {b o x} hx => by
        obtain ⟨h1, h2⟩ := veil_cell hx
        have hlt := cell_lt h2
        exact veil_of (fun e => by rcases List.mem_cons.1 e with e | e; omega; exact h1 e) (keep h2 hb2)
      refine ⟨HM.out.below hb2, hru, hnI, HR.out.keeps fun b o x hx => hk hx, ?_, hk HFF.out, hk HMM.out, Fr.of hb2, .inl rfl, hwI⟩
      refine Row.keeps HNW.out fun b o x hx => ?_
      obtain ⟨h1, h2⟩ := under_cell hx
      have hlt := cell_lt h2
      refine veil_of (fun e => ?_) (keep h2 hbw)
      rcases List.mem_cons.1 e with e | e
      · omega
      · have := (HM.out.allB b e).2
        omega
    have HIW := mkHid hI
    clear hru hbw hI HNW HB1
    generalize hts : t.args = ts at *
    have HTS := mkHid hts
    clear hts
    go_wp2_with fail
    go_loopw [7, 8, 19] (fun _ _ i wr => ∃ (k : Nat) (vk : Value), i = .int .i64 k ∧ k ≤ ts.length ∧ Hid (StrN w B L g vc F M a c t a3 c3 I ((innerS (ts.take k) m).2 ++ List.replicate (ts.length - k) 0) (innerS (ts.take k) m).1 vk wr)) (fun _ _ i wr => ts.length - (intOf i).toNat)
    case atStart => exact ⟨0, vc, rfl, Nat.zero_le _, HG0⟩
    case round =>
      clear HG0
      obtain ⟨k, vk, rfl, hk, HG⟩ := hrel
      by_cases hlt : k < ts.length
      · have hpsr := HG.out.ps
        rw [HTS.out] at hpsr
        obtain ⟨b4, off4, a5, c5, rfl, p0, hrp⟩ := row_partN hpsr (k := k) (by simpa using hlt)
        simp only [List.getElem_map] at p0 hrp
        obtain ⟨b6, off6, rfl, q0, q1, q2, hfp⟩ := row_hdN hrp
        have hpl5 := hrp.le
        have hpm5 := hrp.max
        have hpp := flat_pos ts[k]
        have p0' := (veil_cell p0).2
        have r0 := (veil_cell q0).2
        have HRP := mkHid hrp
        have HNX := mkHid (innerS_next hlt m)
        have hln := innerS_regs (ts.take k) m
        rw [List.length_take] at hln
        have hsh1 := innerS_short (ts.take k) m
        have hsh2 := flats_take_le ts k hlt
        obtain ⟨hu1, hu2⟩ := HSH.out _ (List.getElem_mem hlt)
        have HUO := mkHid (oks_mem HOKS.out _ (List.getElem_mem hlt))
        have f9 := (veil_cell HG.out.f).2
        unfold strF at f9
        clear p0 q0 q1 q2 hrp hfp hpsr
        have hlk : (innerS (ts.take k) m).2.length = k := by omega
        have HLK := mkHid hlk
        have hml : (innerS (ts.take k) m).1.code.length + 2 * ts[k].flat.length ≤ 800000 := by have := HFL.out; omega
        clear hsh1 hsh2 hln hlk
        generalize innerS (ts.take k) m = st at *
        obtain ⟨m1, l1⟩ := st
        dsimp only at HG HNX HLK hml ⊢
        generalize ts[k] = u at *
        by_cases h3 : u.hd.k = 3
        · rw [if_pos h3] at HNX
          have HU3 := mkHid h3
          rw [h3] at r0
          clear h3
          go_wp2_with fail
          refine (IH.out u wr vk m1 (some ⟨b6, off6, none⟩) c5 hu2 HUO.out HU3.out hu1 HG.out.mkm (HRP.out.keeps (veil_mono _ (fun x hx => List.mem_cons_of_mem _ hx))) (veil_mono _ (fun x hx => List.mem_cons_of_mem _ hx) _ _ _ HG.out.f) (veil_mono _ (fun x hx => List.mem_cons_of_mem _ hx) _ _ _ HG.out.mc) hml).mono ?_
          rintro e w5 ⟨rfl, vk5, hM5, hF5, hN5⟩
          have HG5 := mkHid (HG.out.mkr hM5 hF5 hN5)
          clear hM5 hF5 hN5 p0' r0 f9
          generalize structS u m1 = st5 at *
          obtain ⟨m5, r5⟩ := st5
          dsimp only at HNX HG5 ⊢
          have hil : (l1 ++ List.replicate (ts.length - k) 0).length = ts.length := by rw [List.length_append, List.length_replicate, HLK.out]; omega
          obtain ⟨y0, x0⟩ : ∃ y, w5.cell? ⟨I, k, none⟩ = some (.int .i64 y) := ⟨_, HG5.out.inn.read (k := k) (by omega)⟩
          have x1 := HG5.out.inn.free k
          have HG6 := mkHid (HG5.out.set k r5)
          clear hil
          go_wp2_with fail
          go_round
          case rel => exact ⟨k + 1, vk5, by go_num, by omega, by rw [HNX.out, ← pad_set HLK.out hlt r5]; exact HG6⟩
          case measure => simp [intOf]; omega
        · have t3 : (u.hd.k == 3) = false := by simp [h3]
          rw [if_neg h3] at HNX
          clear h3
          go_wp2_with fail
          go_round
          case rel => exact ⟨k + 1, vk, by go_num, by omega, by rw [HNX.out, ← pad_zero hlt]; exact HG⟩
          case measure => simp [intOf]; omega
      · obtain rfl : k = ts.length := by omega
        rw [List.take_length, Nat.sub_self, List.replicate_zero, List.append_nil] at HG
        have hKL : KindsL ts := by
          have h := HKN.out
          cases t with
          | mk c0 us => have e : us = ts := HTS.out; rw [← e]; exact h.2.2
        have HKL := mkHid hKL
        have HRG := mkHid (innerS_rng ts m hKL ⟨HM.out.next.1, HM.out.reg⟩)
        have HLN := mkHid (innerS_regs ts m)
        have c9 := (veil_cell HG.out.mc).2
        have hnx := HG.out.mkm.next
        clear hKL
        generalize innerS ts m = st at *
        obtain ⟨m2, rs⟩ := st
        dsimp only at HG HRG HLN hnx HST HIS ⊢
        have hcl : m2.code.length ≤ 799999 := by have := HIS.out; have := HFL.out; omega
        go_wp2_with fail
        refine (fresh_any _ B L g vk m2 0 0 HG.out.mkm (by omega)).mono ?_
        rintro e w6 ⟨rfl, vk6, hM6, hF6, hN6⟩
        have hk6 := veilI_keeps (I := I) hF6 hN6
        have hrt := HG.out.tr.keeps hk6
        obtain ⟨b, off, rfl, q0, q1, q2, hfp⟩ := row_hdN hrt
        have m6 := (veil_cell (hk6 _ _ _ HG.out.mc)).2
        have s6 := (veil_cell q1).2
        have n6 := (veil_cell q2).2
        have hn1 := hfp.n1
        have hn2 := hfp.n2
        have hns := hfp.s
        have hpos := flat_pos t
        have HM6 := mkHid hM6
        have HF6 := mkHid hF6
        have HN6 := mkHid hN6
        clear hM6 hF6 hN6 hk6 hrt q0 q1 q2 hfp c9
        go_wp2_with fail
        have hbd : Below w6.heap.size w6 w6.drew := (Below.refl _ _).drew
        refine wp_region_noPanic ?_
        refine wp_region_held_drew (S := fun X => X.cell? ⟨M, 0, none⟩ = some (.pointer (some ⟨L, 0, none⟩)) ∧ X.cell? ⟨b, off + 1, none⟩ = some (.string t.hd.s) ∧ X.cell? ⟨b, off + 2, none⟩ = some (.int .i64 t.hd.n)) (by kernel_rfl) ⟨m6, s6, n6⟩ (fun hSd => ?_)
        refine wpAnyH_take (i := 0) (oi := _) (v := ?_) rfl (by kernel_rfl) (by kernel_rfl) (by kernel_rfl) (fun _ _ _ h => h) (Or.inl ⟨by rfl, ?_⟩) (by assumption) ?_
        rotate_left
        · (intro w' hSw; obtain ⟨z0, z1, z2⟩ := hSw; go_simp; try with_reducible rfl)
        (try simp only [List.getElem_toArray, List.getElem_cons_succ, List.getElem_cons_zero, Act.put, List.setIfInBounds_toArray, List.set_cons_zero, List.set_cons_succ])
        refine wpAnyH_take (i := 1) (oi := _) (v := ?_) rfl (by kernel_rfl) (by kernel_rfl) (by kernel_rfl) (fun _ _ _ h => h) (Or.inl ⟨by rfl, ?_⟩) (by assumption) ?_
        rotate_left
        · (intro w' hSw; obtain ⟨z0, z1, z2⟩ := hSw; go_simp; try with_reducible rfl)
        (try simp only [List.getElem_toArray, List.getElem_cons_succ, List.getElem_cons_zero, Act.put, List.setIfInBounds_toArray, List.set_cons_zero, List.set_cons_succ])
        refine wpAnyH_take (i := 2) (oi := _) (v := ?_) rfl (by kernel_rfl) (by kernel_rfl) (by kernel_rfl) (fun _ _ _ h => h) (Or.inl ⟨by rfl, ?_⟩) (by assumption) ?_
        rotate_left
        · (intro w' hSw; obtain ⟨z0, z1, z2⟩ := hSw; go_simp; try with_reducible rfl)
        (try simp only [List.getElem_toArray, List.getElem_cons_succ, List.getElem_cons_zero, Act.put, List.setIfInBounds_toArray, List.set_cons_zero, List.set_cons_succ])
        refine wpAnyH_take (i := 3) (oi := _) (v := ?_) rfl (by kernel_rfl) (by kernel_rfl) (by kernel_rfl) (fun _ _ _ h => h) (Or.inl ⟨by rfl, ?_⟩) (by assumption) ?_
        rotate_left
        · (intro w' hSw; obtain ⟨z0, z1, z2⟩ := hSw; go_simp; try with_reducible rfl)
        (try simp only [List.getElem_toArray, List.getElem_cons_succ, List.getElem_cons_zero, Act.put, List.setIfInBounds_toArray, List.set_cons_zero, List.set_cons_succ])
        refine wpAnyH_take (i := 4) (oi := _) (v := ?_) rfl (by kernel_rfl) (by kernel_rfl) (by kernel_rfl) (fun _ _ _ h => h) (Or.inl ⟨by rfl, ?_⟩) (by assumption) ?_
        rotate_left
        · (intro w' hSw; obtain ⟨z0, z1, z2⟩ := hSw; go_simp; try with_reducible rfl)
        (try simp only [List.getElem_toArray, List.getElem_cons_succ, List.getElem_cons_zero, Act.put, List.setIfInBounds_toArray, List.set_cons_zero, List.set_cons_succ])
        refine wpAnyH_take (i := 5) (oi := _) (v := ?_) rfl (by kernel_rfl) (by kernel_rfl) (by kernel_rfl) (fun _ _ _ h => h) (Or.inl ⟨by rfl, ?_⟩) (by assumption) ?_
        rotate_left
        · (intro w' hSw; obtain ⟨z0, z1, z2⟩ := hSw; go_simp; try with_reducible rfl)
        (try simp only [List.getElem_toArray, List.getElem_cons_succ, List.getElem_cons_zero, Act.put, List.setIfInBounds_toArray, List.set_cons_zero, List.set_cons_succ])
        refine wpAnyH_take (i := 6) (oi := _) (v := ?_) rfl (by kernel_rfl) (by kernel_rfl) (by kernel_rfl) (fun _ _ _ h => h) (Or.inl ⟨by rfl, ?_⟩) (by assumption) ?_
        rotate_left
        · (intro w' hSw; obtain ⟨z0, z1, z2⟩ := hSw; go_simp; try with_reducible rfl)
        (try simp only [List.getElem_toArray, List.getElem_cons_succ, List.getElem_cons_zero, Act.put, List.setIfInBounds_toArray, List.set_cons_zero, List.set_cons_succ])
        refine wpAnyH_take (i := 7) (oi := _) (v := ?_) rfl (by kernel_rfl) (by kernel_rfl) (by kernel_rfl) (fun _ _ _ h => h) (Or.inl ⟨by rfl, ?_⟩) (by assumption) ?_
        rotate_left
        · (intro w' hSw; obtain ⟨z0, z1, z2⟩ := hSw; go_simp; try with_reducible rfl)
        (try simp only [List.getElem_toArray, List.getElem_cons_succ, List.getElem_cons_zero, Act.put, List.setIfInBounds_toArray, List.set_cons_zero, List.set_cons_succ])
        refine wpAnyH_take (i := 8) (oi := _) (v := ?_) rfl (by kernel_rfl) (by kernel_rfl) (by kernel_rfl) (fun _ _ _ h => h) (Or.inl ⟨by rfl, ?_⟩) (by assumption) ?_
        rotate_left
        · (intro w' hSw; obtain ⟨z0, z1, z2⟩ := hSw; go_simp; try with_reducible rfl)
        (try simp only [List.getElem_toArray, List.getElem_cons_succ, List.getElem_cons_zero, Act.put, List.setIfInBounds_toArray, List.set_cons_zero, List.set_cons_succ])
        refine wpAnyH_take (i := 9) (oi := _) (v := ?_) rfl (by kernel_rfl) (by kernel_rfl) (by kernel_rfl) (fun _ _ _ h => h) (Or.inl ⟨by rfl, ?_⟩) (by assumption) ?_
        rotate_left
        · (intro w' hSw; obtain ⟨z0, z1, z2⟩ := hSw; go_simp; try with_reducible rfl)
        (try simp only [List.getElem_toArray, List.getElem_cons_succ, List.getElem_cons_zero, Act.put, List.setIfInBounds_toArray, List.set_cons_zero, List.set_cons_succ])
        refine wpAnyH_take (i := 10) (oi := _) (v := ?_) rfl (by kernel_rfl) (by kernel_rfl) (by kernel_rfl) (fun _ _ _ h => h) (Or.inl ⟨by rfl, ?_⟩) (by assumption) ?_
        rotate_left
        · (intro w' hSw; obtain ⟨z0, z1, z2⟩ := hSw; go_simp; try with_reducible rfl)
        (try simp only [List.getElem_toArray, List.getElem_cons_succ, List.getElem_cons_zero, Act.put, List.setIfInBounds_toArray, List.set_cons_zero, List.set_cons_succ])
        refine wpAnyH_ready (rs := [11]) (by kernel_rfl) (by simp) ?_
        refine AllReadyH.cons (o := _) rfl (fun K hK => ?_) AllReadyH.nil
        go_simp
        refine (lay_any w6.drew B L g vk6 m2.fresh 0 1 ⟨8, 0, m2.next, t.hd.s, t.hd.n, false⟩ (HM6.out.below hbd) (Ins.fit_of (by omega) (by omega) (by omega) ⟨hn1, hn2⟩ hns) (by show m2.code.length ≤ _; omega)).mono ?_
        rintro e w7 ⟨rfl, vk7, hM7, hF7, hN7⟩
        have hF := frK_trans HF6.out HN6.out ((Fr.of hbd).trans hF7)
        have hN := newAtN_trans HN6.out HF6.out.size (newAtN_trans (v1 := vk6) (.inl rfl) hbd.size hN7)
        have HG7 := mkHid (HG.out.mkr (hM7.slack (Nat.le_refl _) (by omega)) hF hN)
        have hq := row_hdN HG7.out.tr
        obtain ⟨b9, off9, e9, _, q1, q2, _⟩ := hq
        cases e9
        have m7 := (veil_cell HG7.out.mc).2
        have s7 := (veil_cell q1).2
        have n7 := (veil_cell q2).2
        clear hM7 hF7 hN7 hF hN q1 q2
        try dsimp only
        refine hK.out _ _ ⟨m7, s7, n7⟩ (fun _ => ?_)
        clear hK K
        (try simp only [List.getElem_toArray, List.getElem_cons_succ, List.getElem_cons_zero, Act.put, List.setIfInBounds_toArray, List.set_cons_zero, List.set_cons_succ])
        refine wpAnyH_done (by kernel_rfl) (NoPanic.normal ?_) _
        clear HM6 HF6 HN6 m6 s6 n6 m7 s7 n7 HG
        have HG8 : Hid (StrN w B L g vc F M (some ⟨b, off, none⟩) c t a3 c3 I rs (setsS (ts.take 0) (rs.take 0) (m2.fresh.lay ⟨8, 0, m2.next, t.hd.s, t.hd.n, false⟩)) vk7 w7) := by
          simp only [List.take_zero, setsS]
          exact HG7.out
        have HCL : Hid ((m2.fresh.lay ⟨8, 0, m2.next, t.hd.s, t.hd.n, false⟩).code.length ≤ 800000) := by rw [Hid, lay_len]; show m2.code.length + 1 ≤ _; omega
        clear HG7
        generalize hm3 : m2.fresh.lay ⟨8, 0, m2.next, t.hd.s, t.hd.n, false⟩ = m3 at *
        generalize hrn : m2.next = rn at *
        go_wp2_with fail
        go_loopw [10, 11, 52] (fun _ _ i wr => ∃ (k : Nat) (vk : Value), i = .int .i64 k ∧ k ≤ ts.length ∧ Hid (StrN w B L g vc F M (some ⟨b, off, none⟩) c t a3 c3 I rs (setsS (ts.take k) (rs.take k) m3) vk wr)) (fun _ _ i wr => ts.length - (intOf i).toNat)
        case atStart => exact ⟨0, vk7, rfl, Nat.zero_le _, HG8⟩
        case round =>
          clear HG8
          obtain ⟨k, vk, rfl, hk, HG⟩ := hrel
          by_cases hlt : k < ts.length
          · have hpsr := HG.out.ps
            rw [HTS.out] at hpsr
            obtain ⟨b4, off4, a5, c5, rfl, p0, hrp⟩ := row_partN hpsr (k := k) (by simpa using hlt)
            simp only [List.getElem_map] at p0 hrp
            obtain ⟨b6, off6, rfl, q0, q1, q2, hfp⟩ := row_hdN hrp
            have hpl5 := hrp.le
            have hpm5 := hrp.max
            have hpp := flat_pos ts[k]
            have p0' := (veil_cell p0).2
            have r0 := (veil_cell q0).2
            have r1 := (veil_cell q1).2
            have r2 := (veil_cell q2).2
            have HFP := mkHid hfp
            have HRP := mkHid hrp
            have hkr : k < rs.length := by have := HLN.out; omega
            have HNX := mkHid (setsS_next hlt hkr m3)
            have hsh := setsS_short (ts.take k) (rs.take k) m3
            rw [List.length_take] at hsh
            have hml : (setsS (ts.take k) (rs.take k) m3).code.length ≤ 800010 := by have := HCL.out; omega
            have hrr := HRG.out _ (List.getElem_mem hkr)
            have i0 := HG.out.inn.read hkr
            have c9 := (veil_cell HG.out.mc).2
            clear p0 q0 q1 q2 hrp hfp hpsr hsh
            generalize setsS (ts.take k) (rs.take k) m3 = m4 at *
            generalize hrk : rs[k] = rk at *
            have HRK := mkHid hrk
            clear hrk
            generalize ts[k] = u at *
            go_wp2_with fail
            have hbd : Below wr.heap.size wr wr.drew := (Below.refl _ _).drew
            refine wp_region_noPanic ?_
            refine wp_region_held_drew (S := fun X => X.cell? ⟨M, 0, none⟩ = some (.pointer (some ⟨L, 0, none⟩)) ∧ X.cell? ⟨b6, off6, none⟩ = some (.int .i64 u.hd.k) ∧ X.cell? ⟨b6, off6 + 1, none⟩ = some (.string u.hd.s) ∧ X.cell? ⟨b6, off6 + 2, none⟩ = some (.int .i64 u.hd.n) ∧ X.cell? ⟨I, k, none⟩ = some (.int .i64 rk)) (by kernel_rfl) ⟨c9, r0, r1, r2, i0⟩ (fun hSd => ?_)
            refine wpAnyH_take (i := 0) (oi := _) (v := ?_) rfl (by kernel_rfl) (by kernel_rfl) (by kernel_rfl) (fun _ _ _ h => h) (Or.inl ⟨by rfl, ?_⟩) (by assumption) ?_
            rotate_left
            · (intro w' hSw; obtain ⟨z0, z1, z2, z3, z4⟩ := hSw; go_simp; try with_reducible rfl)
            (try simp only [List.getElem_toArray, List.getElem_cons_succ, List.getElem_cons_zero, Act.put, List.setIfInBounds_toArray, List.set_cons_zero, List.set_cons_succ])
            refine wpAnyH_take (i := 1) (oi := _) (v := ?_) rfl (by kernel_rfl) (by kernel_rfl) (by kernel_rfl) (fun _ _ _ h => h) (Or.inl ⟨by rfl, ?_⟩) (by assumption) ?_
            rotate_left
            · (intro w' hSw; obtain ⟨z0, z1, z2, z3, z4⟩ := hSw; go_simp; try with_reducible rfl)
            (try simp only [List.getElem_toArray, List.getElem_cons_succ, List.getElem_cons_zero, Act.put, List.setIfInBounds_toArray, List.set_cons_zero, List.set_cons_succ])
            refine wpAnyH_take (i := 2) (oi := _) (v := ?_) rfl (by kernel_rfl) (by kernel_rfl) (by kernel_rfl) (fun _ _ _ h => h) (Or.inl ⟨by rfl, ?_⟩) (by assumption) ?_
            rotate_left
            · (intro w' hSw; obtain ⟨z0, z1, z2, z3, z4⟩ := hSw; go_simp; try with_reducible rfl)
            (try simp only [List.getElem_toArray, List.getElem_cons_succ, List.getElem_cons_zero, Act.put, List.setIfInBounds_toArray, List.set_cons_zero, List.set_cons_succ])
            refine wpAnyH_take (i := 3) (oi := _) (v := ?_) rfl (by kernel_rfl) (by kernel_rfl) (by kernel_rfl) (fun _ _ _ h => h) (Or.inl ⟨by rfl, ?_⟩) (by assumption) ?_
            rotate_left
            · (intro w' hSw; obtain ⟨z0, z1, z2, z3, z4⟩ := hSw; go_simp; try with_reducible rfl)
            (try simp only [List.getElem_toArray, List.getElem_cons_succ, List.getElem_cons_zero, Act.put, List.setIfInBounds_toArray, List.set_cons_zero, List.set_cons_succ])
            refine wpAnyH_take (i := 4) (oi := _) (v := ?_) rfl (by kernel_rfl) (by kernel_rfl) (by kernel_rfl) (fun _ _ _ h => h) (Or.inl ⟨by rfl, ?_⟩) (by assumption) ?_
            rotate_left
            · (intro w' hSw; obtain ⟨z0, z1, z2, z3, z4⟩ := hSw; go_simp; try with_reducible rfl)
            (try simp only [List.getElem_toArray, List.getElem_cons_succ, List.getElem_cons_zero, Act.put, List.setIfInBounds_toArray, List.set_cons_zero, List.set_cons_succ])
            refine wpAnyH_take (i := 5) (oi := _) (v := ?_) rfl (by kernel_rfl) (by kernel_rfl) (by kernel_rfl) (fun _ _ _ h => h) (Or.inl ⟨by rfl, ?_⟩) (by assumption) ?_
            rotate_left
            · (intro w' hSw; obtain ⟨z0, z1, z2, z3, z4⟩ := hSw; go_simp; try with_reducible rfl)
            (try simp only [List.getElem_toArray, List.getElem_cons_succ, List.getElem_cons_zero, Act.put, List.setIfInBounds_toArray, List.set_cons_zero, List.set_cons_succ])
            refine wpAnyH_take (i := 6) (oi := _) (v := ?_) rfl (by kernel_rfl) (by kernel_rfl) (by kernel_rfl) (fun _ _ _ h => h) (Or.inl ⟨by rfl, ?_⟩) (by assumption) ?_
            rotate_left
            · (intro w' hSw; obtain ⟨z0, z1, z2, z3, z4⟩ := hSw; go_simp; try with_reducible rfl)
            (try simp only [List.getElem_toArray, List.getElem_cons_succ, List.getElem_cons_zero, Act.put, List.setIfInBounds_toArray, List.set_cons_zero, List.set_cons_succ])
            refine wpAnyH_take (i := 7) (oi := _) (v := ?_) rfl (by kernel_rfl) (by kernel_rfl) (by kernel_rfl) (fun _ _ _ h => h) (Or.inl ⟨by rfl, ?_⟩) (by assumption) ?_
            rotate_left
            · (intro w' hSw; obtain ⟨z0, z1, z2, z3, z4⟩ := hSw; go_simp; try with_reducible rfl)
            (try simp only [List.getElem_toArray, List.getElem_cons_succ, List.getElem_cons_zero, Act.put, List.setIfInBounds_toArray, List.set_cons_zero, List.set_cons_succ])
            refine wpAnyH_ready (rs := [8]) (by kernel_rfl) (by simp) ?_
            refine AllReadyH.cons (o := _) rfl (fun K hK => ?_) AllReadyH.nil
            go_simp
            refine (set_any wr.drew B L g vk m4 u.hd rk (HG.out.mkm.below hbd) (by omega) HFP.out (by omega)).mono ?_
            rintro e w9 ⟨rfl, vk9, hM9, hF9, hN9⟩
            have hF := (Fr.of (us := kB L g vk) hbd).trans hF9
            have hN : NewAtN wr vk vk9 := newAtN_trans (v1 := vk) (.inl rfl) hbd.size hN9
            have HG9 := mkHid (HG.out.mkr hM9 hF hN)
            have hS9 : (fun X => X.cell? ⟨M, 0, none⟩ = some (.pointer (some ⟨L, 0, none⟩)) ∧ X.cell? ⟨b6, off6, none⟩ = some (.int .i64 u.hd.k) ∧ X.cell? ⟨b6, off6 + 1, none⟩ = some (.string u.hd.s) ∧ X.cell? ⟨b6, off6 + 2, none⟩ = some (.int .i64 u.hd.n) ∧ X.cell? ⟨I, k, none⟩ = some (.int .i64 rk)) w9 := by
              obtain ⟨b9, off9, e9, q0, q1, q2, _⟩ := row_hdN (HRP.out.keeps (veilI_keeps hF hN))
              cases e9
              have i9 := HG9.out.inn.read hkr
              rw [HRK.out] at i9
              exact ⟨(veil_cell HG9.out.mc).2, (veil_cell q0).2, (veil_cell q1).2, (veil_cell q2).2, i9⟩
            clear hM9 hF9 hN9 hF hN p0' r0 r1 r2 i0 c9
            try dsimp only
            refine hK.out _ _ hS9 (fun _ => ?_)
            clear hK K hS9
            (try simp only [List.getElem_toArray, List.getElem_cons_succ, List.getElem_cons_zero, Act.put, List.setIfInBounds_toArray, List.set_cons_zero, List.set_cons_succ])
            refine wpAnyH_done (by kernel_rfl) (NoPanic.normal ?_) _
            go_wp2_with fail
            go_round
            case rel => exact ⟨k + 1, vk9, by go_num, by omega, by rw [HNX.out]; exact HG9⟩
            case measure => simp [intOf]; omega
          · obtain rfl : k = ts.length := by omega
            go_wp2_with fail
            go_ret
            refine ⟨by first | (rw [HST.out]; done) | (rw [HST.out]; rfl), vk, ?_, HG.out.fr, HG.out.new⟩
            rw [HST.out]
            have h := HG.out.mkm
            rw [List.take_length, ← HLN.out, List.take_length] at h
            exact h
end Go.Proofs.Ytmmnfkggfnokjaa
namespace Go.Proofs.Ytmmnfkggfnokjaa
open Go.RowKit
theorem right_ne {xs : List Cel} (h : rightB xs = true) : 0 < xs.length := by
  rcases Nat.lt_or_ge 0 xs.length with h0 | h0
  · exact h0
  · rw [rightB_pos (by omega)] at h; cases h
theorem isFun_at {xs : List Cel} (h : 0 < xs.length) : isFun xs = decide (xs[0].k = 3) := by
  cases xs with
  | nil => simp at h
  | cons c l => rfl
theorem cel_zero {w wr : World} {a : Option Addr} {cap : Nat} {xs : List Cel} (hr : Row w a cap xs) (hb : Below w.heap.size w wr) (h0 : 0 < xs.length) :
    ∃ b off, a = some ⟨b, off, none⟩ ∧ wr.cell? ⟨b, off, none⟩ = some (.int .i64 xs[0].k) ∧ wr.cell? ⟨b, off + 1, none⟩ = some (.string xs[0].s) ∧ wr.cell? ⟨b, off + 2, none⟩ = some (.int .i64 xs[0].n) ∧ xs[0].fit := by
  obtain ⟨b, off, rfl, hlt, hat⟩ := hr.cases.resolve_left (fun e => by simp [e] at h0)
  obtain ⟨c0, c1, c2, hf⟩ := cel_at hat hb h0
  rw [Nat.zero_mul, Nat.add_zero] at c0 c1 c2
  exact ⟨b, off, rfl, c0, c1, c2, hf⟩
set_option maxHeartbeats 400000 in
theorem refatom_any (a : Option Addr) (cap : Nat) (w : World) (xs : List Cel) (hr : Row w a cap xs) :
    Calls Try.prog 150 #[.slice a xs.length cap] w fun e w' => e = .returned (.bool (atomB xs)) ∧ Below w.heap.size w w' := by
  cases hR : rightB xs with
  | false =>
    have HR := mkHid hR
    have HF : Hid (atomB xs = false) := by simp [Hid, atomB, hR]
    clear hR
    go_enter Try.func150, Try.ntmps150
    go_wp2_with (go_at_call 30; refine (refright_any _ _ _ _ hr).mono ?_; rintro e w' ⟨rfl, hb1⟩; rw [HR.out])
    go_ret
    exact ⟨ret_bool HF.out.symm, hb1⟩
  | true =>
    have h0 := right_ne hR
    have HR := mkHid hR
    have HF : Hid (atomB xs = decide (xs[0].k = 3)) := by simp [Hid, atomB, hR, isFun_at h0]
    have hm := hr.le
    obtain ⟨b, off, rfl, c0, c1, c2, hf⟩ := cel_zero hr (Below.refl _ _) h0
    clear hR
    go_enter Try.func150, Try.ntmps150
    go_wp2_with (go_at_call 30; refine (refright_any _ _ _ _ hr).mono ?_; rintro e w' ⟨rfl, hb1⟩; rw [HR.out]; have d0 := keep c0 hb1)
    go_ret
    exact ⟨ret_bool (by rw [HF.out]; rfl), hb1⟩
theorem scan_next {α : Type} {xs : List α} {p : α → Bool} {k : Nat} (h : (xs.take k).all p = true) (hk : k < xs.length) (hp : p xs[k] = true) : (xs.take (k + 1)).all p = true := by
  rw [List.take_succ_eq_append_getElem hk, List.all_append, h]; simp [hp]
theorem scan_bad {α : Type} {xs : List α} {p : α → Bool} {k : Nat} (hk : k < xs.length) (hp : p xs[k] = false) : xs.all p = false := by
  rw [List.all_eq_false]; exact ⟨xs[k], List.getElem_mem hk, by simp [hp]⟩
theorem scan_end {α : Type} {xs : List α} {p : α → Bool} {k : Nat} (h : (xs.take k).all p = true) (hk : xs.length ≤ k) : xs.all p = true := by
  rwa [List.take_of_length_le hk] at h
set_option maxHeartbeats 800000 in
theorem refmay_any (a : Option Addr) (cap : Nat) (a' : Option Addr) (cap' : Nat) (w : World) (hs : List Cel) (bs : List Lt) (hr : Row w a cap hs) (hr' : Row w a' cap' bs) :
    Calls Try.prog 66 #[.agg #[.slice a hs.length cap, .slice a' bs.length cap']] w fun e w' => e = .returned (.bool (mayB ⟨hs, bs⟩)) ∧ Below w.heap.size w w' := by
  have hm := hr'.max
  have hm2 := hr'.le
  have hb0 := (Below.refl w.heap.size w).new (.cells #[.slice a hs.length cap, .slice a' bs.length cap'] 25)
  go_enter Try.func66, Try.ntmps66
  go_wp2
  go_loopw [3] (fun i wr => ∃ k : Nat, k ≤ bs.length ∧ i = .int .i64 k ∧ Below w.heap.size w wr ∧ w.heap.size < wr.heap.size ∧ wr.cell? ⟨w.heap.size, 0, none⟩ = some (.slice a hs.length cap) ∧ wr.cell? ⟨w.heap.size, 1, none⟩ = some (.slice a' bs.length cap') ∧ Hid ((bs.take k).all (fun x => atomB x.t) = true)) (fun i wr => bs.length - (intOf i).toNat)
  case atStart => exact ⟨0, Nat.zero_le _, rfl, hb0, by simp, by go_simp, by go_simp, rfl⟩
  case round =>
    obtain ⟨k, hk, rfl, hbl, hsz, q0, q1, HS⟩ := hrel
    by_cases hlt : k < bs.length
    · obtain ⟨b, off, rfl, hb, hat⟩ := hr'.cases.resolve_left (fun e => by simp [e] at hlt)
      obtain ⟨a1, cap1, c0, c1, hr1⟩ := lt_at hat hbl hlt
      cases hA : atomB bs[k].t with
      | true =>
        have HA := mkHid hA
        have HT := mkHid (scan_next (p := fun x => atomB x.t) HS.out hlt hA)
        clear hA HS
        go_wp2_with (go_at_call 150; refine (refatom_any _ _ _ _ hr1).mono ?_; rintro e w' ⟨rfl, hb1⟩; rw [HA.out])
        go_round
        case rel => exact ⟨k + 1, by omega, by go_num, hbl.then hb1, Nat.lt_of_lt_of_le hsz hb1.size, keep q0 hb1, keep q1 hb1, HT⟩
        case measure => simp [intOf]; omega
      | false =>
        have HA := mkHid hA
        have HF : Hid (mayB ⟨hs, bs⟩ = false) := by simp only [Hid, mayB]; rw [scan_bad (p := fun x => atomB x.t) hlt hA]; simp
        clear hA HS
        go_wp2_with (go_at_call 150; refine (refatom_any _ _ _ _ hr1).mono ?_; rintro e w' ⟨rfl, hb1⟩; rw [HA.out])
        go_ret
        exact ⟨ret_bool HF.out.symm, hbl.then hb1⟩
    · have HT := mkHid (scan_end HS.out (by omega))
      have hrh := hr.below hbl
      clear HS
      cases hA : atomB hs with
      | true =>
        have HA := mkHid hA
        have HF : Hid (mayB ⟨hs, bs⟩ = decide ((bs.length : Int) ≤ 8)) := by simp only [Hid, mayB]; rw [HT.out, hA]; simp; omega
        clear hA
        go_wp2_with (go_at_call 150; refine (refatom_any _ _ _ _ hrh).mono ?_; rintro e w' ⟨rfl, hb1⟩; rw [HA.out]; have d1 := keep q1 hb1)
        go_ret
        exact ⟨ret_bool HF.out.symm, hbl.then hb1⟩
      | false =>
        have HA := mkHid hA
        have HF : Hid (mayB ⟨hs, bs⟩ = false) := by simp only [Hid, mayB]; rw [hA]; simp
        clear hA
        go_wp2_with (go_at_call 150; refine (refatom_any _ _ _ _ hrh).mono ?_; rintro e w' ⟨rfl, hb1⟩; rw [HA.out]; have d1 := keep q1 hb1)
        go_ret
        exact ⟨ret_bool HF.out.symm, hbl.then hb1⟩
end Go.Proofs.Ytmmnfkggfnokjaa
set_option linter.unusedVariables false
namespace Go.Proofs.Ytmmnfkggfnokjaa
open Go.RowKit
set_option maxHeartbeats 400000 in
theorem atomc_any (a : Option Addr) (cap : Nat) (w : World) (xs : List Cel) (hr : Row w a cap xs) :
    Calls Try.prog 144 #[.slice a xs.length cap] w fun e w' => e = .returned (.bool (atomB xs)) ∧ Below w.heap.size w w' := by
  cases hR : rightB xs with
  | false =>
    have HR := mkHid hR
    have HF : Hid (atomB xs = false) := by simp [Hid, atomB, hR]
    clear hR
    go_enter Try.func144, Try.ntmps144
    go_wp2_with (go_at_call 92; refine (right_any _ _ _ _ hr).mono ?_; rintro e w' ⟨rfl, hb1⟩; rw [HR.out])
    go_ret
    exact ⟨ret_bool HF.out.symm, hb1⟩
  | true =>
    have h0 := right_ne hR
    have HR := mkHid hR
    have HF : Hid (atomB xs = decide (xs[0].k = 3)) := by simp [Hid, atomB, hR, isFun_at h0]
    have hm := hr.le
    obtain ⟨b, off, rfl, c0, c1, c2, hf⟩ := cel_zero hr (Below.refl _ _) h0
    clear hR
    go_enter Try.func144, Try.ntmps144
    go_wp2_with (go_at_call 92; refine (right_any _ _ _ _ hr).mono ?_; rintro e w' ⟨rfl, hb1⟩; rw [HR.out]; have d0 := keep c0 hb1)
    go_ret
    exact ⟨ret_bool (by rw [HF.out]; rfl), hb1⟩

set_option maxHeartbeats 800000 in
theorem mayc_any (a : Option Addr) (cap : Nat) (a' : Option Addr) (cap' : Nat) (w : World) (hs : List Cel) (bs : List Lt) (hr : Row w a cap hs) (hr' : Row w a' cap' bs) :
    Calls Try.prog 62 #[.agg #[.slice a hs.length cap, .slice a' bs.length cap']] w fun e w' => e = .returned (.bool (mayB ⟨hs, bs⟩)) ∧ Below w.heap.size w w' := by
  have hm := hr'.max
  have hm2 := hr'.le
  have hb0 := (Below.refl w.heap.size w).new (.cells #[.slice a hs.length cap, .slice a' bs.length cap'] 25)
  have hrh := hr.below hb0
  cases hA : atomB hs with
  | false =>
    have HA := mkHid hA
    have HF : Hid (mayB ⟨hs, bs⟩ = false) := by simp only [Hid, mayB]; rw [hA]; simp
    clear hA
    go_enter Try.func62, Try.ntmps62
    go_wp2_with (go_at_call 144; refine (atomc_any _ _ _ _ hrh).mono ?_; rintro e w' ⟨rfl, hb1⟩; rw [HA.out])
    go_ret
    exact ⟨ret_bool HF.out.symm, hb0.then hb1⟩
  | true =>
    have HA := mkHid hA
    clear hA
    by_cases h8 : bs.length ≤ 8
    · go_enter Try.func62, Try.ntmps62
      go_wp2_with (go_at_call 144; refine (atomc_any _ _ _ _ hrh).mono ?_; rintro e w1 ⟨rfl, hb1⟩; rw [HA.out]; have q1 : w1.cell? ⟨w.heap.size, 1, none⟩ = some (.slice a' bs.length cap') := keep (World.cell?_alloc_at _ _ w.heap.size 1 rfl) hb1)
      go_loopw [4, 18] (fun _ i wr => ∃ k : Nat, k ≤ bs.length ∧ i = .int .i64 k ∧ Below w.heap.size w wr ∧ Hid ((bs.take k).all (fun x => atomB x.t) = true)) (fun _ i wr => bs.length - (intOf i).toNat)
      case atStart => exact ⟨0, Nat.zero_le _, rfl, hb0.then hb1, rfl⟩
      case round =>
        obtain ⟨k, hk, rfl, hbl, HS⟩ := hrel
        by_cases hlt : k < bs.length
        · obtain ⟨b, off, rfl, hb, hat⟩ := hr'.cases.resolve_left (fun e => by simp [e] at hlt)
          obtain ⟨a1, cap1, c0, c1, hr1⟩ := lt_at hat hbl hlt
          have hbx : Below wr.heap.size wr (wr.alloc (.cells #[.bool bs[k].neg, .slice a1 bs[k].t.length cap1] 88)) := (Below.refl _ _).new _
          cases hA : atomB bs[k].t with
          | true =>
            have HA := mkHid hA
            have HT := mkHid (scan_next (p := fun x => atomB x.t) HS.out hlt hA)
            clear hA HS
            go_wp2_with (go_at_call 144; refine (atomc_any _ _ _ _ (hr1.below hbx)).mono ?_; rintro e w2 ⟨rfl, hb2⟩; rw [HA.out])
            go_round
            case rel => exact ⟨k + 1, by omega, by go_num, (hbl.then hbx).then hb2, HT⟩
            case measure => simp [intOf]; omega
          | false =>
            have HA := mkHid hA
            have HF : Hid (mayB ⟨hs, bs⟩ = false) := by simp only [Hid, mayB]; rw [scan_bad (p := fun x => atomB x.t) hlt hA]; simp
            clear hA HS
            go_wp2_with (go_at_call 144; refine (atomc_any _ _ _ _ (hr1.below hbx)).mono ?_; rintro e w2 ⟨rfl, hb2⟩; rw [HA.out])
            go_ret
            exact ⟨ret_bool HF.out.symm, (hbl.then hbx).then hb2⟩
        · have HT := mkHid (scan_end HS.out (by omega))
          have HF : Hid (mayB ⟨hs, bs⟩ = true) := by simp only [Hid, mayB]; rw [HT.out, decide_eq_true h8, HA.out]; rfl
          clear HS
          go_wp2
          go_ret
          exact ⟨ret_bool HF.out.symm, hbl⟩
    · have HF : Hid (mayB ⟨hs, bs⟩ = false) := by simp only [Hid, mayB]; rw [decide_eq_false h8]; simp
      go_enter Try.func62, Try.ntmps62
      go_wp2_with (go_at_call 144; refine (atomc_any _ _ _ _ hrh).mono ?_; rintro e w1 ⟨rfl, hb1⟩; rw [HA.out]; have q1 : w1.cell? ⟨w.heap.size, 1, none⟩ = some (.slice a' bs.length cap') := keep (World.cell?_alloc_at _ _ w.heap.size 1 rfl) hb1)
      go_ret
      exact ⟨ret_bool HF.out.symm, hb0.then hb1⟩
/-! ### a literal -/
set_option maxRecDepth 100000 in
set_option maxHeartbeats 6400000 in
theorem literal_any (w : World) (B L g : Nat) (vc : Value) (a : Option Addr) (c : Nat) (neg : Bool) (t : Tm) (m : MkS) (hM : MkM w B L g vc m 0 0) (hr : Row (veil (kB L g vc) w) a c t.flat) (hok : t.ok) (h3 : t.hd.k = 3) (h200 : t.flat.length ≤ 200) (hl : m.code.length + 2 * t.flat.length ≤ 800000) :
    Calls Try.prog 64 #[.pointer (some ⟨L, 0, none⟩), .agg #[.bool neg, .slice a t.flat.length c]] w (KPost w B L g vc (litS (neg, t) m) 0 0 (.tuple #[])) := by
  have HALL : Hid (∀ b ∈ kB L g vc, b < w.heap.size) := fun b hb => (hM.allB b hb).2
  have HM := mkHid hM
  have HR := mkHid hr
  have hpl := hr.le
  have hpm := hr.max
  have hLY := structS_lays t m (ok_kinds t hok) ⟨hM.next.1, hM.reg⟩
  have HLY := mkHid hLY
  have HSL := mkHid (structS_short' t m)
  clear hM hr hLY
  go_enter Try.func64, Try.ntmps64
  go_wp2_with fail
  obtain ⟨W, hW⟩ : ∃ V, (((w.alloc (.cells #[.pointer (some ⟨L, 0, none⟩)] 92)).alloc (.cells #[.bool neg, .slice a t.flat.length c] 88)).alloc (.cells #[.func (.func 147) #[] #[.pointer (some ⟨w.heap.size + 1 + 1, 0, none⟩), .pointer (some ⟨w.heap.size, 0, none⟩)]] 134)) = V := ⟨_, rfl⟩
  have hb0 : Below w.heap.size w W := by rw [← hW]; exact (((Below.refl _ _).new _).new _).new _
  have e0 : W.cell? ⟨w.heap.size, 0, none⟩ = some (.pointer (some ⟨L, 0, none⟩)) := by rw [← hW]; exact keep (keep (World.cell?_alloc_at _ _ w.heap.size 0 rfl) ((Below.refl _ _).new _)) ((Below.refl _ _).new _)
  have e1 : W.cell? ⟨w.heap.size + 1, 0, none⟩ = some (.bool neg) := by rw [← hW]; exact keep (World.cell?_alloc_at _ _ (w.heap.size + 1) 0 (by simp)) ((Below.refl _ _).new _)
  have e2 : W.cell? ⟨w.heap.size + 1, 1, none⟩ = some (.slice a t.flat.length c) := by rw [← hW]; exact keep (World.cell?_alloc_at _ _ (w.heap.size + 1) 1 (by simp)) ((Below.refl _ _).new _)
  have e3 : W.cell? ⟨w.heap.size + 1 + 1, 0, none⟩ = some (strF (w.heap.size + 1 + 1) w.heap.size) := by rw [← hW]; exact World.cell?_alloc_at _ _ (w.heap.size + 1 + 1) 0 (by simp)
  rw [hW]
  clear hW
  obtain ⟨M, hMe⟩ : ∃ V, w.heap.size = V := ⟨_, rfl⟩
  have HMe := mkHid hMe
  rw [hMe] at e0 e1 e2 e3 ⊢
  clear hMe
  have hx : ∀ x, M ≤ x → x ∉ kB L g vc := fun x hx e => by have := HALL.out x e; have := HMe.out; omega
  have hS0 : (fun X : World => (veil (kB L g vc) X).cell? ⟨M, 0, none⟩ = some (.pointer (some ⟨L, 0, none⟩)) ∧ (veil (kB L g vc) X).cell? ⟨M + 1, 0, none⟩ = some (.bool neg) ∧ (veil (kB L g vc) X).cell? ⟨M + 1, 1, none⟩ = some (.slice a t.flat.length c) ∧ (veil (kB L g vc) X).cell? ⟨M + 1 + 1, 0, none⟩ = some (strF (M + 1 + 1) M)) W :=
    ⟨veil_of (hx _ (by omega)) e0, veil_of (hx _ (by omega)) e1, veil_of (hx _ (by omega)) e2, veil_of (hx _ (by omega)) e3⟩
  have HS0 := mkHid hS0
  have HM0 := mkHid (HM.out.below hb0)
  have HF0 : Hid (Fr (kB L g vc) w W) := Fr.of hb0
  have HR0 := mkHid (HR.out.keeps (Fr.keeps HF0.out))
  clear hS0 hx hb0
  unfold strF at e3
  have hbd : Below W.heap.size W W.drew := (Below.refl _ _).drew
  refine wp_region_noPanic ?_
  refine wp_region_held_drew (S := fun X => X.cell? ⟨M, 0, none⟩ = some (.pointer (some ⟨L, 0, none⟩)) ∧ X.cell? ⟨M + 1, 0, none⟩ = some (.bool neg) ∧ X.cell? ⟨M + 1, 1, none⟩ = some (.slice a t.flat.length c) ∧ X.cell? ⟨M + 1 + 1, 0, none⟩ = some (.func (.func 147) #[] #[.pointer (some ⟨M + 1 + 1, 0, none⟩), .pointer (some ⟨M, 0, none⟩)])) (by kernel_rfl) ⟨e0, e1, e2, e3⟩ (fun hSd => ?_)
  refine wpAnyH_take (i := 0) (oi := _) (v := ?_) rfl (by kernel_rfl) (by kernel_rfl) (by kernel_rfl) (fun _ _ _ h => h) (Or.inl ⟨by rfl, ?_⟩) (by assumption) ?_
  rotate_left
  · (intro w' hSw; obtain ⟨z0, z1, z2, z3⟩ := hSw; go_simp; try with_reducible rfl)
  (try simp only [List.getElem_toArray, List.getElem_cons_succ, List.getElem_cons_zero, Act.put, List.setIfInBounds_toArray, List.set_cons_zero, List.set_cons_succ])
  refine wpAnyH_take (i := 1) (oi := _) (v := ?_) rfl (by kernel_rfl) (by kernel_rfl) (by kernel_rfl) (fun _ _ _ h => h) (Or.inl ⟨by rfl, ?_⟩) (by assumption) ?_
  rotate_left
  · (intro w' hSw; obtain ⟨z0, z1, z2, z3⟩ := hSw; go_simp; try with_reducible rfl)
  (try simp only [List.getElem_toArray, List.getElem_cons_succ, List.getElem_cons_zero, Act.put, List.setIfInBounds_toArray, List.set_cons_zero, List.set_cons_succ])
  refine wpAnyH_take (i := 2) (oi := _) (v := ?_) rfl (by kernel_rfl) (by kernel_rfl) (by kernel_rfl) (fun _ _ _ h => h) (Or.inl ⟨by rfl, ?_⟩) (by assumption) ?_
  rotate_left
  · (intro w' hSw; obtain ⟨z0, z1, z2, z3⟩ := hSw; go_simp; try with_reducible rfl)
  (try simp only [List.getElem_toArray, List.getElem_cons_succ, List.getElem_cons_zero, Act.put, List.setIfInBounds_toArray, List.set_cons_zero, List.set_cons_succ])
  refine wpAnyH_take (i := 3) (oi := _) (v := ?_) rfl (by kernel_rfl) (by kernel_rfl) (by kernel_rfl) (fun _ _ _ h => h) (Or.inl ⟨by rfl, ?_⟩) (by assumption) ?_
  rotate_left
  · (intro w' hSw; obtain ⟨z0, z1, z2, z3⟩ := hSw; go_simp; try with_reducible rfl)
  (try simp only [List.getElem_toArray, List.getElem_cons_succ, List.getElem_cons_zero, Act.put, List.setIfInBounds_toArray, List.set_cons_zero, List.set_cons_succ])
  refine wpAnyH_take (i := 5) (oi := _) (v := ?_) rfl (by kernel_rfl) (by kernel_rfl) (by kernel_rfl) (fun _ _ _ h => h) (Or.inl ⟨by rfl, ?_⟩) (by assumption) ?_
  rotate_left
  · (intro w' hSw; obtain ⟨z0, z1, z2, z3⟩ := hSw; go_simp; try with_reducible rfl)
  (try simp only [List.getElem_toArray, List.getElem_cons_succ, List.getElem_cons_zero, Act.put, List.setIfInBounds_toArray, List.set_cons_zero, List.set_cons_succ])
  refine wpAnyH_take (i := 6) (oi := _) (v := ?_) rfl (by kernel_rfl) (by kernel_rfl) (by kernel_rfl) (fun _ _ _ h => h) (Or.inl ⟨by rfl, ?_⟩) (by assumption) ?_
  rotate_left
  · (intro w' hSw; obtain ⟨z0, z1, z2, z3⟩ := hSw; go_simp; try with_reducible rfl)
  (try simp only [List.getElem_toArray, List.getElem_cons_succ, List.getElem_cons_zero, Act.put, List.setIfInBounds_toArray, List.set_cons_zero, List.set_cons_succ])
  refine wpAnyH_ready (rs := [4]) (by kernel_rfl) (by simp) ?_
  refine AllReadyH.cons (o := _) rfl (fun K hK => ?_) AllReadyH.nil
  go_simp
  refine (struct_any B L g (M + 1 + 1) M _ t W.drew vc m a c (Nat.le_refl _) hok h3 h200 (HM0.out.below hbd) (HR0.out.keeps (Fr.keeps (Fr.of hbd))) (Fr.keeps (Fr.of hbd) _ _ _ HS0.out.2.2.2) (Fr.keeps (Fr.of hbd) _ _ _ HS0.out.1) hl).mono ?_
  rintro e w5 ⟨rfl, vk5, hM5, hF5, hN5⟩
  have hF := (Fr.of (us := kB L g vc) hbd).trans hF5
  have hN : NewAtN W vc vk5 := newAtN_trans (v1 := vc) (.inl rfl) hbd.size hN5
  have hk5 := kB_keeps HM0.out hF hN
  have h1 := hk5 _ _ _ HS0.out.1
  have h2 := hk5 _ _ _ HS0.out.2.1
  have h3' := hk5 _ _ _ HS0.out.2.2.1
  have h4 := hk5 _ _ _ HS0.out.2.2.2
  have HS5 : Hid ((fun X : World => (veil (kB L g vk5) X).cell? ⟨M, 0, none⟩ = some (.pointer (some ⟨L, 0, none⟩)) ∧ (veil (kB L g vk5) X).cell? ⟨M + 1, 0, none⟩ = some (.bool neg) ∧ (veil (kB L g vk5) X).cell? ⟨M + 1, 1, none⟩ = some (.slice a t.flat.length c) ∧ (veil (kB L g vk5) X).cell? ⟨M + 1 + 1, 0, none⟩ = some (strF (M + 1 + 1) M)) w5) := ⟨h1, h2, h3', h4⟩
  have HM5 := mkHid hM5
  have HF5 := mkHid hF
  have HN5 := mkHid hN
  have s1 := (veil_cell h1).2
  have s2 := (veil_cell h2).2
  have s3 := (veil_cell h3').2
  have s4 := (veil_cell h4).2
  unfold strF at s4
  clear hM5 hF5 hN5 hF hN hk5 h1 h2 h3' h4
  try dsimp only
  refine hK.out _ _ ⟨s1, s2, s3, s4⟩ (fun _ => ?_)
  clear hK K e0 e1 e2 e3
  (try simp only [List.getElem_toArray, List.getElem_cons_succ, List.getElem_cons_zero, Act.put, List.setIfInBounds_toArray, List.set_cons_zero, List.set_cons_succ])
  refine wpAnyH_take (i := 7) (oi := _) (v := ?_) rfl (by kernel_rfl) (by kernel_rfl) (by kernel_rfl) (fun _ _ _ h => h) (Or.inl ⟨by rfl, ?_⟩) (by assumption) ?_
  rotate_left
  · (intro w' hSw; obtain ⟨z0, z1, z2, z3⟩ := hSw; go_simp; try with_reducible rfl)
  (try simp only [List.getElem_toArray, List.getElem_cons_succ, List.getElem_cons_zero, Act.put, List.setIfInBounds_toArray, List.set_cons_zero, List.set_cons_succ])
  refine wpAnyH_ready (rs := [8]) (by kernel_rfl) (by simp) ?_
  refine AllReadyH.cons (o := _) rfl (fun K hK => ?_) AllReadyH.nil
  go_simp
  have hnx := HM5.out.next
  have hly := HLY.out.2
  have hsl := HSL.out
  have HLT : Hid (litS (neg, t) m = (structS t m).1.lay ⟨12, 0, (structS t m).2, ⟨#[]⟩, 0, neg⟩) := rfl
  clear HLY
  generalize structS t m = st at *
  obtain ⟨m5, r5⟩ := st
  dsimp only at hnx hly hsl HM5 HLT ⊢
  refine (lay_any w5 B L g vk5 m5 0 0 ⟨12, 0, r5, ⟨#[]⟩, 0, neg⟩ (HM5.out.slack (by omega) (by omega)) (Ins.fit_of (by omega) (by omega) (by omega) (by omega) (by decide)) (by omega)).mono ?_
  rintro e w6 ⟨rfl, vk6, hM6, hF6, hN6⟩
  have hk6 := kB_keeps HM5.out hF6 hN6
  have h1 := (veil_cell (hk6 _ _ _ HS5.out.1)).2
  have h2 := (veil_cell (hk6 _ _ _ HS5.out.2.1)).2
  have h3' := (veil_cell (hk6 _ _ _ HS5.out.2.2.1)).2
  have h4 := (veil_cell (hk6 _ _ _ HS5.out.2.2.2)).2
  unfold strF at h4
  have HP : Hid (∃ vc', MkM w6 B L g vc' (litS (neg, t) m) 0 0 ∧ Fr (kB L g vc) w w6 ∧ NewAtN w vc vc') := by
    refine ⟨vk6, by rw [HLT.out]; exact hM6, frK_trans (HF0.out.trans HF5.out) (newAtN_trans (.inl rfl) HF0.out.size HN5.out) hF6, newAtN_trans (newAtN_trans (v1 := vc) (.inl rfl) HF0.out.size HN5.out) (HF0.out.trans HF5.out).size hN6⟩
  clear hM6 hF6 hN6 hk6
  try dsimp only
  refine hK.out _ _ ⟨h1, h2, h3', h4⟩ (fun _ => ?_)
  clear hK K s1 s2 s3 s4 h1 h2 h3' h4
  (try simp only [List.getElem_toArray, List.getElem_cons_succ, List.getElem_cons_zero, Act.put, List.setIfInBounds_toArray, List.set_cons_zero, List.set_cons_succ])
  refine wpAnyH_done (by kernel_rfl) (NoPanic.normal ?_) _
  go_wp2_with fail
  exact bodyPost_ret (results_none rfl _ _ _) rfl ⟨rfl, HP.out⟩
end Go.Proofs.Ytmmnfkggfnokjaa
set_option linter.unusedVariables false
namespace Go.Proofs.Ytmmnfkggfnokjaa
open Go.RowKit
/-! ### Compile -/
def litOf (p : Bool × Tm) : Lt := ⟨p.1, p.2.flat⟩
/-- a clause that may be, as trees -/
structure ClT (x : Cl) (h : Tm) (bl : List (Bool × Tm)) : Prop where
  eh : x.h = h.flat
  eb : x.b = bl.map litOf
  ok : h.ok
  h3 : h.hd.k = 3
  h200 : h.flat.length ≤ 200
  few : bl.length ≤ 8
  lits : ∀ p ∈ bl, p.2.ok ∧ p.2.hd.k = 3 ∧ p.2.flat.length ≤ 200
theorem atom_tree {xs : List Cel} (h : atomB xs = true) : ∃ t : Tm, t.ok ∧ xs = t.flat ∧ t.hd.k = 3 ∧ t.flat.length ≤ 200 := by
  unfold atomB at h
  rw [Bool.and_eq_true] at h
  obtain ⟨t, h1, rfl, h2⟩ := right_tm h.1
  refine ⟨t, h1, rfl, ?_, h2⟩
  have h3 := h.2
  rw [flat_cons] at h3
  simpa [isFun] using h3
theorem may_trees {x : Cl} (h : mayB x = true) : ∃ t bl, ClT x t bl := by
  unfold mayB at h
  simp only [Bool.and_eq_true, decide_eq_true_eq, List.all_eq_true] at h
  obtain ⟨⟨h8, hb⟩, ha⟩ := h
  obtain ⟨t, t1, t2, t3, t4⟩ := atom_tree ha
  have key : ∀ l : List Lt, (∀ y ∈ l, atomB y.t = true) → ∃ bl : List (Bool × Tm), l = bl.map litOf ∧ ∀ p ∈ bl, p.2.ok ∧ p.2.hd.k = 3 ∧ p.2.flat.length ≤ 200 := by
    intro l
    induction l with
    | nil => intro _; exact ⟨[], rfl, fun p hp => by cases hp⟩
    | cons y l ih =>
      intro hy
      obtain ⟨bl, e, hbl⟩ := ih fun z hz => hy z (List.mem_cons_of_mem _ hz)
      obtain ⟨u, u1, u2, u3, u4⟩ := atom_tree (hy y List.mem_cons_self)
      refine ⟨(y.neg, u) :: bl, ?_, fun p hp => ?_⟩
      · rw [e, List.map_cons]
        congr 1
        cases y
        simp only [litOf] at u2 ⊢
        rw [u2]
      · rcases List.mem_cons.1 hp with rfl | hp
        · exact ⟨u1, u3, u4⟩
        · exact hbl p hp
  obtain ⟨bl, e, hbl⟩ := key x.b hb
  exact ⟨t, bl, t2, e, t1, t3, t4, by rw [e, List.length_map] at h8; exact h8, hbl⟩
theorem funsL_le (l : List Cel) : funsL l ≤ l.length := List.length_filter_le _ _
theorem sumC_le (ps : List (Tm × Int)) : sumC ps ≤ 2 * sumF ps := by
  induction ps with
  | nil => simp [sumC]
  | cons p ps ih =>
    have e1 : sumC (p :: ps) = cntR p.1 + sumC ps := by simp [sumC]
    have e2 : sumF (p :: ps) = p.1.flat.length + sumF ps := by simp [sumF]
    have h1 := funsL_le p.1.flat
    have h2 := flat_pos p.1
    have h3 : cntR p.1 ≤ 2 * p.1.flat.length := by
      unfold cntR
      by_cases h : p.1.hd.k = 3
      · rw [if_pos h]; omega
      · rw [if_neg h]
        omega
    omega
theorem lits_short : ∀ (bl : List (Bool × Tm)) (m : MkS), (∀ p ∈ bl, p.2.flat.length ≤ 200) → (bl.foldl (fun m x => litS x m) m).code.length ≤ m.code.length + 400 * bl.length
  | [], m, _ => by simp
  | p :: bl, m, h => by
    rw [List.foldl_cons]
    have h1 := lits_short bl (litS p m) fun q hq => h q (List.mem_cons_of_mem _ hq)
    have h2 := structS_short' p.2 m
    have h3 := h p List.mem_cons_self
    have h4 : (litS p m).code.length = (structS p.2 m).1.code.length + 1 := lay_len _ _
    simp only [List.length_cons]
    omega
theorem AccInv.newN {W : World} {B e : Nat} {v : Value} {acc : List Ins} (h : AccInv B e acc v W) : ∃ a cap, v = .slice a acc.length cap ∧ NewRow B W a cap acc := by
  obtain ⟨vs, ho, hc⟩ := h.ex
  exact own_newG ho (hc.anyN fun h => h)
theorem compile_no (a : Option Addr) (cap : Nat) (a' : Option Addr) (cap' : Nat) (w : World) (hs : List Cel) (bs : List Lt) (hr : Row w a cap hs) (hr' : Row w a' cap' bs) (hm : mayB ⟨hs, bs⟩ = false) :
    Calls Try.prog 16 #[.agg #[.slice a hs.length cap, .slice a' bs.length cap']] w fun e w' => e = .returned (.tuple #[.slice none 0 0, .int .i64 1]) ∧ Below w.heap.size w w' := by
  have hb0 := (Below.refl w.heap.size w).new (.cells #[.slice a hs.length cap, .slice a' bs.length cap'] 25)
  have HM := mkHid hm
  clear hm
  go_enter Try.func16, Try.ntmps16
  go_wp2_with fail
  refine (mayc_any a cap a' cap' _ hs bs (hr.below hb0) (hr'.below hb0)).mono ?_
  rintro e w1 ⟨rfl, hb1⟩
  rw [HM.out]
  go_wp2_with fail
  go_ret2
  exact ⟨rfl, hb0.then hb1⟩
def compN (w : World) (h : Tm) (bl : List (Bool × Tm)) (e : Ending) (w' : World) : Prop := ∃ a2 c2, e = .returned (.tuple #[.slice a2 (compS h bl).length c2, .int .i64 0]) ∧ NewRow w.heap.size w' a2 c2 (compS h bl) ∧ Below w.heap.size w w'
set_option maxRecDepth 100000 in
set_option maxHeartbeats 12800000 in
theorem compile_yes (a : Option Addr) (cap : Nat) (a' : Option Addr) (cap' : Nat) (w : World) (x : Cl) (h : Tm) (bl : List (Bool × Tm)) (hT : ClT x h bl) (hm : mayB x = true) (hr : Row w a cap x.h) (hr' : Row w a' cap' x.b) :
    Calls Try.prog 16 #[.agg #[.slice a x.h.length cap, .slice a' x.b.length cap']] w (compN w h bl) := by
  obtain ⟨xh, xb⟩ := x
  obtain ⟨eh, eb, hok, h3, h200, hfew, hlit⟩ := hT
  dsimp only at eh eb hr hr' ⊢
  subst eh
  have hx8 : xb.length ≤ 8 := by rw [eb, List.length_map]; exact hfew
  have HXL : Hid (xb.length = bl.length) := by rw [Hid, eb, List.length_map]
  have HEB := mkHid eb
  clear eb
  have hmm := @run_makeMap Try.prog
  have hb0 := (Below.refl w.heap.size w).new (.cells #[.slice a h.flat.length cap, .slice a' xb.length cap'] 25)
  have e0 : (w.alloc (.cells #[.slice a h.flat.length cap, .slice a' xb.length cap'] 25)).cell? ⟨w.heap.size, 0, none⟩ = some (.slice a h.flat.length cap) := World.cell?_alloc_at _ _ w.heap.size 0 rfl
  have e1 : (w.alloc (.cells #[.slice a h.flat.length cap, .slice a' xb.length cap'] 25)).cell? ⟨w.heap.size, 1, none⟩ = some (.slice a' xb.length cap') := World.cell?_alloc_at _ _ w.heap.size 1 rfl
  have hle := hr.le
  have hmx := hr.max
  have hle' := hr'.le
  have hmx' := hr'.max
  have hpos := flat_pos h
  have hr0 := hr.below hb0
  have hr0' := hr'.below hb0
  have HB0 := mkHid hb0
  have HMA := mkHid hm
  have HOK := mkHid hok
  have H3 := mkHid h3
  have HLIT := mkHid hlit
  have hn6 : 0 ≤ h.hd.n ∧ h.hd.n ≤ 6 := by
    have h1 := ((ok_iff h).1 hok).1
    unfold cellOk at h1
    rw [h3] at h1
    simp at h1
    omega
  have HR0 := mkHid hr0
  have HR0' := mkHid hr0'
  clear hb0 hr hr' hm hok h3 hlit hr0 hr0'
  go_enter Try.func16, Try.ntmps16
  go_wp2_with fail
  obtain ⟨W0, hW⟩ : ∃ V, w.alloc (.cells #[.slice a h.flat.length cap, .slice a' xb.length cap'] 25) = V := ⟨_, rfl⟩
  rw [hW] at e0 e1 HB0 HR0 HR0' ⊢
  clear hW
  obtain ⟨C, hC⟩ : ∃ V, w.heap.size = V := ⟨_, rfl⟩
  rw [hC] at e0 e1 ⊢
  have HC := mkHid hC
  clear hC
  refine (mayc_any a cap a' cap' W0 h.flat xb HR0.out HR0'.out).mono ?_
  rintro e w1 ⟨rfl, hb1⟩
  rw [HMA.out]
  have d0 := keep e0 hb1
  have d1 := keep e1 hb1
  have HR1 := mkHid (HR0.out.below hb1)
  have HR1' := mkHid (HR0'.out.below hb1)
  have HB1 := mkHid (HB0.out.then hb1)
  clear e0 e1 hb1 HR0 HR0' HB0
  obtain ⟨b, off, rfl, q0, q1, q2, hfp⟩ := row_hdN HR1.out
  have hlC := cell_lt d0
  clear q0 hfp
  go_wp2_with fail
  obtain ⟨W, hW⟩ : ∃ V, (w1.alloc (.map #[] 0)).alloc (.cells #[.slice none 0 0, .int .i64 h.hd.n, .map (some w1.heap.size)] 95) = V := ⟨_, rfl⟩
  have hbW : Below w1.heap.size w1 W := by rw [← hW]; exact ((Below.refl _ _).new _).new _
  have hM : MkM W w1.heap.size (w1.heap.size + 1) w1.heap.size (.slice none 0 0) ⟨[], h.hd.n, fun _ => none⟩ 0 0 := by
    rw [← hW]
    refine ⟨?_, .nil _ _ _, ⟨0, by simp only; omega, ((MapV.made Try.prog 3 w1).alloc _).congr fun i => rfl⟩, ⟨hn6.1, by simp only [List.length_nil]; omega⟩, fun i r hr => (by cases hr), by simp [Value.ownBlock], by simp [Value.ownBlock], by omega, by omega, by omega⟩
    have := heap_alloc_new (w1.alloc (.map #[] 0)) (.cells #[.slice none 0 0, .int .i64 h.hd.n, .map (some w1.heap.size)] 95)
    rw [World.size_alloc] at this
    exact this
  rw [hW]
  clear hW hmm
  obtain ⟨G, hG⟩ : ∃ V, w1.heap.size = V := ⟨_, rfl⟩
  rw [hG] at hM ⊢
  have HG := mkHid hG
  have HM := mkHid hM
  have HBW := mkHid hbW
  clear hG hM hbW
  have HROW : Hid (∀ (W' : World) (vk : Value) (m' : MkS), MkM W' G (G + 1) G vk m' 0 0 → Below w1.heap.size w1 W' → ∀ {a : Option Addr} {c : Nat} {xs : List Cel}, Row w1 a c xs → Row (veil (kB (G + 1) G vk) W') a c xs) := fun W' vk m' hM hb a c xs hr =>
    hr.keeps (veil_fresh (Keeps.of hb) fun k hk => by rw [HG.out]; exact (hM.allB k hk).1)
  have hsum := rowOf_sums h.args 0
  have HSC := mkHid (sumC_le (rowOf h.args 0))
  have hfl : (flats h.args).length + 1 ≤ 200 := by
    have e : h.flat.length = (flats h.args).length + 1 := by rw [flat_cons]; simp
    omega
  have HSU := mkHid hsum
  have HFE : Hid (h.flat.length = (flats h.args).length + 1) := by rw [Hid, flat_cons]; simp
  clear hsum
  refine (head_any W G (G + 1) G (.slice none 0 0) (some ⟨b, off, none⟩) cap h _ HM.out (HROW.out W _ _ HM.out HBW.out HR1.out) HOK.out h200 (by have := HSC.out; have := HSU.out; simp only [List.length_nil]; omega) (2 * h.flat.length + 1) (by have := HSU.out; have := HFE.out; omega) (by omega)).mono ?_
  rintro e w2 ⟨rfl, vk2, hM2, hF2, hN2⟩
  have hB2 : Below w1.heap.size w1 w2 := HBW.out.trans ((HM.out.frB hF2).mono (by rw [HG.out]; exact Nat.le_refl _))
  have hcl2 : (rowS (2 * h.flat.length + 1) (rowOf h.args 0) ⟨[], h.hd.n, fun _ => none⟩).code.length ≤ 800 := by
    have hk : ∀ p ∈ rowOf h.args 0, Kinds p.1 := fun p hp => by
      have hall := rowOf_ok ((ok_iff h).1 HOK.out).2.2 (fun u hu => by have := mem_short hu; omega) 0 (by
        have h1 := ar_le _ ((ok_iff h).1 HOK.out).1
        rw [((ok_iff h).1 HOK.out).2.1]
        omega)
      exact ok_kinds _ (hall p hp).1
    rw [rowS_len _ _ _ hk (by have := HSU.out; have := HFE.out; omega)]
    have := HSC.out
    have := HSU.out
    simp only [List.length_nil]
    omega
  have HCL2 := mkHid hcl2
  have d1' := keep d1 hB2
  have HCS : Hid (compS h bl = ((bl.foldl (fun m x => litS x m) (rowS (2 * h.flat.length + 1) (rowOf h.args 0) ⟨[], h.hd.n, fun _ => none⟩)).lay ⟨13, 0, 0, h.hd.s, h.hd.n, false⟩).code) := rfl
  have HM2 := mkHid hM2
  have HBB2 := mkHid hB2
  clear hM2 hF2 hN2 hB2 hcl2 d1
  generalize rowS (2 * h.flat.length + 1) (rowOf h.args 0) ⟨[], h.hd.n, fun _ => none⟩ = m0 at *
  go_wp2_with fail
  go_loopw [6, 25] (fun _ i wr => ∃ (k : Nat) (vk : Value), i = .int .i64 k ∧ k ≤ xb.length ∧ Hid (MkM wr G (G + 1) G vk ((bl.take k).foldl (fun m x => litS x m) m0) 0 0) ∧ Hid (Below w1.heap.size w1 wr)) (fun _ i wr => xb.length - (intOf i).toNat)
  case atStart => exact ⟨0, vk2, rfl, Nat.zero_le _, HM2, HBB2⟩
  case round =>
    clear HM2 HBB2
    obtain ⟨k, vk, rfl, hk, HMk, HBk⟩ := hrel
    by_cases hlt : k < xb.length
    · obtain ⟨b4, off4, rfl, hb4, hat⟩ := HR1'.out.cases.resolve_left (fun e => by simp [e] at hlt)
      obtain ⟨a5, c5, c0, c1, hr5⟩ := lt_at hat (Below.refl _ _) hlt
      have hkb : k < bl.length := by have := HXL.out; omega
      have HXK : Hid (xb[k] = litOf bl[k]) := by
        rw [Hid]
        have := HEB.out
        simp [this]
      have c0' := keep c0 HBk.out
      have c1' := keep c1 HBk.out
      have HR5 := mkHid hr5
      obtain ⟨hu1, hu2, hu3⟩ := HLIT.out _ (List.getElem_mem hkb)
      have HU1 := mkHid hu1
      have HU2 := mkHid hu2
      have HFK : Hid ((bl.take (k + 1)).foldl (fun m x => litS x m) m0 = litS bl[k] ((bl.take k).foldl (fun m x => litS x m) m0)) := by
        rw [Hid, List.take_succ_eq_append_getElem hkb, List.foldl_append]; rfl
      have hls := lits_short (bl.take k) m0 fun p hp => (HLIT.out p (List.mem_of_mem_take hp)).2.2
      rw [List.length_take] at hls
      have hml : ((bl.take k).foldl (fun m x => litS x m) m0).code.length ≤ 4000 := by have := HCL2.out; omega
      clear c0 c1 hr5 hat hu1 hu2 hls
      generalize hmk : (bl.take k).foldl (fun m x => litS x m) m0 = mk at *
      clear hmk
      have hxk := HXK.out
      obtain ⟨pn, pt⟩ : ∃ p, bl[k] = p := ⟨_, rfl⟩
      rw [pt] at hxk HU1 HU2 hu3 HFK
      clear pt
      obtain ⟨ng, tt⟩ := pn
      rw [hxk] at c0' c1' HR5
      clear hxk HXK
      dsimp only [litOf] at c0' c1' HR5 HU1 HU2 hu3 HFK
      have hb9 : Below wr.heap.size wr (wr.alloc (.cells #[.bool ng, .slice a5 tt.flat.length c5] 88)) := (Below.refl _ _).new _
      have HM9 := mkHid (HMk.out.below hb9)
      have HB9 := mkHid (HBk.out.then hb9)
      clear HMk HBk hb9
      go_wp2_with fail
      refine (literal_any _ G (G + 1) G vk a5 c5 ng tt mk HM9.out (HROW.out _ _ _ HM9.out HB9.out HR5.out) HU1.out HU2.out hu3 (by omega)).mono ?_
      rintro e w5 ⟨rfl, vk5, hM5, hF5, hN5⟩
      have HM5 := mkHid hM5
      have HB5 : Hid (Below w1.heap.size w1 w5) := HB9.out.trans ((HM9.out.frB hF5).mono (by rw [HG.out]; exact Nat.le_refl _))
      clear hM5 hF5 hN5 c0' c1'
      go_wp2_with fail
      go_round
      case rel => exact ⟨k + 1, vk5, by go_num, by omega, by rw [HFK.out]; exact HM5, HB5⟩
      case measure => simp [intOf]; omega
    · obtain rfl : k = xb.length := by omega
      have HTK : Hid (bl.take xb.length = bl) := by rw [Hid, HXL.out, List.take_length]
      rw [HTK.out] at HMk
      have hls := lits_short bl m0 fun p hp => (HLIT.out p hp).2.2
      have hml : (bl.foldl (fun m x => litS x m) m0).code.length ≤ 4000 := by have := HCL2.out; omega
      clear hls
      generalize bl.foldl (fun m x => litS x m) m0 = m9 at *
      have y0 := keep d0 HBk.out
      have y1 := keep q1 HBk.out
      have y2 := keep q2 HBk.out
      go_wp2_with fail
      have hbd : Below wr.heap.size wr wr.drew := (Below.refl _ _).drew
      have hfit : h.hd.s.size ≤ 9223372036854775807 := by obtain ⟨_, _, _, _, _, _, hf⟩ := row_hdN HR1.out; exact hf.s
      refine wp_region_noPanic ?_
      refine wp_region_held_drew (S := fun X => X.cell? ⟨C, 0, none⟩ = some (.slice (some ⟨b, off, none⟩) h.flat.length cap) ∧ X.cell? ⟨b, off + 1, none⟩ = some (.string h.hd.s) ∧ X.cell? ⟨b, off + 2, none⟩ = some (.int .i64 h.hd.n)) (by kernel_rfl) ⟨y0, y1, y2⟩ (fun hSd => ?_)
      refine wpAnyH_take (i := 0) (oi := _) (v := ?_) rfl (by kernel_rfl) (by kernel_rfl) (by kernel_rfl) (fun _ _ _ h => h) (Or.inl ⟨by rfl, ?_⟩) (by assumption) ?_
      rotate_left
      · (intro w' hSw; obtain ⟨z0, z1, z2⟩ := hSw; go_simp; try with_reducible rfl)
      (try simp only [List.getElem_toArray, List.getElem_cons_succ, List.getElem_cons_zero, Act.put, List.setIfInBounds_toArray, List.set_cons_zero, List.set_cons_succ])
      refine wpAnyH_take (i := 1) (oi := _) (v := ?_) rfl (by kernel_rfl) (by kernel_rfl) (by kernel_rfl) (fun _ _ _ h => h) (Or.inl ⟨by rfl, ?_⟩) (by assumption) ?_
      rotate_left
      · (intro w' hSw; obtain ⟨z0, z1, z2⟩ := hSw; go_simp; try with_reducible rfl)
      (try simp only [List.getElem_toArray, List.getElem_cons_succ, List.getElem_cons_zero, Act.put, List.setIfInBounds_toArray, List.set_cons_zero, List.set_cons_succ])
      refine wpAnyH_take (i := 2) (oi := _) (v := ?_) rfl (by kernel_rfl) (by kernel_rfl) (by kernel_rfl) (fun _ _ _ h => h) (Or.inl ⟨by rfl, ?_⟩) (by assumption) ?_
      rotate_left
      · (intro w' hSw; obtain ⟨z0, z1, z2⟩ := hSw; go_simp; try with_reducible rfl)
      (try simp only [List.getElem_toArray, List.getElem_cons_succ, List.getElem_cons_zero, Act.put, List.setIfInBounds_toArray, List.set_cons_zero, List.set_cons_succ])
      refine wpAnyH_take (i := 3) (oi := _) (v := ?_) rfl (by kernel_rfl) (by kernel_rfl) (by kernel_rfl) (fun _ _ _ h => h) (Or.inl ⟨by rfl, ?_⟩) (by assumption) ?_
      rotate_left
      · (intro w' hSw; obtain ⟨z0, z1, z2⟩ := hSw; go_simp; try with_reducible rfl)
      (try simp only [List.getElem_toArray, List.getElem_cons_succ, List.getElem_cons_zero, Act.put, List.setIfInBounds_toArray, List.set_cons_zero, List.set_cons_succ])
      refine wpAnyH_take (i := 4) (oi := _) (v := ?_) rfl (by kernel_rfl) (by kernel_rfl) (by kernel_rfl) (fun _ _ _ h => h) (Or.inl ⟨by rfl, ?_⟩) (by assumption) ?_
      rotate_left
      · (intro w' hSw; obtain ⟨z0, z1, z2⟩ := hSw; go_simp; try with_reducible rfl)
      (try simp only [List.getElem_toArray, List.getElem_cons_succ, List.getElem_cons_zero, Act.put, List.setIfInBounds_toArray, List.set_cons_zero, List.set_cons_succ])
      refine wpAnyH_take (i := 5) (oi := _) (v := ?_) rfl (by kernel_rfl) (by kernel_rfl) (by kernel_rfl) (fun _ _ _ h => h) (Or.inl ⟨by rfl, ?_⟩) (by assumption) ?_
      rotate_left
      · (intro w' hSw; obtain ⟨z0, z1, z2⟩ := hSw; go_simp; try with_reducible rfl)
      (try simp only [List.getElem_toArray, List.getElem_cons_succ, List.getElem_cons_zero, Act.put, List.setIfInBounds_toArray, List.set_cons_zero, List.set_cons_succ])
      refine wpAnyH_take (i := 6) (oi := _) (v := ?_) rfl (by kernel_rfl) (by kernel_rfl) (by kernel_rfl) (fun _ _ _ h => h) (Or.inl ⟨by rfl, ?_⟩) (by assumption) ?_
      rotate_left
      · (intro w' hSw; obtain ⟨z0, z1, z2⟩ := hSw; go_simp; try with_reducible rfl)
      (try simp only [List.getElem_toArray, List.getElem_cons_succ, List.getElem_cons_zero, Act.put, List.setIfInBounds_toArray, List.set_cons_zero, List.set_cons_succ])
      refine wpAnyH_take (i := 7) (oi := _) (v := ?_) rfl (by kernel_rfl) (by kernel_rfl) (by kernel_rfl) (fun _ _ _ h => h) (Or.inl ⟨by rfl, ?_⟩) (by assumption) ?_
      rotate_left
      · (intro w' hSw; obtain ⟨z0, z1, z2⟩ := hSw; go_simp; try with_reducible rfl)
      (try simp only [List.getElem_toArray, List.getElem_cons_succ, List.getElem_cons_zero, Act.put, List.setIfInBounds_toArray, List.set_cons_zero, List.set_cons_succ])
      refine wpAnyH_take (i := 8) (oi := _) (v := ?_) rfl (by kernel_rfl) (by kernel_rfl) (by kernel_rfl) (fun _ _ _ h => h) (Or.inl ⟨by rfl, ?_⟩) (by assumption) ?_
      rotate_left
      · (intro w' hSw; obtain ⟨z0, z1, z2⟩ := hSw; go_simp; try with_reducible rfl)
      (try simp only [List.getElem_toArray, List.getElem_cons_succ, List.getElem_cons_zero, Act.put, List.setIfInBounds_toArray, List.set_cons_zero, List.set_cons_succ])
      refine wpAnyH_take (i := 9) (oi := _) (v := ?_) rfl (by kernel_rfl) (by kernel_rfl) (by kernel_rfl) (fun _ _ _ h => h) (Or.inl ⟨by rfl, ?_⟩) (by assumption) ?_
      rotate_left
      · (intro w' hSw; obtain ⟨z0, z1, z2⟩ := hSw; go_simp; try with_reducible rfl)
      (try simp only [List.getElem_toArray, List.getElem_cons_succ, List.getElem_cons_zero, Act.put, List.setIfInBounds_toArray, List.set_cons_zero, List.set_cons_succ])
      refine wpAnyH_take (i := 10) (oi := _) (v := ?_) rfl (by kernel_rfl) (by kernel_rfl) (by kernel_rfl) (fun _ _ _ h => h) (Or.inl ⟨by rfl, ?_⟩) (by assumption) ?_
      rotate_left
      · (intro w' hSw; obtain ⟨z0, z1, z2⟩ := hSw; go_simp; try with_reducible rfl)
      (try simp only [List.getElem_toArray, List.getElem_cons_succ, List.getElem_cons_zero, Act.put, List.setIfInBounds_toArray, List.set_cons_zero, List.set_cons_succ])
      refine wpAnyH_take (i := 11) (oi := _) (v := ?_) rfl (by kernel_rfl) (by kernel_rfl) (by kernel_rfl) (fun _ _ _ h => h) (Or.inl ⟨by rfl, ?_⟩) (by assumption) ?_
      rotate_left
      · (intro w' hSw; obtain ⟨z0, z1, z2⟩ := hSw; go_simp; try with_reducible rfl)
      (try simp only [List.getElem_toArray, List.getElem_cons_succ, List.getElem_cons_zero, Act.put, List.setIfInBounds_toArray, List.set_cons_zero, List.set_cons_succ])
      refine wpAnyH_ready (rs := [12]) (by kernel_rfl) (by simp) ?_
      refine AllReadyH.cons (o := _) rfl (fun K hK => ?_) AllReadyH.nil
      go_simp
      refine (lay_any wr.drew G (G + 1) G vk m9 0 0 ⟨13, 0, 0, h.hd.s, h.hd.n, false⟩ ((HMk.out.below hbd).slack (by omega) (by omega)) (Ins.fit_of (by omega) (by omega) (by omega) (by omega) hfit) (by omega)).mono ?_
      rintro e w9 ⟨rfl, vk9, hM9, hF9, hN9⟩
      have hB9 : Below w1.heap.size w1 w9 := (HBk.out.then hbd).trans (((HMk.out.below hbd).frB hF9).mono (by rw [HG.out]; exact Nat.le_refl _))
      have HM9 := mkHid hM9
      have HB9 := mkHid hB9
      have x0 := keep d0 hB9
      have x1 := keep q1 hB9
      have x2 := keep q2 hB9
      clear hM9 hF9 hN9 hB9
      try dsimp only
      refine hK.out _ _ ⟨x0, x1, x2⟩ (fun _ => ?_)
      clear hK K
      (try simp only [List.getElem_toArray, List.getElem_cons_succ, List.getElem_cons_zero, Act.put, List.setIfInBounds_toArray, List.set_cons_zero, List.set_cons_succ])
      refine wpAnyH_done (by kernel_rfl) (NoPanic.normal ?_) _
      obtain ⟨a9, c9, rfl, hrw⟩ := HM9.out.code.newN
      have z0 := HM9.out.c0
      have HRW := mkHid hrw
      clear hrw x0 x1 x2 y0 y1 y2 d0 q1 q2
      go_wp2_with fail
      go_ret2
      refine ⟨a9, c9, ?_, ?_, HB1.out.then HB9.out⟩
      · rw [HCS.out]; rfl
      · rw [HCS.out]
        exact HRW.out.mono (by have := HB1.out.size; have := HG.out; omega)
end Go.Proofs.Ytmmnfkggfnokjaa
set_option linter.unusedVariables false
namespace Go.Proofs.Ytmmnfkggfnokjaa
open Go.RowKit
/-! ### the teller in memory: nodes -/
/-- a pointer to a node -/
structure PtN where
  p : Nat
structure PtE (w : World) (b o : Nat) (x : PtN) : Prop where
  c : w.cell? ⟨b, o, none⟩ = some (.pointer (some ⟨x.p, 0, none⟩))
instance instRepCPtN : RepC PtN where
  sz := 1
  E := PtE
  mono h hb := ⟨hb _ _ _ h.c⟩
  lt h := cell_lt h.c
  C _ cs x := cs = [.pointer (some ⟨x.p, 0, none⟩)]
  len := by rintro w cs x rfl; rfl
  one := by rintro w cs x rfl u hu; simp at hu; subst hu; rfl
  cmono := by rintro w w' cs x h _; exact h
  toE := by
    rintro w cs x b o rfl hat
    exact ⟨hat 0 _ rfl⟩
  ofE := by
    rintro w x b o ⟨h⟩
    refine ⟨_, rfl, fun j u hj => ?_⟩
    cases j with
    | zero => simp at hj; subst hj; exact h
    | succ j => simp at hj
  pos := by decide
theorem Try.infoPtN : (Try.prog.info? 223).map (fun i => (i.zero, i.size, i.bytes)) = some (some (.pointer none), 1, 8) := by kernel_rfl
/-- a node: its cell, its arguments -/
structure NdS where
  c : Cel
  ks : List PtN
/-- what the teller knows -/
structure TS where
  rest : List Ins
  funs : Int → Bool
  built : Int → Option Nat
  bad : Bool
  nb : Nat
  H : Nat → Option NdS
def zeroC : Cel := ⟨0, ⟨#[]⟩, 0⟩
def NdAt (W0 W : World) (p : Nat) (d : NdS) (v : Value) : Prop :=
  W0.heap.size ≤ p ∧ d.c.fit ∧ W.heap[p]? = some (.cells #[.int .i64 d.c.k, .string d.c.s, .int .i64 d.c.n, v] 227 (0, 0)) ∧ AccInv W0.heap.size 223 d.ks v W
def MapF (f : Int → Bool) : Int → Option Value := fun i => if f i = true then some (.bool true) else none
def MapP (f : Int → Option Nat) : Int → Option Value := fun i => (f i).map fun p => .pointer (some ⟨p, 0, none⟩)
structure TW (W0 W : World) (R fm bm : Nat) (S : TS) (kv : Nat → Value) : Prop where
  bel : Below W0.heap.size W0 W
  blk : ∃ ra rc, W.heap[R]? = some (.cells #[.slice ra S.rest.length rc, .map (some fm), .map (some bm), .bool S.bad] 194 (0, 0)) ∧ Row W0 ra rc S.rest
  fn : ∃ n, n ≤ 100000 ∧ MapV Try.prog 3 W fm n (MapF S.funs)
  bt : ∃ n, (n ≤ S.nb ∧ S.rest.length ≤ 100000) ∧ MapV Try.prog 3 W bm n (MapP S.built)
  nd : ∀ p d, S.H p = some d → NdAt W0 W p d (kv p)
  sep : ∀ p q dp dq, S.H p = some dp → S.H q = some dq → p ≠ q → ∀ b, (kv p).ownBlock = some b → (kv q).ownBlock ≠ some b
  hR : W0.heap.size ≤ R
  hf : W0.heap.size ≤ fm
  hb : W0.heap.size ≤ bm
  fb : fm ≠ bm
/-- the blocks that the teller turns -/
def Own (R fm bm : Nat) (S : TS) (kv : Nat → Value) (b : Nat) : Prop := b = R ∨ b = fm ∨ b = bm ∨ (∃ d, S.H b = some d) ∨ ∃ p d, S.H p = some d ∧ (kv p).ownBlock = some b
/-- all blocks that were there, but those of P, are as they were -/
structure FrP (P : Nat → Prop) (w w' : World) : Prop where
  os : w'.os = w.os
  tape : w'.tape = w.tape
  output : w'.output = w.output
  size : w.heap.size ≤ w'.heap.size
  block : ∀ k, k < w.heap.size → ¬ P k → w'.heap[k]? = w.heap[k]?
section
variable {P P' : Nat → Prop} {w w1 w2 w' : World}
theorem FrP.refl (P : Nat → Prop) (w : World) : FrP P w w := ⟨rfl, rfl, rfl, Nat.le_refl _, fun _ _ _ => rfl⟩
theorem FrP.of (h : Below w.heap.size w w') : FrP P w w' := ⟨h.os, h.tape, h.output, h.size, fun k hk _ => h.block k hk⟩
theorem FrP.trans (h : FrP P w w1) (hn : ∀ b, P' b → P b ∨ w.heap.size ≤ b) (k : FrP P' w1 w2) : FrP P w w2 :=
  ⟨k.os.trans h.os, k.tape.trans h.tape, k.output.trans h.output, Nat.le_trans h.size k.size, fun i hi hp => (k.block i (Nat.lt_of_lt_of_le hi h.size) (fun e => by rcases hn i e with e | e; exact hp e; omega)).trans (h.block i hi hp)⟩
theorem FrP.ofFr {us : List Nat} (h : Fr us w w') (hu : ∀ b ∈ us, P b ∨ w.heap.size ≤ b) : FrP P w w' :=
  ⟨h.os, h.tape, h.output, h.size, fun k hk hp => h.block k hk (fun e => by rcases hu k e with e | e; exact hp e; omega)⟩
theorem FrP.below (h : FrP P w w') {B : Nat} (hB : B ≤ w.heap.size) (hp : ∀ b, P b → B ≤ b) : Below B w w' :=
  ⟨h.os, h.tape, h.output, h.size, fun k hk => h.block k (by omega) fun e => by have := hp k e; omega⟩
/-- a row that lies in none of the blocks -/
def offP (P : Nat → Prop) (v : Value) : Prop := ∀ b, v.ownBlock = some b → ¬ P b
theorem FrP.acc {α : Type} [RepC α] (hC : ∀ {w w' : World} {cs : List Value} {x : α}, RepC.C w cs x → RepC.C w' cs x) (h : FrP P w w') {B e : Nat} {v : Value} {acc : List α} (ha : AccInv B e acc v w) (ho : offP P v) : AccInv B e acc v w' :=
  ha.blockN hC fun b hb => h.block b (ha.lt b hb).2 (ho b hb)
end
section
variable {W0 W W' w3 : World} {R fm bm : Nat} {S S' : TS} {kv kv' : Nat → Value}
theorem TW.ownB (h : TW W0 W R fm bm S kv) : ∀ b, Own R fm bm S kv b → W0.heap.size ≤ b ∧ b < W.heap.size := by
  rintro b (rfl | rfl | rfl | ⟨d, hd⟩ | ⟨p, d, hd, hb⟩)
  · obtain ⟨_, _, hb, _⟩ := h.blk
    exact ⟨h.hR, (Array.getElem?_eq_some_iff.1 hb).1⟩
  · obtain ⟨_, _, hm⟩ := h.fn
    exact ⟨h.hf, hm.lt⟩
  · obtain ⟨_, _, hm⟩ := h.bt
    exact ⟨h.hb, hm.lt⟩
  · obtain ⟨h1, _, h3, _⟩ := h.nd b d hd
    exact ⟨h1, (Array.getElem?_eq_some_iff.1 h3).1⟩
  · obtain ⟨_, _, _, h4⟩ := h.nd p d hd
    exact h4.lt b hb
theorem TW.B0 (h : TW W0 W R fm bm S kv) : W0.heap.size ≤ W.heap.size := h.bel.size
theorem NdAt.fr {p : Nat} {d : NdS} {v : Value} (h : NdAt W0 W p d v) {us : List Nat} (hf : Fr us W W') (hp : p ∉ us) (hv : ∀ b, v.ownBlock = some b → b ∉ us) : NdAt W0 W' p d v := by
  obtain ⟨h1, h2, h3, h4⟩ := h
  exact ⟨h1, h2, (hf.block p (Array.getElem?_eq_some_iff.1 h3).1 hp).trans h3, h4.blockN (fun h => h) fun b hb => hf.block b (h4.lt b hb).2 (hv b hb)⟩
/-- other blocks turned -/
theorem TW.fr (h : TW W0 W R fm bm S kv) {us : List Nat} (hf : Fr us W W') (hn : ∀ b ∈ us, ¬ Own R fm bm S kv b) (hu : ∀ b ∈ us, W0.heap.size ≤ b) : TW W0 W' R fm bm S kv := by
  have key : ∀ b, Own R fm bm S kv b → W'.heap[b]? = W.heap[b]? := fun b hb => hf.block b (h.ownB b hb).2 (fun e => hn b e hb)
  refine ⟨h.bel.trans (hf.below h.B0 hu), ?_, ?_, ?_, fun p d hd => ?_, h.sep, h.hR, h.hf, h.hb, h.fb⟩
  · obtain ⟨ra, rc, hb, hr⟩ := h.blk
    exact ⟨ra, rc, (key R (.inl rfl)).trans hb, hr⟩
  · obtain ⟨n, hn, hm⟩ := h.fn
    exact ⟨n, hn, hm.blockM (key fm (.inr (.inl rfl)))⟩
  · obtain ⟨n, hn, hm⟩ := h.bt
    exact ⟨n, hn, hm.blockM (key bm (.inr (.inr (.inl rfl))))⟩
  · exact (h.nd p d hd).fr hf (fun e => hn p e (.inr (.inr (.inr (.inl ⟨d, hd⟩))))) fun b hb e => hn b e (.inr (.inr (.inr (.inr ⟨p, d, hd, hb⟩))))
theorem TW.below (h : TW W0 W R fm bm S kv) (hb : Below W.heap.size W W') : TW W0 W' R fm bm S kv := h.fr (us := []) (Fr.of hb) (by simp) (by simp)
/-- blocks of different kinds are different -/
theorem TW.R_nd (h : TW W0 W R fm bm S kv) {p : Nat} {d : NdS} (hd : S.H p = some d) : p ≠ R := by
  rintro rfl
  obtain ⟨_, _, h3, _⟩ := h.nd p d hd
  obtain ⟨_, _, hb, _⟩ := h.blk
  rw [hb] at h3
  simp at h3
theorem own_type {w : World} {B e : Nat} {v : Value} {acc : List PtN} (h : AccInv B e acc v w) {b : Nat} (hb : v.ownBlock = some b) : ∃ cs, w.heap[b]? = some (.cells cs e (0, 0)) := by
  obtain ⟨vs, ho, _⟩ := h.ex
  rcases ho.2 with ⟨e1, _⟩ | ⟨g, cap, cur, e1, _, hg, _⟩
  · rw [e1] at hb; cases hb
  · rw [e1] at hb; cases hb; exact ⟨cur, hg⟩
theorem map_type {P : Program} {k : TypeId} {w : World} {b n : Nat} {f : Int → Option Value} (h : MapV P k w b n f) : ∃ es c, w.heap[b]? = some (.map es c) := by
  obtain ⟨D, ⟨es, c, h1, _⟩, _⟩ := h.ex
  exact ⟨es, c, h1⟩
theorem TW.kid_ty (h : TW W0 W R fm bm S kv) {p : Nat} {d : NdS} (hd : S.H p = some d) {b : Nat} (hb : (kv p).ownBlock = some b) : ∃ cs, W.heap[b]? = some (.cells cs 223 (0, 0)) := own_type (h.nd p d hd).2.2.2 hb
theorem TW.kid_R (h : TW W0 W R fm bm S kv) {p : Nat} {d : NdS} (hd : S.H p = some d) {b : Nat} (hb : (kv p).ownBlock = some b) : b ≠ R := by
  rintro rfl
  obtain ⟨cs, h1⟩ := h.kid_ty hd hb
  obtain ⟨_, _, h2, _⟩ := h.blk
  rw [h2] at h1
  simp at h1
theorem TW.kid_nd (h : TW W0 W R fm bm S kv) {p : Nat} {d : NdS} (hd : S.H p = some d) {b : Nat} (hb : (kv p).ownBlock = some b) {q : Nat} {dq : NdS} (hq : S.H q = some dq) : b ≠ q := by
  rintro rfl
  obtain ⟨cs, h1⟩ := h.kid_ty hd hb
  obtain ⟨_, _, h2, _⟩ := h.nd b dq hq
  rw [h2] at h1
  simp at h1
theorem TW.kid_map (h : TW W0 W R fm bm S kv) {p : Nat} {d : NdS} (hd : S.H p = some d) {b : Nat} (hb : (kv p).ownBlock = some b) : b ≠ fm ∧ b ≠ bm := by
  obtain ⟨cs, h1⟩ := h.kid_ty hd hb
  obtain ⟨_, _, h2⟩ := h.fn
  obtain ⟨_, _, h3⟩ := h.bt
  obtain ⟨_, _, h2⟩ := map_type h2
  obtain ⟨_, _, h3⟩ := map_type h3
  constructor
  · rintro rfl; rw [h2] at h1; cases h1
  · rintro rfl; rw [h3] at h1; cases h1
theorem TW.nd_map (h : TW W0 W R fm bm S kv) {p : Nat} {d : NdS} (hd : S.H p = some d) : p ≠ fm ∧ p ≠ bm := by
  obtain ⟨_, _, h1, _⟩ := h.nd p d hd
  obtain ⟨_, _, h2⟩ := h.fn
  obtain ⟨_, _, h3⟩ := h.bt
  obtain ⟨_, _, h2⟩ := map_type h2
  obtain ⟨_, _, h3⟩ := map_type h3
  constructor
  · rintro rfl; rw [h2] at h1; cases h1
  · rintro rfl; rw [h3] at h1; cases h1
theorem TW.R_map (h : TW W0 W R fm bm S kv) : R ≠ fm ∧ R ≠ bm := by
  obtain ⟨_, _, h1, _⟩ := h.blk
  obtain ⟨_, _, h2⟩ := h.fn
  obtain ⟨_, _, h3⟩ := h.bt
  obtain ⟨_, _, h2⟩ := map_type h2
  obtain ⟨_, _, h3⟩ := map_type h3
  constructor
  · rintro rfl; rw [h2] at h1; cases h1
  · rintro rfl; rw [h3] at h1; cases h1
/-- the teller's own block turned -/
theorem TW.blkR (h : TW W0 W R fm bm S kv) (hf : Fr [R] W W') {ra : Option Addr} {rc : Nat} {rest : List Ins} {bad : Bool} (hb : W'.heap[R]? = some (.cells #[.slice ra rest.length rc, .map (some fm), .map (some bm), .bool bad] 194 (0, 0))) (hr : Row W0 ra rc rest) (hl : rest.length ≤ S.rest.length) :
    TW W0 W' R fm bm { S with rest := rest, bad := bad } kv ∧ FrP (Own R fm bm S kv) W W' ∧ ∀ b, Own R fm bm { S with rest := rest, bad := bad } kv b → Own R fm bm S kv b ∨ W.heap.size ≤ b := by
  refine ⟨⟨h.bel.trans (hf.below h.B0 (by simp; exact h.hR)), ⟨ra, rc, hb, hr⟩, ?_, ?_, fun p d hd => (h.nd p d hd).fr hf (by simp; exact h.R_nd hd) (fun b hb e => by simp at e; exact h.kid_R hd hb e), h.sep, h.hR, h.hf, h.hb, h.fb⟩, FrP.ofFr hf (by simp; exact .inl (.inl rfl)), fun b hb => .inl hb⟩
  · obtain ⟨n, hn, hm⟩ := h.fn
    exact ⟨n, hn, hm.blockM (hf.block fm hm.lt (by simp; exact fun e => h.R_map.1 e.symm))⟩
  · obtain ⟨n, hn, hm⟩ := h.bt
    exact ⟨n, ⟨hn.1, by have := hn.2; simp only; omega⟩, hm.blockM (hf.block bm hm.lt (by simp; exact fun e => h.R_map.2 e.symm))⟩
end
end Go.Proofs.Ytmmnfkggfnokjaa
set_option linter.unusedVariables false
namespace Go.Proofs.Ytmmnfkggfnokjaa
open Go.RowKit
def updH (H : Nat → Option NdS) (p : Nat) (d : NdS) : Nat → Option NdS := fun b => if b = p then some d else H b
def updV (kv : Nat → Value) (p : Nat) (v : Value) : Nat → Value := fun b => if b = p then v else kv b
theorem updH_at (H : Nat → Option NdS) (p : Nat) (d : NdS) : updH H p d p = some d := by simp [updH]
theorem updH_ne {H : Nat → Option NdS} {p q : Nat} (d : NdS) (h : q ≠ p) : updH H p d q = H q := by simp [updH, h]
theorem updV_at (kv : Nat → Value) (p : Nat) (v : Value) : updV kv p v p = v := by simp [updV]
theorem updV_ne {kv : Nat → Value} {p q : Nat} (v : Value) (h : q ≠ p) : updV kv p v q = kv q := by simp [updV, h]
section
variable {W0 W W' w3 : World} {R fm bm : Nat} {S S' : TS} {kv kv' : Nat → Value}
/-- a node turned: its cell, or its arguments' row -/
theorem TW.upd (h : TW W0 W R fm bm S kv) {p : Nat} {d d' : NdS} {v' : Value} (hd : S.H p = some d) {us : List Nat} (hf : Fr us W W') (hu : ∀ b ∈ us, b = p ∨ (kv p).ownBlock = some b ∨ W.heap.size ≤ b) (hn : NdAt W0 W' p d' v') (hv : v'.ownBlock = (kv p).ownBlock ∨ ∃ b, v'.ownBlock = some b ∧ W.heap.size ≤ b) :
    TW W0 W' R fm bm { S with H := updH S.H p d' } (updV kv p v') ∧ FrP (Own R fm bm S kv) W W' ∧ ∀ b, Own R fm bm { S with H := updH S.H p d' } (updV kv p v') b → Own R fm bm S kv b ∨ W.heap.size ≤ b := by
  have hpo : Own R fm bm S kv p := .inr (.inr (.inr (.inl ⟨d, hd⟩)))
  have huo : ∀ b ∈ us, Own R fm bm S kv b ∨ W.heap.size ≤ b := fun b hb => by
    rcases hu b hb with rfl | e | e
    · exact .inl hpo
    · exact .inl (.inr (.inr (.inr (.inr ⟨p, d, hd, e⟩))))
    · exact .inr e
  have hb0 : ∀ b ∈ us, W0.heap.size ≤ b := fun b hb => by
    rcases huo b hb with e | e
    · exact (h.ownB b e).1
    · have := h.B0; omega
  have off : ∀ {x : Nat}, x < W.heap.size → x ≠ p → (kv p).ownBlock ≠ some x → x ∉ us := fun {x} hx h1 h2 e => by
    rcases hu x e with e | e | e
    · exact h1 e
    · exact h2 e
    · omega
  have hRl := (h.ownB R (.inl rfl)).2
  have hfl := (h.ownB fm (.inr (.inl rfl))).2
  have hbl := (h.ownB bm (.inr (.inr (.inl rfl)))).2
  refine ⟨⟨h.bel.trans (hf.below h.B0 hb0), ?_, ?_, ?_, fun q dq hq => ?_, fun a b da db ha hb hab x hx => ?_, h.hR, h.hf, h.hb, h.fb⟩, FrP.ofFr hf huo, fun b hb => ?_⟩
  · obtain ⟨ra, rc, hb, hr⟩ := h.blk
    exact ⟨ra, rc, (hf.block R hRl (off hRl (fun e => h.R_nd hd e.symm) (fun e => h.kid_R hd e rfl))).trans hb, hr⟩
  · obtain ⟨n, hn, hm⟩ := h.fn
    exact ⟨n, hn, hm.blockM (hf.block fm hfl (off hfl (fun e => (h.nd_map hd).1 e.symm) (fun e => (h.kid_map hd e).1 rfl)))⟩
  · obtain ⟨n, hn, hm⟩ := h.bt
    exact ⟨n, hn, hm.blockM (hf.block bm hbl (off hbl (fun e => (h.nd_map hd).2 e.symm) (fun e => (h.kid_map hd e).2 rfl)))⟩
  · by_cases e : q = p
    · subst e
      simp only [updH_at, Option.some.injEq] at hq
      subst hq
      rw [updV_at]
      exact hn
    · simp only [updH_ne _ e] at hq
      rw [updV_ne _ e]
      have hql := (h.ownB q (.inr (.inr (.inr (.inl ⟨dq, hq⟩))))).2
      refine (h.nd q dq hq).fr hf (off hql e (fun e2 => h.kid_nd hd e2 hq rfl)) fun b hb => ?_
      have hbl := (h.ownB b (.inr (.inr (.inr (.inr ⟨q, dq, hq, hb⟩))))).2
      exact off hbl (h.kid_nd hq hb hd) (fun e2 => h.sep q p dq d hq hd e b hb e2)
  · by_cases ea : a = p
    · subst ea
      have eb : b ≠ a := fun e => hab e.symm
      simp only [updH_ne _ eb] at hb
      rw [updV_at] at hx
      rw [updV_ne _ eb]
      rcases hv with e | ⟨y, e, hy⟩
      · rw [e] at hx
        exact h.sep a b d db hd hb hab x hx
      · intro e2
        have := (h.ownB x (.inr (.inr (.inr (.inr ⟨b, db, hb, e2⟩))))).2
        rw [hx] at e; injection e with e
        omega
    · simp only [updH_ne _ ea] at ha
      rw [updV_ne _ ea] at hx
      by_cases eb : b = p
      · subst eb
        rw [updV_at]
        rcases hv with e | ⟨y, e, hy⟩
        · rw [e]; exact h.sep a b da d ha hd hab x hx
        · intro e2
          have := (h.ownB x (.inr (.inr (.inr (.inr ⟨a, da, ha, hx⟩))))).2
          rw [e2] at e; injection e with e
          omega
      · simp only [updH_ne _ eb] at hb
        rw [updV_ne _ eb]
        exact h.sep a b da db ha hb hab x hx
  · rcases hb with rfl | rfl | rfl | ⟨dq, hq⟩ | ⟨q, dq, hq, hb⟩
    · exact .inl (.inl rfl)
    · exact .inl (.inr (.inl rfl))
    · exact .inl (.inr (.inr (.inl rfl)))
    · by_cases e : b = p
      · exact .inl (e ▸ hpo)
      · simp only [updH_ne _ e] at hq
        exact .inl (.inr (.inr (.inr (.inl ⟨dq, hq⟩))))
    · by_cases e : q = p
      · subst e
        rw [updV_at] at hb
        rcases hv with e | ⟨y, e, hy⟩
        · exact .inl (.inr (.inr (.inr (.inr ⟨q, d, hd, by rw [← e]; exact hb⟩))))
        · rw [hb] at e; injection e with e
          exact .inr (by omega)
      · simp only [updH_ne _ e] at hq
        rw [updV_ne _ e] at hb
        exact .inl (.inr (.inr (.inr (.inr ⟨q, dq, hq, hb⟩))))
/-- a new node -/
theorem TW.newN (h : TW W0 W R fm bm S kv) (c : Cel) (hc : c.fit) : TW W0 (W.alloc (.cells #[.int .i64 c.k, .string c.s, .int .i64 c.n, .slice none 0 0] 227)) R fm bm { S with H := updH S.H W.heap.size ⟨c, []⟩ } (updV kv W.heap.size (.slice none 0 0)) ∧ ∀ b, Own R fm bm { S with H := updH S.H W.heap.size ⟨c, []⟩ } (updV kv W.heap.size (.slice none 0 0)) b → Own R fm bm S kv b ∨ W.heap.size ≤ b := by
  have h1 := h.below ((Below.refl W.heap.size W).new (.cells #[.int .i64 c.k, .string c.s, .int .i64 c.n, .slice none 0 0] 227))
  have hno : ∀ {q : Nat} {dq : NdS}, S.H q = some dq → q ≠ W.heap.size := fun {q dq} hq e => by
    have := (h.ownB q (.inr (.inr (.inr (.inl ⟨dq, hq⟩))))).2
    omega
  refine ⟨⟨h1.bel, h1.blk, h1.fn, h1.bt, fun q dq hq => ?_, fun a b da db ha hb hab x hx => ?_, h.hR, h.hf, h.hb, h.fb⟩, fun b hb => ?_⟩
  · by_cases e : q = W.heap.size
    · subst e
      simp only [updH_at, Option.some.injEq] at hq
      subst hq
      rw [updV_at]
      exact ⟨h.B0, hc, heap_alloc_new _ _, AccInv.nil _ _ _⟩
    · simp only [updH_ne _ e] at hq
      rw [updV_ne _ e]
      exact h1.nd q dq hq
  · by_cases ea : a = W.heap.size
    · subst ea
      rw [updV_at] at hx
      cases hx
    · simp only [updH_ne _ ea] at ha
      rw [updV_ne _ ea] at hx
      by_cases eb : b = W.heap.size
      · subst eb
        rw [updV_at]
        intro e; cases e
      · simp only [updH_ne _ eb] at hb
        rw [updV_ne _ eb]
        exact h.sep a b da db ha hb hab x hx
  · rcases hb with rfl | rfl | rfl | ⟨dq, hq⟩ | ⟨q, dq, hq, hb⟩
    · exact .inl (.inl rfl)
    · exact .inl (.inr (.inl rfl))
    · exact .inl (.inr (.inr (.inl rfl)))
    · by_cases e : b = W.heap.size
      · exact .inr (by omega)
      · simp only [updH_ne _ e] at hq
        exact .inl (.inr (.inr (.inr (.inl ⟨dq, hq⟩))))
    · by_cases e : q = W.heap.size
      · subst e
        rw [updV_at] at hb
        cases hb
      · simp only [updH_ne _ e] at hq
        rw [updV_ne _ e] at hb
        exact .inl (.inr (.inr (.inr (.inr ⟨q, dq, hq, hb⟩))))
/-- the map of what is built turned -/
theorem TW.blkB (h : TW W0 W R fm bm S kv) (hf : Fr [bm] W W') {built : Int → Option Nat} {n nb : Nat} (hn : n ≤ nb ∧ S.rest.length ≤ 100000) (hm : MapV Try.prog 3 W' bm n (MapP built)) :
    TW W0 W' R fm bm { S with built := built, nb := nb } kv ∧ FrP (Own R fm bm S kv) W W' ∧ ∀ b, Own R fm bm { S with built := built, nb := nb } kv b → Own R fm bm S kv b ∨ W.heap.size ≤ b := by
  refine ⟨⟨h.bel.trans (hf.below h.B0 (by simp; exact h.hb)), ?_, ?_, ⟨n, hn, hm⟩, fun p d hd => (h.nd p d hd).fr hf (by simp; exact (h.nd_map hd).2) (fun b hb e => by simp at e; exact (h.kid_map hd hb).2 e), h.sep, h.hR, h.hf, h.hb, h.fb⟩, FrP.ofFr hf (by simp; exact .inl (.inr (.inr (.inl rfl)))), fun b hb => .inl hb⟩
  · obtain ⟨ra, rc, hb, hr⟩ := h.blk
    exact ⟨ra, rc, (hf.block R (h.ownB R (.inl rfl)).2 (by simp; exact h.R_map.2)).trans hb, hr⟩
  · obtain ⟨n, hn, hm⟩ := h.fn
    exact ⟨n, hn, hm.blockM (hf.block fm hm.lt (by simp; exact h.fb))⟩
/-- the map of Funs turned -/
theorem TW.blkF (h : TW W0 W R fm bm S kv) (hf : Fr [fm] W W') {funs : Int → Bool} {n : Nat} (hn : n ≤ 100000) (hm : MapV Try.prog 3 W' fm n (MapF funs)) :
    TW W0 W' R fm bm { S with funs := funs } kv ∧ FrP (Own R fm bm S kv) W W' ∧ ∀ b, Own R fm bm { S with funs := funs } kv b → Own R fm bm S kv b ∨ W.heap.size ≤ b := by
  refine ⟨⟨h.bel.trans (hf.below h.B0 (by simp; exact h.hf)), ?_, ⟨n, hn, hm⟩, ?_, fun p d hd => (h.nd p d hd).fr hf (by simp; exact (h.nd_map hd).1) (fun b hb e => by simp at e; exact (h.kid_map hd hb).1 e), h.sep, h.hR, h.hf, h.hb, h.fb⟩, FrP.ofFr hf (by simp; exact .inl (.inr (.inl rfl))), fun b hb => .inl hb⟩
  · obtain ⟨ra, rc, hb, hr⟩ := h.blk
    exact ⟨ra, rc, (hf.block R (h.ownB R (.inl rfl)).2 (by simp; exact h.R_map.1)).trans hb, hr⟩
  · obtain ⟨n, hn, hm⟩ := h.bt
    exact ⟨n, hn, hm.blockM (hf.block bm hm.lt (by simp; exact fun e => h.fb e.symm))⟩
theorem TW.cR (h : TW W0 W R fm bm S kv) : ∃ ra rc, W.cell? ⟨R, 0, none⟩ = some (.slice ra S.rest.length rc) ∧ W.cell? ⟨R, 1, none⟩ = some (.map (some fm)) ∧ W.cell? ⟨R, 2, none⟩ = some (.map (some bm)) ∧ W.cell? ⟨R, 3, none⟩ = some (.bool S.bad) ∧ (∀ j, W.frozen? ⟨R, j, none⟩ = false) ∧ Row W0 ra rc S.rest := by
  obtain ⟨ra, rc, hb, hr⟩ := h.blk
  exact ⟨ra, rc, by rw [cell_of_row W R 0 _ _ _ hb]; rfl, by rw [cell_of_row W R 1 _ _ _ hb]; rfl, by rw [cell_of_row W R 2 _ _ _ hb]; rfl, by rw [cell_of_row W R 3 _ _ _ hb]; rfl, fun j => by simp [World.frozen?, hb], hr⟩
theorem TW.cN (h : TW W0 W R fm bm S kv) {p : Nat} {d : NdS} (hd : S.H p = some d) : W.cell? ⟨p, 0, none⟩ = some (.int .i64 d.c.k) ∧ W.cell? ⟨p, 1, none⟩ = some (.string d.c.s) ∧ W.cell? ⟨p, 2, none⟩ = some (.int .i64 d.c.n) ∧ W.cell? ⟨p, 3, none⟩ = some (kv p) ∧ (∀ j, W.frozen? ⟨p, j, none⟩ = false) := by
  obtain ⟨_, _, hb, _⟩ := h.nd p d hd
  exact ⟨by rw [cell_of_row W p 0 _ _ _ hb]; rfl, by rw [cell_of_row W p 1 _ _ _ hb]; rfl, by rw [cell_of_row W p 2 _ _ _ hb]; rfl, by rw [cell_of_row W p 3 _ _ _ hb]; rfl, fun j => by simp [World.frozen?, hb]⟩
end
/-- what a method of the teller makes of it -/
def TPost (W0 w : World) (R fm bm : Nat) (S : TS) (kv : Nat → Value) (S' : TS) (r : Value) (e : Ending) (W' : World) : Prop :=
  e = .returned r ∧ ∃ kv', TW W0 W' R fm bm S' kv' ∧ FrP (Own R fm bm S kv) w W' ∧ ∀ b, Own R fm bm S' kv' b → Own R fm bm S kv b ∨ w.heap.size ≤ b
end Go.Proofs.Ytmmnfkggfnokjaa
set_option linter.unusedVariables false
namespace Go.Proofs.Ytmmnfkggfnokjaa
open Go.RowKit
def zeroI : Ins := ⟨0, 0, 0, ⟨#[]⟩, 0, false⟩
def nextI (l : List Ins) : Ins := l.headD zeroI
theorem Row.tailN {w : World} {g off cap : Nat} {x : Ins} {xs : List Ins} (h : Row w (some ⟨g, off, none⟩) cap (x :: xs)) {off' : Nat} (ho : off' = off + 6 ∨ cap - 1 = 0 ∧ off' = off) : Row w (some ⟨g, off', none⟩) (cap - 1) xs := by
  have hle := h.le
  have hmx := h.max
  simp only [List.length_cons] at hle
  refine ⟨by omega, by omega, (fun e => by cases e), fun i y hi => ?_⟩
  obtain ⟨b, o, e, hE⟩ := h.at_ (i + 1) y (by rw [List.getElem?_cons_succ]; exact hi)
  cases e
  rcases ho with rfl | ⟨h0, rfl⟩
  · refine ⟨g, off + 6, rfl, ?_⟩
    rw [show Rep.sz Ins = 6 from rfl] at hE ⊢
    rw [show off + 6 + i * 6 = off + (i + 1) * 6 by omega]
    exact hE
  · have : xs = [] := List.eq_nil_of_length_eq_zero (by omega)
    rw [this] at hi
    simp at hi
theorem funC_any (w : World) (i : Ins) : Calls Try.prog 193 #[i.v] w fun e w' => e = .returned (.agg #[.int .i64 3, .string i.s, .int .i64 i.n]) ∧ Below w.heap.size w w' := by
  have hb := ((Below.refl w.heap.size w).new (.cells #[.int .i64 i.op, .int .i64 i.x, .int .i64 i.a, .string i.s, .int .i64 i.n, .bool i.neg] 90)).new (.cells #[.int .i64 3, .string i.s, .int .i64 i.n] 79)
  go_enter Try.func193, Try.ntmps193
  dsimp only [Ins.v]
  go_wp2
  exact bodyPost_ret (v := .agg #[.int .i64 3, .string i.s, .int .i64 i.n]) (by simp [results, Try.results193, go_sem]) rfl ⟨rfl, hb⟩
theorem varC_any (w : World) (i : Ins) : Calls Try.prog 216 #[i.v] w fun e w' => e = .returned (.agg #[.int .i64 1, .string ⟨#[]⟩, .int .i64 i.x]) ∧ Below w.heap.size w w' := by
  have hb := ((Below.refl w.heap.size w).new (.cells #[.int .i64 i.op, .int .i64 i.x, .int .i64 i.a, .string i.s, .int .i64 i.n, .bool i.neg] 90)).new (.cells #[.int .i64 1, .string ⟨#[]⟩, .int .i64 i.x] 79)
  go_enter Try.func216, Try.ntmps216
  dsimp only [Ins.v]
  go_wp2
  exact bodyPost_ret (v := .agg #[.int .i64 1, .string ⟨#[]⟩, .int .i64 i.x]) (by simp [results, Try.results216, go_sem]) rfl ⟨rfl, hb⟩
theorem intC_any (w : World) (i : Ins) : Calls Try.prog 217 #[i.v] w fun e w' => e = .returned (.agg #[.int .i64 2, .string ⟨#[]⟩, .int .i64 i.n]) ∧ Below w.heap.size w w' := by
  have hb := ((Below.refl w.heap.size w).new (.cells #[.int .i64 i.op, .int .i64 i.x, .int .i64 i.a, .string i.s, .int .i64 i.n, .bool i.neg] 90)).new (.cells #[.int .i64 2, .string ⟨#[]⟩, .int .i64 i.n] 79)
  go_enter Try.func217, Try.ntmps217
  dsimp only [Ins.v]
  go_wp2
  exact bodyPost_ret (v := .agg #[.int .i64 2, .string ⟨#[]⟩, .int .i64 i.n]) (by simp [results, Try.results217, go_sem]) rfl ⟨rfl, hb⟩
set_option maxRecDepth 100000 in
set_option maxHeartbeats 3200000 in
theorem next_nil (W0 w : World) (R fm bm : Nat) (S : TS) (kv : Nat → Value) (hT : TW W0 w R fm bm S kv) (h0 : S.rest = []) :
    Calls Try.prog 196 #[.pointer (some ⟨R, 0, none⟩)] w (TPost W0 w R fm bm S kv S zeroI.v) := by
  obtain ⟨ra, rc, c0, c1, c2, c3, fz, hr⟩ := hT.cR
  rw [h0] at c0
  have hb := (Below.refl w.heap.size w).new (.cells #[.int .i64 0, .int .i64 0, .int .i64 0, .string ⟨#[]⟩, .int .i64 0, .bool false] 90)
  have HT := mkHid hT
  have d0 := keep c0 hb
  clear hT hr h0 fz
  go_enter Try.func196, Try.ntmps196
  go_wp2_with fail
  refine bodyPost_ret (v := zeroI.v) (by simp [results, Try.results196, go_sem, zeroI]) rfl ⟨rfl, kv, HT.out.below hb, FrP.of hb, fun b hb => .inl hb⟩
set_option maxRecDepth 100000 in
set_option maxHeartbeats 3200000 in
theorem next_cons (W0 w : World) (R fm bm : Nat) (S : TS) (kv : Nat → Value) (hT : TW W0 w R fm bm S kv) (i : Ins) (l : List Ins) (h0 : S.rest = i :: l) :
    Calls Try.prog 196 #[.pointer (some ⟨R, 0, none⟩)] w (TPost W0 w R fm bm S kv { S with rest := l } i.v) := by
  obtain ⟨ra, rc, c0, c1, c2, c3, fz, hr⟩ := hT.cR
  rw [h0] at c0 hr
  have hle := hr.le
  have hmx := hr.max
  simp only [List.length_cons] at hle c0
  obtain ⟨b, off, rfl, hE⟩ := hr.at_ 0 i rfl
  rw [Nat.zero_mul, Nat.add_zero] at hE
  obtain ⟨i0, i1, i2, i3, i4, i5, hfit⟩ : InsE _ _ _ _ := hE
  have HLR : Hid (S.rest.length = l.length + 1) := by rw [Hid, h0]; rfl
  have hRl := (hT.ownB R (.inl rfl)).2
  have HT := mkHid hT
  have hbl := hT.bel
  have hbN := (Below.refl w.heap.size w).new (.cells #[.int .i64 0, .int .i64 0, .int .i64 0, .string ⟨#[]⟩, .int .i64 0, .bool false] 90)
  have d0 := keep c0 hbN
  have j0 := keep (keep i0 hbl) hbN
  have j1 := keep (keep i1 hbl) hbN
  have j2 := keep (keep i2 hbl) hbN
  have j3 := keep (keep i3 hbl) hbN
  have j4 := keep (keep i4 hbl) hbN
  have j5 := keep (keep i5 hbl) hbN
  have f0 := fz 0
  have HR := mkHid hr
  clear hT hr h0 hbN hbl i0 i1 i2 i3 i4 i5 fz c1 c2 c3
  have hR2 : Hid (∀ {ra : Option Addr} {rc : Nat}, Row W0 ra rc l → TPost W0 w R fm bm S kv { S with rest := l } i.v (.returned i.v) (((w.setCell ⟨R, 0, none⟩ (.slice ra l.length rc)).alloc (.cells #[.int .i64 i.op, .int .i64 i.x, .int .i64 i.a, .string i.s, .int .i64 i.n, .bool i.neg] 90)).alloc (.cells #[.int .i64 i.op, .int .i64 i.x, .int .i64 i.a, .string i.s, .int .i64 i.n, .bool i.neg] 90))) := fun {ra rc} hrow => by
    have hf : Fr [R] w (w.setCell ⟨R, 0, none⟩ (.slice ra l.length rc)) := (Fr.refl _ _).set (by simp) _
    obtain ⟨qa, qc, hq, _⟩ := HT.out.blk
    have hb' : (w.setCell ⟨R, 0, none⟩ (.slice ra l.length rc)).heap[R]? = some (.cells #[.slice ra l.length rc, .map (some fm), .map (some bm), .bool S.bad] 194 (0, 0)) := by
      simp only [World.setCell, Array.getElem?_modify, if_true, hq, Option.map_some]
      simp
    obtain ⟨h1, h2, h3⟩ := HT.out.blkR hf hb' hrow (by have := HLR.out; omega)
    have hb2 := ((Below.refl (w.setCell ⟨R, 0, none⟩ (.slice ra l.length rc)).heap.size (w.setCell ⟨R, 0, none⟩ (.slice ra l.length rc))).new (.cells #[.int .i64 i.op, .int .i64 i.x, .int .i64 i.a, .string i.s, .int .i64 i.n, .bool i.neg] 90)).new (.cells #[.int .i64 i.op, .int .i64 i.x, .int .i64 i.a, .string i.s, .int .i64 i.n, .bool i.neg] 90)
    exact ⟨rfl, kv, h1.below hb2, h2.trans h3 (FrP.of hb2), h3⟩
  by_cases hc : rc = 1
  · subst hc
    have hl0 : l = [] := List.eq_nil_of_length_eq_zero (by omega)
    have HP := mkHid (hR2.out (HR.out.tailN (off' := off) (.inr ⟨rfl, rfl⟩)))
    rw [hl0] at HP
    have HL0 := mkHid hl0
    clear hl0 hR2
    go_enter Try.func196, Try.ntmps196
    go_wp2_with fail
    refine bodyPost_ret (v := i.v) (by simp [results, Try.results196, go_sem]) rfl ?_
    rw [HL0.out]
    exact HP.out
  · have HP := mkHid (hR2.out (HR.out.tailN (off' := off + 6) (.inl rfl)))
    clear hR2
    go_enter Try.func196, Try.ntmps196
    go_wp2_with fail
    refine bodyPost_ret (v := i.v) (by simp [results, Try.results196, go_sem]) rfl ?_
    exact HP.out
theorem next_any (W0 w : World) (R fm bm : Nat) (S : TS) (kv : Nat → Value) (hT : TW W0 w R fm bm S kv) :
    Calls Try.prog 196 #[.pointer (some ⟨R, 0, none⟩)] w (TPost W0 w R fm bm S kv { S with rest := S.rest.tail } (nextI S.rest).v) := by
  cases h : S.rest with
  | nil =>
    have e : ({ S with rest := ([] : List Ins).tail } : TS) = S := by cases S; simp_all
    rw [e]
    exact next_nil W0 w R fm bm S kv hT h
  | cons i l => exact next_cons W0 w R fm bm S kv hT i l h
end Go.Proofs.Ytmmnfkggfnokjaa
set_option linter.unusedVariables false
namespace Go.Proofs.Ytmmnfkggfnokjaa
open Go.RowKit
/-- an append of one element, which tells which block turned and where the row lies -/
theorem wpList_accN {α : Type} [RepC α] {P : Program} {w : World} {ops : Array Oper} {rest : List Oper} {o : Oper} {a : Act} {Q : Exit → Act → World → Prop} (hgd : o.guard = none) (s x : Operand) (t : TypeId)
    (ho : o.op = .call { callee := .builtin .append, args := #[s, x], argTypes := #[t, t] })
    (B e bytes : Nat) (z : Value) (ht : P.underlying t = some (.slice e)) (hinfo : (P.info? e).map (fun i => (i.zero, i.size, i.bytes)) = some (some z, Rep.sz α, bytes))
    (hzs : z.cells.size = Rep.sz α) (hby : bytes ≤ 1000)
    (v : Value) (acc : List α) (hacc : AccInv B e acc v w) (hs : a.eval s = v) (T : Nat) (cs : Array Value) (y : α) (hcs : RepC.C (hide v.ownBlock w) cs.toList y)
    (hx : a.eval x = .slice (some ⟨w.heap.size, 0, none⟩) 1 1)
    (hmax : acc.length + 1 ≤ 1000000000) (hB : B ≤ w.heap.size)
    (h : ∀ v' w', AccInv B e (acc ++ [y]) v' w' → (w.alloc (.cells cs T)).grownBy w' v.ownBlock → (v'.ownBlock = v.ownBlock ∨ v'.ownBlock = some (w.heap.size + 1)) → wpList P ops Q rest (a.put o.dst v') w') : wpList P ops Q (o :: rest) a (w.alloc (.cells cs T)) := by
  refine wpList_plain hgd fun K hK => ?_
  obtain ⟨v', w', hr, h2, h3, h4⟩ := AccInv.run_pushN (P := P) (w := w) t o.type B e bytes z ht hinfo hzs hby v acc hacc T cs y hcs hmax hB
  unfold Oper.wp execOp
  simp only [ho, resolve, invoke, builtin, Sem.run_bind, Sem.run_pure, Result.andThen_ok, List.map_toArray, List.map_cons, List.map_nil, hs, hx, hr]
  exact hK _ _ (h v' w' h2 h3 h4)
section
variable {W0 W W' w3 : World} {R fm bm : Nat} {S S' : TS} {kv kv' : Nat → Value}
/-- a node has one argument more -/
theorem TW.push (h : TW W0 W R fm bm S kv) {p : Nat} {d : NdS} (hd : S.H p = some d) {k : PtN} {v' : Value} {T : Nat} {cs : Array Value} (ha : AccInv W0.heap.size 223 (d.ks ++ [k]) v' w3) (hg : (W.alloc (.cells cs T)).grownBy w3 (kv p).ownBlock) (hw : v'.ownBlock = (kv p).ownBlock ∨ v'.ownBlock = some (W.heap.size + 1)) :
    (TW W0 (w3.setCell ⟨p, 3, none⟩ v') R fm bm { S with H := updH S.H p ⟨d.c, d.ks ++ [k]⟩ } (updV kv p v') ∧ FrP (Own R fm bm S kv) W (w3.setCell ⟨p, 3, none⟩ v') ∧ ∀ b, Own R fm bm { S with H := updH S.H p ⟨d.c, d.ks ++ [k]⟩ } (updV kv p v') b → Own R fm bm S kv b ∨ W.heap.size ≤ b) ∧ w3.heap[p]? = W.heap[p]? := by
  obtain ⟨n1, n2, n3, n4⟩ := h.nd p d hd
  have hpl := (Array.getElem?_eq_some_iff.1 n3).1
  have hf0 : Fr (kv p).ownBlock.toList W w3 := ((Fr.of ((Below.refl _ _).new _)).trans (grown_frN hg) |>.sub (by simp))
  have hkp : (kv p).ownBlock ≠ some p := fun e => h.kid_nd hd e hd rfl
  have ep := hf0.block p hpl (by simp; exact hkp)
  have hvp : v'.ownBlock ≠ some p := by
    rcases hw with e | e
    · rw [e]; exact hkp
    · rw [e]; intro e2; injection e2 with e2; omega
  refine ⟨h.upd hd (us := p :: (kv p).ownBlock.toList) ?_ ?_ ⟨n1, n2, ?_, ha.blockN (fun h => h) fun b hb => Below.heap_setCell w3 ⟨p, 3, none⟩ _ b (fun e => hvp (by rw [hb, show b = p from e]))⟩ ?_, ep⟩
  · exact (hf0.sub fun k hk => List.mem_cons_of_mem _ hk).set (by simp) _
  · intro b hb
    rcases List.mem_cons.1 hb with e | e
    · exact .inl e
    · exact .inr (.inl (by simpa using e))
  · have hb := ep.trans n3
    simp only [World.setCell, Array.getElem?_modify, if_true, hb, Option.map_some]
    simp
  · rcases hw with e | e
    · exact .inl e
    · exact .inr ⟨_, e, by omega⟩
/-- a node's cell is laid -/
theorem TW.cellSet (h : TW W0 W R fm bm S kv) {p : Nat} {d : NdS} (hd : S.H p = some d) {c : Cel} (hc : c.fit) :
    TW W0 (((W.setCell ⟨p, 0, none⟩ (.int .i64 c.k)).setCell ⟨p, 1, none⟩ (.string c.s)).setCell ⟨p, 2, none⟩ (.int .i64 c.n)) R fm bm { S with H := updH S.H p ⟨c, d.ks⟩ } (updV kv p (kv p)) ∧ FrP (Own R fm bm S kv) W (((W.setCell ⟨p, 0, none⟩ (.int .i64 c.k)).setCell ⟨p, 1, none⟩ (.string c.s)).setCell ⟨p, 2, none⟩ (.int .i64 c.n)) ∧ ∀ b, Own R fm bm { S with H := updH S.H p ⟨c, d.ks⟩ } (updV kv p (kv p)) b → Own R fm bm S kv b ∨ W.heap.size ≤ b := by
  obtain ⟨n1, n2, n3, n4⟩ := h.nd p d hd
  have hf : Fr [p] W (((W.setCell ⟨p, 0, none⟩ (.int .i64 c.k)).setCell ⟨p, 1, none⟩ (.string c.s)).setCell ⟨p, 2, none⟩ (.int .i64 c.n)) := (((Fr.refl _ _).set (by simp) _).set (by simp) _).set (by simp) _
  refine h.upd hd hf (by simp) ⟨n1, hc, ?_, n4.blockN (fun h => h) fun b hb => hf.block b (n4.lt b hb).2 (by simp; exact h.kid_nd hd hb hd)⟩ (.inl rfl)
  simp [World.setCell, Array.getElem?_modify, n3, Option.map_some]
theorem TW.kid_lit (h : TW W0 W R fm bm S kv) {p : Nat} {d : NdS} (hd : S.H p = some d) : ∃ a cap, kv p = .slice a d.ks.length cap ∧ d.ks.length ≤ cap ∧ cap ≤ 9223372036854775807 := by
  obtain ⟨_, _, _, n4⟩ := h.nd p d hd
  obtain ⟨a, cap, e, hr⟩ := n4.row
  exact ⟨a, cap, e, hr.le, hr.max⟩
theorem TW.setBad (h : TW W0 W R fm bm S kv) : TW W0 (W.setCell ⟨R, 3, none⟩ (.bool true)) R fm bm { S with bad := true } kv ∧ FrP (Own R fm bm S kv) W (W.setCell ⟨R, 3, none⟩ (.bool true)) ∧ ∀ b, Own R fm bm { S with bad := true } kv b → Own R fm bm S kv b ∨ W.heap.size ≤ b := by
  have hf : Fr [R] W (W.setCell ⟨R, 3, none⟩ (.bool true)) := (Fr.refl _ _).set (by simp) _
  obtain ⟨ra, rc, hq, hr⟩ := h.blk
  refine h.blkR (rest := S.rest) hf (ra := ra) (rc := rc) ?_ hr (Nat.le_refl _)
  simp only [World.setCell, Array.getElem?_modify, if_true, hq, Option.map_some]
  simp
end
/-! ### the arguments that a head's Fun is told -/
def varI (i : Ins) : Cel := ⟨1, ⟨#[]⟩, i.x⟩
def intI (i : Ins) : Cel := ⟨2, ⟨#[]⟩, i.n⟩
def funI (i : Ins) : Cel := ⟨3, i.s, i.n⟩
def unisM (funs : Int → Bool) : Nat → List Ins → List (Cel × Bool) × List Ins × Bool
  | 0, l => ([], l, false)
  | m + 1, l =>
    if (nextI l).op = 5 then ((varI (nextI l), funs (nextI l).x) :: (unisM funs m l.tail).1, (unisM funs m l.tail).2)
    else if (nextI l).op = 6 then ((varI (nextI l), false) :: (unisM funs m l.tail).1, (unisM funs m l.tail).2)
    else if (nextI l).op = 7 then ((intI (nextI l), false) :: (unisM funs m l.tail).1, (unisM funs m l.tail).2)
    else ([(zeroC, false)], l.tail, true)
/-- new leaves, the arguments of a node that had none -/
structure KidsOf (H H' : Nat → Option NdS) (p : Nat) (c : Cel) (qs : List Nat) (cs : List Cel) (B : Nat) : Prop where
  at_ : H' p = some ⟨c, qs.map PtN.mk⟩
  len : qs.length = cs.length
  leaf : ∀ (k : Nat) (q : Nat), qs[k]? = some q → ∃ d, cs[k]? = some d ∧ H' q = some ⟨d, []⟩
  other : ∀ b, b ≠ p → b ∉ qs → H' b = H b
  new : ∀ q ∈ qs, B ≤ q
  pB : p < B
  nodup : qs.Nodup
theorem KidsOf.nil {H : Nat → Option NdS} {p : Nat} {c : Cel} {B : Nat} (h : H p = some ⟨c, []⟩) (hp : p < B) : KidsOf H H p c [] [] B := ⟨h, rfl, fun k q hq => by simp at hq, fun _ _ _ => rfl, fun q hq => (by cases hq), hp, List.nodup_nil⟩
theorem KidsOf.snoc {H H' : Nat → Option NdS} {p q : Nat} {c d : Cel} {qs : List Nat} {cs : List Cel} {B : Nat} (h : KidsOf H H' p c qs cs B) (hq : B ≤ q) (hn : q ∉ qs) : KidsOf H (updH (updH (updH H' q ⟨zeroC, []⟩) p ⟨c, qs.map PtN.mk ++ [⟨q⟩]⟩) q ⟨d, []⟩) p c (qs ++ [q]) (cs ++ [d]) B := by
  have hpq : p ≠ q := by have := h.pB; omega
  refine ⟨?_, by simp [h.len], fun k x hx => ?_, fun b h1 h2 => ?_, fun x hx => ?_, h.pB, ?_⟩
  · rw [updH_ne _ hpq, updH_at]; simp
  · by_cases hk : k < qs.length
    · rw [List.getElem?_append_left hk] at hx
      obtain ⟨e, he, hH⟩ := h.leaf k x hx
      have hm : x ∈ qs := List.mem_of_getElem? hx
      have h1 : x ≠ q := fun e => hn (e ▸ hm)
      have h2 : x ≠ p := by have := h.new x hm; have := h.pB; omega
      refine ⟨e, by rw [List.getElem?_append_left (by rw [← h.len]; exact hk)]; exact he, ?_⟩
      rw [updH_ne _ h1, updH_ne _ h2, updH_ne _ h1]; exact hH
    · rw [List.getElem?_append_right (by omega)] at hx
      have hk0 : k - qs.length = 0 := by
        by_cases e : k - qs.length = 0
        · exact e
        · rw [List.getElem?_eq_none (by simp; omega)] at hx; cases hx
      rw [hk0] at hx
      simp at hx
      subst hx
      refine ⟨d, ?_, updH_at _ _ _⟩
      rw [List.getElem?_append_right (by rw [← h.len]; omega), ← h.len, hk0]; rfl
  · have h3 : b ≠ q := fun e => h2 (by simp [e])
    rw [updH_ne _ h3, updH_ne _ h1, updH_ne _ h3]
    exact h.other b h1 (fun e => h2 (by simp [e]))
  · rcases List.mem_append.1 hx with hx | hx
    · exact h.new x hx
    · simp at hx; rw [hx]; exact hq
  · rw [List.nodup_append]
    exact ⟨h.nodup, by simp, fun a ha b hb e => by simp at hb; exact hn (by rw [← hb, ← e]; exact ha)⟩
/-- those of the new leaves that are still to be told -/
def opensOf : List Nat → List Bool → List Nat
  | q :: qs, b :: bs => if b = true then q :: opensOf qs bs else opensOf qs bs
  | _, _ => []
theorem opensOf_snoc : ∀ (qs : List Nat) (bs : List Bool) (q : Nat) (b : Bool), qs.length = bs.length → opensOf (qs ++ [q]) (bs ++ [b]) = opensOf qs bs ++ (if b = true then [q] else [])
  | [], [], q, b, _ => by simp [opensOf]
  | [], _ :: _, _, _, h => by simp at h
  | _ :: _, [], _, _, h => by simp at h
  | x :: qs, y :: bs, q, b, h => by
    simp only [List.cons_append, opensOf]
    rw [opensOf_snoc qs bs q b (by simpa using h)]
    split <;> rfl
theorem opensOf_len : ∀ (qs : List Nat) (bs : List Bool), (opensOf qs bs).length ≤ qs.length
  | [], bs => by simp [opensOf]
  | x :: qs, [] => by simp [opensOf]
  | x :: qs, y :: bs => by
    have := opensOf_len qs bs
    simp only [opensOf, List.length_cons]
    split
    · simp only [List.length_cons]; omega
    · omega
theorem unisM_step (funs : Int → Bool) (m : Nat) (l : List Ins) : unisM funs (m + 1) l = if (nextI l).op = 5 then ((varI (nextI l), funs (nextI l).x) :: (unisM funs m l.tail).1, (unisM funs m l.tail).2)
    else if (nextI l).op = 6 then ((varI (nextI l), false) :: (unisM funs m l.tail).1, (unisM funs m l.tail).2)
    else if (nextI l).op = 7 then ((intI (nextI l), false) :: (unisM funs m l.tail).1, (unisM funs m l.tail).2)
    else ([(zeroC, false)], l.tail, true) := rfl
end Go.Proofs.Ytmmnfkggfnokjaa
set_option linter.unusedVariables false
namespace Go.Proofs.Ytmmnfkggfnokjaa
open Go.RowKit
/-- what the teller's unify makes -/
def UTPost (W0 w : World) (R fm bm : Nat) (S : TS) (kv : Nat → Value) (p : Nat) (c : Cel) (r : List (Cel × Bool) × List Ins × Bool) (e : Ending) (W' : World) : Prop :=
  ∃ (qs : List Nat) (vo : Value) (kv' : Nat → Value) (H' : Nat → Option NdS), e = .returned vo ∧ TW W0 W' R fm bm { S with rest := r.2.1, bad := r.2.2, H := H' } kv' ∧ KidsOf S.H H' p c qs (r.1.map Prod.fst) w.heap.size ∧ AccInv w.heap.size 223 ((opensOf qs (r.1.map Prod.snd)).map PtN.mk) vo W' ∧
    offP (Own R fm bm { S with rest := r.2.1, bad := r.2.2, H := H' } kv') vo ∧ FrP (Own R fm bm S kv) w W' ∧ ∀ b, Own R fm bm { S with rest := r.2.1, bad := r.2.2, H := H' } kv' b → Own R fm bm S kv b ∨ w.heap.size ≤ b
structure UTGo (W0 w : World) (R fm bm : Nat) (S : TS) (kv : Nat → Value) (p : Nat) (c : Cel) (done : List (Cel × Bool)) (rest : List Ins) (bad : Bool) (qs : List Nat) (H' : Nat → Option NdS) (kv' : Nat → Value) (vo : Value) (W : World) : Prop where
  tw : TW W0 W R fm bm { S with rest := rest, bad := bad, H := H' } kv'
  kid : KidsOf S.H H' p c qs (done.map Prod.fst) w.heap.size
  op : AccInv w.heap.size 223 ((opensOf qs (done.map Prod.snd)).map PtN.mk) vo W
  off : offP (Own R fm bm { S with rest := rest, bad := bad, H := H' } kv') vo
  fr : FrP (Own R fm bm S kv) w W
  new : ∀ b, Own R fm bm { S with rest := rest, bad := bad, H := H' } kv' b → Own R fm bm S kv b ∨ w.heap.size ≤ b
  w0 : W0.heap.size ≤ w.heap.size
/-- the teller went on -/
theorem UTGo.next {W0 w W W' : World} {R fm bm : Nat} {S : TS} {kv kv1 kv2 : Nat → Value} {p : Nat} {c : Cel} {done done' : List (Cel × Bool)} {rest rest' : List Ins} {bad bad' : Bool} {qs qs' : List Nat} {H1 H2 : Nat → Option NdS} {vo vo' : Value}
    (h : UTGo W0 w R fm bm S kv p c done rest bad qs H1 kv1 vo W) (ht : TW W0 W' R fm bm { S with rest := rest', bad := bad', H := H2 } kv2) (hf : FrP (Own R fm bm { S with rest := rest, bad := bad, H := H1 } kv1) W W') (hn : ∀ b, Own R fm bm { S with rest := rest', bad := bad', H := H2 } kv2 b → Own R fm bm { S with rest := rest, bad := bad, H := H1 } kv1 b ∨ W.heap.size ≤ b)
    (hk : KidsOf S.H H2 p c qs' (done'.map Prod.fst) w.heap.size) (ho : opensOf qs' (done'.map Prod.snd) = opensOf qs (done.map Prod.snd)) : UTGo W0 w R fm bm S kv p c done' rest' bad' qs' H2 kv2 vo W' := by
  refine ⟨ht, hk, ?_, fun b hb e => ?_, h.fr.trans h.new hf, fun b hb => ?_, h.w0⟩
  · rw [ho]
    exact hf.acc (fun h => h) h.op h.off
  · rcases hn b e with e | e
    · exact h.off b hb e
    · have := (h.op.lt b hb).2
      omega
  · rcases hn b hb with e | e
    · exact h.new b e
    · have := h.fr.size
      exact .inr (by omega)
/-- a new leaf waits -/
theorem UTGo.open_ {W0 w W W' : World} {R fm bm : Nat} {S : TS} {kv kv1 : Nat → Value} {p : Nat} {c : Cel} {done done' : List (Cel × Bool)} {rest : List Ins} {bad : Bool} {qs qs' : List Nat} {H1 : Nat → Option NdS} {vo vo' : Value} {o : Obj}
    (h : UTGo W0 w R fm bm S kv p c done rest bad qs H1 kv1 vo W) (hd : done.map Prod.fst = done'.map Prod.fst) (hq : qs = qs') (ha : AccInv w.heap.size 223 ((opensOf qs' (done'.map Prod.snd)).map PtN.mk) vo' W') (hg : (W.alloc o).grownBy W' vo.ownBlock) (hw : vo'.ownBlock = vo.ownBlock ∨ vo'.ownBlock = some (W.heap.size + 1)) : UTGo W0 w R fm bm S kv p c done' rest bad qs' H1 kv1 vo' W' := by
  subst hq
  have hb1 := (Below.refl W.heap.size W).new o
  have h1 := h.tw.below hb1
  have hf : Fr vo.ownBlock.toList (W.alloc o) W' := grown_frN hg
  refine ⟨h1.fr hf (fun b hb => by simp at hb; exact h.off b hb) (fun b hb => by simp at hb; exact Nat.le_trans h.w0 (h.op.lt b hb).1), by rw [← hd]; exact h.kid, ha, fun b hb e => ?_, ?_, h.new, h.w0⟩
  · rcases hw with e2 | e2
    · exact h.off b (e2 ▸ hb) e
    · rw [hb] at e2; injection e2 with e2
      have := (h.tw.ownB b e).2
      omega
  · refine ⟨hf.os.trans (hb1.os.trans h.fr.os), hf.tape.trans (hb1.tape.trans h.fr.tape), hf.output.trans (hb1.output.trans h.fr.output), Nat.le_trans h.fr.size (Nat.le_trans hb1.size hf.size), fun k hk hp => ?_⟩
    have h2 := h.fr.size
    refine (hf.block k (by have := hb1.size; omega) (fun e => ?_)).trans ((hb1.block k (by omega)).trans (h.fr.block k hk hp))
    simp at e
    have := (h.op.lt k e).1
    omega
/-- the teller went from one state to another one -/
structure Tr (W0 w : World) (R fm bm : Nat) (S : TS) (kv : Nat → Value) (W : World) (S' : TS) (kv' : Nat → Value) : Prop where
  tw : TW W0 W R fm bm S' kv'
  fr : FrP (Own R fm bm S kv) w W
  new : ∀ b, Own R fm bm S' kv' b → Own R fm bm S kv b ∨ w.heap.size ≤ b
theorem Tr.refl {W0 w : World} {R fm bm : Nat} {S : TS} {kv : Nat → Value} (h : TW W0 w R fm bm S kv) : Tr W0 w R fm bm S kv w S kv := ⟨h, FrP.refl _ _, fun b hb => .inl hb⟩
theorem Tr.trans {W0 w w1 w2 : World} {R fm bm : Nat} {S S1 S2 : TS} {kv kv1 kv2 : Nat → Value} (h : Tr W0 w R fm bm S kv w1 S1 kv1) (k : Tr W0 w1 R fm bm S1 kv1 w2 S2 kv2) : Tr W0 w R fm bm S kv w2 S2 kv2 :=
  ⟨k.tw, h.fr.trans h.new k.fr, fun b hb => by
    rcases k.new b hb with e | e
    · exact h.new b e
    · have := h.fr.size
      exact .inr (by omega)⟩
theorem Tr.below {W0 w w1 w2 : World} {R fm bm : Nat} {S S1 : TS} {kv kv1 : Nat → Value} (h : Tr W0 w R fm bm S kv w1 S1 kv1) (hb : Below w1.heap.size w1 w2) : Tr W0 w R fm bm S kv w2 S1 kv1 := h.trans ⟨h.tw.below hb, FrP.of hb, fun b hb => .inl hb⟩
theorem Tr.of {W0 w w1 : World} {R fm bm : Nat} {S S1 : TS} {kv kv1 : Nat → Value} (h : TW W0 w1 R fm bm S1 kv1 ∧ FrP (Own R fm bm S kv) w w1 ∧ ∀ b, Own R fm bm S1 kv1 b → Own R fm bm S kv b ∨ w.heap.size ≤ b) : Tr W0 w R fm bm S kv w1 S1 kv1 := ⟨h.1, h.2.1, h.2.2⟩
theorem Tr.newN {W0 w : World} {R fm bm : Nat} {S : TS} {kv : Nat → Value} (h : TW W0 w R fm bm S kv) (c : Cel) (hc : c.fit) : Tr W0 w R fm bm S kv (w.alloc (.cells #[.int .i64 c.k, .string c.s, .int .i64 c.n, .slice none 0 0] 227)) { S with H := updH S.H w.heap.size ⟨c, []⟩ } (updV kv w.heap.size (.slice none 0 0)) :=
  ⟨(h.newN c hc).1, FrP.of ((Below.refl _ _).new _), (h.newN c hc).2⟩
theorem UTGo.tr {W0 w W W' : World} {R fm bm : Nat} {S : TS} {kv kv1 kv2 : Nat → Value} {p : Nat} {c : Cel} {done done' : List (Cel × Bool)} {rest rest' : List Ins} {bad bad' : Bool} {qs qs' : List Nat} {H1 H2 : Nat → Option NdS} {vo : Value}
    (h : UTGo W0 w R fm bm S kv p c done rest bad qs H1 kv1 vo W) (ht : Tr W0 W R fm bm { S with rest := rest, bad := bad, H := H1 } kv1 W' { S with rest := rest', bad := bad', H := H2 } kv2)
    (hk : KidsOf S.H H2 p c qs' (done'.map Prod.fst) w.heap.size) (ho : opensOf qs' (done'.map Prod.snd) = opensOf qs (done.map Prod.snd)) : UTGo W0 w R fm bm S kv p c done' rest' bad' qs' H2 kv2 vo W' := h.next (vo' := vo) ht.tw ht.fr ht.new hk ho
theorem nextI_fit {W0 w : World} {R fm bm : Nat} {S : TS} {kv : Nat → Value} (h : TW W0 w R fm bm S kv) : (nextI S.rest).fit := by
  obtain ⟨ra, rc, _, hr⟩ := h.blk
  unfold nextI
  cases hs : S.rest with
  | nil => exact ⟨by decide, by decide, by decide, by decide, by decide, by decide, by decide, by decide, by decide⟩
  | cons i l =>
    rw [hs] at hr
    obtain ⟨b, off, _, hE⟩ := hr.at_ 0 i rfl
    have hE' : InsE _ _ _ _ := hE
    exact hE'.fit
theorem Tr.push {W0 w w3 : World} {R fm bm : Nat} {S : TS} {kv : Nat → Value} (h : TW W0 w R fm bm S kv) {p : Nat} {d : NdS} (hd : S.H p = some d) {k : PtN} {v' vp : Value} {T : Nat} {cs : Array Value} (hvp : kv p = vp) (ha : AccInv W0.heap.size 223 (d.ks ++ [k]) v' w3) (hg : (w.alloc (.cells cs T)).grownBy w3 vp.ownBlock) (hw : v'.ownBlock = vp.ownBlock ∨ v'.ownBlock = some (w.heap.size + 1)) :
    Tr W0 w R fm bm S kv (w3.setCell ⟨p, 3, none⟩ v') { S with H := updH S.H p ⟨d.c, d.ks ++ [k]⟩ } (updV kv p v') ∧ w3.cell? ⟨p, 3, none⟩ = some vp ∧ w3.frozen? ⟨p, 3, none⟩ = false := by
  subst hvp
  obtain ⟨h1, h2⟩ := h.push hd ha hg hw
  obtain ⟨_, _, _, c3, fz⟩ := h.cN hd
  exact ⟨Tr.of h1, (World.cell?_of_block (a := ⟨p, 3, none⟩) h2).trans c3, (World.frozen?_of_block (a := ⟨p, 3, none⟩) h2).trans (fz 3)⟩
theorem look_funs {w : World} {fm n : Nat} {funs : Int → Bool} (h : MapV Try.prog 3 w fm n (MapF funs)) {x : Int} (h1 : -9223372036854775808 ≤ x) (h2 : x ≤ 9223372036854775807) : (Instr.lookup 191 (.map (some fm)) (.int .i64 x) false).run Try.prog w = .ok (.bool (funs x)) w := by
  have := h.run_look (t := 191) (e := 4) Try.underlying3 Try.underlying191 (Try.zeroBool _) (wf64 h1 h2)
  rw [this]
  unfold MapF
  cases funs x <;> rfl
end Go.Proofs.Ytmmnfkggfnokjaa
set_option linter.unusedVariables false
namespace Go.Proofs.Ytmmnfkggfnokjaa
open Go.RowKit
theorem celF {k n : Int} (hk : 0 ≤ k ∧ k ≤ 9) (hn : -9223372036854775808 ≤ n ∧ n ≤ 9223372036854775807) : (⟨k, ⟨#[]⟩, n⟩ : Cel).fit := ⟨by show _ ≤ k; omega, by show k ≤ _; omega, hn.1, hn.2, by show (ByteArray.mk #[]).size ≤ _; decide⟩
theorem slice_ofN {α : Type} [RepC α] {B e : Nat} {v : Value} {acc : List α} {w : World} (h : AccInv B e acc v w) : ∃ a n c, v = .slice a n c := by
  obtain ⟨a, c, e, _⟩ := h.row
  exact ⟨a, _, c, e⟩
/-- what is left to be told, behind what was -/
def UEq (S : TS) (M : Nat) (done : List (Cel × Bool)) (rest : List Ins) (bad : Bool) : Prop := unisM S.funs M S.rest = if bad = true then (done, rest, true) else (done ++ (unisM S.funs (M - done.length) rest).1, (unisM S.funs (M - done.length) rest).2)
theorem UEq.step {S : TS} {M : Nat} {done : List (Cel × Bool)} {rest : List Ins} (h : UEq S M done rest false) (hm : done.length < M) : UEq S M (done ++ [if (nextI rest).op = 5 then (varI (nextI rest), S.funs (nextI rest).x) else if (nextI rest).op = 6 then (varI (nextI rest), false) else if (nextI rest).op = 7 then (intI (nextI rest), false) else (zeroC, false)]) rest.tail (if (nextI rest).op = 5 then false else if (nextI rest).op = 6 then false else if (nextI rest).op = 7 then false else true) := by
  unfold UEq at h ⊢
  simp only [Bool.false_eq_true, if_false] at h
  rw [h, show M - done.length = (M - (done.length + 1)) + 1 by omega, unisM_step]
  by_cases h5 : (nextI rest).op = 5
  · simp [h5]
  · by_cases h6 : (nextI rest).op = 6
    · simp [h6]
    · by_cases h7 : (nextI rest).op = 7
      · simp [h7]
      · simp [h5, h6, h7]
set_option maxRecDepth 100000 in
set_option maxHeartbeats 12800000 in
theorem tunify_any (W0 w : World) (R fm bm : Nat) (S : TS) (kv : Nat → Value) (hT : TW W0 w R fm bm S kv) (p : Nat) (c : Cel) (hp : S.H p = some ⟨c, []⟩) (many : Int) (hm1 : -9223372036854775808 ≤ many) (hm2 : many ≤ 9223372036854775807) (hbad : S.bad = false) :
    Calls Try.prog 218 #[.pointer (some ⟨R, 0, none⟩), .pointer (some ⟨p, 0, none⟩), .int .i64 many] w (UTPost W0 w R fm bm S kv p c (unisM S.funs many.toNat S.rest)) := by
  have hSe : ({ S with rest := S.rest, bad := false, H := S.H } : TS) = S := by cases S; simp_all
  have hpw := (hT.ownB p (.inr (.inr (.inr (.inl ⟨_, hp⟩))))).2
  have hG0 : UTGo W0 w R fm bm S kv p c [] S.rest false [] S.H kv (.slice none 0 0) w := by
    refine ⟨by rw [hSe]; exact hT, KidsOf.nil hp hpw, by simp only [List.map_nil, opensOf]; exact AccInv.nil _ _ _, fun b hb => (by cases hb), FrP.refl _ _, by rw [hSe]; exact fun b hb => .inl hb, hT.B0⟩
  have HG0 := mkHid hG0
  have HSL : Hid (S.rest.length ≤ 100000) := by obtain ⟨n, hn, _⟩ := hT.bt; exact hn.2
  have HE0 : Hid (UEq S many.toNat [] S.rest false) := by rw [Hid, UEq]; simp
  have HW0 := mkHid hT.B0
  have HPW := mkHid hpw
  clear hT hp hbad hSe hG0 hpw
  go_enter Try.func218, Try.ntmps218
  go_wp2_with fail
  go_loopg [7, 8, 9] (1 + many.toNat) (fun kk vo _ _ wr => ∃ (done : List (Cel × Bool)) (rest : List Ins) (bad : Bool) (qs : List Nat) (H1 : Nat → Option NdS) (kv1 : Nat → Value), Hid (UTGo W0 w R fm bm S kv p c done rest bad qs H1 kv1 vo wr) ∧ Hid (UEq S many.toNat done rest bad) ∧ Hid (bad = false → kk = 1 + (many.toNat - done.length) ∧ done.length ≤ many.toNat ∧ done.length + rest.length ≤ S.rest.length + 0))
  case atStart => exact ⟨[], S.rest, false, [], S.H, kv, HG0, HE0, fun _ => ⟨rfl, Nat.zero_le _, by simp⟩⟩
  case round =>
    clear HG0 HE0
    obtain ⟨done, rest, bad, qs, H1, kv1, HU, HE, HK⟩ := hrel
    obtain ⟨oa, on, oc, rfl⟩ := slice_ofN HU.out.op
    have HQL := mkHid HU.out.kid.len
    have HD := mkHid HU.out.kid.at_
    obtain ⟨ka, kc, hkv, hk1, hk2⟩ := HU.out.tw.kid_lit HD.out
    rw [List.length_map] at hkv hk1
    obtain ⟨ra, rc, r0, r1, r2, r3, rfz, _⟩ := HU.out.tw.cR
    obtain ⟨_, _, _, n3, nfz⟩ := HU.out.tw.cN HD.out
    rw [hkv] at n3
    have HKV := mkHid hkv
    have fz3 := rfz 3
    have f3 := nfz 3
    dsimp only at r0 r3
    clear hkv rfz nfz r0 r2
    have exit : ∀ (bd : Bool), bd = bad → (bd = true ∨ ¬ (qs.length : Int) < many) → UTPost W0 w R fm bm S kv p c (unisM S.funs many.toNat S.rest) (.returned (.slice oa on oc)) wr := fun bd hbd hx => by
      have he : unisM S.funs many.toNat S.rest = (done, rest, bad) := by
        have h1 := HE.out
        unfold UEq at h1
        cases bad with
        | true => simpa using h1
        | false =>
          have hq : ¬ (qs.length : Int) < many := by
            rcases hx with e | e
            · rw [hbd] at e; cases e
            · exact e
          obtain ⟨_, k2, _⟩ := HK.out rfl
          have h3 := HQL.out
          rw [List.length_map] at h3
          simp only [Bool.false_eq_true, if_false] at h1
          rw [show many.toNat - done.length = 0 by omega] at h1
          simpa [unisM] using h1
      rw [he]
      exact ⟨qs, _, kv1, H1, rfl, HU.out.tw, HU.out.kid, HU.out.op, HU.out.off, HU.out.fr, HU.out.new⟩
    have EXIT := mkHid exit
    clear exit
    cases bad with
    | true =>
      have HP := mkHid (EXIT.out true rfl (.inl rfl))
      by_cases hm : (qs.length : Int) < many
      · go_wp2_with fail
        go_ret
        exact HP.out
      · go_wp2_with fail
        go_ret
        exact HP.out
    | false =>
      by_cases hm : (qs.length : Int) < many
      · clear EXIT
        obtain ⟨hkk, hdm, hdr⟩ := HK.out rfl
        have hql := HQL.out
        rw [List.length_map] at hql
        have HES := mkHid (HE.out.step (by omega))
        have HKK : Hid (gk = 1 + (many.toNat - done.length) ∧ done.length ≤ many.toNat ∧ done.length + rest.length ≤ S.rest.length ∧ qs.length = done.length) := ⟨hkk, hdm, by omega, hql⟩
        have hq5 : qs.length ≤ 100000 := by have := HSL.out; omega
        clear hkk hdm hdr hql HK HE
        have hqp : wr.heap.size ≠ p := by have := HPW.out; have := HU.out.fr.size; omega
        have hqp2 : p ≠ wr.heap.size := fun e => hqp e.symm
        have HQP := mkHid hqp
        have HQP2 := mkHid hqp2
        clear hqp hqp2
        have hN1 := Tr.newN HU.out.tw zeroC ⟨by decide, by decide, by decide, by decide, by decide⟩
        have hA1 : AccInv W0.heap.size 223 (qs.map PtN.mk) (kv1 p) (wr.alloc (.cells #[.int .i64 0, .string ⟨#[]⟩, .int .i64 0, .slice none 0 0] 227)) := (HU.out.tw.nd p _ HD.out).2.2.2.below ((Below.refl _ _).new _)
        rw [HKV.out] at hA1
        have n3' := keep n3 ((Below.refl wr.heap.size wr).new (.cells #[.int .i64 0, .string ⟨#[]⟩, .int .i64 0, .slice none 0 0] 227))
        have HN1 := mkHid hN1
        have HA1 := mkHid hA1
        have hB1 : W0.heap.size ≤ (wr.alloc (.cells #[.int .i64 0, .string ⟨#[]⟩, .int .i64 0, .slice none 0 0] 227)).heap.size := hN1.tw.B0
        clear hN1 hA1
        go_wp2_with (at_builtin; go_loud (refine wpList_accN (α := PtN) rfl _ _ 225 rfl W0.heap.size 223 8 _ Try.underlying225 Try.infoPtN rfl (by decide) _ (qs.map PtN.mk) HA1.out (by rfl) _ #[.pointer (some ⟨wr.heap.size, 0, none⟩)] ⟨wr.heap.size⟩ rfl (by rw [World.size_alloc]; rfl) (by rw [List.length_map]; omega) hB1 ?_; intro v' w3 ha3 hg3 hw3; obtain ⟨a3, n9, c3, rfl⟩ := slice_ofN ha3; obtain ⟨hT3, x3, y3⟩ := Tr.push HN1.out.tw (p := p) (d := ⟨c, qs.map PtN.mk⟩) (vp := .slice ka qs.length kc) (by show updH H1 wr.heap.size _ p = _; rw [updH_ne _ HQP2.out]; exact HD.out) (by rw [updV_ne _ HQP2.out]; exact HKV.out) ha3 hg3 hw3; have HT3 := mkHid (HN1.out.trans hT3); clear ha3 hg3 hw3 hT3))
        have hift := nextI_fit HU.out.tw
        have HIF := mkHid hift
        dsimp only at hift
        clear x3 y3 n3 n3'
        refine (next_any W0 _ R fm bm _ _ HT3.out.tw).mono ?_
        rintro e w4 ⟨rfl, kv4, hT4, hF4, hN4⟩
        have HT4 := mkHid (HT3.out.trans ⟨hT4, hF4, hN4⟩)
        clear hT4 hF4 hN4 HT3 HN1 HA1
        dsimp only
        have HNE : Hid ((nextI rest).op ≠ 0 → 1 ≤ rest.length) := by
          cases rest with
          | nil => intro h; exact absurd rfl h
          | cons a l => intro _; simp
        obtain ⟨i, hi⟩ : ∃ x, nextI rest = x := ⟨_, rfl⟩
        rw [hi] at HES HIF HNE ⊢
        clear hi hift
        obtain ⟨o1, o2, x1', x2', a1, a2, hsz, hn1, hn2⟩ := HIF.out
        have hb9 := (Below.refl w4.heap.size w4).new (.cells #[.int .i64 i.op, .int .i64 i.x, .int .i64 i.a, .string i.s, .int .i64 i.n, .bool i.neg] 90)
        have HT5 := mkHid (HT4.out.below hb9)
        have HQ : Hid (wr.heap.size ∉ qs) := fun e => by
          obtain ⟨kq, hkq, e2⟩ := List.getElem_of_mem e
          obtain ⟨d9, _, h9⟩ := HU.out.kid.leaf kq wr.heap.size (by rw [List.getElem?_eq_getElem hkq, e2])
          have := (HU.out.tw.ownB _ (.inr (.inr (.inr (.inl ⟨_, h9⟩))))).2
          omega
        have HBQ : Hid (w.heap.size ≤ wr.heap.size) := HU.out.fr.size
        clear hb9
        dsimp only [Ins.v]
        obtain ⟨io, ix, ia, is_, inn, ing⟩ := i
        dsimp only at o1 o2 x1' x2' a1 a2 hsz hn1 hn2 HES HT5 HNE ⊢
        by_cases h5 : io = 5
        · subst h5
          simp only [if_true] at HES
          go_wp2_with fail
          refine (varC_any _ ⟨5, ix, ia, is_, inn, ing⟩).mono ?_
          rintro e w5 ⟨rfl, hb5⟩
          have HT6 := mkHid (HT5.out.below hb5)
          have hqn : (updH (updH H1 wr.heap.size ⟨zeroC, []⟩) p ⟨c, qs.map PtN.mk ++ [⟨wr.heap.size⟩]⟩) wr.heap.size = some ⟨zeroC, []⟩ := by rw [updH_ne _ HQP.out, updH_at]
          obtain ⟨q0, q1, q2, _, qf⟩ := HT6.out.tw.cN (p := wr.heap.size) hqn
          have qf0 := qf 0
          have qf1 := qf 1
          have qf2 := qf 2
          have hcf : (⟨1, ⟨#[]⟩, ix⟩ : Cel).fit := celF (by omega) (by omega)
          have HT7 := mkHid (HT6.out.trans (Tr.of (HT6.out.tw.cellSet (p := wr.heap.size) hqn hcf)))
          have bx : w5.cell? ⟨w4.heap.size, 1, none⟩ = some (.int .i64 ix) := keep (World.cell?_alloc_at _ _ w4.heap.size 1 rfl) hb5
          have hbz : w4.heap.size < w5.heap.size := by have := hb5.size; simp at this; omega
          have HBX := mkHid bx
          have HBZ := mkHid hbz
          have HQ4 : Hid (w4.heap.size ≠ wr.heap.size) := by have h1 := HT4.out.fr.size; have h2 := (HT4.out.tw.ownB wr.heap.size (.inr (.inr (.inr (.inl ⟨_, hqn⟩))))).2; rw [Hid]; omega
          clear hb5 qf hqn hcf bx hbz HT6
          go_wp2_with fail
          obtain ⟨w7, hW7⟩ : ∃ V, (((w5.setCell ⟨wr.heap.size, 0, none⟩ (.int .i64 1)).setCell ⟨wr.heap.size, 1, none⟩ (.string ⟨#[]⟩)).setCell ⟨wr.heap.size, 2, none⟩ (.int .i64 ix)) = V := ⟨_, rfl⟩
          have hT7 := HT7.out
          try dsimp only at hT7
          rw [hW7] at hT7 ⊢
          have HT8 := mkHid hT7
          have HBX7 : Hid (w7.cell? ⟨w4.heap.size, 1, none⟩ = some (.int .i64 ix)) := by
            rw [Hid, ← hW7]
            have hf : Fr [wr.heap.size] w5 (((w5.setCell ⟨wr.heap.size, 0, none⟩ (.int .i64 1)).setCell ⟨wr.heap.size, 1, none⟩ (.string ⟨#[]⟩)).setCell ⟨wr.heap.size, 2, none⟩ (.int .i64 ix)) := (((Fr.refl _ _).set (by simp) _).set (by simp) _).set (by simp) _
            exact (World.cell?_of_block (a := ⟨w4.heap.size, 1, none⟩) (hf.block w4.heap.size HBZ.out (by simp; exact HQ4.out))).trans HBX.out
          clear hW7 hT7 q0 q1 q2 qf0 qf1 qf2 HT7 HBX HBZ
          have HG8 := mkHid (HU.out.tr (done' := done ++ [((⟨1, ⟨#[]⟩, ix⟩ : Cel), false)]) (qs' := qs ++ [wr.heap.size]) HT8.out (by rw [List.map_append]; exact HU.out.kid.snoc HBQ.out HQ.out) (by rw [List.map_append, List.map_cons, List.map_nil, opensOf_snoc _ _ _ _ (by rw [HU.out.kid.len, List.length_map, List.length_map])]; simp))
          obtain ⟨_, _, _, t1, _, _, _, _⟩ := HT8.out.tw.cR
          obtain ⟨nf, _, hmf⟩ := HT8.out.tw.fn
          have hlk := look_funs hmf x1' x2'
          try dsimp only at hlk
          have x7 := HBX7.out
          go_wp2_with fail
          have hbd : Below w7.heap.size w7 w7.drew := (Below.refl _ _).drew
          have hlkd := look_funs (hmf.below hbd) x1' x2'
          try dsimp only at hlkd
          refine wp_region_noPanic ?_
          refine wp_region_held_drew (S := fun X => X.cell? ⟨R, 1, none⟩ = some (.map (some fm)) ∧ X.cell? ⟨w4.heap.size, 1, none⟩ = some (.int .i64 ix) ∧ (Instr.lookup 191 (.map (some fm)) (.int .i64 ix) false).run Try.prog X = .ok (.bool (S.funs ix)) X) (by kernel_rfl) ⟨keep t1 hbd, keep x7 hbd, hlkd⟩ (fun hSd => ?_)
          refine wpAnyH_take (i := 0) (oi := _) (v := ?_) rfl (by kernel_rfl) (by kernel_rfl) (by kernel_rfl) (fun _ _ _ h => h) (Or.inl ⟨by rfl, ?_⟩) (by assumption) ?_
          rotate_left
          · (intro w' hSw; obtain ⟨z0, z1, z2⟩ := hSw; go_simp; try with_reducible rfl)
          (try simp only [List.getElem_toArray, List.getElem_cons_succ, List.getElem_cons_zero, Act.put, List.setIfInBounds_toArray, List.set_cons_zero, List.set_cons_succ])
          refine wpAnyH_take (i := 1) (oi := _) (v := ?_) rfl (by kernel_rfl) (by kernel_rfl) (by kernel_rfl) (fun _ _ _ h => h) (Or.inl ⟨by rfl, ?_⟩) (by assumption) ?_
          rotate_left
          · (intro w' hSw; obtain ⟨z0, z1, z2⟩ := hSw; go_simp; try with_reducible rfl)
          (try simp only [List.getElem_toArray, List.getElem_cons_succ, List.getElem_cons_zero, Act.put, List.setIfInBounds_toArray, List.set_cons_zero, List.set_cons_succ])
          refine wpAnyH_take (i := 2) (oi := _) (v := ?_) rfl (by kernel_rfl) (by kernel_rfl) (by kernel_rfl) (fun _ _ _ h => h) (Or.inl ⟨by rfl, ?_⟩) (by assumption) ?_
          rotate_left
          · (intro w' hSw; obtain ⟨z0, z1, z2⟩ := hSw; go_simp; try with_reducible rfl)
          (try simp only [List.getElem_toArray, List.getElem_cons_succ, List.getElem_cons_zero, Act.put, List.setIfInBounds_toArray, List.set_cons_zero, List.set_cons_succ])
          refine wpAnyH_take (i := 3) (oi := _) (v := ?_) rfl (by kernel_rfl) (by kernel_rfl) (by kernel_rfl) (fun _ _ _ h => h) (Or.inl ⟨by rfl, ?_⟩) (by assumption) ?_
          rotate_left
          · (intro w' hSw; obtain ⟨z0, z1, z2⟩ := hSw; go_simp; try with_reducible rfl)
          (try simp only [List.getElem_toArray, List.getElem_cons_succ, List.getElem_cons_zero, Act.put, List.setIfInBounds_toArray, List.set_cons_zero, List.set_cons_succ])
          refine wpAnyH_take (i := 4) (oi := _) (v := ?_) rfl (by kernel_rfl) (by kernel_rfl) (by kernel_rfl) (fun _ _ _ h => h) (Or.inl ⟨by rfl, ?_⟩) (by assumption) ?_
          rotate_left
          · (intro w' hSw; obtain ⟨z0, z1, z2⟩ := hSw; go_simp; try with_reducible rfl)
          (try simp only [List.getElem_toArray, List.getElem_cons_succ, List.getElem_cons_zero, Act.put, List.setIfInBounds_toArray, List.set_cons_zero, List.set_cons_succ])
          refine wpAnyH_take (i := 5) (oi := _) (v := ?_) rfl (by kernel_rfl) (by kernel_rfl) (by kernel_rfl) (fun _ _ _ h => h) (Or.inl ⟨by rfl, ?_⟩) (by assumption) ?_
          rotate_left
          · (intro w' hSw; obtain ⟨z0, z1, z2⟩ := hSw; go_simp; try with_reducible rfl)
          (try simp only [List.getElem_toArray, List.getElem_cons_succ, List.getElem_cons_zero, Act.put, List.setIfInBounds_toArray, List.set_cons_zero, List.set_cons_succ])
          refine wpAnyH_take (i := 6) (oi := _) (v := ?_) rfl (by kernel_rfl) (by kernel_rfl) (by kernel_rfl) (fun _ _ _ h => h) (Or.inl ⟨by rfl, ?_⟩) (by assumption) ?_
          rotate_left
          · (intro w' hSw; obtain ⟨z0, z1, z2⟩ := hSw; go_simp; try with_reducible rfl)
          (try simp only [List.getElem_toArray, List.getElem_cons_succ, List.getElem_cons_zero, Act.put, List.setIfInBounds_toArray, List.set_cons_zero, List.set_cons_succ])
          refine wpAnyH_done (by kernel_rfl) (NoPanic.normal ?_) _
          have HG9 := mkHid (HG8.out.tr (done' := done ++ [(⟨1, ⟨#[]⟩, ix⟩, false)]) (qs' := qs ++ [wr.heap.size]) ((Tr.refl HG8.out.tw).below hbd) HG8.out.kid rfl)
          clear HG8 HT8 hlk hlkd t1 x7 hmf hSd
          cases hfn : S.funs ix with
          | false =>
            have HES' : Hid (UEq S many.toNat (done ++ [(⟨1, ⟨#[]⟩, ix⟩, false)]) rest.tail false) := by have := HES.out; rw [hfn] at this; exact this
            clear hfn HES
            have HES := HES'
            go_wp2_with fail
            go_roundg (1 + (many.toNat - (done.length + 1)))
            case rel => exact ⟨_, rest.tail, false, qs ++ [wr.heap.size], _, _, HG9, HES, fun _ => ⟨by simp, by simp only [List.length_append, List.length_cons, List.length_nil]; have := HKK.out; omega, by simp only [List.length_append, List.length_cons, List.length_nil, List.length_tail]; have := HKK.out; have := HNE.out (by decide); omega⟩⟩
            case measure => have := HKK.out; omega
          | true =>
            have HES' : Hid (UEq S many.toNat (done ++ [(⟨1, ⟨#[]⟩, ix⟩, true)]) rest.tail false) := by have := HES.out; rw [hfn] at this; exact this
            clear hfn HES
            have HES := HES'
            have hwB : w.heap.size ≤ w7.drew.heap.size := HG9.out.fr.size
            have hol : ((opensOf (qs ++ [wr.heap.size]) ((done ++ [((⟨1, ⟨#[]⟩, ix⟩ : Cel), false)]).map Prod.snd)).map PtN.mk).length + 1 ≤ 1000000000 := by
              have h1 := opensOf_len (qs ++ [wr.heap.size]) ((done ++ [((⟨1, ⟨#[]⟩, ix⟩ : Cel), false)]).map Prod.snd)
              rw [List.length_map]
              simp only [List.length_append, List.length_cons, List.length_nil] at h1
              omega
            have HOL := mkHid hol
            clear hol
            go_wp2_with (at_builtin; go_loud (refine wpList_accN (α := PtN) rfl _ _ 225 rfl w.heap.size 223 8 _ Try.underlying225 Try.infoPtN rfl (by decide) _ _ HG9.out.op (by rfl) _ #[.pointer (some ⟨wr.heap.size, 0, none⟩)] ⟨wr.heap.size⟩ rfl (by rfl) HOL.out hwB ?_; intro v8 w8 ha8 hg8 hw8; have HG10 := mkHid (HG9.out.open_ (done' := done ++ [(⟨1, ⟨#[]⟩, ix⟩, true)]) (by simp) rfl (by rw [List.map_append, List.map_cons, List.map_nil, opensOf_snoc _ _ _ _ (by rw [HU.out.kid.len, List.length_map, List.length_map])]; rw [List.map_append (f := Prod.snd), List.map_cons, List.map_nil, opensOf_snoc _ _ _ _ (by rw [HU.out.kid.len, List.length_map, List.length_map])] at ha8; simpa using ha8) hg8 hw8); clear ha8 hg8 hw8))
            go_roundg (1 + (many.toNat - (done.length + 1)))
            case rel => exact ⟨_, rest.tail, false, qs ++ [wr.heap.size], _, _, HG10, HES, fun _ => ⟨by simp, by simp only [List.length_append, List.length_cons, List.length_nil]; have := HKK.out; omega, by simp only [List.length_append, List.length_cons, List.length_nil, List.length_tail]; have := HKK.out; have := HNE.out (by decide); omega⟩⟩
            case measure => have := HKK.out; omega
        · by_cases h6 : io = 6
          · subst h6
            simp only [show ¬ (6 : Int) = 5 by decide, if_true, if_false] at HES
            go_wp2_with fail
            refine (varC_any _ ⟨6, ix, ia, is_, inn, ing⟩).mono ?_
            rintro e w5 ⟨rfl, hb5⟩
            have HT6 := mkHid (HT5.out.below hb5)
            have hqn : (updH (updH H1 wr.heap.size ⟨zeroC, []⟩) p ⟨c, qs.map PtN.mk ++ [⟨wr.heap.size⟩]⟩) wr.heap.size = some ⟨zeroC, []⟩ := by rw [updH_ne _ HQP.out, updH_at]
            obtain ⟨q0, q1, q2, _, qf⟩ := HT6.out.tw.cN (p := wr.heap.size) hqn
            have qf0 := qf 0
            have qf1 := qf 1
            have qf2 := qf 2
            have hcf : (⟨1, ⟨#[]⟩, ix⟩ : Cel).fit := celF (by omega) (by omega)
            have HT7 := mkHid (HT6.out.trans (Tr.of (HT6.out.tw.cellSet (p := wr.heap.size) hqn hcf)))
            have bx : w5.cell? ⟨w4.heap.size, 1, none⟩ = some (.int .i64 ix) := keep (World.cell?_alloc_at _ _ w4.heap.size 1 rfl) hb5
            have hbz : w4.heap.size < w5.heap.size := by have := hb5.size; simp at this; omega
            have HBX := mkHid bx
            have HBZ := mkHid hbz
            have HQ4 : Hid (w4.heap.size ≠ wr.heap.size) := by have h1 := HT4.out.fr.size; have h2 := (HT4.out.tw.ownB wr.heap.size (.inr (.inr (.inr (.inl ⟨_, hqn⟩))))).2; rw [Hid]; omega
            clear hb5 qf hqn hcf bx hbz HT6
            go_wp2_with fail
            obtain ⟨w7, hW7⟩ : ∃ V, (((w5.setCell ⟨wr.heap.size, 0, none⟩ (.int .i64 1)).setCell ⟨wr.heap.size, 1, none⟩ (.string ⟨#[]⟩)).setCell ⟨wr.heap.size, 2, none⟩ (.int .i64 ix)) = V := ⟨_, rfl⟩
            have hT7 := HT7.out
            try dsimp only at hT7
            rw [hW7] at hT7 ⊢
            have HT8 := mkHid hT7
            clear hW7 hT7 q0 q1 q2 qf0 qf1 qf2 HT7 HBX HBZ
            have HG8 := mkHid (HU.out.tr (done' := done ++ [((⟨1, ⟨#[]⟩, ix⟩ : Cel), false)]) (qs' := qs ++ [wr.heap.size]) HT8.out (by rw [List.map_append]; exact HU.out.kid.snoc HBQ.out HQ.out) (by rw [List.map_append, List.map_cons, List.map_nil, opensOf_snoc _ _ _ _ (by rw [HU.out.kid.len, List.length_map, List.length_map])]; simp))
            go_wp2_with fail
            go_roundg (1 + (many.toNat - (done.length + 1)))
            case rel => exact ⟨_, rest.tail, false, qs ++ [wr.heap.size], _, _, HG8, HES, fun _ => ⟨by simp, by simp only [List.length_append, List.length_cons, List.length_nil]; have := HKK.out; omega, by simp only [List.length_append, List.length_cons, List.length_nil, List.length_tail]; have := HKK.out; have := HNE.out (by decide); omega⟩⟩
            case measure => have := HKK.out; omega
          · by_cases h7 : io = 7
            · subst h7
              simp only [show ¬ (7 : Int) = 5 by decide, show ¬ (7 : Int) = 6 by decide, if_true, if_false] at HES
              go_wp2_with fail
              refine (intC_any _ ⟨7, ix, ia, is_, inn, ing⟩).mono ?_
              rintro e w5 ⟨rfl, hb5⟩
              have HT6 := mkHid (HT5.out.below hb5)
              have hqn : (updH (updH H1 wr.heap.size ⟨zeroC, []⟩) p ⟨c, qs.map PtN.mk ++ [⟨wr.heap.size⟩]⟩) wr.heap.size = some ⟨zeroC, []⟩ := by rw [updH_ne _ HQP.out, updH_at]
              obtain ⟨q0, q1, q2, _, qf⟩ := HT6.out.tw.cN (p := wr.heap.size) hqn
              have qf0 := qf 0
              have qf1 := qf 1
              have qf2 := qf 2
              have hcf : (⟨2, ⟨#[]⟩, inn⟩ : Cel).fit := celF (by omega) (by omega)
              have HT7 := mkHid (HT6.out.trans (Tr.of (HT6.out.tw.cellSet (p := wr.heap.size) hqn hcf)))
              have bx : w5.cell? ⟨w4.heap.size, 1, none⟩ = some (.int .i64 ix) := keep (World.cell?_alloc_at _ _ w4.heap.size 1 rfl) hb5
              have hbz : w4.heap.size < w5.heap.size := by have := hb5.size; simp at this; omega
              have HBX := mkHid bx
              have HBZ := mkHid hbz
              have HQ4 : Hid (w4.heap.size ≠ wr.heap.size) := by have h1 := HT4.out.fr.size; have h2 := (HT4.out.tw.ownB wr.heap.size (.inr (.inr (.inr (.inl ⟨_, hqn⟩))))).2; rw [Hid]; omega
              clear hb5 qf hqn hcf bx hbz HT6
              go_wp2_with fail
              obtain ⟨w7, hW7⟩ : ∃ V, (((w5.setCell ⟨wr.heap.size, 0, none⟩ (.int .i64 2)).setCell ⟨wr.heap.size, 1, none⟩ (.string ⟨#[]⟩)).setCell ⟨wr.heap.size, 2, none⟩ (.int .i64 inn)) = V := ⟨_, rfl⟩
              have hT7 := HT7.out
              try dsimp only at hT7
              rw [hW7] at hT7 ⊢
              have HT8 := mkHid hT7
              clear hW7 hT7 q0 q1 q2 qf0 qf1 qf2 HT7 HBX HBZ
              have HG8 := mkHid (HU.out.tr (done' := done ++ [((⟨2, ⟨#[]⟩, inn⟩ : Cel), false)]) (qs' := qs ++ [wr.heap.size]) HT8.out (by rw [List.map_append]; exact HU.out.kid.snoc HBQ.out HQ.out) (by rw [List.map_append, List.map_cons, List.map_nil, opensOf_snoc _ _ _ _ (by rw [HU.out.kid.len, List.length_map, List.length_map])]; simp))
              go_wp2_with fail
              go_roundg (1 + (many.toNat - (done.length + 1)))
              case rel => exact ⟨_, rest.tail, false, qs ++ [wr.heap.size], _, _, HG8, HES, fun _ => ⟨by simp, by simp only [List.length_append, List.length_cons, List.length_nil]; have := HKK.out; omega, by simp only [List.length_append, List.length_cons, List.length_nil, List.length_tail]; have := HKK.out; have := HNE.out (by decide); omega⟩⟩
              case measure => have := HKK.out; omega
            · simp only [if_neg h5, if_neg h6, if_neg h7] at HES
              have t5 : (io == 5) = false := by simp [h5]
              have t6 : (io == 6) = false := by simp [h6]
              have t7 : (io == 7) = false := by simp [h7]
              obtain ⟨_, _, _, _, _, t3, tf, _⟩ := HT5.out.tw.cR
              have tf3 := tf 3
              have hqn : (updH (updH H1 wr.heap.size ⟨zeroC, []⟩) p ⟨c, qs.map PtN.mk ++ [⟨wr.heap.size⟩]⟩) wr.heap.size = some ⟨zeroC, []⟩ := by rw [updH_ne _ HQP.out, updH_at]
              have HT7 := mkHid (HT5.out.trans (Tr.of HT5.out.tw.setBad))
              have hke : ∀ x b, updH (updH (updH H1 wr.heap.size ⟨zeroC, []⟩) p ⟨c, qs.map PtN.mk ++ [⟨wr.heap.size⟩]⟩) wr.heap.size ⟨zeroC, []⟩ b = x ↔ (updH (updH H1 wr.heap.size ⟨zeroC, []⟩) p ⟨c, qs.map PtN.mk ++ [⟨wr.heap.size⟩]⟩) b = x := fun x b => by
                by_cases e : b = wr.heap.size
                · rw [e, updH_at, hqn]
                · rw [updH_ne _ e]
              have hH : updH (updH (updH H1 wr.heap.size ⟨zeroC, []⟩) p ⟨c, qs.map PtN.mk ++ [⟨wr.heap.size⟩]⟩) wr.heap.size ⟨zeroC, []⟩ = updH (updH H1 wr.heap.size ⟨zeroC, []⟩) p ⟨c, qs.map PtN.mk ++ [⟨wr.heap.size⟩]⟩ := funext fun b => (hke _ b).2 rfl
              have hks := HU.out.kid.snoc (d := zeroC) HBQ.out HQ.out
              rw [hH] at hks
              have HG8 := mkHid (HU.out.tr (done' := done ++ [(zeroC, false)]) (qs' := qs ++ [wr.heap.size]) HT7.out (by rw [List.map_append]; exact hks) (by rw [List.map_append, List.map_cons, List.map_nil, opensOf_snoc _ _ _ _ (by rw [HU.out.kid.len, List.length_map, List.length_map])]; simp))
              clear h5 h6 h7 tf HT7 hke hH hks hqn
              go_wp2_with fail
              go_roundg 0
              case rel => exact ⟨_, rest.tail, true, qs ++ [wr.heap.size], _, _, HG8, HES, fun h => (by cases h)⟩
              case measure => have := HKK.out; omega
      · have HP := mkHid (EXIT.out false rfl (.inr hm))
        go_wp2_with fail
        go_ret
        exact HP.out
end Go.Proofs.Ytmmnfkggfnokjaa
