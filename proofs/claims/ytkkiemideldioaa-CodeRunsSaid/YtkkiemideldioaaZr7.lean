import Derived.Test.YtkkiemideldioaaZr6
import Derived.RegionTactic
import Derived.ChangeAlike
import Derived.Outline
import Derived.OrdersHeld
import Derived.Deep.RegionHeld3
set_option linter.unusedVariables false
namespace Go.Proofs.Ytkkiemideldioaa
open Go.RowKit

/-! ### a clause that may be, numbered, may be -/
structure NumLow (s : NumS) (L : List Int) : Prop where
  nd : L.Nodup
  len : L.length = s.2
  key : ∀ j, j ∈ L → ∃ r, s.1 j = some r
  low : ∀ j, j ∈ L → 0 ≤ j ∧ j ≤ 999
theorem NumLow.nil : NumLow nu0 [] := ⟨List.nodup_nil, rfl, fun j h => (by cases h), fun j h => (by cases h)⟩
theorem NumLow.one {s : NumS} {L : List Int} (h : NumLow s L) (c : Cel) (hc : c.k = 1 → 0 ≤ c.n ∧ c.n ≤ 999) : ∃ L', NumLow (nuC s c).2 L' := by
  unfold nuC
  split
  · rename_i hk
    cases hs : s.1 c.n with
    | some r => exact ⟨L, h⟩
    | none =>
      refine ⟨c.n :: L, List.nodup_cons.2 ⟨fun hm => ?_, h.nd⟩, by simp [h.len], fun j hj => ?_, fun j hj => ?_⟩
      · obtain ⟨r, hr⟩ := h.key _ hm
        rw [hs] at hr; cases hr
      · dsimp only
        by_cases e : j = c.n
        · exact ⟨_, by rw [if_pos e]⟩
        · rw [if_neg e]
          exact h.key j ((List.mem_cons.1 hj).resolve_left e)
      · rcases List.mem_cons.1 hj with rfl | hj
        · exact hc hk
        · exact h.low j hj
  · exact ⟨L, h⟩
theorem NumLow.all : ∀ (xs : List Cel) {s : NumS} {L : List Int} (h : NumLow s L) (hx : ∀ c ∈ xs, c.k = 1 → 0 ≤ c.n ∧ c.n ≤ 999), ∃ L', NumLow (nuL s xs).2 L'
  | [], s, L, h, _ => ⟨L, h⟩
  | c :: xs, s, L, h, hx => by
    obtain ⟨L1, h1⟩ := h.one c (hx c List.mem_cons_self)
    exact NumLow.all xs h1 fun d hd => hx d (List.mem_cons_of_mem _ hd)
theorem NumLow.alls : ∀ (cs : List (List Cel)) {s : NumS} {L : List Int} (h : NumLow s L) (hx : ∀ xs ∈ cs, ∀ c ∈ xs, c.k = 1 → 0 ≤ c.n ∧ c.n ≤ 999), ∃ L', NumLow (nuLs s cs).2 L'
  | [], s, L, h, _ => ⟨L, h⟩
  | c :: cs, s, L, h, hx => by
    obtain ⟨L1, h1⟩ := h.all c (hx c List.mem_cons_self)
    exact NumLow.alls cs h1 fun d hd => hx d (List.mem_cons_of_mem _ hd)
theorem nat_sub_len : ∀ {l r : List Nat}, l.Nodup → (∀ p ∈ l, p ∈ r) → l.length ≤ r.length
  | [], r, _, _ => by simp
  | a :: l, r, hn, h => by
    obtain ⟨h1, h2⟩ := List.nodup_cons.1 hn
    have ha := h a (by simp)
    have := nat_sub_len (r := r.erase a) h2 fun p hp => (List.mem_erase_of_ne (fun e : p = a => h1 (by rw [← e]; exact hp))).2 (h p (by simp [hp]))
    rw [List.length_erase_of_mem ha] at this
    have := List.length_pos_of_mem ha
    rw [List.length_cons]; omega
theorem NumLow.few {s : NumS} {L : List Int} (h : NumLow s L) : s.2 ≤ 1000 := by
  have h1 : (L.map Int.toNat).Nodup := by
    rw [List.Nodup, List.pairwise_map]
    refine List.Pairwise.imp_of_mem ?_ h.nd
    intro a b ha hb hne e
    have h1 := h.low a ha
    have h2 := h.low b hb
    exact hne (by omega)
  have h2 := nat_sub_len (r := List.range 1000) h1 fun p hp => by
    obtain ⟨j, hj, rfl⟩ := List.mem_map.1 hp
    have := h.low j hj
    rw [List.mem_range]; omega
  rw [List.length_map, List.length_range, h.len] at h2
  exact h2
mutual
theorem ok_low : ∀ t : Tm, t.ok → ∀ c ∈ t.flat, c.k = 1 → 0 ≤ c.n ∧ c.n ≤ 999
  | .mk c ts, h, d, hd, hk => by
    simp only [Tm.flat] at hd
    rcases List.mem_cons.1 hd with rfl | hd
    · have h1 := h.1
      unfold cellOk at h1
      simp only [Bool.or_eq_true, Bool.and_eq_true, decide_eq_true_eq] at h1
      omega
    · exact oks_low ts h.2.2 d hd hk
theorem oks_low : ∀ ts : List Tm, oks ts → ∀ c ∈ flats ts, c.k = 1 → 0 ≤ c.n ∧ c.n ≤ 999
  | [], _, d, hd, _ => by simp [flats] at hd
  | t :: ts, h, d, hd, hk => by
    simp only [flats] at hd
    rcases List.mem_append.1 hd with hd | hd
    · exact ok_low t h.1 d hd hk
    · exact oks_low ts h.2 d hd hk
end
theorem bytes_nil : ((⟨#[]⟩ : ByteArray)).toList = [] := by rw [ByteArray.toList, ByteArray.toList.loop]; rfl
theorem renTs_len (F : Int → Int) : ∀ ts : List Tm, (renTs F ts).length = ts.length
  | [] => by unfold renTs; rfl
  | t :: ts => by unfold renTs; simp [renTs_len F ts]
mutual
theorem ren_ok (F : Int → Int) : ∀ t : Tm, t.ok → VarsT (fun n => 0 ≤ F n ∧ F n ≤ 999) t → (renT F t).ok
  | .mk c ts, h, hv => by
    have h1 := h.1
    have h2 := h.2.1
    unfold cellOk at h1
    simp only [Bool.or_eq_true, Bool.and_eq_true, decide_eq_true_eq] at h1
    unfold renT
    by_cases k1 : c.k = 1
    · rw [if_pos k1]
      have hF := hv.1 k1
      refine ⟨?_, ?_, trivial⟩
      · unfold cellOk
        dsimp only
        rw [bytes_nil]
        simp [hF.1, hF.2]
      · simp [ar]
    · rw [if_neg k1]
      by_cases k2 : c.k = 2
      · rw [if_pos k2]
        refine ⟨?_, ?_, trivial⟩
        · unfold cellOk
          dsimp only
          rw [bytes_nil]
          have : -2147483647 ≤ c.n ∧ c.n ≤ 2147483647 := by omega
          simp [this.1, this.2]
        · simp [ar]
      · rw [if_neg k2]
        have k3 : c.k = 3 := by omega
        refine ⟨?_, ?_, rens_ok F ts h.2.2 hv.2⟩
        · have := h.1
          unfold cellOk at this ⊢
          rw [k3] at this
          exact this
        · rw [renTs_len, h2]
          unfold ar
          rw [if_pos k3, if_pos rfl]
theorem rens_ok (F : Int → Int) : ∀ ts : List Tm, oks ts → VarsTs (fun n => 0 ≤ F n ∧ F n ≤ 999) ts → oks (renTs F ts)
  | [], _, _ => by unfold renTs; trivial
  | t :: ts, h, hv => by
    unfold renTs
    exact ⟨ren_ok F t h.1 hv.1, rens_ok F ts h.2 hv.2⟩
end
theorem ClT.kinds {x : Cl} {h : Tm} {bl : List (Bool × Tm)} (hT : ClT x h bl) : Kinds h := ok_kinds h hT.ok
theorem ClT.litk {x : Cl} {h : Tm} {bl : List (Bool × Tm)} (hT : ClT x h bl) : ∀ p ∈ bl, Kinds p.2 ∧ p.2.hd.k = 3 ∧ NoName p.2 := fun p hp => ⟨ok_kinds _ (hT.lits p hp).1, (hT.lits p hp).2.1, ok_noname _ (hT.lits p hp).1⟩
theorem ClT.lita {x : Cl} {h : Tm} {bl : List (Bool × Tm)} (hT : ClT x h bl) : ∀ p ∈ bl, Kinds p.2 ∧ Aris p.2 ∧ p.2.hd.k = 3 := fun p hp => ⟨ok_kinds _ (hT.lits p hp).1, ok_aris _ (hT.lits p hp).1, (hT.lits p hp).2.1⟩
/-- a clause with its variables numbered by first place -/
def numCl (h : Tm) (bl : List (Bool × Tm)) : Cl := ⟨numH h, List.zipWith (fun (p : Bool × Tm) c => (⟨p.1, c⟩ : Lt)) bl (numB h bl)⟩
theorem zip_lits (F : Int → Int) : ∀ bl : List (Bool × Tm), List.zipWith (fun (p : Bool × Tm) c => (⟨p.1, c⟩ : Lt)) bl ((bl.map (renL F)).map fun x => x.2.flat) = (bl.map (renL F)).map litOf
  | [] => rfl
  | p :: bl => by
    rw [List.map_cons, List.map_cons, List.map_cons, List.zipWith_cons_cons, zip_lits F bl]
    rfl
theorem renT_len (F : Int → Int) (t : Tm) (hk : Kinds t) (hn : NoName t) : (renT F t).flat.length = t.flat.length := ren_flat_len F t hk
/-- NUMBERED, IT IS A CLAUSE THAT MAY BE, WITH THE SAME CODE -/
theorem num_clT {x : Cl} {h : Tm} {bl : List (Bool × Tm)} (hT : ClT x h bl) : ∃ G : Int → Int, ClT (numCl h bl) (renT G h) (bl.map (renL G)) ∧ compS (renT G h) (bl.map (renL G)) = compS h bl := by
  have hh := hT.kinds
  have hn := ok_noname h hT.ok
  have hb := hT.litk
  obtain ⟨S, hS⟩ : ∃ S, (nuLs (nuL nu0 h.flat).2 (bl.map fun x => x.2.flat)).2 = S := ⟨_, rfl⟩
  have hI : NuInj S := by rw [← hS]; exact (nu0_inj.all h.flat).alls _
  have hfew : S.2 ≤ 1000 := by
    obtain ⟨L1, h1⟩ := NumLow.nil.all h.flat (ok_low h hT.ok)
    obtain ⟨L2, h2⟩ := h1.alls (bl.map fun x => x.2.flat) fun xs hxs => by
      obtain ⟨p, hp, rfl⟩ := List.mem_map.1 hxs
      exact ok_low p.2 (hT.lits p hp).1
    rw [← hS]
    exact h2.few
  have hle : NuLe (nuL nu0 h.flat).2 S := by rw [← hS]; exact nuLs_le _ _
  have hle2 : NuLe (nuLs (nuL nu0 h.flat).2 (bl.map fun x => x.2.flat)).2 S := by rw [hS]; exact fun _ _ e => e
  have hG : ∀ j r, S.1 j = some r → (fun n => (S.1 n).getD 0) j = r := fun j r e => by simp only; rw [e]; rfl
  have hinj : InjP (fun n => (S.1 n).getD 0) (fun n => ∃ r, S.1 n = some r) := by
    rintro a b ⟨r, ha⟩ ⟨r', hb'⟩ e
    have e' : r = r' := by
      have := e
      simp only [ha, hb', Option.getD_some] at this
      exact this
    subst e'
    exact hI.2 a b r ha hb'
  have hlow : ∀ n, (∃ r, S.1 n = some r) → 0 ≤ (S.1 n).getD 0 ∧ (S.1 n).getD 0 ≤ 999 := by
    rintro n ⟨r, hr⟩
    have := hI.1 n r hr
    rw [hr, Option.getD_some]
    omega
  have hvh : VarsT (fun n => ∃ r, S.1 n = some r) h := vars_flat h fun c hc hk => by
    obtain ⟨r, hr⟩ := nuL_some nu0 h.flat c hc hk
    exact ⟨r, hle _ _ hr⟩
  have hvb : ∀ x ∈ bl, VarsT (fun n => ∃ r, S.1 n = some r) x.2 := fun x hx => vars_flat x.2 fun c hc hk => by
    obtain ⟨r, hr⟩ := nuLs_some (nuL nu0 h.flat).2 (bl.map fun x => x.2.flat) x.2.flat (List.mem_map.2 ⟨x, hx, rfl⟩) c hc hk
    exact ⟨r, hle2 _ _ hr⟩
  have hNB : numB h bl = (bl.map (renL fun n => (S.1 n).getD 0)).map fun x => x.2.flat := by
    unfold numB
    rw [nuLs_ren hG _ _ hle2, List.map_map, List.map_map]
    refine List.map_congr_left fun x hx => ?_
    show x.2.flat.map _ = (renT _ x.2).flat
    rw [ren_flat _ x.2 (hb x hx).1 (hb x hx).2.2]
  have hNH : numH h = (renT (fun n => (S.1 n).getD 0) h).flat := by
    unfold numH
    rw [nuL_ren hG nu0 h.flat hle, ren_flat _ h hh hn]
  refine ⟨fun n => (S.1 n).getD 0, ⟨hNH, ?_, ren_ok _ h hT.ok (VarsT.imp hlow hvh), ?_, ?_, ?_, ?_⟩, compS_ren hinj h bl hh hT.h3 hvh fun x hx => ⟨(hb x hx).1, (hb x hx).2.1, hvb x hx⟩⟩
  · unfold numCl
    dsimp only
    rw [hNB, zip_lits]
  · rw [(ren_hd _ h (ok_kinds h hT.ok |> fun k => by cases h; exact k.1)).1]; exact hT.h3
  · rw [ren_flat_len _ h hh]; exact hT.h200
  · rw [List.length_map]; exact hT.few
  · intro p hp
    obtain ⟨q, hq, rfl⟩ := List.mem_map.1 hp
    obtain ⟨q1, q2, q3⟩ := hT.lits q hq
    refine ⟨ren_ok _ q.2 q1 (VarsT.imp hlow (hvb q hq)), ?_, ?_⟩
    · show (renT _ q.2).hd.k = 3
      rw [(ren_hd _ q.2 (by have k := ok_kinds q.2 q1; generalize q.2 = u at k; cases u; exact k.1)).1]
      exact q2
    · show (renT _ q.2).flat.length ≤ 200
      rw [ren_flat_len _ q.2 (hb q hq).1]
      exact q3
end Go.Proofs.Ytkkiemideldioaa
set_option linter.unusedVariables false
namespace Go.Proofs.Ytkkiemideldioaa
open Go.RowKit

/-! ### what is told of a code -/
mutual
theorem tm_one : ∀ (t u : Tm) (r s : List Cel), t.ok → u.ok → t.flat ++ r = u.flat ++ s → t = u ∧ r = s
  | .mk c ts, .mk d us, r, s, h, g, e => by
    simp only [Tm.flat, List.cons_append, List.cons.injEq] at e
    obtain ⟨rfl, e⟩ := e
    obtain ⟨rfl, e2⟩ := tms_one ts us r s h.2.2 g.2.2 (by rw [h.2.1, g.2.1]) e
    exact ⟨rfl, e2⟩
theorem tms_one : ∀ (ts us : List Tm) (r s : List Cel), oks ts → oks us → ts.length = us.length → flats ts ++ r = flats us ++ s → ts = us ∧ r = s
  | [], [], r, s, _, _, _, e => ⟨rfl, by simpa [flats] using e⟩
  | [], u :: us, r, s, _, _, l, _ => by simp at l
  | t :: ts, [], r, s, _, _, l, _ => by simp at l
  | t :: ts, u :: us, r, s, h, g, l, e => by
    simp only [flats, List.append_assoc] at e
    obtain ⟨rfl, e1⟩ := tm_one t u _ _ h.1 g.1 e
    obtain ⟨rfl, e2⟩ := tms_one ts us r s h.2 g.2 (by simpa using l) e1
    exact ⟨rfl, e2⟩
end
theorem flatT_one {t u : Tm} (h : t.ok) (g : u.ok) (e : t.flat = u.flat) : t = u := (tm_one t u [] [] h g (by rw [e])).1
theorem lits_one : ∀ (a b : List (Bool × Tm)), (∀ p ∈ a, p.2.ok) → (∀ p ∈ b, p.2.ok) → a.map litOf = b.map litOf → a = b
  | [], [], _, _, _ => rfl
  | [], q :: b, _, _, e => by simp at e
  | p :: a, [], _, _, e => by simp at e
  | p :: a, q :: b, ha, hb, e => by
    rw [List.map_cons, List.map_cons, List.cons.injEq] at e
    have e1 := e.1
    unfold litOf at e1
    injection e1 with e2 e3
    rw [lits_one a b (fun x hx => ha x (List.mem_cons_of_mem _ hx)) (fun x hx => hb x (List.mem_cons_of_mem _ hx)) e.2]
    obtain ⟨n, t⟩ := p
    obtain ⟨m, u⟩ := q
    dsimp only at e2 e3
    have e4 : t = u := flatT_one (ha (n, t) List.mem_cons_self) (hb (m, u) List.mem_cons_self) e3
    rw [e2, e4]
/-- a clause is of one head and one body -/
theorem ClT.one {x : Cl} {h h' : Tm} {bl bl' : List (Bool × Tm)} (h1 : ClT x h bl) (h2 : ClT x h' bl') : h = h' ∧ bl = bl' :=
  ⟨flatT_one h1.ok h2.ok (h1.eh.symm.trans h2.eh), lits_one _ _ (fun p hp => (h1.lits p hp).1) (fun p hp => (h2.lits p hp).1) (h1.eb.symm.trans h2.eb)⟩
theorem atom_of {t : Tm} (h1 : t.ok) (h2 : t.hd.k = 3) (h3 : t.flat.length ≤ 200) : atomB t.flat = true := by
  unfold atomB
  rw [right_flat h1 h3, flat_cons]
  simpa [isFun] using h2
theorem ClT.may {x : Cl} {h : Tm} {bl : List (Bool × Tm)} (hT : ClT x h bl) : Go.Proofs.Ytkkiemideldioaa.mayB x = true := by
  unfold Go.Proofs.Ytkkiemideldioaa.mayB
  simp only [Bool.and_eq_true, decide_eq_true_eq, List.all_eq_true]
  refine ⟨⟨by rw [hT.eb, List.length_map]; exact hT.few, fun y hy => ?_⟩, by rw [hT.eh]; exact atom_of hT.ok hT.h3 hT.h200⟩
  rw [hT.eb] at hy
  obtain ⟨p, hp, rfl⟩ := List.mem_map.1 hy
  obtain ⟨p1, p2, p3⟩ := hT.lits p hp
  exact atom_of p1 p2 p3
theorem numB_len (h : Tm) (bl : List (Bool × Tm)) : (numB h bl).length = bl.length := by unfold numB; rw [nuLs_len, List.length_map]
/-- what is numbered is numbered as it is -/
theorem num_again (t : Tm) (lits : List (Bool × Tm)) : (nuL nu0 (numH t)).1 = numH t ∧ (nuLs (nuL nu0 (numH t)).2 (numB t lits)).1 = numB t lits := by
  obtain ⟨S, hS⟩ : ∃ S, (nuLs (nuL nu0 t.flat).2 (lits.map fun x => x.2.flat)).2 = S := ⟨_, rfl⟩
  have hI : NuInj S := by rw [← hS]; exact (nu0_inj.all t.flat).alls _
  have hle : NuLe (nuL nu0 t.flat).2 S := by rw [← hS]; exact nuLs_le _ _
  have hle2 : NuLe (nuLs (nuL nu0 t.flat).2 (lits.map fun x => x.2.flat)).2 S := by rw [hS]; exact fun _ _ e => e
  have hG : ∀ j r, S.1 j = some r → (fun n => (S.1 n).getD 0) j = r := fun j r e => by simp only; rw [e]; rfl
  have hinj : InjP (fun n => (S.1 n).getD 0) (fun n => ∃ r, S.1 n = some r) := by
    rintro a b ⟨r, ha⟩ ⟨r', hb'⟩ e
    have e' : r = r' := by
      have := e
      simp only [ha, hb', Option.getD_some] at this
      exact this
    subst e'
    exact hI.2 a b r ha hb'
  obtain ⟨a, b⟩ := nu_same_of hinj t.flat (lits.map fun x => x.2.flat) (fun c hc hk => by
    obtain ⟨r, hr⟩ := nuL_some nu0 t.flat c hc hk
    exact ⟨r, hle _ _ hr⟩) (fun xs hxs c hc hk => by
    obtain ⟨r, hr⟩ := nuLs_some (nuL nu0 t.flat).2 _ xs hxs c hc hk
    exact ⟨r, hle2 _ _ hr⟩)
  have e1 : numH t = t.flat.map (renC fun n => (S.1 n).getD 0) := nuL_ren hG nu0 t.flat hle
  have e2 : numB t lits = (lits.map fun x => x.2.flat).map fun c => c.map (renC fun n => (S.1 n).getD 0) := nuLs_ren hG _ _ hle2
  rw [e1, e2, a, b]
  exact ⟨e1, e2⟩
theorem zip_t : ∀ (lits : List (Bool × Tm)) (cs : List (List Cel)), cs.length = lits.length → (List.zipWith (fun (p : Bool × Tm) c => (⟨p.1, c⟩ : Lt)) lits cs).map Lt.t = cs
  | [], [], _ => rfl
  | [], c :: cs, h => by simp at h
  | p :: l, [], h => by simp at h
  | p :: l, c :: cs, h => by
    rw [List.zipWith_cons_cons, List.map_cons, zip_t l cs (by simpa using h)]
theorem zip_n : ∀ (lits : List (Bool × Tm)) (cs : List (List Cel)), cs.length = lits.length → (List.zipWith (fun (p : Bool × Tm) c => (⟨p.1, c⟩ : Lt)) lits cs).map Lt.neg = lits.map Prod.fst
  | [], [], _ => rfl
  | [], c :: cs, h => by simp at h
  | p :: l, [], h => by simp at h
  | p :: l, c :: cs, h => by
    rw [List.zipWith_cons_cons, List.map_cons, zip_n l cs (by simpa using h), List.map_cons]
theorem zip_of : ∀ (lits lits' : List (Bool × Tm)) (cs : List (List Cel)), lits.map Prod.fst = lits'.map Prod.fst → List.zipWith (fun (p : Bool × Tm) c => (⟨p.1, c⟩ : Lt)) lits cs = List.zipWith (fun (p : Bool × Tm) c => (⟨p.1, c⟩ : Lt)) lits' cs
  | [], [], _, _ => rfl
  | [], q :: l', _, h => by simp at h
  | p :: l, [], _, h => by simp at h
  | p :: l, q :: l', [], h => by simp
  | p :: l, q :: l', c :: cs, h => by
    rw [List.map_cons, List.map_cons, List.cons.injEq] at h
    rw [List.zipWith_cons_cons, List.zipWith_cons_cons, zip_of l l' cs h.2, h.1]
/-- a clause that is numbered, by its trees, is what it is numbered -/
theorem num_is {t h : Tm} {lits bl : List (Bool × Tm)} (hT : ClT (numCl t lits) h bl) : numCl h bl = numCl t lits := by
  have eh : numH t = h.flat := hT.eh
  have eb : List.zipWith (fun (p : Bool × Tm) c => (⟨p.1, c⟩ : Lt)) lits (numB t lits) = bl.map litOf := hT.eb
  have e1 : numB t lits = bl.map fun x => x.2.flat := by
    have := congrArg (List.map Lt.t) eb
    rw [zip_t _ _ (numB_len _ _), List.map_map] at this
    exact this
  have e2 : lits.map Prod.fst = bl.map Prod.fst := by
    have := congrArg (List.map Lt.neg) eb
    rw [zip_n _ _ (numB_len _ _), List.map_map] at this
    exact this
  obtain ⟨a, b⟩ := num_again t lits
  have n1 : numH h = numH t := by
    show (nuL nu0 h.flat).1 = _
    rw [← eh, a]
  have n2 : numB h bl = numB t lits := by
    show (nuLs (nuL nu0 h.flat).2 (bl.map fun x => x.2.flat)).1 = _
    rw [← eh, ← e1, b]
  unfold numCl
  rw [n1, n2, zip_of bl lits _ e2.symm]
theorem rowOf_renT (F : Int → Int) : ∀ (ts : List Tm) (i : Nat), (rowOf ts i).map (fun p => renT F p.1) = renTs F ts
  | [], _ => by unfold renTs rowOf; rfl
  | t :: ts, i => by
    unfold renTs rowOf
    rw [List.map_cons, rowOf_renT F ts]
/-- what is told of a clause's code: that clause, renamed; numbered, it is that clause numbered -/
theorem told_is {x0 : Cl} {h0 : Tm} {bl0 : List (Bool × Tm)} (hT : ClT x0 h0 bl0) {L0 : List Ins} {e : Ins} (hL : compS h0 bl0 = L0 ++ [e]) : e.n ≤ 6 ∧ e.op = 13 ∧ ∃ ch us bs r2, L0 = ch ++ r2 ∧ HeadR (funsOf (L0 ++ [e])) ch us ∧ us.length = e.n.toNat ∧ BodyR r2 (fun _ => none) bs ∧ numCl (.mk (funI e) us) bs = numCl h0 bl0 := by
  have hb := hT.litk
  obtain ⟨F, P, ch1, ch2, hF, hv, hvb, e1, e2, e3⟩ := compS_dec2 h0 bl0 hT.kinds (ok_aris h0 hT.ok) hT.h3 hT.lita
  have e4 : L0 ++ [e] = (ch1 ++ ch2) ++ [⟨13, 0, 0, h0.hd.s, h0.hd.n, false⟩] := by rw [← hL, e1, List.append_assoc]
  obtain ⟨rfl, e5⟩ := List.append_inj' e4 rfl
  have e6 : e = ⟨13, 0, 0, h0.hd.s, h0.hd.n, false⟩ := by simpa using e5
  have hk := ok_iff h0 |>.1 hT.ok
  have hn : 0 ≤ h0.hd.n ∧ h0.hd.n ≤ 6 := by
    have h1 := hk.1
    unfold cellOk at h1
    rw [hT.h3] at h1
    simp at h1
    omega
  rw [hL] at e2
  have htree : Tm.mk (funI e) ((rowOf h0.args 0).map fun p => renT F p.1) = renT F h0 := by
    rw [rowOf_renT]
    have h3 := hT.h3
    obtain ⟨c, ts⟩ := h0
    have h3' : c.k = 3 := h3
    unfold renT
    rw [if_neg (by omega), if_neg (by omega), e6]
    rfl
  refine ⟨by rw [e6]; exact hn.2, by rw [e6], ch1, _, _, ch2, rfl, e2, ?_, e3, ?_⟩
  · rw [rowOf_renT, renTs_len, hk.2.1, e6]
    unfold ar
    rw [if_pos hT.h3]
  · rw [htree]
    obtain ⟨a, b⟩ := told_num h0 bl0 hT.kinds (ok_noname h0 hT.ok) hT.h3 hb hF hv hvb
    have b' : numB (renT F h0) (bl0.map fun x => (x.1, renT F x.2)) = numB h0 bl0 := b
    unfold numCl
    rw [a, b', zip_of (bl0.map fun x => (x.1, renT F x.2)) bl0 _ (by rw [List.map_map]; rfl)]
theorem rowOf_fst : ∀ (ts : List Tm) (i : Nat), (rowOf ts i).map Prod.fst = ts
  | [], _ => rfl
  | t :: ts, i => by unfold rowOf; rw [List.map_cons, rowOf_fst ts]
theorem sum_bound (bl : List (Bool × Tm)) (h : ∀ p ∈ bl, p.2.flat.length ≤ 200) : (bl.map fun x => x.2.flat.length + funsL x.2.flat).sum ≤ 400 * bl.length := by
  induction bl with
  | nil => simp
  | cons p bl ih =>
    have h1 := ih fun q hq => h q (List.mem_cons_of_mem _ hq)
    have h2 := h p List.mem_cons_self
    have h3 := funsL_le p.2.flat
    simp only [List.map_cons, List.sum_cons, List.length_cons]
    omega
/-- a clause's code is no longer than this -/
theorem compS_short {x : Cl} {h : Tm} {bl : List (Bool × Tm)} (hT : ClT x h bl) : (compS h bl).length ≤ 3601 := by
  rw [compS_len h bl hT.kinds hT.h3 fun p hp => ⟨(hT.litk p hp).1, (hT.litk p hp).2.1⟩]
  have h1 := sumC_le (rowOf h.args 0)
  have h2 := rowOf_sums h.args 0
  have h3 := hT.h200
  rw [flat_cons, List.length_cons] at h3
  have h4 := sum_bound bl fun p hp => (hT.lits p hp).2.2
  have h5 := hT.few
  omega
end Go.Proofs.Ytkkiemideldioaa
set_option linter.unusedVariables false
namespace Go.Proofs.Ytkkiemideldioaa
open Go.RowKit

/-! ### what a clause's code has not -/
def zeroQ (i : Ins) : Prop := (inX i = false → i.x = 0) ∧ (inA i = false → i.a = 0) ∧ i.op ≠ 13
def callsL (l : List Ins) : List Bool := (l.filter fun i => i.op == 12).map Ins.neg
theorem callsL_app (a b : List Ins) : callsL (a ++ b) = callsL a ++ callsL b := by simp [callsL]
def LayQ (m m' : MkS) : Prop := ∃ ch : List Ins, m'.code = m.code ++ ch ∧ (∀ i ∈ ch, zeroQ i) ∧ callsL ch = []
theorem LayQ.refl (m : MkS) : LayQ m m := ⟨[], by simp, (fun i h => by cases h), rfl⟩
theorem LayQ.trans {m m' m'' : MkS} (h : LayQ m m') (h' : LayQ m' m'') : LayQ m m'' := by
  obtain ⟨c, e, z, q⟩ := h
  obtain ⟨c', e', z', q'⟩ := h'
  refine ⟨c ++ c', by rw [e', e, List.append_assoc], fun i hi => ?_, by rw [callsL_app, q, q']; rfl⟩
  rcases List.mem_append.1 hi with hi | hi
  · exact z i hi
  · exact z' i hi
theorem layq_one {m m' : MkS} (i : Ins) (e : m'.code = m.code ++ [i]) (hz : zeroQ i) (h : i.op ≠ 12) : LayQ m m' :=
  ⟨[i], e, fun j hj => by rw [List.mem_singleton] at hj; subst hj; exact hz, by simp [callsL, h]⟩
theorem var_q (m : MkS) (n f g a : Int) (hf : f = 1 ∨ f = 5 ∨ f = 9) (hg : g = f + 1) (ha : f ≠ 1 → a = 0) : LayQ m (m.var n f g a) := by
  subst hg
  unfold MkS.var
  split
  · refine layq_one _ rfl ?_ (by simp only; omega)
    rcases hf with rfl | rfl | rfl <;> simp [zeroQ, inX, inA] <;> exact ha (by decide)
  · refine layq_one _ rfl ?_ (by simp only; omega)
    rcases hf with rfl | rfl | rfl <;> simp [zeroQ, inX, inA] <;> exact ha (by decide)
theorem unifyS_q : ∀ (ts : List Tm) (m : MkS), LayQ m (unifyS ts m).1
  | [], m => LayQ.refl m
  | t :: ts, m => by
    unfold unifyS
    split
    · exact (var_q m t.hd.n 5 6 0 (by omega) (by omega) (fun _ => rfl)).trans (unifyS_q ts _)
    · split
      · exact (layq_one _ rfl (by simp [zeroQ, inX, inA]) (by simp)).trans (unifyS_q ts _)
      · split
        · exact (layq_one (m := m) (m' := m.fresh.lay ⟨5, m.next, 0, ⟨#[]⟩, 0, false⟩) _ rfl (by simp [zeroQ, inX, inA]) (by simp)).trans (unifyS_q ts _)
        · exact unifyS_q ts m
theorem getS_q (p : Tm × Int) (m : MkS) : LayQ m (getS p m).1 := by
  unfold getS
  split
  · exact var_q m p.1.hd.n 1 2 p.2 (by omega) (by omega) (fun h => absurd rfl h)
  · split
    · exact layq_one _ rfl (by simp [zeroQ, inX, inA]) (by simp)
    · split
      · exact (layq_one _ rfl (by simp [zeroQ, inX, inA]) (by simp)).trans (unifyS_q _ _)
      · exact LayQ.refl m
theorem rowS_q : ∀ (f : Nat) (ps : List (Tm × Int)) (m : MkS), LayQ m (rowS f ps m)
  | 0, _, m => LayQ.refl m
  | _ + 1, [], m => LayQ.refl m
  | f + 1, p :: ps, m => by
    unfold rowS
    exact (getS_q p m).trans (rowS_q f _ _)
theorem setS_q (c : Cel) (r : Int) (m : MkS) : LayQ m (setS c r m) := by
  unfold setS
  split
  · exact var_q m c.n 9 10 0 (by omega) (by omega) (fun _ => rfl)
  · split
    · exact layq_one _ rfl (by simp [zeroQ, inX, inA]) (by simp)
    · split
      · exact layq_one _ rfl (by simp [zeroQ, inX, inA]) (by simp)
      · exact LayQ.refl m
theorem setsS_q : ∀ (ts : List Tm) (rs : List Int) (m : MkS), LayQ m (setsS ts rs m)
  | [], [], m => LayQ.refl m
  | [], _ :: _, m => LayQ.refl m
  | _ :: _, [], m => LayQ.refl m
  | t :: ts, r :: rs, m => by
    unfold setsS
    exact (setS_q t.hd r m).trans (setsS_q ts rs _)
mutual
theorem structS_q : ∀ (t : Tm) (m : MkS), LayQ m (structS t m).1
  | .mk c ts, m => by
    unfold structS
    exact (innerS_q ts m).trans ((layq_one (m' := (innerS ts m).1.fresh.lay ⟨8, 0, (innerS ts m).1.next, c.s, c.n, false⟩) ⟨8, 0, (innerS ts m).1.next, c.s, c.n, false⟩ rfl (by simp [zeroQ, inX, inA]) (by simp)).trans (setsS_q ts _ _))
theorem innerS_q : ∀ (ts : List Tm) (m : MkS), LayQ m (innerS ts m).1
  | [], m => LayQ.refl m
  | t :: ts, m => by
    unfold innerS
    split
    · exact (structS_q t m).trans (innerS_q ts _)
    · exact innerS_q ts m
end
theorem lits_q : ∀ (bl : List (Bool × Tm)) (m : MkS), ∃ ch : List Ins, (bl.foldl (fun m x => litS x m) m).code = m.code ++ ch ∧ (∀ i ∈ ch, zeroQ i) ∧ callsL ch = bl.map Prod.fst
  | [], m => ⟨[], by simp, (fun i h => by cases h), rfl⟩
  | x :: bl, m => by
    obtain ⟨c, e, z, q⟩ := structS_q x.2 m
    obtain ⟨c', e', z', q'⟩ := lits_q bl (litS x m)
    refine ⟨c ++ (⟨12, 0, (structS x.2 m).2, ⟨#[]⟩, 0, x.1⟩ :: c'), ?_, fun i hi => ?_, ?_⟩
    · rw [List.foldl_cons, e']
      unfold litS MkS.lay
      rw [e]
      simp
    · rcases List.mem_append.1 hi with hi | hi
      · exact z i hi
      · rcases List.mem_cons.1 hi with rfl | hi
        · simp [zeroQ, inX, inA]
        · exact z' i hi
    · rw [callsL_app, q, List.nil_append, List.map_cons, ← q']
      simp [callsL]
/-- a clause's code: its end, its calls, and what its instructions leave empty -/
theorem compS_calls (h : Tm) (bl : List (Bool × Tm)) : ∃ ch : List Ins, compS h bl = ch ++ [⟨13, 0, 0, h.hd.s, h.hd.n, false⟩] ∧ (∀ i ∈ ch, zeroQ i) ∧ callsL ch = bl.map Prod.fst := by
  obtain ⟨c, e, z, q⟩ := rowS_q (2 * h.flat.length + 1) (rowOf h.args 0) ⟨[], h.hd.n, fun _ => none⟩
  obtain ⟨c', e', z', q'⟩ := lits_q bl (rowS (2 * h.flat.length + 1) (rowOf h.args 0) ⟨[], h.hd.n, fun _ => none⟩)
  refine ⟨c ++ c', ?_, fun i hi => ?_, by rw [callsL_app, q, q', List.nil_append]⟩
  · unfold compS
    show _ ++ _ = _
    rw [e', e]
    simp
  · rcases List.mem_append.1 hi with hi | hi
    · exact z i hi
    · exact z' i hi
theorem compS_zero {h : Tm} {bl : List (Bool × Tm)} : ∀ i ∈ compS h bl, (inX i = false → i.x = 0) ∧ (inA i = false → i.a = 0) := by
  obtain ⟨ch, e, z, _⟩ := compS_calls h bl
  intro i hi
  rw [e] at hi
  rcases List.mem_append.1 hi with hi | hi
  · exact ⟨(z i hi).1, (z i hi).2.1⟩
  · rw [List.mem_singleton] at hi
    subst hi
    exact ⟨fun _ => rfl, fun _ => rfl⟩
/-! ### how many parts are Funs -/
def funsTs (ts : List Tm) : Nat := (ts.filter fun t => t.hd.k == 3).length
theorem sumC_parts : ∀ (ts : List Tm) (i : Nat), KindsL ts → sumC (rowOf ts i) + funsTs ts = (flats ts).length + funsL (flats ts)
  | [], i, _ => rfl
  | t :: ts, i, h => by
    have ih := sumC_parts ts (i + 1) h.2
    have e1 : sumC (rowOf (t :: ts) i) = cntR t + sumC (rowOf ts (i + 1)) := by simp [sumC, rowOf]
    have e2 : (flats (t :: ts)).length = t.flat.length + (flats ts).length := by simp [flats]
    have e3 : funsL (flats (t :: ts)) = funsL t.flat + funsL (flats ts) := by rw [← funs_app]; rfl
    have hp := flat_pos t
    by_cases h3 : t.hd.k = 3
    · have e4 : funsTs (t :: ts) = funsTs ts + 1 := by simp [funsTs, h3]
      have e5 : cntR t = t.flat.length - 1 + funsL t.flat := by simp [cntR, h3]
      omega
    · have e4 : funsTs (t :: ts) = funsTs ts := by simp [funsTs, h3]
      have e5 : cntR t = t.flat.length - 1 + funsL t.flat + 1 := by simp [cntR, h3]
      omega
/-- how many instructions, as the law counts them -/
theorem compS_many {x : Cl} {h : Tm} {bl : List (Bool × Tm)} (hT : ClT x h bl) : ((compS h bl).length : Int) = (h.flat.length : Int) - 1 + funsL h.flat - 1 + 1 - funsTs h.args + ((bl.map fun p => p.2.flat.length + funsL p.2.flat).sum : Nat) := by
  have e := compS_len h bl hT.kinds hT.h3 fun p hp => ⟨(hT.litk p hp).1, (hT.litk p hp).2.1⟩
  have h3 := hT.h3
  have hk := hT.kinds
  cases h with
  | mk c ts =>
    have h3' : c.k = 3 := h3
    have e1 := sumC_parts ts 0 hk.2.2
    have e2 : (Tm.mk c ts).flat.length = (flats ts).length + 1 := by simp [Tm.flat]
    have e3 : funsL (Tm.mk c ts).flat = 1 + funsL (flats ts) := by
      show funsL (c :: flats ts) = _
      rw [funs_cons, if_pos h3']
    have e4 : (Tm.mk c ts).args = ts := rfl
    rw [e4] at e ⊢
    omega
/-! ### registers, set one by one -/
theorem onceGo_le : ∀ (l : List Ins) (k K : Int), onceGo k l = some K → k ≤ K ∧ K ≤ k + l.length
  | [], k, K, h => by
    unfold onceGo at h
    injection h with h
    subst h
    simp
  | i :: l, k, K, h => by
    rw [onceGo_cons] at h
    rw [List.length_cons]
    split at h
    · cases h
    · split at h
      · split at h
        · have := onceGo_le l _ _ h; omega
        · cases h
      · split at h
        · split at h
          · have := onceGo_le l _ _ h; omega
          · cases h
        · have := onceGo_le l _ _ h; omega
end Go.Proofs.Ytkkiemideldioaa
set_option linter.unusedVariables false
namespace Go.Proofs.Ytkkiemideldioaa
open Go.RowKit

/-! ### numbering by a row of variables -/
def addL (V w : List Int) : List Int := w.foldl (fun V x => if x ∈ V then V else V ++ [x]) V
theorem addL_sub : ∀ (w V : List Int) (x : Int), x ∈ V → x ∈ addL V w
  | [], _, _, h => h
  | y :: w, V, x, h => addL_sub w _ x (by dsimp only; split <;> simp [h])
theorem addL_mem : ∀ (w V : List Int) (x : Int), x ∈ w → x ∈ addL V w
  | [], _, _, h => by cases h
  | y :: w, V, x, h => by
    rcases List.mem_cons.1 h with rfl | h
    · refine addL_sub w _ x ?_
      dsimp only
      split
      · assumption
      · simp
    · exact addL_mem w _ x h
theorem addL_app (V a b : List Int) : addL V (a ++ b) = addL (addL V a) b := by unfold addL; rw [List.foldl_append]
theorem addL_addL : ∀ (l A V : List Int), addL V (addL A l) = addL V (A ++ l)
  | [], A, V => by rw [List.append_nil]; rfl
  | x :: l, A, V => by
    show addL V (addL (if x ∈ A then A else A ++ [x]) l) = _
    rw [addL_addL l]
    by_cases h : x ∈ A
    · rw [if_pos h, addL_app, addL_app]
      show _ = addL (if x ∈ addL V A then addL V A else addL V A ++ [x]) l
      rw [if_pos (addL_mem A V x h)]
    · rw [if_neg h, List.append_assoc]
      rfl
def valsC (xs : List Cel) : List Int := (xs.filter fun c => decide (c.k = 1)).map Cel.n
theorem varsGo_add : ∀ (xs : List Cel) (V : List Int), varsGo V xs = addL V (valsC xs)
  | [], V => rfl
  | c :: xs, V => by
    have ih := varsGo_add xs
    unfold varsGo
    by_cases hk : c.k = 1
    · have e : valsC (c :: xs) = c.n :: valsC xs := by simp [valsC, hk]
      rw [e, ih]
      show _ = addL (if c.n ∈ V then V else V ++ [c.n]) (valsC xs)
      by_cases hm : c.n ∈ V
      · rw [if_pos hm, if_neg (fun h => h.2 hm)]
      · rw [if_neg hm, if_pos ⟨hk, hm⟩]
    · have e : valsC (c :: xs) = valsC xs := by simp [valsC, hk]
      rw [e, ih, if_neg (fun h => hk h.1)]
theorem addL_vars (V : List Int) (xs : List Cel) : addL V (varsL xs) = varsGo V xs := by
  unfold varsL
  rw [varsGo_add, varsGo_add, addL_addL, List.nil_append]
structure NumV (s : NumS) (V : List Int) : Prop where
  cnt : s.2 = V.length
  at_ : ∀ j, s.1 j = if j ∈ V then some (placeI V j) else none
theorem NumV.nil : NumV nu0 [] := ⟨rfl, fun j => by simp [nu0]⟩
theorem place_snoc (V : List Int) (x j : Int) (hx : x ∉ V) : placeI (V ++ [x]) j = if j ∈ V then placeI V j else if j = x then (V.length : Int) else -1 := by
  unfold placeI
  by_cases h1 : j ∈ V
  · rw [if_pos (List.mem_append_left _ h1), if_pos h1, if_pos h1, List.idxOf_append, if_pos h1]
  · rw [if_neg h1]
    by_cases h2 : j = x
    · subst h2
      rw [if_pos (by simp), if_pos rfl, List.idxOf_append, if_neg h1]
      simp
    · rw [if_neg (by simp [h1, h2]), if_neg h2]
theorem NumV.one {s : NumS} {V : List Int} (h : NumV s V) (c : Cel) : NumV (nuC s c).2 (if c.k = 1 ∧ c.n ∉ V then V ++ [c.n] else V) := by
  unfold nuC
  by_cases hk : c.k = 1
  · rw [if_pos hk]
    by_cases hm : c.n ∈ V
    · have e := h.at_ c.n
      rw [if_pos hm] at e
      rw [e, if_neg (fun x => x.2 hm)]
      exact h
    · have e := h.at_ c.n
      rw [if_neg hm] at e
      rw [e, if_pos ⟨hk, hm⟩]
      refine ⟨by simp [h.cnt], fun j => ?_⟩
      dsimp only
      rw [place_snoc V c.n j hm]
      by_cases h1 : j = c.n
      · subst h1
        rw [if_pos rfl, if_pos (by simp), if_neg hm, if_pos rfl, h.cnt]
      · rw [if_neg h1, h.at_ j]
        by_cases h2 : j ∈ V
        · rw [if_pos h2, if_pos (by simp [h2]), if_pos h2]
        · rw [if_neg h2, if_neg (by simp [h1, h2])]
  · rw [if_neg hk, if_neg (fun x => hk x.1)]
    exact h
theorem NumV.all : ∀ (xs : List Cel) {s : NumS} {V : List Int}, NumV s V → NumV (nuL s xs).2 (varsGo V xs)
  | [], s, V, h => h
  | c :: xs, s, V, h => by
    show NumV (nuL (nuC s c).2 xs).2 _
    unfold varsGo
    exact NumV.all xs (h.one c)
/-- the variables of a clause, as they first stand -/
def varsCl (h : List Cel) (cs : List (List Cel)) : List Int := cs.foldl varsGo (varsL h)
theorem NumV.alls : ∀ (cs : List (List Cel)) {s : NumS} {V : List Int}, NumV s V → NumV (nuLs s cs).2 (cs.foldl varsGo V)
  | [], s, V, h => h
  | c :: cs, s, V, h => by
    rw [List.foldl_cons]
    exact NumV.alls cs (h.all c)
theorem ren_num (V : List Int) (xs : List Cel) : xs.map (renC (placeI V)) = xs.map (numC V) := by
  refine List.map_congr_left fun c _ => ?_
  unfold renC numC
  rfl
/-- a clause numbered, by its row of variables -/
theorem num_vars (t : Tm) (lits : List (Bool × Tm)) : numH t = t.flat.map (numC (varsCl t.flat (lits.map fun x => x.2.flat))) ∧ numB t lits = (lits.map fun x => x.2.flat).map fun c => c.map (numC (varsCl t.flat (lits.map fun x => x.2.flat))) := by
  obtain ⟨S, hS⟩ : ∃ S, (nuLs (nuL nu0 t.flat).2 (lits.map fun x => x.2.flat)).2 = S := ⟨_, rfl⟩
  have hV : NumV S (varsCl t.flat (lits.map fun x => x.2.flat)) := by rw [← hS]; exact (NumV.nil.all t.flat).alls _
  have hle : NuLe (nuL nu0 t.flat).2 S := by rw [← hS]; exact nuLs_le _ _
  have hle2 : NuLe (nuLs (nuL nu0 t.flat).2 (lits.map fun x => x.2.flat)).2 S := by rw [hS]; exact fun _ _ e => e
  have hG : ∀ j r, S.1 j = some r → placeI (varsCl t.flat (lits.map fun x => x.2.flat)) j = r := fun j r e => by
    rw [hV.at_ j] at e
    split at e
    · cases e; rfl
    · cases e
  refine ⟨?_, ?_⟩
  · rw [← ren_num]; exact nuL_ren hG nu0 t.flat hle
  · have e := nuLs_ren hG _ _ hle2
    refine e.trans (List.map_congr_left fun c _ => ren_num _ c)
/-- a clause numbered, cell by cell -/
def numClL (x : Cl) : Cl := ⟨x.h.map (numC (varsCl x.h (x.b.map Lt.t))), x.b.map fun y => ⟨y.neg, y.t.map (numC (varsCl x.h (x.b.map Lt.t)))⟩⟩
theorem zip_map2 (f : List Cel → List Cel) : ∀ bl : List (Bool × Tm), List.zipWith (fun (p : Bool × Tm) c => (⟨p.1, c⟩ : Lt)) bl ((bl.map fun x => x.2.flat).map f) = (bl.map litOf).map fun y => ⟨y.neg, f y.t⟩
  | [] => rfl
  | p :: bl => by
    rw [List.map_cons, List.map_cons, List.map_cons, List.map_cons, List.zipWith_cons_cons, zip_map2 f bl]
    rfl
theorem numCl_L {x : Cl} {h : Tm} {bl : List (Bool × Tm)} (hT : ClT x h bl) : numClL x = numCl h bl := by
  obtain ⟨a, b⟩ := num_vars h bl
  have e : x.b.map Lt.t = bl.map fun x => x.2.flat := by rw [hT.eb, List.map_map]; rfl
  unfold numClL numCl
  rw [e, hT.eh, a, b, hT.eb, zip_map2]
end Go.Proofs.Ytkkiemideldioaa
set_option linter.unusedVariables false
namespace Go.Proofs.Ytkkiemideldioaa
open Go.RowKit

/-! ### Source -/
theorem compileY (a : Option Addr) (cap : Nat) (a' : Option Addr) (cap' : Nat) (w : World) (x : Cl) (h : Tm) (bl : List (Bool × Tm)) (n m : Nat) (hT : ClT x h bl) (hn : x.h.length = n) (hm : x.b.length = m) (hr : Row w a cap x.h) (hr' : Row w a' cap' x.b) :
    Calls Try.prog 17 #[.agg #[.slice a n cap, .slice a' m cap']] w (compN w h bl) := by
  subst hn; subst hm
  exact compile_yes a cap a' cap' w x h bl hT hT.may hr hr'
theorem compileN (a : Option Addr) (cap : Nat) (a' : Option Addr) (cap' : Nat) (w : World) (x : Cl) (n m : Nat) (hM : mayB x = false) (hn : x.h.length = n) (hm : x.b.length = m) (hr : Row w a cap x.h) (hr' : Row w a' cap' x.b) :
    Calls Try.prog 17 #[.agg #[.slice a n cap, .slice a' m cap']] w fun e w' => e = .returned (.tuple #[.slice none 0 0, .int .i64 1]) ∧ Below w.heap.size w w' := by
  subst hn; subst hm
  exact compile_no a cap a' cap' w x.h x.b hr hr' hM
theorem equalK (a : Option Addr) (cap : Nat) (a' : Option Addr) (cap' : Nat) (w : World) (xs ys : List Ins) (n m : Nat) (r : Bool) (hn : xs.length = n) (hm : ys.length = m) (hrr : decide (xs = ys) = r) (hx : Row w a cap xs) (hy : Row w a' cap' ys) :
    Calls Try.prog 64 #[.slice a n cap, .slice a' m cap'] w fun e w' => e = .returned (.bool r) ∧ Below w.heap.size w w' := by
  subst hn; subst hm; subst hrr
  exact equal_any a cap a' cap' w xs ys hx hy
/-- what Source makes of a code -/
def SrcPost (w : World) (L : List Ins) (r : Ending) (W' : World) : Prop :=
  Below w.heap.size w W' ∧ ((r = .returned (.tuple #[.agg #[.slice none 0 0, .slice none 0 0], .bool false]) ∧ ∀ x h bl, ClT x h bl → compS h bl ≠ L) ∨
   ∃ (x : Cl) (h : Tm) (bl : List (Bool × Tm)) (a : Option Addr) (c : Nat) (a' : Option Addr) (c' : Nat), r = .returned (.tuple #[.agg #[.slice a x.h.length c, .slice a' x.b.length c'], .bool true]) ∧ Row W' a c x.h ∧ Row W' a' c' x.b ∧ ClT x h bl ∧ compS h bl = L ∧ numCl h bl = x ∧ ∀ x0 h0 bl0, ClT x0 h0 bl0 → compS h0 bl0 = L → numCl h0 bl0 = x)
theorem zero_cl {W : World} {k : Nat} (h : W.heap[k]? = some (.cells #[.slice none 0 0, .slice none 0 0] 25 (0, 0))) : W.cell? ⟨k, 0, none⟩ = some (.slice none 0 0) ∧ W.cell? ⟨k, 1, none⟩ = some (.slice none 0 0) ∧ W.frozen? ⟨k, 0, none⟩ = false ∧ W.frozen? ⟨k, 1, none⟩ = false :=
  ⟨by rw [cell_of_row W _ 0 _ _ _ h]; rfl, by rw [cell_of_row W _ 1 _ _ _ h]; rfl, by simp [World.frozen?, h], by simp [World.frozen?, h]⟩
theorem comp_pos {x : Cl} {h : Tm} {bl : List (Bool × Tm)} (hT : ClT x h bl) : 0 < (compS h bl).length := by
  rw [compS_len h bl hT.kinds hT.h3 fun p hp => ⟨(hT.litk p hp).1, (hT.litk p hp).2.1⟩]
  omega
theorem RowsN.rise {W W' : World} {B : Nat} {ls : List LitV} {cs : List (List Cel)} (h : RowsN W B ls cs) (hb : ∀ b, B ≤ b → b < W.heap.size → W'.heap[b]? = W.heap[b]?) : RowsN W' B ls cs :=
  ⟨fun k l c h1 h2 => (h.at_ k l c h1 h2).blockN (fun h => h) fun b e => hb b ((h.at_ k l c h1 h2).lt b e).1 ((h.at_ k l c h1 h2).lt b e).2⟩
set_option maxRecDepth 100000 in
set_option maxHeartbeats 3200000 in
theorem source_main (w : World) (b off c : Nat) (L0 : List Ins) (e : Ins) (hr : Row w (some ⟨b, off, none⟩) c (L0 ++ [e])) (h1 : L0.length ≤ 3600) :
    Calls Try.prog 22 #[.slice (some ⟨b, off, none⟩) (L0.length + 1) c] w (SrcPost w (L0 ++ [e])) := by
  have hb0 := (Below.refl w.heap.size w).new (.cells #[.slice none 0 0, .slice none 0 0] 25)
  have HR0 := mkHid (hr.below hb0)
  have h13 : ¬ (3601 : Int) < (L0.length : Int) + 1 := by omega
  have h14 : ¬ (L0.length : Int) + 1 = 0 := by omega
  have hc0 : (w.alloc (.cells #[.slice none 0 0, .slice none 0 0] 25)).heap[w.heap.size]? = some (.cells #[.slice none 0 0, .slice none 0 0] 25 (0, 0)) := heap_alloc_new _ _
  have HC0 := mkHid hc0
  have HB0 := mkHid hb0
  have hs0 : (w.alloc (.cells #[.slice none 0 0, .slice none 0 0] 25)).heap.size = w.heap.size + 1 := by simp
  have HS0 := mkHid hs0
  clear hr hb0 hc0 hs0
  go_enter Try.func22, Try.ntmps22
  go_wp2_with fail
  have HT := mkHid (told_any _ b off c L0 e HR0.out h1)
  refine HT.out.mono ?_
  clear HT
  rintro e1 w1 ⟨hb1, h⟩
  have hc1 := (hb1.block w.heap.size (by have := HS0.out; omega)).trans HC0.out
  have HC1 := mkHid hc1
  have HB1 := mkHid hb1
  have hbw : Below w.heap.size w w1 := HB0.out.then hb1
  have HBW := mkHid hbw
  have HR1 := mkHid (HR0.out.below hb1)
  clear hb1 hbw
  rcases h with ⟨rfl, hno⟩ | ⟨gh, ch, ab, cb, t, ls, lits, rfl, hH, hB, hR, hneg, hsum, hC⟩
  · obtain ⟨l0, l1, g0, g1⟩ := zero_cl (W := w1.alloc (.cells #[.slice none 0 0, .slice none 0 0] 25)) ((heap_alloc_old _ _ (by have := HS0.out; have := HB1.out.size; omega)).trans hc1)
    have HBN := mkHid (HBW.out.then ((Below.refl w1.heap.size w1).new (.cells #[.slice none 0 0, .slice none 0 0] 25)))
    have HNO := mkHid hno
    clear hno hc1
    go_wp2_with fail
    refine bodyPost_ret (v := .tuple #[.agg #[.slice none 0 0, .slice none 0 0], .bool false]) (by simp [results, Try.results22, go_sem, *]) rfl ⟨?_, .inl ⟨rfl, fun x h bl hT hL => ?_⟩⟩
    · exact (HBN.out.setCell (by simp) _).setCell (by simp) _
    · obtain ⟨q1, q2, chh, us, bs, r2, q3, q4, q5, q6, _⟩ := told_is hT hL
      have q8 := HNO.out chh us bs r2 q3 q4 q5 q6
      omega
  · have hll : ls.length = lits.length := by
      have := congrArg List.length hneg
      simpa using this
    have hxh : (numCl t lits).h.length = t.flat.length := nuL_len _ _
    have hxb : (numCl t lits).b.length = ls.length := by
      unfold numCl
      dsimp only
      rw [List.length_zipWith, numB_len, Nat.min_self, hll]
    have hbx : List.zipWith ltOf ls (numB t lits) = (numCl t lits).b := zip_map hneg _ (numB_len t lits)
    have HXH := mkHid hxh
    have HXB := mkHid hxb
    have HBX := mkHid hbx
    have HLL : Hid (ls.length = (numB t lits).length) := by rw [Hid, numB_len]; exact hll
    have HH := mkHid (show AccInv _ 45 (numH t) _ _ from hH)
    have HBB := mkHid hB
    have HRR := mkHid (show RowsN w1 _ ls (numB t lits) from hR)
    have HC := mkHid hC
    have hl1 : ls.length ≤ 20000 := by have := hl_le lits; omega
    have hl2 : t.flat.length ≤ 20000 := by omega
    clear hll hxh hxb hbx hH hB hR hneg hsum hC hc1
    have hb2 := (Below.refl w1.heap.size w1).new (.cells #[.slice (some ⟨gh, 0, none⟩) t.flat.length ch, .slice ab ls.length cb] 25)
    have HB2 := mkHid hb2
    have hcc : (w1.alloc (.cells #[.slice (some ⟨gh, 0, none⟩) t.flat.length ch, .slice ab ls.length cb] 25)).heap[w1.heap.size]? = some (.cells #[.slice (some ⟨gh, 0, none⟩) t.flat.length ch, .slice ab ls.length cb] 25 (0, 0)) := heap_alloc_new _ _
    have HCC := mkHid hcc
    -- the rows of what was told, in any later world
    have HROW : Hid (∀ W, (∀ k, w.heap.size + 1 ≤ k → k < w1.heap.size → W.heap[k]? = w1.heap[k]?) → w1.heap.size ≤ W.heap.size → Row W (some ⟨gh, 0, none⟩) ch (numCl t lits).h ∧ Row W ab cb (numCl t lits).b) := by
      rw [Hid]
      intro W hW hsz
      have hs := HS0.out
      have k1 : AccInv w.heap.size 45 (numH t) (.slice (some ⟨gh, 0, none⟩) t.flat.length ch) W := (HH.out.blockN (fun h => h) fun b9 e9 => hW b9 (by have := (HH.out.lt b9 e9).1; omega) (HH.out.lt b9 e9).2).baseN (by omega)
      have k2 : AccInv w.heap.size 55 ls (.slice ab ls.length cb) W := (HBB.out.blockN (fun h => h) fun b9 e9 => hW b9 (by have := (HBB.out.lt b9 e9).1; omega) (HBB.out.lt b9 e9).2).baseN (by omega)
      have k3 := HRR.out.rise (W' := W) fun b9 h9 h8 => hW b9 (by omega) h8
      obtain ⟨a9, c9, e9, r9⟩ := k1.row
      injection e9 with f1 f2 f3
      subst f1
      subst f3
      refine ⟨r9, ?_⟩
      have r8 := lits_row k2 k3 HLL.out
      rw [HBX.out] at r8
      exact r8
    clear hb2 hcc
    cases hM : mayB (numCl t lits) with
    | false =>
      have hrow := HROW.out (w1.alloc (.cells #[.slice (some ⟨gh, 0, none⟩) t.flat.length ch, .slice ab ls.length cb] 25)) (fun k _ hk => heap_alloc_old _ _ hk) (by simp)
      have HCN := mkHid (compileN _ _ _ _ _ (numCl t lits) _ _ hM HXH.out HXB.out hrow.1 hrow.2)
      have HM := mkHid hM
      clear hM hrow
      go_wp2_with fail
      refine HCN.out.mono ?_
      rintro e2 w2 ⟨rfl, hb3⟩
      obtain ⟨l0, l1, g0, g1⟩ := zero_cl ((hb3.block w.heap.size (by have := HBW.out.size; have := HS0.out; have := HB1.out.size; simp; omega)).trans ((heap_alloc_old _ _ (by have := HS0.out; have := HB1.out.size; omega)).trans HC1.out))
      have HB3 := mkHid hb3
      clear hb3 HCN
      go_wp2_with fail
      refine bodyPost_ret (v := .tuple #[.agg #[.slice none 0 0, .slice none 0 0], .bool false]) (by simp [results, Try.results22, go_sem, *]) rfl ⟨?_, .inl ⟨rfl, fun x h bl hT hL => ?_⟩⟩
      · exact (((HBW.out.then HB2.out).then HB3.out).setCell (by simp) _).setCell (by simp) _
      · obtain ⟨q1, q2, chh, us, bs, r2, q3, q4, q5, q6, q7⟩ := told_is hT hL
        obtain ⟨rfl, rfl⟩ := HC.out chh us bs r2 q3 q4 q5 q6
        obtain ⟨G, hG, _⟩ := num_clT hT
        have := HM.out
        rw [q7, hG.may] at this
        cases this
    | true =>
      obtain ⟨h', bl', hT'⟩ := may_trees hM
      have hrow := HROW.out (w1.alloc (.cells #[.slice (some ⟨gh, 0, none⟩) t.flat.length ch, .slice ab ls.length cb] 25)) (fun k _ hk => heap_alloc_old _ _ hk) (by simp)
      have HCY := mkHid (compileY _ _ _ _ _ (numCl t lits) h' bl' _ _ hT' HXH.out HXB.out hrow.1 hrow.2)
      have HT' := mkHid hT'
      have HSH := mkHid (compS_short hT')
      clear hM hrow hT'
      go_wp2_with fail
      refine HCY.out.mono ?_
      rintro e2 w2 ⟨a2, c2, rfl, hN, hb3⟩
      have HB3 := mkHid hb3
      have HBT := mkHid (HBW.out.then HB2.out |>.then hb3)
      have HZ := mkHid ((hb3.block w.heap.size (by have := HBW.out.size; have := HS0.out; have := HB1.out.size; simp; omega)).trans ((heap_alloc_old _ _ (by have := HS0.out; have := HB1.out.size; omega)).trans HC1.out))
      have HCC3 := mkHid ((hb3.block w1.heap.size (by simp)).trans HCC.out)
      have HR3 := mkHid ((HR1.out.below HB2.out).below hb3)
      have HN := mkHid hN.row
      have hsl : (compS h' bl').length ≤ 3601 := HSH.out
      clear hN hb3 HCY
      obtain ⟨C, hCe⟩ : ∃ C, compS h' bl' = C := ⟨_, rfl⟩
      rw [hCe] at HN hsl ⊢
      have HCE := mkHid hCe
      clear hCe
      obtain ⟨r, hrr⟩ : ∃ r, decide (C = L0 ++ [e]) = r := ⟨_, rfl⟩
      have HEQ := mkHid (equalK _ _ _ _ w2 C (L0 ++ [e]) C.length (L0.length + 1) r rfl (by simp) hrr HN.out HR3.out)
      have HRRR := mkHid hrr
      clear hrr
      go_wp2_with fail
      refine HEQ.out.mono ?_
      rintro e3 w3 ⟨rfl, hb4⟩
      have HB4 := mkHid hb4
      obtain ⟨l0, l1, g0, g1⟩ := zero_cl ((hb4.block w.heap.size (by have := HBT.out.size; have := HS0.out; have := HB1.out.size; have := HB2.out.size; have := HB3.out.size; omega)).trans HZ.out)
      have hcc4 := (hb4.block w1.heap.size (by have := HB2.out.size; have := HB3.out.size; simp at *; omega)).trans HCC3.out
      have k0 : w3.cell? ⟨w1.heap.size, 0, none⟩ = some (.slice (some ⟨gh, 0, none⟩) t.flat.length ch) := by rw [cell_of_row w3 _ 0 _ _ _ hcc4]; rfl
      have k1 : w3.cell? ⟨w1.heap.size, 1, none⟩ = some (.slice ab ls.length cb) := by rw [cell_of_row w3 _ 1 _ _ _ hcc4]; rfl
      clear hb4 hcc4 HEQ
      cases r with
      | false =>
        go_wp2_with fail
        refine bodyPost_ret (v := .tuple #[.agg #[.slice none 0 0, .slice none 0 0], .bool false]) (by simp [results, Try.results22, go_sem, *]) rfl ⟨?_, .inl ⟨rfl, fun x h bl hT hL => ?_⟩⟩
        · exact ((HBT.out.then HB4.out).setCell (by simp) _).setCell (by simp) _
        · obtain ⟨q1, q2, chh, us, bs, r2, q3, q4, q5, q6, q7⟩ := told_is hT hL
          obtain ⟨rfl, rfl⟩ := HC.out chh us bs r2 q3 q4 q5 q6
          obtain ⟨G, hG, hG2⟩ := num_clT hT
          have hT2 := HT'.out
          rw [q7] at hT2
          obtain ⟨e8, e9⟩ := hT2.one hG
          have := HRRR.out
          rw [decide_eq_false_iff_not] at this
          exact this (by rw [← HCE.out, e8, e9, hG2, hL])
      | true =>
        have hCL : C = L0 ++ [e] := by simpa using HRRR.out
        have HCL := mkHid hCL
        clear hCL
        go_wp2_with fail
        refine bodyPost_ret (v := .tuple #[.agg #[.slice (some ⟨gh, 0, none⟩) t.flat.length ch, .slice ab ls.length cb], .bool true]) (by simp [results, Try.results22, go_sem, *]) rfl ⟨?_, .inr ⟨numCl t lits, h', bl', _, ch, ab, cb, by rw [HXH.out, HXB.out], ?_, ?_, HT'.out, by rw [HCE.out, HCL.out], num_is HT'.out, fun x0 h0 bl0 hT hL => ?_⟩⟩
        · exact ((HBT.out.then HB4.out).setCell (by simp) _).setCell (by simp) _
        · refine (HROW.out _ (fun k h1 h2 => ?_) ?_).1
          · have z := HB2.out.size
            have z2 := HB3.out.size
            rw [World.size_alloc] at z2
            refine (Below.heap_setCell _ _ _ k (by show k ≠ w.heap.size; omega)).trans ((Below.heap_setCell _ _ _ k (by show k ≠ w.heap.size; omega)).trans ?_)
            rw [HB4.out.block k (by omega), HB3.out.block k (by simp at z ⊢; omega), heap_alloc_old _ _ h2]
          · have z := HB2.out.size
            have z2 := HB3.out.size
            have z3 := HB4.out.size
            rw [World.size_alloc] at z2
            simp only [World.size_setCell]
            omega
        · refine (HROW.out _ (fun k h1 h2 => ?_) ?_).2
          · have z := HB2.out.size
            have z2 := HB3.out.size
            rw [World.size_alloc] at z2
            refine (Below.heap_setCell _ _ _ k (by show k ≠ w.heap.size; omega)).trans ((Below.heap_setCell _ _ _ k (by show k ≠ w.heap.size; omega)).trans ?_)
            rw [HB4.out.block k (by omega), HB3.out.block k (by simp at z ⊢; omega), heap_alloc_old _ _ h2]
          · have z := HB2.out.size
            have z2 := HB3.out.size
            have z3 := HB4.out.size
            rw [World.size_alloc] at z2
            simp only [World.size_setCell]
            omega
        · obtain ⟨q1, q2, chh, us, bs, r2, q3, q4, q5, q6, q7⟩ := told_is hT hL
          obtain ⟨rfl, rfl⟩ := HC.out chh us bs r2 q3 q4 q5 q6
          exact q7.symm
theorem comp_shorts {x : Cl} {h : Tm} {bl : List (Bool × Tm)} (hT : ClT x h bl) : 0 < (compS h bl).length ∧ (compS h bl).length ≤ 3601 := ⟨comp_pos hT, compS_short hT⟩
set_option maxRecDepth 100000 in
set_option maxHeartbeats 3200000 in
/-- SOURCE -/
theorem source_any (w : World) (a : Option Addr) (c : Nat) (L : List Ins) (hr : Row w a c L) :
    Calls Try.prog 22 #[.slice a L.length c] w (SrcPost w L) := by
  by_cases h0 : L.length = 0
  · have hb0 := (Below.refl w.heap.size w).new (.cells #[.slice none 0 0, .slice none 0 0] 25)
    have HB0 := mkHid hb0
    have HN : Hid (∀ x h bl, ClT x h bl → compS h bl ≠ L) := fun x h bl hT e => by
      have := comp_pos hT
      rw [e] at this; omega
    clear hb0
    rw [h0]
    clear hr h0
    go_enter Try.func22, Try.ntmps22
    go_wp2_with fail
    refine bodyPost_ret (v := .tuple #[.agg #[.slice none 0 0, .slice none 0 0], .bool false]) (by simp [results, Try.results22, go_sem, *]) rfl ⟨?_, .inl ⟨rfl, HN.out⟩⟩
    exact HB0.out
  · by_cases h1 : 3601 < L.length
    · have hb0 := (Below.refl w.heap.size w).new (.cells #[.slice none 0 0, .slice none 0 0] 25)
      have HB0 := mkHid hb0
      have HN : Hid (∀ x h bl, ClT x h bl → compS h bl ≠ L) := fun x h bl hT e => by
        have := compS_short hT
        rw [e] at this; omega
      have hmx := hr.max
      have hle := hr.le
      clear hb0 hr
      generalize L.length = n at *
      go_enter Try.func22, Try.ntmps22
      go_wp2_with fail
      refine bodyPost_ret (v := .tuple #[.agg #[.slice none 0 0, .slice none 0 0], .bool false]) (by simp [results, Try.results22, go_sem, *]) rfl ⟨?_, .inl ⟨rfl, HN.out⟩⟩
      exact HB0.out
    · obtain ⟨b, off, rfl, _, _⟩ := hr.cases.resolve_left (fun e => h0 (by simp [e]))
      rcases List.eq_nil_or_concat L with rfl | ⟨L0, e, rfl⟩
      · simp at h0
      · rw [List.concat_eq_append] at *
        rw [List.length_append, List.length_singleton]
        exact source_main w b off c L0 e hr (by simp at h1; omega)
end Go.Proofs.Ytkkiemideldioaa
set_option linter.unusedVariables false
namespace Go.Proofs.Ytkkiemideldioaa
open Go.RowKit

/-! ### the head's clauses, and their codes -/
def hp10 : Tm := .mk ⟨3, ⟨#[112]⟩, 2⟩ [.mk ⟨1, ⟨#[]⟩, 7⟩ [], .mk ⟨3, ⟨#[102]⟩, 1⟩ [.mk ⟨1, ⟨#[]⟩, 7⟩ []]]
def ho10 : Tm := .mk ⟨3, ⟨#[112]⟩, 0⟩ []
def hq10 : Tm := .mk ⟨3, ⟨#[113]⟩, 1⟩ [.mk ⟨3, ⟨#[103]⟩, 1⟩ [.mk ⟨2, ⟨#[]⟩, 1⟩ []]]
def fL10 : List Cel := [⟨3, ⟨#[112]⟩, 2⟩, ⟨1, ⟨#[]⟩, 7⟩, ⟨3, ⟨#[102]⟩, 1⟩, ⟨1, ⟨#[]⟩, 7⟩]
def qL10 : List Cel := [⟨3, ⟨#[113]⟩, 1⟩, ⟨3, ⟨#[103]⟩, 1⟩, ⟨2, ⟨#[]⟩, 1⟩]
def pL10 : List Cel := [⟨3, ⟨#[112]⟩, 0⟩]
def want10 : List Ins := [⟨1, 2, 0, ⟨#[]⟩, 0, false⟩, ⟨4, 0, 1, ⟨#[102]⟩, 1, false⟩, ⟨6, 2, 0, ⟨#[]⟩, 0, false⟩, ⟨13, 0, 0, ⟨#[112]⟩, 2, false⟩]
def less10 : List Ins := [⟨4, 0, 1, ⟨#[102]⟩, 1, false⟩, ⟨6, 2, 0, ⟨#[]⟩, 0, false⟩, ⟨13, 0, 0, ⟨#[112]⟩, 2, false⟩]
def more10 : List Ins := [⟨8, 0, 0, ⟨#[103]⟩, 1, false⟩, ⟨11, 0, 0, ⟨#[]⟩, 1, false⟩, ⟨8, 0, 1, ⟨#[113]⟩, 1, false⟩, ⟨10, 0, 0, ⟨#[]⟩, 0, false⟩, ⟨12, 0, 1, ⟨#[]⟩, 0, true⟩, ⟨13, 0, 0, ⟨#[112]⟩, 0, false⟩]
theorem comp_want : compS hp10 [] = want10 := by rfl
theorem comp_more : compS ho10 [(true, hq10)] = more10 := by rfl
theorem clt_p : ClT ⟨fL10, []⟩ hp10 [] where
  eh := rfl
  eb := rfl
  ok := by simp [hp10, Tm.ok, oks, cellOk, ar, nameOk, okByte]; decide
  h3 := rfl
  h200 := by decide
  few := by simp
  lits := fun p hp => by cases hp
theorem clt_q : ClT ⟨pL10, [⟨true, qL10⟩]⟩ ho10 [(true, hq10)] where
  eh := rfl
  eb := rfl
  ok := by simp [ho10, Tm.ok, oks, cellOk, ar, nameOk, okByte]; decide
  h3 := rfl
  h200 := by decide
  few := by simp
  lits := fun p hp => by
    rw [List.mem_singleton] at hp
    subst hp
    exact ⟨(by simp [hq10, Tm.ok, oks, cellOk, ar, nameOk, okByte]; decide), rfl, by decide⟩
theorem may_none : mayB ⟨[], []⟩ = false := by decide +kernel
/-- code without its first instruction is no clause's -/
theorem less_no (x : Cl) (h : Tm) (bl : List (Bool × Tm)) (hT : ClT x h bl) : compS h bl ≠ less10 := by
  intro e
  obtain ⟨ch, e1, _, _⟩ := compS_calls h bl
  obtain ⟨K, _, ho, _⟩ := compS_regs h bl hT.kinds (ok_aris h hT.ok) hT.h3 fun p hp => (hT.litk p hp).1
  rw [e] at ho e1
  have e2 := congrArg List.getLast? e1
  rw [List.getLast?_append] at e2
  simp [less10] at e2
  rw [← e2.2] at ho
  simp [less10, onceGo, isVal, isArg, setsX] at ho
/-- what the clause of want is -/
theorem num_want : numCl hp10 [] = ⟨[⟨3, ⟨#[112]⟩, 2⟩, ⟨1, ⟨#[]⟩, 0⟩, ⟨3, ⟨#[102]⟩, 1⟩, ⟨1, ⟨#[]⟩, 0⟩], []⟩ := by rfl
theorem regs_want : regsL want10 = 3 := by decide +kernel
theorem regs_more : regsL more10 = 2 := by decide +kernel
theorem fit_want : ∀ i ∈ want10, i.x < 9223372036854775807 ∧ i.a < 9223372036854775807 := by
  intro i hi
  simp only [want10, List.mem_cons, List.not_mem_nil, or_false] at hi
  rcases hi with rfl | rfl | rfl | rfl <;> exact ⟨by decide, by decide⟩
theorem fit_more : ∀ i ∈ more10, i.x < 9223372036854775807 ∧ i.a < 9223372036854775807 := by
  intro i hi
  simp only [more10, List.mem_cons, List.not_mem_nil, or_false] at hi
  rcases hi with rfl | rfl | rfl | rfl | rfl | rfl <;> exact ⟨by decide, by decide⟩
end Go.Proofs.Ytkkiemideldioaa
set_option linter.unusedVariables false
namespace Go.Proofs.Ytkkiemideldioaa
open Go.RowKit

/-! ### the head -/
theorem rowL {α : Type} [RepC α] (w : World) (vs : Array Value) (T : TypeId) (xs : List α) (n : Nat) (hn : xs.length = n) (h : CRows w vs.toList xs) (hl : n ≤ 1000) : Row (w.alloc (.cells vs T)) (some ⟨w.heap.size, 0, none⟩) n xs := by
  subst hn
  exact row_new w vs (T, 0) (h.keeps (Keeps.of ((Below.refl _ _).new _))) (by omega)
theorem compK (a : Option Addr) (cap : Nat) (a' : Option Addr) (cap' : Nat) (w : World) (x : Cl) (h : Tm) (bl : List (Bool × Tm)) (n m k : Nat) (L : List Ins) (hT : ClT x h bl) (hn : x.h.length = n) (hm : x.b.length = m) (hL : compS h bl = L) (hk : L.length = k) (hr : Row w a cap x.h) (hr' : Row w a' cap' x.b) :
    Calls Try.prog 17 #[.agg #[.slice a n cap, .slice a' m cap']] w fun e w' => ∃ a2 c2, e = .returned (.tuple #[.slice a2 k c2, .int .i64 0]) ∧ Row w' a2 c2 L ∧ Below w.heap.size w w' := by
  subst hL; subst hk
  refine (compileY a cap a' cap' w x h bl n m hT hn hm hr hr').mono ?_
  rintro e w' ⟨a2, c2, rfl, hr, hb⟩
  exact ⟨a2, c2, rfl, hr.row, hb⟩
theorem srcK_want (a : Option Addr) (c : Nat) (w : World) (hr : Row w a c want10) :
    Calls Try.prog 22 #[.slice a 4 c] w fun e w' => ∃ a2 c2 a3 c3, e = .returned (.tuple #[.agg #[.slice a2 4 c2, .slice a3 0 c3], .bool true]) ∧ Row w' a2 c2 ([⟨3, ⟨#[112]⟩, 2⟩, ⟨1, ⟨#[]⟩, 0⟩, ⟨3, ⟨#[102]⟩, 1⟩, ⟨1, ⟨#[]⟩, 0⟩] : List Cel) ∧ Below w.heap.size w w' := by
  refine (source_any w a c want10 hr).mono ?_
  rintro e w' ⟨hb, h⟩
  rcases h with ⟨rfl, hno⟩ | ⟨x, h, bl, a2, c2, a3, c3, rfl, h1, h2, _, _, _, hu⟩
  · exact absurd comp_want (hno _ _ _ clt_p)
  · have e := hu _ _ _ clt_p comp_want
    rw [num_want] at e
    subst e
    exact ⟨a2, c2, a3, c3, rfl, h1, hb⟩
theorem srcK_less (a : Option Addr) (c : Nat) (w : World) (hr : Row w a c less10) :
    Calls Try.prog 22 #[.slice a 3 c] w fun e w' => e = .returned (.tuple #[.agg #[.slice none 0 0, .slice none 0 0], .bool false]) ∧ Below w.heap.size w w' := by
  refine (source_any w a c less10 hr).mono ?_
  rintro e w' ⟨hb, h⟩
  rcases h with ⟨rfl, hno⟩ | ⟨x, h, bl, a2, c2, a3, c3, rfl, h1, h2, hT, hc, _⟩
  · exact ⟨rfl, hb⟩
  · exact absurd hc (less_no x h bl hT)
theorem sameIK (a : Option Addr) (cap : Nat) (a' : Option Addr) (cap' : Nat) (w : World) (xs ys : List Ins) (n m : Nat) (r : Bool) (hn : xs.length = n) (hm : ys.length = m) (hrr : decide (xs = ys) = r) (hx : Row w a cap xs) (hy : Row w a' cap' ys) :
    Calls Try.prog 19 #[.slice a n cap, .slice a' m cap'] w fun e w' => e = .returned (.bool r) ∧ Below w.heap.size w w' := by
  subst hn; subst hm; subst hrr
  exact refsamei_any a cap a' cap' w xs ys hx hy
theorem regsK (a : Option Addr) (cap : Nat) (w : World) (xs : List Ins) (n : Nat) (r : Int) (hn : xs.length = n) (hrr : regsL xs = r) (hb : ∀ i ∈ xs, i.x < 9223372036854775807 ∧ i.a < 9223372036854775807) (hx : Row w a cap xs) :
    Calls Try.prog 20 #[.slice a n cap] w fun e w' => e = .returned (.int .i64 r) ∧ Below w.heap.size w w' := by
  subst hn; subst hrr
  exact regs_any a cap w xs hx hb
theorem fit_i (op x a : Int) (s : ByteArray) (n : Int) (neg : Bool) (h : (decide (-1000 ≤ op) && decide (op ≤ 1000) && decide (-1000 ≤ x) && decide (x ≤ 1000) && decide (-1000 ≤ a) && decide (a ≤ 1000) && decide (-1000 ≤ n) && decide (n ≤ 1000) && decide (s.size ≤ 1000)) = true) : Ins.fit ⟨op, x, a, s, n, neg⟩ := by
  simp only [Bool.and_eq_true, decide_eq_true_eq] at h
  exact ⟨by simp only; omega, by simp only; omega, by simp only; omega, by simp only; omega, by simp only; omega, by simp only; omega, by simp only; omega, by simp only; omega, by simp only; omega⟩
theorem fit_c (k : Int) (s : ByteArray) (n : Int) (h : (decide (-1000 ≤ k) && decide (k ≤ 1000) && decide (-1000 ≤ n) && decide (n ≤ 1000) && decide (s.size ≤ 1000)) = true) : Cel.fit ⟨k, s, n⟩ := by
  simp only [Bool.and_eq_true, decide_eq_true_eq] at h
  exact ⟨by simp only; omega, by simp only; omega, by simp only; omega, by simp only; omega, by simp only; omega⟩
theorem ins_c {w : World} (i : Ins) (h : i.fit) : RepC.C w [.int .i64 i.op, .int .i64 i.x, .int .i64 i.a, .string i.s, .int .i64 i.n, .bool i.neg] i := ⟨rfl, h⟩
theorem cel_c {w : World} (c : Cel) (h : c.fit) : RepC.C w [.int .i64 c.k, .string c.s, .int .i64 c.n] c := ⟨rfl, h⟩
set_option maxRecDepth 100000 in
theorem row_f (w : World) : Row (w.alloc (.cells #[.int .i64 3, .string ⟨#[112]⟩, .int .i64 2, .int .i64 1, .string ⟨#[]⟩, .int .i64 7, .int .i64 3, .string ⟨#[102]⟩, .int .i64 1, .int .i64 1, .string ⟨#[]⟩, .int .i64 7] 45)) (some ⟨w.heap.size, 0, none⟩) 4 fL10 :=
  rowL w _ _ fL10 4 rfl (.cons (cel_c ⟨3, ⟨#[112]⟩, 2⟩ (fit_c _ _ _ (by decide))) (.cons (cel_c ⟨1, ⟨#[]⟩, 7⟩ (fit_c _ _ _ (by decide))) (.cons (cel_c ⟨3, ⟨#[102]⟩, 1⟩ (fit_c _ _ _ (by decide))) (.cons (cel_c ⟨1, ⟨#[]⟩, 7⟩ (fit_c _ _ _ (by decide))) .nil)))) (by omega)
theorem row_q (w : World) : Row (w.alloc (.cells #[.int .i64 3, .string ⟨#[113]⟩, .int .i64 1, .int .i64 3, .string ⟨#[103]⟩, .int .i64 1, .int .i64 2, .string ⟨#[]⟩, .int .i64 1] 45)) (some ⟨w.heap.size, 0, none⟩) 3 qL10 :=
  rowL w _ _ qL10 3 rfl (.cons (cel_c ⟨3, ⟨#[113]⟩, 1⟩ (fit_c _ _ _ (by decide))) (.cons (cel_c ⟨3, ⟨#[103]⟩, 1⟩ (fit_c _ _ _ (by decide))) (.cons (cel_c ⟨2, ⟨#[]⟩, 1⟩ (fit_c _ _ _ (by decide))) .nil))) (by omega)
theorem row_p (w : World) : Row (w.alloc (.cells #[.int .i64 3, .string ⟨#[112]⟩, .int .i64 0] 45)) (some ⟨w.heap.size, 0, none⟩) 1 pL10 :=
  rowL w _ _ pL10 1 rfl (.cons (cel_c ⟨3, ⟨#[112]⟩, 0⟩ (fit_c _ _ _ (by decide))) .nil) (by omega)
theorem row_l (w : World) (g : Nat) (h : Row w (some ⟨g, 0, none⟩) 3 qL10) : Row (w.alloc (.cells #[.bool true, .slice (some ⟨g, 0, none⟩) 3 3] 55)) (some ⟨w.heap.size, 0, none⟩) 1 ([⟨true, qL10⟩] : List Lt) :=
  rowL w _ _ ([⟨true, qL10⟩] : List Lt) 1 rfl (.cons (α := Lt) (cs := [.bool true, .slice (some ⟨g, 0, none⟩) 3 3]) (show RepC.C w [.bool true, .slice (some ⟨g, 0, none⟩) 3 3] (⟨true, qL10⟩ : Lt) from ⟨some ⟨g, 0, none⟩, 3, rfl, h⟩) .nil) (by omega)
theorem row_want (w : World) : Row (w.alloc (.cells #[.int .i64 1, .int .i64 2, .int .i64 0, .string ⟨#[]⟩, .int .i64 0, .bool false, .int .i64 4, .int .i64 0, .int .i64 1, .string ⟨#[102]⟩, .int .i64 1, .bool false, .int .i64 6, .int .i64 2, .int .i64 0, .string ⟨#[]⟩, .int .i64 0, .bool false, .int .i64 13, .int .i64 0, .int .i64 0, .string ⟨#[112]⟩, .int .i64 2, .bool false] 48)) (some ⟨w.heap.size, 0, none⟩) 4 want10 :=
  rowL w _ _ want10 4 rfl (.cons (ins_c ⟨1, 2, 0, ⟨#[]⟩, 0, false⟩ (fit_i _ _ _ _ _ _ (by decide))) (.cons (ins_c ⟨4, 0, 1, ⟨#[102]⟩, 1, false⟩ (fit_i _ _ _ _ _ _ (by decide))) (.cons (ins_c ⟨6, 2, 0, ⟨#[]⟩, 0, false⟩ (fit_i _ _ _ _ _ _ (by decide))) (.cons (ins_c ⟨13, 0, 0, ⟨#[112]⟩, 2, false⟩ (fit_i _ _ _ _ _ _ (by decide))) .nil)))) (by omega)
theorem row_more (w : World) : Row (w.alloc (.cells #[.int .i64 8, .int .i64 0, .int .i64 0, .string ⟨#[103]⟩, .int .i64 1, .bool false, .int .i64 11, .int .i64 0, .int .i64 0, .string ⟨#[]⟩, .int .i64 1, .bool false, .int .i64 8, .int .i64 0, .int .i64 1, .string ⟨#[113]⟩, .int .i64 1, .bool false, .int .i64 10, .int .i64 0, .int .i64 0, .string ⟨#[]⟩, .int .i64 0, .bool false, .int .i64 12, .int .i64 0, .int .i64 1, .string ⟨#[]⟩, .int .i64 0, .bool true, .int .i64 13, .int .i64 0, .int .i64 0, .string ⟨#[112]⟩, .int .i64 0, .bool false] 48)) (some ⟨w.heap.size, 0, none⟩) 6 more10 :=
  rowL w _ _ more10 6 rfl (.cons (ins_c ⟨8, 0, 0, ⟨#[103]⟩, 1, false⟩ (fit_i _ _ _ _ _ _ (by decide))) (.cons (ins_c ⟨11, 0, 0, ⟨#[]⟩, 1, false⟩ (fit_i _ _ _ _ _ _ (by decide))) (.cons (ins_c ⟨8, 0, 1, ⟨#[113]⟩, 1, false⟩ (fit_i _ _ _ _ _ _ (by decide))) (.cons (ins_c ⟨10, 0, 0, ⟨#[]⟩, 0, false⟩ (fit_i _ _ _ _ _ _ (by decide))) (.cons (ins_c ⟨12, 0, 1, ⟨#[]⟩, 0, true⟩ (fit_i _ _ _ _ _ _ (by decide))) (.cons (ins_c ⟨13, 0, 0, ⟨#[112]⟩, 0, false⟩ (fit_i _ _ _ _ _ _ (by decide))) .nil)))))) (by omega)
theorem row_nine (w : World) : Row (w.alloc (.cells #[.int .i64 13, .int .i64 9, .int .i64 0, .string ⟨#[]⟩, .int .i64 0, .bool false] 48)) (some ⟨w.heap.size, 0, none⟩) 1 ([⟨13, 9, 0, ⟨#[]⟩, 0, false⟩] : List Ins) :=
  rowL w _ _ _ 1 rfl (.cons (ins_c ⟨13, 9, 0, ⟨#[]⟩, 0, false⟩ (fit_i _ _ _ _ _ _ (by decide))) .nil) (by omega)
theorem row_less {w : World} {g : Nat} (h : Row w (some ⟨g, 0, none⟩) 4 want10) : Row w (some ⟨g, 6, none⟩) 3 less10 :=
  ⟨by simp [less10], by omega, (fun e => by cases e), fun i x hi => by
    obtain ⟨b, o, e, hE⟩ := h.at_ (i + 1) x hi
    injection e with e
    injection e with e1 e2 e3
    subst e1
    subst e2
    refine ⟨g, 6, rfl, ?_⟩
    have e4 : 6 + i * Rep.sz Ins = 0 + (i + 1) * Rep.sz Ins := by
      show 6 + i * 6 = 0 + (i + 1) * 6
      omega
    rw [e4]
    exact hE⟩
theorem row_nil {α : Type} [Rep α] (w : World) : Row w none 0 ([] : List α) := Row.empty _ _ _ (by omega) (fun _ => rfl)
set_option maxRecDepth 100000 in
set_option maxHeartbeats 12800000 in
theorem head10_any (w : World) : Calls Try.prog 14 #[] w fun e w' => e = .returned (.bool true) ∧ Below w.heap.size w w' := by
  obtain ⟨W, hW⟩ : ∃ W, ((w.alloc (.cells #[.int .i64 3, .string ⟨#[112]⟩, .int .i64 2, .int .i64 1, .string ⟨#[]⟩, .int .i64 7, .int .i64 3, .string ⟨#[102]⟩, .int .i64 1, .int .i64 1, .string ⟨#[]⟩, .int .i64 7] 45)).alloc (.cells #[.int .i64 3, .string ⟨#[113]⟩, .int .i64 1, .int .i64 3, .string ⟨#[103]⟩, .int .i64 1, .int .i64 2, .string ⟨#[]⟩, .int .i64 1] 45)).alloc (.cells #[.int .i64 3, .string ⟨#[112]⟩, .int .i64 0] 45) = W := ⟨_, rfl⟩
  have hb0 : Below w.heap.size w W := by rw [← hW]; exact (((Below.refl w.heap.size w).new _).new _).new _
  have rf : Row W (some ⟨w.heap.size, 0, none⟩) 4 fL10 := by
    rw [← hW]; exact (row_f w).below (((Below.refl _ _).new _).new _)
  have rq : Row W (some ⟨w.heap.size + 1, 0, none⟩) 3 qL10 := by
    rw [← hW]
    have h := (row_q (w.alloc (.cells #[.int .i64 3, .string ⟨#[112]⟩, .int .i64 2, .int .i64 1, .string ⟨#[]⟩, .int .i64 7, .int .i64 3, .string ⟨#[102]⟩, .int .i64 1, .int .i64 1, .string ⟨#[]⟩, .int .i64 7] 45))).below ((Below.refl _ _).new (.cells #[.int .i64 3, .string ⟨#[112]⟩, .int .i64 0] 45))
    rw [World.size_alloc] at h
    exact h
  have rp : Row W (some ⟨w.heap.size + 1 + 1, 0, none⟩) 1 pL10 := by
    rw [← hW]
    have h := row_p ((w.alloc (.cells #[.int .i64 3, .string ⟨#[112]⟩, .int .i64 2, .int .i64 1, .string ⟨#[]⟩, .int .i64 7, .int .i64 3, .string ⟨#[102]⟩, .int .i64 1, .int .i64 1, .string ⟨#[]⟩, .int .i64 7] 45)).alloc (.cells #[.int .i64 3, .string ⟨#[113]⟩, .int .i64 1, .int .i64 3, .string ⟨#[103]⟩, .int .i64 1, .int .i64 2, .string ⟨#[]⟩, .int .i64 1] 45))
    rw [World.size_alloc, World.size_alloc] at h
    exact h
  have HB0 := mkHid hb0
  have HF := mkHid rf
  have HQ := mkHid rq
  have HP := mkHid rp
  clear hb0 rf rq rp
  go_enter Try.func14, Try.ntmps14
  go_wp2_with fail
  first | rw [hW] | skip
  clear hW
  have HT1 := mkHid (compK (some ⟨w.heap.size, 0, none⟩) 4 none 0 W ⟨fL10, []⟩ hp10 [] 4 0 4 want10 clt_p rfl rfl comp_want rfl HF.out (row_nil W))
  refine HT1.out.mono ?_
  clear HT1
  rintro e w1 ⟨a1, c1, rfl, rA, hb1⟩
  have HA := mkHid rA
  have HB1 := mkHid (HB0.out.then hb1)
  have HQ1 := mkHid (HQ.out.below hb1)
  have HP1 := mkHid (HP.out.below hb1)
  clear rA hb1 HQ HP HF
  go_wp2_with fail
  have hbl := (Below.refl w1.heap.size w1).new (.cells #[.bool true, .slice (some ⟨w.heap.size + 1, 0, none⟩) 3 3] 55)
  have HT1 := mkHid (compK (some ⟨w.heap.size + 1 + 1, 0, none⟩) 1 (some ⟨w1.heap.size, 0, none⟩) 1 _ ⟨pL10, [⟨true, qL10⟩]⟩ ho10 [(true, hq10)] 1 1 6 more10 clt_q rfl rfl comp_more rfl (HP1.out.below hbl) (row_l w1 _ HQ1.out))
  refine HT1.out.mono ?_
  clear HT1
  rintro e w2 ⟨a2, c2, rfl, rM, hb2⟩
  have hb2' := hbl.then hb2
  have HM := mkHid rM
  have HB2 := mkHid (HB1.out.then hb2')
  have HA2 := mkHid (HA.out.below hb2')
  clear rM hb2 hbl HQ1 HP1 hb2' HA HB1
  go_wp2_with fail
  have HT1 := mkHid (compileN none 0 none 0 w2 ⟨[], []⟩ 0 0 may_none rfl rfl (row_nil w2) (row_nil w2))
  refine HT1.out.mono ?_
  clear HT1
  rintro e w3 ⟨rfl, hb3⟩
  have HA3 := mkHid (HA2.out.below hb3)
  have HM3 := mkHid (HM.out.below hb3)
  have HB3 := mkHid (HB2.out.then hb3)
  clear hb3 HA2 HM HB2
  go_wp2_with fail
  have hn1 := (Below.refl w3.heap.size w3).new (.cells #[.int .i64 1, .int .i64 2, .int .i64 0, .string ⟨#[]⟩, .int .i64 0, .bool false, .int .i64 4, .int .i64 0, .int .i64 1, .string ⟨#[102]⟩, .int .i64 1, .bool false, .int .i64 6, .int .i64 2, .int .i64 0, .string ⟨#[]⟩, .int .i64 0, .bool false, .int .i64 13, .int .i64 0, .int .i64 0, .string ⟨#[112]⟩, .int .i64 2, .bool false] 48)
  have rw3 := row_want w3
  have rm3 := row_more (w3.alloc (.cells #[.int .i64 1, .int .i64 2, .int .i64 0, .string ⟨#[]⟩, .int .i64 0, .bool false, .int .i64 4, .int .i64 0, .int .i64 1, .string ⟨#[102]⟩, .int .i64 1, .bool false, .int .i64 6, .int .i64 2, .int .i64 0, .string ⟨#[]⟩, .int .i64 0, .bool false, .int .i64 13, .int .i64 0, .int .i64 0, .string ⟨#[112]⟩, .int .i64 2, .bool false] 48))
  rw [World.size_alloc] at rm3
  have hn2 := hn1.new (.cells #[.int .i64 8, .int .i64 0, .int .i64 0, .string ⟨#[103]⟩, .int .i64 1, .bool false, .int .i64 11, .int .i64 0, .int .i64 0, .string ⟨#[]⟩, .int .i64 1, .bool false, .int .i64 8, .int .i64 0, .int .i64 1, .string ⟨#[113]⟩, .int .i64 1, .bool false, .int .i64 10, .int .i64 0, .int .i64 0, .string ⟨#[]⟩, .int .i64 0, .bool false, .int .i64 12, .int .i64 0, .int .i64 1, .string ⟨#[]⟩, .int .i64 0, .bool true, .int .i64 13, .int .i64 0, .int .i64 0, .string ⟨#[112]⟩, .int .i64 0, .bool false] 48)
  have rw4 := rw3.below ((Below.refl _ _).new (.cells #[.int .i64 8, .int .i64 0, .int .i64 0, .string ⟨#[103]⟩, .int .i64 1, .bool false, .int .i64 11, .int .i64 0, .int .i64 0, .string ⟨#[]⟩, .int .i64 1, .bool false, .int .i64 8, .int .i64 0, .int .i64 1, .string ⟨#[113]⟩, .int .i64 1, .bool false, .int .i64 10, .int .i64 0, .int .i64 0, .string ⟨#[]⟩, .int .i64 0, .bool false, .int .i64 12, .int .i64 0, .int .i64 1, .string ⟨#[]⟩, .int .i64 0, .bool true, .int .i64 13, .int .i64 0, .int .i64 0, .string ⟨#[112]⟩, .int .i64 0, .bool false] 48))
  generalize ((w3.alloc (.cells #[.int .i64 1, .int .i64 2, .int .i64 0, .string ⟨#[]⟩, .int .i64 0, .bool false, .int .i64 4, .int .i64 0, .int .i64 1, .string ⟨#[102]⟩, .int .i64 1, .bool false, .int .i64 6, .int .i64 2, .int .i64 0, .string ⟨#[]⟩, .int .i64 0, .bool false, .int .i64 13, .int .i64 0, .int .i64 0, .string ⟨#[112]⟩, .int .i64 2, .bool false] 48)).alloc (.cells #[.int .i64 8, .int .i64 0, .int .i64 0, .string ⟨#[103]⟩, .int .i64 1, .bool false, .int .i64 11, .int .i64 0, .int .i64 0, .string ⟨#[]⟩, .int .i64 1, .bool false, .int .i64 8, .int .i64 0, .int .i64 1, .string ⟨#[113]⟩, .int .i64 1, .bool false, .int .i64 10, .int .i64 0, .int .i64 0, .string ⟨#[]⟩, .int .i64 0, .bool false, .int .i64 12, .int .i64 0, .int .i64 1, .string ⟨#[]⟩, .int .i64 0, .bool true, .int .i64 13, .int .i64 0, .int .i64 0, .string ⟨#[112]⟩, .int .i64 0, .bool false] 48)) = w4 at rw4 rm3 hn2 ⊢
  have HW4 := mkHid rw4
  have HM4 := mkHid rm3
  have HA4 := mkHid (HA3.out.below hn2)
  have HMM := mkHid (HM3.out.below hn2)
  have HB4 := mkHid (HB3.out.then hn2)
  clear rw3 rw4 rm3 hn1 hn2 HA3 HM3 HB3
  generalize w3.heap.size = g3 at HW4 HM4 ⊢
  refine (srcK_want _ _ _ HW4.out).mono ?_
  rintro e w5 ⟨a5, c5, a6, c6, rfl, rS, hb5⟩
  have HS := mkHid rS
  have HW5 := mkHid (HW4.out.below hb5)
  have HM5 := mkHid (HM4.out.below hb5)
  have HA5 := mkHid (HA4.out.below hb5)
  have HMM5 := mkHid (HMM.out.below hb5)
  have HB5 := mkHid (HB4.out.then hb5)
  clear rS hb5 HW4 HM4 HA4 HMM HB4
  go_wp2_with fail
  have hn5 := (Below.refl w5.heap.size w5).new (.cells #[.slice a5 4 c5, .slice a6 0 c6] 25)
  have b0 : (w5.alloc (.cells #[.slice a5 4 c5, .slice a6 0 c6] 25)).cell? ⟨w5.heap.size, 0, none⟩ = some (.slice a5 4 c5) := World.cell?_alloc_at _ _ w5.heap.size 0 rfl
  refine (srcK_less _ _ _ (row_less (HW5.out.below hn5))).mono ?_
  rintro e w6 ⟨rfl, hb6⟩
  have hb7 := (hn5.then hb6).then ((Below.refl w6.heap.size w6).new (.cells #[.slice none 0 0, .slice none 0 0] 25))
  have b1 := keep (keep b0 hb6) ((Below.refl w6.heap.size w6).new (.cells #[.slice none 0 0, .slice none 0 0] 25))
  have HW7 := mkHid (HW5.out.below hb7)
  have HM7 := mkHid (HM5.out.below hb7)
  have HA7 := mkHid (HA5.out.below hb7)
  have HMM7 := mkHid (HMM5.out.below hb7)
  have HB7 := mkHid (HB5.out.then hb7)
  have HS7 := mkHid (HS.out.below hb7)
  clear b0 hb6 hb7 hn5 HW5 HM5 HA5 HMM5 HB5 HS
  go_wp2_with fail
  generalize (w6.alloc (.cells #[.slice none 0 0, .slice none 0 0] 25)) = w7 at *
  refine (sameIK _ _ _ _ _ want10 want10 4 4 true rfl rfl (by simp) HA7.out HW7.out).mono ?_
  rintro e w8 ⟨rfl, hb8⟩
  have b2 := keep b1 hb8
  have HW8 := mkHid (HW7.out.below hb8)
  have HM8 := mkHid (HM7.out.below hb8)
  have HMM8 := mkHid (HMM7.out.below hb8)
  have HB8 := mkHid (HB7.out.then hb8)
  have HS8 := mkHid (HS7.out.below hb8)
  clear b1 hb8 HW7 HM7 HA7 HMM7 HB7 HS7
  go_wp2_with fail
  refine (sameIK _ _ _ _ _ more10 more10 6 6 true rfl rfl (by simp) HMM8.out HM8.out).mono ?_
  rintro e w9 ⟨rfl, hb9⟩
  have b3 := keep b2 hb9
  have HW9 := mkHid (HW8.out.below hb9)
  have HM9 := mkHid (HM8.out.below hb9)
  have HB9 := mkHid (HB8.out.then hb9)
  have hs9 := HS8.out.below hb9
  clear b2 hb9 HW8 HM8 HMM8 HB8 HS8
  obtain ⟨g5, o5, rfl, _, hat⟩ := hs9.cases.resolve_left (fun e => by cases e)
  have hc9 := cel_at hat (Below.refl _ _) (k := 3) (by decide)
  have s2 : w9.cell? ⟨g5, o5 + 9 + 2, none⟩ = some (.int .i64 0) := hc9.c2
  have hsl := hs9.le
  have hsm := hs9.max
  clear hs9 hat hc9
  go_wp2_with fail
  refine (regsK _ _ _ want10 4 3 rfl regs_want fit_want HW9.out).mono ?_
  rintro e w10 ⟨rfl, hb10⟩
  have HM10 := mkHid (HM9.out.below hb10)
  have HB10 := mkHid (HB9.out.then hb10)
  clear hb10 HW9 HM9 HB9 s2 b3
  go_wp2_with fail
  refine (regsK _ _ _ more10 6 2 rfl regs_more fit_more HM10.out).mono ?_
  rintro e w11 ⟨rfl, hb11⟩
  have HB11 := mkHid (HB10.out.then hb11)
  clear hb11 HM10 HB10
  go_wp2_with fail
  refine (regsK _ _ _ [] 0 0 rfl (by rfl) (fun i h => by cases h) (row_nil _)).mono ?_
  rintro e w12 ⟨rfl, hb12⟩
  have HB12 := mkHid (HB11.out.then hb12)
  clear hb12 HB11
  go_wp2_with fail
  have hn12 := (Below.refl w12.heap.size w12).new (.cells #[.int .i64 13, .int .i64 9, .int .i64 0, .string ⟨#[]⟩, .int .i64 0, .bool false] 48)
  refine (regsK _ _ _ [⟨13, 9, 0, ⟨#[]⟩, 0, false⟩] 1 0 rfl (by decide +kernel) (fun i h => by rw [List.mem_singleton] at h; subst h; exact ⟨by decide, by decide⟩) (row_nine w12)).mono ?_
  rintro e w13 ⟨rfl, hb13⟩
  have HB13 := mkHid ((HB12.out.then hn12).then hb13)
  clear hn12 hb13 HB12
  go_wp2_with fail
  go_ret
  exact ⟨rfl, HB13.out⟩
end Go.Proofs.Ytkkiemideldioaa
set_option linter.unusedVariables false
namespace Go.Proofs.Ytkkiemideldioaa
open Go.RowKit

theorem all_any10 {α : Type} {xs : List α} {f : α → Bool} (h : xs.all (fun x => !f x) = true) : xs.any f = false := by
  rw [List.any_eq_false]
  intro x hx
  have := List.all_eq_true.1 h x hx
  simpa using this
/-! ### Great -/
def greatC10 (c : Cl) : Bool := decide (300 < c.h.length) || decide (10 < c.b.length) || c.b.any fun x => decide (300 < x.t.length)
theorem great_eq10 (l : List Cl) : greatB l = (decide (70 < l.length) || l.any greatC10) := rfl
theorem great_hit10 {l : List Cl} {k : Nat} (hk : k < l.length) (h : greatC10 l[k] = true) : greatB l = true := by
  rw [great_eq10, List.any_eq_true.2 ⟨l[k], List.getElem_mem hk, h⟩]; simp

set_option maxHeartbeats 1600000 in
theorem great10c_any (a : Option Addr) (cap : Nat) (w : World) (l : List Cl) (hr : Row w a cap l) :
    Calls Try.prog 15 #[.slice a l.length cap] w fun e w' => e = .returned (.bool (greatB l)) ∧ w = w' := by
  have hm := hr.max
  have hm2 := hr.le
  by_cases h70 : l.length ≤ 70
  · go_enter Try.func15, Try.ntmps15
    go_wp2
    go_loop [3, 4] (fun i _ => ∃ k : Nat, k ≤ l.length ∧ i = .int .i64 k ∧ Hid ((l.take k).all (fun c => !greatC10 c) = true)) (fun i _ => l.length - (intOf i).toNat)
    case atStart => exact ⟨0, Nat.zero_le _, rfl, rfl⟩
    case round =>
      obtain ⟨k, hk, rfl, HS⟩ := hrel
      by_cases hlt : k < l.length
      · obtain ⟨b, off, rfl, hb, hat⟩ := hr.cases.resolve_left (fun e => by simp [e] at hlt)
        obtain ⟨a1, cap1, a2, cap2, c0, c1, hr1, hr2⟩ := cl_at hat (Below.refl _ _) hlt
        have x1 := hr1.max
        have x2 := hr1.le
        have x3 := hr2.max
        have x4 := hr2.le
        by_cases h3 : 300 < l[k].h.length
        · have HT : Hid (greatB l = true) := great_hit10 hlt (by simp [greatC10, h3])
          clear HS
          go_wp2
          go_ret
          exact ⟨ret_bool HT.out.symm, rfl⟩
        · by_cases h10 : 10 < l[k].b.length
          · have HT : Hid (greatB l = true) := great_hit10 hlt (by simp [greatC10, h10])
            clear HS
            go_wp2
            go_ret
            exact ⟨ret_bool HT.out.symm, rfl⟩
          · go_wp2
            go_loop [4] (fun i => ∃ j : Nat, j ≤ l[k].b.length ∧ i = .int .i64 j ∧ Hid ((l[k].b.take j).all (fun x => !decide (300 < x.t.length)) = true)) (fun i => l[k].b.length - (intOf i).toNat)
            case atStart => exact ⟨0, Nat.zero_le _, rfl, rfl⟩
            case round =>
              obtain ⟨j, hj, rfl, HJ⟩ := hrel
              by_cases hjl : j < l[k].b.length
              · obtain ⟨b2, off2, rfl, hb2, hat2⟩ := hr2.cases.resolve_left (fun e => by simp [e] at hjl)
                obtain ⟨a4, cap4, d0, d1, hr4⟩ := lt_at hat2 (Below.refl _ _) hjl
                have y1 := hr4.max
                have y2 := hr4.le
                by_cases h5 : 300 < l[k].b[j].t.length
                · have HT : Hid (greatB l = true) := great_hit10 hlt (by
                    unfold greatC10
                    rw [List.any_eq_true.2 ⟨l[k].b[j], List.getElem_mem hjl, by simpa using h5⟩]; simp)
                  clear HS HJ
                  go_wp2
                  go_ret
                  exact ⟨ret_bool HT.out.symm, rfl⟩
                · have HJ2 := mkHid (scan_next (p := fun x : Lt => !decide (300 < x.t.length)) HJ.out hjl (by simpa using h5))
                  clear HJ
                  go_wp2
                  go_round
                  case rel => exact ⟨j + 1, by omega, by go_num, HJ2⟩
                  case measure => simp [intOf]; omega
              · have HT := mkHid (scan_next (p := fun c => !greatC10 c) HS.out hlt (by
                  have := all_any10 (scan_end HJ.out (by omega))
                  unfold greatC10; rw [this]; simp; omega))
                clear HS HJ
                go_wp2
                go_round
                case rel => exact ⟨k + 1, by omega, by go_num, HT⟩
                case measure => simp [intOf]; omega
      · have HT : Hid (greatB l = false) := by
          rw [Hid, great_eq10, all_any10 (scan_end HS.out (by omega))]; simp; omega
        clear HS
        go_wp2
        go_ret
        exact ⟨ret_bool HT.out.symm, rfl⟩
  · have HT : Hid (greatB l = true) := by rw [Hid, great_eq10]; simp; omega
    go_enter Try.func15, Try.ntmps15
    go_wp2
    go_ret
    exact ⟨ret_bool HT.out.symm, rfl⟩
end Go.Proofs.Ytkkiemideldioaa
set_option linter.unusedVariables false
namespace Go.Proofs.Ytkkiemideldioaa
open Go.RowKit

/-! ### contracts at known answers, for the laws -/
theorem great7K (a : Option Addr) (cap : Nat) (w : World) (l : List Cl) (n : Nat) (r : Bool) (hr : Row w a cap l) (hn : l.length = n) (hrr : greatB l = r) :
    Calls Try.prog 15 #[.slice a n cap] w fun e w' => e = .returned (.bool r) ∧ Below w.heap.size w w' := by
  subst hn; subst hrr
  refine (great10c_any a cap w l hr).mono ?_
  rintro e w' ⟨rfl, rfl⟩
  exact ⟨rfl, Below.refl _ _⟩
theorem mayK (a : Option Addr) (cap : Nat) (a' : Option Addr) (cap' : Nat) (w : World) (x : Cl) (n m : Nat) (r : Bool) (hr : Row w a cap x.h) (hr' : Row w a' cap' x.b) (hn : x.h.length = n) (hm : x.b.length = m) (hrr : mayB x = r) :
    Calls Try.prog 25 #[.agg #[.slice a n cap, .slice a' m cap']] w fun e w' => e = .returned (.bool r) ∧ Below w.heap.size w w' := by
  subst hn; subst hm; subst hrr
  exact refmay_any a cap a' cap' w x.h x.b hr hr'
theorem row_cl {w : World} {a a' : Option Addr} {c c' : Nat} (x : Cl) (h : Row w a c x.h) (h' : Row w a' c' x.b) : Row (w.alloc (.cells #[.slice a x.h.length c, .slice a' x.b.length c'] 25)) (some ⟨w.heap.size, 0, none⟩) 1 [x] :=
  rowL w _ _ [x] 1 rfl (.cons (cs := [.slice a x.h.length c, .slice a' x.b.length c']) ⟨a, c, a', c', rfl, h, h'⟩ .nil) (by omega)
theorem row_cl2 {w : World} {a a' b b' : Option Addr} {c c' d d' : Nat} (x y : Cl) (h : Row w a c x.h) (h' : Row w a' c' x.b) (k : Row w b d y.h) (k' : Row w b' d' y.b) : Row (w.alloc (.cells #[.slice a x.h.length c, .slice a' x.b.length c', .slice b y.h.length d, .slice b' y.b.length d'] 25)) (some ⟨w.heap.size, 0, none⟩) 2 [x, y] :=
  rowL w _ _ [x, y] 2 rfl (.cons (cs := [.slice a x.h.length c, .slice a' x.b.length c']) ⟨a, c, a', c', rfl, h, h'⟩ (.cons (cs := [.slice b y.h.length d, .slice b' y.b.length d']) ⟨b, d, b', d', rfl, k, k'⟩ .nil)) (by omega)
/-- a clause's code with what is known of its length -/
theorem compQ (a : Option Addr) (cap : Nat) (a' : Option Addr) (cap' : Nat) (w : World) (x : Cl) (h : Tm) (bl : List (Bool × Tm)) (hT : ClT x h bl) (hr : Row w a cap x.h) (hr' : Row w a' cap' x.b) :
    Calls Try.prog 17 #[.agg #[.slice a x.h.length cap, .slice a' x.b.length cap']] w fun e w' => ∃ (a2 : Option Addr) (c2 : Nat) (L : List Ins), e = .returned (.tuple #[.slice a2 L.length c2, .int .i64 0]) ∧ Row w' a2 c2 L ∧ L = compS h bl ∧ Below w.heap.size w w' := by
  refine (compileY a cap a' cap' w x h bl _ _ hT rfl rfl hr hr').mono ?_
  rintro e w' ⟨a2, c2, rfl, hr, hb⟩
  exact ⟨a2, c2, _, rfl, hr.row, rfl, hb⟩
end Go.Proofs.Ytkkiemideldioaa
namespace Go.Proofs.Ytkkiemideldioaa
open Go.RowKit

theorem vars_len (xs : List Cel) : (varsL xs).length ≤ xs.length := by
  have := varsGo_length xs []; simpa [varsL] using this
theorem may_facts {hs : List Cel} {bs : List Lt} (h : mayB ⟨hs, bs⟩ = true) : bs.length ≤ 8 ∧ (∀ x ∈ bs, atomB x.t = true) ∧ atomB hs = true := by
  simp [mayB] at h; exact ⟨h.1.1, h.1.2, h.2⟩
theorem safe_step {bd : List Int} {bs : List Lt} {k : Nat} (hk : k < bs.length) : safeGo bd (bs.drop k) = if bs[k].neg && !withinB (varsL bs[k].t) bd then none else safeGo (bd ++ varsL bs[k].t) (bs.drop (k + 1)) := by
  rw [List.drop_eq_getElem_cons hk]; rfl
theorem keepB {B : Nat} {w w' : World} {b o : Nat} {v : Value} (hb : Below B w w') (h : w.cell? ⟨b, o, none⟩ = some v) (hl : b < B) : w'.cell? ⟨b, o, none⟩ = some v :=
  (hb.cell (p := ⟨b, o, none⟩) hl).trans h
def bndB (hs : List Cel) : Option (List Int) → Bool
  | none => false
  | some bd => withinB (varsL hs) bd
theorem safe_eq {hs : List Cel} {bs : List Lt} (h : mayB ⟨hs, bs⟩ = true) : safeB ⟨hs, bs⟩ = bndB hs (safeGo [] bs) := by
  simp only [safeB, h, Bool.true_and]
  cases safeGo [] bs <;> rfl

end Go.Proofs.Ytkkiemideldioaa
namespace Go.Proofs.Ytkkiemideldioaa
open Go.RowKit

/-- the program's row of variables is new -/
theorem vars_newP (a : Option Addr) (cap : Nat) (w : World) (xs : List Cel) (hr : Row w a cap xs) (hl : xs.length ≤ 1000000) :
    Calls Try.prog 135 #[.slice a xs.length cap] w fun e w' => ∃ a' cap', e = .returned (.slice a' (varsL xs).length cap') ∧ NewRow (w.heap.size + 1) w' a' cap' (varsL xs) ∧ Below w.heap.size w w' :=
  (vars_own a cap w xs hr hl).mono fun _ w' ⟨a', cap', he, ho, _, hb⟩ => by
    refine ⟨a', cap', he, ?_, hb⟩
    obtain ⟨a2, cap2, e2, hn⟩ := own_newG (α := Int) (xs := varsL xs) ho (crows_ints _ (varsGo_fit xs hr.fit [] (by simp)))
    injection e2 with e3 e4 e5
    subst e3; subst e5
    exact hn

theorem within_sub {a bd : List Int} (h : withinB a bd = true) (n : Int) : decide (n ∈ bd ++ a) = decide (n ∈ bd) := by
  by_cases h1 : n ∈ bd
  · simp [h1]
  · have : n ∉ a := fun h2 => by
      have := List.all_eq_true.1 h n h2
      simp at this; exact h1 this
    simp [h1, this]
theorem mem_next {vs bd : List Int} {k : Nat} (hk : k < vs.length) {f : Int → Bool} (h : ∀ i, f i = decide (i ∈ bd ++ vs.take k)) : ∀ i, (if i = vs[k] then true else f i) = decide (i ∈ bd ++ vs.take (k + 1)) := by
  intro i
  rw [List.take_succ_eq_append_getElem hk]
  by_cases e : i = vs[k]
  · simp only [List.mem_append, List.mem_singleton, e, or_true, decide_true, if_true]
  · rw [if_neg e, h]; simp only [List.mem_append, List.mem_singleton, e, or_false]

end Go.Proofs.Ytkkiemideldioaa
namespace Go.Proofs.Ytkkiemideldioaa
open Go.RowKit

theorem predOf_fit {xs : List Cel} (hf : ∀ c ∈ xs, c.fit) (h0 : 0 < xs.length) : (predOf xs).fit := by
  rw [predOf_at h0]
  have := hf xs[0] (List.getElem_mem h0)
  exact ⟨this.s, this.n1, this.n2⟩
theorem set2 (B : Nat) (w : World) (x y : Value) : Below B w ((w.setCell ⟨B, 0, none⟩ x).setCell ⟨B, 1, none⟩ y) := ((Below.refl B w).setCell (Nat.le_refl _) _).setCell (Nat.le_refl _) _

end Go.Proofs.Ytkkiemideldioaa
namespace Go.Proofs.Ytkkiemideldioaa
open Go.RowKit

theorem Pd.eq_iff (x y : Pd) : x = y ↔ x.s = y.s ∧ x.n = y.n := by
  cases x; cases y; simp
theorem Lk.eq_iff (x y : Lk) : x = y ↔ x.f = y.f ∧ x.t = y.t ∧ x.neg = y.neg := by
  cases x; cases y; simp
theorem Try.infoClause : (Try.prog.info? 25).map (fun i => (i.zero, i.size, i.bytes)) = some (some (.agg #[.slice none 0 0, .slice none 0 0]), 2, 48) := by kernel_rfl
theorem Try.infoLit : (Try.prog.info? 55).map (fun i => (i.zero, i.size, i.bytes)) = some (some (.agg #[.bool false, .slice none 0 0]), 2, 32) := by kernel_rfl
end Go.Proofs.Ytkkiemideldioaa
set_option linter.unusedVariables false
namespace Go.Proofs.Ytkkiemideldioaa
open Go.RowKit

/-! ### the document's Number -/
set_option maxHeartbeats 1600000 in
theorem turn10_any (a : Option Addr) (cap : Nat) (av : Option Addr) (capv : Nat) (w : World) (xs : List Cel) (V : List Int) (hr : Row w a cap xs) (hrv : Row w av capv V) (hl : xs.length ≤ 1000000) (hvl : V.length ≤ 1000000) :
    Calls Try.prog 70 #[.slice a xs.length cap, .slice av V.length capv] w fun e w' => ∃ a' cap', e = .returned (.slice a' xs.length cap') ∧ AccInv w.heap.size 45 (xs.map (numC V)) (.slice a' xs.length cap') w' ∧ Below w.heap.size w w' := by
  have hm := hr.max
  have hle := hr.le
  have hfit := mkHid hr.fit
  have hmv := hrv.max
  have hlev := hrv.le
  have hml : (xs.map (numC V)).length = xs.length := by simp
  have HML := mkHid hml
  have hfm : ∀ c ∈ xs.map (numC V), c.fit := fun c hc => by
    obtain ⟨c', hc', rfl⟩ := List.mem_map.1 hc
    exact numC_fit (by omega) (hfit.out c' hc')
  have HFM := mkHid hfm
  clear hml hfm
  by_cases h0 : xs.length = 0
  · have hx : xs = [] := List.length_eq_zero_iff.1 h0
    subst hx
    have hb1 := (Below.refl w.heap.size w).new (.cells #[] 45)
    have HB1 := mkHid hb1
    clear hb1
    go_enter Try.func70, Try.ntmps70
    go_wp2_with (at_builtin; go_loud (refine wpList_app rfl _ _ 22 rfl w.heap.size 45 3 32 _ Try.underlying22 Try.infoCell rfl (by decide) (by decide) _ 0 [] rfl (World.ownsRow_made (base := w.heap.size) (e := 45) (size := 3) w #[] 0 (Nat.le_refl _) (by unfold maxLen; omega) rfl) a 0 cap (flat []) (by rfl) ((hr.below ((Below.refl w.heap.size w).new (.cells #[] 45))).src) (by omega) (by simp) ?_); intro v w2 hown _ hb2)
    have hb12 := ((Below.refl w.heap.size w).new (.cells #[] 45)).trans hb2
    obtain ⟨a2, c2, ev, hrow⟩ := own_new (xs := []) (by simpa using hown) (by simp)
    subst ev
    have HB12 := mkHid hb12
    have HROW : Hid (AccInv w.heap.size 45 (([] : List Cel).map (numC V)) (.slice a2 0 c2) w2) := ⟨flat [], by have h := hown; simp at h; exact h, .nil⟩
    clear hb12 hrow hown hb2
    go_loopw [6] (fun i wr => i = .int .i64 0 ∧ wr = w2) (fun _ _ => 0)
    case atStart => exact ⟨rfl, rfl⟩
    case round =>
      obtain ⟨rfl, rfl⟩ := hrel
      go_wp2_with fail
      go_ret
      exact ⟨a2, c2, rfl, HROW.out, HB12.out⟩
  · have h0 : 0 < xs.length := by omega
    go_enter Try.func70, Try.ntmps70
    go_wp2_with (at_builtin; refine wpList_app rfl _ _ 22 rfl w.heap.size 45 3 32 _ Try.underlying22 Try.infoCell rfl (by decide) (by decide) _ 0 [] rfl (World.ownsRow_made (base := w.heap.size) (e := 45) (size := 3) w #[] 0 (Nat.le_refl _) (by unfold maxLen; omega) rfl) a xs.length cap (flat xs) rfl ((hr.below ((Below.refl w.heap.size w).new (.cells #[] 45))).src) (by omega) (by simp) ?_; intro v w2 hown _ hb2)
    rw [Nat.zero_add, List.nil_append] at hown
    have hbl2 := ((Below.refl w.heap.size w).new (.cells #[] 45)).trans hb2
    obtain ⟨g, cp, rfl, hg1, hg2, hg3, hg4⟩ := own_form hown h0
    have hrv2 := hrv.keeps (fresh_keeps (Keeps.of hbl2) hg1)
    go_loopw [6] (fun i wr => ∃ k : Nat, k ≤ xs.length ∧ i = .int .i64 k ∧ wr.ownsRow w.heap.size 45 3 (.slice (some ⟨g, 0, none⟩) xs.length cp) xs.length (flat (upTo (numC V) xs k)) ∧ Below w.heap.size w wr ∧ Row (hide (some g) wr) av capv V) (fun i wr => xs.length - (intOf i).toNat)
    case atStart => exact ⟨0, Nat.zero_le _, rfl, by rw [upTo_zero]; exact hown, hbl2, hrv2⟩
    case round =>
      clear hown hrv2
      obtain ⟨k, hk, rfl, hown, hbl, hrv⟩ := hrel
      have hgl := (hown.lt g rfl).2
      have hgb := (hown.lt g rfl).1
      by_cases hlt : k < xs.length
      · obtain ⟨o0, _, o2⟩ := own_cel hown (upTo_at _ _ hlt)
        have hf := hfit.out _ (List.getElem_mem hlt)
        by_cases h1 : xs[k].k = 1
        · have t1 : (xs[k].k == 1) = true := by simp [h1]
          go_wp2_with (go_at_call 128; refine (refplace_any av capv xs[k].n _ V (hrv.keeps (hide_keeps _ _))).mono ?_; rintro e w3 ⟨rfl, hb3⟩; have hown3 := own_below hown hb3; have o2' := keep o2 hb3; have hfz := own_free hown3 (k * 3 + 2); have HS := mkHid (own_store hown3 hlt (show numC V xs[k] = ⟨xs[k].k, xs[k].s, placeI V xs[k].n⟩ from if_pos h1)); clear h1 o0 o2)
          go_round
          case rel => exact ⟨k + 1, by omega, by go_num, HS.out, (hbl.then hb3).setCell (by show w.heap.size ≤ g; omega) _, (hrv.keeps (below_hide hb3 _)).keeps (grown_keeps (grown_set w3 g (k * 3 + 2) _))⟩
          case measure => simp [intOf]; omega
        · have t1 : (xs[k].k == 1) = false := by simp [h1]
          have HE := mkHid (upTo_same (numC V) xs hlt (if_neg h1))
          clear h1
          go_wp2
          go_round
          case rel => exact ⟨k + 1, by omega, by go_num, by rw [HE.out]; exact hown, hbl, hrv⟩
          case measure => simp [intOf]; omega
      · have hu := upTo_all (numC V) xs (k := k) (by omega)
        rw [hu] at hown
        obtain ⟨a2, cap2, ev, hrow⟩ := own_new (xs := xs.map (numC V)) (by rw [HML.out]; exact hown) HFM.out
        rw [HML.out] at ev
        injection ev with ev1 _ ev2
        subst ev1
        subst ev2
        clear hu
        have HROW : Hid (AccInv w.heap.size 45 (xs.map (numC V)) (.slice (some ⟨g, 0, none⟩) xs.length cp) wr) := ⟨_, by rw [HML.out]; exact hown, crows_flat _ HFM.out⟩
        clear hrow
        go_wp2_with fail
        go_ret
        exact ⟨some ⟨g, 0, none⟩, cp, rfl, HROW.out, hbl⟩
set_option maxHeartbeats 800000 in
theorem refvarsN_any (a : Option Addr) (cap : Nat) (w : World) (xs : List Cel) (hr : Row w a cap xs) (hl : xs.length ≤ 1000000) :
    Calls Try.prog 68 #[.slice a xs.length cap] w fun e w' => ∃ a' cap', e = .returned (.slice a' (varsL xs).length cap') ∧ AccInv w.heap.size 3 (varsL xs) (.slice a' (varsL xs).length cap') w' ∧ Below w.heap.size w w' := by
  have hc := hr.le
  have hc2 := hr.max
  have hm0 := World.ownsRow_made (base := w.heap.size) (e := 3) (size := 1) w #[] 0 (Nat.le_refl _) (by unfold maxLen; omega) rfl
  have hb0 := (Below.refl w.heap.size w).new (.cells #[] 3)
  go_enter Try.func68, Try.ntmps68
  go_wp2_with fail
  go_loopw [3, 4] (fun v i wr => ∃ (k : Nat) (acc : List Int), k ≤ xs.length ∧ acc.length ≤ k ∧ i = .int .i64 k ∧ wr.ownsRow w.heap.size 3 1 v acc.length (acc.map (Value.int .i64)) ∧ Below w.heap.size w wr ∧ (∀ n ∈ acc, -9223372036854775808 ≤ n ∧ n ≤ 9223372036854775807) ∧ Hid (varsL xs = varsGo acc (xs.drop k))) (fun v i wr => xs.length - (intOf i).toNat)
  case atStart => exact ⟨0, [], Nat.zero_le _, Nat.zero_le _, rfl, hm0, hb0, by simp, rfl⟩
  case round =>
    obtain ⟨k, acc, hk, hak, rfl, hown, hbl, haf, HS⟩ := hrel
    obtain ⟨a', cap', rfl, hrowN⟩ := own_rowI (under_own hown) haf
    have hrow := Row.keeps hrowN (under_keeps _ _)
    clear hrowN
    have HA := mkHid haf
    by_cases hlt : k < xs.length
    · obtain ⟨b, off, rfl, hb, hat⟩ := hr.cases.resolve_left (fun e => by simp [e] at hlt)
      obtain ⟨c0, c1, c2, hf⟩ := cel_at hat hbl hlt
      have hst := varsGo_step acc xs k hlt
      by_cases h1 : xs[k].k = 1
      · have t1 : (xs[k].k == 1) = true := by simp [h1]
        by_cases h2 : xs[k].n ∈ acc
        · have HT : Hid (varsL xs = varsGo acc (xs.drop (k + 1))) := by rw [Hid, HS.out, hst, if_neg (by simp [h2])]
          have hd := mkHid (decide_eq_true h2)
          clear h1 h2 HS hst haf
          go_wp2_with (go_at_call 69; refine (refin_any a' cap' xs[k].n _ acc hrow).mono ?_; rintro e w' ⟨rfl, hb1⟩; rw [hd.out])
          go_round
          case rel => exact ⟨k + 1, acc, by omega, by omega, by go_num, own_below hown hb1, hbl.then hb1, HA.out, HT⟩
          case measure => simp [intOf]; omega
        · have HT : Hid (varsL xs = varsGo (acc ++ [xs[k].n]) (xs.drop (k + 1))) := by rw [Hid, HS.out, hst, if_pos ⟨h1, h2⟩]
          have hd := mkHid (decide_eq_false h2)
          clear h1 h2 HS hst haf
          go_wp2_with (first
            | (go_at_call 69; refine (refin_any a' cap' xs[k].n _ acc hrow).mono ?_; rintro e w' ⟨rfl, hb1⟩; rw [hd.out]; have d0 := keep c0 hb1; have d2 := keep c2 hb1; have hown1 := own_below hown hb1; have hbl1 := hbl.then hb1; clear c0 c1 c2)
            | (at_builtin; refine wpList_app rfl _ _ 58 rfl w.heap.size 3 1 8 _ Try.underlying58 Try.infoInt rfl (by decide) (by decide) _ acc.length _ rfl (hown1.alloc _) (some ⟨_, 0, none⟩) 1 1 [.int .i64 xs[k].n] rfl (src_new _ #[.int .i64 xs[k].n] _ 1 rfl (by simp [Value.oneCell'])) (by omega) (Nat.le_trans hbl1.size (by simp)) ?_; intro v' w2 hown2 _ hb2))
          go_round
          case rel => exact ⟨k + 1, acc ++ [xs[k].n], by omega, by simp; omega, by go_num, by simpa using hown2, (hbl1.new _).trans hb2, out_fit HA.out hf.n1 hf.n2, HT⟩
          case measure => simp [intOf]; omega
      · have t1 : (xs[k].k == 1) = false := by simp [h1]
        have HT : Hid (varsL xs = varsGo acc (xs.drop (k + 1))) := by rw [Hid, HS.out, hst, if_neg (fun h => h1 h.1)]
        clear h1 HS hst haf
        go_wp2
        go_round
        case rel => exact ⟨k + 1, acc, by omega, by omega, by go_num, hown, hbl, HA.out, HT⟩
        case measure => simp [intOf]; omega
    · have HT : Hid (varsL xs = acc) := by rw [Hid, HS.out, List.drop_eq_nil_of_le (by omega)]; rfl
      clear HS haf
      have HOWN := mkHid hown
      clear hown
      go_wp2
      go_ret
      exact ⟨a', cap', by rw [HT.out]; rfl, by rw [HT.out]; exact ⟨_, HOWN.out, crows_ints _ HA.out⟩, hbl⟩
end Go.Proofs.Ytkkiemideldioaa
set_option linter.unusedVariables false
namespace Go.Proofs.Ytkkiemideldioaa
open Go.RowKit

theorem addL_len : ∀ (w V : List Int), (addL V w).length ≤ V.length + w.length
  | [], V => by simp [addL]
  | y :: w, V => by
    have h := addL_len w (if y ∈ V then V else V ++ [y])
    show (addL (if y ∈ V then V else V ++ [y]) w).length ≤ _
    split at h <;> simp at h ⊢ <;> split <;> simp_all <;> omega
theorem addL_next (V w : List Int) {k : Nat} (hk : k < w.length) : addL V (w.take (k + 1)) = if w[k] ∈ addL V (w.take k) then addL V (w.take k) else addL V (w.take k) ++ [w[k]] := by
  rw [List.take_succ_eq_append_getElem hk, addL_app]
  rfl
theorem vars_next (V : List Int) (cs : List (List Cel)) {i : Nat} (hi : i < cs.length) : (cs.take (i + 1)).foldl varsGo V = varsGo ((cs.take i).foldl varsGo V) cs[i] := by
  rw [List.take_succ_eq_append_getElem hi, List.foldl_append]
  rfl
theorem varsF_len : ∀ (cs : List (List Cel)) (V : List Int) (m : Nat), (∀ c ∈ cs, c.length ≤ m) → (cs.foldl varsGo V).length ≤ V.length + m * cs.length
  | [], V, m, _ => by simp
  | c :: cs, V, m, h => by
    have h1 := varsF_len cs (varsGo V c) m fun d hd => h d (List.mem_cons_of_mem _ hd)
    have h2 := varsGo_length c V
    have h3 := h c List.mem_cons_self
    rw [List.foldl_cons, List.length_cons, Nat.mul_add]
    omega
theorem AccInv.newI10 {B e n : Nat} {acc : List Int} {a : Option Addr} {c : Nat} {w : World} (h : AccInv B e acc (.slice a n c) w) : n = acc.length ∧ NewRow B w a c acc := by
  obtain ⟨vs, ho, hc⟩ := h.ex
  obtain ⟨a', c', e1, hr⟩ := own_newG ho (hc.anyN fun h => h)
  injection e1 with e1 e2 e3
  subst e1
  subst e3
  exact ⟨e2, hr⟩
theorem RowsN.snoc {W : World} {B : Nat} {ls : List LitV} {cs : List (List Cel)} (h : RowsN W B ls cs) (hl : ls.length = cs.length) {l : LitV} {c : List Cel} (ha : AccInv B 45 c l.v W) : RowsN W B (ls ++ [l]) (cs ++ [c]) :=
  ⟨fun k l' c' q1 q2 => by
    by_cases hk : k < ls.length
    · rw [List.getElem?_append_left hk] at q1
      rw [List.getElem?_append_left (by omega)] at q2
      exact h.at_ k l' c' q1 q2
    · rw [List.getElem?_append_right (by omega)] at q1
      rw [List.getElem?_append_right (by omega), ← hl] at q2
      cases hkk : k - ls.length with
      | zero => rw [hkk] at q1 q2; simp at q1 q2; subst q1; subst q2; exact ha
      | succ m => rw [hkk] at q1; simp at q1⟩
theorem RowsN.pushed {v1 w7 : World} {B B2 : Nat} {ls ls2 : List LitV} {cs : List (List Cel)} {v : Value} {o : Obj} (h : RowsN v1 B ls cs) (hA : AccInv B2 55 ls2 v v1) (hg : (v1.alloc o).grownBy w7 v.ownBlock) : RowsN w7 B ls cs :=
  ⟨fun k l c q1 q2 => (h.at_ k l c q1 q2).blockN (fun h => h) fun b e => by
    have hlt := ((h.at_ k l c q1 q2).lt b e).2
    rw [hg.block b (by simp; omega) (fun e2 => by
      obtain ⟨cs1, q3⟩ := own_typeG hA e2.symm
      obtain ⟨cs2, q4⟩ := own_typeG (h.at_ k l c q1 q2) e
      rw [q3] at q4
      simp at q4), heap_alloc_old _ _ hlt]⟩
def numLt (V : List Int) (y : Lt) : Lt := ⟨y.neg, y.t.map (numC V)⟩
theorem zip_num (V : List Int) : ∀ (ls : List LitV) (bs : List Lt), ls.map LitV.neg = bs.map Lt.neg → List.zipWith ltOf ls ((bs.map Lt.t).map fun c => c.map (numC V)) = bs.map (numLt V)
  | [], [], _ => rfl
  | [], b :: bs, h => by simp at h
  | l :: ls, [], h => by simp at h
  | l :: ls, b :: bs, h => by
    rw [List.map_cons, List.map_cons, List.cons.injEq] at h
    rw [List.map_cons, List.map_cons, List.map_cons, List.zipWith_cons_cons, zip_num V ls bs h.2]
    unfold ltOf numLt
    rw [h.1]
theorem set1_cl {W : World} {k : Nat} {u v : Value} (h : W.heap[k]? = some (.cells #[u, v] 25 (0, 0))) (x : Value) : (W.setCell ⟨k, 1, none⟩ x).heap[k]? = some (.cells #[u, x] 25 (0, 0)) := by
  unfold World.setCell
  rw [Array.getElem?_modify, if_pos rfl, h]
  rfl
/-- what the document's Number makes of a clause -/
def Num10Post (w : World) (x : Cl) (e : Ending) (w' : World) : Prop := ∃ a c a' c', e = .returned (.agg #[.slice a x.h.length c, .slice a' x.b.length c']) ∧ Row w' a c (numClL x).h ∧ Row w' a' c' (numClL x).b ∧ Below w.heap.size w w'
theorem numClL_h (x : Cl) : (numClL x).h.length = x.h.length := by simp [numClL]
theorem numClL_b (x : Cl) : (numClL x).b.length = x.b.length := by simp [numClL]
set_option maxRecDepth 100000 in
set_option maxHeartbeats 6400000 in
theorem number10_any (a : Option Addr) (c : Nat) (a' : Option Addr) (c' : Nat) (w : World) (x : Cl) (hx : Row w a c x.h) (hx' : Row w a' c' x.b) (h1 : x.h.length ≤ 100000) (h2 : ∀ y ∈ x.b, y.t.length ≤ 400) (h3 : x.b.length ≤ 500) :
    Calls Try.prog 26 #[.agg #[.slice a x.h.length c, .slice a' x.b.length c']] w (Num10Post w x) := by
  have hm3 := hx'.max
  have hm4 := hx'.le
  have HH2 := mkHid h2
  obtain ⟨W, hW⟩ : ∃ W, (w.alloc (.cells #[.slice a x.h.length c, .slice a' x.b.length c'] 25)).alloc (.cells #[.slice none 0 0, .slice none 0 0] 25) = W := ⟨_, rfl⟩
  have hb0 : Below w.heap.size w W := by rw [← hW]; exact ((Below.refl w.heap.size w).new _).new _
  have p0 : W.cell? ⟨w.heap.size, 0, none⟩ = some (.slice a x.h.length c) := by
    rw [← hW]; exact keep (World.cell?_alloc_at _ _ w.heap.size 0 rfl) ((Below.refl _ _).new _)
  have p1 : W.cell? ⟨w.heap.size, 1, none⟩ = some (.slice a' x.b.length c') := by
    rw [← hW]; exact keep (World.cell?_alloc_at _ _ w.heap.size 1 rfl) ((Below.refl _ _).new _)
  have hz : W.heap[w.heap.size + 1]? = some (.cells #[.slice none 0 0, .slice none 0 0] 25 (0, 0)) := by
    rw [← hW]
    have e : w.heap.size + 1 = (w.alloc (.cells #[.slice a x.h.length c, .slice a' x.b.length c'] 25)).heap.size := by simp
    rw [e]
    exact heap_alloc_new _ _
  have hsz : W.heap.size = w.heap.size + 2 := by rw [← hW]; simp
  have HB0 := mkHid hb0
  have HZ := mkHid hz
  have HSZ := mkHid hsz
  have HX := mkHid (hx.below hb0)
  have HX1 := mkHid (hx'.below hb0)
  clear hx hx' hb0 hz hsz h2
  go_enter Try.func26, Try.ntmps26
  go_wp2_with fail
  first | rw [hW] | skip
  clear hW
  refine (refvarsN_any a c W x.h HX.out (by omega)).mono ?_
  rintro e w1 ⟨av, cv, rfl, hA, hb1⟩
  have HA := mkHid hA
  have HB1 := mkHid hb1
  have hvl := varsGo_length x.h []
  rw [show varsGo [] x.h = varsL x.h from rfl, List.length_nil, Nat.zero_add] at hvl
  have r0 := keep p0 hb1
  have r1 := keep p1 hb1
  clear hA hb1 p0 p1
  go_wp2_with fail
  obtain ⟨cs, hcs⟩ : ∃ cs, x.b.map Lt.t = cs := ⟨_, rfl⟩
  have HCS := mkHid hcs
  have hcl : Hid (cs.length = x.b.length) := by rw [Hid, ← hcs, List.length_map]
  have hc4 : Hid (∀ d ∈ cs, d.length ≤ 400) := by
    rw [Hid, ← hcs]
    intro d hd
    obtain ⟨y, hy, rfl⟩ := List.mem_map.1 hd
    exact HH2.out y hy
  clear hcs
  go_loopw [3, 4, 5, 6] (fun v i _ _ wr => ∃ (k : Nat) (V : List Int), k ≤ x.b.length ∧ i = .int .i64 k ∧ Hid (AccInv W.heap.size 3 V v wr) ∧ Hid (Below W.heap.size W wr) ∧ wr.cell? ⟨w.heap.size, 0, none⟩ = some (.slice a x.h.length c) ∧ wr.cell? ⟨w.heap.size, 1, none⟩ = some (.slice a' x.b.length c') ∧ Hid (V = (cs.take k).foldl varsGo (varsL x.h))) (fun _ i _ _ wr => x.b.length - (intOf i).toNat)
  case atStart => exact ⟨0, varsL x.h, Nat.zero_le _, rfl, HA, HB1, r0, r1, rfl⟩
  case round =>
    clear HA r0 r1
    obtain ⟨k, V, hk, rfl, HA, HB, r0, r1, HV⟩ := hrel
    have hVl : V.length ≤ 300000 := by
      have e := HV.out
      have h5 := varsF_len (cs.take k) (varsL x.h) 400 fun d hd => hc4.out d (List.mem_of_mem_take hd)
      rw [← e, List.length_take] at h5
      omega
    by_cases hlt : k < x.b.length
    · have HXR := mkHid (HX1.out.below HB.out)
      obtain ⟨bb, off, hab, hb, hat⟩ := (HX1.out).cases.resolve_left (fun e => by simp [e] at hlt)
      subst hab
      obtain ⟨a1, cap1, c0, c1, hr1⟩ := lt_at hat HB.out hlt
      have hkc : k < cs.length := by rw [hcl.out]; exact hlt
      have htk : cs[k] = x.b[k].t := by have := HCS.out; subst this; simp
      have HNX : Hid ((cs.take (k + 1)).foldl varsGo (varsL x.h) = addL V (varsL x.b[k].t)) := by
        rw [Hid, vars_next _ _ hkc, ← HV.out, addL_vars, htk]
      have hl4 : x.b[k].t.length ≤ 400 := HH2.out _ (List.getElem_mem hlt)
      have hwl := varsGo_length x.b[k].t []
      rw [show varsGo [] x.b[k].t = varsL x.b[k].t from rfl, List.length_nil, Nat.zero_add] at hwl
      have HR1 := mkHid hr1
      clear hat hr1 hkc htk HV
      go_wp2_with fail
      refine (refvarsN_any a1 cap1 _ x.b[k].t HR1.out (by omega)).mono ?_
      rintro e w3 ⟨aw, cw, rfl, hrw, hb3⟩
      have HRW := mkHid (HA.out.newer (Nat.le_refl _) hrw.newI10.2)
      have HA3 := mkHid (HA.out.below hb3)
      have HB3 := mkHid (HB.out.then hb3)
      have s0 := keep r0 hb3
      have s1 := keep r1 hb3
      clear hrw hb3 HA HB r0 r1 c0 c1 HXR
      obtain ⟨ws, hwse⟩ : ∃ ws, varsL x.b[k].t = ws := ⟨_, rfl⟩
      rw [hwse] at HNX hwl HRW ⊢
      clear hwse
      go_wp2_with fail
      go_loopw [3, 6] (fun v i wr => ∃ (j : Nat) (U : List Int), j ≤ ws.length ∧ i = .int .i64 j ∧ Hid (AccInv W.heap.size 3 U v wr) ∧ Hid (Below W.heap.size W wr) ∧ wr.cell? ⟨w.heap.size, 0, none⟩ = some (.slice a x.h.length c) ∧ wr.cell? ⟨w.heap.size, 1, none⟩ = some (.slice (some ⟨bb, off, none⟩) x.b.length c') ∧ Hid (Row (hide v.ownBlock wr) aw cw ws) ∧ Hid (U = addL V (ws.take j))) (fun v i wr => ws.length - (intOf i).toNat)
      case atStart => exact ⟨0, V, Nat.zero_le _, rfl, HA3, HB3, s0, s1, HRW, rfl⟩
      case round =>
        clear HA3 HB3 s0 s1 HRW
        obtain ⟨j, U, hj, rfl, HA, HB, s0, s1, HRW, HU⟩ := hrel
        have hUl : U.length ≤ 400000 := by
          have e := HU.out
          have h5 := addL_len (ws.take j) V
          rw [← e, List.length_take] at h5
          omega
        obtain ⟨aU, cU, rfl, hrU⟩ := HA.out.row
        have hrU1 := hrU.max
        have hrU2 := hrU.le
        have hrw := HRW.out.keeps (hide_keeps _ _)
        have hrw1 := hrw.max
        have hrw2 := hrw.le
        have HRU := mkHid hrU
        by_cases hltj : j < ws.length
        · obtain ⟨b2, off2, hab2, hb2, hat2⟩ := hrw.cases.resolve_left (fun e => by simp [e] at hltj)
          subst hab2
          obtain ⟨q0, f1, f2⟩ := int_at hat2 (Below.refl _ _) hltj
          have HAT := mkHid hat2
          have HN2 := mkHid (addL_next V ws hltj)
          rw [← HU.out] at HN2
          clear hrU hrw hat2
          by_cases hin : ws[j] ∈ U
          · have HD := mkHid (decide_eq_true hin)
            have HUN : Hid (U = addL V (ws.take (j + 1))) := by rw [Hid, HN2.out, if_pos hin]
            clear hin HN2
            go_wp2_with fail
            refine (refin_any aU cU ws[j] _ U HRU.out).mono ?_
            rintro e w4 ⟨rfl, hb4⟩
            rw [HD.out]
            have HA4 := mkHid (HA.out.below hb4)
            have HB4 := mkHid (HB.out.then hb4)
            have HRW4 := mkHid (HRW.out.keeps (below_hide hb4 _))
            have y0 := keep s0 hb4
            have y1 := keep s1 hb4
            clear hb4 q0
            go_wp2_with fail
            go_round
            case rel => exact ⟨j + 1, U, by omega, by go_num, HA4, HB4, y0, y1, HRW4, HUN⟩
            case measure => simp [intOf]; omega
          · have HD := mkHid (decide_eq_false hin)
            have HUN : Hid (U ++ [ws[j]] = addL V (ws.take (j + 1))) := by rw [Hid, HN2.out, if_neg hin]
            clear hin HN2
            go_wp2_with fail
            refine (refin_any aU cU ws[j] _ U HRU.out).mono ?_
            rintro e w4 ⟨rfl, hb4⟩
            rw [HD.out]
            have HA4 := mkHid (HA.out.below hb4)
            have HB4 := mkHid (HB.out.then hb4)
            have HRW4 := mkHid (HRW.out.keeps (below_hide hb4 _))
            have y0 := keep s0 hb4
            have y1 := keep s1 hb4
            have q1 := keep q0 hb4
            clear hb4 q0
            go_wp2_with (at_builtin; go_loud (refine wpList_accN (α := Int) rfl _ _ 58 rfl W.heap.size 3 8 _ Try.underlying58 Try.infoInt rfl (by decide) _ U HA4.out (by rfl) _ #[.int .i64 ws[j]] ws[j] ⟨rfl, f1, f2⟩ (by rfl) (by omega) HB4.out.size ?_); intro v' w5 ha5 hg5 hw5)
            have hk5 : Keeps (hide (Value.ownBlock (.slice aU U.length cU)) w4) (hide v'.ownBlock w5) := (alloc_hide w4 _ _).trans (hide_next hg5 (by rw [World.size_alloc]; exact hw5))
            have hBl : Below W.heap.size w4 w5 := ((Below.refl W.heap.size w4).alloc HB4.out.size _).grown hg5 (by have := HB4.out.size; simp; omega) fun g hg => (HA4.out.lt g hg).1
            have HA5 := mkHid ha5
            have HB5 := mkHid (HB4.out.trans hBl)
            have HRW5 := mkHid (HRW4.out.keeps hk5)
            have z0 := keepB hBl y0 (by have := HSZ.out; omega)
            have z1 := keepB hBl y1 (by have := HSZ.out; omega)
            clear ha5 hg5 hw5 hk5 hBl
            go_wp2_with fail
            go_round
            case rel => exact ⟨j + 1, U ++ [ws[j]], by omega, by go_num, HA5, HB5, z0, z1, HRW5, HUN⟩
            case measure => simp [intOf]; omega
        · have HUE : Hid (U = (cs.take (k + 1)).foldl varsGo (varsL x.h)) := by
            rw [Hid, HNX.out, HU.out, List.take_of_length_le (by omega)]
          clear hrU hrw HU
          go_wp2_with fail
          go_round
          case rel => exact ⟨k + 1, U, by omega, by go_num, HA, HB, s0, s1, HUE⟩
          case measure => simp [intOf]; omega
    · have HVE : Hid (V = varsCl x.h (x.b.map Lt.t)) := by
        rw [Hid, HV.out, List.take_of_length_le (by have := hcl.out; omega), HCS.out]
        rfl
      clear HV
      obtain ⟨aV, cV, rfl, hrV⟩ := HA.out.row
      have HRV := mkHid hrV
      have HBW := mkHid (HB0.out.then HB.out)
      have HXR := mkHid (HX.out.below HB.out)
      have HXR1 := mkHid (HX1.out.below HB.out)
      have HZR := mkHid ((HB.out.block (w.heap.size + 1) (by have := HSZ.out; omega)).trans HZ.out)
      have hwr : w.heap.size + 2 ≤ wr.heap.size := by have h5 := HSZ.out; have h6 := HB.out.size; omega
      have HWR := mkHid hwr
      clear hrV HA HB hwr
      go_wp2_with fail
      refine (turn10_any a c aV cV wr x.h V HXR.out HRV.out (by omega) (by omega)).mono ?_
      rintro e w5 ⟨a5, c5, rfl, hn5, hb5⟩
      have HN5 := mkHid hn5
      have HBW5 := mkHid (HBW.out.then hb5)
      have HRV5 := mkHid (HRV.out.below hb5)
      have HX5 := mkHid (HXR1.out.below hb5)
      have HZ5 := mkHid ((hb5.block (w.heap.size + 1) (by have := HWR.out; omega)).trans HZR.out)
      have z0 := keep r0 hb5
      have z1 := keep r1 hb5
      have HWR5 : Hid (w.heap.size + 2 ≤ w5.heap.size) := by have h5 := HWR.out; have h6 := hb5.size; rw [Hid]; omega
      clear hn5 hb5 HRV HXR1 HZR r0 r1 HBW
      go_wp2_with fail
      have HNB := mkHid ((Below.refl w5.heap.size w5).new (.cells #[.slice a5 x.h.length c5, .slice none 0 0] 25))
      have HNC := mkHid (show (w5.alloc (.cells #[.slice a5 x.h.length c5, .slice none 0 0] 25)).heap[w5.heap.size]? = some (.cells #[.slice a5 x.h.length c5, .slice none 0 0] 25 (0, 0)) from heap_alloc_new _ _)
      go_loopw [8] (fun i wr => ∃ (k : Nat) (vb : Value), k ≤ x.b.length ∧ i = .int .i64 k ∧ Hid (Below w5.heap.size w5 wr) ∧ Hid (wr.heap[w5.heap.size]? = some (.cells #[.slice a5 x.h.length c5, vb] 25 (0, 0))) ∧ Hid (∃ ls, AccInv (w5.heap.size + 1) 55 ls vb wr ∧ RowsN wr (w5.heap.size + 1) ls (((x.b.take k).map Lt.t).map fun c => c.map (numC V)) ∧ ls.map LitV.neg = (x.b.take k).map Lt.neg)) (fun i wr => x.b.length - (intOf i).toNat)
      case atStart => exact ⟨0, .slice none 0 0, Nat.zero_le _, rfl, HNB, HNC, ⟨[], AccInv.nil _ _ _, ⟨fun k l c h => by simp at h⟩, rfl⟩⟩
      case round =>
        clear HNB HNC
        obtain ⟨lb, vb, hk, rfl, HB, HC, HAR⟩ := hrel
        obtain ⟨ls, hA, hR, hN⟩ := HAR.out
        obtain ⟨ab, cb, e7, _⟩ := hA.row
        have hll : ls.length = lb := by
          have h7 := congrArg List.length hN
          rw [List.length_map, List.length_map, List.length_take] at h7
          omega
        rw [hll] at e7
        subst e7
        have HA := mkHid hA
        have HR := mkHid hR
        have HN := mkHid hN
        have HLL := mkHid hll
        clear HAR hA hR hN hll
        have t0 : wr.cell? ⟨w5.heap.size, 0, none⟩ = some (.slice a5 x.h.length c5) := by rw [cell_of_row wr _ 0 _ _ _ HC.out]; rfl
        have t1 : wr.cell? ⟨w5.heap.size, 1, none⟩ = some (.slice ab lb cb) := by rw [cell_of_row wr _ 1 _ _ _ HC.out]; rfl
        have htf : wr.frozen? ⟨w5.heap.size, 1, none⟩ = false := by simp [World.frozen?, HC.out]
        have HTS := mkHid (cell_lt t1)
        have y0 := keep z0 HB.out
        have y1 := keep z1 HB.out
        by_cases hlt : lb < x.b.length
        · obtain ⟨bb, off, hab, hb, hat⟩ := (HX5.out).cases.resolve_left (fun e => by simp [e] at hlt)
          subst hab
          obtain ⟨a1, cap1, d0, d1, hr1⟩ := lt_at hat (Below.refl _ _) hlt
          have HS : Hid (∀ X, Below w5.heap.size w5 X → (fun X : World => X.cell? ⟨w.heap.size, 1, none⟩ = some (.slice (some ⟨bb, off, none⟩) x.b.length c') ∧ X.cell? ⟨bb, off + lb * 2, none⟩ = some (.bool x.b[lb].neg) ∧ X.cell? ⟨bb, off + lb * 2 + 1, none⟩ = some (.slice a1 x.b[lb].t.length cap1)) X) := fun X h => ⟨keep z1 h, keep d0 h, keep d1 h⟩
          have HR1 := mkHid hr1
          have hbl4 : x.b[lb].t.length ≤ 400 := HH2.out _ (List.getElem_mem hlt)
          have HTK : Hid (((x.b.take (lb + 1)).map Lt.t).map (fun c => c.map (numC V)) = ((x.b.take lb).map Lt.t).map (fun c => c.map (numC V)) ++ [x.b[lb].t.map (numC V)]) := by
            rw [Hid, List.take_succ_eq_append_getElem hlt, List.map_append, List.map_append]; rfl
          have HTN : Hid ((x.b.take (lb + 1)).map Lt.neg = (x.b.take lb).map Lt.neg ++ [x.b[lb].neg]) := by
            rw [Hid, List.take_succ_eq_append_getElem hlt, List.map_append]; rfl
          have hbd : Below wr.heap.size wr wr.drew := (Below.refl _ _).drew
          have HA0 := mkHid (HA.out.below hbd)
          have HR0 := mkHid (HR.out.rise (W' := wr.drew) fun _ _ _ => rfl)
          have HB0' := mkHid (HB.out.then hbd)
          have T1 := mkHid (keep t1 hbd)
          have TF : Hid (wr.drew.frozen? ⟨w5.heap.size, 1, none⟩ = false) := htf
          have HC0 : Hid (wr.drew.heap[w5.heap.size]? = some (.cells #[.slice a5 x.h.length c5, .slice ab lb cb] 25 (0, 0))) := HC.out
          have HTS0 : Hid (w5.heap.size < wr.drew.heap.size) := HTS.out
          have hle1 := hr1.le
          have hle2 := hr1.max
          clear hat hr1 htf
          go_wp2_with fail
          refine wp_region_noPanic ?_
          refine wp_region_held_drew (S := fun X : World => X.cell? ⟨w.heap.size, 1, none⟩ = some (.slice (some ⟨bb, off, none⟩) x.b.length c') ∧ X.cell? ⟨bb, off + lb * 2, none⟩ = some (.bool x.b[lb].neg) ∧ X.cell? ⟨bb, off + lb * 2 + 1, none⟩ = some (.slice a1 x.b[lb].t.length cap1)) (by kernel_rfl) (HS.out _ HB0'.out) (fun hSd => ?_)
          clear d0 d1 y0 y1 t0 t1
          obtain ⟨v0, hv0⟩ : ∃ X, wr.drew = X := ⟨_, rfl⟩
          rw [hv0] at HA0 HR0 HB0' T1 TF HC0 HTS0 hSd ⊢
          clear hv0 hbd
          refine wpAnyH_take (i := 0) (oi := _) (v := ?_) rfl (by kernel_rfl) (by kernel_rfl) (by kernel_rfl) (fun _ _ _ h => h) (Or.inl ⟨by rfl, ?_⟩) (by assumption) ?_
          rotate_left
          · (intro w' hSw; obtain ⟨z0, z1, z2⟩ := hSw; go_simp; try with_reducible rfl)
          (try simp only [List.getElem_toArray, List.getElem_cons_succ, List.getElem_cons_zero, Act.put, List.setIfInBounds_toArray, List.set_cons_zero, List.set_cons_succ])
          refine wpAnyH_take (i := 2) (oi := _) (v := ?_) rfl (by kernel_rfl) (by kernel_rfl) (by kernel_rfl) (fun _ _ _ h => h) (Or.inl ⟨by rfl, ?_⟩) (by assumption) ?_
          rotate_left
          · (intro w' hSw; obtain ⟨z0, z1, z2⟩ := hSw; go_simp; try with_reducible rfl)
          (try simp only [List.getElem_toArray, List.getElem_cons_succ, List.getElem_cons_zero, Act.put, List.setIfInBounds_toArray, List.set_cons_zero, List.set_cons_succ])
          refine wpAnyH_take (i := 3) (oi := _) (v := ?_) rfl (by kernel_rfl) (by kernel_rfl) (by kernel_rfl) (fun _ _ _ h => h) (Or.inl ⟨by rfl, ?_⟩) (by assumption) ?_
          rotate_left
          · (intro w' hSw; obtain ⟨z0, z1, z2⟩ := hSw; go_simp; try with_reducible rfl)
          (try simp only [List.getElem_toArray, List.getElem_cons_succ, List.getElem_cons_zero, Act.put, List.setIfInBounds_toArray, List.set_cons_zero, List.set_cons_succ])
          refine wpAnyH_take (i := 4) (oi := _) (v := ?_) rfl (by kernel_rfl) (by kernel_rfl) (by kernel_rfl) (fun _ _ _ h => h) (Or.inl ⟨by rfl, ?_⟩) (by assumption) ?_
          rotate_left
          · (intro w' hSw; obtain ⟨z0, z1, z2⟩ := hSw; go_simp; try with_reducible rfl)
          (try simp only [List.getElem_toArray, List.getElem_cons_succ, List.getElem_cons_zero, Act.put, List.setIfInBounds_toArray, List.set_cons_zero, List.set_cons_succ])
          refine wpAnyH_take (i := 5) (oi := _) (v := ?_) rfl (by kernel_rfl) (by kernel_rfl) (by kernel_rfl) (fun _ _ _ h => h) (Or.inl ⟨by rfl, ?_⟩) (by assumption) ?_
          rotate_left
          · (intro w' hSw; obtain ⟨z0, z1, z2⟩ := hSw; go_simp; try with_reducible rfl)
          (try simp only [List.getElem_toArray, List.getElem_cons_succ, List.getElem_cons_zero, Act.put, List.setIfInBounds_toArray, List.set_cons_zero, List.set_cons_succ])
          refine wpAnyH_take (i := 6) (oi := _) (v := ?_) rfl (by kernel_rfl) (by kernel_rfl) (by kernel_rfl) (fun _ _ _ h => h) (Or.inl ⟨by rfl, ?_⟩) (by assumption) ?_
          rotate_left
          · (intro w' hSw; obtain ⟨z0, z1, z2⟩ := hSw; go_simp; try with_reducible rfl)
          (try simp only [List.getElem_toArray, List.getElem_cons_succ, List.getElem_cons_zero, Act.put, List.setIfInBounds_toArray, List.set_cons_zero, List.set_cons_succ])
          refine wpAnyH_take (i := 7) (oi := _) (v := ?_) rfl (by kernel_rfl) (by kernel_rfl) (by kernel_rfl) (fun _ _ _ h => h) (Or.inl ⟨by rfl, ?_⟩) (by assumption) ?_
          rotate_left
          · (intro w' hSw; obtain ⟨z0, z1, z2⟩ := hSw; go_simp; try with_reducible rfl)
          (try simp only [List.getElem_toArray, List.getElem_cons_succ, List.getElem_cons_zero, Act.put, List.setIfInBounds_toArray, List.set_cons_zero, List.set_cons_succ])
          refine wpAnyH_take (i := 8) (oi := _) (v := ?_) rfl (by kernel_rfl) (by kernel_rfl) (by kernel_rfl) (fun _ _ _ h => h) (Or.inl ⟨by rfl, ?_⟩) (by assumption) ?_
          rotate_left
          · (intro w' hSw; obtain ⟨z0, z1, z2⟩ := hSw; go_simp; try with_reducible rfl)
          (try simp only [List.getElem_toArray, List.getElem_cons_succ, List.getElem_cons_zero, Act.put, List.setIfInBounds_toArray, List.set_cons_zero, List.set_cons_succ])
          refine wpAnyH_take (i := 9) (oi := _) (v := ?_) rfl (by kernel_rfl) (by kernel_rfl) (by kernel_rfl) (fun _ _ _ h => h) (Or.inl ⟨by rfl, ?_⟩) (by assumption) ?_
          rotate_left
          · (intro w' hSw; obtain ⟨z0, z1, z2⟩ := hSw; go_simp; try with_reducible rfl)
          (try simp only [List.getElem_toArray, List.getElem_cons_succ, List.getElem_cons_zero, Act.put, List.setIfInBounds_toArray, List.set_cons_zero, List.set_cons_succ])
          refine wpAnyH_take (i := 10) (oi := _) (v := ?_) rfl (by kernel_rfl) (by kernel_rfl) (by kernel_rfl) (fun _ _ _ h => h) (Or.inl ⟨by rfl, ?_⟩) (by assumption) ?_
          rotate_left
          · (intro w' hSw; obtain ⟨z0, z1, z2⟩ := hSw; go_simp; try with_reducible rfl)
          (try simp only [List.getElem_toArray, List.getElem_cons_succ, List.getElem_cons_zero, Act.put, List.setIfInBounds_toArray, List.set_cons_zero, List.set_cons_succ])
          refine wpAnyH_take (i := 11) (oi := _) (v := ?_) rfl (by kernel_rfl) (by kernel_rfl) (by kernel_rfl) (fun _ _ _ h => h) (Or.inl ⟨by rfl, ?_⟩) (by assumption) ?_
          rotate_left
          · (intro w' hSw; obtain ⟨z0, z1, z2⟩ := hSw; go_simp; try with_reducible rfl)
          (try simp only [List.getElem_toArray, List.getElem_cons_succ, List.getElem_cons_zero, Act.put, List.setIfInBounds_toArray, List.set_cons_zero, List.set_cons_succ])
          refine wpAnyH_take (i := 12) (oi := _) (v := ?_) rfl (by kernel_rfl) (by kernel_rfl) (by kernel_rfl) (fun _ _ _ h => h) (Or.inl ⟨by rfl, ?_⟩) (by assumption) ?_
          rotate_left
          · (intro w' hSw; obtain ⟨z0, z1, z2⟩ := hSw; go_simp; try with_reducible rfl)
          (try simp only [List.getElem_toArray, List.getElem_cons_succ, List.getElem_cons_zero, Act.put, List.setIfInBounds_toArray, List.set_cons_zero, List.set_cons_succ])
          refine wpAnyH_take (i := 13) (oi := _) (v := ?_) rfl (by kernel_rfl) (by kernel_rfl) (by kernel_rfl) (fun _ _ _ h => h) (Or.inl ⟨by rfl, ?_⟩) (by assumption) ?_
          rotate_left
          · (intro w' hSw; obtain ⟨z0, z1, z2⟩ := hSw; go_simp; try with_reducible rfl)
          (try simp only [List.getElem_toArray, List.getElem_cons_succ, List.getElem_cons_zero, Act.put, List.setIfInBounds_toArray, List.set_cons_zero, List.set_cons_succ])
          refine wpAnyH_take (i := 14) (oi := _) (v := ?_) rfl (by kernel_rfl) (by kernel_rfl) (by kernel_rfl) (fun _ _ _ h => h) (Or.inl ⟨by rfl, ?_⟩) (by assumption) ?_
          rotate_left
          · (intro w' hSw; obtain ⟨z0, z1, z2⟩ := hSw; go_simp; try with_reducible rfl)
          (try simp only [List.getElem_toArray, List.getElem_cons_succ, List.getElem_cons_zero, Act.put, List.setIfInBounds_toArray, List.set_cons_zero, List.set_cons_succ])
          refine wpAnyH_ready (rs := [1, 15]) (by kernel_rfl) (by simp) ?_
          refine AllReadyH.cons (o := _) rfl (fun K hK => ?_) ?_
          · skip
            have tl := T1.out
            go_simp
            try dsimp only
            refine hK.out _ _ (HS.out _ HB0'.out) (fun hSl => ?_)
            clear hK K tl
            (try simp only [List.getElem_toArray, List.getElem_cons_succ, List.getElem_cons_zero, Act.put, List.setIfInBounds_toArray, List.set_cons_zero, List.set_cons_succ])
            refine wpAnyH_ready (rs := [15]) (by kernel_rfl) (by simp) ?_
            refine AllReadyH.cons (o := _) rfl (fun K hK => ?_) AllReadyH.nil
            go_simp
            refine (turn10_any a1 cap1 aV cV v0 x.b[lb].t V ((HR1.out.below HB0'.out)) (HRV5.out.below HB0'.out) (by omega) (by omega)).mono ?_
            rintro e v1 ⟨a6, c6, rfl, hn6, hb6⟩
            have HB1' := mkHid (HB0'.out.then hb6)
            have HA1 := mkHid (HA0.out.below hb6)
            have HN6 := mkHid (hn6.baseN (B := w5.heap.size + 1) (by have h5 := HTS0.out; omega)); have HR1' := mkHid (HR0.out.rise (W' := v1) fun b _ h => hb6.block b h)
            have T2 := mkHid (keep T1.out hb6)
            have HC1 := mkHid ((hb6.block w5.heap.size HTS0.out).trans HC0.out)
            have HTS1 : Hid (w5.heap.size < v1.heap.size) := by have h5 := HTS0.out; have h6 := hb6.size; rw [Hid]; omega
            clear hn6
            try dsimp only
            refine hK.out _ _ (HS.out _ HB1'.out) (fun hSc => ?_)
            clear hK K hb6
            (try simp only [List.getElem_toArray, List.getElem_cons_succ, List.getElem_cons_zero, Act.put, List.setIfInBounds_toArray, List.set_cons_zero, List.set_cons_succ])
            refine wpAnyH_take (i := 16) (oi := _) (v := ?_) rfl (by kernel_rfl) (by kernel_rfl) (by kernel_rfl) (fun _ _ _ h => h) (Or.inl ⟨by rfl, ?_⟩) (by assumption) ?_
            rotate_left
            · (intro w' hSw; obtain ⟨z0, z1, z2⟩ := hSw; go_simp; try with_reducible rfl)
            (try simp only [List.getElem_toArray, List.getElem_cons_succ, List.getElem_cons_zero, Act.put, List.setIfInBounds_toArray, List.set_cons_zero, List.set_cons_succ])
            refine wpAnyH_ready (rs := [17]) (by kernel_rfl) (by simp) ?_
            refine AllReadyH.cons (o := _) rfl (fun K hK => ?_) AllReadyH.nil
            go_simp
            try dsimp only
            have HB2' := mkHid (HB1'.out.then ((Below.refl v1.heap.size v1).new (.cells #[.bool x.b[lb].neg, .slice a6 x.b[lb].t.length c6] 55)))
            have T3 := mkHid (keep T2.out ((Below.refl v1.heap.size v1).new (.cells #[.bool x.b[lb].neg, .slice a6 x.b[lb].t.length c6] 55)))
            refine hK.out _ _ (HS.out _ HB2'.out) (fun hSa => ?_)
            clear hK K
            (try simp only [List.getElem_toArray, List.getElem_cons_succ, List.getElem_cons_zero, Act.put, List.setIfInBounds_toArray, List.set_cons_zero, List.set_cons_succ])
            refine wpAnyH_ready (rs := [18]) (by kernel_rfl) (by simp) ?_
            refine AllReadyH.cons (o := _) rfl (fun K hK => ?_) AllReadyH.nil
            obtain ⟨v', w7, hrun, ha7, hg7, hw7⟩ := AccInv.run_pushN (P := Try.prog) (w := v1) 23 23 (w5.heap.size + 1) 55 32 (.agg #[.bool false, .slice none 0 0]) Try.underlying23 Try.infoLitN rfl (by decide) _ ls HA1.out 55 #[.bool x.b[lb].neg, .slice a6 x.b[lb].t.length c6] ⟨x.b[lb].neg, .slice a6 x.b[lb].t.length c6⟩ ⟨rfl, rfl⟩ (by have := HLL.out; omega) HTS1.out
            obtain ⟨a8, m8, c8, rfl⟩ := slice_ofN ha7
            have HBg : Hid (Below (w5.heap.size + 1) v1 w7) := ((Below.refl (w5.heap.size + 1) v1).alloc HTS1.out _).grown hg7 (by have := HTS1.out; simp; omega) fun g hg => (HA1.out.lt g hg).1
            have HB7 := mkHid (HB1'.out.trans (HBg.out.mono (by omega)))
            have HC7 := mkHid ((HBg.out.block w5.heap.size (by omega)).trans HC1.out)
            (rw [if_pos (by rfl)]; simp [Oper.wp, execOp, resolve, invoke, builtin, Oper.upon, Act.eval, hrun, Result.andThen, Sem.run_bind])
            try dsimp only
            refine hK.out _ _ (HS.out _ HB7.out) (fun hSp => ?_)
            clear hK K hrun
            (try simp only [List.getElem_toArray, List.getElem_cons_succ, List.getElem_cons_zero, Act.put, List.setIfInBounds_toArray, List.set_cons_zero, List.set_cons_succ])
            refine wpAnyH_take (i := 19) (oi := _) (v := ?_) rfl (by kernel_rfl) (by kernel_rfl) (by kernel_rfl) (fun _ _ _ h => h) (Or.inl ⟨by rfl, ?_⟩) (by assumption) ?_
            rotate_left
            · (intro w' hSw; obtain ⟨z0, z1, z2⟩ := hSw; go_simp; try with_reducible rfl)
            (try simp only [List.getElem_toArray, List.getElem_cons_succ, List.getElem_cons_zero, Act.put, List.setIfInBounds_toArray, List.set_cons_zero, List.set_cons_succ])
            refine wpAnyH_ready (rs := [20]) (by kernel_rfl) (by simp) ?_
            refine AllReadyH.cons (o := _) rfl (fun K hK => ?_) AllReadyH.nil
            have tl : w7.cell? ⟨w5.heap.size, 1, none⟩ = some (.slice ab lb cb) := by rw [cell_of_row w7 _ 1 _ _ _ HC7.out]; rfl
            have tf : w7.frozen? ⟨w5.heap.size, 1, none⟩ = false := by simp [World.frozen?, HC7.out]
            have HB8 := mkHid (show Below w5.heap.size w5 (w7.setCell ⟨w5.heap.size, 1, none⟩ (.slice a8 m8 c8)) from HB7.out.setCell (by simp) _)
            have HC8 := mkHid (set1_cl HC7.out (.slice a8 m8 c8))
            have HP7 := mkHid (HR1'.out.pushed HA1.out hg7)
            have HQ7 := mkHid ((HN6.out.blockN (fun h => h) fun b e => by
              have hlt := (HN6.out.lt b e).2
              rw [hg7.block b (by simp; omega) (fun e2 => by
                obtain ⟨cs1, q3⟩ := own_typeG HA1.out e2.symm
                obtain ⟨cs2, q4⟩ := own_typeG HN6.out e
                rw [q3] at q4
                simp at q4), heap_alloc_old _ _ hlt] : AccInv (w5.heap.size + 1) 45 (x.b[lb].t.map (numC V)) _ w7))
            have HA8 : Hid (∃ ls, AccInv (w5.heap.size + 1) 55 ls (.slice a8 m8 c8) (w7.setCell ⟨w5.heap.size, 1, none⟩ (.slice a8 m8 c8)) ∧ RowsN (w7.setCell ⟨w5.heap.size, 1, none⟩ (.slice a8 m8 c8)) (w5.heap.size + 1) ls (((x.b.take (lb + 1)).map Lt.t).map fun c => c.map (numC V)) ∧ ls.map LitV.neg = (x.b.take (lb + 1)).map Lt.neg) := by
              refine ⟨ls ++ [⟨x.b[lb].neg, .slice a6 x.b[lb].t.length c6⟩], ha7.blockN (fun h => h) (fun b e => Below.heap_setCell w7 ⟨w5.heap.size, 1, none⟩ _ b (by have := (ha7.lt b e).1; show b ≠ w5.heap.size; omega)), ?_, ?_⟩
              · rw [HTK.out]
                exact (HP7.out.snoc (by rw [HLL.out, List.length_map, List.length_map, List.length_take]; omega) HQ7.out).rise fun b h5 _ => Below.heap_setCell w7 ⟨w5.heap.size, 1, none⟩ _ b (by show b ≠ w5.heap.size; omega)
              · rw [HTN.out, List.map_append, HN.out]
                rfl
            go_simp
            try dsimp only
            refine hK.out _ _ (HS.out _ HB8.out) (fun hSz => ?_)
            clear hK K tl tf ha7 hg7 hw7
            (try simp only [List.getElem_toArray, List.getElem_cons_succ, List.getElem_cons_zero, Act.put, List.setIfInBounds_toArray, List.set_cons_zero, List.set_cons_succ])
            refine wpAnyH_done (by kernel_rfl) (NoPanic.normal ?_) _
            go_wp2_with fail
            go_round
            case rel => exact ⟨lb + 1, _, by omega, by go_num, HB8, HC8, HA8⟩
            case measure => simp [intOf]; omega
          refine AllReadyH.cons (o := _) rfl (fun K hK => ?_) AllReadyH.nil
          go_simp
          refine (turn10_any a1 cap1 aV cV v0 x.b[lb].t V ((HR1.out.below HB0'.out)) (HRV5.out.below HB0'.out) (by omega) (by omega)).mono ?_
          rintro e v1 ⟨a6, c6, rfl, hn6, hb6⟩
          have HB1' := mkHid (HB0'.out.then hb6)
          have HA1 := mkHid (HA0.out.below hb6)
          have HN6 := mkHid (hn6.baseN (B := w5.heap.size + 1) (by have h5 := HTS0.out; omega)); have HR1' := mkHid (HR0.out.rise (W' := v1) fun b _ h => hb6.block b h)
          have T2 := mkHid (keep T1.out hb6)
          have HC1 := mkHid ((hb6.block w5.heap.size HTS0.out).trans HC0.out)
          have HTS1 : Hid (w5.heap.size < v1.heap.size) := by have h5 := HTS0.out; have h6 := hb6.size; rw [Hid]; omega
          clear hn6
          try dsimp only
          refine hK.out _ _ (HS.out _ HB1'.out) (fun hSc => ?_)
          clear hK K hb6
          (try simp only [List.getElem_toArray, List.getElem_cons_succ, List.getElem_cons_zero, Act.put, List.setIfInBounds_toArray, List.set_cons_zero, List.set_cons_succ])
          refine wpAnyH_take (i := 16) (oi := _) (v := ?_) rfl (by kernel_rfl) (by kernel_rfl) (by kernel_rfl) (fun _ _ _ h => h) (Or.inl ⟨by rfl, ?_⟩) (by assumption) ?_
          rotate_left
          · (intro w' hSw; obtain ⟨z0, z1, z2⟩ := hSw; go_simp; try with_reducible rfl)
          (try simp only [List.getElem_toArray, List.getElem_cons_succ, List.getElem_cons_zero, Act.put, List.setIfInBounds_toArray, List.set_cons_zero, List.set_cons_succ])
          refine wpAnyH_ready (rs := [1, 17]) (by kernel_rfl) (by simp) ?_
          refine AllReadyH.cons (o := _) rfl (fun K hK => ?_) ?_
          · skip
            have tl := T2.out
            go_simp
            try dsimp only
            refine hK.out _ _ (HS.out _ HB1'.out) (fun hSl => ?_)
            clear hK K tl
            (try simp only [List.getElem_toArray, List.getElem_cons_succ, List.getElem_cons_zero, Act.put, List.setIfInBounds_toArray, List.set_cons_zero, List.set_cons_succ])
            refine wpAnyH_ready (rs := [17]) (by kernel_rfl) (by simp) ?_
            refine AllReadyH.cons (o := _) rfl (fun K hK => ?_) AllReadyH.nil
            go_simp
            try dsimp only
            have HB2' := mkHid (HB1'.out.then ((Below.refl v1.heap.size v1).new (.cells #[.bool x.b[lb].neg, .slice a6 x.b[lb].t.length c6] 55)))
            have T3 := mkHid (keep T2.out ((Below.refl v1.heap.size v1).new (.cells #[.bool x.b[lb].neg, .slice a6 x.b[lb].t.length c6] 55)))
            refine hK.out _ _ (HS.out _ HB2'.out) (fun hSa => ?_)
            clear hK K
            (try simp only [List.getElem_toArray, List.getElem_cons_succ, List.getElem_cons_zero, Act.put, List.setIfInBounds_toArray, List.set_cons_zero, List.set_cons_succ])
            refine wpAnyH_ready (rs := [18]) (by kernel_rfl) (by simp) ?_
            refine AllReadyH.cons (o := _) rfl (fun K hK => ?_) AllReadyH.nil
            obtain ⟨v', w7, hrun, ha7, hg7, hw7⟩ := AccInv.run_pushN (P := Try.prog) (w := v1) 23 23 (w5.heap.size + 1) 55 32 (.agg #[.bool false, .slice none 0 0]) Try.underlying23 Try.infoLitN rfl (by decide) _ ls HA1.out 55 #[.bool x.b[lb].neg, .slice a6 x.b[lb].t.length c6] ⟨x.b[lb].neg, .slice a6 x.b[lb].t.length c6⟩ ⟨rfl, rfl⟩ (by have := HLL.out; omega) HTS1.out
            obtain ⟨a8, m8, c8, rfl⟩ := slice_ofN ha7
            have HBg : Hid (Below (w5.heap.size + 1) v1 w7) := ((Below.refl (w5.heap.size + 1) v1).alloc HTS1.out _).grown hg7 (by have := HTS1.out; simp; omega) fun g hg => (HA1.out.lt g hg).1
            have HB7 := mkHid (HB1'.out.trans (HBg.out.mono (by omega)))
            have HC7 := mkHid ((HBg.out.block w5.heap.size (by omega)).trans HC1.out)
            (rw [if_pos (by rfl)]; simp [Oper.wp, execOp, resolve, invoke, builtin, Oper.upon, Act.eval, hrun, Result.andThen, Sem.run_bind])
            try dsimp only
            refine hK.out _ _ (HS.out _ HB7.out) (fun hSp => ?_)
            clear hK K hrun
            (try simp only [List.getElem_toArray, List.getElem_cons_succ, List.getElem_cons_zero, Act.put, List.setIfInBounds_toArray, List.set_cons_zero, List.set_cons_succ])
            refine wpAnyH_take (i := 19) (oi := _) (v := ?_) rfl (by kernel_rfl) (by kernel_rfl) (by kernel_rfl) (fun _ _ _ h => h) (Or.inl ⟨by rfl, ?_⟩) (by assumption) ?_
            rotate_left
            · (intro w' hSw; obtain ⟨z0, z1, z2⟩ := hSw; go_simp; try with_reducible rfl)
            (try simp only [List.getElem_toArray, List.getElem_cons_succ, List.getElem_cons_zero, Act.put, List.setIfInBounds_toArray, List.set_cons_zero, List.set_cons_succ])
            refine wpAnyH_ready (rs := [20]) (by kernel_rfl) (by simp) ?_
            refine AllReadyH.cons (o := _) rfl (fun K hK => ?_) AllReadyH.nil
            have tl : w7.cell? ⟨w5.heap.size, 1, none⟩ = some (.slice ab lb cb) := by rw [cell_of_row w7 _ 1 _ _ _ HC7.out]; rfl
            have tf : w7.frozen? ⟨w5.heap.size, 1, none⟩ = false := by simp [World.frozen?, HC7.out]
            have HB8 := mkHid (show Below w5.heap.size w5 (w7.setCell ⟨w5.heap.size, 1, none⟩ (.slice a8 m8 c8)) from HB7.out.setCell (by simp) _)
            have HC8 := mkHid (set1_cl HC7.out (.slice a8 m8 c8))
            have HP7 := mkHid (HR1'.out.pushed HA1.out hg7)
            have HQ7 := mkHid ((HN6.out.blockN (fun h => h) fun b e => by
              have hlt := (HN6.out.lt b e).2
              rw [hg7.block b (by simp; omega) (fun e2 => by
                obtain ⟨cs1, q3⟩ := own_typeG HA1.out e2.symm
                obtain ⟨cs2, q4⟩ := own_typeG HN6.out e
                rw [q3] at q4
                simp at q4), heap_alloc_old _ _ hlt] : AccInv (w5.heap.size + 1) 45 (x.b[lb].t.map (numC V)) _ w7))
            have HA8 : Hid (∃ ls, AccInv (w5.heap.size + 1) 55 ls (.slice a8 m8 c8) (w7.setCell ⟨w5.heap.size, 1, none⟩ (.slice a8 m8 c8)) ∧ RowsN (w7.setCell ⟨w5.heap.size, 1, none⟩ (.slice a8 m8 c8)) (w5.heap.size + 1) ls (((x.b.take (lb + 1)).map Lt.t).map fun c => c.map (numC V)) ∧ ls.map LitV.neg = (x.b.take (lb + 1)).map Lt.neg) := by
              refine ⟨ls ++ [⟨x.b[lb].neg, .slice a6 x.b[lb].t.length c6⟩], ha7.blockN (fun h => h) (fun b e => Below.heap_setCell w7 ⟨w5.heap.size, 1, none⟩ _ b (by have := (ha7.lt b e).1; show b ≠ w5.heap.size; omega)), ?_, ?_⟩
              · rw [HTK.out]
                exact (HP7.out.snoc (by rw [HLL.out, List.length_map, List.length_map, List.length_take]; omega) HQ7.out).rise fun b h5 _ => Below.heap_setCell w7 ⟨w5.heap.size, 1, none⟩ _ b (by show b ≠ w5.heap.size; omega)
              · rw [HTN.out, List.map_append, HN.out]
                rfl
            go_simp
            try dsimp only
            refine hK.out _ _ (HS.out _ HB8.out) (fun hSz => ?_)
            clear hK K tl tf ha7 hg7 hw7
            (try simp only [List.getElem_toArray, List.getElem_cons_succ, List.getElem_cons_zero, Act.put, List.setIfInBounds_toArray, List.set_cons_zero, List.set_cons_succ])
            refine wpAnyH_done (by kernel_rfl) (NoPanic.normal ?_) _
            go_wp2_with fail
            go_round
            case rel => exact ⟨lb + 1, _, by omega, by go_num, HB8, HC8, HA8⟩
            case measure => simp [intOf]; omega
          refine AllReadyH.cons (o := _) rfl (fun K hK => ?_) AllReadyH.nil
          go_simp
          try dsimp only
          have HB2' := mkHid (HB1'.out.then ((Below.refl v1.heap.size v1).new (.cells #[.bool x.b[lb].neg, .slice a6 x.b[lb].t.length c6] 55)))
          have T3 := mkHid (keep T2.out ((Below.refl v1.heap.size v1).new (.cells #[.bool x.b[lb].neg, .slice a6 x.b[lb].t.length c6] 55)))
          refine hK.out _ _ (HS.out _ HB2'.out) (fun hSa => ?_)
          clear hK K
          (try simp only [List.getElem_toArray, List.getElem_cons_succ, List.getElem_cons_zero, Act.put, List.setIfInBounds_toArray, List.set_cons_zero, List.set_cons_succ])
          refine wpAnyH_ready (rs := [1]) (by kernel_rfl) (by simp) ?_
          refine AllReadyH.cons (o := _) rfl (fun K hK => ?_) AllReadyH.nil
          have tl := T3.out
          go_simp
          try dsimp only
          refine hK.out _ _ (HS.out _ HB2'.out) (fun hSl => ?_)
          clear hK K tl
          (try simp only [List.getElem_toArray, List.getElem_cons_succ, List.getElem_cons_zero, Act.put, List.setIfInBounds_toArray, List.set_cons_zero, List.set_cons_succ])
          refine wpAnyH_ready (rs := [18]) (by kernel_rfl) (by simp) ?_
          refine AllReadyH.cons (o := _) rfl (fun K hK => ?_) AllReadyH.nil
          obtain ⟨v', w7, hrun, ha7, hg7, hw7⟩ := AccInv.run_pushN (P := Try.prog) (w := v1) 23 23 (w5.heap.size + 1) 55 32 (.agg #[.bool false, .slice none 0 0]) Try.underlying23 Try.infoLitN rfl (by decide) _ ls HA1.out 55 #[.bool x.b[lb].neg, .slice a6 x.b[lb].t.length c6] ⟨x.b[lb].neg, .slice a6 x.b[lb].t.length c6⟩ ⟨rfl, rfl⟩ (by have := HLL.out; omega) HTS1.out
          obtain ⟨a8, m8, c8, rfl⟩ := slice_ofN ha7
          have HBg : Hid (Below (w5.heap.size + 1) v1 w7) := ((Below.refl (w5.heap.size + 1) v1).alloc HTS1.out _).grown hg7 (by have := HTS1.out; simp; omega) fun g hg => (HA1.out.lt g hg).1
          have HB7 := mkHid (HB1'.out.trans (HBg.out.mono (by omega)))
          have HC7 := mkHid ((HBg.out.block w5.heap.size (by omega)).trans HC1.out)
          (rw [if_pos (by rfl)]; simp [Oper.wp, execOp, resolve, invoke, builtin, Oper.upon, Act.eval, hrun, Result.andThen, Sem.run_bind])
          try dsimp only
          refine hK.out _ _ (HS.out _ HB7.out) (fun hSp => ?_)
          clear hK K hrun
          (try simp only [List.getElem_toArray, List.getElem_cons_succ, List.getElem_cons_zero, Act.put, List.setIfInBounds_toArray, List.set_cons_zero, List.set_cons_succ])
          refine wpAnyH_take (i := 19) (oi := _) (v := ?_) rfl (by kernel_rfl) (by kernel_rfl) (by kernel_rfl) (fun _ _ _ h => h) (Or.inl ⟨by rfl, ?_⟩) (by assumption) ?_
          rotate_left
          · (intro w' hSw; obtain ⟨z0, z1, z2⟩ := hSw; go_simp; try with_reducible rfl)
          (try simp only [List.getElem_toArray, List.getElem_cons_succ, List.getElem_cons_zero, Act.put, List.setIfInBounds_toArray, List.set_cons_zero, List.set_cons_succ])
          refine wpAnyH_ready (rs := [20]) (by kernel_rfl) (by simp) ?_
          refine AllReadyH.cons (o := _) rfl (fun K hK => ?_) AllReadyH.nil
          have tl : w7.cell? ⟨w5.heap.size, 1, none⟩ = some (.slice ab lb cb) := by rw [cell_of_row w7 _ 1 _ _ _ HC7.out]; rfl
          have tf : w7.frozen? ⟨w5.heap.size, 1, none⟩ = false := by simp [World.frozen?, HC7.out]
          have HB8 := mkHid (show Below w5.heap.size w5 (w7.setCell ⟨w5.heap.size, 1, none⟩ (.slice a8 m8 c8)) from HB7.out.setCell (by simp) _)
          have HC8 := mkHid (set1_cl HC7.out (.slice a8 m8 c8))
          have HP7 := mkHid (HR1'.out.pushed HA1.out hg7)
          have HQ7 := mkHid ((HN6.out.blockN (fun h => h) fun b e => by
            have hlt := (HN6.out.lt b e).2
            rw [hg7.block b (by simp; omega) (fun e2 => by
              obtain ⟨cs1, q3⟩ := own_typeG HA1.out e2.symm
              obtain ⟨cs2, q4⟩ := own_typeG HN6.out e
              rw [q3] at q4
              simp at q4), heap_alloc_old _ _ hlt] : AccInv (w5.heap.size + 1) 45 (x.b[lb].t.map (numC V)) _ w7))
          have HA8 : Hid (∃ ls, AccInv (w5.heap.size + 1) 55 ls (.slice a8 m8 c8) (w7.setCell ⟨w5.heap.size, 1, none⟩ (.slice a8 m8 c8)) ∧ RowsN (w7.setCell ⟨w5.heap.size, 1, none⟩ (.slice a8 m8 c8)) (w5.heap.size + 1) ls (((x.b.take (lb + 1)).map Lt.t).map fun c => c.map (numC V)) ∧ ls.map LitV.neg = (x.b.take (lb + 1)).map Lt.neg) := by
            refine ⟨ls ++ [⟨x.b[lb].neg, .slice a6 x.b[lb].t.length c6⟩], ha7.blockN (fun h => h) (fun b e => Below.heap_setCell w7 ⟨w5.heap.size, 1, none⟩ _ b (by have := (ha7.lt b e).1; show b ≠ w5.heap.size; omega)), ?_, ?_⟩
            · rw [HTK.out]
              exact (HP7.out.snoc (by rw [HLL.out, List.length_map, List.length_map, List.length_take]; omega) HQ7.out).rise fun b h5 _ => Below.heap_setCell w7 ⟨w5.heap.size, 1, none⟩ _ b (by show b ≠ w5.heap.size; omega)
            · rw [HTN.out, List.map_append, HN.out]
              rfl
          go_simp
          try dsimp only
          refine hK.out _ _ (HS.out _ HB8.out) (fun hSz => ?_)
          clear hK K tl tf ha7 hg7 hw7
          (try simp only [List.getElem_toArray, List.getElem_cons_succ, List.getElem_cons_zero, Act.put, List.setIfInBounds_toArray, List.set_cons_zero, List.set_cons_succ])
          refine wpAnyH_done (by kernel_rfl) (NoPanic.normal ?_) _
          go_wp2_with fail
          go_round
          case rel => exact ⟨lb + 1, _, by omega, by go_num, HB8, HC8, HA8⟩
          case measure => simp [intOf]; omega
        · obtain rfl : lb = x.b.length := by omega
          have hR9 := HR.out
          have hN9 := HN.out
          rw [List.take_of_length_le (Nat.le_refl _)] at hR9 hN9
          have HR9 := mkHid hR9
          have HN9 := mkHid hN9
          have HWZ : Hid (w.heap.size + 1 ≠ w5.heap.size ∧ w.heap.size + 2 ≤ w5.heap.size) := by have := HWR5.out; rw [Hid]; omega
          obtain ⟨l0, l1, g0, g1⟩ := zero_cl ((HB.out.block (w.heap.size + 1) (by have := HWR5.out; omega)).trans HZ5.out)
          clear hR9 hN9
          go_wp2_with fail
          refine bodyPost_ret (v := .agg #[.slice a5 x.h.length c5, .slice ab x.b.length cb]) (by simp [results, Try.results26, go_sem, *]) rfl ⟨a5, c5, ab, cb, rfl, ?_, ?_, ?_⟩
          · have e : (numClL x).h = x.h.map (numC V) := by rw [HVE.out]; rfl
            rw [e]
            have h8 := (HN5.out.below HB.out).blockN (w' := (wr.setCell ⟨w.heap.size + 1, 0, none⟩ (.slice a5 x.h.length c5)).setCell ⟨w.heap.size + 1, 1, none⟩ (.slice ab x.b.length cb)) (fun h => h) fun b e9 => by
              have h7 := (HN5.out.lt b e9).1
              have h6 := HWR.out
              exact (Below.heap_setCell _ _ _ b (by show b ≠ w.heap.size + 1; omega)).trans (Below.heap_setCell _ _ _ b (by show b ≠ w.heap.size + 1; omega))
            obtain ⟨a9, c9, e9, r9⟩ := h8.row
            injection e9 with f1 f2 f3
            subst f1
            subst f3
            exact r9
          · have e : (numClL x).b = x.b.map (numLt V) := by rw [HVE.out]; rfl
            rw [e, ← zip_num V ls x.b HN9.out]
            have hb9 : ∀ b, w5.heap.size + 1 ≤ b → ((wr.setCell ⟨w.heap.size + 1, 0, none⟩ (.slice a5 x.h.length c5)).setCell ⟨w.heap.size + 1, 1, none⟩ (.slice ab x.b.length cb)).heap[b]? = wr.heap[b]? := fun b h7 => by
              have h6 := HWZ.out.2
              exact (Below.heap_setCell _ _ _ b (by show b ≠ w.heap.size + 1; omega)).trans (Below.heap_setCell _ _ _ b (by show b ≠ w.heap.size + 1; omega))
            have k2 := HA.out.blockN (w' := (wr.setCell ⟨w.heap.size + 1, 0, none⟩ (.slice a5 x.h.length c5)).setCell ⟨w.heap.size + 1, 1, none⟩ (.slice ab x.b.length cb)) (fun h => h) fun b e9 => hb9 b (HA.out.lt b e9).1
            have k3 := HR9.out.rise (W' := (wr.setCell ⟨w.heap.size + 1, 0, none⟩ (.slice a5 x.h.length c5)).setCell ⟨w.heap.size + 1, 1, none⟩ (.slice ab x.b.length cb)) fun b h9 _ => hb9 b h9
            have hl9 := HLL.out
            have k4 : AccInv (w5.heap.size + 1) 55 ls (.slice ab ls.length cb) ((wr.setCell ⟨w.heap.size + 1, 0, none⟩ (.slice a5 x.h.length c5)).setCell ⟨w.heap.size + 1, 1, none⟩ (.slice ab x.b.length cb)) := by rw [hl9]; exact k2
            exact lits_row k4 k3 (by rw [hl9, List.length_map, List.length_map])
          · exact ((HBW5.out.then HB.out).setCell (by simp) _).setCell (by simp) _
end Go.Proofs.Ytkkiemideldioaa
