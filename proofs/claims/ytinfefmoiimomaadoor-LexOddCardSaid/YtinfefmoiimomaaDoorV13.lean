import Derived.Test.YtinfefmoiimomaaDoorV12
import Derived.Deep.LoopGhost
import Derived.Laws.EntriesVeiled
namespace Go.Proofs.YtinfefmoiimomaaDoor
open Go.RowKit

/-- what Lex tells -/
def lexL (l : List UInt8) : Res := if 20000 < l.length then .error (0, 2) else lexW false l 0
/-- no slice at all, or one that begins where a block does -/
def Head (a : Option Addr) (cap : Nat) : Prop := (a = none ∧ cap = 0) ∨ ∃ g, a = some ⟨g, 0, none⟩
theorem AccInv.rowH {α : Type} [RepC α] {B e : Nat} {acc : List α} {v : Value} {w : World} (h : AccInv B e acc v w) : ∃ a cap, v = .slice a acc.length cap ∧ Row w a cap acc ∧ Head a cap := by
  obtain ⟨a, cap, rfl, hr⟩ := h.row
  refine ⟨a, cap, rfl, hr, ?_⟩
  obtain ⟨vs, ho, _⟩ := h.ex
  rcases ho.2 with ⟨h1, _⟩ | ⟨g, cap', cur, h1, _⟩
  · injection h1 with h1 h2 h3; exact .inl ⟨h1, h3⟩
  · injection h1 with h1 h2 h3; exact .inr ⟨g, h1⟩
def LexOut (w' : World) (e : Ending) : Res → Prop
  | .ok ts => ∃ a cap, e = .returned (.tuple #[.slice a ts.length cap, .int .i64 0, .int .i64 0]) ∧ Row w' a cap ts ∧ Head a cap
  | .error (p, er) => e = .returned (.tuple #[.slice none 0 0, .int .i64 (p : Int), .int .i64 er])
theorem appR_conR (acc : List Tok) (t : Tok) (r : Res) : appR acc (conR t r) = appR (acc ++ [t]) r := by
  cases r <;> simp [appR, conR]
theorem extract_list (s : ByteArray) (k : Nat) : (s.extract k s.size).data.toList = s.data.toList.drop k := by
  simp [ByteArray.data_extract, List.extract]
  rw [List.take_of_length_le (by simp)]
theorem set_size (w : World) (p : Addr) (v : Value) : (w.setCell p v).heap.size = w.heap.size := by simp
theorem step_err {l : List UInt8} {e : Int} (h : stepL l = .err e) (hl : l ≠ []) : e = 2 ∨ e = 40 ∨ e = 41 := by
  cases l with
  | nil => exact absurd rfl hl
  | cons c r =>
    have h := (stepL_err h).2.2
    simp only [tokL, runS, numS, quoS] at h
    repeat' split at h
    all_goals first
      | (cases h; done)
      | (injection h with h; subst h; decide)
theorem mkB_le {l : List UInt8} {n : Nat} (h : l.length ≤ n) : (mkB l).size ≤ n := by rw [mkB_size]; exact h
theorem tok_fit {l : List UInt8} {k : Int} {t : List UInt8} {n : Int} {len p : Nat} (h : stepL l = .tok k t n len) (hl : l.length ≤ 20000) (hp : p ≤ 20000) : (Tok.mk k (mkB t) n p).fit ∧ 1 ≤ k ∧ k ≤ 6 := by
  cases l with
  | nil => simp [stepL] at h
  | cons c r =>
    have hi := tokL_is (stepL_tok h).2.2
    have htl : t.length ≤ 20000 ∧ 0 ≤ n ∧ n ≤ 2147483647 ∧ 1 ≤ k ∧ k ≤ 6 := by
      have hx : ∀ q : UInt8 → Bool, ∀ z : List UInt8, z.length ≤ 20000 → (z.takeWhile q).length ≤ 20000 := fun q z hz => Nat.le_trans (span_le q z) hz
      cases hi with
      | name h1 h2 => exact ⟨hx _ _ hl, by omega, by omega, by omega, by omega⟩
      | var h1 h2 => exact ⟨hx _ _ hl, by omega, by omega, by omega, by omega⟩
      | num h1 h2 => exact ⟨hx _ _ hl, by omega, by omega, by omega, by omega⟩
      | quo h1 => exact ⟨hx _ _ (by simp only [List.length_cons] at hl; omega), by omega, by omega, by omega, by omega⟩
      | punct h1 => exact ⟨by simp, by omega, by omega, by omega, by omega⟩
      | stop h1 => exact ⟨by simp, by omega, by omega, by omega, by omega⟩
      | sign h1 h2 h3 => exact ⟨hx _ _ hl, by omega, by omega, by omega, by omega⟩
    have := mkB_le htl.1
    exact ⟨⟨by dsimp only; omega, by dsimp only; omega, by dsimp only; omega, by dsimp only; omega, by simp only; omega, by simp only; omega, by simp only; omega⟩, htl.2.2.2.1, htl.2.2.2.2⟩
theorem set4_res {w : World} {g : Nat} {a' b' c' d' : Value} (h : Res4 w g a' b' c' d') (a b c d : Value) : Res4 ((((w.setCell ⟨g, 0, none⟩ a).setCell ⟨g, 1, none⟩ b).setCell ⟨g, 2, none⟩ c).setCell ⟨g, 3, none⟩ d) g a b c d := by
  obtain ⟨c0, c1, c2, c3, f0, f1, f2, f3⟩ := h
  exact ⟨by simp [go_sem, c0], by simp [go_sem, c1], by simp [go_sem, c2], by simp [go_sem, c3], by simp [go_sem, f0], by simp [go_sem, f1], by simp [go_sem, f2], by simp [go_sem, f3]⟩
theorem Tryd.infoTok : (Tryd.prog.info? 30).map (fun i => (i.zero, i.size, i.bytes)) = some (some noTok, 4, 40) := by kernel_rfl

theorem drewB {B : Nat} {w w' : World} (h : Below B w w') : Below B w w'.drew := ⟨h.os, h.tape, h.output, h.size, h.block⟩
theorem set4_far (w1 : World) {g b o : Nat} {v : Value} (hg : b < g) (a c d e : Value) (h : w1.cell? ⟨b, o, none⟩ = some v) :
    ((((w1.setCell ⟨g, 0, none⟩ a).setCell ⟨g, 1, none⟩ c).setCell ⟨g, 2, none⟩ d).setCell ⟨g, 3, none⟩ e).cell? ⟨b, o, none⟩ = some v :=
  have hb : Below g w1 ((((w1.setCell ⟨g, 0, none⟩ a).setCell ⟨g, 1, none⟩ c).setCell ⟨g, 2, none⟩ d).setCell ⟨g, 3, none⟩ e) :=
    ((((Below.refl g w1).setCell (Nat.le_refl _) _).setCell (Nat.le_refl _) _).setCell (Nat.le_refl _) _).setCell (Nat.le_refl _) _
  (hb.cell (p := ⟨b, o, none⟩) hg).trans h
set_option maxHeartbeats 6400000 in
set_option maxRecDepth 100000 in
theorem lex_any (s : ByteArray) (w : World) (hs : s.size ≤ 20000) (hw : LibVars w) :
    Calls Tryd.prog 12 #[.string s] w fun e w' => LexOut w' e (lexW false s.data.toList 0) ∧ Below w.heap.size w w' := by
  have HW := mkHid hw
  generalize hL : lexW false s.data.toList 0 = L
  have HL0 : Hid (L = appR [] (lexW false (s.data.toList.drop 0) 0)) := by rw [Hid, ← hL, List.drop_zero]; cases lexW false s.data.toList 0 <;> rfl
  clear hL hw
  go_enter Tryd.func12, Tryd.ntmps12
  go_wp2
  go_step3
  go_wp2_with fail
  refine (beginnings_any _).mono ?_; rintro e w1 ⟨g, rfl, hT1, hb1⟩
  have HT1 := mkHid hT1
  clear hT1
  go_wp2
  go_step3
  go_wp2
  have hacc0 := AccInv.nil (α := Tok) w1.heap.size 30 w1
  go_loopg [5, 7, 8] s.size (fun gn l at_ wrong wx => ∃ (k : Nat) (acc : List Tok), k + gn = s.size ∧ at_ = .int .i64 k ∧ wrong = .int .i64 0 ∧ acc.length ≤ k ∧ AccInv w1.heap.size 30 acc l wx ∧ Below w1.heap.size w1 wx ∧ Hid (L = appR acc (lexW false (s.data.toList.drop k) k)))
  case atStart => exact ⟨0, [], by omega, rfl, rfl, Nat.le_refl _, hacc0, Below.refl _ _, HL0⟩
  case round =>
    clear hacc0 HL0
    obtain ⟨k, acc, hkg, rfl, rfl, hkl, hacc, hbx, HL⟩ := hrel
    cases gk with
    | zero =>
      have hkz : ¬ ((k : Int) < (s.size : Int)) := by omega
      have HE : Hid (L = .ok acc) := by
        rw [Hid, HL.out, List.drop_of_length_le (by simp; omega), lexW_nil]; simp [appR]
      obtain ⟨a5, cap5, rfl, hrow, hhd⟩ := hacc.rowH
      have HHD := mkHid hhd
      clear hacc HL hhd
      go_wp2
      go_ret3
      rw [HE.out]
      exact ⟨⟨a5, cap5, rfl, hrow, HHD.out⟩, hb1.then hbx⟩
    | succ gn =>
      have hkz : (k : Int) < (s.size : Int) := by omega
      have hk0 : (0 : Int) ≤ (k : Int) := by omega
      have hk1 : (k : Int) ≤ (s.size : Int) := by omega
      obtain ⟨r, hr⟩ : ∃ r, r = s.extract k s.size := ⟨_, rfl⟩
      have hrl : r.data.toList = s.data.toList.drop k := by rw [hr]; exact extract_list s k
      have hrs : r.size = s.size - k := by rw [hr, ByteArray.size_extract]; omega
      have hr1 : 1 ≤ r.size := by omega
      have hr2 : r.size ≤ 1000000 := by omega
      have hrne : ∃ c q, r.data.toList = c :: q := by
        obtain ⟨c, q, h, _⟩ := size_pos_list hr1
        exact ⟨c, q, h⟩
      have HR := mkHid hr
      have HRS := mkHid hrs
      have HS : Hid (firstOf r.data.toList tbl = stepL r.data.toList) := by
        obtain ⟨c, q, h⟩ := hrne
        rw [Hid, h]; exact firstOf_step c q
      rw [← hrl] at HL
      have HRL := mkHid hrl
      have HNE := mkHid hrne
      clear hr hrs hrl hrne
      go_wp2
      go_loopg [5, 7, 8, 24] 9 (fun g2 l at_ wrong i wy => ∃ j : Nat, j + g2 = 9 ∧ i = .int .i64 j ∧ at_ = .int .i64 k ∧ wrong = .int .i64 0 ∧ AccInv w1.heap.size 30 acc l wy ∧ Below w1.heap.size w1 wy ∧ Hid (firstOf r.data.toList (tbl.drop j) = stepL r.data.toList))
      case atStart => exact ⟨0, by omega, rfl, rfl, rfl, hacc, hbx, HS⟩
      case round =>
        clear hacc hbx HS
        obtain ⟨j, hjg, rfl, rfl, rfl, hacc, hbx, HS⟩ := hrel
        cases gk with
        | zero =>
          have hjz : ¬ ((j : Int) < 9) := by omega
          have HE : Hid (L = .error (k, 40)) := by
            have h := HS.out
            obtain ⟨c, q, hcq⟩ := HNE.out
            rw [List.drop_of_length_le (by simp [tbl]; omega)] at h
            rw [Hid, HL.out, hcq, lexW_stepE (e := 40) (by rw [← hcq, ← h]; rfl)]; rfl
          clear hacc HL HS
          go_wp2
          go_ret3
          rw [HE.out]
          exact ⟨rfl, hb1.then hbx⟩
        | succ g2 =>
          have hjz : (j : Int) < 9 := by omega
          have hj0 : (0 : Int) ≤ (j : Int) := by omega
          obtain ⟨en, hen⟩ : ∃ en, tbl[j]? = some en := ⟨_, List.getElem?_eq_getElem (by simp [tbl]; omega)⟩
          have hdrop : tbl.drop j = en :: tbl.drop (j + 1) := by
            obtain ⟨h1, h2⟩ := List.getElem?_eq_some_iff.1 hen
            rw [← h2]; exact List.drop_eq_getElem_cons h1
          obtain ⟨F, caps, F', caps', d0, d1, hF, hT⟩ := ((HT1.out j en hen).later hbx).ex
          rw [hdrop] at HS
          have HF := mkHid hF
          have HT := mkHid hT
          clear hF hT hen hdrop
          obtain ⟨wo, rfl⟩ : ∃ wo : World, wo = wr := ⟨_, rfl⟩
          have hbo := (Below.refl wo.heap.size wo).new (.cells #[.func (.func F) #[] caps, .func (.func F') #[] caps'] 44)
          have hE := HF.out.ent
          have hE' := HT.out.ent
          unfold Enters at hE hE'
          cases hp : en.1 r.data.toList with
          | false =>
            have HN : Hid (firstOf r.data.toList (tbl.drop (j + 1)) = stepL r.data.toList) := by
              have h := HS.out
              rw [firstOf, hp] at h
              exact h
            have HP := mkHid hp
            have z0 : ∀ x : Later (wo.alloc (.cells #[.func (.func F) #[] caps, .func (.func F') #[] caps'] 44)), x.w'.cell? ⟨wo.heap.size, 0, none⟩ = some (.func (.func F) #[] caps) := fun x => keep (World.cell?_alloc_at _ _ _ 0 rfl) x.ok
            have hcall : ∀ x : Later (wo.alloc (.cells #[.func (.func F) #[] caps, .func (.func F') #[] caps'] 44)), Calls Tryd.prog F (#[.string (s.extract k s.size)] ++ caps) x.w' fun e w'' => e = .returned (.bool false) ∧ Below x.w'.heap.size x.w' w'' := fun x => by
              have h := HF.out.tells x.w' (hbo.then x.ok) r hr1 hr2
              rw [HP.out, HR.out] at h
              exact h
            clear hp HS
            go_wp2
            refine wp_region_calm (by kernel_rfl) (by kernel_rfl) ?_
            repeat (go_big_quiet_step (exact Calls.calm_of (hcall _)))
            refine wpQuiet_nil ?_
            rintro _ ⟨x, rfl⟩
            go_wp2
            go_roundg g2
            case measure => omega
            case rel => exact ⟨j + 1, by omega, by go_num, rfl, rfl, hacc.below (hbo.then x.ok), hbx.trans ((hbo.then x.ok).mono hbx.size), HN⟩
          | true =>
            have HQ : Hid (stepL r.data.toList = en.2 r.data.toList) := by
              have h := HS.out
              rw [firstOf, hp] at h
              exact h.symm
            have HP := mkHid hp
            have z0 : ∀ x : Later (wo.alloc (.cells #[.func (.func F) #[] caps, .func (.func F') #[] caps'] 44)), x.w'.cell? ⟨wo.heap.size, 0, none⟩ = some (.func (.func F) #[] caps) := fun x => keep (World.cell?_alloc_at _ _ _ 0 rfl) x.ok
            have hcall : ∀ x : Later (wo.alloc (.cells #[.func (.func F) #[] caps, .func (.func F') #[] caps'] 44)), Calls Tryd.prog F (#[.string (s.extract k s.size)] ++ caps) x.w' fun e w'' => e = .returned (.bool true) ∧ Below x.w'.heap.size x.w' w'' := fun x => by
              have h := HF.out.tells x.w' (hbo.then x.ok) r hr1 hr2
              rw [HP.out, HR.out] at h
              exact h
            have htake : ∀ W, Below wo.heap.size wo W → Calls Tryd.prog F' (#[.string (s.extract k s.size)] ++ caps') W fun e w'' => e = .returned (stepV (stepL r.data.toList)) ∧ Below W.heap.size W w'' := fun W hW => by
              have h := HT.out.tells W hW ((HW.out.below hb1).below (hbx.trans (hW.mono hbx.size))) r hr1 hr2 HP.out
              rw [HR.out, ← HR.out, ← HQ.out] at h
              rw [HR.out] at h ⊢
              exact h
            clear hp HS
            go_wp2
            refine wp_region_calm (by kernel_rfl) (by kernel_rfl) ?_
            repeat (go_big_quiet_step (exact Calls.calm_of (hcall _)))
            refine wpQuiet_nil ?_
            rintro _ ⟨x, rfl⟩
            have z1 : x.w'.cell? ⟨wo.heap.size, 1, none⟩ = some (.func (.func F') #[] caps') := keep (World.cell?_alloc_at _ _ _ 1 rfl) x.ok
            have hb9 := hbo.then x.ok
            generalize x.w' = w9 at z1 hb9 ⊢
            clear z0 hcall x
            cases hst : stepL r.data.toList with
            | pass n =>
              rw [hst] at htake
              simp only [stepV] at htake
              obtain ⟨hn1, hn2⟩ : 1 ≤ n ∧ k + n ≤ s.size := by
                obtain ⟨c, q, hcq⟩ := HNE.out
                rw [hcq] at hst
                have h := stepL_len.1 n hst
                rw [← hcq, size_list] at h
                have := HRS.out
                omega
              have HLn : Hid (L = appR acc (lexW false (s.data.toList.drop (k + n)) (k + n))) := by
                rw [Hid, HL.out, lexW_pass hst, HRL.out, List.drop_drop]
              clear hst
              go_wp2
              have hlt9 := cell_lt z1
              have hdr : Below wo.heap.size wo w9.drew := hb9.trans ⟨rfl, rfl, rfl, Nat.le_refl _, fun _ _ => rfl⟩
              have z2 : w9.drew.cell? ⟨wo.heap.size, 1, none⟩ = some (.func (.func F') #[] caps') := z1
              have hda : Below wo.heap.size wo (w9.alloc (.cells #[.int .i64 0, .string ⟨#[]⟩, .int .i64 0, .int .i64 0] 30)).drew := drewB (hb9.trans (((Below.refl _ _).new _).mono hb9.size))
              have z2a : (w9.alloc (.cells #[.int .i64 0, .string ⟨#[]⟩, .int .i64 0, .int .i64 0] 30)).drew.cell? ⟨wo.heap.size, 1, none⟩ = some (.func (.func F') #[] caps') := keep (w := w9) z1 (drewB ((Below.refl _ _).new _))
              have q4 : Res4 (w9.alloc (.cells #[.int .i64 0, .string ⟨#[]⟩, .int .i64 0, .int .i64 0] 30)).drew w9.heap.size (.int .i64 0) (.string ⟨#[]⟩) (.int .i64 0) (.int .i64 0) :=
                let h := Res4.new w9 (.int .i64 0) (.string ⟨#[]⟩) (.int .i64 0) (.int .i64 0) 30
                ⟨h.c0, h.c1, h.c2, h.c3, h.f0, h.f1, h.f2, h.f3⟩
              have Q4 := mkHid q4
              clear q4
              go_region_held3 (fun w' => Below wo.heap.size wo w' ∧ w'.cell? ⟨wo.heap.size, 1, none⟩ = some (.func (.func F') #[] caps'))
                (first
                  | exact ⟨hdr, z2⟩
                  | exact ⟨hda, z2a⟩
                  | exact ⟨hdr.trans (((Below.refl _ _).new _).mono hdr.size), keep z2 ((Below.refl _ _).new _)⟩
                  | exact ⟨below_set4 hda (Nat.le_of_lt hlt9) _ _ _ _, set4_far w10 hlt9 _ _ _ _ z2a⟩)
                ((first
                  | (refine (htake _ hdr).mono ?_; rintro e w10 ⟨rfl, hb10⟩; replace hdr := hdr.then hb10; replace z2 := keep z2 hb10)
                  | (refine (htake _ hda).mono ?_; rintro e w10 ⟨rfl, hb10⟩; obtain ⟨c0, c1, c2, c3, f0, f1, f2, f3⟩ := Q4.out.below hb10; replace hda := hda.then hb10; replace z2a := keep z2a hb10)))
              all_goals
                rename_i hS
                have hbz := hS.1
                clear hS
                go_wp2
                go_roundg (s.size - (k + n))
                case measure => omega
                case rel => exact ⟨k + n, acc, by omega, by go_num, rfl, by omega, hacc.below hbz, hbx.trans (hbz.mono hbx.size), HLn⟩
            | tok kk tt nn len =>
              rw [hst] at htake
              simp only [stepV] at htake
              obtain ⟨hn1, hn2⟩ : 1 ≤ len ∧ k + len ≤ s.size := by
                obtain ⟨c, q, hcq⟩ := HNE.out
                rw [hcq] at hst
                have h := stepL_len.2 kk tt nn len hst
                rw [← hcq, size_list] at h
                have := HRS.out
                omega
              have HLn : Hid (L = appR (acc ++ [⟨kk, mkB tt, nn, k⟩]) (lexW false (s.data.toList.drop (k + len)) (k + len))) := by
                obtain ⟨c, q, hcq⟩ := HNE.out
                rw [hcq] at hst
                rw [Hid, HL.out, hcq, lexW_stepT hst, appR_conR, ← hcq, HRL.out, List.drop_drop]
              obtain ⟨hfit, hk1', hk2'⟩ := tok_fit (p := k) hst (by have := HRS.out; simp; omega) (by omega)
              have HFIT := mkHid hfit
              have tk1 : (kk == 0) = false := by simp; omega
              have tk2 : (kk != 0) = true := by simp; omega
              clear hst hfit hk1' hk2'
              go_wp2
              have hlt9 := cell_lt z1
              have hdr : Below wo.heap.size wo w9.drew := hb9.trans ⟨rfl, rfl, rfl, Nat.le_refl _, fun _ _ => rfl⟩
              have z2 : w9.drew.cell? ⟨wo.heap.size, 1, none⟩ = some (.func (.func F') #[] caps') := z1
              have hda : Below wo.heap.size wo (w9.alloc (.cells #[.int .i64 0, .string ⟨#[]⟩, .int .i64 0, .int .i64 0] 30)).drew := drewB (hb9.trans (((Below.refl _ _).new _).mono hb9.size))
              have z2a : (w9.alloc (.cells #[.int .i64 0, .string ⟨#[]⟩, .int .i64 0, .int .i64 0] 30)).drew.cell? ⟨wo.heap.size, 1, none⟩ = some (.func (.func F') #[] caps') := keep (w := w9) z1 (drewB ((Below.refl _ _).new _))
              have q4 : Res4 (w9.alloc (.cells #[.int .i64 0, .string ⟨#[]⟩, .int .i64 0, .int .i64 0] 30)).drew w9.heap.size (.int .i64 0) (.string ⟨#[]⟩) (.int .i64 0) (.int .i64 0) :=
                let h := Res4.new w9 (.int .i64 0) (.string ⟨#[]⟩) (.int .i64 0) (.int .i64 0) 30
                ⟨h.c0, h.c1, h.c2, h.c3, h.f0, h.f1, h.f2, h.f3⟩
              have Q4 := mkHid q4
              clear q4
              go_region_held3 (fun w' => Below wo.heap.size wo w' ∧ w'.cell? ⟨wo.heap.size, 1, none⟩ = some (.func (.func F') #[] caps'))
                (first
                  | exact ⟨hdr, z2⟩
                  | exact ⟨hda, z2a⟩
                  | exact ⟨hdr.trans (((Below.refl _ _).new _).mono hdr.size), keep z2 ((Below.refl _ _).new _)⟩
                  | exact ⟨below_set4 hda (Nat.le_of_lt hlt9) _ _ _ _, set4_far w10 hlt9 _ _ _ _ z2a⟩)
                ((first
                  | (refine (htake _ hdr).mono ?_; rintro e w10 ⟨rfl, hb10⟩; replace hdr := hdr.then hb10; replace z2 := keep z2 hb10)
                  | (refine (htake _ hda).mono ?_; rintro e w10 ⟨rfl, hb10⟩; obtain ⟨c0, c1, c2, c3, f0, f1, f2, f3⟩ := Q4.out.below hb10; replace hda := hda.then hb10; replace z2a := keep z2a hb10)))
              all_goals
                rename_i hS
                have hbz := hS.1
                clear hS
              · have q := Res4.new w10 (.int .i64 kk) (.string (mkB tt)) (.int .i64 nn) (.int .i64 0) 30
                have hg : wo.heap.size ≤ w10.heap.size := hdr.size
                clear z2 hb10
                generalize w10.alloc (.cells #[.int .i64 kk, .string (mkB tt), .int .i64 nn, .int .i64 0] 30) = wz at q hbz ⊢
                obtain ⟨y0, y1, y2, y3, v0, v1, v2, v3⟩ := q
                have hbz2 := hbz.setCell (p := ⟨w10.heap.size, 3, none⟩) hg (.int .i64 k)
                have hacc2 := hacc.below hbz2
                have hbx2 := hbx.trans (hbz2.mono hbx.size)
                go_wp2_with (at_builtin; refine wpList_acc (α := Tok) rfl _ _ 23 rfl w1.heap.size 30 40 _ Tryd.underlying23 Tryd.infoTok rfl (by decide) _ acc hacc2 (by rfl) _ #[.int .i64 kk, .string (mkB tt), .int .i64 nn, .int .i64 k] ⟨kk, mkB tt, nn, k⟩ ⟨rfl, HFIT.out⟩ (by rw [set_size]; rfl) (by omega) hbx2.size ?_; intro v' w5 hacc3 hb5)
                go_roundg (s.size - (k + len))
                case measure => omega
                case rel => exact ⟨k + len, acc ++ [⟨kk, mkB tt, nn, k⟩], by omega, by go_num, rfl, by simp; omega, hacc3, hbx2.trans hb5, HLn⟩
              · have q := set4_res (g := w9.heap.size) ⟨c0, c1, c2, c3, f0, f1, f2, f3⟩ (.int .i64 kk) (.string (mkB tt)) (.int .i64 nn) (.int .i64 0)
                have hg : wo.heap.size ≤ w9.heap.size := by omega
                clear c0 c1 c2 c3 f0 f1 f2 f3 hda z2a hb10
                generalize (((w10.setCell ⟨w9.heap.size, 0, none⟩ (.int .i64 kk)).setCell ⟨w9.heap.size, 1, none⟩ (.string (mkB tt))).setCell ⟨w9.heap.size, 2, none⟩ (.int .i64 nn)).setCell ⟨w9.heap.size, 3, none⟩ (.int .i64 0) = wz at q hbz ⊢
                obtain ⟨y0, y1, y2, y3, v0, v1, v2, v3⟩ := q
                have hbz2 := hbz.setCell (p := ⟨w9.heap.size, 3, none⟩) hg (.int .i64 k)
                have hacc2 := hacc.below hbz2
                have hbx2 := hbx.trans (hbz2.mono hbx.size)
                go_wp2_with (at_builtin; refine wpList_acc (α := Tok) rfl _ _ 23 rfl w1.heap.size 30 40 _ Tryd.underlying23 Tryd.infoTok rfl (by decide) _ acc hacc2 (by rfl) _ #[.int .i64 kk, .string (mkB tt), .int .i64 nn, .int .i64 k] ⟨kk, mkB tt, nn, k⟩ ⟨rfl, HFIT.out⟩ (by rw [set_size]; rfl) (by omega) hbx2.size ?_; intro v' w5 hacc3 hb5)
                go_roundg (s.size - (k + len))
                case measure => omega
                case rel => exact ⟨k + len, acc ++ [⟨kk, mkB tt, nn, k⟩], by omega, by go_num, rfl, by simp; omega, hacc3, hbx2.trans hb5, HLn⟩
            | err er =>
              rw [hst] at htake
              simp only [stepV] at htake
              have her : er = 2 ∨ er = 40 ∨ er = 41 := step_err hst (by obtain ⟨c, q, h⟩ := HNE.out; rw [h]; simp)
              have tk1 : (er == 0) = false := by simp; omega
              have tk2 : (er != 0) = true := by simp; omega
              have HE : Hid (L = .error (k, er)) := by
                obtain ⟨c, q, hcq⟩ := HNE.out
                rw [hcq] at hst
                rw [Hid, HL.out, hcq, lexW_stepE hst]; rfl
              clear hst her
              go_wp2
              have hlt9 := cell_lt z1
              have hdr : Below wo.heap.size wo w9.drew := hb9.trans ⟨rfl, rfl, rfl, Nat.le_refl _, fun _ _ => rfl⟩
              have z2 : w9.drew.cell? ⟨wo.heap.size, 1, none⟩ = some (.func (.func F') #[] caps') := z1
              have hda : Below wo.heap.size wo (w9.alloc (.cells #[.int .i64 0, .string ⟨#[]⟩, .int .i64 0, .int .i64 0] 30)).drew := drewB (hb9.trans (((Below.refl _ _).new _).mono hb9.size))
              have z2a : (w9.alloc (.cells #[.int .i64 0, .string ⟨#[]⟩, .int .i64 0, .int .i64 0] 30)).drew.cell? ⟨wo.heap.size, 1, none⟩ = some (.func (.func F') #[] caps') := keep (w := w9) z1 (drewB ((Below.refl _ _).new _))
              have q4 : Res4 (w9.alloc (.cells #[.int .i64 0, .string ⟨#[]⟩, .int .i64 0, .int .i64 0] 30)).drew w9.heap.size (.int .i64 0) (.string ⟨#[]⟩) (.int .i64 0) (.int .i64 0) :=
                let h := Res4.new w9 (.int .i64 0) (.string ⟨#[]⟩) (.int .i64 0) (.int .i64 0) 30
                ⟨h.c0, h.c1, h.c2, h.c3, h.f0, h.f1, h.f2, h.f3⟩
              have Q4 := mkHid q4
              clear q4
              go_region_held3 (fun w' => Below wo.heap.size wo w' ∧ w'.cell? ⟨wo.heap.size, 1, none⟩ = some (.func (.func F') #[] caps'))
                (first
                  | exact ⟨hdr, z2⟩
                  | exact ⟨hda, z2a⟩
                  | exact ⟨hdr.trans (((Below.refl _ _).new _).mono hdr.size), keep z2 ((Below.refl _ _).new _)⟩
                  | exact ⟨below_set4 hda (Nat.le_of_lt hlt9) _ _ _ _, set4_far w10 hlt9 _ _ _ _ z2a⟩)
                ((first
                  | (refine (htake _ hdr).mono ?_; rintro e w10 ⟨rfl, hb10⟩; replace hdr := hdr.then hb10; replace z2 := keep z2 hb10)
                  | (refine (htake _ hda).mono ?_; rintro e w10 ⟨rfl, hb10⟩; obtain ⟨c0, c1, c2, c3, f0, f1, f2, f3⟩ := Q4.out.below hb10; replace hda := hda.then hb10; replace z2a := keep z2a hb10)))
              all_goals
                rename_i hS
                have hbz := hS.1
                clear hS
                go_wp2
                rw [Exit.noGoto_ret]
                go_ret3
                rw [HE.out]
                exact ⟨rfl, hb1.then (hbx.trans (hbz.mono hbx.size))⟩
end Go.Proofs.YtinfefmoiimomaaDoor
