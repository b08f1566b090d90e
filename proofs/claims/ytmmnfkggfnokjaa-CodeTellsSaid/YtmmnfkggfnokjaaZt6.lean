import Derived.Test.YtmmnfkggfnokjaaZt5
import Derived.Deep.LoopGhost
import Derived.OrdersHeld
import Derived.Deep.RegionHeld3
import Derived.Laws.OwnMore
import Derived.Laws.IdiomCopy
set_option linter.unusedVariables false
namespace Go.Proofs.Ytmmnfkggfnokjaa
open Go.RowKit
structure STGo (W0 w : World) (R fm bm : Nat) (S : TS) (kv : Nat → Value) (p : Nat) (c : Cel) (done : List Tm) (B : BL) (rest : List Ins) (bad : Bool) (built : Int → Option Nat) (qs : List Nat) (H1 : Nat → Option NdS) (kv1 : Nat → Value) (W : World) : Prop where
  tr : Tr W0 w R fm bm S kv W { S with rest := rest, built := built, bad := bad, H := H1 } kv1
  at_ : H1 p = some ⟨c, qs.map PtN.mk⟩
  ts : TrHs (hidH H1 p) (qs.map PtN.mk) done
  bt : BtOk (hidH H1 p) built B
  keep : ∀ b d, S.H b = some d → hidH H1 p b = some d
  pw : w.heap.size ≤ p
/-- what a structure is told of -/
def StPost (W0 w : World) (R fm bm : Nat) (S : TS) (kv : Nat → Value) (c : Cel) (r : List Tm × BL × List Ins × Bool) (e : Ending) (W' : World) : Prop :=
  ∃ (p : Nat) (built : Int → Option Nat) (H1 : Nat → Option NdS) (kv1 : Nat → Value), e = .returned (.pointer (some ⟨p, 0, none⟩)) ∧ Tr W0 w R fm bm S kv W' { S with rest := r.2.2.1, built := built, bad := r.2.2.2, H := H1 } kv1 ∧ w.heap.size ≤ p ∧ (∀ b d, S.H b = some d → H1 b = some d) ∧ TrH H1 p (.mk c r.1) ∧ BtOk H1 built r.2.1
theorem STGo.post {W0 w W : World} {R fm bm : Nat} {S : TS} {kv kv1 : Nat → Value} {p : Nat} {c : Cel} {done : List Tm} {B : BL} {rest : List Ins} {bad : Bool} {built : Int → Option Nat} {qs : List Nat} {H1 : Nat → Option NdS} (h : STGo W0 w R fm bm S kv p c done B rest bad built qs H1 kv1 W) : StPost W0 w R fm bm S kv c (done, B, rest, bad) (.returned (.pointer (some ⟨p, 0, none⟩))) W :=
  ⟨p, built, H1, kv1, rfl, h.tr, h.pw, fun b d hb => hidH_sub _ _ b d (h.keep b d hb), .mk h.at_ (h.ts.mono (hidH_sub _ _)), h.bt.mono (hidH_sub _ _)⟩
/-- the teller turned nodes other than this one -/
theorem STGo.turn {W0 w W W' : World} {R fm bm : Nat} {S : TS} {kv kv1 kv2 : Nat → Value} {p : Nat} {c : Cel} {done : List Tm} {B B' : BL} {rest rest' : List Ins} {bad bad' : Bool} {built built' : Int → Option Nat} {qs : List Nat} {H1 H2 : Nat → Option NdS} (h : STGo W0 w R fm bm S kv p c done B rest bad built qs H1 kv1 W)
    (ht : Tr W0 W R fm bm { S with rest := rest, built := built, bad := bad, H := H1 } kv1 W' { S with rest := rest', built := built', bad := bad', H := H2 } kv2) (hH : ∀ b d, H1 b = some d → H2 b = some d) (hb : BtOk (hidH H2 p) built' B') : STGo W0 w R fm bm S kv p c done B' rest' bad' built' qs H2 kv2 W' :=
  ⟨h.tr.trans ht, hH _ _ h.at_, h.ts.mono (hidH_up fun b d _ hd => hH b d hd), hb, fun b d hd => hidH_up (fun b d _ hd => hH b d hd) b d (h.keep b d hd), h.pw⟩
/-- a part more -/
theorem STGo.part {W0 w W W' : World} {R fm bm : Nat} {S : TS} {kv kv1 kv2 : Nat → Value} {p q : Nat} {c : Cel} {done : List Tm} {t : Tm} {B : BL} {rest : List Ins} {bad : Bool} {built : Int → Option Nat} {qs : List Nat} {H1 : Nat → Option NdS} (h : STGo W0 w R fm bm S kv p c done B rest bad built qs H1 kv1 W)
    (ht : Tr W0 W R fm bm { S with rest := rest, built := built, bad := bad, H := H1 } kv1 W' { S with rest := rest, built := built, bad := bad, H := updH H1 p ⟨c, qs.map PtN.mk ++ [⟨q⟩]⟩ } kv2) (hq : TrH (hidH H1 p) q t) : STGo W0 w R fm bm S kv p c (done ++ [t]) B rest bad built (qs ++ [q]) (updH H1 p ⟨c, qs.map PtN.mk ++ [⟨q⟩]⟩) kv2 W' := by
  have hu : ∀ b d, hidH H1 p b = some d → hidH (updH H1 p ⟨c, qs.map PtN.mk ++ [⟨q⟩]⟩) p b = some d := hidH_up fun b d hne hd => by rw [updH_ne _ hne]; exact hd
  refine ⟨h.tr.trans ht, by rw [updH_at, List.map_append]; rfl, ?_, h.bt.mono hu, fun b d hd => hu b d (h.keep b d hd), h.pw⟩
  rw [List.map_append]
  exact (h.ts.mono hu).append (.cons (hq.mono hu) .nil)
theorem updH_sub {H : Nat → Option NdS} {q : Nat} (d : NdS) (h : H q = none) : ∀ b x, H b = some x → updH H q d b = some x := fun b x hb => by
  rw [updH_ne _ (fun e => by rw [e, h] at hb; cases hb)]; exact hb
set_option maxRecDepth 100000 in
set_option maxHeartbeats 12800000 in
theorem structure_any (W0 w : World) (R fm bm : Nat) (S : TS) (kv : Nat → Value) (hT : TW W0 w R fm bm S kv) (put : Ins) (hfit : put.fit) (hbad : S.bad = false) (B : BL) (hB : BtOk S.H S.built B) :
    Calls Try.prog 197 #[.pointer (some ⟨R, 0, none⟩), put.v] w (StPost W0 w R fm bm S kv (funI put) (setsM put.n.toNat B S.rest)) := by
  obtain ⟨o1, o2, x1', x2', a1, a2, hsz, hn1, hn2⟩ := hfit
  obtain ⟨wb, hwb⟩ : ∃ X, (w.alloc (.cells #[.int .i64 put.op, .int .i64 put.x, .int .i64 put.a, .string put.s, .int .i64 put.n, .bool put.neg] 90)) = X := ⟨_, rfl⟩
  have hbx := (Below.refl w.heap.size w).new (.cells #[.int .i64 put.op, .int .i64 put.x, .int .i64 put.a, .string put.s, .int .i64 put.n, .bool put.neg] 90)
  have hbc : wb.cell? ⟨w.heap.size, 4, none⟩ = some (.int .i64 put.n) := by rw [← hwb]; exact World.cell?_alloc_at _ _ w.heap.size 4 rfl
  have hbs : wb.heap.size = w.heap.size + 1 := by rw [← hwb]; simp
  rw [hwb] at hbx
  have HT := mkHid (hT.below hbx)
  have HW0 := mkHid hT.B0
  have HBO : Hid (¬ Own R fm bm S kv w.heap.size) := fun e => by have := (hT.ownB _ e).2; omega
  have HSL : Hid (S.rest.length ≤ 100000) := by obtain ⟨n, hn, _⟩ := hT.bt; exact hn.2
  have HBAD := mkHid hbad
  have HB := mkHid hB
  have HCF : Hid ((funI put).fit) := ⟨by show _ ≤ (3 : Int); omega, by show (3 : Int) ≤ _; omega, hn1, hn2, hsz⟩
  have HTB : Hid (Tr W0 w R fm bm S kv wb S kv) := (Tr.refl hT).below hbx
  have POST : Hid (∀ e W', StPost W0 wb R fm bm S kv (funI put) (setsM put.n.toNat B S.rest) e W' → StPost W0 w R fm bm S kv (funI put) (setsM put.n.toNat B S.rest) e W') := by
    rintro e W' ⟨p, bt, H1, kv1, he, ht, hp, rest⟩
    exact ⟨p, bt, H1, kv1, he, HTB.out.trans ht, by omega, rest⟩
  have HWB := mkHid hwb
  have HBC := mkHid hbc
  have HBS := mkHid hbs
  have HPWB : Hid (w.heap.size < wb.heap.size) := by rw [Hid]; omega
  clear hT hbad hbx hB hwb hbc hbs
  go_enter Try.func197, Try.ntmps197
  dsimp only [Ins.v]
  go_wp2_with fail
  rw [HWB.out]
  refine (funC_any wb put).mono ?_
  rintro e w2 ⟨rfl, hb2⟩
  have HT2 := mkHid ((Tr.refl HT.out).below hb2)
  have HN2 := mkHid (Tr.newN HT2.out.tw (funI put) HCF.out)
  have h22 : wb.heap.size ≤ w2.heap.size := hb2.size
  have HNO : Hid (S.H w2.heap.size = none) := by
    cases h : S.H w2.heap.size with
    | none => rfl
    | some d => have := (HT2.out.tw.ownB w2.heap.size (.inr (.inr (.inr (.inl ⟨d, h⟩))))).2; omega
  have hG0 : STGo W0 wb R fm bm S kv w2.heap.size (funI put) [] B S.rest false S.built [] (updH S.H w2.heap.size ⟨funI put, []⟩) (updV kv w2.heap.size (.slice none 0 0)) (w2.alloc (.cells #[.int .i64 3, .string put.s, .int .i64 put.n, .slice none 0 0] 227)) := by
    have hk : ∀ b d, S.H b = some d → hidH (updH S.H w2.heap.size ⟨funI put, []⟩) w2.heap.size b = some d := fun b d hb => by
      have hne : b ≠ w2.heap.size := fun e => by rw [e, HNO.out] at hb; cases hb
      unfold hidH
      rw [if_neg hne, updH_ne _ hne]
      exact hb
    refine ⟨?_, updH_at _ _ _, .nil, HB.out.mono hk, hk, by omega⟩
    have h := HT2.out.trans HN2.out
    have e : ({ S with H := updH S.H w2.heap.size ⟨funI put, []⟩ } : TS) = { S with rest := S.rest, built := S.built, bad := false, H := updH S.H w2.heap.size ⟨funI put, []⟩ } := by rw [← HBAD.out]
    rw [← e]
    exact h
  have HG0 := mkHid hG0
  clear hb2 hG0 HNO HN2 HT2 h22 HTB HCF
  go_wp2_with fail
  obtain ⟨w3, hw3⟩ : ∃ X, (w2.alloc (.cells #[.int .i64 3, .string put.s, .int .i64 put.n, .slice none 0 0] 227)) = X := ⟨_, rfl⟩
  rw [hw3] at HG0 ⊢
  obtain ⟨p, hpp⟩ : ∃ x, w2.heap.size = x := ⟨_, rfl⟩
  rw [hpp] at HG0 ⊢
  clear hw3
  go_loopg [] (1 + put.n.toNat) (fun kk wr => ∃ (done : List Tm) (B1 : BL) (rest : List Ins) (bad : Bool) (built : Int → Option Nat) (qs : List Nat) (H1 : Nat → Option NdS) (kv1 : Nat → Value), Hid (STGo W0 wb R fm bm S kv p (funI put) done B1 rest bad built qs H1 kv1 wr) ∧ Hid (SEq put.n.toNat B S.rest done B1 rest bad) ∧ Hid (bad = false → kk = 1 + (put.n.toNat - done.length) ∧ done.length ≤ put.n.toNat ∧ done.length + rest.length ≤ S.rest.length))
  case atStart => exact ⟨[], B, S.rest, false, S.built, [], _, _, HG0, SEq.start _ _ _, fun _ => ⟨by simp, Nat.zero_le _, by simp⟩⟩
  case round =>
    clear HG0
    obtain ⟨done, B1, rest, bad, built, qs, H1, kv1, HG, HE, HK⟩ := hrel
    have HD := mkHid HG.out.at_
    have HQL : Hid (qs.length = done.length) := by have := HG.out.ts.length; rw [List.length_map] at this; exact this
    obtain ⟨ka, kc, hkv, hk1, hk2⟩ := HG.out.tr.tw.kid_lit HD.out
    rw [List.length_map] at hkv hk1
    obtain ⟨_, _, _, n3, _⟩ := HG.out.tr.tw.cN HD.out
    rw [hkv] at n3
    have HKV := mkHid hkv
    obtain ⟨_, _, _, _, _, r3, _, _⟩ := HG.out.tr.tw.cR
    dsimp only at r3
    have bx : wr.cell? ⟨w.heap.size, 4, none⟩ = some (.int .i64 put.n) := (World.cell?_of_block (w := wb) (a := ⟨w.heap.size, 4, none⟩) (HG.out.tr.fr.block w.heap.size (by have := HBS.out; omega) HBO.out)).trans HBC.out
    clear hkv
    have hbd : Below wr.heap.size wr wr.drew := (Below.refl _ _).drew
    have EXIT : Hid (bad = true ∨ ¬ (qs.length : Int) < put.n → StPost W0 w R fm bm S kv (funI put) (setsM put.n.toNat B S.rest) (.returned (.pointer (some ⟨p, 0, none⟩))) wr.drew) := fun hx => by
      have e := HE.out.ends (by
        rcases hx with e | e
        · exact .inl e
        · exact .inr (by have := HQL.out; omega))
      refine POST.out _ _ ?_
      rw [e]
      have hg : STGo W0 wb R fm bm S kv p (funI put) done B1 rest bad built qs H1 kv1 wr.drew := HG.out.turn ((Tr.refl HG.out.tr.tw).below hbd) (fun _ _ h => h) HG.out.bt
      exact hg.post
    by_cases hm : (qs.length : Int) < put.n
    · cases bad with
      | true =>
        have HP := mkHid (EXIT.out (.inl rfl))
        clear EXIT HK HE
        go_wp2_with fail
        refine wp_region_noPanic ?_
        refine wp_region_held_drew (S := fun X => X.cell? ⟨p, 3, none⟩ = some (.slice ka qs.length kc) ∧ X.cell? ⟨R, 3, none⟩ = some (.bool true) ∧ X.cell? ⟨w.heap.size, 4, none⟩ = some (.int .i64 put.n)) (by kernel_rfl) ⟨keep n3 hbd, keep r3 hbd, keep bx hbd⟩ (fun hSd => ?_)
        refine wpAnyH_take (i := 0) (oi := _) (v := ?_) rfl (by kernel_rfl) (by kernel_rfl) (by kernel_rfl) (fun _ _ _ h => h) (Or.inl ⟨by rfl, ?_⟩) (by assumption) ?_
        rotate_left
        · (intro w' hSw; obtain ⟨z0, z1, z2⟩ := hSw; go_simp; try with_reducible rfl)
        (try simp only [List.getElem_toArray, List.getElem_cons_succ, List.getElem_cons_zero, Act.put, List.setIfInBounds_toArray, List.set_cons_zero, List.set_cons_succ])
        refine wpAnyH_take (i := 1) (oi := _) (v := ?_) rfl (by kernel_rfl) (by kernel_rfl) (by kernel_rfl) (fun _ _ _ h => h) (Or.inl ⟨by rfl, ?_⟩) (by assumption) ?_
        rotate_left
        · (intro w' hSw; obtain ⟨z0, z1, z2⟩ := hSw; go_simp; try with_reducible rfl)
        (try simp only [List.getElem_toArray, List.getElem_cons_succ, List.getElem_cons_zero, Act.put, List.setIfInBounds_toArray, List.set_cons_zero, List.set_cons_succ])
        refine wpAnyH_take (i := 2) (oi := _) (v := ?_) rfl (by kernel_rfl) (by kernel_rfl) (by kernel_rfl) (fun _ _ _ h => h) (Or.inl ⟨by rfl, ?_⟩) (by assumption) ?_
        rotate_left
        · (intro w' hSw; obtain ⟨z0, z1, z2⟩ := hSw; go_simp; try with_reducible rfl)
        (try simp only [List.getElem_toArray, List.getElem_cons_succ, List.getElem_cons_zero, Act.put, List.setIfInBounds_toArray, List.set_cons_zero, List.set_cons_succ])
        refine wpAnyH_take (i := 3) (oi := _) (v := ?_) rfl (by kernel_rfl) (by kernel_rfl) (by kernel_rfl) (fun _ _ _ h => h) (Or.inl ⟨by rfl, ?_⟩) (by assumption) ?_
        rotate_left
        · (intro w' hSw; obtain ⟨z0, z1, z2⟩ := hSw; go_simp; try with_reducible rfl)
        (try simp only [List.getElem_toArray, List.getElem_cons_succ, List.getElem_cons_zero, Act.put, List.setIfInBounds_toArray, List.set_cons_zero, List.set_cons_succ])
        refine wpAnyH_take (i := 4) (oi := _) (v := ?_) rfl (by kernel_rfl) (by kernel_rfl) (by kernel_rfl) (fun _ _ _ h => h) (Or.inl ⟨by rfl, ?_⟩) (by assumption) ?_
        rotate_left
        · (intro w' hSw; obtain ⟨z0, z1, z2⟩ := hSw; go_simp; try with_reducible rfl)
        (try simp only [List.getElem_toArray, List.getElem_cons_succ, List.getElem_cons_zero, Act.put, List.setIfInBounds_toArray, List.set_cons_zero, List.set_cons_succ])
        refine wpAnyH_take (i := 5) (oi := _) (v := ?_) rfl (by kernel_rfl) (by kernel_rfl) (by kernel_rfl) (fun _ _ _ h => h) (Or.inl ⟨by rfl, ?_⟩) (by assumption) ?_
        rotate_left
        · (intro w' hSw; obtain ⟨z0, z1, z2⟩ := hSw; go_simp; try with_reducible rfl)
        (try simp only [List.getElem_toArray, List.getElem_cons_succ, List.getElem_cons_zero, Act.put, List.setIfInBounds_toArray, List.set_cons_zero, List.set_cons_succ])
        refine wpAnyH_take (i := 6) (oi := _) (v := ?_) rfl (by kernel_rfl) (by kernel_rfl) (by kernel_rfl) (fun _ _ _ h => h) (Or.inl ⟨by rfl, ?_⟩) (by assumption) ?_
        rotate_left
        · (intro w' hSw; obtain ⟨z0, z1, z2⟩ := hSw; go_simp; try with_reducible rfl)
        (try simp only [List.getElem_toArray, List.getElem_cons_succ, List.getElem_cons_zero, Act.put, List.setIfInBounds_toArray, List.set_cons_zero, List.set_cons_succ])
        refine wpAnyH_take (i := 7) (oi := _) (v := .bool true) rfl (by kernel_rfl) (by kernel_rfl) (by kernel_rfl) (fun _ _ _ h => h) (Or.inl ⟨by rfl, ?_⟩) (by assumption) ?_
        · (intro w' hSw; obtain ⟨z0, z1, z2⟩ := hSw; go_simp; try (first | with_reducible rfl | simp [hm]))
        (try simp only [List.getElem_toArray, List.getElem_cons_succ, List.getElem_cons_zero, Act.put, List.setIfInBounds_toArray, List.set_cons_zero, List.set_cons_succ])
        refine wpAnyH_take (i := 8) (oi := _) (v := .bool true) rfl (by kernel_rfl) (by kernel_rfl) (by kernel_rfl) (fun _ _ _ h => h) (Or.inl ⟨by rfl, ?_⟩) (by assumption) ?_
        · (intro w' hSw; obtain ⟨z0, z1, z2⟩ := hSw; go_simp; try (first | with_reducible rfl | simp [hm]))
        (try simp only [List.getElem_toArray, List.getElem_cons_succ, List.getElem_cons_zero, Act.put, List.setIfInBounds_toArray, List.set_cons_zero, List.set_cons_succ])
        refine wpAnyH_take (i := 9) (oi := _) (v := ?_) rfl (by kernel_rfl) (by kernel_rfl) (by kernel_rfl) (fun _ _ _ h => h) (Or.inl ⟨by rfl, ?_⟩) (by assumption) ?_
        rotate_left
        · (intro w' hSw; obtain ⟨z0, z1, z2⟩ := hSw; go_simp; try with_reducible rfl)
        (try simp only [List.getElem_toArray, List.getElem_cons_succ, List.getElem_cons_zero, Act.put, List.setIfInBounds_toArray, List.set_cons_zero, List.set_cons_succ])
        refine wpAnyH_take (i := 10) (oi := _) (v := ?_) rfl (by kernel_rfl) (by kernel_rfl) (by kernel_rfl) (fun _ _ _ h => h) (Or.inl ⟨by rfl, ?_⟩) (by assumption) ?_
        rotate_left
        · (intro w' hSw; obtain ⟨z0, z1, z2⟩ := hSw; go_simp; try with_reducible rfl)
        (try simp only [List.getElem_toArray, List.getElem_cons_succ, List.getElem_cons_zero, Act.put, List.setIfInBounds_toArray, List.set_cons_zero, List.set_cons_succ])
        refine wpAnyH_take (i := 11) (oi := _) (v := ?_) rfl (by kernel_rfl) (by kernel_rfl) (by kernel_rfl) (fun _ _ _ h => h) (Or.inl ⟨by rfl, ?_⟩) (by assumption) ?_
        rotate_left
        · (intro w' hSw; obtain ⟨z0, z1, z2⟩ := hSw; go_simp; try with_reducible rfl)
        (try simp only [List.getElem_toArray, List.getElem_cons_succ, List.getElem_cons_zero, Act.put, List.setIfInBounds_toArray, List.set_cons_zero, List.set_cons_succ])
        refine wpAnyH_take (i := 12) (oi := _) (v := ?_) rfl (by kernel_rfl) (by kernel_rfl) (by kernel_rfl) (fun _ _ _ h => h) (Or.inl ⟨by rfl, ?_⟩) (by assumption) ?_
        rotate_left
        · (intro w' hSw; obtain ⟨z0, z1, z2⟩ := hSw; go_simp; try with_reducible rfl)
        (try simp only [List.getElem_toArray, List.getElem_cons_succ, List.getElem_cons_zero, Act.put, List.setIfInBounds_toArray, List.set_cons_zero, List.set_cons_succ])
        refine wpAnyH_take (i := 13) (oi := _) (v := ?_) rfl (by kernel_rfl) (by kernel_rfl) (by kernel_rfl) (fun _ _ _ h => h) (Or.inl ⟨by rfl, ?_⟩) (by assumption) ?_
        rotate_left
        · (intro w' hSw; obtain ⟨z0, z1, z2⟩ := hSw; go_simp; try with_reducible rfl)
        (try simp only [List.getElem_toArray, List.getElem_cons_succ, List.getElem_cons_zero, Act.put, List.setIfInBounds_toArray, List.set_cons_zero, List.set_cons_succ])
        refine wpAnyH_take (i := 14) (oi := _) (v := ?_) rfl (by kernel_rfl) (by kernel_rfl) (by kernel_rfl) (fun _ _ _ h => h) (Or.inl ⟨by rfl, ?_⟩) (by assumption) ?_
        rotate_left
        · (intro w' hSw; obtain ⟨z0, z1, z2⟩ := hSw; go_simp; try with_reducible rfl)
        (try simp only [List.getElem_toArray, List.getElem_cons_succ, List.getElem_cons_zero, Act.put, List.setIfInBounds_toArray, List.set_cons_zero, List.set_cons_succ])
        refine wpAnyH_done (by kernel_rfl) (NoPanic.normal ?_) _
        go_wp2_with fail
        go_ret
        exact HP.out
      | false =>
        clear EXIT
        obtain ⟨hkk, hdm, hdr⟩ := HK.out rfl
        have hql := HQL.out
        have HES := mkHid (HE.out.step (by omega))
        have HKK : Hid (gk = 1 + (put.n.toNat - done.length) ∧ done.length ≤ put.n.toNat ∧ done.length + rest.length ≤ S.rest.length ∧ qs.length = done.length) := ⟨hkk, hdm, hdr, hql⟩
        have hql5 : qs.length ≤ 100000 := by have := HSL.out; omega
        clear hkk hdm hdr hql HK HE
        go_wp2_with fail
        refine wp_region_noPanic ?_
        refine wp_region_held_drew (S := fun X => X.cell? ⟨p, 3, none⟩ = some (.slice ka qs.length kc) ∧ X.cell? ⟨R, 3, none⟩ = some (.bool false) ∧ X.cell? ⟨w.heap.size, 4, none⟩ = some (.int .i64 put.n)) (by kernel_rfl) ⟨keep n3 hbd, keep r3 hbd, keep bx hbd⟩ (fun hSd => ?_)
        refine wpAnyH_take (i := 0) (oi := _) (v := ?_) rfl (by kernel_rfl) (by kernel_rfl) (by kernel_rfl) (fun _ _ _ h => h) (Or.inl ⟨by rfl, ?_⟩) (by assumption) ?_
        rotate_left
        · (intro w' hSw; obtain ⟨z0, z1, z2⟩ := hSw; go_simp; try with_reducible rfl)
        (try simp only [List.getElem_toArray, List.getElem_cons_succ, List.getElem_cons_zero, Act.put, List.setIfInBounds_toArray, List.set_cons_zero, List.set_cons_succ])
        refine wpAnyH_take (i := 1) (oi := _) (v := ?_) rfl (by kernel_rfl) (by kernel_rfl) (by kernel_rfl) (fun _ _ _ h => h) (Or.inl ⟨by rfl, ?_⟩) (by assumption) ?_
        rotate_left
        · (intro w' hSw; obtain ⟨z0, z1, z2⟩ := hSw; go_simp; try with_reducible rfl)
        (try simp only [List.getElem_toArray, List.getElem_cons_succ, List.getElem_cons_zero, Act.put, List.setIfInBounds_toArray, List.set_cons_zero, List.set_cons_succ])
        refine wpAnyH_take (i := 2) (oi := _) (v := ?_) rfl (by kernel_rfl) (by kernel_rfl) (by kernel_rfl) (fun _ _ _ h => h) (Or.inl ⟨by rfl, ?_⟩) (by assumption) ?_
        rotate_left
        · (intro w' hSw; obtain ⟨z0, z1, z2⟩ := hSw; go_simp; try with_reducible rfl)
        (try simp only [List.getElem_toArray, List.getElem_cons_succ, List.getElem_cons_zero, Act.put, List.setIfInBounds_toArray, List.set_cons_zero, List.set_cons_succ])
        refine wpAnyH_take (i := 3) (oi := _) (v := ?_) rfl (by kernel_rfl) (by kernel_rfl) (by kernel_rfl) (fun _ _ _ h => h) (Or.inl ⟨by rfl, ?_⟩) (by assumption) ?_
        rotate_left
        · (intro w' hSw; obtain ⟨z0, z1, z2⟩ := hSw; go_simp; try with_reducible rfl)
        (try simp only [List.getElem_toArray, List.getElem_cons_succ, List.getElem_cons_zero, Act.put, List.setIfInBounds_toArray, List.set_cons_zero, List.set_cons_succ])
        refine wpAnyH_take (i := 4) (oi := _) (v := ?_) rfl (by kernel_rfl) (by kernel_rfl) (by kernel_rfl) (fun _ _ _ h => h) (Or.inl ⟨by rfl, ?_⟩) (by assumption) ?_
        rotate_left
        · (intro w' hSw; obtain ⟨z0, z1, z2⟩ := hSw; go_simp; try with_reducible rfl)
        (try simp only [List.getElem_toArray, List.getElem_cons_succ, List.getElem_cons_zero, Act.put, List.setIfInBounds_toArray, List.set_cons_zero, List.set_cons_succ])
        refine wpAnyH_take (i := 5) (oi := _) (v := ?_) rfl (by kernel_rfl) (by kernel_rfl) (by kernel_rfl) (fun _ _ _ h => h) (Or.inl ⟨by rfl, ?_⟩) (by assumption) ?_
        rotate_left
        · (intro w' hSw; obtain ⟨z0, z1, z2⟩ := hSw; go_simp; try with_reducible rfl)
        (try simp only [List.getElem_toArray, List.getElem_cons_succ, List.getElem_cons_zero, Act.put, List.setIfInBounds_toArray, List.set_cons_zero, List.set_cons_succ])
        refine wpAnyH_take (i := 6) (oi := _) (v := ?_) rfl (by kernel_rfl) (by kernel_rfl) (by kernel_rfl) (fun _ _ _ h => h) (Or.inl ⟨by rfl, ?_⟩) (by assumption) ?_
        rotate_left
        · (intro w' hSw; obtain ⟨z0, z1, z2⟩ := hSw; go_simp; try with_reducible rfl)
        (try simp only [List.getElem_toArray, List.getElem_cons_succ, List.getElem_cons_zero, Act.put, List.setIfInBounds_toArray, List.set_cons_zero, List.set_cons_succ])
        refine wpAnyH_take (i := 7) (oi := _) (v := .bool true) rfl (by kernel_rfl) (by kernel_rfl) (by kernel_rfl) (fun _ _ _ h => h) (Or.inl ⟨by rfl, ?_⟩) (by assumption) ?_
        · (intro w' hSw; obtain ⟨z0, z1, z2⟩ := hSw; go_simp; try (first | with_reducible rfl | simp [hm]))
        (try simp only [List.getElem_toArray, List.getElem_cons_succ, List.getElem_cons_zero, Act.put, List.setIfInBounds_toArray, List.set_cons_zero, List.set_cons_succ])
        refine wpAnyH_take (i := 8) (oi := _) (v := .bool true) rfl (by kernel_rfl) (by kernel_rfl) (by kernel_rfl) (fun _ _ _ h => h) (Or.inl ⟨by rfl, ?_⟩) (by assumption) ?_
        · (intro w' hSw; obtain ⟨z0, z1, z2⟩ := hSw; go_simp; try (first | with_reducible rfl | simp [hm]))
        (try simp only [List.getElem_toArray, List.getElem_cons_succ, List.getElem_cons_zero, Act.put, List.setIfInBounds_toArray, List.set_cons_zero, List.set_cons_succ])
        refine wpAnyH_take (i := 9) (oi := _) (v := ?_) rfl (by kernel_rfl) (by kernel_rfl) (by kernel_rfl) (fun _ _ _ h => h) (Or.inl ⟨by rfl, ?_⟩) (by assumption) ?_
        rotate_left
        · (intro w' hSw; obtain ⟨z0, z1, z2⟩ := hSw; go_simp; try with_reducible rfl)
        (try simp only [List.getElem_toArray, List.getElem_cons_succ, List.getElem_cons_zero, Act.put, List.setIfInBounds_toArray, List.set_cons_zero, List.set_cons_succ])
        refine wpAnyH_take (i := 10) (oi := _) (v := ?_) rfl (by kernel_rfl) (by kernel_rfl) (by kernel_rfl) (fun _ _ _ h => h) (Or.inl ⟨by rfl, ?_⟩) (by assumption) ?_
        rotate_left
        · (intro w' hSw; obtain ⟨z0, z1, z2⟩ := hSw; go_simp; try with_reducible rfl)
        (try simp only [List.getElem_toArray, List.getElem_cons_succ, List.getElem_cons_zero, Act.put, List.setIfInBounds_toArray, List.set_cons_zero, List.set_cons_succ])
        refine wpAnyH_take (i := 11) (oi := _) (v := ?_) rfl (by kernel_rfl) (by kernel_rfl) (by kernel_rfl) (fun _ _ _ h => h) (Or.inl ⟨by rfl, ?_⟩) (by assumption) ?_
        rotate_left
        · (intro w' hSw; obtain ⟨z0, z1, z2⟩ := hSw; go_simp; try with_reducible rfl)
        (try simp only [List.getElem_toArray, List.getElem_cons_succ, List.getElem_cons_zero, Act.put, List.setIfInBounds_toArray, List.set_cons_zero, List.set_cons_succ])
        refine wpAnyH_take (i := 12) (oi := _) (v := ?_) rfl (by kernel_rfl) (by kernel_rfl) (by kernel_rfl) (fun _ _ _ h => h) (Or.inl ⟨by rfl, ?_⟩) (by assumption) ?_
        rotate_left
        · (intro w' hSw; obtain ⟨z0, z1, z2⟩ := hSw; go_simp; try with_reducible rfl)
        (try simp only [List.getElem_toArray, List.getElem_cons_succ, List.getElem_cons_zero, Act.put, List.setIfInBounds_toArray, List.set_cons_zero, List.set_cons_succ])
        refine wpAnyH_take (i := 13) (oi := _) (v := ?_) rfl (by kernel_rfl) (by kernel_rfl) (by kernel_rfl) (fun _ _ _ h => h) (Or.inl ⟨by rfl, ?_⟩) (by assumption) ?_
        rotate_left
        · (intro w' hSw; obtain ⟨z0, z1, z2⟩ := hSw; go_simp; try with_reducible rfl)
        (try simp only [List.getElem_toArray, List.getElem_cons_succ, List.getElem_cons_zero, Act.put, List.setIfInBounds_toArray, List.set_cons_zero, List.set_cons_succ])
        refine wpAnyH_take (i := 14) (oi := _) (v := ?_) rfl (by kernel_rfl) (by kernel_rfl) (by kernel_rfl) (fun _ _ _ h => h) (Or.inl ⟨by rfl, ?_⟩) (by assumption) ?_
        rotate_left
        · (intro w' hSw; obtain ⟨z0, z1, z2⟩ := hSw; go_simp; try with_reducible rfl)
        (try simp only [List.getElem_toArray, List.getElem_cons_succ, List.getElem_cons_zero, Act.put, List.setIfInBounds_toArray, List.set_cons_zero, List.set_cons_succ])
        refine wpAnyH_done (by kernel_rfl) (NoPanic.normal ?_) _
        have hGD : STGo W0 wb R fm bm S kv p (funI put) done B1 rest false built qs H1 kv1 wr.drew := HG.out.turn ((Tr.refl HG.out.tr.tw).below hbd) (fun _ _ h => h) HG.out.bt
        clear HG n3 r3 bx hbd hSd hk1 hk2
        obtain ⟨wd, hwd⟩ : ∃ X, wr.drew = X := ⟨_, rfl⟩
        rw [hwd] at hGD ⊢
        clear hwd
        have HG := mkHid hGD
        clear hGD
        have hpl : p < wd.heap.size := (HG.out.tr.tw.ownB p (.inr (.inr (.inr (.inl ⟨_, HD.out⟩))))).2
        have HQP : Hid (wd.heap.size ≠ p) := by rw [Hid]; omega
        have HNO : Hid (H1 wd.heap.size = none) := by
          cases h : H1 wd.heap.size with
          | none => rfl
          | some d => have := (HG.out.tr.tw.ownB wd.heap.size (.inr (.inr (.inr (.inl ⟨d, h⟩))))).2; omega
        clear hpl
        have HN1 := mkHid (Tr.newN HG.out.tr.tw zeroC ⟨by decide, by decide, by decide, by decide, by decide⟩)
        go_wp2_with fail
        have hift := nextI_fit HG.out.tr.tw
        have HIF := mkHid hift
        dsimp only at hift
        refine (next_any W0 _ R fm bm _ _ HN1.out.tw).mono ?_
        rintro e w4 ⟨rfl, kv4, hT4, hF4, hN4⟩
        have HT4 := mkHid (HN1.out.trans ⟨hT4, hF4, hN4⟩)
        clear hT4 hF4 hN4 HN1
        dsimp only
        have HNE : Hid ((nextI rest).op ≠ 0 → 1 ≤ rest.length) := by
          cases rest with
          | nil => intro h; exact absurd rfl h
          | cons a l => intro _; simp
        obtain ⟨i, hi⟩ : ∃ x, nextI rest = x := ⟨_, rfl⟩
        rw [hi] at HES HIF HNE ⊢
        clear hi hift
        obtain ⟨o1, o2, x1', x2', a1, a2, hsz, hn1, hn2⟩ := HIF.out
        have hb9 := (Below.refl w4.heap.size w4).new (.cells #[.int .i64 i.op, .int .i64 i.x, .int .i64 i.a, .string i.s, .int .i64 i.n, .bool i.neg] 90)
        have HT5 := mkHid (HT4.out.below hb9)
        clear hb9
        dsimp only [Ins.v]
        obtain ⟨io, ix, ia, is_, inn, ing⟩ := i
        dsimp only at o1 o2 x1' x2' a1 a2 hsz hn1 hn2 HES HT5 HNE ⊢
        have HUP : Hid (∀ c' b d, H1 b = some d → updH (updH H1 wd.heap.size ⟨zeroC, []⟩) wd.heap.size ⟨c', []⟩ b = some d) := fun c' b d hb => by
          have hne : b ≠ wd.heap.size := fun e => by rw [e, HNO.out] at hb; cases hb
          rw [updH_ne _ hne, updH_ne _ hne]; exact hb
        have HLF : Hid (∀ c', TrH (hidH (updH (updH H1 wd.heap.size ⟨zeroC, []⟩) wd.heap.size ⟨c', []⟩) p) wd.heap.size (.mk c' [])) := fun c' => .mk (by unfold hidH; rw [if_neg HQP.out, updH_at]) .nil
        by_cases h9 : io = 9
        · subst h9
          replace HES : Hid (SEq put.n.toNat B S.rest (done ++ [vT ix]) B1 rest.tail false) := by have h := HES.out; rw [Hid]; simpa [stepD, intI] using h
          go_wp2_with fail
          refine (varC_any _ ⟨9, ix, ia, is_, inn, ing⟩).mono ?_
          rintro e w5 ⟨rfl, hb5⟩
          have HT6 := mkHid (HT5.out.below hb5)
          obtain ⟨q0, q1, q2, _, qf⟩ := HT6.out.tw.cN (p := wd.heap.size) (updH_at _ _ _)
          have qf0 := qf 0
          have qf1 := qf 1
          have qf2 := qf 2
          have hcf : (⟨1, ⟨#[]⟩, ix⟩ : Cel).fit := celF (by omega) (by omega)
          have HT7 := mkHid (HT6.out.trans (Tr.of (HT6.out.tw.cellSet (p := wd.heap.size) (updH_at _ _ _) hcf)))
          clear hb5 qf hcf
          have hT7 := HT7.out
          try dsimp only at hT7
          have HT8 := mkHid hT7
          have hqp : ¬ wd.heap.size = p := HQP.out
          have hqp' : ¬ p = wd.heap.size := fun e => HQP.out e.symm
          have hfr8 : Fr [wd.heap.size] w5 (((w5.setCell ⟨wd.heap.size, 0, none⟩ (.int .i64 1)).setCell ⟨wd.heap.size, 1, none⟩ (.string ⟨#[]⟩)).setCell ⟨wd.heap.size, 2, none⟩ (.int .i64 ix)) := (((Fr.refl _ _).set (by simp) _).set (by simp) _).set (by simp) _
          have hpb := hfr8.block p (HT6.out.tw.ownB p (.inr (.inr (.inr (.inl ⟨_, (updH_sub _ HNO.out) p _ HD.out⟩))))).2 (by simp; exact hqp')
          clear hT7 HT7 hfr8 HT6
          have HS8 := mkHid (HG.out.turn (B' := B1) HT8.out (HUP.out _) (HG.out.bt.mono (hidH_up fun b d _ hb => HUP.out _ b d hb)))
          have HQ8 := mkHid (HLF.out ⟨1, ⟨#[]⟩, ix⟩)
          have HD8 := mkHid HS8.out.at_
          obtain ⟨ka8, kc8, hkv8, hk81, hk82⟩ := HS8.out.tr.tw.kid_lit HD8.out
          rw [List.length_map] at hkv8 hk81
          obtain ⟨_, _, _, n37, nf8⟩ := HS8.out.tr.tw.cN HD8.out
          rw [hkv8] at n37
          have n38 : (w5).cell? ⟨p, 3, none⟩ = some (.slice ka8 qs.length kc8) := (World.cell?_of_block (a := ⟨p, 3, none⟩) hpb).symm.trans n37
          have f38 : (w5).frozen? ⟨p, 3, none⟩ = false := (World.frozen?_of_block (a := ⟨p, 3, none⟩) hpb).symm.trans (nf8 3)
          have ha8 := (HS8.out.tr.tw.nd p _ HD8.out).2.2.2
          rw [hkv8] at ha8
          have HA8 := mkHid ha8
          have HKV8 := mkHid hkv8
          have HB8 := mkHid HS8.out.tr.tw.B0
          clear hkv8 nf8 ha8 n37 hpb
          go_wp2_with (at_builtin; go_loud (refine wpList_accN (α := PtN) rfl _ _ 225 rfl W0.heap.size 223 8 _ Try.underlying225 Try.infoPtN rfl (by decide) _ (qs.map PtN.mk) HA8.out (by rfl) _ #[.pointer (some ⟨wd.heap.size, 0, none⟩)] ⟨wd.heap.size⟩ rfl (by first | rfl | (simp only [World.size_setCell]; rfl) | (simp; rfl)) (by rw [List.length_map]; omega) HB8.out ?_; intro v' w3' ha3 hg3 hw3; obtain ⟨a3, n9, c3, rfl⟩ := slice_ofN ha3; obtain ⟨hT3, x3, y3⟩ := Tr.push HS8.out.tr.tw (p := p) (d := ⟨funI put, qs.map PtN.mk⟩) HD8.out HKV8.out ha3 hg3 hw3; have HS9 := mkHid (HS8.out.part (q := wd.heap.size) hT3 HQ8.out); clear ha3 hg3 hw3 hT3))
          go_wp2_with fail
          go_roundg (1 + (put.n.toNat - (done.length + 1)))
          case rel => exact ⟨_, _, _, _, _, _, _, _, HS9, HES, fun _ => ⟨by simp, by simp only [List.length_append, List.length_cons, List.length_nil]; have := HKK.out; omega, by simp only [List.length_append, List.length_cons, List.length_nil, List.length_tail]; have := HKK.out; have := HNE.out (by decide); omega⟩⟩
          case measure => have := HKK.out; omega
        · by_cases h10 : io = 10
          · subst h10
            go_wp2_with fail
            refine (taken_any W0 _ R fm bm _ _ HT5.out.tw ix x1' x2').mono ?_
            rintro e w6 ⟨rfl, hT6⟩
            have hbox := hT6.fr.block w4.heap.size (by simp) (fun e => by have := (HT4.out.tw.ownB _ (show Own R fm bm _ _ w4.heap.size from e)).2; omega)
            rw [heap_alloc_new] at hbox
            have HT6' := mkHid (HT5.out.trans hT6)
            clear hT6
            have HBX6 := mkHid hbox
            clear hbox
            dsimp only
            cases hbi : built ix with
            | some p' =>
              dsimp only [ptO, Option.isSome]
              have hbt := HG.out.bt ix
              rw [hbi] at hbt
              obtain ⟨p1, t1, e1, e2, e3⟩ : ∃ p1 t1, some p' = some p1 ∧ getB B1 ix = some t1 ∧ TrH (hidH H1 p) p1 t1 := by
                rcases hbt with ⟨e, _⟩ | h
                · cases e
                · exact h
              cases e1
              replace HES : Hid (SEq put.n.toNat B S.rest (done ++ [t1]) (dropB B1 ix) rest.tail false) := by have h := HES.out; rw [Hid]; simpa [stepD, e2] using h
              have HUP2 : Hid (∀ b d, H1 b = some d → updH H1 wd.heap.size ⟨zeroC, []⟩ b = some d) := updH_sub _ HNO.out
              obtain ⟨w7, hW7⟩ : ∃ V, w6 = V := ⟨_, rfl⟩
              rw [hW7] at HT6' ⊢
              clear hW7 hbt HBX6
              have hpb : w7.heap[p]? = w7.heap[p]? := rfl
              have HS8 := mkHid (HG.out.turn (B' := dropB B1 ix) HT6'.out HUP2.out ((HG.out.bt.drop ix).mono (hidH_up fun b d _ hb => HUP2.out b d hb)))
              have HQ8 := mkHid (e3.mono (hidH_up fun b d _ hb => HUP2.out b d hb))
              clear e3
              have HD8 := mkHid HS8.out.at_
              obtain ⟨ka8, kc8, hkv8, hk81, hk82⟩ := HS8.out.tr.tw.kid_lit HD8.out
              rw [List.length_map] at hkv8 hk81
              obtain ⟨_, _, _, n37, nf8⟩ := HS8.out.tr.tw.cN HD8.out
              rw [hkv8] at n37
              have n38 : (w7).cell? ⟨p, 3, none⟩ = some (.slice ka8 qs.length kc8) := (World.cell?_of_block (a := ⟨p, 3, none⟩) hpb).symm.trans n37
              have f38 : (w7).frozen? ⟨p, 3, none⟩ = false := (World.frozen?_of_block (a := ⟨p, 3, none⟩) hpb).symm.trans (nf8 3)
              have ha8 := (HS8.out.tr.tw.nd p _ HD8.out).2.2.2
              rw [hkv8] at ha8
              have HA8 := mkHid ha8
              have HKV8 := mkHid hkv8
              have HB8 := mkHid HS8.out.tr.tw.B0
              clear hkv8 nf8 ha8 n37 hpb
              go_wp2_with (at_builtin; go_loud (refine wpList_accN (α := PtN) rfl _ _ 225 rfl W0.heap.size 223 8 _ Try.underlying225 Try.infoPtN rfl (by decide) _ (qs.map PtN.mk) HA8.out (by rfl) _ #[.pointer (some ⟨p', 0, none⟩)] ⟨p'⟩ rfl (by first | rfl | (simp only [World.size_setCell]; rfl) | (simp; rfl)) (by rw [List.length_map]; omega) HB8.out ?_; intro v' w3' ha3 hg3 hw3; obtain ⟨a3, n9, c3, rfl⟩ := slice_ofN ha3; obtain ⟨hT3, x3, y3⟩ := Tr.push HS8.out.tr.tw (p := p) (d := ⟨funI put, qs.map PtN.mk⟩) HD8.out HKV8.out ha3 hg3 hw3; have HS9 := mkHid (HS8.out.part (q := p') hT3 HQ8.out); clear ha3 hg3 hw3 hT3))
              go_wp2_with fail
              go_roundg (1 + (put.n.toNat - (done.length + 1)))
              case rel => exact ⟨_, _, _, _, _, _, _, _, HS9, HES, fun _ => ⟨by simp, by simp only [List.length_append, List.length_cons, List.length_nil]; have := HKK.out; omega, by simp only [List.length_append, List.length_cons, List.length_nil, List.length_tail]; have := HKK.out; have := HNE.out (by decide); omega⟩⟩
              case measure => have := HKK.out; omega
            | none =>
              dsimp only [ptO, Option.isSome]
              have hbt := HG.out.bt ix
              rw [hbi] at hbt
              have e2 : getB B1 ix = none := by
                rcases hbt with ⟨_, e⟩ | ⟨_, _, e, _⟩
                · exact e
                · cases e
              replace HES : Hid (SEq put.n.toNat B S.rest (done ++ [vT ix]) (dropB B1 ix) rest.tail false) := by have h := HES.out; rw [Hid]; simpa [stepD, e2] using h
              have b0 : w6.cell? ⟨w4.heap.size, 0, none⟩ = some (.int .i64 10) := by rw [cell_of_row w6 _ 0 _ _ _ HBX6.out]; rfl
              have b1 : w6.cell? ⟨w4.heap.size, 1, none⟩ = some (.int .i64 ix) := by rw [cell_of_row w6 _ 1 _ _ _ HBX6.out]; rfl
              have b2 : w6.cell? ⟨w4.heap.size, 2, none⟩ = some (.int .i64 ia) := by rw [cell_of_row w6 _ 2 _ _ _ HBX6.out]; rfl
              have b3 : w6.cell? ⟨w4.heap.size, 3, none⟩ = some (.string is_) := by rw [cell_of_row w6 _ 3 _ _ _ HBX6.out]; rfl
              have b4 : w6.cell? ⟨w4.heap.size, 4, none⟩ = some (.int .i64 inn) := by rw [cell_of_row w6 _ 4 _ _ _ HBX6.out]; rfl
              have b5 : w6.cell? ⟨w4.heap.size, 5, none⟩ = some (.bool ing) := by rw [cell_of_row w6 _ 5 _ _ _ HBX6.out]; rfl
              clear hbt HBX6
              go_wp2_with fail
              refine (varC_any _ ⟨10, ix, ia, is_, inn, ing⟩).mono ?_
              rintro e w5 ⟨rfl, hb5⟩
              have HT6 := mkHid (HT6'.out.below hb5)
              obtain ⟨q0, q1, q2, _, qf⟩ := HT6.out.tw.cN (p := wd.heap.size) (updH_at _ _ _)
              have qf0 := qf 0
              have qf1 := qf 1
              have qf2 := qf 2
              have hcf : (⟨1, ⟨#[]⟩, ix⟩ : Cel).fit := celF (by omega) (by omega)
              have HT7 := mkHid (HT6.out.trans (Tr.of (HT6.out.tw.cellSet (p := wd.heap.size) (updH_at _ _ _) hcf)))
              clear hb5 qf hcf
              have hT7 := HT7.out
              try dsimp only at hT7
              have HT8 := mkHid hT7
              have hqp : ¬ wd.heap.size = p := HQP.out
              have hqp' : ¬ p = wd.heap.size := fun e => HQP.out e.symm
              have hfr8 : Fr [wd.heap.size] w5 (((w5.setCell ⟨wd.heap.size, 0, none⟩ (.int .i64 1)).setCell ⟨wd.heap.size, 1, none⟩ (.string ⟨#[]⟩)).setCell ⟨wd.heap.size, 2, none⟩ (.int .i64 ix)) := (((Fr.refl _ _).set (by simp) _).set (by simp) _).set (by simp) _
              have hpb := hfr8.block p (HT6.out.tw.ownB p (.inr (.inr (.inr (.inl ⟨_, (updH_sub _ HNO.out) p _ HD.out⟩))))).2 (by simp; exact hqp')
              clear hT7 HT7 hfr8 HT6
              clear b0 b1 b2 b3 b4 b5
              have HS8 := mkHid (HG.out.turn (B' := dropB B1 ix) HT8.out (HUP.out _) ((HG.out.bt.drop ix).mono (hidH_up fun b d _ hb => HUP.out _ b d hb)))
              have HQ8 := mkHid (HLF.out ⟨1, ⟨#[]⟩, ix⟩)
              have HD8 := mkHid HS8.out.at_
              obtain ⟨ka8, kc8, hkv8, hk81, hk82⟩ := HS8.out.tr.tw.kid_lit HD8.out
              rw [List.length_map] at hkv8 hk81
              obtain ⟨_, _, _, n37, nf8⟩ := HS8.out.tr.tw.cN HD8.out
              rw [hkv8] at n37
              have n38 : (w5).cell? ⟨p, 3, none⟩ = some (.slice ka8 qs.length kc8) := (World.cell?_of_block (a := ⟨p, 3, none⟩) hpb).symm.trans n37
              have f38 : (w5).frozen? ⟨p, 3, none⟩ = false := (World.frozen?_of_block (a := ⟨p, 3, none⟩) hpb).symm.trans (nf8 3)
              have ha8 := (HS8.out.tr.tw.nd p _ HD8.out).2.2.2
              rw [hkv8] at ha8
              have HA8 := mkHid ha8
              have HKV8 := mkHid hkv8
              have HB8 := mkHid HS8.out.tr.tw.B0
              clear hkv8 nf8 ha8 n37 hpb
              go_wp2_with (at_builtin; go_loud (refine wpList_accN (α := PtN) rfl _ _ 225 rfl W0.heap.size 223 8 _ Try.underlying225 Try.infoPtN rfl (by decide) _ (qs.map PtN.mk) HA8.out (by rfl) _ #[.pointer (some ⟨wd.heap.size, 0, none⟩)] ⟨wd.heap.size⟩ rfl (by first | rfl | (simp only [World.size_setCell]; rfl) | (simp; rfl)) (by rw [List.length_map]; omega) HB8.out ?_; intro v' w3' ha3 hg3 hw3; obtain ⟨a3, n9, c3, rfl⟩ := slice_ofN ha3; obtain ⟨hT3, x3, y3⟩ := Tr.push HS8.out.tr.tw (p := p) (d := ⟨funI put, qs.map PtN.mk⟩) HD8.out HKV8.out ha3 hg3 hw3; have HS9 := mkHid (HS8.out.part (q := wd.heap.size) hT3 HQ8.out); clear ha3 hg3 hw3 hT3))
              go_wp2_with fail
              go_roundg (1 + (put.n.toNat - (done.length + 1)))
              case rel => exact ⟨_, _, _, _, _, _, _, _, HS9, HES, fun _ => ⟨by simp, by simp only [List.length_append, List.length_cons, List.length_nil]; have := HKK.out; omega, by simp only [List.length_append, List.length_cons, List.length_nil, List.length_tail]; have := HKK.out; have := HNE.out (by decide); omega⟩⟩
              case measure => have := HKK.out; omega
          · by_cases h11 : io = 11
            · subst h11
              replace HES : Hid (SEq put.n.toNat B S.rest (done ++ [.mk ⟨2, ⟨#[]⟩, inn⟩ []]) B1 rest.tail false) := by have h := HES.out; rw [Hid]; simpa [stepD, intI] using h
              go_wp2_with fail
              refine (intC_any _ ⟨11, ix, ia, is_, inn, ing⟩).mono ?_
              rintro e w5 ⟨rfl, hb5⟩
              have HT6 := mkHid (HT5.out.below hb5)
              obtain ⟨q0, q1, q2, _, qf⟩ := HT6.out.tw.cN (p := wd.heap.size) (updH_at _ _ _)
              have qf0 := qf 0
              have qf1 := qf 1
              have qf2 := qf 2
              have hcf : (⟨2, ⟨#[]⟩, inn⟩ : Cel).fit := celF (by omega) (by omega)
              have HT7 := mkHid (HT6.out.trans (Tr.of (HT6.out.tw.cellSet (p := wd.heap.size) (updH_at _ _ _) hcf)))
              clear hb5 qf hcf
              have hT7 := HT7.out
              try dsimp only at hT7
              have HT8 := mkHid hT7
              have hqp : ¬ wd.heap.size = p := HQP.out
              have hqp' : ¬ p = wd.heap.size := fun e => HQP.out e.symm
              have hfr8 : Fr [wd.heap.size] w5 (((w5.setCell ⟨wd.heap.size, 0, none⟩ (.int .i64 2)).setCell ⟨wd.heap.size, 1, none⟩ (.string ⟨#[]⟩)).setCell ⟨wd.heap.size, 2, none⟩ (.int .i64 inn)) := (((Fr.refl _ _).set (by simp) _).set (by simp) _).set (by simp) _
              have hpb := hfr8.block p (HT6.out.tw.ownB p (.inr (.inr (.inr (.inl ⟨_, (updH_sub _ HNO.out) p _ HD.out⟩))))).2 (by simp; exact hqp')
              clear hT7 HT7 hfr8 HT6
              have HS8 := mkHid (HG.out.turn (B' := B1) HT8.out (HUP.out _) (HG.out.bt.mono (hidH_up fun b d _ hb => HUP.out _ b d hb)))
              have HQ8 := mkHid (HLF.out ⟨2, ⟨#[]⟩, inn⟩)
              have HD8 := mkHid HS8.out.at_
              obtain ⟨ka8, kc8, hkv8, hk81, hk82⟩ := HS8.out.tr.tw.kid_lit HD8.out
              rw [List.length_map] at hkv8 hk81
              obtain ⟨_, _, _, n37, nf8⟩ := HS8.out.tr.tw.cN HD8.out
              rw [hkv8] at n37
              have n38 : (w5).cell? ⟨p, 3, none⟩ = some (.slice ka8 qs.length kc8) := (World.cell?_of_block (a := ⟨p, 3, none⟩) hpb).symm.trans n37
              have f38 : (w5).frozen? ⟨p, 3, none⟩ = false := (World.frozen?_of_block (a := ⟨p, 3, none⟩) hpb).symm.trans (nf8 3)
              have ha8 := (HS8.out.tr.tw.nd p _ HD8.out).2.2.2
              rw [hkv8] at ha8
              have HA8 := mkHid ha8
              have HKV8 := mkHid hkv8
              have HB8 := mkHid HS8.out.tr.tw.B0
              clear hkv8 nf8 ha8 n37 hpb
              go_wp2_with (at_builtin; go_loud (refine wpList_accN (α := PtN) rfl _ _ 225 rfl W0.heap.size 223 8 _ Try.underlying225 Try.infoPtN rfl (by decide) _ (qs.map PtN.mk) HA8.out (by rfl) _ #[.pointer (some ⟨wd.heap.size, 0, none⟩)] ⟨wd.heap.size⟩ rfl (by first | rfl | (simp only [World.size_setCell]; rfl) | (simp; rfl)) (by rw [List.length_map]; omega) HB8.out ?_; intro v' w3' ha3 hg3 hw3; obtain ⟨a3, n9, c3, rfl⟩ := slice_ofN ha3; obtain ⟨hT3, x3, y3⟩ := Tr.push HS8.out.tr.tw (p := p) (d := ⟨funI put, qs.map PtN.mk⟩) HD8.out HKV8.out ha3 hg3 hw3; have HS9 := mkHid (HS8.out.part (q := wd.heap.size) hT3 HQ8.out); clear ha3 hg3 hw3 hT3))
              go_wp2_with fail
              go_roundg (1 + (put.n.toNat - (done.length + 1)))
              case rel => exact ⟨_, _, _, _, _, _, _, _, HS9, HES, fun _ => ⟨by simp, by simp only [List.length_append, List.length_cons, List.length_nil]; have := HKK.out; omega, by simp only [List.length_append, List.length_cons, List.length_nil, List.length_tail]; have := HKK.out; have := HNE.out (by decide); omega⟩⟩
              case measure => have := HKK.out; omega
            · replace HES : Hid (SEq put.n.toNat B S.rest (done ++ [.mk zeroC []]) B1 rest.tail true) := by have h := HES.out; rw [Hid]; simpa [stepD, h9, h10, h11] using h
              have t9 : (io == 9) = false := by simp [h9]
              have t10 : (io == 10) = false := by simp [h10]
              have t11 : (io == 11) = false := by simp [h11]
              obtain ⟨_, _, _, _, _, t3, tf, _⟩ := HT5.out.tw.cR
              have tf3 := tf 3
              have HT7 := mkHid (HT5.out.trans (Tr.of HT5.out.tw.setBad))
              have HUP2 : Hid (∀ b d, H1 b = some d → updH H1 wd.heap.size ⟨zeroC, []⟩ b = some d) := updH_sub _ HNO.out
              have hT7 := HT7.out
              try dsimp only at hT7
              have HT8 := mkHid hT7
              have hRp : ¬ R = p := fun e => HT5.out.tw.R_nd (p := p) ((updH_sub _ HNO.out) p _ HD.out) e.symm
              have hRp' : ¬ p = R := fun e => hRp e.symm
              have hpb : ((w4.alloc (.cells #[.int .i64 io, .int .i64 ix, .int .i64 ia, .string is_, .int .i64 inn, .bool ing] 90)).setCell ⟨R, 3, none⟩ (.bool true)).heap[p]? = (w4.alloc (.cells #[.int .i64 io, .int .i64 ix, .int .i64 ia, .string is_, .int .i64 inn, .bool ing] 90)).heap[p]? := Below.heap_setCell _ _ _ _ hRp'
              clear h9 h10 h11 tf hT7 HT7
              have HS8 := mkHid (HG.out.turn (B' := B1) HT8.out HUP2.out (HG.out.bt.mono (hidH_up fun b d _ hb => HUP2.out b d hb)))
              have HQ8 : Hid (TrH (hidH (updH H1 wd.heap.size ⟨zeroC, []⟩) p) wd.heap.size (.mk zeroC [])) := TrH.mk (by unfold hidH; rw [if_neg HQP.out, updH_at]) .nil
              have HD8 := mkHid HS8.out.at_
              obtain ⟨ka8, kc8, hkv8, hk81, hk82⟩ := HS8.out.tr.tw.kid_lit HD8.out
              rw [List.length_map] at hkv8 hk81
              obtain ⟨_, _, _, n37, nf8⟩ := HS8.out.tr.tw.cN HD8.out
              rw [hkv8] at n37
              have n38 : ((w4.alloc (.cells #[.int .i64 io, .int .i64 ix, .int .i64 ia, .string is_, .int .i64 inn, .bool ing] 90))).cell? ⟨p, 3, none⟩ = some (.slice ka8 qs.length kc8) := (World.cell?_of_block (a := ⟨p, 3, none⟩) hpb).symm.trans n37
              have f38 : ((w4.alloc (.cells #[.int .i64 io, .int .i64 ix, .int .i64 ia, .string is_, .int .i64 inn, .bool ing] 90))).frozen? ⟨p, 3, none⟩ = false := (World.frozen?_of_block (a := ⟨p, 3, none⟩) hpb).symm.trans (nf8 3)
              have ha8 := (HS8.out.tr.tw.nd p _ HD8.out).2.2.2
              rw [hkv8] at ha8
              have HA8 := mkHid ha8
              have HKV8 := mkHid hkv8
              have HB8 := mkHid HS8.out.tr.tw.B0
              clear hkv8 nf8 ha8 n37 hpb
              go_wp2_with (at_builtin; go_loud (refine wpList_accN (α := PtN) rfl _ _ 225 rfl W0.heap.size 223 8 _ Try.underlying225 Try.infoPtN rfl (by decide) _ (qs.map PtN.mk) HA8.out (by rfl) _ #[.pointer (some ⟨wd.heap.size, 0, none⟩)] ⟨wd.heap.size⟩ rfl (by first | rfl | (simp only [World.size_setCell]; rfl) | (simp; rfl)) (by rw [List.length_map]; omega) HB8.out ?_; intro v' w3' ha3 hg3 hw3; obtain ⟨a3, n9, c3, rfl⟩ := slice_ofN ha3; obtain ⟨hT3, x3, y3⟩ := Tr.push HS8.out.tr.tw (p := p) (d := ⟨funI put, qs.map PtN.mk⟩) HD8.out HKV8.out ha3 hg3 hw3; have HS9 := mkHid (HS8.out.part (q := wd.heap.size) hT3 HQ8.out); clear ha3 hg3 hw3 hT3))
              go_wp2_with fail
              go_roundg 0
              case rel => exact ⟨_, _, _, _, _, _, _, _, HS9, HES, fun h => (by cases h)⟩
              case measure => have := HKK.out; omega
    · have HP := mkHid (EXIT.out (.inr hm))
      clear EXIT HK HE
      go_wp2_with fail
      refine wp_region_noPanic ?_
      refine wp_region_held_drew (S := fun X => X.cell? ⟨p, 3, none⟩ = some (.slice ka qs.length kc) ∧ X.cell? ⟨R, 3, none⟩ = some (.bool bad) ∧ X.cell? ⟨w.heap.size, 4, none⟩ = some (.int .i64 put.n)) (by kernel_rfl) ⟨keep n3 hbd, keep r3 hbd, keep bx hbd⟩ (fun hSd => ?_)
      refine wpAnyH_take (i := 0) (oi := _) (v := ?_) rfl (by kernel_rfl) (by kernel_rfl) (by kernel_rfl) (fun _ _ _ h => h) (Or.inl ⟨by rfl, ?_⟩) (by assumption) ?_
      rotate_left
      · (intro w' hSw; obtain ⟨z0, z1, z2⟩ := hSw; go_simp; try with_reducible rfl)
      (try simp only [List.getElem_toArray, List.getElem_cons_succ, List.getElem_cons_zero, Act.put, List.setIfInBounds_toArray, List.set_cons_zero, List.set_cons_succ])
      refine wpAnyH_take (i := 1) (oi := _) (v := ?_) rfl (by kernel_rfl) (by kernel_rfl) (by kernel_rfl) (fun _ _ _ h => h) (Or.inl ⟨by rfl, ?_⟩) (by assumption) ?_
      rotate_left
      · (intro w' hSw; obtain ⟨z0, z1, z2⟩ := hSw; go_simp; try with_reducible rfl)
      (try simp only [List.getElem_toArray, List.getElem_cons_succ, List.getElem_cons_zero, Act.put, List.setIfInBounds_toArray, List.set_cons_zero, List.set_cons_succ])
      refine wpAnyH_take (i := 2) (oi := _) (v := ?_) rfl (by kernel_rfl) (by kernel_rfl) (by kernel_rfl) (fun _ _ _ h => h) (Or.inl ⟨by rfl, ?_⟩) (by assumption) ?_
      rotate_left
      · (intro w' hSw; obtain ⟨z0, z1, z2⟩ := hSw; go_simp; try with_reducible rfl)
      (try simp only [List.getElem_toArray, List.getElem_cons_succ, List.getElem_cons_zero, Act.put, List.setIfInBounds_toArray, List.set_cons_zero, List.set_cons_succ])
      refine wpAnyH_take (i := 3) (oi := _) (v := ?_) rfl (by kernel_rfl) (by kernel_rfl) (by kernel_rfl) (fun _ _ _ h => h) (Or.inl ⟨by rfl, ?_⟩) (by assumption) ?_
      rotate_left
      · (intro w' hSw; obtain ⟨z0, z1, z2⟩ := hSw; go_simp; try with_reducible rfl)
      (try simp only [List.getElem_toArray, List.getElem_cons_succ, List.getElem_cons_zero, Act.put, List.setIfInBounds_toArray, List.set_cons_zero, List.set_cons_succ])
      refine wpAnyH_take (i := 4) (oi := _) (v := ?_) rfl (by kernel_rfl) (by kernel_rfl) (by kernel_rfl) (fun _ _ _ h => h) (Or.inl ⟨by rfl, ?_⟩) (by assumption) ?_
      rotate_left
      · (intro w' hSw; obtain ⟨z0, z1, z2⟩ := hSw; go_simp; try with_reducible rfl)
      (try simp only [List.getElem_toArray, List.getElem_cons_succ, List.getElem_cons_zero, Act.put, List.setIfInBounds_toArray, List.set_cons_zero, List.set_cons_succ])
      refine wpAnyH_take (i := 5) (oi := _) (v := ?_) rfl (by kernel_rfl) (by kernel_rfl) (by kernel_rfl) (fun _ _ _ h => h) (Or.inl ⟨by rfl, ?_⟩) (by assumption) ?_
      rotate_left
      · (intro w' hSw; obtain ⟨z0, z1, z2⟩ := hSw; go_simp; try with_reducible rfl)
      (try simp only [List.getElem_toArray, List.getElem_cons_succ, List.getElem_cons_zero, Act.put, List.setIfInBounds_toArray, List.set_cons_zero, List.set_cons_succ])
      refine wpAnyH_take (i := 6) (oi := _) (v := ?_) rfl (by kernel_rfl) (by kernel_rfl) (by kernel_rfl) (fun _ _ _ h => h) (Or.inl ⟨by rfl, ?_⟩) (by assumption) ?_
      rotate_left
      · (intro w' hSw; obtain ⟨z0, z1, z2⟩ := hSw; go_simp; try with_reducible rfl)
      (try simp only [List.getElem_toArray, List.getElem_cons_succ, List.getElem_cons_zero, Act.put, List.setIfInBounds_toArray, List.set_cons_zero, List.set_cons_succ])
      refine wpAnyH_take (i := 7) (oi := _) (v := .bool false) rfl (by kernel_rfl) (by kernel_rfl) (by kernel_rfl) (fun _ _ _ h => h) (Or.inl ⟨by rfl, ?_⟩) (by assumption) ?_
      · (intro w' hSw; obtain ⟨z0, z1, z2⟩ := hSw; go_simp; try (first | with_reducible rfl | simp [hm]))
      (try simp only [List.getElem_toArray, List.getElem_cons_succ, List.getElem_cons_zero, Act.put, List.setIfInBounds_toArray, List.set_cons_zero, List.set_cons_succ])
      refine wpAnyH_take (i := 8) (oi := _) (v := .bool false) rfl (by kernel_rfl) (by kernel_rfl) (by kernel_rfl) (fun _ _ _ h => h) (Or.inl ⟨by rfl, ?_⟩) (by assumption) ?_
      · (intro w' hSw; obtain ⟨z0, z1, z2⟩ := hSw; go_simp; try (first | with_reducible rfl | simp [hm]))
      (try simp only [List.getElem_toArray, List.getElem_cons_succ, List.getElem_cons_zero, Act.put, List.setIfInBounds_toArray, List.set_cons_zero, List.set_cons_succ])
      refine wpAnyH_take (i := 9) (oi := _) (v := undef) rfl (by kernel_rfl) (by kernel_rfl) (by kernel_rfl) (fun _ _ _ h => h) (Or.inr ⟨by kernel_rfl, rfl⟩) (by assumption) ?_
      (try simp only [List.getElem_toArray, List.getElem_cons_succ, List.getElem_cons_zero, Act.put, List.setIfInBounds_toArray, List.set_cons_zero, List.set_cons_succ])
      refine wpAnyH_take (i := 10) (oi := _) (v := undef) rfl (by kernel_rfl) (by kernel_rfl) (by kernel_rfl) (fun _ _ _ h => h) (Or.inr ⟨by kernel_rfl, rfl⟩) (by assumption) ?_
      (try simp only [List.getElem_toArray, List.getElem_cons_succ, List.getElem_cons_zero, Act.put, List.setIfInBounds_toArray, List.set_cons_zero, List.set_cons_succ])
      refine wpAnyH_take (i := 11) (oi := _) (v := undef) rfl (by kernel_rfl) (by kernel_rfl) (by kernel_rfl) (fun _ _ _ h => h) (Or.inr ⟨by kernel_rfl, rfl⟩) (by assumption) ?_
      (try simp only [List.getElem_toArray, List.getElem_cons_succ, List.getElem_cons_zero, Act.put, List.setIfInBounds_toArray, List.set_cons_zero, List.set_cons_succ])
      refine wpAnyH_take (i := 12) (oi := _) (v := undef) rfl (by kernel_rfl) (by kernel_rfl) (by kernel_rfl) (fun _ _ _ h => h) (Or.inr ⟨by kernel_rfl, rfl⟩) (by assumption) ?_
      (try simp only [List.getElem_toArray, List.getElem_cons_succ, List.getElem_cons_zero, Act.put, List.setIfInBounds_toArray, List.set_cons_zero, List.set_cons_succ])
      refine wpAnyH_take (i := 13) (oi := _) (v := undef) rfl (by kernel_rfl) (by kernel_rfl) (by kernel_rfl) (fun _ _ _ h => h) (Or.inr ⟨by kernel_rfl, rfl⟩) (by assumption) ?_
      (try simp only [List.getElem_toArray, List.getElem_cons_succ, List.getElem_cons_zero, Act.put, List.setIfInBounds_toArray, List.set_cons_zero, List.set_cons_succ])
      refine wpAnyH_take (i := 14) (oi := _) (v := ?_) rfl (by kernel_rfl) (by kernel_rfl) (by kernel_rfl) (fun _ _ _ h => h) (Or.inl ⟨by rfl, ?_⟩) (by assumption) ?_
      rotate_left
      · (intro w' hSw; obtain ⟨z0, z1, z2⟩ := hSw; go_simp; try with_reducible rfl)
      (try simp only [List.getElem_toArray, List.getElem_cons_succ, List.getElem_cons_zero, Act.put, List.setIfInBounds_toArray, List.set_cons_zero, List.set_cons_succ])
      refine wpAnyH_done (by kernel_rfl) (NoPanic.normal ?_) _
      go_wp2_with fail
      go_ret
      exact HP.out
end Go.Proofs.Ytmmnfkggfnokjaa
set_option linter.unusedVariables false
namespace Go.Proofs.Ytmmnfkggfnokjaa
open Go.RowKit
/-- blocks that are none of the teller's, and were not there, turned -/
theorem Tr.other {W0 w W W' : World} {R fm bm : Nat} {S S1 : TS} {kv kv1 : Nat → Value} (h : Tr W0 w R fm bm S kv W S1 kv1) (h0 : W0.heap.size ≤ w.heap.size) {us : List Nat} (hf : Fr us W W') (hu : ∀ b ∈ us, ¬ Own R fm bm S1 kv1 b ∧ w.heap.size ≤ b) : Tr W0 w R fm bm S kv W' S1 kv1 := by
  refine ⟨h.tw.fr hf (fun b hb => (hu b hb).1) (fun b hb => Nat.le_trans h0 (hu b hb).2), ⟨hf.os.trans h.fr.os, hf.tape.trans h.fr.tape, hf.output.trans h.fr.output, Nat.le_trans h.fr.size hf.size, fun k hk hp => ?_⟩, h.new⟩
  refine (hf.block k (Nat.lt_of_lt_of_le hk h.fr.size) (fun e => ?_)).trans (h.fr.block k hk hp)
  have := (hu k e).2
  omega
/-- what a literal is told of -/
def LitPost (W0 w : World) (R fm bm : Nat) (S : TS) (kv : Nat → Value) (neg : Bool) (x : Int) (t : Tm) (e : Ending) (W' : World) : Prop :=
  (S.built x = none ∧ e = .returned (.agg #[.bool false, .slice none 0 0]) ∧ Tr W0 w R fm bm S kv W' { S with built := delP S.built x, bad := true } kv) ∨ ∃ (a : Option Addr) (n c : Nat), (S.built x).isSome = true ∧ e = .returned (.agg #[.bool neg, .slice a n c]) ∧ Tr W0 w R fm bm S kv W' { S with built := delP S.built x } kv ∧ AccInv w.heap.size 79 t.flat (.slice a n c) W'
set_option maxRecDepth 100000 in
set_option maxHeartbeats 6400000 in
theorem tlit_any (W0 w : World) (R fm bm : Nat) (S : TS) (kv : Nat → Value) (hT : TW W0 w R fm bm S kv) (i : Ins) (hfit : i.fit) (t : Tm) (ht : ∀ p, S.built i.a = some p → TrH S.H p t) (hl : t.flat.length ≤ 900000000) :
    Calls Try.prog 198 #[.pointer (some ⟨R, 0, none⟩), i.v] w (LitPost W0 w R fm bm S kv i.neg i.a t) := by
  obtain ⟨o1, o2, x1', x2', a1, a2, hsz, hn1, hn2⟩ := hfit
  have hbx := ((Below.refl w.heap.size w).new (.cells #[.int .i64 i.op, .int .i64 i.x, .int .i64 i.a, .string i.s, .int .i64 i.n, .bool i.neg] 90)).new (.cells #[.bool false, .slice none 0 0] 88)
  have HT := mkHid ((Tr.refl hT).below hbx)
  have HTW := mkHid hT
  have HTR := mkHid ht
  clear hbx hT ht
  go_enter Try.func198, Try.ntmps198
  dsimp only [Ins.v]
  go_wp2_with fail
  refine (taken_any W0 _ R fm bm _ _ HT.out.tw i.a a1 a2).mono ?_
  rintro e w6 ⟨rfl, hT6⟩
  have hbox := hT6.fr.block w.heap.size (by simp; omega) (fun e => by have := (HTW.out.ownB _ e).2; omega)
  have hlit := hT6.fr.block (w.heap.size + 1) (by simp) (fun e => by have := (HTW.out.ownB _ e).2; omega)
  rw [heap_alloc_old _ _ (by simp), heap_alloc_new] at hbox
  have hbs : (w.alloc (.cells #[.int .i64 i.op, .int .i64 i.x, .int .i64 i.a, .string i.s, .int .i64 i.n, .bool i.neg] 90)).heap.size = w.heap.size + 1 := by simp
  rw [← hbs, heap_alloc_new, hbs] at hlit
  have HT6 := mkHid (HT.out.trans hT6)
  have b5 : w6.cell? ⟨w.heap.size, 5, none⟩ = some (.bool i.neg) := by rw [cell_of_row w6 _ 5 _ _ _ hbox]; rfl
  have l0 : w6.cell? ⟨w.heap.size + 1, 0, none⟩ = some (.bool false) := by rw [cell_of_row w6 _ 0 _ _ _ hlit]; rfl
  have l1 : w6.cell? ⟨w.heap.size + 1, 1, none⟩ = some (.slice none 0 0) := by rw [cell_of_row w6 _ 1 _ _ _ hlit]; rfl
  have g0 : w6.frozen? ⟨w.heap.size + 1, 0, none⟩ = false := by simp [World.frozen?, hlit]
  have g1 : w6.frozen? ⟨w.heap.size + 1, 1, none⟩ = false := by simp [World.frozen?, hlit]
  have hwl : w.heap.size + 1 < w6.heap.size := (Array.getElem?_eq_some_iff.1 hlit).1
  have HLO : Hid (¬ Own R fm bm { S with built := delP S.built i.a } kv (w.heap.size + 1)) := fun e => by
    have hs := (hT6.new _ e)
    rcases hs with e | e
    · have := (HTW.out.ownB _ e).2; omega
    · simp at e; omega
  clear hT6 hbox hlit hbs
  cases hbi : S.built i.a with
  | none =>
    have HBI := mkHid hbi
    obtain ⟨_, _, _, _, _, t3, tf, _⟩ := HT6.out.tw.cR
    have tf3 := tf 3
    have hRl : ¬ R = w.heap.size + 1 := fun e => HLO.out (.inl e.symm)
    have hRl' : ¬ w.heap.size + 1 = R := fun e => hRl e.symm
    have HT7 := mkHid (HT6.out.trans (Tr.of HT6.out.tw.setBad))
    have hW0 := HTW.out.B0
    have HT8 := mkHid (HT7.out.other HTW.out.B0 (us := [w.heap.size + 1]) (W' := ((w6.setCell ⟨R, 3, none⟩ (.bool true)).setCell ⟨w.heap.size + 1, 0, none⟩ (.bool false)).setCell ⟨w.heap.size + 1, 1, none⟩ (.slice none 0 0)) (((Fr.refl _ _).set (by simp) _).set (by simp) _) (by simp; exact HLO.out))
    clear tf hW0
    dsimp only [ptO, Option.isSome]
    go_wp2_with fail
    exact bodyPost_ret (v := .agg #[.bool false, .slice none 0 0]) (by simp [results, Try.results198, go_sem, *]) rfl (.inl ⟨HBI.out, rfl, HT8.out⟩)
  | some p =>
    have hci := HTR.out p hbi
    have hsi : (S.built i.a).isSome = true := by rw [hbi]; rfl
    have HSI := mkHid hsi
    have HCI := mkHid hci
    clear hsi hci
    dsimp only [ptO, Option.isSome]
    go_wp2_with fail
    have hbd : Below w6.heap.size w6 w6.drew := (Below.refl _ _).drew
    refine wp_region_noPanic ?_
    refine wp_region_held_drew (S := fun X => X.cell? ⟨w.heap.size, 5, none⟩ = some (.bool i.neg)) (by kernel_rfl) (keep b5 hbd) (fun hSd => ?_)
    have l0d := keep l0 hbd
    have l1d := keep l1 hbd
    obtain ⟨v0, hx0⟩ : ∃ X, w6.drew = X := ⟨_, rfl⟩
    have g0d : w6.drew.frozen? ⟨w.heap.size + 1, 0, none⟩ = false := (hbd.frozen (by simpa using hwl)).trans g0
    have g1d : w6.drew.frozen? ⟨w.heap.size + 1, 1, none⟩ = false := (hbd.frozen (by simpa using hwl)).trans g1
    rw [hx0] at hbd hSd l0d l1d g0d g1d ⊢
    clear hx0 l0 l1 g0 g1 b5
    refine wpAnyH_take (i := 0) (oi := _) (v := ?_) rfl (by kernel_rfl) (by kernel_rfl) (by kernel_rfl) (fun _ _ _ h => h) (Or.inl ⟨by rfl, ?_⟩) (by assumption) ?_
    rotate_left
    · (intro w' hSw; go_simp; try with_reducible rfl)
    (try simp only [List.getElem_toArray, List.getElem_cons_succ, List.getElem_cons_zero, Act.put, List.setIfInBounds_toArray, List.set_cons_zero, List.set_cons_succ])
    refine wpAnyH_take (i := 1) (oi := _) (v := ?_) rfl (by kernel_rfl) (by kernel_rfl) (by kernel_rfl) (fun _ _ _ h => h) (Or.inl ⟨by rfl, ?_⟩) (by assumption) ?_
    rotate_left
    · (intro w' hSw; go_simp; try with_reducible rfl)
    (try simp only [List.getElem_toArray, List.getElem_cons_succ, List.getElem_cons_zero, Act.put, List.setIfInBounds_toArray, List.set_cons_zero, List.set_cons_succ])
    refine wpAnyH_take (i := 2) (oi := _) (v := ?_) rfl (by kernel_rfl) (by kernel_rfl) (by kernel_rfl) (fun _ _ _ h => h) (Or.inl ⟨by rfl, ?_⟩) (by assumption) ?_
    rotate_left
    · (intro w' hSw; go_simp; try with_reducible rfl)
    (try simp only [List.getElem_toArray, List.getElem_cons_succ, List.getElem_cons_zero, Act.put, List.setIfInBounds_toArray, List.set_cons_zero, List.set_cons_succ])
    refine wpAnyH_ready (rs := [3]) (by kernel_rfl) (by simp) ?_
    refine AllReadyH.cons (o := _) rfl (fun K hK => ?_) AllReadyH.nil
    go_simp
    have HT0 := mkHid (HT6.out.below hbd)
    refine (cells_any W0 v0 R fm bm _ _ HT0.out.tw p t HCI.out hl).mono ?_
    rintro e v1 ⟨ca, cn, cc, rfl, hA, hb1⟩
    have m0 := keep l0d hb1
    have m1 := keep l1d hb1
    have k0 : v1.frozen? ⟨w.heap.size + 1, 0, none⟩ = false := (hb1.frozen (by have := hbd.size; simp at this ⊢; omega)).trans g0d
    have k1 : v1.frozen? ⟨w.heap.size + 1, 1, none⟩ = false := (hb1.frozen (by have := hbd.size; simp at this ⊢; omega)).trans g1d
    have HA := mkHid hA
    have HT1 := mkHid ((HT0.out.below hb1).other HTW.out.B0 (us := [w.heap.size + 1]) (W' := (v1.setCell ⟨w.heap.size + 1, 0, none⟩ (.bool i.neg)).setCell ⟨w.heap.size + 1, 1, none⟩ (.slice ca cn cc)) (((Fr.refl _ _).set (by simp) _).set (by simp) _) (by simp; exact HLO.out))
    have HF1 : Hid (AccInv w.heap.size 79 t.flat (.slice ca cn cc) ((v1.setCell ⟨w.heap.size + 1, 0, none⟩ (.bool i.neg)).setCell ⟨w.heap.size + 1, 1, none⟩ (.slice ca cn cc))) := by
      have hf : Fr [w.heap.size + 1] v1 ((v1.setCell ⟨w.heap.size + 1, 0, none⟩ (.bool i.neg)).setCell ⟨w.heap.size + 1, 1, none⟩ (.slice ca cn cc)) := ((Fr.refl _ _).set (by simp) _).set (by simp) _
      refine (HA.out.baseN (by have := hbd.size; omega)).blockN (fun h => h) fun b hb => hf.block b (HA.out.lt b hb).2 (by
        have := (HA.out.lt b hb).1
        have h2 := hbd.size
        simp
        omega)
    have hS1 := keep hSd hb1
    clear HA hA HT0 hb1 l0d l1d g0d g1d
    try dsimp only
    refine hK.out _ _ hS1 (fun _ => ?_)
    clear hK K
    (try simp only [List.getElem_toArray, List.getElem_cons_succ, List.getElem_cons_zero, Act.put, List.setIfInBounds_toArray, List.set_cons_zero, List.set_cons_succ])
    refine wpAnyH_take (i := 4) (oi := _) (v := ?_) rfl (by kernel_rfl) (by kernel_rfl) (by kernel_rfl) (fun _ _ _ h => h) (Or.inl ⟨by rfl, ?_⟩) (by assumption) ?_
    rotate_left
    · (intro w' hSw; go_simp; try with_reducible rfl)
    (try simp only [List.getElem_toArray, List.getElem_cons_succ, List.getElem_cons_zero, Act.put, List.setIfInBounds_toArray, List.set_cons_zero, List.set_cons_succ])
    refine wpAnyH_ready (rs := [5]) (by kernel_rfl) (by simp) ?_
    refine AllReadyH.cons (o := _) rfl (fun K hK => ?_) AllReadyH.nil
    go_simp
    try dsimp only
    refine hK.out _ _ (by go_simp) (fun _ => ?_)
    clear hK K
    (try simp only [List.getElem_toArray, List.getElem_cons_succ, List.getElem_cons_zero, Act.put, List.setIfInBounds_toArray, List.set_cons_zero, List.set_cons_succ])
    refine wpAnyH_done (by kernel_rfl) (NoPanic.normal ?_) _
    go_wp2_with fail
    exact bodyPost_ret (v := .agg #[.bool i.neg, .slice ca cn cc]) (by simp [results, Try.results198, go_sem, *]) rfl (.inr ⟨ca, cn, cc, HSI.out, rfl, HT1.out, HF1.out⟩)
end Go.Proofs.Ytmmnfkggfnokjaa
set_option linter.unusedVariables false
namespace Go.Proofs.Ytmmnfkggfnokjaa
open Go.RowKit
/-! ### the body: what is plain of it -/
def updP (f : Int → Option Nat) (x : Int) (p : Nat) : Int → Option Nat := fun j => if j = x then some p else f j
theorem BtOk.put {H : Nat → Option NdS} {built : Int → Option Nat} {B : BL} (h : BtOk H built B) (x : Int) {p : Nat} {t : Tm} (ht : TrH H p t) : BtOk H (updP built x p) (putB B x t) := fun i => by
  rw [getB_put]
  unfold updP
  split
  · exact .inr ⟨p, t, rfl, rfl, ht⟩
  · exact h i
theorem MapV.run_updN {P : Program} {k e t : TypeId} {w : World} {b n : Nat} {f : Int → Option Value} (h : MapV P k w b n f) (hk : P.underlying k = some (.int .i64)) (ht : P.underlying t = some (.map k e)) (hn : n < 9223372036854775807) (i : Int) (hi : (Lit.int .i64 i).wf = true) (z : Value) :
    ∃ w', (Instr.mapUpdate t (.map (some b)) (.int .i64 i) z).run P w = .ok () w' ∧ MapV P k w' b (n + 1) (fun j => if j = i then some z else f j) ∧ w.grownBy w' (some b) := by
  obtain ⟨D, h, hf⟩ := h.ex
  obtain ⟨w', hrun, h1, h2⟩ := h.update (Go.Maps.int_keyed hk) ht (by unfold maxLen; omega) (Go.Maps.keyOf_int_mk hk hi) (show heldElem z = some (.held z, []) from rfl)
  exact ⟨w', hrun, ⟨_, h1, MapV.put_at h.isMap hf i z⟩, h2⟩
def sumT (l : List (Bool × Tm)) : Nat := (l.map fun x => x.2.flat.length).sum
structure BP (S : TS) (B : BL) (lits : List (Bool × Tm)) (rest : List Ins) (bad : Bool) : Prop where
  len : sumB B + sumT lits + rest.length ≤ S.rest.length + (if bad = true then 1 else 0)
  comp : ∀ bs0, BodyR S.rest (fun _ => none) bs0 → bad = false ∧ ∃ bs', BodyR rest (getB B) bs' ∧ bs0 = lits ++ bs'
theorem BP.start (S : TS) (h : S.bad = false) : BP S [] [] S.rest S.bad := by
  refine ⟨by simp [sumB, sumT], fun bs0 hb => ⟨h, bs0, ?_, rfl⟩⟩
  have e : getB [] = fun _ => none := funext fun j => rfl
  rw [e]; exact hb
theorem BP.put {S : TS} {B : BL} {lits : List (Bool × Tm)} {i : Ins} {l : List Ins} (h : BP S B lits (i :: l) false) (h8 : i.op = 8) : BP S (putB (setsM i.n.toNat B l).2.1 i.a (.mk (funI i) (setsM i.n.toNat B l).1)) lits (setsM i.n.toNat B l).2.2.1 (setsM i.n.toNat B l).2.2.2 := by
  have h1 := (setsM_len i.n.toNat B l).1
  have h2 := sumB_put (setsM i.n.toNat B l).2.1 i.a (.mk (funI i) (setsM i.n.toNat B l).1)
  have h3 := h.len
  simp only [Tm.flat, List.length_cons, Bool.false_eq_true, if_false] at h2 h3
  refine ⟨by omega, fun bs0 hb => ?_⟩
  obtain ⟨_, bs', e1, e2⟩ := h.comp bs0 hb
  generalize hG : getB B = G at e1
  cases e1 with
  | @put _ us rest2 _ B' ts _ hop hn hs hr =>
    obtain ⟨B2, e3, hB2⟩ := hs.told B rest2 (fun j => by rw [hG])
    rw [show i.n.toNat = us.length by omega, e3]
    refine ⟨rfl, bs', ?_, e2⟩
    have e : getB (putB B2 i.a (.mk (funI i) ts)) = updB B' i.a (.mk ⟨3, i.s, i.n⟩ ts) := funext fun j => by
      rw [getB_put, hB2]; rfl
    rw [e]
    exact hr
  | call hop _ _ => omega
theorem BP.call {S : TS} {B : BL} {lits : List (Bool × Tm)} {i : Ins} {l : List Ins} (h : BP S B lits (i :: l) false) (h12 : i.op = 12) {t : Tm} (ht : getB B i.a = some t) : BP S (dropB B i.a) (lits ++ [(i.neg, t)]) l false := by
  have h1 := dropB_get ht
  have h3 := h.len
  have h4 : sumT (lits ++ [(i.neg, t)]) = sumT lits + t.flat.length := by simp [sumT]
  simp only [List.length_cons, Bool.false_eq_true, if_false] at h3 ⊢
  refine ⟨by rw [h4]; simp only [Bool.false_eq_true, if_false]; omega, fun bs0 hb => ?_⟩
  obtain ⟨_, bs', e1, e2⟩ := h.comp bs0 hb
  generalize hG : getB B = G at e1
  cases e1 with
  | put hop _ _ _ => omega
  | @call _ _ _ t' bs2 hop ht' hr =>
    rw [← hG, ht] at ht'
    cases ht'
    refine ⟨rfl, bs2, ?_, by rw [e2]; simp⟩
    have e : getB (dropB B i.a) = delB G i.a := funext fun j => by rw [getB_drop, hG]; rfl
    rw [e]
    exact hr
theorem BP.lost {S : TS} {B B' : BL} {lits : List (Bool × Tm)} {i : Ins} {l : List Ins} (h : BP S B lits (i :: l) false) (hB : sumB B' ≤ sumB B) (h8 : i.op ≠ 8) (h12 : i.op = 12 → getB B i.a = none) : BP S B' lits l true := by
  have h3 := h.len
  simp only [List.length_cons, Bool.false_eq_true, if_false] at h3
  refine ⟨by simp only [if_true]; omega, fun bs0 hb => ?_⟩
  obtain ⟨_, bs', e1, e2⟩ := h.comp bs0 hb
  generalize hG : getB B = G at e1
  cases e1 with
  | put hop _ _ _ => exact absurd hop h8
  | call hop ht _ => rw [← hG, h12 hop] at ht; cases ht
theorem BP.ends {S : TS} {B : BL} {lits : List (Bool × Tm)} {rest : List Ins} {bad : Bool} (h : BP S B lits rest bad) (he : bad = true ∨ rest = []) : ∀ bs0, BodyR S.rest (fun _ => none) bs0 → bad = false ∧ bs0 = lits := fun bs0 hb => by
  obtain ⟨e1, bs', e2, e3⟩ := h.comp bs0 hb
  refine ⟨e1, ?_⟩
  rcases he with e | rfl
  · rw [e] at e1; cases e1
  · cases e2
    rw [e3, List.append_nil]
/-! #### literals in memory, their terms' rows each its own -/
structure LitV where
  neg : Bool
  v : Value
structure LitVE (w : World) (b o : Nat) (x : LitV) : Prop where
  c0 : w.cell? ⟨b, o, none⟩ = some (.bool x.neg)
  c1 : w.cell? ⟨b, o + 1, none⟩ = some x.v
  one : x.v.oneCell' = true
instance instRepCLitV : RepC LitV where
  sz := 2
  E := LitVE
  mono h hb := ⟨hb _ _ _ h.c0, hb _ _ _ h.c1, h.one⟩
  lt h := cell_lt h.c0
  C _ cs x := cs = [.bool x.neg, x.v] ∧ x.v.oneCell' = true
  len := by rintro w cs x ⟨rfl, _⟩; rfl
  one := by
    rintro w cs x ⟨rfl, h1⟩ u hu
    simp at hu
    rcases hu with rfl | rfl
    · rfl
    · exact h1
  cmono := by rintro w w' cs x h _; exact h
  toE := by
    rintro w cs x b o ⟨rfl, h1⟩ hat
    exact ⟨hat 0 _ rfl, hat 1 _ rfl, h1⟩
  ofE := by
    rintro w x b o ⟨h0, h1, h2⟩
    refine ⟨_, ⟨rfl, h2⟩, fun j u hj => ?_⟩
    match j with
    | 0 => simp at hj; subst hj; exact h0
    | 1 => simp at hj; subst hj; exact h1
    | j + 2 => simp at hj
  pos := by decide
theorem Try.infoLitN : (Try.prog.info? 88).map (fun i => (i.zero, i.size, i.bytes)) = some (some (.agg #[.bool false, .slice none 0 0]), 2, 32) := by kernel_rfl
structure LitsOk (P : Nat → Prop) (W : World) (B0 : Nat) (ls : List LitV) (lits : List (Bool × Tm)) : Prop where
  neg : ls.map LitV.neg = lits.map Prod.fst
  at_ : ∀ (k : Nat) l x, ls[k]? = some l → lits[k]? = some x → AccInv B0 79 x.2.flat l.v W
  off : ∀ l ∈ ls, offP P l.v
  sep : ls.Pairwise fun a b => ∀ g, a.v.ownBlock = some g → b.v.ownBlock ≠ some g
theorem LitsOk.nil (P : Nat → Prop) (W : World) (B0 : Nat) : LitsOk P W B0 [] [] := ⟨rfl, fun k l x h => by simp at h, fun l h => by simp at h, List.Pairwise.nil⟩
theorem LitsOk.len {P : Nat → Prop} {W : World} {B0 : Nat} {ls : List LitV} {lits : List (Bool × Tm)} (h : LitsOk P W B0 ls lits) : ls.length = lits.length := by
  have := congrArg List.length h.neg
  simpa using this
theorem LitsOk.of {P : Nat → Prop} {W : World} {B0 : Nat} {ls : List LitV} {lits : List (Bool × Tm)} (h : LitsOk P W B0 ls lits) {l : LitV} (hl : l ∈ ls) : ∃ x, AccInv B0 79 (Tm.flat x) l.v W := by
  obtain ⟨k, hk, e⟩ := List.getElem_of_mem hl
  have hk2 : k < lits.length := by rw [← h.len]; exact hk
  exact ⟨_, h.at_ k l lits[k] (by rw [List.getElem?_eq_getElem hk, e]) (List.getElem?_eq_getElem hk2)⟩
/-- the teller went on -/
theorem LitsOk.turn {P P' : Nat → Prop} {W W' : World} {B0 : Nat} {ls : List LitV} {lits : List (Bool × Tm)} (h : LitsOk P W B0 ls lits) (hf : FrP P W W') (hn : ∀ b, P' b → P b ∨ W.heap.size ≤ b) : LitsOk P' W' B0 ls lits := by
  refine ⟨h.neg, fun k l x h1 h2 => hf.acc (fun h => h) (h.at_ k l x h1 h2) (h.off l (List.mem_of_getElem? h1)), fun l hl b hb e => ?_, h.sep⟩
  rcases hn b e with e | e
  · exact h.off l hl b hb e
  · obtain ⟨x, hx⟩ := h.of hl
    have := (hx.lt b hb).2
    omega
/-- other blocks turned -/
theorem LitsOk.fr {P : Nat → Prop} {W W' : World} {B0 : Nat} {ls : List LitV} {lits : List (Bool × Tm)} (h : LitsOk P W B0 ls lits) {us : List Nat} (hf : Fr us W W') (hu : ∀ l ∈ ls, ∀ b, l.v.ownBlock = some b → b ∉ us) : LitsOk P W' B0 ls lits :=
  ⟨h.neg, fun k l x h1 h2 => (h.at_ k l x h1 h2).blockN (fun h => h) fun b hb => hf.block b ((h.at_ k l x h1 h2).lt b hb).2 (hu l (List.mem_of_getElem? h1) b hb), h.off, h.sep⟩
/-- a literal more, with a row of its own -/
theorem LitsOk.snoc {P : Nat → Prop} {W : World} {B0 B1 : Nat} {ls : List LitV} {lits : List (Bool × Tm)} (h : LitsOk P W B0 ls lits) {l : LitV} {x : Bool × Tm} (hn : l.neg = x.1) (ha : AccInv B1 79 x.2.flat l.v W) (hB : B0 ≤ B1) (ho : offP P l.v) (hl : ∀ y ∈ ls, ∀ b, y.v.ownBlock = some b → b < B1) : LitsOk P W B0 (ls ++ [l]) (lits ++ [x]) := by
  refine ⟨by simp [h.neg, hn], fun k l' x' h1 h2 => ?_, fun y hy => ?_, ?_⟩
  · by_cases hk : k < ls.length
    · rw [List.getElem?_append_left hk] at h1
      rw [List.getElem?_append_left (by rw [← h.len]; exact hk)] at h2
      exact h.at_ k l' x' h1 h2
    · rw [List.getElem?_append_right (by omega)] at h1
      rw [List.getElem?_append_right (by rw [← h.len]; omega), ← h.len] at h2
      have hk0 : k - ls.length = 0 := by
        cases hkk : k - ls.length with
        | zero => rfl
        | succ m => rw [hkk] at h1; simp at h1
      rw [hk0] at h1 h2
      simp at h1 h2
      subst h1; subst h2
      exact ha.baseN hB
  · rcases List.mem_append.1 hy with hy | hy
    · exact h.off y hy
    · simp at hy; subst hy; exact ho
  · rw [List.pairwise_append]
    refine ⟨h.sep, List.pairwise_singleton _ _, fun a hA b hb g h1 h2 => ?_⟩
    simp at hb
    subst hb
    have := hl a hA g h1
    have := (ha.lt g h2).1
    omega
end Go.Proofs.Ytmmnfkggfnokjaa
set_option linter.unusedVariables false
namespace Go.Proofs.Ytmmnfkggfnokjaa
open Go.RowKit
theorem own_typeG {α : Type} [RepC α] {w : World} {B e : Nat} {v : Value} {acc : List α} (h : AccInv B e acc v w) {b : Nat} (hb : v.ownBlock = some b) : ∃ cs, w.heap[b]? = some (.cells cs e (0, 0)) := by
  obtain ⟨vs, ho, _⟩ := h.ex
  rcases ho.2 with ⟨e1, _⟩ | ⟨g, cap, cur, e1, _, hg, _⟩
  · rw [e1] at hb; cases hb
  · rw [e1] at hb; cases hb; exact ⟨cur, hg⟩
structure BdC (W0 w : World) (R fm bm : Nat) (S : TS) (kv : Nat → Value) (B : BL) (rest : List Ins) (bad : Bool) (built : Int → Option Nat) (nb : Nat) (ls : List LitV) (H1 : Nat → Option NdS) (kv1 : Nat → Value) (vo : Value) (W : World) : Prop where
  tr : Tr W0 w R fm bm S kv W { S with rest := rest, built := built, bad := bad, nb := nb, H := H1 } kv1
  bt : BtOk H1 built B
  row : AccInv w.heap.size 88 ls vo W
  off : offP (Own R fm bm { S with rest := rest, built := built, bad := bad, nb := nb, H := H1 } kv1) vo
  nbl : nb + rest.length ≤ S.nb + S.rest.length
  w0 : W0.heap.size ≤ w.heap.size
theorem BdC.turn {W0 w W W' : World} {R fm bm : Nat} {S : TS} {kv kv1 kv2 : Nat → Value} {B B' : BL} {rest rest' : List Ins} {bad bad' : Bool} {built built' : Int → Option Nat} {nb nb' : Nat} {ls : List LitV} {H1 H2 : Nat → Option NdS} {vo : Value} (h : BdC W0 w R fm bm S kv B rest bad built nb ls H1 kv1 vo W)
    (ht : Tr W0 W R fm bm { S with rest := rest, built := built, bad := bad, nb := nb, H := H1 } kv1 W' { S with rest := rest', built := built', bad := bad', nb := nb', H := H2 } kv2) (hb : BtOk H2 built' B') (hn : nb' + rest'.length ≤ S.nb + S.rest.length) : BdC W0 w R fm bm S kv B' rest' bad' built' nb' ls H2 kv2 vo W' := by
  refine ⟨h.tr.trans ht, hb, ht.fr.acc (fun h => h) h.row h.off, fun b hb e => ?_, hn, h.w0⟩
  rcases ht.new b e with e | e
  · exact h.off b hb e
  · have := (h.row.lt b hb).2
    omega
/-- one literal more stands in the row -/
theorem BdC.push {W0 w W W' : World} {R fm bm : Nat} {S : TS} {kv kv1 : Nat → Value} {B : BL} {rest : List Ins} {bad : Bool} {built : Int → Option Nat} {nb : Nat} {ls : List LitV} {x : LitV} {lits : List (Bool × Tm)} {H1 : Nat → Option NdS} {vo vo' : Value} {T : Nat} {cs : Array Value} (h : BdC W0 w R fm bm S kv B rest bad built nb ls H1 kv1 vo W)
    (ha : AccInv w.heap.size 88 (ls ++ [x]) vo' W') (hg : (W.alloc (.cells cs T)).grownBy W' vo.ownBlock) (hw : vo'.ownBlock = vo.ownBlock ∨ vo'.ownBlock = some (W.heap.size + 1)) (hok : bad = false → LitsOk (Own R fm bm { S with rest := rest, built := built, bad := bad, nb := nb, H := H1 } kv1) W w.heap.size (ls ++ [x]) lits) :
    BdC W0 w R fm bm S kv B rest bad built nb (ls ++ [x]) H1 kv1 vo' W' ∧ (bad = false → LitsOk (Own R fm bm { S with rest := rest, built := built, bad := bad, nb := nb, H := H1 } kv1) W' w.heap.size (ls ++ [x]) lits) := by
  have hb1 := (Below.refl W.heap.size W).new (.cells cs T)
  have hf : Fr vo.ownBlock.toList W W' := ((Fr.of hb1).trans (grown_frN hg)).sub (by simp)
  refine ⟨⟨h.tr.other h.w0 hf (fun b hb => by simp at hb; exact ⟨h.off b hb, (h.row.lt b hb).1⟩), h.bt, ha, fun b hb e => ?_, h.nbl, h.w0⟩, fun hbad => (hok hbad).fr hf fun l hl b hb e => ?_⟩
  · rcases hw with e2 | e2
    · exact h.off b (e2 ▸ hb) e
    · rw [hb] at e2; injection e2 with e2
      have := (h.tr.tw.ownB b e).2
      omega
  · simp at e
    obtain ⟨cs1, h1⟩ := own_typeG h.row e
    obtain ⟨t, ht⟩ := (hok hbad).of hl
    obtain ⟨cs2, h2⟩ := own_typeG ht hb
    rw [h1] at h2
    simp at h2
/-- what a body is told of -/
def BdPost (W0 w : World) (R fm bm : Nat) (S : TS) (kv : Nat → Value) (e : Ending) (W' : World) : Prop :=
  ∃ (a : Option Addr) (n c : Nat) (ls : List LitV) (lits : List (Bool × Tm)) (rest : List Ins) (bad : Bool) (built : Int → Option Nat) (nb : Nat) (H1 : Nat → Option NdS) (kv1 : Nat → Value), e = .returned (.slice a n c) ∧ Tr W0 w R fm bm S kv W' { S with rest := rest, built := built, bad := bad, nb := nb, H := H1 } kv1 ∧ AccInv w.heap.size 88 ls (.slice a n c) W' ∧ offP (Own R fm bm { S with rest := rest, built := built, bad := bad, nb := nb, H := H1 } kv1) (.slice a n c) ∧
    (bad = false → LitsOk (Own R fm bm { S with rest := rest, built := built, bad := bad, nb := nb, H := H1 } kv1) W' w.heap.size ls lits) ∧ sumT lits ≤ S.rest.length + 1 ∧ ∀ bs0, BodyR S.rest (fun _ => none) bs0 → bad = false ∧ bs0 = lits
theorem MapP_upd (built : Int → Option Nat) (x : Int) (p : Nat) : ∀ i, (if i = x then some (Value.pointer (some ⟨p, 0, none⟩)) else MapP built i) = MapP (updP built x p) i := fun i => by
  unfold MapP updP
  split <;> rfl
set_option maxRecDepth 100000 in
set_option maxHeartbeats 12800000 in
theorem body_any (W0 w : World) (R fm bm : Nat) (S : TS) (kv : Nat → Value) (hT : TW W0 w R fm bm S kv) (hbad : S.bad = false) (hbt : ∀ i, S.built i = none) (hnb : S.nb ≤ 100000) :
    Calls Try.prog 154 #[.pointer (some ⟨R, 0, none⟩)] w (BdPost W0 w R fm bm S kv) := by
  have hSL : S.rest.length ≤ 100000 := by obtain ⟨n, hn, _⟩ := hT.bt; exact hn.2
  have HSL : Hid (S.rest.length ≤ 100000 ∧ S.nb ≤ 100000) := ⟨hSL, hnb⟩
  have hC0 : BdC W0 w R fm bm S kv [] S.rest S.bad S.built S.nb [] S.H kv (.slice none 0 0) w := ⟨Tr.refl hT, fun i => .inl ⟨hbt i, rfl⟩, AccInv.nil _ _ _, fun b hb => (by cases hb), Nat.le_refl _, hT.B0⟩
  have hP0 := BP.start S hbad
  rw [hbad] at hC0 hP0
  have HC0 := mkHid hC0
  have HP0 := mkHid hP0
  clear hT hbad hbt hnb hSL hC0 hP0
  go_enter Try.func154, Try.ntmps154
  go_wp2_with fail
  go_loopg [3] (1 + S.rest.length) (fun kk vo wr => ∃ (B : BL) (lits : List (Bool × Tm)) (rest : List Ins) (bad : Bool) (built : Int → Option Nat) (nb : Nat) (ls : List LitV) (H1 : Nat → Option NdS) (kv1 : Nat → Value), Hid (BdC W0 w R fm bm S kv B rest bad built nb ls H1 kv1 vo wr) ∧ Hid (BP S B lits rest bad) ∧ Hid (bad = false → LitsOk (Own R fm bm { S with rest := rest, built := built, bad := bad, nb := nb, H := H1 } kv1) wr w.heap.size ls lits) ∧ Hid (ls.length + rest.length ≤ S.rest.length) ∧ Hid (bad = false → kk = 1 + rest.length))
  case atStart => exact ⟨[], [], S.rest, false, S.built, S.nb, [], S.H, kv, HC0, HP0, fun _ => LitsOk.nil _ _ _, by simp [Hid], fun _ => rfl⟩
  case round =>
    clear HC0 HP0
    obtain ⟨B, lits, rest, bad, built, nb, ls, H1, kv1, HC, HP, HO, HL, HK⟩ := hrel
    obtain ⟨oa, on, oc, rfl⟩ := slice_ofN HC.out.row
    obtain ⟨ra, rc, r0, _, _, r3, _, _⟩ := HC.out.tr.tw.cR
    dsimp only at r0 r3
    have EXIT : Hid (bad = true ∨ rest = [] → BdPost W0 w R fm bm S kv (.returned (.slice oa on oc)) wr) := fun he => by
      have h1 := HP.out.len
      refine ⟨oa, on, oc, ls, lits, rest, bad, built, nb, H1, kv1, rfl, HC.out.tr, HC.out.row, HC.out.off, HO.out, ?_, HP.out.ends he⟩
      split at h1 <;> omega
    cases rest with
    | nil =>
      have HPX := mkHid (EXIT.out (.inr rfl))
      clear EXIT
      go_wp2_with fail
      go_ret
      exact HPX.out
    | cons i l =>
      rw [List.length_cons] at r0
      cases bad with
      | true =>
        have HPX := mkHid (EXIT.out (.inl rfl))
        clear EXIT
        go_wp2_with fail
        go_ret
        exact HPX.out
      | false =>
        clear EXIT
        have HKK := mkHid (HK.out rfl)
        have HOK := mkHid (HO.out rfl)
        clear HK HO
        go_wp2_with fail
        have hift := nextI_fit HC.out.tr.tw
        have HIF : Hid (i.fit) := hift
        clear hift
        refine (next_any W0 _ R fm bm _ _ HC.out.tr.tw).mono ?_
        rintro e w4 ⟨rfl, kv4, hT4, hF4, hN4⟩
        have hT4' : Tr W0 wr R fm bm { S with rest := i :: l, built := built, bad := false, nb := nb, H := H1 } kv1 w4 { S with rest := l, built := built, bad := false, nb := nb, H := H1 } kv4 := ⟨hT4, hF4, hN4⟩
        have HT4 := mkHid hT4'
        clear hT4 hF4 hN4 hT4' r0 r3
        have en : nextI (i :: l) = i := rfl
        dsimp only
        rw [en]
        clear en
        have hb9 := (Below.refl w4.heap.size w4).new (.cells #[.int .i64 i.op, .int .i64 i.x, .int .i64 i.a, .string i.s, .int .i64 i.n, .bool i.neg] 90)
        have HT5 := mkHid (HT4.out.below hb9)
        have HNB : Hid (nb + (l.length + 1) ≤ S.nb + S.rest.length) := HC.out.nbl
        have HLL : Hid (ls.length + (l.length + 1) ≤ S.rest.length) := HL.out
        have HBO : Hid (¬ Own R fm bm { S with rest := l, built := built, bad := false, nb := nb, H := H1 } kv4 w4.heap.size) := fun e => by have := (HT4.out.tw.ownB _ e).2; omega
        obtain ⟨o1, o2, x1', x2', a1, a2, hsz, hn1, hn2⟩ := HIF.out
        clear hb9
        dsimp only [Ins.v]
        by_cases h8 : i.op = 8
        · have t8 : (i.op == 8) = true := by simp [h8]
          have HP8 := mkHid (HP.out.put h8)
          clear h8
          go_wp2_with fail
          have hbd : Below (w4.alloc (.cells #[.int .i64 i.op, .int .i64 i.x, .int .i64 i.a, .string i.s, .int .i64 i.n, .bool i.neg] 90)).heap.size (w4.alloc (.cells #[.int .i64 i.op, .int .i64 i.x, .int .i64 i.a, .string i.s, .int .i64 i.n, .bool i.neg] 90)) (w4.alloc (.cells #[.int .i64 i.op, .int .i64 i.x, .int .i64 i.a, .string i.s, .int .i64 i.n, .bool i.neg] 90)).drew := (Below.refl _ _).drew
          have HT6 := mkHid (HT5.out.below hbd)
          have hbox : (w4.alloc (.cells #[.int .i64 i.op, .int .i64 i.x, .int .i64 i.a, .string i.s, .int .i64 i.n, .bool i.neg] 90)).drew.heap[w4.heap.size]? = some (.cells #[.int .i64 i.op, .int .i64 i.x, .int .i64 i.a, .string i.s, .int .i64 i.n, .bool i.neg] 90 (0, 0)) := (hbd.block _ (by simp)).trans (heap_alloc_new _ _)
          obtain ⟨v0, hx0⟩ : ∃ X, (w4.alloc (.cells #[.int .i64 i.op, .int .i64 i.x, .int .i64 i.a, .string i.s, .int .i64 i.n, .bool i.neg] 90)).drew = X := ⟨_, rfl⟩
          rw [hx0] at HT6 hbox
          have HX0 := mkHid hx0
          clear hx0 hbd
          have r2 : v0.cell? ⟨R, 2, none⟩ = some (.map (some bm)) := by obtain ⟨_, _, _, _, r2, _⟩ := HT6.out.tw.cR; exact r2
          have b0 : v0.cell? ⟨w4.heap.size, 0, none⟩ = some (.int .i64 i.op) := by rw [cell_of_row v0 _ 0 _ _ _ hbox]; rfl
          have b1 : v0.cell? ⟨w4.heap.size, 1, none⟩ = some (.int .i64 i.x) := by rw [cell_of_row v0 _ 1 _ _ _ hbox]; rfl
          have b2 : v0.cell? ⟨w4.heap.size, 2, none⟩ = some (.int .i64 i.a) := by rw [cell_of_row v0 _ 2 _ _ _ hbox]; rfl
          have b3 : v0.cell? ⟨w4.heap.size, 3, none⟩ = some (.string i.s) := by rw [cell_of_row v0 _ 3 _ _ _ hbox]; rfl
          have b4 : v0.cell? ⟨w4.heap.size, 4, none⟩ = some (.int .i64 i.n) := by rw [cell_of_row v0 _ 4 _ _ _ hbox]; rfl
          have b5 : v0.cell? ⟨w4.heap.size, 5, none⟩ = some (.bool i.neg) := by rw [cell_of_row v0 _ 5 _ _ _ hbox]; rfl
          refine wp_region_noPanic ?_
          refine wp_region_held_drew (S := fun X => X.cell? ⟨R, 2, none⟩ = some (.map (some bm)) ∧ X.cell? ⟨w4.heap.size, 0, none⟩ = some (.int .i64 i.op) ∧ X.cell? ⟨w4.heap.size, 1, none⟩ = some (.int .i64 i.x) ∧ X.cell? ⟨w4.heap.size, 2, none⟩ = some (.int .i64 i.a) ∧ X.cell? ⟨w4.heap.size, 3, none⟩ = some (.string i.s) ∧ X.cell? ⟨w4.heap.size, 4, none⟩ = some (.int .i64 i.n) ∧ X.cell? ⟨w4.heap.size, 5, none⟩ = some (.bool i.neg)) (by kernel_rfl) (by rw [HX0.out]; exact ⟨r2, b0, b1, b2, b3, b4, b5⟩) (fun hSd => ?_)
          rw [HX0.out] at hSd ⊢
          clear r2 b0 b1 b2 b3 b4 b5
          refine wpAnyH_take (i := 0) (oi := _) (v := ?_) rfl (by kernel_rfl) (by kernel_rfl) (by kernel_rfl) (fun _ _ _ h => h) (Or.inl ⟨by rfl, ?_⟩) (by assumption) ?_
          rotate_left
          · (intro w' hSw; obtain ⟨z0, z1, z2, z3, z4, z5, z6⟩ := hSw; go_simp; try with_reducible rfl)
          (try simp only [List.getElem_toArray, List.getElem_cons_succ, List.getElem_cons_zero, Act.put, List.setIfInBounds_toArray, List.set_cons_zero, List.set_cons_succ])
          refine wpAnyH_take (i := 1) (oi := _) (v := ?_) rfl (by kernel_rfl) (by kernel_rfl) (by kernel_rfl) (fun _ _ _ h => h) (Or.inl ⟨by rfl, ?_⟩) (by assumption) ?_
          rotate_left
          · (intro w' hSw; obtain ⟨z0, z1, z2, z3, z4, z5, z6⟩ := hSw; go_simp; try with_reducible rfl)
          (try simp only [List.getElem_toArray, List.getElem_cons_succ, List.getElem_cons_zero, Act.put, List.setIfInBounds_toArray, List.set_cons_zero, List.set_cons_succ])
          refine wpAnyH_take (i := 2) (oi := _) (v := ?_) rfl (by kernel_rfl) (by kernel_rfl) (by kernel_rfl) (fun _ _ _ h => h) (Or.inl ⟨by rfl, ?_⟩) (by assumption) ?_
          rotate_left
          · (intro w' hSw; obtain ⟨z0, z1, z2, z3, z4, z5, z6⟩ := hSw; go_simp; try with_reducible rfl)
          (try simp only [List.getElem_toArray, List.getElem_cons_succ, List.getElem_cons_zero, Act.put, List.setIfInBounds_toArray, List.set_cons_zero, List.set_cons_succ])
          refine wpAnyH_take (i := 3) (oi := _) (v := ?_) rfl (by kernel_rfl) (by kernel_rfl) (by kernel_rfl) (fun _ _ _ h => h) (Or.inl ⟨by rfl, ?_⟩) (by assumption) ?_
          rotate_left
          · (intro w' hSw; obtain ⟨z0, z1, z2, z3, z4, z5, z6⟩ := hSw; go_simp; try with_reducible rfl)
          (try simp only [List.getElem_toArray, List.getElem_cons_succ, List.getElem_cons_zero, Act.put, List.setIfInBounds_toArray, List.set_cons_zero, List.set_cons_succ])
          refine wpAnyH_take (i := 4) (oi := _) (v := ?_) rfl (by kernel_rfl) (by kernel_rfl) (by kernel_rfl) (fun _ _ _ h => h) (Or.inl ⟨by rfl, ?_⟩) (by assumption) ?_
          rotate_left
          · (intro w' hSw; obtain ⟨z0, z1, z2, z3, z4, z5, z6⟩ := hSw; go_simp; try with_reducible rfl)
          (try simp only [List.getElem_toArray, List.getElem_cons_succ, List.getElem_cons_zero, Act.put, List.setIfInBounds_toArray, List.set_cons_zero, List.set_cons_succ])
          refine wpAnyH_take (i := 5) (oi := _) (v := ?_) rfl (by kernel_rfl) (by kernel_rfl) (by kernel_rfl) (fun _ _ _ h => h) (Or.inl ⟨by rfl, ?_⟩) (by assumption) ?_
          rotate_left
          · (intro w' hSw; obtain ⟨z0, z1, z2, z3, z4, z5, z6⟩ := hSw; go_simp; try with_reducible rfl)
          (try simp only [List.getElem_toArray, List.getElem_cons_succ, List.getElem_cons_zero, Act.put, List.setIfInBounds_toArray, List.set_cons_zero, List.set_cons_succ])
          refine wpAnyH_take (i := 6) (oi := _) (v := ?_) rfl (by kernel_rfl) (by kernel_rfl) (by kernel_rfl) (fun _ _ _ h => h) (Or.inl ⟨by rfl, ?_⟩) (by assumption) ?_
          rotate_left
          · (intro w' hSw; obtain ⟨z0, z1, z2, z3, z4, z5, z6⟩ := hSw; go_simp; try with_reducible rfl)
          (try simp only [List.getElem_toArray, List.getElem_cons_succ, List.getElem_cons_zero, Act.put, List.setIfInBounds_toArray, List.set_cons_zero, List.set_cons_succ])
          refine wpAnyH_take (i := 7) (oi := _) (v := ?_) rfl (by kernel_rfl) (by kernel_rfl) (by kernel_rfl) (fun _ _ _ h => h) (Or.inl ⟨by rfl, ?_⟩) (by assumption) ?_
          rotate_left
          · (intro w' hSw; obtain ⟨z0, z1, z2, z3, z4, z5, z6⟩ := hSw; go_simp; try with_reducible rfl)
          (try simp only [List.getElem_toArray, List.getElem_cons_succ, List.getElem_cons_zero, Act.put, List.setIfInBounds_toArray, List.set_cons_zero, List.set_cons_succ])
          refine wpAnyH_ready (rs := [8]) (by kernel_rfl) (by simp) ?_
          refine AllReadyH.cons (o := _) rfl (fun K hK => ?_) AllReadyH.nil
          go_simp
          refine (structure_any W0 v0 R fm bm _ _ HT6.out.tw i HIF.out rfl B HC.out.bt).mono ?_
          rintro e w7 ⟨p, built7, H7, kv7, rfl, hT7, hp7, hk7, ht7, hb7⟩
          dsimp only at hT7 hb7
          have hbox7 := (hT7.fr.block w4.heap.size (by have := (Array.getElem?_eq_some_iff.1 hbox).1; exact this) (fun e => HBO.out e)).trans hbox
          obtain ⟨_, _, _, _, r2, _⟩ := hT7.tw.cR
          have b0 : w7.cell? ⟨w4.heap.size, 0, none⟩ = some (.int .i64 i.op) := by rw [cell_of_row w7 _ 0 _ _ _ hbox7]; rfl
          have b1 : w7.cell? ⟨w4.heap.size, 1, none⟩ = some (.int .i64 i.x) := by rw [cell_of_row w7 _ 1 _ _ _ hbox7]; rfl
          have b2 : w7.cell? ⟨w4.heap.size, 2, none⟩ = some (.int .i64 i.a) := by rw [cell_of_row w7 _ 2 _ _ _ hbox7]; rfl
          have b3 : w7.cell? ⟨w4.heap.size, 3, none⟩ = some (.string i.s) := by rw [cell_of_row w7 _ 3 _ _ _ hbox7]; rfl
          have b4 : w7.cell? ⟨w4.heap.size, 4, none⟩ = some (.int .i64 i.n) := by rw [cell_of_row w7 _ 4 _ _ _ hbox7]; rfl
          have b5 : w7.cell? ⟨w4.heap.size, 5, none⟩ = some (.bool i.neg) := by rw [cell_of_row w7 _ 5 _ _ _ hbox7]; rfl
          obtain ⟨n7, hn7, hm7⟩ := hT7.tw.bt
          dsimp only at hn7 hm7
          have hnn := HNB.out
          have hss := HSL.out
          obtain ⟨w8, hrun, hm8, hg8⟩ := hm7.run_updN (t := 192) (e := 223) Try.underlying3 Try.underlying192 (by omega) i.a (wf64 a1 a2) (.pointer (some ⟨p, 0, none⟩))
          have hT8 := Tr.of (hT7.tw.blkB (grown_frN hg8) (built := updP built7 i.a p) (nb := nb + 1) ⟨by omega, hn7.2⟩ (hm8.congr (MapP_upd built7 i.a p)))
          have HT9 := mkHid ((HT6.out.trans hT7).trans hT8)
          obtain ⟨_, _, _, _, r8, _⟩ := hT8.tw.cR
          have hbox8 := (hg8.block w4.heap.size (Array.getElem?_eq_some_iff.1 hbox7).1 (fun e => HBO.out (.inr (.inr (.inl (by injection e)))))).trans hbox7
          have d0 : w8.cell? ⟨w4.heap.size, 0, none⟩ = some (.int .i64 i.op) := by rw [cell_of_row w8 _ 0 _ _ _ hbox8]; rfl
          have d1 : w8.cell? ⟨w4.heap.size, 1, none⟩ = some (.int .i64 i.x) := by rw [cell_of_row w8 _ 1 _ _ _ hbox8]; rfl
          have d2 : w8.cell? ⟨w4.heap.size, 2, none⟩ = some (.int .i64 i.a) := by rw [cell_of_row w8 _ 2 _ _ _ hbox8]; rfl
          have d3 : w8.cell? ⟨w4.heap.size, 3, none⟩ = some (.string i.s) := by rw [cell_of_row w8 _ 3 _ _ _ hbox8]; rfl
          have d4 : w8.cell? ⟨w4.heap.size, 4, none⟩ = some (.int .i64 i.n) := by rw [cell_of_row w8 _ 4 _ _ _ hbox8]; rfl
          have d5 : w8.cell? ⟨w4.heap.size, 5, none⟩ = some (.bool i.neg) := by rw [cell_of_row w8 _ 5 _ _ _ hbox8]; rfl
          have HS8 : Hid (w8.cell? ⟨R, 2, none⟩ = some (.map (some bm)) ∧ w8.cell? ⟨w4.heap.size, 0, none⟩ = some (.int .i64 i.op) ∧ w8.cell? ⟨w4.heap.size, 1, none⟩ = some (.int .i64 i.x) ∧ w8.cell? ⟨w4.heap.size, 2, none⟩ = some (.int .i64 i.a) ∧ w8.cell? ⟨w4.heap.size, 3, none⟩ = some (.string i.s) ∧ w8.cell? ⟨w4.heap.size, 4, none⟩ = some (.int .i64 i.n) ∧ w8.cell? ⟨w4.heap.size, 5, none⟩ = some (.bool i.neg)) := ⟨r8, d0, d1, d2, d3, d4, d5⟩
          clear r8 hbox8 d0 d1 d2 d3 d4 d5
          have HC9 := mkHid (HC.out.turn (rest' := (setsM i.n.toNat B l).2.2.1) (nb' := nb + 1) HT9.out (hb7.put i.a ht7) (by have := (setsM_len i.n.toNat B l).2; omega))
          have HSM := mkHid (setsM_len i.n.toNat B l).2
          clear hT7 hp7 hk7 ht7 hb7 hbox7 hm7 hn7 hm8 hg8 hT8 hnn hss
          try dsimp only
          refine hK.out _ _ ⟨r2, b0, b1, b2, b3, b4, b5⟩ (fun _ => ?_)
          clear hK K r2 b0 b1 b2 b3 b4 b5
          (try simp only [List.getElem_toArray, List.getElem_cons_succ, List.getElem_cons_zero, Act.put, List.setIfInBounds_toArray, List.set_cons_zero, List.set_cons_succ])
          refine wpAnyH_ready (rs := [9]) (by kernel_rfl) (by simp) ?_
          refine AllReadyH.cons (o := _) rfl (fun K hK => ?_) AllReadyH.nil
          (rw [if_pos (by rfl)]; simp [Oper.wp, execOp, resolve, invoke, Oper.upon, Act.eval, hrun, Result.andThen, Sem.run_bind])
          try dsimp only
          refine hK.out _ _ HS8.out (fun _ => ?_)
          clear hK K
          (try simp only [List.getElem_toArray, List.getElem_cons_succ, List.getElem_cons_zero, Act.put, List.setIfInBounds_toArray, List.set_cons_zero, List.set_cons_succ])
          refine wpAnyH_done (by kernel_rfl) (NoPanic.normal ?_) _
          clear hrun HS8
          go_wp2_with fail
          go_roundg (1 + (setsM i.n.toNat B l).2.2.1.length)
          case rel => exact ⟨_, _, _, _, _, _, _, _, _, HC9, HP8, fun h => (by have h2 := HOK.out.turn HT9.out.fr HT9.out.new; rw [h] at h2; rw [h]; exact h2), by have h1 := HLL.out; have h2 := HSM.out; rw [Hid]; omega, fun _ => rfl⟩
          case measure => have := HKK.out; have h2 := HSM.out; rw [List.length_cons] at this; omega
        · by_cases h12 : i.op = 12
          · have t8 : (i.op == 8) = false := by simp [h8]
            have t12 : (i.op == 12) = true := by simp [h12]
            have hw5 : w.heap.size ≤ wr.heap.size := HC.out.tr.fr.size
            have hw4 : wr.heap.size ≤ w4.heap.size := HT4.out.fr.size
            have hll : ls.length + 1 ≤ 100000 := by have h1 := HLL.out; have h2 := HSL.out; omega
            rcases HC.out.bt i.a with ⟨hb0, hg0⟩ | ⟨p, t, hb1, hg1, ht1⟩
            · have HP7 := mkHid (HP.out.lost (B' := dropB B i.a) (dropB_le _ _) h8 (fun _ => hg0))
              have HB0 := mkHid hb0
              clear h8 h12 hb0 hg0
              go_wp2_with fail
              refine (tlit_any W0 _ R fm bm _ _ HT5.out.tw i HIF.out (.mk zeroC []) (fun p hp => by have h : built i.a = some p := hp; rw [HB0.out] at h; cases h) (by rw [leaf_len]; omega)).mono ?_
              rintro e w6 hLP
              obtain ⟨rfl, hT6⟩ : e = .returned (.agg #[.bool false, .slice none 0 0]) ∧ Tr W0 (w4.alloc (.cells #[.int .i64 i.op, .int .i64 i.x, .int .i64 i.a, .string i.s, .int .i64 i.n, .bool i.neg] 90)) R fm bm { S with rest := l, built := built, bad := false, nb := nb, H := H1 } kv4 w6 { S with rest := l, built := delP built i.a, bad := true, nb := nb, H := H1 } kv4 := by
                rcases hLP with ⟨_, e1, e2⟩ | ⟨_, _, _, e1, _⟩
                · exact ⟨e1, e2⟩
                · have h9 : (built i.a).isSome = true := e1
                  rw [HB0.out] at h9; cases h9
              have HT7 := mkHid (HT5.out.trans hT6)
              have HC7 := mkHid (HC.out.turn (rest' := l) (nb' := nb) HT7.out (HC.out.bt.drop i.a) (by have := HNB.out; omega))
              have HB7 : Hid (w.heap.size ≤ w6.heap.size) := HC7.out.tr.fr.size
              clear hLP hT6
              go_wp2_with (at_builtin; go_loud (refine wpList_accN (α := LitV) rfl _ _ 23 rfl w.heap.size 88 32 _ Try.underlying23 Try.infoLitN rfl (by decide) _ ls HC7.out.row (by rfl) _ #[.bool false, .slice none 0 0] ⟨false, .slice none 0 0⟩ ⟨rfl, rfl⟩ (by rfl) (by omega) HB7.out ?_; intro v' w8 ha8 hg8 hw8; obtain ⟨h9, h10⟩ := HC7.out.push (lits := lits) ha8 hg8 hw8 (fun h => by cases h); have HC9 := mkHid h9; clear ha8 hg8 hw8 h9 h10))
              go_roundg 0
              case rel => exact ⟨_, _, _, _, _, _, _, _, _, HC9, HP7, fun h => (by cases h), by have := HLL.out; rw [Hid, List.length_append, List.length_singleton]; omega, fun h => (by cases h)⟩
              case measure => have := HKK.out; omega
            · have HP7 := mkHid (HP.out.call h12 hg1)
              have HFL : Hid (t.flat.length ≤ 900000000) := by
                have h1 := dropB_get hg1
                have h2 := HP.out.len
                have h3 := HSL.out
                simp only [Bool.false_eq_true, if_false] at h2
                rw [Hid]; omega
              have HB0 := mkHid hb1
              have HTT := mkHid ht1
              clear h8 h12 hb1 hg1 ht1
              go_wp2_with fail
              refine (tlit_any W0 _ R fm bm _ _ HT5.out.tw i HIF.out t (fun p' hp' => by have h : built i.a = some p' := hp'; rw [HB0.out] at h; cases h; exact HTT.out) HFL.out).mono ?_
              rintro e w6 hLP
              obtain ⟨a5, n5, c5, rfl, hT6, hA6⟩ : ∃ a5 n5 c5, e = .returned (.agg #[.bool i.neg, .slice a5 n5 c5]) ∧ Tr W0 (w4.alloc (.cells #[.int .i64 i.op, .int .i64 i.x, .int .i64 i.a, .string i.s, .int .i64 i.n, .bool i.neg] 90)) R fm bm { S with rest := l, built := built, bad := false, nb := nb, H := H1 } kv4 w6 { S with rest := l, built := delP built i.a, bad := false, nb := nb, H := H1 } kv4 ∧ AccInv (w4.alloc (.cells #[.int .i64 i.op, .int .i64 i.x, .int .i64 i.a, .string i.s, .int .i64 i.n, .bool i.neg] 90)).heap.size 79 t.flat (.slice a5 n5 c5) w6 := by
                rcases hLP with ⟨e1, _⟩ | ⟨a5, n5, c5, _, e1, e2, e3⟩
                · have h9 : built i.a = none := e1
                  rw [HB0.out] at h9; cases h9
                · exact ⟨a5, n5, c5, e1, e2, e3⟩
              have HT7 := mkHid (HT5.out.trans hT6)
              have HC7 := mkHid (HC.out.turn (rest' := l) (nb' := nb) HT7.out (HC.out.bt.drop i.a) (by have := HNB.out; omega))
              have HB7 : Hid (w.heap.size ≤ w6.heap.size) := HC7.out.tr.fr.size
              have hok7 := HOK.out.turn HT7.out.fr HT7.out.new
              have hok8 := hok7.snoc (l := ⟨i.neg, .slice a5 n5 c5⟩) (x := (i.neg, t)) rfl hA6 (by simp; omega) (fun b hb e => by
                have h1 := (hA6.lt b hb).1
                have h2 := (HT4.out.tw.ownB b (show Own R fm bm { S with rest := l, built := built, bad := false, nb := nb, H := H1 } kv4 b from e)).2
                simp at h1
                omega) (fun y hy b hb => by
                obtain ⟨x, hx⟩ := HOK.out.of hy
                have := (hx.lt b hb).2
                simp; omega)
              have HOK8 := mkHid hok8
              clear hLP hT6 hA6 hok7 hok8
              go_wp2_with (at_builtin; go_loud (refine wpList_accN (α := LitV) rfl _ _ 23 rfl w.heap.size 88 32 _ Try.underlying23 Try.infoLitN rfl (by decide) _ ls HC7.out.row (by rfl) _ #[.bool i.neg, .slice a5 n5 c5] ⟨i.neg, .slice a5 n5 c5⟩ ⟨rfl, rfl⟩ (by rfl) (by omega) HB7.out ?_; intro v' w8 ha8 hg8 hw8; obtain ⟨h9, h10⟩ := HC7.out.push (lits := lits ++ [(i.neg, t)]) ha8 hg8 hw8 (fun _ => HOK8.out); have HC9 := mkHid h9; have HO9 := mkHid (h10 rfl); clear ha8 hg8 hw8 h9 h10))
              go_roundg (1 + l.length)
              case rel => exact ⟨_, _, _, _, _, _, _, _, _, HC9, HP7, fun _ => HO9.out, by have := HLL.out; rw [Hid, List.length_append, List.length_singleton]; omega, fun _ => rfl⟩
              case measure => have := HKK.out; rw [List.length_cons] at this; omega
          · have t8 : (i.op == 8) = false := by simp [h8]
            have t12 : (i.op == 12) = false := by simp [h12]
            obtain ⟨_, _, _, _, _, t3, tf, _⟩ := HT5.out.tw.cR
            have tf3 := tf 3
            have HT7 := mkHid (HT5.out.trans (Tr.of HT5.out.tw.setBad))
            have HP7 := mkHid (HP.out.lost (B' := B) (Nat.le_refl _) h8 (fun e => absurd e h12))
            have HC7 := mkHid (HC.out.turn (rest' := l) (nb' := nb) HT7.out HC.out.bt (by have := HNB.out; omega))
            clear h8 h12 tf HT7
            go_wp2_with fail
            go_roundg 0
            case rel => exact ⟨_, _, _, _, _, _, _, _, _, HC7, HP7, fun h => (by cases h), by have := HLL.out; rw [Hid]; omega, fun h => (by cases h)⟩
            case measure => have := HKK.out; omega
end Go.Proofs.Ytmmnfkggfnokjaa
namespace Go.Proofs.Ytmmnfkggfnokjaa
open Go.RowKit
section
variable {α : Type} [RepC α]
theorem CRows.get {w : World} {vs : List Value} {xs : List α} (h : CRows w vs xs) : ∀ {j : Nat} (hj : j < xs.length), ∃ cs, RepC.C w cs xs[j] ∧ ∀ q u, cs[q]? = some u → vs[j * Rep.sz α + q]? = some u := by
  induction h with
  | nil => intro j hj; simp at hj
  | @cons cs x vs xs hc _ ih =>
    intro j hj
    cases j with
    | zero =>
      refine ⟨cs, hc, fun q u hq => ?_⟩
      rw [Nat.zero_mul, Nat.zero_add, List.getElem?_append_left (List.getElem?_eq_some_iff.1 hq).1]; exact hq
    | succ j =>
      obtain ⟨cs', hc', hat⟩ := ih (j := j) (by simpa using hj)
      refine ⟨cs', by simpa using hc', fun q u hq => ?_⟩
      rw [List.getElem?_append_right (by rw [RepC.len hc, Nat.succ_mul]; omega), RepC.len hc, show (j + 1) * Rep.sz α + q - Rep.sz α = j * Rep.sz α + q by rw [Nat.succ_mul]; omega]
      exact hat q u hq
/-- one element is another one -/
theorem CRows.set {w : World} {vs : List Value} {xs : List α} (h : CRows w vs xs) : ∀ {i : Nat} (_ : i < xs.length) {cs : List Value} {y : α}, RepC.C w cs y → ∀ {us : List Value}, us.length = vs.length → (∀ q, q < Rep.sz α → us[i * Rep.sz α + q]? = cs[q]?) → (∀ q, q < i * Rep.sz α ∨ (i + 1) * Rep.sz α ≤ q → us[q]? = vs[q]?) → CRows w us (xs.set i y) := by
  induction h with
  | nil => intro i hi; simp at hi
  | @cons cs0 x vs xs hc hr ih =>
    intro i hi cs y hy us hl hat hout
    have hlc := RepC.len hc
    have hly := RepC.len hy
    have hsplit : us = us.take (Rep.sz α) ++ us.drop (Rep.sz α) := (List.take_append_drop _ _).symm
    have hul : us.length = Rep.sz α + vs.length := by rw [hl, List.length_append, hlc]
    cases i with
    | zero =>
      rw [List.set_cons_zero, hsplit]
      have h1 : us.take (Rep.sz α) = cs := by
        refine List.ext_getElem? fun q => ?_
        by_cases hq : q < Rep.sz α
        · rw [List.getElem?_take_of_lt hq]; have := hat q hq; rwa [Nat.zero_mul, Nat.zero_add] at this
        · rw [List.getElem?_eq_none (by simp; omega), List.getElem?_eq_none (by omega)]
      have h2 : us.drop (Rep.sz α) = vs := by
        refine List.ext_getElem? fun q => ?_
        rw [List.getElem?_drop, hout (Rep.sz α + q) (.inr (by omega)), List.getElem?_append_right (by omega), hlc, Nat.add_sub_cancel_left]
      rw [h1, h2]
      exact .cons hy hr
    | succ i =>
      rw [List.set_cons_succ, hsplit]
      have h1 : us.take (Rep.sz α) = cs0 := by
        refine List.ext_getElem? fun q => ?_
        by_cases hq : q < Rep.sz α
        · rw [List.getElem?_take_of_lt hq, hout q (.inl (by rw [Nat.succ_mul]; omega)), List.getElem?_append_left (by omega)]
        · rw [List.getElem?_eq_none (by simp; omega), List.getElem?_eq_none (by omega)]
      rw [h1]
      refine .cons hc (ih (i := i) (by simpa using hi) hy (by rw [List.length_drop, hul]; omega) (fun q hq => ?_) (fun q hq => ?_))
      · rw [List.getElem?_drop, show Rep.sz α + (i * Rep.sz α + q) = (i + 1) * Rep.sz α + q by rw [Nat.succ_mul]; omega]; exact hat q hq
      · rw [List.getElem?_drop, hout (Rep.sz α + q) (by rcases hq with h | h; exact .inl (by rw [Nat.succ_mul]; omega); exact .inr (by rw [Nat.succ_mul] at h ⊢; rw [Nat.succ_mul]; omega)), List.getElem?_append_right (by omega), hlc, Nat.add_sub_cancel_left]
variable {B e : Nat} {acc : List α} {w w' : World} {g n cap : Nat}
theorem AccInv.take (h : AccInv B e acc (.slice (some ⟨g, 0, none⟩) n cap) w) {k : Nat} (hk : k ≤ acc.length) : AccInv B e (acc.take k) (.slice (some ⟨g, 0, none⟩) k cap) w := by
  obtain ⟨vs, ⟨h1, h2⟩, hc⟩ := h.ex
  refine ⟨vs.take (k * Rep.sz α), ⟨?_, ?_⟩, hc.takeL k⟩
  · rw [List.length_take, List.length_take, h1, Nat.min_eq_left hk, Nat.min_eq_left (Nat.mul_le_mul_right _ hk)]
  · rcases h2 with ⟨h, _⟩ | ⟨g', cap', cur, e1, hb, hg, hn, hm, hs, ht⟩
    · cases h
    · injection e1 with e1 e2 e3
      injection e1 with e1
      injection e1 with e1
      subst e1; subst e3
      refine .inr ⟨g, cap, cur, by rw [List.length_take, Nat.min_eq_left hk], hb, hg, by rw [List.length_take]; omega, hm, hs, ?_⟩
      rw [← ht, List.take_take, List.length_take, Nat.min_eq_left hk, Nat.min_eq_left (Nat.mul_le_mul_right _ hk)]
theorem AccInv.len (h : AccInv B e acc (.slice (some ⟨g, 0, none⟩) n cap) w) : n = acc.length := by
  obtain ⟨vs, ⟨h1, h2⟩, hc⟩ := h.ex
  rcases h2 with ⟨h, _⟩ | ⟨g', cap', cur, e1, _⟩
  · cases h
  · injection e1
end
end Go.Proofs.Ytmmnfkggfnokjaa
set_option linter.unusedVariables false
namespace Go.Proofs.Ytmmnfkggfnokjaa
open Go.RowKit
/-! ### numbered in place -/
structure MapC (P : Program) (k : TypeId) (w : World) (b : Nat) (f : Int → Option Value) (cnt : Nat) : Prop where
  ex : ∃ D : DataW Value, w.ownsMap P k heldElem b cnt D ∧ Go.Maps.size D = cnt ∧ ∀ i, (Lit.int .i64 i).wf = true → Go.Maps.has D (.int .i64 i) = (f i).isSome ∧ ∀ z, D.atKey (.int .i64 i) (.held z) = .held ((f i).getD z)
section
variable {P : Program} {k e t : TypeId} {w w' : World} {b cnt : Nat} {f : Int → Option Value}
theorem MapC.v (h : MapC P k w b f cnt) : MapV P k w b cnt f := let ⟨D, h1, _, h2⟩ := h.ex; ⟨D, h1, h2⟩
theorem MapC.made (P : Program) (k : TypeId) (w : World) : MapC P k (w.alloc (.map #[] 0)) w.heap.size (fun _ => none) 0 :=
  ⟨.map [], World.ownsMap_made w P k _, rfl, fun _ _ => ⟨rfl, fun _ => rfl⟩⟩
theorem MapC.blockM (h : MapC P k w b f cnt) (hb : w'.heap[b]? = w.heap[b]?) : MapC P k w' b f cnt := by
  obtain ⟨D, ⟨es, clock, h1, h2⟩, hs, hf⟩ := h.ex
  exact ⟨D, ⟨es, clock, hb.trans h1, h2⟩, hs, hf⟩
theorem MapC.congr {g : Int → Option Value} (h : MapC P k w b f cnt) (e : ∀ i, f i = g i) : MapC P k w b g cnt := by
  obtain rfl : f = g := funext e
  exact h
theorem MapC.run_len (h : MapC P k w b f cnt) (ht : P.underlying t = some (.map k e)) (ty : TypeId) : (Builtin.len_ #[t] ty #[.map (some b)]).run P w = .ok (.int .i64 cnt) w := by
  obtain ⟨D, h1, hs, _⟩ := h.ex
  rw [h1.len ht ty, hs]
theorem MapC.run_upd (h : MapC P k w b f cnt) (hk : P.underlying k = some (.int .i64)) (ht : P.underlying t = some (.map k e)) (hn : cnt < 9223372036854775807) (i : Int) (hi : (Lit.int .i64 i).wf = true) (hnone : f i = none) (z : Value) :
    ∃ w', (Instr.mapUpdate t (.map (some b)) (.int .i64 i) z).run P w = .ok () w' ∧ MapC P k w' b (fun j => if j = i then some z else f j) (cnt + 1) ∧ w.grownBy w' (some b) := by
  obtain ⟨D, h, hs, hf⟩ := h.ex
  obtain ⟨w', hrun, h1, h2⟩ := h.update (Go.Maps.int_keyed hk) ht (by unfold maxLen; omega) (Go.Maps.keyOf_int_mk hk hi) (show heldElem z = some (.held z, []) from rfl)
  refine ⟨w', hrun, ⟨_, h1, ?_, MapV.put_at h.isMap hf i z⟩, h2⟩
  rw [Go.Maps.size_put (h.tidy (Go.Maps.int_keyed hk)), (hf i hi).1, hnone, hs]
  rfl
end
abbrev NumS := (Int → Option Int) × Nat
def nuC (s : NumS) (c : Cel) : Cel × NumS :=
  if c.k = 1 then
    match s.1 c.n with
    | some r => (⟨c.k, c.s, r⟩, s)
    | none => (⟨c.k, c.s, (s.2 : Int)⟩, (fun j => if j = c.n then some (s.2 : Int) else s.1 j, s.2 + 1))
  else (c, s)
def nuL (s : NumS) : List Cel → List Cel × NumS
  | [] => ([], s)
  | c :: l => ((nuC s c).1 :: (nuL (nuC s c).2 l).1, (nuL (nuC s c).2 l).2)
theorem nuL_append : ∀ (s : NumS) (a b : List Cel), nuL s (a ++ b) = ((nuL s a).1 ++ (nuL (nuL s a).2 b).1, (nuL (nuL s a).2 b).2)
  | s, [], b => rfl
  | s, c :: a, b => by simp [nuL, nuL_append]
theorem nuL_len : ∀ (s : NumS) (a : List Cel), (nuL s a).1.length = a.length
  | s, [] => rfl
  | s, c :: a => by simp [nuL, nuL_len]
theorem nuC_cnt (s : NumS) (c : Cel) : (nuC s c).2.2 ≤ s.2 + 1 := by
  unfold nuC
  split
  · split <;> simp
  · simp
theorem nuL_cnt : ∀ (s : NumS) (a : List Cel), (nuL s a).2.2 ≤ s.2 + a.length
  | s, [] => by simp [nuL]
  | s, c :: a => by
    have h1 := nuC_cnt s c
    have h2 := nuL_cnt (nuC s c).2 a
    simp only [nuL, List.length_cons]; omega
def NumOk (s : NumS) : Prop := ∀ j r, s.1 j = some r → 0 ≤ r ∧ r < s.2
theorem NumOk.one {s : NumS} (h : NumOk s) (c : Cel) : NumOk (nuC s c).2 := by
  unfold nuC
  split
  · split
    · exact h
    · intro j r hj
      dsimp only at hj ⊢
      split at hj
      · cases hj; omega
      · have := h j r hj; omega
  · exact h
theorem NumOk.all : ∀ {s : NumS}, NumOk s → ∀ a : List Cel, NumOk (nuL s a).2
  | s, h, [] => h
  | s, h, c :: a => by unfold nuL; exact (h.one c).all a
theorem nuL_next (s : NumS) {xs : List Cel} {k : Nat} (hk : k < xs.length) : nuL s (xs.take (k + 1)) = ((nuL s (xs.take k)).1 ++ [(nuC (nuL s (xs.take k)).2 xs[k]).1], (nuC (nuL s (xs.take k)).2 xs[k]).2) := by
  rw [List.take_succ_eq_append_getElem hk, nuL_append]
  simp [nuL]
def MapI (f : Int → Option Int) : Int → Option Value := fun i => (f i).map fun r => .int .i64 r
section
variable {B g n cap : Nat} {acc : List Cel} {w : World}
theorem AccInv.getC (h : AccInv B 79 acc (.slice (some ⟨g, 0, none⟩) n cap) w) {j : Nat} (hj : j < acc.length) :
    w.cell? ⟨g, j * 3, none⟩ = some (.int .i64 acc[j].k) ∧ w.cell? ⟨g, j * 3 + 1, none⟩ = some (.string acc[j].s) ∧ w.cell? ⟨g, j * 3 + 2, none⟩ = some (.int .i64 acc[j].n) ∧ acc[j].fit ∧ ∀ q, w.frozen? ⟨g, q, none⟩ = false := by
  obtain ⟨vs, ho, hc⟩ := h.ex
  obtain ⟨cs, ⟨rfl, hf⟩, hat⟩ := hc.get hj
  have hl : n = acc.length := h.len
  subst hl
  exact ⟨own_cells ho _ _ (hat 0 _ rfl), own_cells ho _ _ (hat 1 _ rfl), own_cells ho _ _ (hat 2 _ rfl), hf, fun q => ho.frozenAt q⟩
theorem AccInv.setCn (h : AccInv B 79 acc (.slice (some ⟨g, 0, none⟩) n cap) w) {i : Nat} (hi : i < acc.length) (y : Int) (h1 : -9223372036854775808 ≤ y) (h2 : y ≤ 9223372036854775807) :
    AccInv B 79 (acc.set i ⟨acc[i].k, acc[i].s, y⟩) (.slice (some ⟨g, 0, none⟩) n cap) (w.setCell ⟨g, i * 3 + 2, none⟩ (.int .i64 y)) := by
  obtain ⟨_, _, _, hfit, _⟩ := h.getC hi
  obtain ⟨vs, ho, hc⟩ := h.ex
  have hl : n = acc.length := h.len
  subst hl
  obtain ⟨o1, hg⟩ := ho.stored (i * 3 + 2) (.int .i64 y)
  refine ⟨_, by rw [List.length_set]; exact o1, ?_⟩
  have hk : Keeps (hide (some g) w) (hide (some g) _) := grown_keeps hg
  have hvl : vs.length = acc.length * 3 := hc.len
  obtain ⟨cs, ⟨rfl, hf⟩, hat⟩ := hc.get hi
  have hy : RepC.C (hide (some g) (w.setCell ⟨g, i * 3 + 2, none⟩ (.int .i64 y))) [.int .i64 acc[i].k, .string acc[i].s, .int .i64 y] (⟨acc[i].k, acc[i].s, y⟩ : Cel) := ⟨rfl, ⟨hfit.k1, hfit.k2, h1, h2, hfit.s⟩⟩
  refine CRows.set (hc.keeps hk) hi hy (us := vs.set (i * 3 + 2) (.int .i64 y)) (by rw [List.length_set]) (fun q hq => ?_) (fun q hq => ?_)
  · have hq' : q < 3 := hq
    show (vs.set (i * 3 + 2) _)[i * 3 + q]? = _
    match q, hq' with
    | 0, _ => rw [List.getElem?_set_ne (by omega)]; exact hat 0 _ rfl
    | 1, _ => rw [List.getElem?_set_ne (by omega)]; exact hat 1 _ rfl
    | 2, _ => rw [List.getElem?_set_self (by first | omega | (simp; omega))]; rfl
  · have hq' : q < i * 3 ∨ (i + 1) * 3 ≤ q := hq
    rw [List.getElem?_set_ne (by omega)]
end
end Go.Proofs.Ytmmnfkggfnokjaa
set_option linter.unusedVariables false
namespace Go.Proofs.Ytmmnfkggfnokjaa
open Go.RowKit
structure WGo (w : World) (pb g gb : Nat) (B c : Nat) (s : NumS) (xs : List Cel) (k : Nat) (W : World) : Prop where
  acc : AccInv B 79 ((nuL s (xs.take k)).1 ++ xs.drop k) (.slice (some ⟨gb, 0, none⟩) xs.length c) W
  pc : W.cell? ⟨pb, 0, none⟩ = some (.map (some g))
  mp : MapC Try.prog 3 W g (MapI (nuL s (xs.take k)).2.1) (nuL s (xs.take k)).2.2
  fr : Fr [gb, g] w W
theorem nu_mid (s : NumS) {xs : List Cel} {k : Nat} (hk : k < xs.length) : ∃ h : k < ((nuL s (xs.take k)).1 ++ xs.drop k).length, ((nuL s (xs.take k)).1 ++ xs.drop k)[k] = xs[k] := by
  have hl : (nuL s (xs.take k)).1.length = k := by rw [nuL_len, List.length_take]; omega
  refine ⟨by rw [List.length_append, hl, List.length_drop]; omega, ?_⟩
  rw [List.getElem_append_right (by omega)]
  simp [hl]
theorem nu_set (s : NumS) {xs : List Cel} {k : Nat} (hk : k < xs.length) (y : Cel) (hy : (nuC (nuL s (xs.take k)).2 xs[k]).1 = y) : ((nuL s (xs.take k)).1 ++ xs.drop k).set k y = (nuL s (xs.take (k + 1))).1 ++ xs.drop (k + 1) := by
  have hl : (nuL s (xs.take k)).1.length = k := by rw [nuL_len, List.length_take]; omega
  rw [nuL_next s hk, hy, List.set_append_right _ _ (by omega), hl, Nat.sub_self, List.drop_eq_getElem_cons hk, List.set_cons_zero]
  simp
theorem nu_same (s : NumS) {xs : List Cel} {k : Nat} (hk : k < xs.length) (hy : nuC (nuL s (xs.take k)).2 xs[k] = (xs[k], (nuL s (xs.take k)).2)) : (nuL s (xs.take k)).1 ++ xs.drop k = (nuL s (xs.take (k + 1))).1 ++ xs.drop (k + 1) ∧ (nuL s (xs.take (k + 1))).2 = (nuL s (xs.take k)).2 := by
  rw [nuL_next s hk, hy]
  refine ⟨?_, rfl⟩
  simp only [List.append_assoc, List.singleton_append]
  rw [← List.drop_eq_getElem_cons hk]
set_option maxRecDepth 100000 in
set_option maxHeartbeats 6400000 in
theorem withinC_any (w : World) (pb g gb B c : Nat) (s : NumS) (xs : List Cel) (hA : AccInv B 79 xs (.slice (some ⟨gb, 0, none⟩) xs.length c) w) (hpc : w.cell? ⟨pb, 0, none⟩ = some (.map (some g))) (hm : MapC Try.prog 3 w g (MapI s.1) s.2) (hpg : pb ≠ g) (hpb : pb ≠ gb) (hs : s.2 + xs.length ≤ 100000000) (hok : NumOk s) :
    Calls Try.prog 199 #[.slice (some ⟨gb, 0, none⟩) xs.length c, .pointer (some ⟨pb, 0, none⟩)] w fun e W' => e = .returned (.tuple #[]) ∧ WGo w pb g gb B c s xs xs.length W' := by
  have hgg : g ≠ gb := by
    rintro rfl
    obtain ⟨cs, h1⟩ := own_typeG hA (b := g) rfl
    obtain ⟨_, _, h2⟩ := map_type hm.v
    rw [h1] at h2; cases h2
  have HGG := mkHid hgg
  have HPG := mkHid hpg
  have HG0 : Hid (WGo w pb g gb B c s xs 0 w) := ⟨by simpa [nuL] using hA, hpc, by simpa [nuL] using hm, Fr.refl _ _⟩
  have hmx : xs.length ≤ 100000000 := by omega
  have HS := mkHid hs
  have HOK := mkHid hok
  have hpb' : ¬ gb = pb := fun e => hpb e.symm
  have hpb1 : ¬ pb = gb := hpb
  clear hA hpc hm hs hok hgg hpg hpb
  go_enter Try.func199, Try.ntmps199
  go_wp2_with fail
  go_loopw [9] (fun i wr => ∃ (k : Nat), i = .int .i64 k ∧ k ≤ xs.length ∧ Hid (WGo w pb g gb B c s xs k wr)) (fun i wr => xs.length - (intOf i).toNat)
  case atStart => exact ⟨0, rfl, Nat.zero_le _, HG0⟩
  case round =>
    clear HG0
    obtain ⟨k, rfl, hk, HG⟩ := hrel
    by_cases hlt : k < xs.length
    · obtain ⟨hyl, hye⟩ := nu_mid s hlt
      obtain ⟨c0, c1, c2, hfit, hfz⟩ := HG.out.acc.getC hyl
      rw [hye] at c0 c1 c2 hfit
      have f2 := hfz (k * 3 + 2)
      have hpc := HG.out.pc
      have HNX := mkHid (nuL_next s hlt)
      have HFIT := mkHid hfit
      have hn1 := hfit.n1
      have hn2 := hfit.n2
      have HNE : Hid (∀ c', (nuC (nuL s (xs.take k)).2 xs[k]).1 = c' → ((nuL s (xs.take k)).1 ++ xs.drop k).set k c' = (nuL s (xs.take (k + 1))).1 ++ xs.drop (k + 1)) := fun c' h => nu_set s hlt c' h
      have HSM : Hid (nuC (nuL s (xs.take k)).2 xs[k] = (xs[k], (nuL s (xs.take k)).2) → (nuL s (xs.take k)).1 ++ xs.drop k = (nuL s (xs.take (k + 1))).1 ++ xs.drop (k + 1) ∧ (nuL s (xs.take (k + 1))).2 = (nuL s (xs.take k)).2) := fun h => nu_same s hlt h
      have HYE := mkHid hye
      clear hfz hfit
      by_cases hk1 : xs[k].k = 1
      · have t1 : (xs[k].k == 1) = true := by simp [hk1]
        have hlt1 : k < ((nuL s (xs.take k)).1 ++ xs.drop k).length := hyl
        have hcnt := nuL_cnt s (xs.take k)
        rw [List.length_take] at hcnt
        have hb3 := (Below.refl wr.heap.size wr).new (.cells #[.int .i64 xs[k].k, .string xs[k].s, .int .i64 xs[k].n] 79)
        have hmp := HG.out.mp.blockM (hb3.block g HG.out.mp.v.lt)
        have hacc := HG.out.acc.below hb3
        have hpc3 := keep hpc hb3
        have hgw : gb < wr.heap.size := (HG.out.acc.lt gb rfl).2
        have hxw : ¬ gb = wr.heap.size := by omega
        have hxw' : ¬ wr.heap.size = gb := by omega
        have hgm := HG.out.mp.v.lt
        have hOK : NumOk (nuL s (xs.take k)).2 := HOK.out.all _
        have hF3 : Fr [gb, g] w (wr.alloc (.cells #[.int .i64 xs[k].k, .string xs[k].s, .int .i64 xs[k].n] 79)) := HG.out.fr.trans (Fr.of hb3)
        have hlk := hmp.v.run_ok (t := 93) (e := 3) Try.underlying3 Try.underlying93 (Try.zeroInt _) (wf64 hn1 hn2)
        cases hs1 : (nuL s (xs.take k)).2.1 xs[k].n with
        | some r =>
          obtain ⟨hr1, hr2⟩ := hOK _ _ hs1
          have hlk2 := hmp.v.run_look (t := 93) (e := 3) Try.underlying3 Try.underlying93 (Try.zeroInt _) (wf64 hn1 hn2)
          rw [show MapI (nuL s (xs.take k)).2.1 xs[k].n = some (.int .i64 r) by unfold MapI; rw [hs1]; rfl] at hlk hlk2
          simp only [Option.getD_some, Option.isSome_some] at hlk hlk2
          have hnc : nuC (nuL s (xs.take k)).2 xs[k] = (⟨xs[k].k, xs[k].s, r⟩, (nuL s (xs.take k)).2) := by unfold nuC; rw [if_pos hk1, hs1]
          have HG1 : Hid (WGo w pb g gb B c s xs (k + 1) ((wr.alloc (.cells #[.int .i64 xs[k].k, .string xs[k].s, .int .i64 xs[k].n] 79)).setCell ⟨gb, k * 3 + 2, none⟩ (.int .i64 r))) := by
            have h1 := hacc.setCn hlt1 r (by omega) (by have := HS.out; omega)
            rw [HYE.out, HNE.out _ (by rw [hnc])] at h1
            have h2 : (nuL s (xs.take (k + 1))).2 = (nuL s (xs.take k)).2 := by rw [HNX.out, hnc]
            refine ⟨h1, ?_, ?_, hF3.set (by simp) _⟩
            · exact (World.cell?_setCell_far _ _ _ _ hpb').trans hpc3
            · rw [h2]
              exact hmp.blockM (Below.heap_setCell _ _ _ _ HGG.out)
          have hg1 := HG1.out
          rw [World.setCell_alloc_past _ _ _ _ hgw] at hg1
          have HG2 := mkHid hg1
          clear hg1
          clear hmp hacc hF3 hOK hnc hk1 hs1 hcnt hb3
          go_wp2_with fail
          go_round
          case rel => exact ⟨k + 1, by go_num, by omega, HG2⟩
          case measure => simp [intOf]; omega
        | none =>
          have hlen := hmp.run_len (t := 93) (e := 3) Try.underlying93 3
          obtain ⟨w4, hrun, hm4, hg4⟩ := hmp.run_upd (t := 93) (e := 3) Try.underlying3 Try.underlying93 (by have := HS.out; omega) xs[k].n (wf64 hn1 hn2) (by unfold MapI; rw [hs1]; rfl) (.int .i64 ((nuL s (xs.take k)).2.2 : Int))
          have hm4' := hm4.congr (g := MapI (nuC (nuL s (xs.take k)).2 xs[k]).2.1) (fun i => by unfold MapI nuC; rw [if_pos hk1, hs1]; dsimp only; split <;> rfl)
          have hlk2 := hm4'.v.run_look (t := 93) (e := 3) Try.underlying3 Try.underlying93 (Try.zeroInt _) (wf64 hn1 hn2)
          rw [show MapI (nuC (nuL s (xs.take k)).2 xs[k]).2.1 xs[k].n = some (.int .i64 ((nuL s (xs.take k)).2.2 : Int)) by unfold MapI nuC; rw [if_pos hk1, hs1]; simp] at hlk2
          rw [show MapI (nuL s (xs.take k)).2.1 xs[k].n = none by unfold MapI; rw [hs1]; rfl] at hlk
          simp only [Option.getD_some, Option.getD_none, Option.isSome_none] at hlk hlk2
          have hnc : nuC (nuL s (xs.take k)).2 xs[k] = (⟨xs[k].k, xs[k].s, ((nuL s (xs.take k)).2.2 : Int)⟩, (nuC (nuL s (xs.take k)).2 xs[k]).2) := by unfold nuC; rw [if_pos hk1, hs1]
          have key4 : ∀ b, b < (wr.alloc (.cells #[.int .i64 xs[k].k, .string xs[k].s, .int .i64 xs[k].n] 79)).heap.size → b ≠ g → w4.heap[b]? = (wr.alloc (.cells #[.int .i64 xs[k].k, .string xs[k].s, .int .i64 xs[k].n] 79)).heap[b]? := fun b h1 h2 => hg4.block b h1 (by simp; exact h2)
          have hpl : pb < (wr.alloc (.cells #[.int .i64 xs[k].k, .string xs[k].s, .int .i64 xs[k].n] 79)).heap.size := cell_lt hpc3
          have hgl : gb < (wr.alloc (.cells #[.int .i64 xs[k].k, .string xs[k].s, .int .i64 xs[k].n] 79)).heap.size := (hacc.lt gb rfl).2
          have hpc4 : w4.cell? ⟨pb, 0, none⟩ = some (.map (some g)) := (World.cell?_of_block (a := ⟨pb, 0, none⟩) (key4 pb hpl HPG.out)).trans hpc3
          have hx4 : w4.cell? ⟨wr.heap.size, 2, none⟩ = some (.int .i64 xs[k].n) := (World.cell?_of_block (a := ⟨wr.heap.size, 2, none⟩) (key4 wr.heap.size (by simp) (by omega))).trans (World.cell?_alloc_at _ _ _ _ rfl)
          have hacc4 := hacc.blockN (w' := w4) (fun h => h) (fun b hb => by cases hb; exact key4 gb hgl HGG.out.symm)
          obtain ⟨_, _, c24, _, hf4⟩ := hacc4.getC hlt1
          rw [HYE.out] at c24
          have f24 := hf4 (k * 3 + 2)
          have HG1 : Hid (WGo w pb g gb B c s xs (k + 1) (w4.setCell ⟨gb, k * 3 + 2, none⟩ (.int .i64 ((nuL s (xs.take k)).2.2 : Int)))) := by
            have h1 := hacc4.setCn hlt1 ((nuL s (xs.take k)).2.2 : Int) (by omega) (by have := HS.out; omega)
            rw [HYE.out, HNE.out _ (by rw [hnc])] at h1
            have h2 : (nuL s (xs.take (k + 1))).2 = (nuC (nuL s (xs.take k)).2 xs[k]).2 := by rw [HNX.out]
            have h3 : (nuC (nuL s (xs.take k)).2 xs[k]).2.2 = (nuL s (xs.take k)).2.2 + 1 := by unfold nuC; rw [if_pos hk1, hs1]
            refine ⟨h1, ?_, ?_, (hF3.trans ((grown_frN hg4).sub (by simp))).set (by simp) _⟩
            · exact (World.cell?_setCell_far _ _ _ _ hpb').trans hpc4
            · rw [h2, h3]
              exact hm4'.blockM (Below.heap_setCell _ _ _ _ HGG.out)
          clear hmp hacc hF3 hOK hnc hk1 hs1 hcnt hb3 hm4 hm4' hg4 key4 hacc4 hf4 hpl hgl
          go_wp2_with fail
          go_round
          case rel => exact ⟨k + 1, by go_num, by omega, HG1⟩
          case measure => simp [intOf]; omega
      · have HK1 := mkHid hk1
        have hb3 := (Below.refl wr.heap.size wr).new (.cells #[.int .i64 xs[k].k, .string xs[k].s, .int .i64 xs[k].n] 79)
        have HG1 : Hid (WGo w pb g gb B c s xs (k + 1) (wr.alloc (.cells #[.int .i64 xs[k].k, .string xs[k].s, .int .i64 xs[k].n] 79))) := by
          have hnc : nuC (nuL s (xs.take k)).2 xs[k] = (xs[k], (nuL s (xs.take k)).2) := by unfold nuC; rw [if_neg HK1.out]
          obtain ⟨h1, h2⟩ := HSM.out hnc
          refine ⟨by rw [← h1]; exact HG.out.acc.below hb3, keep hpc hb3, by rw [h2]; exact HG.out.mp.blockM (hb3.block g HG.out.mp.v.lt), HG.out.fr.trans (Fr.of hb3)⟩
        have t1 : (xs[k].k == 1) = false := by simp [hk1]
        clear hk1 hb3
        go_wp2_with fail
        go_round
        case rel => exact ⟨k + 1, by go_num, by omega, HG1⟩
        case measure => simp [intOf]; omega
    · obtain rfl : k = xs.length := by omega
      go_wp2_with fail
      refine bodyPost_end (results_none rfl _ _ _) rfl ?_
      exact ⟨rfl, HG.out⟩
end Go.Proofs.Ytmmnfkggfnokjaa
set_option linter.unusedVariables false
namespace Go.Proofs.Ytmmnfkggfnokjaa
open Go.RowKit
/-! ### a clause numbered in place -/
def nuLs (s : NumS) : List (List Cel) → List (List Cel) × NumS
  | [] => ([], s)
  | c :: l => ((nuL s c).1 :: (nuLs (nuL s c).2 l).1, (nuLs (nuL s c).2 l).2)
theorem nuLs_append : ∀ (s : NumS) (a b : List (List Cel)), nuLs s (a ++ b) = ((nuLs s a).1 ++ (nuLs (nuLs s a).2 b).1, (nuLs (nuLs s a).2 b).2)
  | s, [], b => rfl
  | s, c :: a, b => by simp [nuLs, nuLs_append]
theorem nuLs_len : ∀ (s : NumS) (a : List (List Cel)), (nuLs s a).1.length = a.length
  | s, [] => rfl
  | s, c :: a => by simp [nuLs, nuLs_len]
def sumL (a : List (List Cel)) : Nat := (a.map List.length).sum
theorem nuLs_cnt : ∀ (s : NumS) (a : List (List Cel)), (nuLs s a).2.2 ≤ s.2 + sumL a
  | s, [] => by simp [nuLs, sumL]
  | s, c :: a => by
    have h1 := nuL_cnt s c
    have h2 := nuLs_cnt (nuL s c).2 a
    simp only [nuLs, sumL, List.map_cons, List.sum_cons] at h2 ⊢; omega
theorem NumOk.alls : ∀ {s : NumS}, NumOk s → ∀ a : List (List Cel), NumOk (nuLs s a).2
  | s, h, [] => h
  | s, h, c :: a => by unfold nuLs; exact (h.all c).alls a
theorem nuLs_next (s : NumS) {xs : List (List Cel)} {k : Nat} (hk : k < xs.length) : nuLs s (xs.take (k + 1)) = ((nuLs s (xs.take k)).1 ++ [(nuL (nuLs s (xs.take k)).2 xs[k]).1], (nuL (nuLs s (xs.take k)).2 xs[k]).2) := by
  rw [List.take_succ_eq_append_getElem hk, nuLs_append]
  simp [nuLs]
theorem sumL_take (xs : List (List Cel)) {k : Nat} (hk : k < xs.length) : sumL (xs.take k) + xs[k].length ≤ sumL xs := by
  have h := congrArg sumL (List.take_append_drop (k + 1) xs)
  have h2 : ∀ a b, sumL (a ++ b) = sumL a + sumL b := fun a b => by simp [sumL]
  rw [h2, List.take_succ_eq_append_getElem hk, h2] at h
  simp [sumL] at h ⊢
  omega
theorem nus_mid (s : NumS) {xs : List (List Cel)} {k j : Nat} (hk : k ≤ xs.length) (hj : k ≤ j) : ((nuLs s (xs.take k)).1 ++ xs.drop k)[j]? = xs[j]? := by
  have hl : (nuLs s (xs.take k)).1.length = k := by rw [nuLs_len, List.length_take]; omega
  rw [List.getElem?_append_right (by omega), List.getElem?_drop, hl]
  congr 1; omega
theorem nus_step (s : NumS) {xs : List (List Cel)} {k : Nat} (hk : k < xs.length) (j : Nat) : ((nuLs s (xs.take (k + 1))).1 ++ xs.drop (k + 1))[j]? = if j = k then some (nuL (nuLs s (xs.take k)).2 xs[k]).1 else ((nuLs s (xs.take k)).1 ++ xs.drop k)[j]? := by
  have hl : (nuLs s (xs.take k)).1.length = k := by rw [nuLs_len, List.length_take]; omega
  rw [nuLs_next s hk]
  by_cases h : j = k
  · subst h
    rw [if_pos rfl, List.append_assoc, List.getElem?_append_right (by omega), hl, Nat.sub_self]
    rfl
  · rw [if_neg h]
    by_cases h2 : j < k
    · rw [List.append_assoc, List.getElem?_append_left (by omega), List.getElem?_append_left (by omega)]
    · have e1 : (((nuLs s (xs.take k)).1 ++ [(nuL (nuLs s (xs.take k)).2 xs[k]).1]) ++ xs.drop (k + 1))[j]? = (xs.drop (k + 1))[j - (k + 1)]? := by
        have hl2 : ((nuLs s (xs.take k)).1 ++ [(nuL (nuLs s (xs.take k)).2 xs[k]).1]).length = k + 1 := by rw [List.length_append, hl]; rfl
        rw [List.getElem?_append_right (by omega), hl2]
      have e2 : ((nuLs s (xs.take k)).1 ++ xs.drop k)[j]? = (xs.drop k)[j - k]? := by rw [List.getElem?_append_right (by omega), hl]
      rw [e2, List.getElem?_drop]
      show (((nuLs s (xs.take k)).1 ++ [(nuL (nuLs s (xs.take k)).2 xs[k]).1]) ++ xs.drop (k + 1))[j]? = _
      rw [e1, List.getElem?_drop]
      congr 1; omega
/-- rows of cells, each its own -/
structure RowsN (W : World) (B0 : Nat) (ls : List LitV) (cs : List (List Cel)) : Prop where
  at_ : ∀ (k : Nat) l c, ls[k]? = some l → cs[k]? = some c → AccInv B0 79 c l.v W
theorem RowsN.blocks {W W' : World} {B0 : Nat} {ls : List LitV} {cs : List (List Cel)} (h : RowsN W B0 ls cs) (hb : ∀ l ∈ ls, ∀ b, l.v.ownBlock = some b → W'.heap[b]? = W.heap[b]?) : RowsN W' B0 ls cs :=
  ⟨fun k l c h1 h2 => (h.at_ k l c h1 h2).blockN (fun h => h) (fun b e => hb l (List.mem_of_getElem? h1) b e)⟩
theorem row_lit {α : Type} [RepC α] {B e : Nat} {v : Value} {acc : List α} {w : World} (h : AccInv B e acc v w) (hne : acc ≠ []) : ∃ g c, v = .slice (some ⟨g, 0, none⟩) acc.length c := by
  obtain ⟨vs, ho, hc⟩ := h.ex
  rcases ho.2 with ⟨e1, h0⟩ | ⟨g, cap, cur, e1, _⟩
  · exact absurd (List.eq_nil_of_length_eq_zero h0) hne
  · exact ⟨g, cap, e1⟩
structure NGo (w : World) (pb g gh B ch : Nat) (h : List Cel) (ls : List LitV) (cs : List (List Cel)) (s : NumS) (k : Nat) (W : World) : Prop where
  hd : AccInv B 79 h (.slice (some ⟨gh, 0, none⟩) h.length ch) W
  rows : RowsN W B ls ((nuLs s (cs.take k)).1 ++ cs.drop k)
  pc : W.cell? ⟨pb, 0, none⟩ = some (.map (some g))
  mp : MapC Try.prog 3 W g (MapI (nuLs s (cs.take k)).2.1) (nuLs s (cs.take k)).2.2
  bel : ∀ b, b < w.heap.size → b ≠ gh → (∀ l ∈ ls, l.v.ownBlock ≠ some b) → W.heap[b]? = w.heap[b]?
  os : W.os = w.os ∧ W.tape = w.tape ∧ W.output = w.output ∧ w.heap.size ≤ W.heap.size
  gw : w.heap.size ≤ g ∧ w.heap.size ≤ pb ∧ g ≠ pb
/-- a literal's row was numbered -/
theorem NGo.step {w W W' : World} {pb g gh B ch : Nat} {h : List Cel} {ls : List LitV} {cs : List (List Cel)} {s : NumS} {k : Nat} (H : NGo w pb g gh B ch h ls cs s k W) (hk : k < cs.length) (hl : ls.length = cs.length) (hgh : ∀ l ∈ ls, l.v.ownBlock ≠ some gh) (hsep : ls.Pairwise fun a b => ∀ g, a.v.ownBlock = some g → b.v.ownBlock ≠ some g) (hlt : ∀ l ∈ ls, ∀ b, l.v.ownBlock = some b → b < w.heap.size) (hg : gh < w.heap.size)
    {gb c : Nat} (hv : ∀ l, ls[k]? = some l → l.v = .slice (some ⟨gb, 0, none⟩) cs[k].length c) (hw : WGo W pb g gb B c (nuLs s (cs.take k)).2 cs[k] cs[k].length W') : NGo w pb g gh B ch h ls cs s (k + 1) W' := by
  have hkl : k < ls.length := by omega
  have hvk := hv ls[k] (List.getElem?_eq_getElem hkl)
  have hmem : ls[k] ∈ ls := List.getElem_mem hkl
  have hob : (ls[k]).v.ownBlock = some gb := by rw [hvk]; rfl
  have hgbw := hlt _ hmem _ hob
  have hgg : gh ≠ gb := fun e => hgh _ hmem (by rw [hob, e])
  have key : ∀ b, b < W.heap.size → b ≠ gb → b ≠ g → W'.heap[b]? = W.heap[b]? := fun b h1 h2 h3 => hw.fr.block b h1 (by simp; exact ⟨h2, h3⟩)
  have hne : ∀ j l, ls[j]? = some l → j ≠ k → l.v.ownBlock ≠ some gb := fun j l hj hjk e => by
    obtain ⟨hjl, e1⟩ := List.getElem?_eq_some_iff.1 hj
    rcases Nat.lt_or_gt_of_ne hjk with h1 | h1
    · exact List.pairwise_iff_getElem.1 hsep j k hjl hkl h1 gb (by rw [e1]; exact e) hob
    · exact List.pairwise_iff_getElem.1 hsep k j hkl hjl h1 gb hob (by rw [e1]; exact e)
  have hwf := hw.acc
  rw [List.take_length, List.drop_length, List.append_nil] at hwf
  have hmp := hw.mp
  rw [List.take_length] at hmp
  refine ⟨H.hd.blockN (fun h => h) (fun b e => ?_), ⟨fun j l c' h1 h2 => ?_⟩, hw.pc, ?_, fun b h1 h2 h3 => ?_, ⟨hw.fr.os.trans H.os.1, hw.fr.tape.trans H.os.2.1, hw.fr.output.trans H.os.2.2.1, Nat.le_trans H.os.2.2.2 hw.fr.size⟩, H.gw⟩
  · cases e
    exact key gh (Nat.lt_of_lt_of_le hg H.os.2.2.2) hgg (by have := H.gw.1; omega)
  · rw [nus_step s hk] at h2
    by_cases e : j = k
    · subst e
      rw [if_pos rfl] at h2
      cases h2
      rw [hv l h1]
      exact hwf
    · rw [if_neg e] at h2
      refine (H.rows.at_ j l c' h1 h2).blockN (fun h => h) fun b eb => ?_
      have hbw := hlt l (List.mem_of_getElem? h1) b eb
      exact key b (Nat.lt_of_lt_of_le hbw H.os.2.2.2) (fun e2 => hne j l h1 e (by rw [eb, e2])) (by have := H.gw.1; omega)
  · rw [nuLs_next s hk]
    exact hmp
  · rw [key b (Nat.lt_of_lt_of_le h1 H.os.2.2.2) (fun e => h3 _ hmem (by rw [hob, e])) (by have := H.gw.1; omega)]
    exact H.bel b h1 h2 h3
end Go.Proofs.Ytmmnfkggfnokjaa
set_option linter.unusedVariables false
namespace Go.Proofs.Ytmmnfkggfnokjaa
open Go.RowKit
/-! ### numbered in place is renamed -/
def renC (F : Int → Int) (c : Cel) : Cel := if c.k = 1 then ⟨c.k, c.s, F c.n⟩ else c
/-- what was numbered stays so -/
def NuLe (s s' : NumS) : Prop := ∀ j r, s.1 j = some r → s'.1 j = some r
theorem nuC_le (s : NumS) (c : Cel) : NuLe s (nuC s c).2 := by
  intro j r h
  unfold nuC
  split
  · split
    · exact h
    · rename_i hn
      dsimp only
      split
      · rename_i e; rw [e, hn] at h; cases h
      · exact h
  · exact h
theorem nuL_le : ∀ (s : NumS) (xs : List Cel), NuLe s (nuL s xs).2
  | s, [] => fun _ _ h => h
  | s, c :: xs => fun j r h => nuL_le (nuC s c).2 xs j r (nuC_le s c j r h)
theorem nuLs_le : ∀ (s : NumS) (cs : List (List Cel)), NuLe s (nuLs s cs).2
  | s, [] => fun _ _ h => h
  | s, c :: cs => fun j r h => nuLs_le (nuL s c).2 cs j r (nuL_le s c j r h)
/-- a variable that was numbered -/
theorem nuC_at (s : NumS) (c : Cel) (h : c.k = 1) : ∃ r, (nuC s c).2.1 c.n = some r ∧ (nuC s c).1 = ⟨c.k, c.s, r⟩ := by
  unfold nuC
  rw [if_pos h]
  split
  · rename_i r hr
    exact ⟨r, hr, rfl⟩
  · exact ⟨(s.2 : Int), by simp, rfl⟩
theorem nuL_ren {G : NumS} {F : Int → Int} (hF : ∀ j r, G.1 j = some r → F j = r) : ∀ (s : NumS) (xs : List Cel), NuLe (nuL s xs).2 G → (nuL s xs).1 = xs.map (renC F)
  | s, [], _ => rfl
  | s, c :: xs, h => by
    have ih := nuL_ren hF (nuC s c).2 xs h
    have hc : (nuC s c).1 = renC F c := by
      by_cases hk : c.k = 1
      · obtain ⟨r, h1, h2⟩ := nuC_at s c hk
        have h3 := hF c.n r (h c.n r (nuL_le (nuC s c).2 xs c.n r h1))
        rw [h2, renC, if_pos hk, h3]
      · unfold nuC renC
        rw [if_neg hk, if_neg hk]
    show (nuC s c).1 :: (nuL (nuC s c).2 xs).1 = _
    rw [hc, ih, List.map_cons]
theorem nuLs_ren {G : NumS} {F : Int → Int} (hF : ∀ j r, G.1 j = some r → F j = r) : ∀ (s : NumS) (cs : List (List Cel)), NuLe (nuLs s cs).2 G → (nuLs s cs).1 = cs.map fun c => c.map (renC F)
  | s, [], _ => rfl
  | s, c :: cs, h => by
    have ih := nuLs_ren hF (nuL s c).2 cs h
    have h1 : NuLe (nuL s c).2 G := fun j r e => h j r (nuLs_le (nuL s c).2 cs j r e)
    show (nuL s c).1 :: (nuLs (nuL s c).2 cs).1 = _
    rw [nuL_ren hF s c h1, ih, List.map_cons]
/-- no two variables have one number -/
def NuInj (s : NumS) : Prop := NumOk s ∧ ∀ a b r, s.1 a = some r → s.1 b = some r → a = b
theorem NuInj.one {s : NumS} (h : NuInj s) (c : Cel) : NuInj (nuC s c).2 := by
  refine ⟨h.1.one c, fun a b r h1 h2 => ?_⟩
  unfold nuC at h1 h2
  split at h1
  · split at h1
    · rename_i hk _ _ hs
      rw [if_pos hk, hs] at h2
      exact h.2 a b r h1 h2
    · rename_i hk _ hs
      rw [if_pos hk, hs] at h2
      dsimp only at h1 h2
      split at h1
      · split at h2
        · rename_i e1 e2; rw [e1, e2]
        · cases h1
          have := (h.1 b _ h2).2
          omega
      · split at h2
        · cases h2
          have := (h.1 a _ h1).2
          omega
        · exact h.2 a b r h1 h2
  · rename_i hk
    rw [if_neg hk] at h2
    exact h.2 a b r h1 h2
theorem NuInj.all : ∀ {s : NumS}, NuInj s → ∀ xs : List Cel, NuInj (nuL s xs).2
  | s, h, [] => h
  | s, h, c :: xs => (h.one c).all xs
theorem NuInj.alls : ∀ {s : NumS}, NuInj s → ∀ cs : List (List Cel), NuInj (nuLs s cs).2
  | s, h, [] => h
  | s, h, c :: cs => (h.all c).alls cs
end Go.Proofs.Ytmmnfkggfnokjaa
set_option linter.unusedVariables false
namespace Go.Proofs.Ytmmnfkggfnokjaa
open Go.RowKit
theorem NGo.below {w W W' : World} {pb g gh B ch : Nat} {h : List Cel} {ls : List LitV} {cs : List (List Cel)} {s : NumS} {k : Nat} (H : NGo w pb g gh B ch h ls cs s k W) (hb : Below W.heap.size W W') (hlt : ∀ l ∈ ls, ∀ b, l.v.ownBlock = some b → b < w.heap.size) : NGo w pb g gh B ch h ls cs s k W' :=
  ⟨H.hd.below hb, H.rows.blocks fun l hl b e => hb.block b (Nat.lt_of_lt_of_le (hlt l hl b e) H.os.2.2.2), keep H.pc hb, H.mp.blockM (hb.block g H.mp.v.lt), fun b h1 h2 h3 => (hb.block b (Nat.lt_of_lt_of_le h1 H.os.2.2.2)).trans (H.bel b h1 h2 h3), ⟨hb.os.trans H.os.1, hb.tape.trans H.os.2.1, hb.output.trans H.os.2.2.1, Nat.le_trans H.os.2.2.2 hb.size⟩, H.gw⟩
theorem AccInv.getL {B g n cap : Nat} {acc : List LitV} {w : World} (h : AccInv B 88 acc (.slice (some ⟨g, 0, none⟩) n cap) w) {j : Nat} (hj : j < acc.length) : w.cell? ⟨g, j * 2, none⟩ = some (.bool acc[j].neg) ∧ w.cell? ⟨g, j * 2 + 1, none⟩ = some acc[j].v := by
  obtain ⟨vs, ho, hc⟩ := h.ex
  obtain ⟨cs, ⟨rfl, hf⟩, hat⟩ := hc.get hj
  have hl : n = acc.length := h.len
  subst hl
  exact ⟨own_cells ho _ _ (hat 0 _ rfl), own_cells ho _ _ (hat 1 _ rfl)⟩
def nu0 : NumS := (fun _ => none, 0)
theorem nu0_ok : NumOk nu0 := fun j r h => by cases h
/-- what number makes of a clause's rows -/
structure NPost (w : World) (gh B ch : Nat) (h : List Cel) (ls : List LitV) (cs : List (List Cel)) (W' : World) : Prop where
  hd : AccInv B 79 (nuL nu0 h).1 (.slice (some ⟨gh, 0, none⟩) h.length ch) W'
  rows : RowsN W' B ls (nuLs (nuL nu0 h).2 cs).1
  bel : ∀ b, b < w.heap.size → b ≠ gh → (∀ l ∈ ls, l.v.ownBlock ≠ some b) → W'.heap[b]? = w.heap[b]?
  os : W'.os = w.os ∧ W'.tape = w.tape ∧ W'.output = w.output ∧ w.heap.size ≤ W'.heap.size
set_option maxRecDepth 100000 in
set_option maxHeartbeats 6400000 in
theorem numberC_any (w : World) (gh B ch B2 : Nat) (h : List Cel) (ls : List LitV) (cs : List (List Cel)) (ab : Option Addr) (nb cb : Nat) (hA : AccInv B 79 h (.slice (some ⟨gh, 0, none⟩) h.length ch) w) (hB : AccInv B2 88 ls (.slice ab nb cb) w) (hR : RowsN w B ls cs) (hl : ls.length = cs.length) (hne : ∀ c ∈ cs, c ≠ [])
    (hgh : ∀ l ∈ ls, l.v.ownBlock ≠ some gh) (hsep : ls.Pairwise fun a b => ∀ g, a.v.ownBlock = some g → b.v.ownBlock ≠ some g) (hsz : h.length + sumL cs ≤ 100000000) (hls : ls.length ≤ 100000000) :
    Calls Try.prog 155 #[.agg #[.slice (some ⟨gh, 0, none⟩) h.length ch, .slice ab nb cb]] w fun e W' => e = .returned (.tuple #[]) ∧ NPost w gh B ch h ls cs W' := by
  have hgw : gh < w.heap.size := (hA.lt gh rfl).2
  have hlt : ∀ l ∈ ls, ∀ b, l.v.ownBlock = some b → b < w.heap.size := fun l hm b e => by
    obtain ⟨k, hk, e1⟩ := List.getElem_of_mem hm
    exact ((hR.at_ k l cs[k] (by rw [List.getElem?_eq_getElem hk, e1]) (List.getElem?_eq_getElem (by omega))).lt b e).2
  obtain rfl : nb = ls.length := by
    obtain ⟨a', c', e, _⟩ := hB.row
    cases e
    rfl
  have hb3 := (((Below.refl w.heap.size w).new (.cells #[.slice (some ⟨gh, 0, none⟩) h.length ch, .slice ab ls.length cb] 25)).new (.map #[] 0)).new (.cells #[.map (some (w.heap.size + 1))] 93)
  obtain ⟨w1, hw1⟩ : ∃ X, (((w.alloc (.cells #[.slice (some ⟨gh, 0, none⟩) h.length ch, .slice ab ls.length cb] 25)).alloc (.map #[] 0)).alloc (.cells #[.map (some (w.heap.size + 1))] 93)) = X := ⟨_, rfl⟩
  have hpc : w1.cell? ⟨w.heap.size + 2, 0, none⟩ = some (.map (some (w.heap.size + 1))) := by rw [← hw1]; exact World.cell?_alloc_at _ _ _ 0 (by simp)
  have hmp : MapC Try.prog 3 w1 (w.heap.size + 1) (MapI nu0.1) nu0.2 := by
    have h1 := MapC.made Try.prog 3 (w.alloc (.cells #[.slice (some ⟨gh, 0, none⟩) h.length ch, .slice ab ls.length cb] 25))
    rw [World.size_alloc] at h1
    refine (h1.blockM (w' := w1) ?_).congr fun i => rfl
    rw [← hw1]
    exact heap_alloc_old _ _ (by simp)
  have hx1 : w1.cell? ⟨w.heap.size, 1, none⟩ = some (.slice ab ls.length cb) := by
    rw [← hw1]
    refine keep (World.cell?_alloc_at _ _ w.heap.size 1 rfl) (((Below.refl _ _).new _).new _)
  rw [hw1] at hb3
  have hs1 : w1.heap.size = w.heap.size + 3 := by rw [← hw1]; simp
  have HW1 := mkHid hw1
  have HA := mkHid (hA.below hb3)
  have HPC := mkHid hpc
  have HMP := mkHid hmp
  have HX1 := mkHid hx1
  have HB3 := mkHid hb3
  have HBR := mkHid hB
  have HR := mkHid hR
  have HLT := mkHid hlt
  have HGH := mkHid hgh
  have HSEP := mkHid hsep
  have HNE := mkHid hne
  have HS1 := mkHid hs1
  have HSZ := mkHid hsz
  have HLL := mkHid hl
  clear hA hB hR hw1 hpc hmp hx1 hb3 hlt hgh hsep hne hs1 hl
  have hmm := @run_makeMap Try.prog
  go_enter Try.func155, Try.ntmps155
  go_wp2_with fail
  clear hmm
  rw [HW1.out]
  refine (withinC_any w1 (w.heap.size + 2) (w.heap.size + 1) gh B ch nu0 h HA.out HPC.out HMP.out (by omega) (by omega) (by have := HSZ.out; show 0 + _ ≤ _; omega) nu0_ok).mono ?_
  rintro e w2 ⟨rfl, hW2⟩
  have hkey : ∀ b, b < w.heap.size → b ≠ gh → w2.heap[b]? = w.heap[b]? := fun b h1 h2 => by
    rw [hW2.fr.block b (by have := HS1.out; omega) (by simp; exact ⟨h2, by omega⟩)]
    exact HB3.out.block b h1
  have hx2 : w2.cell? ⟨w.heap.size, 1, none⟩ = some (.slice ab ls.length cb) := (World.cell?_of_block (a := ⟨w.heap.size, 1, none⟩) (hW2.fr.block w.heap.size (by have := HS1.out; omega) (by simp; omega))).trans HX1.out
  have hN0 : NGo w (w.heap.size + 2) (w.heap.size + 1) gh B ch (nuL nu0 h).1 ls cs (nuL nu0 h).2 0 w2 := by
    have h1 := hW2.acc
    rw [List.take_length, List.drop_length, List.append_nil] at h1
    have h2 := hW2.mp
    rw [List.take_length] at h2
    refine ⟨by rw [nuL_len]; exact h1, ?_, hW2.pc, by simpa [nuLs] using h2, fun b h1 h2 _ => hkey b h1 h2, ⟨hW2.fr.os.trans HB3.out.os, hW2.fr.tape.trans HB3.out.tape, hW2.fr.output.trans HB3.out.output, Nat.le_trans HB3.out.size hW2.fr.size⟩, ⟨by omega, by omega, by omega⟩⟩
    simp only [List.take_zero, List.drop_zero, nuLs, List.nil_append]
    exact HR.out.blocks fun l hl b e => hkey b (HLT.out l hl b e) (fun e2 => HGH.out l hl (by rw [e, e2]))
  have HN0 := mkHid hN0
  clear hN0 hkey hW2
  go_wp2_with fail
  go_loopw [5, 15] (fun _ i wr => ∃ (k : Nat), i = .int .i64 k ∧ k ≤ ls.length ∧ Hid (NGo w (w.heap.size + 2) (w.heap.size + 1) gh B ch (nuL nu0 h).1 ls cs (nuL nu0 h).2 k wr)) (fun _ i wr => ls.length - (intOf i).toNat)
  case atStart => exact ⟨0, rfl, Nat.zero_le _, HN0⟩
  case round =>
    clear HN0 hx2
    obtain ⟨k, rfl, hk, HG⟩ := hrel
    by_cases hlt : k < ls.length
    · have hkc : k < cs.length := by rw [← HLL.out]; exact hlt
      obtain ⟨bg, cb', hab⟩ := row_lit HBR.out (by intro e; rw [e] at hlt; simp at hlt)
      injection hab with hab1 _ hab3
      subst hab1
      subst hab3
      obtain ⟨q0, q1⟩ := HBR.out.getL hlt
      have hmem : ls[k] ∈ ls := List.getElem_mem hlt
      have hbgw : bg < w.heap.size := cell_lt q0
      have hbgl : ∀ l ∈ ls, l.v.ownBlock ≠ some bg := fun l hl e => by
        obtain ⟨j, hj, e1⟩ := List.getElem_of_mem hl
        obtain ⟨cs1, h1⟩ := own_typeG (HR.out.at_ j l cs[j] (by rw [List.getElem?_eq_getElem hj, e1]) (List.getElem?_eq_getElem (by rw [← HLL.out]; exact hj))) e
        obtain ⟨cs2, h2⟩ := own_typeG HBR.out (b := bg) rfl
        rw [h1] at h2; simp at h2
      have hbgh : bg ≠ gh := by
        rintro rfl
        obtain ⟨cs1, h1⟩ := own_typeG HBR.out (b := bg) rfl
        obtain ⟨cs2, h2⟩ := own_typeG HA.out (b := bg) rfl
        rw [HB3.out.block bg hbgw, h1] at h2
        simp at h2
      have hbl := HG.out.bel bg hbgw hbgh hbgl
      have q0' := (World.cell?_of_block (a := ⟨bg, k * 2, none⟩) hbl).trans q0
      have q1' := (World.cell?_of_block (a := ⟨bg, k * 2 + 1, none⟩) hbl).trans q1
      have hcne : cs[k] ≠ [] := HNE.out _ (List.getElem_mem hkc)
      obtain ⟨gb, cc, hv⟩ := row_lit (HR.out.at_ k ls[k] cs[k] (List.getElem?_eq_getElem hlt) (List.getElem?_eq_getElem hkc)) hcne
      rw [hv] at q1'
      have HV := mkHid hv
      have hgg : gb ≠ gh := fun e => HGH.out _ hmem (by rw [hv, ← e]; rfl)
      have hgbw : gb < w.heap.size := HLT.out _ hmem gb (by rw [hv]; rfl)
      have HHY := mkHid hgbw
      have hcl := sumL_take cs hkc
      have hcl2 : cs[k].length ≤ 100000000 := by omega
      have HSK : Hid ((nuLs (nuL nu0 h).2 (cs.take k)).2.2 + cs[k].length ≤ 100000000) := by
        have h1 := nuLs_cnt (nuL nu0 h).2 (cs.take k)
        have h2 := nuL_cnt nu0 h
        have h3 : nu0.2 = 0 := rfl
        rw [Hid]; omega
      have HOK : Hid (NumOk (nuLs (nuL nu0 h).2 (cs.take k)).2) := (nu0_ok.all h).alls _
      have HRK : Hid (AccInv B 79 cs[k] (.slice (some ⟨gb, 0, none⟩) cs[k].length cc) wr) := by
        have h1 := HG.out.rows.at_ k ls[k] cs[k] (List.getElem?_eq_getElem hlt) (by rw [nus_mid _ (by omega) (Nat.le_refl _)]; exact List.getElem?_eq_getElem hkc)
        rw [hv] at h1
        exact h1
      obtain ⟨ng, hng⟩ : ∃ x, ls[k].neg = x := ⟨_, rfl⟩
      rw [hng] at q0'
      have hb5 := (Below.refl wr.heap.size wr).new (.cells #[.bool ng, .slice (some ⟨gb, 0, none⟩) cs[k].length cc] 88)
      have HG5 := mkHid (HG.out.below hb5 HLT.out)
      have HRK5 := mkHid (HRK.out.below hb5)
      clear hb5 hbl q0 q1 hbgl hbgh hcne hv hgbw hcl hng hgg
      go_wp2_with fail
      refine (withinC_any _ (w.heap.size + 2) (w.heap.size + 1) gb B cc (nuLs (nuL nu0 h).2 (cs.take k)).2 cs[k] HRK5.out HG5.out.pc HG5.out.mp (by omega) (by have := HHY.out; omega) HSK.out HOK.out).mono ?_
      rintro e w7 ⟨rfl, hW7⟩
      have HG7 := mkHid (HG5.out.step hkc HLL.out HGH.out HSEP.out HLT.out hgw (gb := gb) (c := cc) (fun l e => by rw [List.getElem?_eq_getElem hlt] at e; cases e; exact HV.out) hW7)
      clear hW7
      go_wp2_with fail
      go_round
      case rel => exact ⟨k + 1, by go_num, by omega, HG7⟩
      case measure => simp [intOf]; omega
    · obtain rfl : k = ls.length := by omega
      go_wp2_with fail
      refine bodyPost_end (results_none rfl _ _ _) rfl ?_
      have h1 := HG.out.rows
      have h2 := HG.out.hd
      rw [HLL.out, List.take_length, List.drop_length, List.append_nil] at h1
      rw [nuL_len] at h2
      exact ⟨rfl, h2, h1, HG.out.bel, HG.out.os⟩
end Go.Proofs.Ytmmnfkggfnokjaa
set_option linter.unusedVariables false
namespace Go.Proofs.Ytmmnfkggfnokjaa
open Go.RowKit
theorem nuL_some : ∀ (s : NumS) (xs : List Cel), ∀ c ∈ xs, c.k = 1 → ∃ r, (nuL s xs).2.1 c.n = some r
  | s, [], c, h, _ => by cases h
  | s, d :: xs, c, h, hk => by
    rcases List.mem_cons.1 h with rfl | h
    · obtain ⟨r, h1, _⟩ := nuC_at s c hk
      exact ⟨r, nuL_le (nuC s c).2 xs c.n r h1⟩
    · exact nuL_some (nuC s d).2 xs c h hk
theorem nuLs_some : ∀ (s : NumS) (cs : List (List Cel)), ∀ xs ∈ cs, ∀ c ∈ xs, c.k = 1 → ∃ r, (nuLs s cs).2.1 c.n = some r
  | s, [], xs, h, _, _, _ => by cases h
  | s, d :: cs, xs, h, c, hc, hk => by
    rcases List.mem_cons.1 h with rfl | h
    · obtain ⟨r, h1⟩ := nuL_some s xs c hc hk
      exact ⟨r, nuLs_le (nuL s xs).2 cs c.n r h1⟩
    · exact nuLs_some (nuL s d).2 cs xs h c hc hk
mutual
/-- variables and ints bear no names -/
def NoName : Tm → Prop
  | .mk c ts => (c.k ≠ 3 → c.s = ⟨#[]⟩) ∧ NoNames ts
def NoNames : List Tm → Prop
  | [] => True
  | t :: ts => NoName t ∧ NoNames ts
end
mutual
theorem ren_flat (F : Int → Int) : ∀ t : Tm, Kinds t → NoName t → (renT F t).flat = t.flat.map (renC F)
  | .mk c ts, hk, hn => by
    have hk' : c.k = 1 ∨ c.k = 2 ∨ c.k = 3 := hk.1
    have hn1 := hn.1
    obtain ⟨k, s, n⟩ := c
    dsimp only at hk' hn1
    unfold renT
    rcases hk' with h | h | h
    · subst h
      rw [if_pos rfl, hk.2.1 (by simp), hn1 (by decide)]
      simp [vT, Tm.flat, flats, renC]
    · subst h
      rw [if_neg (by simp), if_pos rfl, hk.2.1 (by simp), hn1 (by decide)]
      simp [Tm.flat, flats, renC]
    · subst h
      rw [if_neg (by simp), if_neg (by simp)]
      simp only [Tm.flat, List.map_cons]
      rw [ren_flats F ts hk.2.2 hn.2]
      simp [renC]
theorem ren_flats (F : Int → Int) : ∀ ts : List Tm, KindsL ts → NoNames ts → flats (renTs F ts) = (flats ts).map (renC F)
  | [], _, _ => by unfold renTs; rfl
  | t :: ts, hk, hn => by
    unfold renTs flats
    rw [ren_flat F t hk.1 hn.1, ren_flats F ts hk.2 hn.2, List.map_append]
end
/-! #### numbering behind an injective renaming is numbering -/
structure NuR (F : Int → Int) (P : Int → Prop) (s s' : NumS) : Prop where
  cnt : s'.2 = s.2
  at_ : ∀ n, P n → s'.1 (F n) = s.1 n
theorem nuC_of {F : Int → Int} {P : Int → Prop} (hF : InjP F P) {s s' : NumS} (h : NuR F P s s') (c : Cel) (hc : c.k = 1 → P c.n) : (nuC s' (renC F c)).1 = (nuC s c).1 ∧ NuR F P (nuC s c).2 (nuC s' (renC F c)).2 := by
  by_cases hk : c.k = 1
  · have hp := hc hk
    have e : renC F c = ⟨c.k, c.s, F c.n⟩ := by unfold renC; rw [if_pos hk]
    rw [e]
    unfold nuC
    rw [if_pos hk, if_pos hk]
    dsimp only
    rw [h.at_ c.n hp]
    cases hs : s.1 c.n with
    | some r => exact ⟨rfl, h⟩
    | none =>
      dsimp only
      refine ⟨by rw [h.cnt], ⟨by dsimp only; rw [h.cnt], fun k hkP => ?_⟩⟩
      dsimp only
      by_cases e2 : k = c.n
      · subst e2; rw [if_pos rfl, if_pos rfl, h.cnt]
      · rw [if_neg e2, if_neg (fun e3 => e2 (hF k c.n hkP hp e3)), h.at_ k hkP]
  · have e : renC F c = c := by unfold renC; rw [if_neg hk]
    rw [e]
    unfold nuC
    rw [if_neg hk, if_neg hk]
    exact ⟨rfl, h⟩
theorem nuL_of {F : Int → Int} {P : Int → Prop} (hF : InjP F P) : ∀ {s s' : NumS} (h : NuR F P s s') (xs : List Cel) (hx : ∀ c ∈ xs, c.k = 1 → P c.n), (nuL s' (xs.map (renC F))).1 = (nuL s xs).1 ∧ NuR F P (nuL s xs).2 (nuL s' (xs.map (renC F))).2
  | s, s', h, [], _ => ⟨rfl, h⟩
  | s, s', h, c :: xs, hx => by
    obtain ⟨a, b⟩ := nuC_of hF h c (hx c List.mem_cons_self)
    obtain ⟨a2, b2⟩ := nuL_of hF b xs (fun d hd => hx d (List.mem_cons_of_mem _ hd))
    exact ⟨by show (nuC s' (renC F c)).1 :: _ = (nuC s c).1 :: _; rw [a, a2], b2⟩
theorem nuLs_of {F : Int → Int} {P : Int → Prop} (hF : InjP F P) : ∀ {s s' : NumS} (h : NuR F P s s') (cs : List (List Cel)) (hx : ∀ xs ∈ cs, ∀ c ∈ xs, c.k = 1 → P c.n), (nuLs s' (cs.map fun c => c.map (renC F))).1 = (nuLs s cs).1
  | s, s', h, [], _ => rfl
  | s, s', h, c :: cs, hx => by
    obtain ⟨a, b⟩ := nuL_of hF h c (hx c List.mem_cons_self)
    have ih := nuLs_of hF b cs (fun d hd => hx d (List.mem_cons_of_mem _ hd))
    show (nuL s' (c.map (renC F))).1 :: _ = (nuL s c).1 :: _
    rw [a, ih]
/-- numbering by first place does not see an injective renaming -/
theorem nu_same_of {F : Int → Int} {P : Int → Prop} (hF : InjP F P) (h : List Cel) (cs : List (List Cel)) (hh : ∀ c ∈ h, c.k = 1 → P c.n) (hx : ∀ xs ∈ cs, ∀ c ∈ xs, c.k = 1 → P c.n) : (nuL nu0 (h.map (renC F))).1 = (nuL nu0 h).1 ∧ (nuLs (nuL nu0 (h.map (renC F))).2 (cs.map fun c => c.map (renC F))).1 = (nuLs (nuL nu0 h).2 cs).1 := by
  obtain ⟨a, b⟩ := nuL_of hF (s := nu0) (s' := nu0) ⟨rfl, fun n _ => rfl⟩ h hh
  exact ⟨a, nuLs_of hF b cs hx⟩
end Go.Proofs.Ytmmnfkggfnokjaa
