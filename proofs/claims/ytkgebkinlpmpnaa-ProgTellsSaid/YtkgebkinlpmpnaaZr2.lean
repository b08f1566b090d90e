import Derived.Test.YtkgebkinlpmpnaaZr1
import Derived.RegionTactic
import Derived.ChangeAlike
import Derived.Outline
import Derived.Deep.RegionHeld3
import Derived.Shelf.SlSortCmp.WholeK
import Derived.Laws.OwnMore
import Derived.Laws.IdiomCopy
import Derived.Shelf.SlSortCmp.NoneTotal
namespace Go.Proofs.Ytkgebkinlpmpnaa
open Go.RowKit

/-- the program's row of variables is new -/
theorem vars_newP (a : Option Addr) (cap : Nat) (w : World) (xs : List Cel) (hr : Row w a cap xs) (hl : xs.length ≤ 1000000) :
    Calls Try.prog 40 #[.slice a xs.length cap] w fun e w' => ∃ a' cap', e = .returned (.slice a' (varsL xs).length cap') ∧ NewRow (w.heap.size + 1) w' a' cap' (varsL xs) ∧ Below w.heap.size w w' :=
  (vars_own a cap w xs hr hl).mono fun _ w' ⟨a', cap', he, ho, _, hb⟩ => by
    refine ⟨a', cap', he, ?_, hb⟩
    obtain ⟨a2, cap2, e2, hn⟩ := own_newG (α := Int) (xs := varsL xs) ho (crows_ints _ (varsGo_fit xs hr.fit [] (by simp)))
    injection e2 with e3 e4 e5
    subst e3; subst e5
    exact hn

set_option maxHeartbeats 800000 in
theorem known_any (bd : List Int) (f : Int → Bool) (B m n : Nat) (a : Option Addr) (cap : Nat) (w : World) (xs : List Cel) (hr : Row w a cap xs) (hl : xs.length ≤ 1000000)
    (hM : MapIB Try.prog 3 4 w m n f) (hB : w.cell? ⟨B, 0, none⟩ = some (.map (some m))) (HF : Hid (∀ i, f i = decide (i ∈ bd))) :
    Calls Try.prog 39 #[.slice a xs.length cap, .pointer (some ⟨B, 0, none⟩)] w fun e w' => e = .returned (.bool (withinB (varsL xs) bd)) ∧ Below w.heap.size w w' := by
  have hBl := cell_lt hB
  go_enter Try.func39, Try.ntmps39
  go_wp2_with (go_at_call 40; refine (vars_newP _ _ _ _ hr hl).mono ?_; rintro e w1 ⟨a1, cap1, rfl, hn1, hb1⟩)
  have hr1 := hn1.row
  have hx1 := hr1.max
  have hx2 := hr1.le
  have hM1 := hM.below hb1
  have hB1 := keep hB hb1
  obtain ⟨vs, hvs⟩ : ∃ vs, varsL xs = vs := ⟨_, rfl⟩
  rw [hvs] at hr1 hx2
  have HV := mkHid hvs
  rw [hvs]
  clear hn1 hvs
  go_loopw [9] (fun i wr => ∃ k : Nat, k ≤ vs.length ∧ i = .int .i64 k ∧ wr = w1 ∧ Hid ((vs.take k).all (fun n => decide (n ∈ bd)) = true)) (fun i wr => vs.length - (intOf i).toNat)
  case atStart => exact ⟨0, Nat.zero_le _, rfl, rfl, rfl⟩
  case round =>
    obtain ⟨k, hk, rfl, rfl, HS⟩ := hrel
    by_cases hlt : k < vs.length
    · obtain ⟨b, off, rfl, hb, hat⟩ := hr1.cases.resolve_left (fun e => by simp [e] at hlt)
      obtain ⟨c0, hlo, hhi⟩ := int_at hat (Below.refl _ _) hlt
      cases hA : decide (vs[k] ∈ bd) with
      | true =>
        have hlk : (Instr.lookup 62 (.map (some m)) (.int .i64 vs[k]) false).run Try.prog wr = .ok (.bool true) wr := by
          have := hM1.run_lookup (t := 62) Try.underlying3 Try.underlying62 Try.underlying4 (Try.zeroBool _) (wf64 hlo hhi)
          rwa [HF.out, hA] at this
        have HT := mkHid (scan_next (p := fun n => decide (n ∈ bd)) HS.out hlt hA)
        clear hA HS
        go_wp2
        go_round
        case rel => exact ⟨k + 1, by omega, by go_num, (by trivial), HT⟩
        case measure => simp [intOf]; omega
      | false =>
        have hlk : (Instr.lookup 62 (.map (some m)) (.int .i64 vs[k]) false).run Try.prog wr = .ok (.bool false) wr := by
          have := hM1.run_lookup (t := 62) Try.underlying3 Try.underlying62 Try.underlying4 (Try.zeroBool _) (wf64 hlo hhi)
          rwa [HF.out, hA] at this
        have HT : Hid (withinB vs bd = false) := scan_bad (p := fun n => decide (n ∈ bd)) hlt hA
        clear hA HS
        go_wp2
        go_ret
        exact ⟨ret_bool (by rw [HV.out]; exact HT.out.symm), hb1⟩
    · have HT : Hid (withinB vs bd = true) := scan_end HS.out (by omega)
      clear HS
      go_wp2
      go_ret
      exact ⟨ret_bool (by rw [HV.out]; exact HT.out.symm), hb1⟩

theorem within_sub {a bd : List Int} (h : withinB a bd = true) (n : Int) : decide (n ∈ bd ++ a) = decide (n ∈ bd) := by
  by_cases h1 : n ∈ bd
  · simp [h1]
  · have : n ∉ a := fun h2 => by
      have := List.all_eq_true.1 h n h2
      simp at this; exact h1 this
    simp [h1, this]
theorem mem_next {vs bd : List Int} {k : Nat} (hk : k < vs.length) {f : Int → Bool} (h : ∀ i, f i = decide (i ∈ bd ++ vs.take k)) : ∀ i, (if i = vs[k] then true else f i) = decide (i ∈ bd ++ vs.take (k + 1)) := by
  intro i
  rw [List.take_succ_eq_append_getElem hk]
  by_cases e : i = vs[k]
  · simp only [List.mem_append, List.mem_singleton, e, or_true, decide_true, if_true]
  · rw [if_neg e, h]; simp only [List.mem_append, List.mem_singleton, e, or_false]

set_option maxHeartbeats 3200000 in
theorem safep_any (a : Option Addr) (cap : Nat) (a' : Option Addr) (cap' : Nat) (w : World) (hs : List Cel) (bs : List Lt) (hr : Row w a cap hs) (hr' : Row w a' cap' bs) :
    Calls Try.prog 13 #[.agg #[.slice a hs.length cap, .slice a' bs.length cap']] w fun e w' => e = .returned (.bool (safeB ⟨hs, bs⟩)) ∧ Below w.heap.size w w' := by
  have hmf : ∀ (fn : Fn) (first cap : Array Value) (w : World), (Instr.makeFunc fn first cap).run Try.prog w = .ok (.func fn first cap) w := fun _ _ _ _ => rfl
  have hmm := @run_makeMap Try.prog
  have hm := hr'.max
  have hm2 := hr'.le
  have hb0 := (Below.refl w.heap.size w).new (.cells #[.slice a hs.length cap, .slice a' bs.length cap'] 31)
  cases hM : mayB ⟨hs, bs⟩ with
  | false =>
    have HM := mkHid hM
    have HF : Hid (safeB ⟨hs, bs⟩ = false) := by simp [Hid, safeB, hM]
    clear hM
    go_enter Try.func13, Try.ntmps13
    go_wp2_with (go_at_call 38; refine (mayp_any _ _ _ _ _ _ _ (hr.below hb0) (hr'.below hb0)).mono ?_; rintro e w' ⟨rfl, hb1⟩; rw [HM.out])
    go_ret
    exact ⟨ret_bool HF.out.symm, hb0.then hb1⟩
  | true =>
    obtain ⟨h8, hat8, hah⟩ := may_facts hM
    have HM := mkHid hM
    have HE := mkHid (safe_eq hM)
    have HAT := mkHid hat8
    have hah2 := atom_200 hah
    clear hM hat8 hah
    have q0 : (w.alloc (.cells #[.slice a hs.length cap, .slice a' bs.length cap'] 31)).cell? ⟨w.heap.size, 0, none⟩ = some (.slice a hs.length cap) := World.cell?_alloc_at _ _ _ 0 rfl
    have q1 : (w.alloc (.cells #[.slice a hs.length cap, .slice a' bs.length cap'] 31)).cell? ⟨w.heap.size, 1, none⟩ = some (.slice a' bs.length cap') := World.cell?_alloc_at _ _ _ 1 rfl
    go_enter Try.func13, Try.ntmps13
    go_wp2_with (go_at_call 38; refine (mayp_any _ _ _ _ _ _ _ (hr.below hb0) (hr'.below hb0)).mono ?_; rintro e w1 ⟨rfl, hb1⟩; rw [HM.out]; have r0 := keep q0 hb1; have r1 := keep q1 hb1; have hs1 : w.heap.size < w1.heap.size := (by have := hb1.size; simp at this; omega); have hm0 := MapIB.made Try.prog 3 4 w1; clear q0 q1)
    have hbn := ((hb0.then hb1).new (.map #[] 0)).new (.cells #[.map (some w1.heap.size)] 62)
    go_loopw [17] (fun i wr => ∃ (k n : Nat) (bd : List Int) (f : Int → Bool), k ≤ bs.length ∧ n ≤ 200 * k ∧ i = .int .i64 k ∧ bd.length ≤ 200 * k ∧ MapIB Try.prog 3 4 wr w1.heap.size n f ∧ Below w.heap.size w wr ∧ w1.heap.size + 1 < wr.heap.size ∧ wr.cell? ⟨w.heap.size, 0, none⟩ = some (.slice a hs.length cap) ∧ wr.cell? ⟨w1.heap.size + 1, 0, none⟩ = some (.map (some w1.heap.size)) ∧ Hid (∀ i, f i = decide (i ∈ bd)) ∧ Hid (safeGo [] bs = safeGo bd (bs.drop k))) (fun i wr => bs.length - (intOf i).toNat)
    case atStart => exact ⟨0, 0, [], _, Nat.zero_le _, Nat.zero_le _, rfl, by simp, hm0.alloc _, hbn, by simp, by go_simp, by go_simp, by simp [Hid], rfl⟩
    case round =>
      obtain ⟨k, n, bd, f, hk, hn, rfl, hbd, hmap, hbl, hsz, q0, q3, HF, HS⟩ := hrel
      by_cases hlt : k < bs.length
      · obtain ⟨b, off, rfl, hb, hat⟩ := hr'.cases.resolve_left (fun e => by simp [e] at hlt)
        obtain ⟨a1, cap1, c0, c1, hr1⟩ := lt_at hat hbl hlt
        have ht2 := atom_200 (HAT.out _ (List.getElem_mem hlt))
        have hvl := vars_len bs[k].t
        have hst := safe_step (bd := bd) hlt
        have hbx : Below wr.heap.size wr (wr.alloc (.cells #[.bool bs[k].neg, .slice a1 bs[k].t.length cap1] 47)) := (Below.refl _ _).new _
        have s0 := keep q0 hbx
        have s3 := keep q3 hbx
        have hmx := hmap.below hbx
        have hrx := hr1.below hbx
        cases hN : bs[k].neg with
        | false =>
          have HN := mkHid hN
          have HT : Hid (safeGo [] bs = safeGo (bd ++ varsL bs[k].t) (bs.drop (k + 1))) := by rw [Hid, HS.out, hst, hN]; rfl
          rw [hN] at c0 hbx s0 s3 hmx hrx
          clear hN HS hst
          go_wp2_with (go_at_call 40; refine (vars_newP _ _ _ _ hrx (by omega)).mono ?_; rintro e w2 ⟨a2, cap2, rfl, hn2, hb2⟩)
          obtain ⟨vs, hvs⟩ : ∃ vs, varsL bs[k].t = vs := ⟨_, rfl⟩
          rw [hvs] at hn2 hvl HT
          rw [hvs]
          have hrow : Row (hide (some w1.heap.size) w2) a2 cap2 vs := hn2.hide (fun g e => by injection e with e; subst e; simp; omega)
          have hrm := hrow.max
          have hrl := hrow.le
          have u0 := keep s0 hb2
          have u3 := keep s3 hb2
          have hm3 := hmx.below hb2
          have hb3 := (hbl.then hbx).then hb2
          have hz3 : w1.heap.size + 1 < w2.heap.size := by have := hb2.size; have := hbx.size; omega
          clear hvs hn2 hmx hrx hbx s0 s3 hb2
          go_loopw [32] (fun i wr2 => ∃ (j n2 : Nat) (f2 : Int → Bool), j ≤ vs.length ∧ n2 ≤ n + j ∧ i = .int .i64 j ∧ MapIB Try.prog 3 4 wr2 w1.heap.size n2 f2 ∧ Row (hide (some w1.heap.size) wr2) a2 cap2 vs ∧ Below w.heap.size w wr2 ∧ w1.heap.size + 1 < wr2.heap.size ∧ wr2.cell? ⟨w.heap.size, 0, none⟩ = some (.slice a hs.length cap) ∧ wr2.cell? ⟨w1.heap.size + 1, 0, none⟩ = some (.map (some w1.heap.size)) ∧ Hid (∀ i, f2 i = decide (i ∈ bd ++ vs.take j))) (fun i wr2 => vs.length - (intOf i).toNat)
          case atStart => exact ⟨0, n, f, Nat.zero_le _, by omega, rfl, hm3, hrow, hb3, hz3, u0, u3, by simpa using HF⟩
          case round =>
            obtain ⟨j, n2, f2, hj, hn2, rfl, hmj, hrj, hbj, hzj, v0, v3, HJ⟩ := hrel
            by_cases hjl : j < vs.length
            · obtain ⟨b2, off2, rfl, hb2, hat2⟩ := (hrj.keeps (hide_keeps _ _)).cases.resolve_left (fun e => by simp [e] at hjl)
              obtain ⟨d0, hlo, hhi⟩ := int_at hat2 (Below.refl _ _) hjl
              have HJ' := mkHid (mem_next hjl HJ.out)
              clear HJ
              go_wp2_with (at_mapUpdate; refine hmj.wpl_update rfl _ _ _ rfl Try.underlying3 Try.underlying62 Try.underlying4 rfl (by omega) vs[j] rfl (wf64 hlo hhi) true rfl ?_; intro w5 hm5 hg5)
              go_round
              case rel => exact ⟨j + 1, n2 + 1, _, by omega, by omega, by go_num, hm5, hrj.keeps (grown_keeps hg5), hbj.trans (grown_at hg5 hbj.size (by omega)), Nat.lt_of_lt_of_le hzj hg5.size, hg5.cell v0 (by simp; omega), hg5.cell v3 (by simp), HJ'⟩
              case measure => simp [intOf]; omega
            · have HJ' : Hid (∀ i, f2 i = decide (i ∈ bd ++ vs)) := by have := HJ.out; rwa [List.take_of_length_le (by omega)] at this
              clear HJ
              go_wp2
              go_round
              case rel => exact ⟨k + 1, n2, bd ++ vs, f2, by omega, by omega, by go_num, by rw [List.length_append]; omega, hmj, hbj, hzj, v0, v3, HJ', HT⟩
              case measure => simp [intOf]; omega
        | true =>
          rw [hN] at c0 hbx s0 s3 hmx hrx
          cases hW : withinB (varsL bs[k].t) bd with
          | true =>
            have HW := mkHid hW
            have HT : Hid (safeGo [] bs = safeGo (bd ++ varsL bs[k].t) (bs.drop (k + 1))) := by rw [Hid, HS.out, hst, hN, hW]; rfl
            have HF' : Hid (∀ i, f i = decide (i ∈ bd ++ varsL bs[k].t)) := fun i => by rw [HF.out, within_sub hW]
            clear hN HS hst hW
            go_wp2_with (go_at_call 39; refine (known_any bd f _ _ _ _ _ _ _ hrx (by omega) hmx s3 HF).mono ?_; rintro e w2 ⟨rfl, hb2⟩; rw [HW.out])
            go_round
            case rel => exact ⟨k + 1, n, _, f, by omega, by omega, by go_num, by rw [List.length_append]; omega, hmx.below hb2, (hbl.then hbx).then hb2, by have := hb2.size; have := hbx.size; omega, keep s0 hb2, keep s3 hb2, HF', HT⟩
            case measure => simp [intOf]; omega
          | false =>
            have HW := mkHid hW
            have HT : Hid (safeB ⟨hs, bs⟩ = false) := by rw [Hid, HE.out, HS.out, hst, hN, hW]; rfl
            clear hN HS hst hW
            go_wp2_with (go_at_call 39; refine (known_any bd f _ _ _ _ _ _ _ hrx (by omega) hmx s3 HF).mono ?_; rintro e w2 ⟨rfl, hb2⟩; rw [HW.out])
            go_ret
            exact ⟨ret_bool HT.out.symm, (hbl.then hbx).then hb2⟩
      · have HT : Hid (safeB ⟨hs, bs⟩ = withinB (varsL hs) bd) := by rw [Hid, HE.out, HS.out, List.drop_eq_nil_of_le (by omega)]; rfl
        have hrh := hr.below hbl
        clear HS
        go_wp2_with (go_at_call 39; refine (known_any bd f _ _ _ _ _ _ _ hrh (by omega) hmap q3 HF).mono ?_; rintro e w2 ⟨rfl, hb2⟩)
        go_ret
        exact ⟨ret_bool HT.out.symm, hbl.then hb2⟩
end Go.Proofs.Ytkgebkinlpmpnaa
namespace Go.Proofs.Ytkgebkinlpmpnaa
open Go.RowKit

theorem predOf_fit {xs : List Cel} (hf : ∀ c ∈ xs, c.fit) (h0 : 0 < xs.length) : (predOf xs).fit := by
  rw [predOf_at h0]
  have := hf xs[0] (List.getElem_mem h0)
  exact ⟨this.s, this.n1, this.n2⟩
theorem set2 (B : Nat) (w : World) (x y : Value) : Below B w ((w.setCell ⟨B, 0, none⟩ x).setCell ⟨B, 1, none⟩ y) := ((Below.refl B w).setCell (Nat.le_refl _) _).setCell (Nat.le_refl _) _

set_option maxHeartbeats 800000 in
theorem refpred_any (a : Option Addr) (cap : Nat) (w : World) (xs : List Cel) (hr : Row w a cap xs) (h0 : 0 < xs.length) :
    Calls Try.prog 35 #[.slice a xs.length cap] w fun e w' => e = .returned (predOf xs).v ∧ Below w.heap.size w w' := by
  have hm := hr.le
  have hm1 := hr.max
  obtain ⟨b, off, rfl, c0, c1, c2, hf⟩ := cel_zero hr (Below.refl _ _) h0
  have hlt := cell_lt c0
  have HP := mkHid (predOf_at h0)
  have hb0 := (Below.refl w.heap.size w).new (.cells #[.string xs[0].s, .int .i64 xs[0].n] 24)
  have hd : decide ((0 : Int) < (xs.length : Int)) = true := by simp; omega
  have hd2 : decide (0 < xs.length) = true := by simp; omega
  go_enter Try.func35, Try.ntmps35
  go_wp2
  go_region
  go_wp2
  exact bodyPost_ret (v := .agg #[.string xs[0].s, .int .i64 xs[0].n]) (by simp [results, Try.results35, go_sem]) rfl ⟨by rw [HP.out], hb0.drew⟩

set_option maxHeartbeats 800000 in
/-- an atom's predicate -/
theorem predicate_yes (a : Option Addr) (cap : Nat) (w : World) (xs : List Cel) (hr : Row w a cap xs) (hA : atomB xs = true) :
    Calls Try.prog 46 #[.slice a xs.length cap] w fun e w' => e = .returned (.tuple #[(predOf xs).v, .bool true]) ∧ Below w.heap.size w w' := by
  have h0 := atom_ne hA
  have hm := hr.le
  have hm1 := hr.max
  obtain ⟨b, off, rfl, c0, c1, c2, hf⟩ := cel_zero hr (Below.refl _ _) h0
  have HP := mkHid (predOf_at h0)
  have HA := mkHid hA
  have hbz := (Below.refl w.heap.size w).new (.cells #[.string ⟨#[]⟩, .int .i64 0] 24)
  have f0 : (w.alloc (.cells #[.string ⟨#[]⟩, .int .i64 0] 24)).cell? ⟨w.heap.size, 0, none⟩ = some (.string ⟨#[]⟩) := World.cell?_alloc_at _ _ _ 0 rfl
  have f1 : (w.alloc (.cells #[.string ⟨#[]⟩, .int .i64 0] 24)).cell? ⟨w.heap.size, 1, none⟩ = some (.int .i64 0) := World.cell?_alloc_at _ _ _ 1 rfl
  have z0 : (w.alloc (.cells #[.string ⟨#[]⟩, .int .i64 0] 24)).frozen? ⟨w.heap.size, 0, none⟩ = false := by simp [go_sem]
  have z1 : (w.alloc (.cells #[.string ⟨#[]⟩, .int .i64 0] 24)).frozen? ⟨w.heap.size, 1, none⟩ = false := by simp [go_sem]
  clear hA
  have hd : decide ((0 : Int) < (xs.length : Int)) = true := by simp; omega
  have hd2 : decide (0 < xs.length) = true := by simp; omega
  go_enter Try.func46, Try.ntmps46
  go_wp2_with (go_at_call 59; refine (atom_any _ _ _ _ (hr.below hbz)).mono ?_; rintro e w2 ⟨rfl, hb2⟩; rw [HA.out]; have d1 := keep (keep c1 hbz) hb2; have d2 := keep (keep c2 hbz) hb2; have g0 := keep f0 hb2; have g1 := keep f1 hb2; have y0 : w2.frozen? ⟨w.heap.size, 0, none⟩ = false := (hb2.frozen (p := ⟨w.heap.size, 0, none⟩) (by simp)).trans z0; have y1 : w2.frozen? ⟨w.heap.size, 1, none⟩ = false := (hb2.frozen (p := ⟨w.heap.size, 1, none⟩) (by simp)).trans z1; have hz : w.heap.size < w2.heap.size := (by have := hb2.size; simp at this; omega); clear c0 c1 c2 f0 f1 z0 z1)
  go_region
  go_wp2
  exact bodyPost_ret (v := .tuple #[.agg #[.string xs[0].s, .int .i64 xs[0].n], .bool true]) (by simp [results, Try.results46, go_sem, y0, y1, g0, g1, hz]) rfl ⟨by rw [HP.out], ((hbz.then hb2).trans (set2 _ _ _ _)).drew⟩
end Go.Proofs.Ytkgebkinlpmpnaa
namespace Go.Proofs.Ytkgebkinlpmpnaa
open Go.RowKit

theorem Pd.eq_iff (x y : Pd) : x = y ↔ x.s = y.s ∧ x.n = y.n := by
  cases x; cases y; simp
theorem Lk.eq_iff (x y : Lk) : x = y ↔ x.f = y.f ∧ x.t = y.t ∧ x.neg = y.neg := by
  cases x; cases y; simp
set_option maxHeartbeats 400000 in
theorem run_eql_pd (x y : Pd) (w : World) : (binOp .eql 24 (.agg #[.string x.s, .int .i64 x.n]) (.agg #[.string y.s, .int .i64 y.n])).run Try.prog w = .ok (.bool (decide (x = y))) w := by
  by_cases h2 : x.s = y.s
  · by_cases h3 : x.n = y.n
    · go_simp
      exact (Pd.eq_iff x y).2 ⟨h2, h3⟩
    · have h4 : ¬ x = y := fun e => h3 (by rw [e])
      have h5 : (x.n == y.n) = false := by simp [h3]
      go_simp
  · have h4 : ¬ x = y := fun e => h2 (by rw [e])
    have h5 : (x.s.toList == y.s.toList) = false := by simp [toList_inj, h2]
    go_simp
set_option maxHeartbeats 400000 in
theorem run_neq_pd (x y : Pd) (w : World) : (binOp .neq 24 (.agg #[.string x.s, .int .i64 x.n]) (.agg #[.string y.s, .int .i64 y.n])).run Try.prog w = .ok (.bool (!decide (x = y))) w := by
  by_cases h2 : x.s = y.s
  · by_cases h3 : x.n = y.n
    · go_simp
      exact (Pd.eq_iff x y).2 ⟨h2, h3⟩
    · have h4 : ¬ x = y := fun e => h3 (by rw [e])
      have h5 : (x.n == y.n) = false := by simp [h3]
      go_simp
  · have h4 : ¬ x = y := fun e => h2 (by rw [e])
    have h5 : (x.s.toList == y.s.toList) = false := by simp [toList_inj, h2]
    go_simp
set_option maxHeartbeats 400000 in
theorem run_eql_lk (x y : Lk) (w : World) : (binOp .eql 57 (.agg #[.int .i64 x.f, .int .i64 x.t, .bool x.neg]) (.agg #[.int .i64 y.f, .int .i64 y.t, .bool y.neg])).run Try.prog w = .ok (.bool (decide (x = y))) w := by
  by_cases h1 : x.f = y.f
  · by_cases h2 : x.t = y.t
    · by_cases h3 : x.neg = y.neg
      · go_simp
        exact (Lk.eq_iff x y).2 ⟨h1, h2, h3⟩
      · have h4 : ¬ x = y := fun e => h3 (by rw [e])
        have h5 : (x.neg == y.neg) = false := by simp [h3]
        go_simp
    · have h4 : ¬ x = y := fun e => h2 (by rw [e])
      have h5 : (x.t == y.t) = false := by simp [h2]
      go_simp
  · have h4 : ¬ x = y := fun e => h1 (by rw [e])
    have h5 : (x.f == y.f) = false := by simp [h1]
    go_simp
set_option maxHeartbeats 400000 in
theorem run_neq_lk (x y : Lk) (w : World) : (binOp .neq 57 (.agg #[.int .i64 x.f, .int .i64 x.t, .bool x.neg]) (.agg #[.int .i64 y.f, .int .i64 y.t, .bool y.neg])).run Try.prog w = .ok (.bool (!decide (x = y))) w := by
  by_cases h1 : x.f = y.f
  · by_cases h2 : x.t = y.t
    · by_cases h3 : x.neg = y.neg
      · go_simp
        exact (Lk.eq_iff x y).2 ⟨h1, h2, h3⟩
      · have h4 : ¬ x = y := fun e => h3 (by rw [e])
        have h5 : (x.neg == y.neg) = false := by simp [h3]
        go_simp
    · have h4 : ¬ x = y := fun e => h2 (by rw [e])
      have h5 : (x.t == y.t) = false := by simp [h2]
      go_simp
  · have h4 : ¬ x = y := fun e => h1 (by rw [e])
    have h5 : (x.f == y.f) = false := by simp [h1]
    go_simp

theorem Try.infoPred : (Try.prog.info? 24).map (fun i => (i.zero, i.size, i.bytes)) = some (some (.agg #[.string ⟨#[]⟩, .int .i64 0]), 2, 24) := by kernel_rfl
theorem Try.infoLink : (Try.prog.info? 57).map (fun i => (i.zero, i.size, i.bytes)) = some (some (.agg #[.int .i64 0, .int .i64 0, .bool false]), 3, 24) := by kernel_rfl
theorem Try.infoClause : (Try.prog.info? 31).map (fun i => (i.zero, i.size, i.bytes)) = some (some (.agg #[.slice none 0 0, .slice none 0 0]), 2, 48) := by kernel_rfl
theorem Try.infoLit : (Try.prog.info? 47).map (fun i => (i.zero, i.size, i.bytes)) = some (some (.agg #[.bool false, .slice none 0 0]), 2, 32) := by kernel_rfl
end Go.Proofs.Ytkgebkinlpmpnaa
namespace Go.Proofs.Ytkgebkinlpmpnaa
open Go.RowKit

theorem drewN_below (w : World) (n : Nat) : Below w.heap.size w (w.drewN n) := ⟨rfl, rfl, rfl, Nat.le_refl _, fun _ _ => rfl⟩
theorem put_step {l : List Pd} {p : Pd} {k : Nat} (hk : k < l.length) : putP (l.drop k) p = if pdLt l[k] p then l[k] :: putP (l.drop (k + 1)) p else if l[k] = p then p :: l.drop (k + 1) else p :: l.drop k := by
  rw [List.drop_eq_getElem_cons hk]; rfl
theorem put_end {l : List Pd} {p : Pd} {k : Nat} (hk : l.length ≤ k) : putP (l.drop k) p = [p] := by
  rw [List.drop_eq_nil_of_le hk]; rfl
theorem pd_lt_yes {x p : Pd} (h : pdLt x p = true) : Op.bytesLess x.s.toList p.s.toList = true ∨ Op.bytesLess x.s.toList p.s.toList = false ∧ x.s = p.s ∧ x.n < p.n := by
  unfold pdLt at h
  cases h1 : Op.bytesLess x.s.toList p.s.toList with
  | true => exact .inl rfl
  | false => rw [h1] at h; simp at h; exact .inr ⟨rfl, h.1, h.2⟩
theorem pd_lt_no {x p : Pd} (h : pdLt x p = false) : Op.bytesLess x.s.toList p.s.toList = false ∧ (¬ x.s = p.s ∨ x.s = p.s ∧ ¬ x.n < p.n) := by
  unfold pdLt at h
  simp at h
  refine ⟨h.1, ?_⟩
  by_cases e : x.s = p.s
  · exact .inr ⟨e, by have := h.2 e; omega⟩
  · exact .inl e

/-- Row behind a row's place -/
theorem row_from {α : Type} [Rep α] {w : World} {b off cap : Nat} {xs : List α} (h : Row w (some ⟨b, off, none⟩) cap xs) {i : Nat} (hi : i ≤ xs.length) :
    Row w (some ⟨b, off + i * Rep.sz α, none⟩) (cap - i) (xs.drop i) := by
  refine ⟨by have := h.le; rw [List.length_drop]; omega, by have := h.max; omega, (fun e => by cases e), fun k x hk => ?_⟩
  rw [List.getElem?_drop] at hk
  obtain ⟨b', off', e, hE⟩ := h.at_ (i + k) x hk
  simp at e
  obtain ⟨rfl, rfl⟩ := e
  exact ⟨b, off + i * Rep.sz α, rfl, by rw [Nat.add_assoc, ← Nat.add_mul]; exact hE⟩

/-- append of all of a slice whose length is spelled otherwise -/
theorem wpList_accsN {α : Type} [RepC α] {P : Program} {w : World} {ops : Array Oper} {rest : List Oper} {o : Oper} {a : Act} {Q : Exit → Act → World → Prop} (hgd : o.guard = none) (s x : Operand) (t : TypeId)
    (ho : o.op = .call { callee := .builtin .append, args := #[s, x], argTypes := #[t, t] })
    (B e bytes : Nat) (z : Value) (ht : P.underlying t = some (.slice e)) (hinfo : (P.info? e).map (fun i => (i.zero, i.size, i.bytes)) = some (some z, Rep.sz α, bytes))
    (hzs : z.cells.size = Rep.sz α) (hby : bytes ≤ 1000)
    (v : Value) (acc : List α) (hacc : AccInv B e acc v w) (hs : a.eval s = v) (sa : Option Addr) (n cap : Nat) (hx : a.eval x = .slice sa n cap) (ys : List α) (hn : n = ys.length) (hr : Row (hide v.ownBlock w) sa cap ys)
    (hmax : acc.length + ys.length ≤ 1000000000) (hB : B ≤ w.heap.size)
    (h : ∀ v' w', AccInv B e (acc ++ ys) v' w' → Below B w w' → wpList P ops Q rest (a.put o.dst v') w') : wpList P ops Q (o :: rest) a w := by
  subst hn
  exact wpList_accs hgd s x t ho B e bytes z ht hinfo hzs hby v acc hacc hs sa cap ys hr hx hmax hB h
theorem drewN_hide (w : World) (n : Nat) (r : Option Nat) : Keeps (hide r w) (hide r (w.drewN n)) := below_hide (drewN_below w n) r
theorem keeps_hideB {B : Nat} {w0 w : World} {r : Option Nat} (h0 : w0.heap.size ≤ B) (hb : Below w0.heap.size w0 w) (hr : ∀ g, r = some g → B ≤ g) : Keeps w0 (hide r w) := by
  cases r with
  | none => exact Keeps.of hb
  | some g => exact fresh_keeps (Keeps.of hb) (Nat.le_trans h0 (hr g rfl))

set_option maxHeartbeats 3200000 in
theorem put_any (a : Option Addr) (cap : Nat) (w : World) (l : List Pd) (p : Pd) (hr : Row w a cap l) (hf : p.fit) (hl : l.length ≤ 1000000) :
    Calls Try.prog 53 #[.slice a l.length cap, .agg #[.string p.s, .int .i64 p.n]] w fun e w' => ∃ v, e = .returned v ∧ AccInv (w.heap.size + 1) 24 (putP l p) v w' ∧ Below w.heap.size w w' := by
  have hm := hr.max
  have hm2 := hr.le
  have hm0 := AccInv.made (α := Pd) (B := w.heap.size + 1) (e := 24) (T := 24) (w.alloc (.cells #[.string p.s, .int .i64 p.n] 24)) (by simp) rfl
  have hbn := ((Below.refl w.heap.size w).new (.cells #[.string p.s, .int .i64 p.n] 24)).new (.cells #[] 24)
  go_enter Try.func53, Try.ntmps53
  go_wp2
  go_loopw [5, 6] (fun v i wr => ∃ (k : Nat) (T : List Pd), k ≤ l.length ∧ T.length ≤ k ∧ i = .int .i64 k ∧ AccInv (w.heap.size + 1) 24 T v wr ∧ Below w.heap.size w wr ∧ w.heap.size < wr.heap.size ∧ wr.cell? ⟨w.heap.size, 0, none⟩ = some (.string p.s) ∧ wr.cell? ⟨w.heap.size, 1, none⟩ = some (.int .i64 p.n) ∧ Hid (putP l p = T ++ putP (l.drop k) p)) (fun v i wr => l.length - (intOf i).toNat)
  case atStart => exact ⟨0, [], Nat.zero_le _, Nat.zero_le _, rfl, by simpa using hm0, hbn, by simp; omega, by go_simp, by go_simp, by simp [Hid]⟩
  case round =>
    obtain ⟨k, T, hk, htk, rfl, hacc, hbl, hsz, q0, q1, HS⟩ := hrel
    obtain ⟨ab, capb, rfl, hrow⟩ := hacc.row
    by_cases hlt : k < l.length
    · obtain ⟨b, off, rfl, hb, hat⟩ := hr.cases.resolve_left (fun e => by simp [e] at hlt)
      obtain ⟨c0, c1, hfk⟩ := pd_at hat hbl hlt
      have n1 := hfk.n1
      have n2 := hfk.n2
      have n3 := hf.n1
      have n4 := hf.n2
      have hst := put_step (p := p) hlt
      have dk : decide ((k : Int) < (l.length : Int)) = true := by simp; omega
      have dk2 : decide (k < l.length) = true := by simp; omega
      have hne := fun w => run_eql_pd l[k] p w
      cases hL : pdLt l[k] p with
      | true =>
        have HT : Hid (putP l p = T ++ [l[k]] ++ putP (l.drop (k + 1)) p) := by
          rw [Hid, HS.out, hst, if_pos hL, List.append_assoc]; rfl
        rcases pd_lt_yes hL with h1 | ⟨h1, h2, h3⟩
        · clear HS hst hL hne
          go_wp2
          go_quiet (fail)
          have hbd := drewN_below wr nq
          have hacc1 := hacc.below hbd
          have hz1 : w.heap.size < (wr.drewN nq).heap.size := hsz
          go_wp2_with (at_builtin; refine wpList_acc (α := Pd) rfl _ _ 36 rfl (w.heap.size + 1) 24 24 _ Try.underlying36 Try.infoPred rfl (by decide) _ T hacc1 (by rfl) _ #[.string l[k].s, .int .i64 l[k].n] l[k] ⟨rfl, hfk⟩ (by rfl) (by omega) hz1 ?_; intro v' w3 hacc3 hb3)
          go_round
          case rel => exact ⟨k + 1, T ++ [l[k]], by omega, by simp; omega, by go_num, hacc3, (hbl.then hbd).trans (hb3.mono (by omega)), Nat.lt_of_lt_of_le hsz hb3.size, keepB hb3 (keep q0 hbd) (by omega), keepB hb3 (keep q1 hbd) (by omega), HT⟩
          case measure => simp [intOf]; omega
        · have h2' : (l[k].s.toList == p.s.toList) = true := by rw [h2]; simp
          have h3' : decide (l[k].n < p.n) = true := by simp; omega
          clear HS hst hL hne h2
          go_wp2
          go_quiet (fail)
          have hbd := drewN_below wr nq
          have hacc1 := hacc.below hbd
          have hz1 : w.heap.size < (wr.drewN nq).heap.size := hsz
          go_wp2_with (at_builtin; refine wpList_acc (α := Pd) rfl _ _ 36 rfl (w.heap.size + 1) 24 24 _ Try.underlying36 Try.infoPred rfl (by decide) _ T hacc1 (by rfl) _ #[.string l[k].s, .int .i64 l[k].n] l[k] ⟨rfl, hfk⟩ (by rfl) (by omega) hz1 ?_; intro v' w3 hacc3 hb3)
          go_round
          case rel => exact ⟨k + 1, T ++ [l[k]], by omega, by simp; omega, by go_num, hacc3, (hbl.then hbd).trans (hb3.mono (by omega)), Nat.lt_of_lt_of_le hsz hb3.size, keepB hb3 (keep q0 hbd) (by omega), keepB hb3 (keep q1 hbd) (by omega), HT⟩
          case measure => simp [intOf]; omega
      | false =>
        obtain ⟨h1, h2⟩ := pd_lt_no hL
        by_cases he : l[k] = p
        · have HT : Hid (putP l p = T ++ [p] ++ l.drop (k + 1)) := by
            rw [Hid, HS.out, hst, if_neg (by rw [hL]; simp), if_pos he, List.append_assoc]; rfl
          have h2' : (l[k].s.toList == p.s.toList) = true := by rw [he]; simp
          have h3' : decide (l[k].n < p.n) = false := by rw [he]; simp
          rw [decide_eq_true he] at hne
          clear HS hst hL h2 he
          go_wp2
          go_quiet (fail)
          have hbd := drewN_below wr nq
          have hacc1 := hacc.below hbd
          have hz1 : w.heap.size < (wr.drewN nq).heap.size := hsz
          go_wp2_with (at_builtin; refine wpList_acc (α := Pd) rfl _ _ 36 rfl (w.heap.size + 1) 24 24 _ Try.underlying36 Try.infoPred rfl (by decide) _ T hacc1 (by rfl) _ #[.string p.s, .int .i64 p.n] p ⟨rfl, hf⟩ (by rfl) (by omega) hz1 ?_; intro v' w3 hacc3 hb3; have e0 := keepB hb3 (keep c0 hbd) (by omega); have e1 := keepB hb3 (keep c1 hbd) (by omega); have p0 := keepB hb3 (keep q0 hbd) (by omega); have p1 := keepB hb3 (keep q1 hbd) (by omega))
          go_quiet (fail)
          have hbd2 := drewN_below w3 nq
          have hacc4 := hacc3.below hbd2
          have hb5 : Below w.heap.size w w3 := (hbl.then hbd).trans (hb3.mono (by omega))
          have hz4 : w.heap.size + 1 ≤ (w3.drewN nq).heap.size := Nat.lt_of_lt_of_le hsz hb3.size
          have hrr : Row (hide v'.ownBlock (w3.drewN nq)) (some ⟨b, off, none⟩) cap l := hr.keeps (keeps_hideB (Nat.le_succ _) (hb5.then hbd2) (fun g hg => (hacc4.lt g hg).1))
          by_cases hcap : cap = k + 1
          · have hrd : Row (hide v'.ownBlock (w3.drewN nq)) (some ⟨b, off, none⟩) 0 (l.drop (k + 1)) := by
              rw [List.drop_eq_nil_of_le (by omega)]; exact Row.empty _ _ _ (by omega) (fun e => by cases e)
            have hn0 : l.length - (k + 1) = 0 := by omega
            have HN0 := mkHid hn0
            subst hcap
            clear hn0
            go_wp2_with (at_builtin; refine wpList_accsN (α := Pd) rfl _ _ 36 rfl (w.heap.size + 1) 24 24 _ Try.underlying36 Try.infoPred rfl (by decide) _ (T ++ [p]) hacc4 (by rfl) _ _ _ (by rfl) (l.drop (k + 1)) (by simp; omega) hrd (by simp; omega) hz4 ?_; intro v5 w5 hacc5 hb5')
            go_ret
            exact ⟨_, rfl, by rw [HT.out]; exact hacc5, (hb5.then hbd2).trans (hb5'.mono (by omega))⟩
          · have hrd := row_from hrr (i := k + 1) hlt
            have hcl : k + 1 < cap := by omega
            clear hcap
            go_wp2_with (at_builtin; refine wpList_accsN (α := Pd) rfl _ _ 36 rfl (w.heap.size + 1) 24 24 _ Try.underlying36 Try.infoPred rfl (by decide) _ (T ++ [p]) hacc4 (by rfl) _ _ _ (by rfl) (l.drop (k + 1)) (by simp) hrd (by simp; omega) hz4 ?_; intro v5 w5 hacc5 hb5')
            go_ret
            exact ⟨_, rfl, by rw [HT.out]; exact hacc5, (hb5.then hbd2).trans (hb5'.mono (by omega))⟩
        · have HT : Hid (putP l p = T ++ [p] ++ l.drop k) := by
            rw [Hid, HS.out, hst, if_neg (by rw [hL]; simp), if_neg he, List.append_assoc]; rfl
          rw [decide_eq_false he] at hne
          have hkc : k < cap := by omega
          rcases h2 with h2 | ⟨h2, h3⟩
          · have h2' : (l[k].s.toList == p.s.toList) = false := by simp [toList_inj, h2]
            clear HS hst hL h2 he
            go_wp2
            go_quiet (fail)
            have hbd := drewN_below wr nq
            have hacc1 := hacc.below hbd
            have hz1 : w.heap.size < (wr.drewN nq).heap.size := hsz
            go_wp2_with (at_builtin; refine wpList_acc (α := Pd) rfl _ _ 36 rfl (w.heap.size + 1) 24 24 _ Try.underlying36 Try.infoPred rfl (by decide) _ T hacc1 (by rfl) _ #[.string p.s, .int .i64 p.n] p ⟨rfl, hf⟩ (by rfl) (by omega) hz1 ?_; intro v' w3 hacc3 hb3; have e0 := keepB hb3 (keep c0 hbd) (by omega); have e1 := keepB hb3 (keep c1 hbd) (by omega); have p0 := keepB hb3 (keep q0 hbd) (by omega); have p1 := keepB hb3 (keep q1 hbd) (by omega))
            go_quiet (fail)
            have hbd2 := drewN_below w3 nq
            have hacc4 := hacc3.below hbd2
            have hb5 : Below w.heap.size w w3 := (hbl.then hbd).trans (hb3.mono (by omega))
            have hz4 : w.heap.size + 1 ≤ (w3.drewN nq).heap.size := Nat.lt_of_lt_of_le hsz hb3.size
            have hrr : Row (hide v'.ownBlock (w3.drewN nq)) (some ⟨b, off, none⟩) cap l := hr.keeps (keeps_hideB (Nat.le_succ _) (hb5.then hbd2) (fun g hg => (hacc4.lt g hg).1))
            have hrd := row_from hrr (i := k) hk
            go_wp2_with (at_builtin; refine wpList_accsN (α := Pd) rfl _ _ 36 rfl (w.heap.size + 1) 24 24 _ Try.underlying36 Try.infoPred rfl (by decide) _ (T ++ [p]) hacc4 (by rfl) _ _ _ (by rfl) (l.drop k) (by simp) hrd (by simp; omega) hz4 ?_; intro v5 w5 hacc5 hb5')
            go_ret
            exact ⟨_, rfl, by rw [HT.out]; exact hacc5, (hb5.then hbd2).trans (hb5'.mono (by omega))⟩
          · have h2' : (l[k].s.toList == p.s.toList) = true := by rw [h2]; simp
            have h3' : decide (l[k].n < p.n) = false := by simp; omega
            clear HS hst hL h2 he
            go_wp2
            go_quiet (fail)
            have hbd := drewN_below wr nq
            have hacc1 := hacc.below hbd
            have hz1 : w.heap.size < (wr.drewN nq).heap.size := hsz
            go_wp2_with (at_builtin; refine wpList_acc (α := Pd) rfl _ _ 36 rfl (w.heap.size + 1) 24 24 _ Try.underlying36 Try.infoPred rfl (by decide) _ T hacc1 (by rfl) _ #[.string p.s, .int .i64 p.n] p ⟨rfl, hf⟩ (by rfl) (by omega) hz1 ?_; intro v' w3 hacc3 hb3; have e0 := keepB hb3 (keep c0 hbd) (by omega); have e1 := keepB hb3 (keep c1 hbd) (by omega); have p0 := keepB hb3 (keep q0 hbd) (by omega); have p1 := keepB hb3 (keep q1 hbd) (by omega))
            go_quiet (fail)
            have hbd2 := drewN_below w3 nq
            have hacc4 := hacc3.below hbd2
            have hb5 : Below w.heap.size w w3 := (hbl.then hbd).trans (hb3.mono (by omega))
            have hz4 : w.heap.size + 1 ≤ (w3.drewN nq).heap.size := Nat.lt_of_lt_of_le hsz hb3.size
            have hrr : Row (hide v'.ownBlock (w3.drewN nq)) (some ⟨b, off, none⟩) cap l := hr.keeps (keeps_hideB (Nat.le_succ _) (hb5.then hbd2) (fun g hg => (hacc4.lt g hg).1))
            have hrd := row_from hrr (i := k) hk
            go_wp2_with (at_builtin; refine wpList_accsN (α := Pd) rfl _ _ 36 rfl (w.heap.size + 1) 24 24 _ Try.underlying36 Try.infoPred rfl (by decide) _ (T ++ [p]) hacc4 (by rfl) _ _ _ (by rfl) (l.drop k) (by simp) hrd (by simp; omega) hz4 ?_; intro v5 w5 hacc5 hb5')
            go_ret
            exact ⟨_, rfl, by rw [HT.out]; exact hacc5, (hb5.then hbd2).trans (hb5'.mono (by omega))⟩
    · obtain rfl : k = l.length := by omega
      have HT : Hid (putP l p = T ++ [p] ++ []) := by
        rw [Hid, HS.out, put_end (Nat.le_refl _), List.append_nil]
      have dk : decide ((l.length : Int) < (l.length : Int)) = false := by simp
      clear HS hlt
      have hcc : a = none ∧ cap = 0 ∨ ∃ ad, a = some ad ∧ (l.length = cap ∨ l.length < cap) := by
        cases ha : a with
        | none => exact .inl ⟨rfl, hr.nil ha⟩
        | some ad => exact .inr ⟨ad, rfl, by omega⟩
      rcases hcc with ⟨rfl, rfl⟩ | ⟨ad, rfl, hcc | hcc⟩
      · have hl0 : l.length ≤ 0 := by omega
        go_wp2
        go_quiet (fail)
        have hbd := drewN_below wr nq
        have hacc1 := hacc.below hbd
        have hz1 : w.heap.size < (wr.drewN nq).heap.size := hsz
        go_wp2_with (at_builtin; refine wpList_acc (α := Pd) rfl _ _ 36 rfl (w.heap.size + 1) 24 24 _ Try.underlying36 Try.infoPred rfl (by decide) _ T hacc1 (by rfl) _ #[.string p.s, .int .i64 p.n] p ⟨rfl, hf⟩ (by rfl) (by omega) hz1 ?_; intro v' w3 hacc3 hb3)
        go_quiet (fail)
        have hbd2 := drewN_below w3 nq
        have hacc4 := hacc3.below hbd2
        have hb5 : Below w.heap.size w w3 := (hbl.then hbd).trans (hb3.mono (by omega))
        have hz4 : w.heap.size + 1 ≤ (w3.drewN nq).heap.size := Nat.lt_of_lt_of_le hsz hb3.size
        go_wp2_with (at_builtin; refine wpList_accsN (α := Pd) rfl _ _ 36 rfl (w.heap.size + 1) 24 24 _ Try.underlying36 Try.infoPred rfl (by decide) _ (T ++ [p]) hacc4 (by rfl) _ _ _ (by rfl) [] (by simp) (Row.empty _ _ _ (by omega) (fun _ => rfl)) (by simp; omega) hz4 ?_; intro v5 w5 hacc5 hb5')
        go_ret
        exact ⟨_, rfl, by rw [HT.out]; exact hacc5, (hb5.then hbd2).trans (hb5'.mono (by omega))⟩
      · subst hcc
        go_wp2
        go_quiet (fail)
        have hbd := drewN_below wr nq
        have hacc1 := hacc.below hbd
        have hz1 : w.heap.size < (wr.drewN nq).heap.size := hsz
        go_wp2_with (at_builtin; refine wpList_acc (α := Pd) rfl _ _ 36 rfl (w.heap.size + 1) 24 24 _ Try.underlying36 Try.infoPred rfl (by decide) _ T hacc1 (by rfl) _ #[.string p.s, .int .i64 p.n] p ⟨rfl, hf⟩ (by rfl) (by omega) hz1 ?_; intro v' w3 hacc3 hb3)
        go_quiet (fail)
        have hbd2 := drewN_below w3 nq
        have hacc4 := hacc3.below hbd2
        have hb5 : Below w.heap.size w w3 := (hbl.then hbd).trans (hb3.mono (by omega))
        have hz4 : w.heap.size + 1 ≤ (w3.drewN nq).heap.size := Nat.lt_of_lt_of_le hsz hb3.size
        go_wp2_with (at_builtin; refine wpList_accsN (α := Pd) rfl _ _ 36 rfl (w.heap.size + 1) 24 24 _ Try.underlying36 Try.infoPred rfl (by decide) _ (T ++ [p]) hacc4 (by rfl) _ _ _ (by rfl) [] (by simp) (Row.empty _ _ _ (by omega) (fun e => by cases e)) (by simp; omega) hz4 ?_; intro v5 w5 hacc5 hb5')
        go_ret
        exact ⟨_, rfl, by rw [HT.out]; exact hacc5, (hb5.then hbd2).trans (hb5'.mono (by omega))⟩
      · go_wp2
        go_quiet (fail)
        have hbd := drewN_below wr nq
        have hacc1 := hacc.below hbd
        have hz1 : w.heap.size < (wr.drewN nq).heap.size := hsz
        go_wp2_with (at_builtin; refine wpList_acc (α := Pd) rfl _ _ 36 rfl (w.heap.size + 1) 24 24 _ Try.underlying36 Try.infoPred rfl (by decide) _ T hacc1 (by rfl) _ #[.string p.s, .int .i64 p.n] p ⟨rfl, hf⟩ (by rfl) (by omega) hz1 ?_; intro v' w3 hacc3 hb3)
        go_quiet (fail)
        have hbd2 := drewN_below w3 nq
        have hacc4 := hacc3.below hbd2
        have hb5 : Below w.heap.size w w3 := (hbl.then hbd).trans (hb3.mono (by omega))
        have hz4 : w.heap.size + 1 ≤ (w3.drewN nq).heap.size := Nat.lt_of_lt_of_le hsz hb3.size
        go_wp2_with (at_builtin; refine wpList_accsN (α := Pd) rfl _ _ 36 rfl (w.heap.size + 1) 24 24 _ Try.underlying36 Try.infoPred rfl (by decide) _ (T ++ [p]) hacc4 (by rfl) _ _ _ (by rfl) [] (by simp) (Row.empty _ _ _ (by omega) (fun e => by cases e)) (by simp; omega) hz4 ?_; intro v5 w5 hacc5 hb5')
        go_ret
        exact ⟨_, rfl, by rw [HT.out]; exact hacc5, (hb5.then hbd2).trans (hb5'.mono (by omega))⟩
end Go.Proofs.Ytkgebkinlpmpnaa
namespace Go.Proofs.Ytkgebkinlpmpnaa
open Go.RowKit

theorem AccInv.mono {α : Type} [RepC α] {B B' e : Nat} {acc : List α} {v : Value} {w : World} (h : AccInv B e acc v w) (hB : B' ≤ B) : AccInv B' e acc v w := by
  obtain ⟨vs, ho, hc⟩ := h.ex
  refine ⟨vs, ⟨ho.1, ?_⟩, hc⟩
  rcases ho.2 with h | ⟨g, cap, cur, e1, hb, rest⟩
  · exact .inl h
  · exact .inr ⟨g, cap, cur, e1, Nat.le_trans hB hb, rest⟩
theorem putP_len (l : List Pd) (p : Pd) : (putP l p).length ≤ l.length + 1 := by
  induction l with
  | nil => simp [putP]
  | cons q l ih =>
    unfold putP
    split
    · simp; omega
    · split <;> simp
theorem allP_step {m : List Cl} {k : Nat} (hk : k < m.length) : allP (m.drop k) = predOf m[k].h :: ((m[k].b.map fun x => predOf x.t) ++ allP (m.drop (k + 1))) := by
  rw [List.drop_eq_getElem_cons hk]; rfl
theorem bP_step {bs : List Lt} {j : Nat} (hj : j < bs.length) (r : List Pd) : ((bs.drop j).map fun x => predOf x.t) ++ r = predOf bs[j].t :: (((bs.drop (j + 1)).map fun x => predOf x.t) ++ r) := by
  rw [List.drop_eq_getElem_cons hj]; rfl
/-- clauses that may be -/
def Mays (m : List Cl) : Prop := ∀ c ∈ m, mayB c = true
theorem Mays.at_ {m : List Cl} (h : Mays m) {k : Nat} (hk : k < m.length) : m[k].b.length ≤ 8 ∧ (∀ x ∈ m[k].b, atomB x.t = true) ∧ atomB m[k].h = true :=
  may_facts (hs := m[k].h) (bs := m[k].b) (h _ (List.getElem_mem hk))

set_option maxHeartbeats 1600000 in
theorem refpreds_any (a : Option Addr) (cap : Nat) (w : World) (m : List Cl) (hr : Row w a cap m) (HM : Hid (Mays m)) (hl : m.length ≤ 1000) :
    Calls Try.prog 21 #[.slice a m.length cap] w fun e w' => ∃ v, e = .returned v ∧ AccInv w.heap.size 24 (predsL m) v w' ∧ Below w.heap.size w w' := by
  have hm := hr.max
  have hm2 := hr.le
  have hm0 := AccInv.made (α := Pd) (B := w.heap.size) (e := 24) (T := 24) w (Nat.le_refl _) rfl
  have hbn := (Below.refl w.heap.size w).new (.cells #[] 24)
  go_enter Try.func21, Try.ntmps21
  go_wp2
  go_loopw [3, 4, 5] (fun v i _ wr => ∃ (k : Nat) (A : List Pd), k ≤ m.length ∧ A.length ≤ 9 * k ∧ i = .int .i64 k ∧ AccInv w.heap.size 24 A v wr ∧ Below w.heap.size w wr ∧ Hid (predsL m = (allP (m.drop k)).foldl putP A)) (fun v i _ wr => m.length - (intOf i).toNat)
  case atStart => exact ⟨0, [], Nat.zero_le _, by simp, rfl, hm0, hbn, rfl⟩
  case round =>
    obtain ⟨k, A, hk, hA, rfl, hacc, hbl, HS⟩ := hrel
    obtain ⟨ab, capb, rfl, hrow⟩ := hacc.row
    by_cases hlt : k < m.length
    · obtain ⟨b, off, rfl, hb, hat⟩ := hr.cases.resolve_left (fun e => by simp [e] at hlt)
      obtain ⟨a1, cap1, a2, cap2, cw0, cw1, hr1, hr2⟩ := cl_at hat (Below.refl _ _) hlt
      have c0 := keep cw0 hbl
      obtain ⟨h8, hat8, hah⟩ := HM.out.at_ hlt
      have h0 := atom_ne hah
      have HF := mkHid (predOf_fit hr1.fit h0)
      have HAT := mkHid hat8
      have HS1 : Hid (predsL m = (((m[k].b.drop 0).map fun x => predOf x.t) ++ allP (m.drop (k + 1))).foldl putP (putP A (predOf m[k].h))) := by rw [Hid, HS.out, allP_step hlt]; rfl
      have hpl := putP_len A (predOf m[k].h)
      clear HS hah hat8
      go_wp2_with (first
        | (go_at_call 35; refine (refpred_any _ _ _ _ (hr1.below hbl) h0).mono ?_; rintro e w2 ⟨rfl, hb2⟩)
        | (go_at_call 53; refine (put_any _ _ _ A (predOf m[k].h) (hrow.below hb2) HF.out (by omega)).mono ?_; rintro e w3 ⟨v3, rfl, hacc3, hb3⟩))
      have hbl3 := (hbl.then hb2).then hb3
      have hacc3' := hacc3.mono (B' := w.heap.size) (Nat.le_succ_of_le (hbl.then hb2).size)
      have hmb := hr2.max
      have hmb2 := hr2.le
      clear hacc3 hb2 hb3 hrow hacc c0
      go_loopw [3, 5] (fun v i wr2 => ∃ (j : Nat) (A2 : List Pd), j ≤ m[k].b.length ∧ A2.length ≤ 9 * k + 1 + j ∧ i = .int .i64 j ∧ AccInv w.heap.size 24 A2 v wr2 ∧ Below w.heap.size w wr2 ∧ Hid (predsL m = (((m[k].b.drop j).map fun x => predOf x.t) ++ allP (m.drop (k + 1))).foldl putP A2)) (fun v i wr2 => m[k].b.length - (intOf i).toNat)
      case atStart => exact ⟨0, _, Nat.zero_le _, by omega, rfl, hacc3', hbl3, HS1⟩
      case round =>
        obtain ⟨j, A2, hj, hA2, rfl, hacc2, hbl2, HS2⟩ := hrel
        obtain ⟨ab2, capb2, rfl, hrow2⟩ := hacc2.row
        have e1 := keep cw1 hbl2
        by_cases hjl : j < m[k].b.length
        · obtain ⟨b2, off2, rfl, hb2, hat2⟩ := hr2.cases.resolve_left (fun e => by simp [e] at hjl)
          obtain ⟨a4, cap4, d0, d1, hr4⟩ := lt_at hat2 hbl2 hjl
          have hta := HAT.out _ (List.getElem_mem hjl)
          have h4 := atom_ne hta
          have HF4 := mkHid (predOf_fit hr4.fit h4)
          have HS3 : Hid (predsL m = (((m[k].b.drop (j + 1)).map fun x => predOf x.t) ++ allP (m.drop (k + 1))).foldl putP (putP A2 (predOf m[k].b[j].t))) := by rw [Hid, HS2.out, bP_step hjl]; rfl
          have hpl2 := putP_len A2 (predOf m[k].b[j].t)
          clear HS2 hta
          go_wp2_with (first
            | (go_at_call 35; refine (refpred_any _ _ _ _ hr4 h4).mono ?_; rintro e w4 ⟨rfl, hb4⟩)
            | (go_at_call 53; refine (put_any _ _ _ A2 (predOf m[k].b[j].t) (hrow2.below hb4) HF4.out (by omega)).mono ?_; rintro e w5 ⟨v5, rfl, hacc5, hb5⟩))
          go_round
          case rel => exact ⟨j + 1, _, by omega, by omega, by go_num, hacc5.mono (Nat.le_succ_of_le (hbl2.then hb4).size), (hbl2.then hb4).then hb5, HS3⟩
          case measure => simp [intOf]; omega
        · have HS3 : Hid (predsL m = (allP (m.drop (k + 1))).foldl putP A2) := by
            rw [Hid, HS2.out, List.drop_eq_nil_of_le (by omega)]; rfl
          clear HS2
          go_wp2
          go_round
          case rel => exact ⟨k + 1, A2, by omega, by omega, by go_num, hacc2, hbl2, HS3⟩
          case measure => simp [intOf]; omega
    · have HT : Hid (predsL m = A) := by rw [Hid, HS.out, List.drop_eq_nil_of_le (by omega)]; rfl
      clear HS
      go_wp2
      go_ret
      exact ⟨_, rfl, by rw [HT.out]; exact hacc, hbl⟩

/-! ### where a predicate stands -/
theorem placeP_at {l : List Pd} {p : Pd} {k : Nat} (hk : k < l.length) (h : (l.take k).all (fun x => !decide (x = p)) = true) (he : l[k] = p) : placeP l p = k := by
  have hm : p ∈ l := he ▸ List.getElem_mem hk
  have hn : p ∉ l.take k := fun h' => by have := List.all_eq_true.1 h p h'; simp at this
  have hs : l = l.take k ++ (l[k] :: l.drop (k + 1)) := by
    rw [← List.drop_eq_getElem_cons hk, List.take_append_drop]
  unfold placeP
  rw [if_pos hm, hs, List.idxOf_append, if_neg hn, he]
  simp
  omega
theorem placeP_no {l : List Pd} {p : Pd} (h : l.all (fun x => !decide (x = p)) = true) : placeP l p = -1 := by
  unfold placeP
  rw [if_neg]
  intro h'
  have := List.all_eq_true.1 h p h'
  simp at this
set_option maxHeartbeats 800000 in
theorem place_any (a : Option Addr) (cap : Nat) (w : World) (l : List Pd) (p : Pd) (hr : Row w a cap l) :
    Calls Try.prog 37 #[.slice a l.length cap, .agg #[.string p.s, .int .i64 p.n]] w fun e w' => e = .returned (.int .i64 (placeP l p)) ∧ Below w.heap.size w w' := by
  have hm := hr.max
  have hm2 := hr.le
  have hbn := (Below.refl w.heap.size w).new (.cells #[.string p.s, .int .i64 p.n] 24)
  go_enter Try.func37, Try.ntmps37
  go_wp2
  go_loopw [5] (fun i wr => ∃ k : Nat, k ≤ l.length ∧ i = .int .i64 k ∧ Below w.heap.size w wr ∧ w.heap.size < wr.heap.size ∧ wr.cell? ⟨w.heap.size, 0, none⟩ = some (.string p.s) ∧ wr.cell? ⟨w.heap.size, 1, none⟩ = some (.int .i64 p.n) ∧ Hid ((l.take k).all (fun x => !decide (x = p)) = true)) (fun i wr => l.length - (intOf i).toNat)
  case atStart => exact ⟨0, Nat.zero_le _, rfl, hbn, by simp, by go_simp, by go_simp, by simp [Hid]⟩
  case round =>
    obtain ⟨k, hk, rfl, hbl, hsz, q0, q1, HS⟩ := hrel
    by_cases hlt : k < l.length
    · obtain ⟨b, off, rfl, hb, hat⟩ := hr.cases.resolve_left (fun e => by simp [e] at hlt)
      obtain ⟨c0, c1, hfk⟩ := pd_at hat hbl hlt
      have hne := fun w => run_eql_pd l[k] p w
      by_cases he : l[k] = p
      · have HT := mkHid (placeP_at hlt HS.out he)
        rw [decide_eq_true he] at hne
        clear he HS
        go_wp2
        go_quiet (fail)
        go_wp2
        go_ret
        exact ⟨ret_int HT.out.symm, hbl.then (drewN_below _ _)⟩
      · have HT := mkHid (scan_next (p := fun x => !decide (x = p)) HS.out hlt (by simp [he]))
        rw [decide_eq_false he] at hne
        clear he HS
        go_wp2
        go_quiet (fail)
        go_wp2
        go_round
        case rel => exact ⟨k + 1, by omega, by go_num, hbl.then (drewN_below _ _), hsz, keep q0 (drewN_below _ _), keep q1 (drewN_below _ _), HT⟩
        case measure => simp [intOf]; omega
    · have HT := mkHid (placeP_no (scan_end HS.out (by omega)))
      clear HS
      go_wp2
      go_ret
      exact ⟨ret_int HT.out.symm, hbl⟩
end Go.Proofs.Ytkgebkinlpmpnaa
namespace Go.Proofs.Ytkgebkinlpmpnaa
open Go.RowKit

/-! ### Of -/
def ofTo (m : List Cl) (p : Pd) (k : Nat) : List Int := ((List.range k).filter fun i => match m[i]? with
  | some c => decide (predOf c.h = p)
  | none => false).map fun (i : Nat) => (i : Int)
theorem ofTo_yes {m : List Cl} {p : Pd} {k : Nat} (hk : k < m.length) (h : predOf m[k].h = p) : ofTo m p (k + 1) = ofTo m p k ++ [(k : Int)] := by
  unfold ofTo
  rw [List.range_succ, List.filter_append, List.map_append]
  simp [List.getElem?_eq_getElem hk, h]
theorem ofTo_no {m : List Cl} {p : Pd} {k : Nat} (hk : k < m.length) (h : ¬ predOf m[k].h = p) : ofTo m p (k + 1) = ofTo m p k := by
  unfold ofTo
  rw [List.range_succ, List.filter_append, List.map_append]
  simp [List.getElem?_eq_getElem hk, h]
theorem ofTo_len (m : List Cl) (p : Pd) (k : Nat) : (ofTo m p k).length ≤ k := by
  unfold ofTo
  rw [List.length_map]
  exact Nat.le_trans (List.length_filter_le _ _) (by simp)

set_option maxHeartbeats 1600000 in
theorem refof_any (a : Option Addr) (cap : Nat) (w : World) (m : List Cl) (p : Pd) (hr : Row w a cap m) (HM : Hid (Mays m)) (hl : m.length ≤ 1000) :
    Calls Try.prog 24 #[.slice a m.length cap, .agg #[.string p.s, .int .i64 p.n]] w fun e w' => ∃ v, e = .returned v ∧ AccInv (w.heap.size + 1) 3 (ofL m p) v w' ∧ Below w.heap.size w w' := by
  have hm := hr.max
  have hm2 := hr.le
  have hm0 := AccInv.made (α := Int) (B := w.heap.size + 1) (e := 3) (T := 3) (w.alloc (.cells #[.string p.s, .int .i64 p.n] 24)) (by simp) rfl
  have hbn := ((Below.refl w.heap.size w).new (.cells #[.string p.s, .int .i64 p.n] 24)).new (.cells #[] 3)
  go_enter Try.func24, Try.ntmps24
  go_wp2
  go_loopw [5, 6] (fun v i wr => ∃ (k : Nat) (A : List Int), k ≤ m.length ∧ A.length ≤ k ∧ i = .int .i64 k ∧ AccInv (w.heap.size + 1) 3 A v wr ∧ Below w.heap.size w wr ∧ w.heap.size < wr.heap.size ∧ wr.cell? ⟨w.heap.size, 0, none⟩ = some (.string p.s) ∧ wr.cell? ⟨w.heap.size, 1, none⟩ = some (.int .i64 p.n) ∧ Hid (ofTo m p k = A)) (fun v i wr => m.length - (intOf i).toNat)
  case atStart => exact ⟨0, [], Nat.zero_le _, by simp, rfl, by simpa using hm0, hbn, by simp; omega, by go_simp, by go_simp, rfl⟩
  case round =>
    obtain ⟨k, A, hk, hA, rfl, hacc, hbl, hsz, q0, q1, HS⟩ := hrel
    by_cases hlt : k < m.length
    · obtain ⟨b, off, rfl, hb, hat⟩ := hr.cases.resolve_left (fun e => by simp [e] at hlt)
      obtain ⟨a1, cap1, a2, cap2, c0, c1, hr1, hr2⟩ := cl_at hat hbl hlt
      obtain ⟨h8, hat8, hah⟩ := HM.out.at_ hlt
      have h0 := atom_ne hah
      have e0 : ∀ x : Later wr, x.w'.cell? ⟨b, off + k * 2, none⟩ = some (.slice a1 m[k].h.length cap1) := keepL c0
      have g0 : ∀ x : Later wr, x.w'.cell? ⟨w.heap.size, 0, none⟩ = some (.string p.s) := keepL q0
      have g1 : ∀ x : Later wr, x.w'.cell? ⟨w.heap.size, 1, none⟩ = some (.int .i64 p.n) := keepL q1
      have hne := fun w => run_eql_pd (predOf m[k].h) p w
      clear hat8 hah
      by_cases he : predOf m[k].h = p
      · have HT : Hid (ofTo m p (k + 1) = A ++ [(k : Int)]) := by rw [Hid, ofTo_yes hlt he, HS.out]
        rw [decide_eq_true he] at hne
        clear he HS
        go_wp2
        refine wp_region_calm (by kernel_rfl) (by kernel_rfl) ?_
        repeat (go_big_quiet_step (exact Calls.calm_of (refpred_any a1 cap1 _ m[k].h (hr1.below (Later.ok _)) h0)))
        refine wpQuiet_nil ?_
        rintro _ ⟨x, rfl⟩
        have hx := x.ok
        have hacc1 := hacc.below hx
        have hz1 : w.heap.size < x.w'.heap.size := Nat.lt_of_lt_of_le hsz hx.size
        go_wp2_with (at_builtin; refine wpList_acc (α := Int) rfl _ _ 33 rfl (w.heap.size + 1) 3 8 _ Try.underlying33 Try.infoInt rfl (by decide) _ A hacc1 (by rfl) _ #[.int .i64 k] (k : Int) ⟨rfl, by omega, by omega⟩ (by rfl) (by omega) hz1 ?_; intro v' w3 hacc3 hb3)
        go_round
        case rel => exact ⟨k + 1, _, by omega, by simp; omega, by go_num, hacc3, (hbl.then hx).trans (hb3.mono (by omega)), Nat.lt_of_lt_of_le hz1 hb3.size, keepB hb3 (keep q0 hx) (by omega), keepB hb3 (keep q1 hx) (by omega), HT⟩
        case measure => simp [intOf]; omega
      · have HT : Hid (ofTo m p (k + 1) = A) := by rw [Hid, ofTo_no hlt he, HS.out]
        rw [decide_eq_false he] at hne
        clear he HS
        go_wp2
        refine wp_region_calm (by kernel_rfl) (by kernel_rfl) ?_
        repeat (go_big_quiet_step (exact Calls.calm_of (refpred_any a1 cap1 _ m[k].h (hr1.below (Later.ok _)) h0)))
        refine wpQuiet_nil ?_
        rintro _ ⟨x, rfl⟩
        have hx := x.ok
        go_wp2
        go_round
        case rel => exact ⟨k + 1, _, by omega, by omega, by go_num, hacc.below hx, hbl.then hx, Nat.lt_of_lt_of_le hsz hx.size, keep q0 hx, keep q1 hx, HT⟩
        case measure => simp [intOf]; omega
    · have HT : Hid (ofL m p = A) := by
        have : k = m.length := by omega
        rw [Hid, ← HS.out, this]; rfl
      clear HS
      go_wp2
      go_ret
      exact ⟨_, rfl, by rw [HT.out]; exact hacc, hbl⟩

/-! ### has -/
def litIs (q : Pd) (neg : Bool) (x : Lt) : Bool := decide (predOf x.t = q) && (x.neg == neg)
def clIs (p q : Pd) (neg : Bool) (c : Cl) : Bool := decide (predOf c.h = p) && c.b.any (litIs q neg)
theorem hasB_any (m : List Cl) (p q : Pd) (neg : Bool) : hasB m p q neg = m.any (clIs p q neg) := rfl
theorem all_any {α : Type} {xs : List α} {f : α → Bool} (h : xs.all (fun x => !f x) = true) : xs.any f = false := by
  rw [List.any_eq_false]
  intro x hx
  have := List.all_eq_true.1 h x hx
  simpa using this

set_option maxHeartbeats 3200000 in
theorem has_any (a : Option Addr) (cap : Nat) (w : World) (m : List Cl) (p q : Pd) (neg : Bool) (hr : Row w a cap m) (HM : Hid (Mays m)) (hl : m.length ≤ 1000) :
    Calls Try.prog 57 #[.slice a m.length cap, .agg #[.string p.s, .int .i64 p.n], .agg #[.string q.s, .int .i64 q.n], .bool neg] w fun e w' => e = .returned (.bool (hasB m p q neg)) ∧ Below w.heap.size w w' := by
  have hm := hr.max
  have hm2 := hr.le
  have hbn := ((Below.refl w.heap.size w).new (.cells #[.string p.s, .int .i64 p.n] 24)).new (.cells #[.string q.s, .int .i64 q.n] 24)
  go_enter Try.func57, Try.ntmps57
  go_wp2
  go_loopw [9, 10] (fun i _ wr => ∃ k : Nat, k ≤ m.length ∧ i = .int .i64 k ∧ Below w.heap.size w wr ∧ w.heap.size + 1 < wr.heap.size ∧ wr.cell? ⟨w.heap.size, 0, none⟩ = some (.string p.s) ∧ wr.cell? ⟨w.heap.size, 1, none⟩ = some (.int .i64 p.n) ∧ wr.cell? ⟨w.heap.size + 1, 0, none⟩ = some (.string q.s) ∧ wr.cell? ⟨w.heap.size + 1, 1, none⟩ = some (.int .i64 q.n) ∧ Hid ((m.take k).all (fun c => !clIs p q neg c) = true)) (fun i _ wr => m.length - (intOf i).toNat)
  case atStart => exact ⟨0, Nat.zero_le _, rfl, hbn, by simp, by go_simp, by go_simp, by go_simp, by go_simp, by simp [Hid]⟩
  case round =>
    obtain ⟨k, hk, rfl, hbl, hsz, q0, q1, q2, q3, HS⟩ := hrel
    by_cases hlt : k < m.length
    · obtain ⟨b, off, rfl, hb, hat⟩ := hr.cases.resolve_left (fun e => by simp [e] at hlt)
      obtain ⟨a1, cap1, a2, cap2, cw0, cw1, hw1, hw2⟩ := cl_at hat (Below.refl _ _) hlt
      have c0 := keep cw0 hbl
      have hr1 := hw1.below hbl
      obtain ⟨h8, hat8, hah⟩ := HM.out.at_ hlt
      have h0 := atom_ne hah
      have HAT := mkHid hat8
      have e0 : ∀ x : Later wr, x.w'.cell? ⟨b, off + k * 2, none⟩ = some (.slice a1 m[k].h.length cap1) := keepL c0
      have g0 : ∀ x : Later wr, x.w'.cell? ⟨w.heap.size, 0, none⟩ = some (.string p.s) := keepL q0
      have g1 : ∀ x : Later wr, x.w'.cell? ⟨w.heap.size, 1, none⟩ = some (.int .i64 p.n) := keepL q1
      have hne := fun w => run_neq_pd (predOf m[k].h) p w
      clear hat8 hah
      by_cases he : predOf m[k].h = p
      · have HE := mkHid he
        rw [decide_eq_true he] at hne
        clear he
        go_wp2
        refine wp_region_calm (by kernel_rfl) (by kernel_rfl) ?_
        repeat (go_big_quiet_step (exact Calls.calm_of (refpred_any a1 cap1 _ m[k].h (hr1.below (Later.ok _)) h0)))
        refine wpQuiet_nil ?_
        rintro _ ⟨x, rfl⟩
        have hx := x.ok
        have hblx := hbl.then hx
        have hszx := Nat.lt_of_lt_of_le hsz hx.size
        have p0 := keep q0 hx
        have p1 := keep q1 hx
        have p2 := keep q2 hx
        have p3 := keep q3 hx
        have hmb := hw2.max
        have hmb2 := hw2.le
        clear e0 g0 g1 hne hr1 c0 q0 q1 q2 q3 hbl hsz
        obtain ⟨wx, hwx⟩ : ∃ wx : World, wx = x.w' := ⟨_, rfl⟩
        rw [← hwx] at hblx hszx p0 p1 p2 p3 ⊢
        clear hwx hx
        go_wp2
        go_loopw [10] (fun i wr2 => ∃ j : Nat, j ≤ m[k].b.length ∧ i = .int .i64 j ∧ Below w.heap.size w wr2 ∧ w.heap.size + 1 < wr2.heap.size ∧ wr2.cell? ⟨w.heap.size, 0, none⟩ = some (.string p.s) ∧ wr2.cell? ⟨w.heap.size, 1, none⟩ = some (.int .i64 p.n) ∧ wr2.cell? ⟨w.heap.size + 1, 0, none⟩ = some (.string q.s) ∧ wr2.cell? ⟨w.heap.size + 1, 1, none⟩ = some (.int .i64 q.n) ∧ Hid ((m[k].b.take j).all (fun x => !litIs q neg x) = true)) (fun i wr2 => m[k].b.length - (intOf i).toNat)
        case atStart => exact ⟨0, Nat.zero_le _, rfl, hblx, hszx, p0, p1, p2, p3, by simp [Hid]⟩
        case round =>
          obtain ⟨j, hj, rfl, hbl2, hsz2, s0, s1, s2, s3, HJ⟩ := hrel
          have u1 := keep cw1 hbl2
          by_cases hjl : j < m[k].b.length
          · obtain ⟨b2, off2, rfl, hb2, hat2⟩ := hw2.cases.resolve_left (fun e => by simp [e] at hjl)
            obtain ⟨a4, cap4, d0, d1, hr4⟩ := lt_at hat2 hbl2 hjl
            have h4 := atom_ne (HAT.out _ (List.getElem_mem hjl))
            have y1 : ∀ x : Later wr, x.w'.cell? ⟨b, off + k * 2 + 1, none⟩ = some (.slice (some ⟨b2, off2, none⟩) m[k].b.length cap2) := keepL u1
            have y2 : ∀ x : Later wr, x.w'.cell? ⟨b2, off2 + j * 2, none⟩ = some (.bool m[k].b[j].neg) := keepL d0
            have y3 : ∀ x : Later wr, x.w'.cell? ⟨b2, off2 + j * 2 + 1, none⟩ = some (.slice a4 m[k].b[j].t.length cap4) := keepL d1
            have z2 : ∀ x : Later wr, x.w'.cell? ⟨w.heap.size + 1, 0, none⟩ = some (.string q.s) := keepL s2
            have z3 : ∀ x : Later wr, x.w'.cell? ⟨w.heap.size + 1, 1, none⟩ = some (.int .i64 q.n) := keepL s3
            have hne2 := fun w => run_eql_pd (predOf m[k].b[j].t) q w
            by_cases he2 : predOf m[k].b[j].t = q
            · rw [decide_eq_true he2] at hne2
              cases hN : (m[k].b[j].neg == neg) with
              | true =>
                have HT : Hid (hasB m p q neg = true) := by
                  rw [Hid, hasB_any, List.any_eq_true]
                  refine ⟨m[k], List.getElem_mem hlt, ?_⟩
                  unfold clIs
                  rw [HE.out, List.any_eq_true.2 ⟨m[k].b[j], List.getElem_mem hjl, by unfold litIs; rw [he2, hN]; simp⟩]; simp
                clear he2 HJ
                go_wp2
                refine wp_region_calm (by kernel_rfl) (by kernel_rfl) ?_
                repeat (go_big_quiet_step (exact Calls.calm_of (refpred_any a4 cap4 _ m[k].b[j].t (hr4.below (Later.ok _)) h4)))
                refine wpQuiet_nil ?_
                rintro _ ⟨x, rfl⟩
                have hx := x.ok
                go_wp2
                go_ret
                exact ⟨ret_bool HT.out.symm, hbl2.then hx⟩
              | false =>
                have HT := mkHid (scan_next (p := fun x => !litIs q neg x) HJ.out hjl (by unfold litIs; rw [hN]; simp))
                clear he2 HJ
                go_wp2
                refine wp_region_calm (by kernel_rfl) (by kernel_rfl) ?_
                repeat (go_big_quiet_step (exact Calls.calm_of (refpred_any a4 cap4 _ m[k].b[j].t (hr4.below (Later.ok _)) h4)))
                refine wpQuiet_nil ?_
                rintro _ ⟨x, rfl⟩
                have hx := x.ok
                go_wp2
                go_round
                case rel => exact ⟨j + 1, by omega, by go_num, hbl2.then hx, Nat.lt_of_lt_of_le hsz2 hx.size, keep s0 hx, keep s1 hx, keep s2 hx, keep s3 hx, HT⟩
                case measure => simp [intOf]; omega
            · rw [decide_eq_false he2] at hne2
              have HT := mkHid (scan_next (p := fun x => !litIs q neg x) HJ.out hjl (by unfold litIs; simp [he2]))
              clear he2 HJ
              go_wp2
              refine wp_region_calm (by kernel_rfl) (by kernel_rfl) ?_
              repeat (go_big_quiet_step (exact Calls.calm_of (refpred_any a4 cap4 _ m[k].b[j].t (hr4.below (Later.ok _)) h4)))
              refine wpQuiet_nil ?_
              rintro _ ⟨x, rfl⟩
              have hx := x.ok
              go_wp2
              go_round
              case rel => exact ⟨j + 1, by omega, by go_num, hbl2.then hx, Nat.lt_of_lt_of_le hsz2 hx.size, keep s0 hx, keep s1 hx, keep s2 hx, keep s3 hx, HT⟩
              case measure => simp [intOf]; omega
          · have HT := mkHid (scan_next (p := fun c => !clIs p q neg c) HS.out hlt (by
              have := all_any (scan_end HJ.out (by omega))
              unfold clIs; rw [this]; simp))
            clear HJ HS
            go_wp2
            go_round
            case rel => exact ⟨k + 1, by omega, by go_num, hbl2, hsz2, s0, s1, s2, s3, HT⟩
            case measure => simp [intOf]; omega
      · have HT := mkHid (scan_next (p := fun c => !clIs p q neg c) HS.out hlt (by unfold clIs; simp [he]))
        rw [decide_eq_false he] at hne
        clear he HS
        go_wp2
        refine wp_region_calm (by kernel_rfl) (by kernel_rfl) ?_
        repeat (go_big_quiet_step (exact Calls.calm_of (refpred_any a1 cap1 _ m[k].h (hr1.below (Later.ok _)) h0)))
        refine wpQuiet_nil ?_
        rintro _ ⟨x, rfl⟩
        have hx := x.ok
        go_wp2
        go_round
        case rel => exact ⟨k + 1, by omega, by go_num, hbl.then hx, Nat.lt_of_lt_of_le hsz hx.size, keep q0 hx, keep q1 hx, keep q2 hx, keep q3 hx, HT⟩
        case measure => simp [intOf]; omega
    · have HT : Hid (hasB m p q neg = false) := all_any (scan_end HS.out (by omega))
      clear HS
      go_wp2
      go_ret
      exact ⟨ret_bool HT.out.symm, hbl⟩
end Go.Proofs.Ytkgebkinlpmpnaa
namespace Go.Proofs.Ytkgebkinlpmpnaa
open Go.RowKit

theorem foldP_len (ps : List Pd) : ∀ A : List Pd, (ps.foldl putP A).length ≤ A.length + ps.length := by
  induction ps with
  | nil => intro A; simp
  | cons p ps ih =>
    intro A
    have h1 := ih (putP A p)
    have h2 := putP_len A p
    simp only [List.foldl_cons, List.length_cons]; omega
theorem allP_len {m : List Cl} (h : Mays m) : (allP m).length ≤ 9 * m.length := by
  induction m with
  | nil => simp [allP]
  | cons c m ih =>
    have h1 := ih (fun x hx => h x (by simp [hx]))
    have h2 := (may_facts (hs := c.h) (bs := c.b) (h c (by simp))).1
    have e : allP (c :: m) = predOf c.h :: ((c.b.map fun x => predOf x.t) ++ allP m) := rfl
    rw [e]; simp; omega
theorem preds_len {m : List Cl} (h : Mays m) : (predsL m).length ≤ 9 * m.length := by
  have h1 := foldP_len (allP m) []
  have h2 := allP_len h
  unfold predsL; simp at h1; omega

/-! ### Links -/
def linkRow (m : List Cl) (P : List Pd) (i : Nat) : List Lk := (List.range P.length).flatMap fun (k : Nat) => linkAt m P i k
theorem links_eq (m : List Cl) : linksL m = (List.range (predsL m).length).flatMap (linkRow m (predsL m)) := rfl
theorem range_drop {n i : Nat} (h : i < n) : (List.range n).drop i = i :: (List.range n).drop (i + 1) := by
  rw [List.drop_eq_getElem_cons (by simpa using h), List.getElem_range]
theorem range_over {n i : Nat} (h : n ≤ i) : (List.range n).drop i = [] := List.drop_eq_nil_of_le (by simpa using h)
theorem linkAt_of (m : List Cl) {P : List Pd} {i k : Nat} (hi : i < P.length) (hk : k < P.length) : linkAt m P i k = (if hasB m P[i] P[k] false then [⟨i, k, false⟩] else []) ++ (if hasB m P[i] P[k] true then [⟨i, k, true⟩] else []) := by
  unfold linkAt; rw [List.getElem?_eq_getElem hi, List.getElem?_eq_getElem hk]
/-- what stands ahead of the links that are still to come -/
theorem links_in {m : List Cl} {P : List Pd} {A R : List Lk} {i k : Nat} (hi : i < P.length) (hk : k < P.length) (h : R = A ++ ((List.range P.length).drop k).flatMap (linkAt m P i) ++ ((List.range P.length).drop (i + 1)).flatMap (linkRow m P)) :
    R = A ++ (if hasB m P[i] P[k] false then [⟨i, k, false⟩] else []) ++ (if hasB m P[i] P[k] true then [⟨i, k, true⟩] else []) ++ ((List.range P.length).drop (k + 1)).flatMap (linkAt m P i) ++ ((List.range P.length).drop (i + 1)).flatMap (linkRow m P) := by
  rw [h, range_drop hk, List.flatMap_cons, linkAt_of m hi hk]
  simp only [List.append_assoc]
theorem links_out {m : List Cl} {P : List Pd} {A R : List Lk} {i k : Nat} (hk : P.length ≤ k) (h : R = A ++ ((List.range P.length).drop k).flatMap (linkAt m P i) ++ ((List.range P.length).drop (i + 1)).flatMap (linkRow m P)) :
    R = A ++ ((List.range P.length).drop (i + 1)).flatMap (linkRow m P) := by
  rw [h, range_over hk]; simp
theorem links_go {m : List Cl} {P : List Pd} {A R : List Lk} {i : Nat} (hi : i < P.length) (h : R = A ++ ((List.range P.length).drop i).flatMap (linkRow m P)) :
    R = A ++ ((List.range P.length).drop 0).flatMap (linkAt m P i) ++ ((List.range P.length).drop (i + 1)).flatMap (linkRow m P) := by
  rw [h, range_drop hi, List.flatMap_cons, List.append_assoc]; rfl

set_option maxHeartbeats 3200000 in
theorem reflinks_any (a : Option Addr) (cap : Nat) (w : World) (m : List Cl) (hr : Row w a cap m) (HM : Hid (Mays m)) (hl : m.length ≤ 1000) :
    Calls Try.prog 27 #[.slice a m.length cap] w fun e w' => ∃ v, e = .returned v ∧ AccInv w.heap.size 57 (linksL m) v w' ∧ Below w.heap.size w w' := by
  have hm := hr.max
  have hm2 := hr.le
  have hpl := preds_len HM.out
  go_enter Try.func27, Try.ntmps27
  go_wp2_with (go_at_call 21; refine (refpreds_any _ _ _ _ hr HM hl).mono ?_; rintro e w1 ⟨vp, rfl, haccp, hb1⟩; obtain ⟨ap, capp, rfl, hrowp⟩ := haccp.row)
  have HE := mkHid (links_eq m)
  obtain ⟨P, hP⟩ : ∃ P, predsL m = P := ⟨_, rfl⟩
  rw [hP] at hrowp hpl HE
  rw [hP]
  have hx := hrowp.max
  have hx2 := hrowp.le
  have hm0 := AccInv.made (α := Lk) (B := w1.heap.size) (e := 57) (T := 57) w1 (Nat.le_refl _) rfl
  have hbn := (Below.refl w1.heap.size w1).new (.cells #[] 57)
  clear haccp hP
  go_wp2
  go_loopw [4, 5, 6] (fun v i _ wr => ∃ (k : Nat) (A : List Lk), k ≤ P.length ∧ A.length ≤ 20000 * k ∧ i = .int .i64 k ∧ AccInv w1.heap.size 57 A v wr ∧ Below w1.heap.size w1 wr ∧ Hid (linksL m = A ++ ((List.range P.length).drop k).flatMap (linkRow m P))) (fun v i _ wr => P.length - (intOf i).toNat)
  case atStart => exact ⟨0, [], Nat.zero_le _, by simp, rfl, hm0, hbn, HE⟩
  case round =>
    obtain ⟨k, A, hk, hA, rfl, hacc, hbl, HS⟩ := hrel
    by_cases hlt : k < P.length
    · have HS1 := mkHid (links_go hlt HS.out)
      clear HS
      go_wp2
      go_loopw [4, 6] (fun v i wr2 => ∃ (j : Nat) (A2 : List Lk), j ≤ P.length ∧ A2.length ≤ 20000 * k + 2 * j ∧ i = .int .i64 j ∧ AccInv w1.heap.size 57 A2 v wr2 ∧ Below w1.heap.size w1 wr2 ∧ Hid (linksL m = A2 ++ ((List.range P.length).drop j).flatMap (linkAt m P k) ++ ((List.range P.length).drop (k + 1)).flatMap (linkRow m P))) (fun v i wr2 => P.length - (intOf i).toNat)
      case atStart => exact ⟨0, A, Nat.zero_le _, by omega, rfl, hacc, hbl, HS1⟩
      case round =>
        clear hacc hbl HS1 hA
        obtain ⟨j, A2, hj, hA2, rfl, hacc, hbl, HS⟩ := hrel
        by_cases hjl : j < P.length
        · have HS2 := links_in hlt hjl HS.out
          clear HS
          obtain ⟨b, off, rfl, hb, hat⟩ := hrowp.cases.resolve_left (fun e => by simp [e] at hlt)
          have k0 : ∀ y : Later wr, PdE y.w' b (off + k * 2) P[k] := fun y => pd_at hat (hbl.then y.ok) hlt
          have j0 : ∀ y : Later wr, PdE y.w' b (off + j * 2) P[j] := fun y => pd_at hat (hbl.then y.ok) hjl
          have e0 := fun y => (k0 y).c0
          have e1 := fun y => (k0 y).c1
          have f0 := fun y => (j0 y).c0
          have f1 := fun y => (j0 y).c1
          clear k0 j0
          have HRM : Hid (∀ y : Later wr, Row y.w' a cap m) := fun y => hr.below ((hb1.then hbl).then y.ok)
          cases hh1 : hasB m P[k] P[j] false
          · rw [hh1] at HS2
            have HH1 := mkHid hh1
            clear hh1
            cases hh2 : hasB m P[k] P[j] true
            · rw [hh2] at HS2
              have HH2 := mkHid hh2
              have HS3 := mkHid HS2
              clear hh2 HS2
              go_wp2
              refine wp_region_calm (by kernel_rfl) (by kernel_rfl) ?_
              repeat (go_big_quiet_step (exact Calls.calm_of (has_any a cap _ m P[k] P[j] false (HRM.out _) HM hl)))
              refine wpQuiet_nil ?_
              rintro wa ⟨y, hy⟩
              have hbwa := y.ok
              rw [← hy] at hbwa
              clear hy y
              rw [HH1.out]
              clear e0 e1 f0 f1 HRM
              have hbla := hbl.then hbwa
              have hacca := hacc.below hbwa
              have k0 : ∀ y : Later wa, PdE y.w' b (off + k * 2) P[k] := fun y => pd_at hat (hbla.then y.ok) hlt
              have j0 : ∀ y : Later wa, PdE y.w' b (off + j * 2) P[j] := fun y => pd_at hat (hbla.then y.ok) hjl
              have e0 := fun y => (k0 y).c0
              have e1 := fun y => (k0 y).c1
              have f0 := fun y => (j0 y).c0
              have f1 := fun y => (j0 y).c1
              clear k0 j0
              have HRM : Hid (∀ y : Later wa, Row y.w' a cap m) := fun y => hr.below ((hb1.then hbla).then y.ok)
              go_wp2
              refine wp_region_calm (by kernel_rfl) (by kernel_rfl) ?_
              repeat (go_big_quiet_step (exact Calls.calm_of (has_any a cap _ m P[k] P[j] true (HRM.out _) HM hl)))
              refine wpQuiet_nil ?_
              rintro wc ⟨y, hy⟩
              have hbwc := y.ok
              rw [← hy] at hbwc
              clear hy y
              rw [HH2.out]
              clear e0 e1 f0 f1 HRM
              have hblc := hbla.then hbwc
              have haccc := hacca.below hbwc
              go_wp2
              go_round
              case rel => exact ⟨j + 1, _, by omega, by first | omega | (simp; omega), by go_num, haccc, hblc, by first | exact HS3 | simpa using HS3⟩
              case measure => simp [intOf]; omega
            · rw [hh2] at HS2
              have HH2 := mkHid hh2
              have HS3 := mkHid HS2
              clear hh2 HS2
              go_wp2
              refine wp_region_calm (by kernel_rfl) (by kernel_rfl) ?_
              repeat (go_big_quiet_step (exact Calls.calm_of (has_any a cap _ m P[k] P[j] false (HRM.out _) HM hl)))
              refine wpQuiet_nil ?_
              rintro wa ⟨y, hy⟩
              have hbwa := y.ok
              rw [← hy] at hbwa
              clear hy y
              rw [HH1.out]
              clear e0 e1 f0 f1 HRM
              have hbla := hbl.then hbwa
              have hacca := hacc.below hbwa
              have k0 : ∀ y : Later wa, PdE y.w' b (off + k * 2) P[k] := fun y => pd_at hat (hbla.then y.ok) hlt
              have j0 : ∀ y : Later wa, PdE y.w' b (off + j * 2) P[j] := fun y => pd_at hat (hbla.then y.ok) hjl
              have e0 := fun y => (k0 y).c0
              have e1 := fun y => (k0 y).c1
              have f0 := fun y => (j0 y).c0
              have f1 := fun y => (j0 y).c1
              clear k0 j0
              have HRM : Hid (∀ y : Later wa, Row y.w' a cap m) := fun y => hr.below ((hb1.then hbla).then y.ok)
              go_wp2
              refine wp_region_calm (by kernel_rfl) (by kernel_rfl) ?_
              repeat (go_big_quiet_step (exact Calls.calm_of (has_any a cap _ m P[k] P[j] true (HRM.out _) HM hl)))
              refine wpQuiet_nil ?_
              rintro wc ⟨y, hy⟩
              have hbwc := y.ok
              rw [← hy] at hbwc
              clear hy y
              rw [HH2.out]
              clear e0 e1 f0 f1 HRM
              have hblc := hbla.then hbwc
              have haccc := hacca.below hbwc
              have hzc := hblc.size
              go_wp2_with (at_builtin; refine wpList_acc (α := Lk) rfl _ _ 41 rfl w1.heap.size 57 24 _ Try.underlying41 Try.infoLink rfl (by decide) _ (A2) haccc (by rfl) _ #[.int .i64 k, .int .i64 j, .bool true] (⟨k, j, true⟩ : Lk) ⟨rfl, ⟨by show _ ≤ (k : Int); omega, by show (k : Int) ≤ _; omega, by show _ ≤ (j : Int); omega, by show (j : Int) ≤ _; omega⟩⟩ (by rfl) (by simp; omega) hzc ?_; intro vz wz haccz hbz)
              go_round
              case rel => exact ⟨j + 1, _, by omega, by first | omega | (simp; omega), by go_num, haccz, hblc.trans hbz, by first | exact HS3 | simpa using HS3⟩
              case measure => simp [intOf]; omega
          · rw [hh1] at HS2
            have HH1 := mkHid hh1
            clear hh1
            cases hh2 : hasB m P[k] P[j] true
            · rw [hh2] at HS2
              have HH2 := mkHid hh2
              have HS3 := mkHid HS2
              clear hh2 HS2
              go_wp2
              refine wp_region_calm (by kernel_rfl) (by kernel_rfl) ?_
              repeat (go_big_quiet_step (exact Calls.calm_of (has_any a cap _ m P[k] P[j] false (HRM.out _) HM hl)))
              refine wpQuiet_nil ?_
              rintro wa ⟨y, hy⟩
              have hbwa := y.ok
              rw [← hy] at hbwa
              clear hy y
              rw [HH1.out]
              clear e0 e1 f0 f1 HRM
              have hbla := hbl.then hbwa
              have hacca := hacc.below hbwa
              have hza := hbla.size
              go_wp2_with (at_builtin; refine wpList_acc (α := Lk) rfl _ _ 41 rfl w1.heap.size 57 24 _ Try.underlying41 Try.infoLink rfl (by decide) _ A2 hacca (by rfl) _ #[.int .i64 k, .int .i64 j, .bool false] (⟨k, j, false⟩ : Lk) ⟨rfl, ⟨by show _ ≤ (k : Int); omega, by show (k : Int) ≤ _; omega, by show _ ≤ (j : Int); omega, by show (j : Int) ≤ _; omega⟩⟩ (by rfl) (by simp; omega) hza ?_; intro vx wx haccx hbx)
              have hblb := hbla.trans hbx
              have k0 : ∀ y : Later wx, PdE y.w' b (off + k * 2) P[k] := fun y => pd_at hat (hblb.then y.ok) hlt
              have j0 : ∀ y : Later wx, PdE y.w' b (off + j * 2) P[j] := fun y => pd_at hat (hblb.then y.ok) hjl
              have e0 := fun y => (k0 y).c0
              have e1 := fun y => (k0 y).c1
              have f0 := fun y => (j0 y).c0
              have f1 := fun y => (j0 y).c1
              clear k0 j0
              have HRM : Hid (∀ y : Later wx, Row y.w' a cap m) := fun y => hr.below ((hb1.then hblb).then y.ok)
              go_wp2
              refine wp_region_calm (by kernel_rfl) (by kernel_rfl) ?_
              repeat (go_big_quiet_step (exact Calls.calm_of (has_any a cap _ m P[k] P[j] true (HRM.out _) HM hl)))
              refine wpQuiet_nil ?_
              rintro wc ⟨y, hy⟩
              have hbwc := y.ok
              rw [← hy] at hbwc
              clear hy y
              rw [HH2.out]
              clear e0 e1 f0 f1 HRM
              have hblc := hblb.then hbwc
              have haccc := haccx.below hbwc
              go_wp2
              go_round
              case rel => exact ⟨j + 1, _, by omega, by first | omega | (simp; omega), by go_num, haccc, hblc, by first | exact HS3 | simpa using HS3⟩
              case measure => simp [intOf]; omega
            · rw [hh2] at HS2
              have HH2 := mkHid hh2
              have HS3 := mkHid HS2
              clear hh2 HS2
              go_wp2
              refine wp_region_calm (by kernel_rfl) (by kernel_rfl) ?_
              repeat (go_big_quiet_step (exact Calls.calm_of (has_any a cap _ m P[k] P[j] false (HRM.out _) HM hl)))
              refine wpQuiet_nil ?_
              rintro wa ⟨y, hy⟩
              have hbwa := y.ok
              rw [← hy] at hbwa
              clear hy y
              rw [HH1.out]
              clear e0 e1 f0 f1 HRM
              have hbla := hbl.then hbwa
              have hacca := hacc.below hbwa
              have hza := hbla.size
              go_wp2_with (at_builtin; refine wpList_acc (α := Lk) rfl _ _ 41 rfl w1.heap.size 57 24 _ Try.underlying41 Try.infoLink rfl (by decide) _ A2 hacca (by rfl) _ #[.int .i64 k, .int .i64 j, .bool false] (⟨k, j, false⟩ : Lk) ⟨rfl, ⟨by show _ ≤ (k : Int); omega, by show (k : Int) ≤ _; omega, by show _ ≤ (j : Int); omega, by show (j : Int) ≤ _; omega⟩⟩ (by rfl) (by simp; omega) hza ?_; intro vx wx haccx hbx)
              have hblb := hbla.trans hbx
              have k0 : ∀ y : Later wx, PdE y.w' b (off + k * 2) P[k] := fun y => pd_at hat (hblb.then y.ok) hlt
              have j0 : ∀ y : Later wx, PdE y.w' b (off + j * 2) P[j] := fun y => pd_at hat (hblb.then y.ok) hjl
              have e0 := fun y => (k0 y).c0
              have e1 := fun y => (k0 y).c1
              have f0 := fun y => (j0 y).c0
              have f1 := fun y => (j0 y).c1
              clear k0 j0
              have HRM : Hid (∀ y : Later wx, Row y.w' a cap m) := fun y => hr.below ((hb1.then hblb).then y.ok)
              go_wp2
              refine wp_region_calm (by kernel_rfl) (by kernel_rfl) ?_
              repeat (go_big_quiet_step (exact Calls.calm_of (has_any a cap _ m P[k] P[j] true (HRM.out _) HM hl)))
              refine wpQuiet_nil ?_
              rintro wc ⟨y, hy⟩
              have hbwc := y.ok
              rw [← hy] at hbwc
              clear hy y
              rw [HH2.out]
              clear e0 e1 f0 f1 HRM
              have hblc := hblb.then hbwc
              have haccc := haccx.below hbwc
              have hzc := hblc.size
              go_wp2_with (at_builtin; refine wpList_acc (α := Lk) rfl _ _ 41 rfl w1.heap.size 57 24 _ Try.underlying41 Try.infoLink rfl (by decide) _ (A2 ++ [⟨k, j, false⟩]) haccc (by rfl) _ #[.int .i64 k, .int .i64 j, .bool true] (⟨k, j, true⟩ : Lk) ⟨rfl, ⟨by show _ ≤ (k : Int); omega, by show (k : Int) ≤ _; omega, by show _ ≤ (j : Int); omega, by show (j : Int) ≤ _; omega⟩⟩ (by rfl) (by simp; omega) hzc ?_; intro vz wz haccz hbz)
              go_round
              case rel => exact ⟨j + 1, _, by omega, by first | omega | (simp; omega), by go_num, haccz, hblc.trans hbz, by first | exact HS3 | simpa using HS3⟩
              case measure => simp [intOf]; omega
        · have HS2 := mkHid (links_out (by omega) HS.out)
          clear HS
          go_wp2
          go_round
          case rel => exact ⟨k + 1, A2, by omega, by omega, by go_num, hacc, hbl, HS2⟩
          case measure => simp [intOf]; omega
    · have HT : Hid (linksL m = A) := by rw [Hid, HS.out, range_over (by omega)]; simp
      clear HS
      go_wp2
      go_ret
      exact ⟨_, rfl, by rw [HT.out]; exact hacc.mono hb1.size, hb1.then hbl⟩
end Go.Proofs.Ytkgebkinlpmpnaa
namespace Go.Proofs.Ytkgebkinlpmpnaa
open Go.RowKit

set_option maxHeartbeats 400000 in
theorem ints7_any (a : Option Addr) (cap : Nat) (a' : Option Addr) (cap' : Nat) (w : World) (xs ys : List Int) (hx : Row w a cap xs) (hy : Row w a' cap' ys) :
    Calls Try.prog 22 #[.slice a xs.length cap, .slice a' ys.length cap'] w fun e w' => e = .returned (.bool (decide (xs = ys))) ∧ Below w.heap.size w w' := by
  have hm := hx.max
  have hm2 := hx.le
  have hm3 := hy.max
  have hm4 := hy.le
  by_cases hlen : xs.length = ys.length
  · have hlt2 : ys.length ≤ xs.length := by omega
    have hlt3 : xs.length ≤ ys.length := by omega
    have hne : ((xs.length : Int) != (ys.length : Int)) = false := by simp [hlen]
    clear hlen
    go_enter Try.func22, Try.ntmps22
    go_wp2
    go_loopw [5] (fun i wr => ∃ k : Nat, k ≤ xs.length ∧ i = .int .i64 k ∧ Below w.heap.size w wr ∧ Hid (xs.take k = ys.take k)) (fun i wr => xs.length - (intOf i).toNat)
    case atStart => exact ⟨0, Nat.zero_le _, rfl, Below.refl _ _, rfl⟩
    case round =>
      obtain ⟨k, hk, rfl, hbl, HS⟩ := hrel
      by_cases hlt : k < xs.length
      · have hlt' : k < ys.length := by omega
        obtain ⟨b, off, rfl, hb, hat⟩ := hx.cases.resolve_left (fun e => by simp [e] at hlt)
        obtain ⟨b', off', rfl, hb', hat'⟩ := hy.cases.resolve_left (fun e => by simp [e] at hlt')
        obtain ⟨c0, _, _⟩ := int_at hat hbl hlt
        obtain ⟨d0, _, _⟩ := int_at hat' hbl hlt'
        by_cases he : xs[k] = ys[k]
        · have HT : Hid (xs.take (k + 1) = ys.take (k + 1)) := take_eq_snoc HS.out hlt hlt' he
          have hd : decide (xs[k] = ys[k]) = true := decide_eq_true he
          have hne : (xs[k] != ys[k]) = (!decide (xs[k] = ys[k])) := rfl
          rw [hd] at hne
          clear he HS hd
          go_wp2
          go_quiet (fail)
          go_wp2
          go_round
          case rel => exact ⟨k + 1, by omega, by go_num, ⟨hbl.os, hbl.tape, hbl.output, hbl.size, hbl.block⟩, HT⟩
          case measure => simp [intOf]; omega
        · have HE : Hid (false = decide (xs = ys)) := by
            rw [Hid, decide_eq_false]; intro e; subst e; exact he rfl
          have hd : decide (xs[k] = ys[k]) = false := decide_eq_false he
          have hne : (xs[k] != ys[k]) = (!decide (xs[k] = ys[k])) := rfl
          rw [hd] at hne
          clear he HS hd
          go_wp2
          go_quiet (fail)
          go_wp2
          go_ret
          exact ⟨ret_bool HE.out, ⟨hbl.os, hbl.tape, hbl.output, hbl.size, hbl.block⟩⟩
      · have HE : Hid (true = decide (xs = ys)) := by
          rw [Hid, decide_eq_true (take_all HS.out (by omega) (by omega))]
        clear HS
        go_wp2
        go_ret
        exact ⟨ret_bool HE.out, hbl⟩
  · have HE : Hid (false = decide (xs = ys)) := by
      rw [Hid, decide_eq_false]; intro e; rw [e] at hlen; exact hlen rfl
    have hne : ((xs.length : Int) != (ys.length : Int)) = true := by simp; omega
    clear hlen
    go_enter Try.func22, Try.ntmps22
    go_wp2
    go_ret
    exact ⟨ret_bool HE.out, Below.refl _ _⟩

set_option maxHeartbeats 800000 in
theorem samelinks_any (a : Option Addr) (cap : Nat) (a' : Option Addr) (cap' : Nat) (w : World) (xs ys : List Lk) (hx : Row w a cap xs) (hy : Row w a' cap' ys) :
    Calls Try.prog 25 #[.slice a xs.length cap, .slice a' ys.length cap'] w fun e w' => e = .returned (.bool (decide (xs = ys))) ∧ Below w.heap.size w w' := by
  have hm := hx.max
  have hm2 := hx.le
  have hm3 := hy.max
  have hm4 := hy.le
  by_cases hlen : xs.length = ys.length
  · have hlt2 : ys.length ≤ xs.length := by omega
    have hlt3 : xs.length ≤ ys.length := by omega
    have hne : ((xs.length : Int) != (ys.length : Int)) = false := by simp [hlen]
    clear hlen
    go_enter Try.func25, Try.ntmps25
    go_wp2
    go_loopw [5] (fun i wr => ∃ k : Nat, k ≤ xs.length ∧ i = .int .i64 k ∧ Below w.heap.size w wr ∧ Hid (xs.take k = ys.take k)) (fun i wr => xs.length - (intOf i).toNat)
    case atStart => exact ⟨0, Nat.zero_le _, rfl, Below.refl _ _, rfl⟩
    case round =>
      obtain ⟨k, hk, rfl, hbl, HS⟩ := hrel
      by_cases hlt : k < xs.length
      · have hlt' : k < ys.length := by omega
        obtain ⟨b, off, rfl, hb, hat⟩ := hx.cases.resolve_left (fun e => by simp [e] at hlt)
        obtain ⟨b', off', rfl, hb', hat'⟩ := hy.cases.resolve_left (fun e => by simp [e] at hlt')
        obtain ⟨c0, c1, c2, _⟩ := lk_at hat hbl hlt
        obtain ⟨d0, d1, d2, _⟩ := lk_at hat' hbl hlt'
        have hne := fun w => run_neq_lk xs[k] ys[k] w
        by_cases he : xs[k] = ys[k]
        · have HT : Hid (xs.take (k + 1) = ys.take (k + 1)) := take_eq_snoc HS.out hlt hlt' he
          rw [decide_eq_true he] at hne
          clear he HS
          go_wp2
          go_quiet (fail)
          go_wp2
          go_round
          case rel => exact ⟨k + 1, by omega, by go_num, hbl.then (drewN_below _ _), HT⟩
          case measure => simp [intOf]; omega
        · have HE : Hid (false = decide (xs = ys)) := by
            rw [Hid, decide_eq_false]; intro e; subst e; exact he rfl
          rw [decide_eq_false he] at hne
          clear he HS
          go_wp2
          go_quiet (fail)
          go_wp2
          go_ret
          exact ⟨ret_bool HE.out, hbl.then (drewN_below _ _)⟩
      · have HE : Hid (true = decide (xs = ys)) := by
          rw [Hid, decide_eq_true (take_all HS.out (by omega) (by omega))]
        clear HS
        go_wp2
        go_ret
        exact ⟨ret_bool HE.out, hbl⟩
  · have HE : Hid (false = decide (xs = ys)) := by
      rw [Hid, decide_eq_false]; intro e; rw [e] at hlen; exact hlen rfl
    have hne : ((xs.length : Int) != (ys.length : Int)) = true := by simp; omega
    clear hlen
    go_enter Try.func25, Try.ntmps25
    go_wp2
    go_ret
    exact ⟨ret_bool HE.out, Below.refl _ _⟩

/-! ### a row of numbers that is stored into -/
section
variable {B e g n cap : Nat} {acc : List Int} {w : World}
theorem AccInv.lenI (h : AccInv B e acc (.slice (some ⟨g, 0, none⟩) n cap) w) : n = acc.length := by
  obtain ⟨vs, ⟨h1, h2⟩, hc⟩ := h.ex
  rcases h2 with ⟨h, _⟩ | ⟨g', cap', cur, e1, _⟩
  · cases h
  · injection e1
theorem crowsI_get {w : World} {vs : List Value} {xs : List Int} (h : CRows w vs xs) : vs = xs.map (Value.int .i64) ∧ ∀ x ∈ xs, -9223372036854775808 ≤ x ∧ x ≤ 9223372036854775807 := by
  induction h with
  | nil => exact ⟨rfl, by simp⟩
  | @cons cs x vs xs hc _ ih =>
    obtain ⟨rfl, h1, h2⟩ := hc
    exact ⟨by rw [ih.1]; rfl, fun y hy => by
      rcases List.mem_cons.1 hy with rfl | hy
      · exact ⟨h1, h2⟩
      · exact ih.2 y hy⟩
theorem AccInv.own (h : AccInv B e acc (.slice (some ⟨g, 0, none⟩) n cap) w) : w.ownsRow B e 1 (.slice (some ⟨g, 0, none⟩) n cap) acc.length (acc.map (Value.int .i64)) ∧ ∀ x ∈ acc, -9223372036854775808 ≤ x ∧ x ≤ 9223372036854775807 := by
  obtain ⟨vs, ho, hc⟩ := h.ex
  obtain ⟨rfl, hf⟩ := crowsI_get hc
  exact ⟨ho, hf⟩
theorem AccInv.ofOwn {v : Value} (h : w.ownsRow B e 1 v acc.length (acc.map (Value.int .i64))) (hf : ∀ x ∈ acc, -9223372036854775808 ≤ x ∧ x ≤ 9223372036854775807) : AccInv B e acc v w := ⟨_, h, crows_ints _ hf⟩
theorem AccInv.getI (h : AccInv B e acc (.slice (some ⟨g, 0, none⟩) n cap) w) {i : Nat} (hi : i < acc.length) : w.cell? ⟨g, i, none⟩ = some (.int .i64 acc[i]) ∧ w.frozen? ⟨g, i, none⟩ = false := by
  obtain rfl := h.lenI
  obtain ⟨ho, _⟩ := h.own
  exact ⟨own_cells ho i _ (by simp [List.getElem?_eq_getElem hi]), ho.frozenAt i⟩
theorem AccInv.setI (h : AccInv B e acc (.slice (some ⟨g, 0, none⟩) n cap) w) (i : Nat) (y : Int) (h1 : -9223372036854775808 ≤ y) (h2 : y ≤ 9223372036854775807) :
    AccInv B e (acc.set i y) (.slice (some ⟨g, 0, none⟩) n cap) (w.setCell ⟨g, i, none⟩ (.int .i64 y)) ∧ w.grownBy (w.setCell ⟨g, i, none⟩ (.int .i64 y)) (some g) := by
  obtain rfl := h.lenI
  obtain ⟨ho, hf⟩ := h.own
  obtain ⟨o1, g1⟩ := ho.stored i (.int .i64 y)
  refine ⟨⟨_, ?_, crows_ints _ (xs := acc.set i y) (fun x hx => ?_)⟩, g1⟩
  · rw [List.length_set, List.map_set]; exact o1
  · rcases List.mem_or_eq_of_mem_set hx with h | rfl
    · exact hf x h
    · exact ⟨h1, h2⟩
end
end Go.Proofs.Ytkgebkinlpmpnaa
namespace Go.Proofs.Ytkgebkinlpmpnaa
open Go.RowKit

/-- links between places of a row -/
def LkIn (n : Nat) (l : List Lk) : Prop := ∀ k ∈ l, 0 ≤ k.f ∧ k.f < (n : Int) ∧ 0 ≤ k.t ∧ k.t < (n : Int)
def Le (m : List Int) (b : Int) : Prop := ∀ x ∈ m, 0 ≤ x ∧ x ≤ b
theorem Le.at_ {m : List Int} {b : Int} (h : Le m b) {i : Nat} (hi : i < m.length) : 0 ≤ m[i] ∧ m[i] ≤ b := h _ (List.getElem_mem hi)
theorem Le.set {m : List Int} {b : Int} (h : Le m b) {i : Nat} {y : Int} (h1 : 0 ≤ y) (h2 : y ≤ b) : Le (m.set i y) b := fun x hx => by
  rcases List.mem_or_eq_of_mem_set hx with h' | rfl
  · exact h x h'
  · exact ⟨h1, h2⟩
theorem raise1_at {m O : List Int} {k : Lk} (hf : k.f.toNat < O.length) (ht : k.t.toNat < m.length) : raise1 m O k = if O[k.f.toNat] < m[k.t.toNat] + negI k.neg then O.set k.f.toNat (m[k.t.toNat] + negI k.neg) else O := by
  unfold raise1
  rw [List.getD_eq_getElem?_getD, List.getD_eq_getElem?_getD, List.getElem?_eq_getElem hf, List.getElem?_eq_getElem ht]
  rfl
theorem raise_step {m O : List Int} {l : List Lk} {k : Nat} (hk : k < l.length) : (l.drop k).foldl (raise1 m) O = (l.drop (k + 1)).foldl (raise1 m) (raise1 m O l[k]) := by
  rw [List.drop_eq_getElem_cons hk]; rfl
theorem AccInv.at0 {B e : Nat} {acc : List Int} {v : Value} {w : World} (h : AccInv B e acc v w) (h0 : 0 < acc.length) : ∃ g cap, v = .slice (some ⟨g, 0, none⟩) acc.length cap := by
  obtain ⟨vs, ho, _⟩ := h.ex
  rcases ho.2 with ⟨_, hn⟩ | ⟨g, cap, cur, e1, _⟩
  · omega
  · exact ⟨g, cap, e1⟩

set_option maxHeartbeats 3200000 in
theorem refraise_any (a : Option Addr) (cap : Nat) (a' : Option Addr) (cap' : Nat) (w : World) (m : List Int) (l : List Lk) (hr : Row w a cap m) (hr' : Row w a' cap' l) (HL : Hid (LkIn m.length l)) (HB : Hid (Le m 10000)) (hl : m.length ≤ 100000) :
    Calls Try.prog 44 #[.slice a m.length cap, .slice a' l.length cap'] w fun e w' => ∃ v, e = .returned v ∧ AccInv w.heap.size 3 (raiseL m l) v w' ∧ Below w.heap.size w w' := by
  have hm := hr'.max
  have hm2 := hr'.le
  have hm3 := hr.max
  have hm4 := hr.le
  have hm0 := AccInv.made (α := Int) (B := w.heap.size) (e := 3) (T := 3) w (Nat.le_refl _) rfl
  have hb0 := (Below.refl w.heap.size w).new (.cells #[] 3)
  have hro : Row (hide (Value.slice (some ⟨w.heap.size, 0, none⟩) 0 0).ownBlock (w.alloc (.cells #[] 3))) a cap m := hr.keeps (hm0.fresh hb0)
  go_enter Try.func44, Try.ntmps44
  go_wp2_with (at_builtin; refine wpList_accs (α := Int) rfl _ _ 33 rfl w.heap.size 3 8 _ Try.underlying33 Try.infoInt rfl (by decide) _ [] hm0 (by rfl) _ _ m hro (by rfl) (by simp; omega) (by simp) ?_; intro v5 w5 hacc5 hb5)
  rw [List.nil_append] at hacc5
  have hb5' := hb0.trans hb5
  clear hro hm0 hb0 hb5
  go_wp2
  go_loopw [6, 7] (fun i _ wr => ∃ (k : Nat) (O : List Int), k ≤ l.length ∧ i = .int .i64 k ∧ O.length ≤ m.length ∧ m.length ≤ O.length ∧ AccInv w.heap.size 3 O v5 wr ∧ Below w.heap.size w wr ∧ Hid (Le O 10001) ∧ Hid (raiseL m l = (l.drop k).foldl (raise1 m) O)) (fun i _ wr => l.length - (intOf i).toNat)
  case atStart => exact ⟨0, m, Nat.zero_le _, rfl, Nat.le_refl _, Nat.le_refl _, hacc5, hb5', fun x hx => by have := HB.out x hx; omega, rfl⟩
  case round =>
    obtain ⟨k, O, hk, rfl, hO1, hO2, hacc, hbl, HO, HS⟩ := hrel
    by_cases hlt : k < l.length
    · obtain ⟨b', off', rfl, hb', hat'⟩ := hr'.cases.resolve_left (fun e => by simp [e] at hlt)
      obtain ⟨c0, c1, c2, hlf⟩ := lk_at hat' hbl hlt
      obtain ⟨f1, f2, t1, t2⟩ := HL.out _ (List.getElem_mem hlt)
      have hft : l[k].f.toNat < O.length := by omega
      have htt : l[k].t.toNat < m.length := by omega
      obtain ⟨b, off, rfl, hb, hat⟩ := hr.cases.resolve_left (fun e => by simp [e] at htt)
      obtain ⟨d0, _, _⟩ := int_at hat hbl htt
      obtain ⟨g, capo, rfl⟩ := hacc.at0 (by omega)
      obtain ⟨e0, e1⟩ := hacc.getI hft
      obtain ⟨mt1, mt2⟩ := HB.out.at_ htt
      obtain ⟨ot1, ot2⟩ := HO.out.at_ hft
      have hst := raise_step (m := m) (O := O) hlt
      rw [raise1_at hft htt] at hst
      obtain ⟨hol, hoc⟩ : O.length ≤ capo ∧ capo ≤ 9223372036854775807 := by
        obtain ⟨a9, c9, h9, hr9⟩ := hacc.row
        injection h9 with _ _ h9
        subst h9
        exact ⟨hr9.le, hr9.max⟩
      generalize hM : m[l[k].t.toNat] = M at d0 mt1 mt2 hst
      generalize hX : O[l[k].f.toNat] = X at e0 ot1 ot2 hst
      clear hM hX
      cases hN : l[k].neg with
      | false =>
        rw [hN] at c2 hst
        have hz : M + negI false = M := by simp [negI]
        rw [hz] at hst
        by_cases hlx : X < M
        · have hd : decide (X < M) = true := by simpa using hlx
          have HT : Hid (raiseL m l = (l.drop (k + 1)).foldl (raise1 m) (O.set l[k].f.toNat M)) := by rw [Hid, HS.out, hst, if_pos hlx]
          obtain ⟨hacc2, hg2⟩ := hacc.setI l[k].f.toNat M (by omega) (by omega)
          have HO2 : Hid (Le (O.set l[k].f.toNat M) 10001) := HO.out.set (by omega) (by omega)
          have hg0 := (hacc.lt g rfl).1
          clear hN HS hst hz hlx
          go_wp2
          go_round
          case rel => exact ⟨k + 1, _, by omega, by go_num, by simpa using hO1, by simpa using hO2, hacc2, hbl.grown hg2 hbl.size (fun k e => by cases e; exact hg0), HO2, HT⟩
          case measure => simp [intOf]; omega
        · have hd : decide (X < M) = false := by simpa using hlx
          have HT : Hid (raiseL m l = (l.drop (k + 1)).foldl (raise1 m) O) := by rw [Hid, HS.out, hst, if_neg hlx]
          clear hN HS hst hz hlx
          go_wp2
          go_round
          case rel => exact ⟨k + 1, _, by omega, by go_num, hO1, hO2, hacc, hbl, HO, HT⟩
          case measure => simp [intOf]; omega
      | true =>
        rw [hN] at c2 hst
        have hz : M + negI true = M + 1 := by simp [negI]
        rw [hz] at hst
        by_cases hlx : X < M + 1
        · have hd : decide (X < M + 1) = true := by simpa using hlx
          have HT : Hid (raiseL m l = (l.drop (k + 1)).foldl (raise1 m) (O.set l[k].f.toNat (M + 1))) := by rw [Hid, HS.out, hst, if_pos hlx]
          obtain ⟨hacc2, hg2⟩ := hacc.setI l[k].f.toNat (M + 1) (by omega) (by omega)
          have HO2 : Hid (Le (O.set l[k].f.toNat (M + 1)) 10001) := HO.out.set (by omega) (by omega)
          have hg0 := (hacc.lt g rfl).1
          clear hN HS hst hz hlx
          go_wp2
          go_round
          case rel => exact ⟨k + 1, _, by omega, by go_num, by simpa using hO1, by simpa using hO2, hacc2, hbl.grown hg2 hbl.size (fun k e => by cases e; exact hg0), HO2, HT⟩
          case measure => simp [intOf]; omega
        · have hd : decide (X < M + 1) = false := by simpa using hlx
          have HT : Hid (raiseL m l = (l.drop (k + 1)).foldl (raise1 m) O) := by rw [Hid, HS.out, hst, if_neg hlx]
          clear hN HS hst hz hlx
          go_wp2
          go_round
          case rel => exact ⟨k + 1, _, by omega, by go_num, hO1, hO2, hacc, hbl, HO, HT⟩
          case measure => simp [intOf]; omega
    · have HT : Hid (raiseL m l = O) := by rw [Hid, HS.out, List.drop_eq_nil_of_le (by omega)]; rfl
      clear HS
      go_wp2
      go_ret
      exact ⟨_, rfl, by rw [HT.out]; exact hacc, hbl⟩
end Go.Proofs.Ytkgebkinlpmpnaa
namespace Go.Proofs.Ytkgebkinlpmpnaa
open Go.RowKit

theorem made_intsK (n : Nat) : madeCells (Value.int .i64 0).cells n = Array.replicate n (Value.int .i64 0) := by
  unfold madeCells
  simp only [Value.cells]
  apply Array.ext
  · simp
  · intro i h1 h2
    simp [Nat.mod_one]
/-- make of a slice of numbers, as a run -/
theorem run_intsK (n : Nat) (hn : n ≤ 1000000) (w : World) : (Instr.makeSlice 33 (.int .i64 n) (.int .i64 n)).run Try.prog w = .ok (.slice (some ⟨w.heap.size, 0, none⟩) n n) (w.alloc (.cells (Array.replicate n (Value.int .i64 0)) 3)) := by
  obtain ⟨i, hi, hz0, hz1, hz2⟩ := info_parts Try.infoInt
  have hrun := run_make (P := Try.prog) w 33 3 i _ Try.underlying33 hi hz0 .i64 .i64 n n (by omega) (Int.le_refl _) (by rw [hz2]; omega) (by omega)
  rw [hz1, Nat.mul_one, Int.toNat_natCast, made_intsK] at hrun
  exact hrun
theorem acc_zeros (w : World) (n B : Nat) (hB : B ≤ w.heap.size) (hn : n ≤ 1000000) : AccInv B 3 (List.replicate n (0 : Int)) (.slice (some ⟨w.heap.size, 0, none⟩) n n) (w.alloc (.cells (Array.replicate n (Value.int .i64 0)) 3)) := by
  refine ⟨List.replicate n (Value.int .i64 0), ⟨by simp; exact (Nat.mul_one n).symm, .inr ⟨w.heap.size, n, _, by simp, hB, heap_alloc_new w _, by simp, by unfold maxLen; omega, by simp; exact (Nat.mul_one n).symm, ?_⟩⟩, ?_⟩
  · simp only [List.length_replicate, Array.toList_replicate]; rw [show n * Rep.sz Int = n from Nat.mul_one n, List.take_replicate, Nat.min_self]
  · have := crows_ints (hide (Value.slice (some ⟨w.heap.size, 0, none⟩) n n).ownBlock (w.alloc (.cells (Array.replicate n (Value.int .i64 0)) 3))) (xs := List.replicate n (0 : Int)) (fun x hx => by rw [List.eq_of_mem_replicate hx]; omega)
    rwa [List.map_replicate] at this

theorem raiseGo_len (m : List Int) (l : List Lk) : ∀ O : List Int, (l.foldl (raise1 m) O).length = O.length := by
  induction l with
  | nil => intro O; rfl
  | cons k l ih =>
    intro O
    rw [List.foldl_cons, ih]
    unfold raise1
    split
    · simp
    · rfl
theorem raise_len (m : List Int) (l : List Lk) : (raiseL m l).length = m.length := raiseGo_len m l m
theorem negI_le (b : Bool) : 0 ≤ negI b ∧ negI b ≤ 1 := by cases b <;> simp [negI]
theorem raiseGo_le {m : List Int} {b : Int} (hm : Le m b) (hb : 0 ≤ b) (l : List Lk) : ∀ O : List Int, Le O (b + 1) → Le (l.foldl (raise1 m) O) (b + 1) := by
  induction l with
  | nil => intro O h; exact h
  | cons k l ih =>
    intro O h
    refine ih _ ?_
    unfold raise1
    have hg : 0 ≤ m.getD k.t.toNat 0 ∧ m.getD k.t.toNat 0 ≤ b := by
      rw [List.getD_eq_getElem?_getD]
      cases e : m[k.t.toNat]? with
      | none => exact ⟨Int.le_refl _, hb⟩
      | some x => exact hm x (List.mem_of_getElem? e)
    have hn := negI_le k.neg
    split
    · exact h.set (by omega) (by omega)
    · exact h
theorem raise_le {m : List Int} {b : Int} (hm : Le m b) (hb : 0 ≤ b) (l : List Lk) : Le (raiseL m l) (b + 1) := raiseGo_le hm hb l m (fun x hx => by have := hm x hx; omega)

theorem linkAt_in {m : List Cl} {P : List Pd} {i k : Nat} (hi : i < P.length) (hk : k < P.length) : LkIn P.length (linkAt m P i k) := by
  intro x hx
  rw [linkAt_of m hi hk] at hx
  rcases List.mem_append.1 hx with h | h
  · split at h
    · simp at h; subst h; simp; omega
    · simp at h
  · split at h
    · simp at h; subst h; simp; omega
    · simp at h
theorem links_lkin (m : List Cl) : LkIn (predsL m).length (linksL m) := by
  intro x hx
  rw [links_eq] at hx
  obtain ⟨i, hi, hx⟩ := List.mem_flatMap.1 hx
  obtain ⟨k, hk, hx⟩ := List.mem_flatMap.1 hx
  exact linkAt_in (by simpa using hi) (by simpa using hk) x hx

/-- what telling levels comes to -/
def LevPost (o : Option (List Int)) (w : World) (e : Ending) (w' : World) : Prop := Below w.heap.size w w' ∧ match o with
  | none => e = .returned (.tuple #[.slice none 0 0, .bool false])
  | some L => ∃ a cap, e = .returned (.tuple #[.slice a L.length cap, .bool true]) ∧ NewRow w.heap.size w' a cap L

theorem acc_newI {B e : Nat} {acc : List Int} {v : Value} {w : World} (h : AccInv B e acc v w) : ∃ a cap, v = .slice a acc.length cap ∧ NewRow B w a cap acc := by
  obtain ⟨vs, ho, hc⟩ := h.ex
  obtain ⟨rfl, hf⟩ := crowsI_get hc
  exact own_newG (α := Int) ho (crows_ints _ hf)
theorem le_mono {m : List Int} {b c : Int} (h : Le m b) (hb : b ≤ c) : Le m c := fun x hx => by have := h x hx; omega
theorem any_le {m : List Int} {n : Int} (h : m.any (fun x => decide (n < x)) = false) {c : Int} (hc : Le m c) : Le m n := fun x hx => by
  rw [List.any_eq_false] at h
  have h1 := h x hx
  have h2 := hc x hx
  simp at h1
  omega
theorem lev_step (n : Nat) (k : List Lk) (g : Nat) (m : List Int) : levGo n k (g + 1) m = if raiseL m k = m then some m else if (raiseL m k).any (fun x => decide ((n : Int) < x)) then none else levGo n k g (raiseL m k) := rfl

set_option maxHeartbeats 3200000 in
theorem reflevels_any (a : Option Addr) (cap : Nat) (w : World) (m : List Cl) (hr : Row w a cap m) (HM : Hid (Mays m)) (hl : m.length ≤ 1000) :
    Calls Try.prog 19 #[.slice a m.length cap] w fun e w' => LevPost (levelsL m) w e w' := by
  have hm := hr.max
  have hm2 := hr.le
  have hpl := preds_len HM.out
  have HLK := mkHid (links_lkin m)
  have HE : Hid (levelsL m = levelsOf (predsL m).length (linksL m)) := rfl
  go_enter Try.func19, Try.ntmps19
  go_wp2_with (go_at_call 21; refine (refpreds_any _ _ _ _ hr HM hl).mono ?_; rintro e w1 ⟨vp, rfl, haccp, hb1⟩; obtain ⟨ap, capp, rfl, hrowp⟩ := haccp.row; have hrm := hr.below hb1)
  obtain ⟨n, hn⟩ : ∃ n, (predsL m).length = n := ⟨_, rfl⟩
  rw [hn] at hpl HE HLK
  rw [hn]
  clear haccp hrowp hn
  go_wp2_with (go_at_call 27; refine (reflinks_any _ _ _ _ hrm HM hl).mono ?_; rintro e w2 ⟨vk, rfl, hacck, hb2⟩; obtain ⟨ak, capk, rfl, hrowk⟩ := hacck.row; have hms := run_intsK n (by omega))
  obtain ⟨K, hK⟩ : ∃ K, linksL m = K := ⟨_, rfl⟩
  rw [hK] at hrowk HE HLK
  rw [hK]
  have hz := acc_zeros w2 n w2.heap.size (Nat.le_refl _) (by omega)
  have hb3 := (Below.refl w2.heap.size w2).new (.cells (Array.replicate n (Value.int .i64 0)) 3)
  have hw2 := hb1.then hb2
  have hq0 := hrowk.max
  have hq1 := hrowk.le
  have hnn1 : (0 : Int) ≤ (n : Int) * n := Int.mul_nonneg (by omega) (by omega)
  have hnn2 : (n : Int) * n ≤ 81000000 := by
    have h1 : n * n ≤ 9000 * 9000 := Nat.mul_le_mul (by omega) (by omega)
    have h2 : ((n * n : Nat) : Int) ≤ ((9000 * 9000 : Nat) : Int) := Int.ofNat_le.2 h1
    simpa using h2
  have hb03 := hw2.then hb3
  have hnew := (acc_newI hz)
  obtain ⟨az, cz, ez, hnz⟩ := hnew
  injection ez with ez1 ez2 ez3
  subst ez1; subst ez3
  have hnz' := hnz.mono (B' := w.heap.size) hw2.size
  have HLZ : Hid (Le (List.replicate n (0 : Int)) n) := fun x hx => by rw [List.eq_of_mem_replicate hx]; omega
  have HLL : Hid ((List.replicate n (0 : Int)).length = n) := List.length_replicate
  obtain ⟨F, hF⟩ : ∃ F, n * n + n + 1 = F := ⟨_, rfl⟩
  have HFI : Hid ((n : Int) * n + n + 1 = F) := by rw [Hid, ← hF]; simp
  have hF2 : F ≤ 81009001 := by have := HFI.out; omega
  have HE2 : Hid (levelsL m = levGo n K F (List.replicate n 0)) := by rw [Hid, HE.out, ← hF]; rfl
  clear hacck hK hrm hz hnz hF HE ez2
  go_wp2
  go_loopw [6, 7] (fun v i wr => ∃ (k g : Nat) (M : List Int) (am : Option Addr) (cm : Nat), k ≤ F ∧ i = .int .i64 k ∧ v = .slice am n cm ∧ NewRow w.heap.size wr am cm M ∧ Below w2.heap.size w2 wr ∧ Hid (M.length = n) ∧ Hid (Le M n) ∧ Hid (k + g = F) ∧ Hid (levelsL m = levGo n K g M)) (fun v i wr => F - (intOf i).toNat)
  case atStart => exact ⟨0, F, List.replicate n 0, _, _, Nat.zero_le _, rfl, rfl, hnz', hb3, HLL, HLZ, Nat.zero_add _, HE2⟩
  case round =>
    obtain ⟨k, g, M, am, cm, hk, rfl, rfl, hnM, hbl, HML, HLM, HG, HS⟩ := hrel
    cases g with
    | zero =>
      have hd : decide ((k : Int) ≤ (n : Int) * n + n) = false := by have := HG.out; have := HFI.out; simp; omega
      have HT : Hid (levelsL m = none) := HS.out
      clear HS
      go_wp2
      go_ret2
      refine ⟨hw2.then hbl, ?_⟩
      rw [HT.out]
      rfl
    | succ g =>
      have hd : decide ((k : Int) ≤ (n : Int) * n + n) = true := by have := HG.out; have := HFI.out; simp; omega
      have hst := lev_step n K g M
      have HB : Hid (Le M 10000) := le_mono HLM.out (by omega)
      have HL : Hid (LkIn M.length K) := by rw [Hid, HML.out]; exact HLK.out
      have hML : M.length ≤ 100000 := by have := HML.out; omega
      have hrk := hrowk.below hbl
      have HNL : Hid ((raiseL M K).length = n) := by rw [Hid, raise_len]; exact HML.out
      have HNB : Hid (Le (raiseL M K) (n + 1)) := raise_le HLM.out (by omega) K
      have hrM := hnM.row
      have hcall := fun (w' : World) (h1 : Row w' am cm M) (h2 : Row w' ak capk K) => refraise_any am cm ak capk w' M K h1 h2 HL HB hML
      rw [HML.out] at hcall
      have HC := mkHid hcall
      have hints := fun (w' : World) (a1 : Option Addr) (c1 : Nat) (h1 : Row w' a1 c1 (raiseL M K)) (h2 : Row w' am cm M) => ints7_any a1 c1 am cm w' (raiseL M K) M h1 h2
      rw [HNL.out, HML.out] at hints
      have HI := mkHid hints
      clear hcall hints
      cases hEq : decide (raiseL M K = M) with
      | true =>
        have HEq := mkHid hEq
        have HT : Hid (levelsL m = some M) := by rw [Hid, HS.out, hst, if_pos (by simpa using hEq)]
        clear hEq hst HS
        go_wp2_with (first
          | (go_at_call 44; refine (HC.out _ hrM hrk).mono ?_; rintro e w4 ⟨v4, rfl, hacc4, hb4⟩; obtain ⟨a4, c4, rfl, hr4⟩ := hacc4.row)
          | (go_at_call 22; rw [HNL.out]; refine (HI.out _ _ _ hr4 (hrM.below hb4)).mono ?_; rintro e w5 ⟨rfl, hb5⟩; rw [HEq.out]))
        go_ret2
        refine ⟨(hw2.then hbl).then (hb4.then hb5), ?_⟩
        rw [HT.out]
        exact ⟨_, _, by rw [HML.out]; rfl, (hnM.below hb4).below hb5⟩
      | false =>
        have HEq := mkHid hEq
        have HT : Hid (levelsL m = if (raiseL M K).any (fun x => decide ((n : Int) < x)) then none else levGo n K g (raiseL M K)) := by rw [Hid, HS.out, hst, if_neg (by simpa using hEq)]
        clear hEq hst HS
        go_wp2_with (first
          | (go_at_call 44; refine (HC.out _ hrM hrk).mono ?_; rintro e w4 ⟨v4, rfl, hacc4, hb4⟩; obtain ⟨a4, c4, rfl, hr4⟩ := hacc4.row)
          | (go_at_call 22; rw [HNL.out]; refine (HI.out _ _ _ hr4 (hrM.below hb4)).mono ?_; rintro e w5 ⟨rfl, hb5⟩; rw [HEq.out]))
        have hr5 := hr4.below hb5
        obtain ⟨a6, c6, e6, hn6⟩ := acc_newI (hacc4.below hb5)
        injection e6 with e61 e62 e63
        subst e61; subst e63
        have hn7 := hn6.mono (B' := w.heap.size) (hw2.then hbl).size
        obtain ⟨N, hN⟩ : ∃ N, raiseL M K = N := ⟨_, rfl⟩
        rw [hN] at hr5 hn7 HT HNL HNB
        have hx5 := hr5.max
        have hx6 := hr5.le
        have hx7 : N.length ≤ n := by have := HNL.out; omega
        have hx8 : n ≤ N.length := by have := HNL.out; omega
        have hb6 := hbl.then (hb4.then hb5)
        clear hN hn6 hr4 hacc4 e62 hnM hrM HC HI HB HL
        go_wp2
        go_loop [9] (fun i => ∃ j : Nat, j ≤ n ∧ i = .int .i64 j ∧ Hid ((N.take j).all (fun x => !decide ((n : Int) < x)) = true)) (fun i => n - (intOf i).toNat)
        case atStart => exact ⟨0, Nat.zero_le _, rfl, by simp [Hid]⟩
        case round =>
          obtain ⟨j, hj, rfl, HJ⟩ := hrel
          by_cases hjl : j < n
          · have hjN : j < N.length := by omega
            obtain ⟨b, off, rfl, hb, hat⟩ := hr5.cases.resolve_left (fun e => by simp [e] at hjN)
            obtain ⟨c0, hlo, hhi⟩ := int_at hat (Below.refl _ _) hjN
            by_cases hgt : (n : Int) < N[j]
            · have hd2 : decide ((n : Int) < N[j]) = true := by simpa using hgt
              have HT2 : Hid (levelsL m = none) := by
                rw [Hid, HT.out, if_pos]; rw [List.any_eq_true]; exact ⟨N[j], List.getElem_mem hjN, hd2⟩
              clear hgt HT HJ
              go_wp2
              go_ret2
              refine ⟨hw2.then hb6, ?_⟩
              rw [HT2.out]
              rfl
            · have hd2 : decide ((n : Int) < N[j]) = false := by simpa using hgt
              have HJ2 := mkHid (scan_next (p := fun x => !decide ((n : Int) < x)) HJ.out hjN (by rw [hd2]; rfl))
              clear hgt HJ
              go_wp2
              go_round
              case rel => exact ⟨j + 1, by omega, by go_num, HJ2⟩
              case measure => simp [intOf]; omega
          · have hany : N.any (fun x => decide ((n : Int) < x)) = false := all_any (scan_end HJ.out (by omega))
            have HT2 : Hid (levelsL m = levGo n K g N) := by rw [Hid, HT.out, hany]; rfl
            have HLN : Hid (Le N n) := any_le hany HNB.out
            have hkF : k < F := by have := HG.out; omega
            have HG2 : Hid (k + 1 + g = F) := by have := HG.out; simp only [Hid]; omega
            clear hany HT HJ HG
            go_wp2
            go_round
            case rel => exact ⟨k + 1, g, N, _, _, by omega, by go_num, rfl, hn7, hb6, HNL, HLN, HG2, HT2⟩
            case measure => simp [intOf]; omega
end Go.Proofs.Ytkgebkinlpmpnaa
namespace Go.Proofs.Ytkgebkinlpmpnaa
open Go.RowKit

set_option maxHeartbeats 800000 in
theorem refright7_any (a : Option Addr) (cap : Nat) (w : World) (m : List Cl) (hr : Row w a cap m) :
    Calls Try.prog 16 #[.slice a m.length cap] w fun e w' => e = .returned (.bool (rightP m)) ∧ Below w.heap.size w w' := by
  have hm := hr.max
  have hm2 := hr.le
  go_enter Try.func16, Try.ntmps16
  go_wp2
  go_loopw [3] (fun i wr => ∃ k : Nat, k ≤ m.length ∧ i = .int .i64 k ∧ Below w.heap.size w wr ∧ Hid ((m.take k).all safeB = true)) (fun i wr => m.length - (intOf i).toNat)
  case atStart => exact ⟨0, Nat.zero_le _, rfl, Below.refl _ _, rfl⟩
  case round =>
    obtain ⟨k, hk, rfl, hbl, HS⟩ := hrel
    by_cases hlt : k < m.length
    · obtain ⟨b, off, rfl, hb, hat⟩ := hr.cases.resolve_left (fun e => by simp [e] at hlt)
      obtain ⟨a1, cap1, a2, cap2, c0, c1, hr1, hr2⟩ := cl_at hat hbl hlt
      cases hA : safeB m[k] with
      | true =>
        have HA := mkHid hA
        have HT := mkHid (scan_next (p := safeB) HS.out hlt hA)
        clear hA HS
        go_wp2_with (go_at_call 14; refine (refsafe_any _ _ _ _ _ _ _ hr1 hr2).mono ?_; rintro e w' ⟨rfl, hb1⟩; rw [show safeB ⟨m[k].h, m[k].b⟩ = true from HA.out])
        go_round
        case rel => exact ⟨k + 1, by omega, by go_num, hbl.then hb1, HT⟩
        case measure => simp [intOf]; omega
      | false =>
        have HA := mkHid hA
        have HF : Hid (rightP m = false) := by simp only [Hid, rightP]; rw [scan_bad (p := safeB) hlt hA]; simp
        clear hA HS
        go_wp2_with (go_at_call 14; refine (refsafe_any _ _ _ _ _ _ _ hr1 hr2).mono ?_; rintro e w' ⟨rfl, hb1⟩; rw [show safeB ⟨m[k].h, m[k].b⟩ = false from HA.out])
        go_ret
        exact ⟨ret_bool HF.out.symm, hbl.then hb1⟩
    · have HF : Hid (rightP m = decide ((m.length : Int) ≤ 64)) := by
        simp only [Hid, rightP]; rw [scan_end HS.out (by omega)]; simp; omega
      clear HS
      go_wp2
      go_ret
      exact ⟨ret_bool HF.out.symm, hbl⟩

set_option maxHeartbeats 800000 in
theorem rightprog_any (a : Option Addr) (cap : Nat) (w : World) (m : List Cl) (hr : Row w a cap m) :
    Calls Try.prog 15 #[.slice a m.length cap] w fun e w' => e = .returned (.bool (rightP m)) ∧ Below w.heap.size w w' := by
  have hm := hr.max
  have hm2 := hr.le
  by_cases h64 : m.length ≤ 64
  · go_enter Try.func15, Try.ntmps15
    go_wp2
    go_loopw [10] (fun i wr => ∃ k : Nat, k ≤ m.length ∧ i = .int .i64 k ∧ Below w.heap.size w wr ∧ Hid ((m.take k).all safeB = true)) (fun i wr => m.length - (intOf i).toNat)
    case atStart => exact ⟨0, Nat.zero_le _, rfl, Below.refl _ _, rfl⟩
    case round =>
      obtain ⟨k, hk, rfl, hbl, HS⟩ := hrel
      by_cases hlt : k < m.length
      · obtain ⟨b, off, rfl, hb, hat⟩ := hr.cases.resolve_left (fun e => by simp [e] at hlt)
        obtain ⟨a1, cap1, a2, cap2, c0, c1, hr1, hr2⟩ := cl_at hat hbl hlt
        have hbx : Below wr.heap.size wr (wr.alloc (.cells #[.slice a1 m[k].h.length cap1, .slice a2 m[k].b.length cap2] 31)) := (Below.refl _ _).new _
        cases hA : safeB m[k] with
        | true =>
          have HA := mkHid hA
          have HT := mkHid (scan_next (p := safeB) HS.out hlt hA)
          clear hA HS
          go_wp2_with (go_at_call 13; refine (safep_any _ _ _ _ _ _ _ (hr1.below hbx) (hr2.below hbx)).mono ?_; rintro e w' ⟨rfl, hb1⟩; rw [show safeB ⟨m[k].h, m[k].b⟩ = true from HA.out])
          go_round
          case rel => exact ⟨k + 1, by omega, by go_num, (hbl.then hbx).then hb1, HT⟩
          case measure => simp [intOf]; omega
        | false =>
          have HA := mkHid hA
          have HF : Hid (rightP m = false) := by simp only [Hid, rightP]; rw [scan_bad (p := safeB) hlt hA]; simp
          clear hA HS
          go_wp2_with (go_at_call 13; refine (safep_any _ _ _ _ _ _ _ (hr1.below hbx) (hr2.below hbx)).mono ?_; rintro e w' ⟨rfl, hb1⟩; rw [show safeB ⟨m[k].h, m[k].b⟩ = false from HA.out])
          go_ret
          exact ⟨ret_bool HF.out.symm, (hbl.then hbx).then hb1⟩
      · have HF : Hid (rightP m = true) := by
          simp only [Hid, rightP]; rw [scan_end HS.out (by omega)]; simp; omega
        clear HS
        go_wp2
        go_ret
        exact ⟨ret_bool HF.out.symm, hbl⟩
  · have HF : Hid (rightP m = false) := by simp only [Hid, rightP]; rw [decide_eq_false h64]; simp
    go_enter Try.func15, Try.ntmps15
    go_wp2
    go_ret
    exact ⟨ret_bool HF.out.symm, Below.refl _ _⟩

/-! ### the law's own functions -/
theorem made_yes {l : List Cl} {k : Nat} (hk : k < l.length) (h : mayB l[k] = true) : madeL (l.take (k + 1)) = madeL (l.take k) ++ [l[k]] := by
  unfold madeL; rw [List.take_succ_eq_append_getElem hk, List.filter_append]; simp [h]
theorem made_no {l : List Cl} {k : Nat} (hk : k < l.length) (h : mayB l[k] = false) : madeL (l.take (k + 1)) = madeL (l.take k) := by
  unfold madeL; rw [List.take_succ_eq_append_getElem hk, List.filter_append]; simp [h]
theorem made_mays (l : List Cl) : Mays (madeL l) := fun c hc => (List.mem_filter.1 hc).2
theorem made_len (l : List Cl) : (madeL l).length ≤ l.length := List.length_filter_le _ _

set_option maxHeartbeats 800000 in
theorem made7_any (a : Option Addr) (cap : Nat) (w : World) (l : List Cl) (hr : Row w a cap l) (hl : l.length ≤ 1000) :
    Calls Try.prog 17 #[.slice a l.length cap] w fun e w' => ∃ v, e = .returned v ∧ AccInv w.heap.size 31 (madeL l) v w' ∧ Below w.heap.size w w' := by
  have hm := hr.max
  have hm2 := hr.le
  have hm0 := AccInv.made (α := Cl) (B := w.heap.size) (e := 31) (T := 31) w (Nat.le_refl _) rfl
  have hb0 := (Below.refl w.heap.size w).new (.cells #[] 31)
  go_enter Try.func17, Try.ntmps17
  go_wp2
  go_loopw [3, 4] (fun v i wr => ∃ (k : Nat) (A : List Cl), k ≤ l.length ∧ A.length ≤ k ∧ i = .int .i64 k ∧ AccInv w.heap.size 31 A v wr ∧ Below w.heap.size w wr ∧ Hid (madeL (l.take k) = A)) (fun v i wr => l.length - (intOf i).toNat)
  case atStart => exact ⟨0, [], Nat.zero_le _, Nat.zero_le _, rfl, hm0, hb0, rfl⟩
  case round =>
    obtain ⟨k, A, hk, hA, rfl, hacc, hbl, HS⟩ := hrel
    by_cases hlt : k < l.length
    · obtain ⟨b, off, rfl, hb, hat⟩ := hr.cases.resolve_left (fun e => by simp [e] at hlt)
      obtain ⟨a1, cap1, a2, cap2, cw0, cw1, hr1, hr2⟩ := cl_at hat (Below.refl _ _) hlt
      have c0 := keep cw0 hbl
      have c1 := keep cw1 hbl
      cases hM : mayB l[k] with
      | true =>
        have HM := mkHid hM
        have HT : Hid (madeL (l.take (k + 1)) = A ++ [l[k]]) := by rw [Hid, made_yes hlt hM, HS.out]
        clear hM HS
        go_wp2_with (first
          | (go_at_call 28; refine (refmay_any _ _ _ _ _ _ _ (hr1.below hbl) (hr2.below hbl)).mono ?_; rintro e w2 ⟨rfl, hb2⟩; rw [show mayB ⟨l[k].h, l[k].b⟩ = true from HM.out]; have d0 := keep c0 hb2; have d1 := keep c1 hb2; have hacc2 := hacc.below hb2; have hbl2 := hbl.then hb2; have hk2 := hacc2.fresh hbl2; clear c0 c1)
          | (at_builtin; refine wpList_acc (α := Cl) rfl _ _ 22 rfl w.heap.size 31 48 _ Try.underlying22 Try.infoClause rfl (by decide) _ A hacc2 (by rfl) _ #[.slice a1 l[k].h.length cap1, .slice a2 l[k].b.length cap2] l[k] ⟨a1, cap1, a2, cap2, rfl, hr1.keeps hk2, hr2.keeps hk2⟩ (by rfl) (by omega) hbl2.size ?_; intro v' w3 hacc3 hb3))
        go_round
        case rel => exact ⟨k + 1, _, by omega, by simp; omega, by go_num, hacc3, hbl2.trans hb3, HT⟩
        case measure => simp [intOf]; omega
      | false =>
        have HM := mkHid hM
        have HT : Hid (madeL (l.take (k + 1)) = A) := by rw [Hid, made_no hlt hM, HS.out]
        clear hM HS
        go_wp2_with (go_at_call 28; refine (refmay_any _ _ _ _ _ _ _ (hr1.below hbl) (hr2.below hbl)).mono ?_; rintro e w2 ⟨rfl, hb2⟩; rw [show mayB ⟨l[k].h, l[k].b⟩ = false from HM.out])
        go_round
        case rel => exact ⟨k + 1, _, by omega, by omega, by go_num, hacc.below hb2, hbl.then hb2, HT⟩
        case measure => simp [intOf]; omega
    · have HT : Hid (madeL l = A) := by rw [Hid, ← HS.out, List.take_of_length_le (by omega)]
      clear HS
      go_wp2
      go_ret
      exact ⟨_, rfl, by rw [HT.out]; exact hacc, hbl⟩

/-! ### Great -/
def greatC (c : Cl) : Bool := decide (300 < c.h.length) || decide (10 < c.b.length) || c.b.any fun x => decide (300 < x.t.length)
theorem great_eq (l : List Cl) : greatB l = (decide (70 < l.length) || l.any greatC) := rfl
theorem great_hit {l : List Cl} {k : Nat} (hk : k < l.length) (h : greatC l[k] = true) : greatB l = true := by
  rw [great_eq, List.any_eq_true.2 ⟨l[k], List.getElem_mem hk, h⟩]; simp

set_option maxHeartbeats 1600000 in
theorem great7_any (a : Option Addr) (cap : Nat) (w : World) (l : List Cl) (hr : Row w a cap l) :
    Calls Try.prog 12 #[.slice a l.length cap] w fun e w' => e = .returned (.bool (greatB l)) ∧ w = w' := by
  have hm := hr.max
  have hm2 := hr.le
  by_cases h70 : l.length ≤ 70
  · go_enter Try.func12, Try.ntmps12
    go_wp2
    go_loop [3, 4] (fun i _ => ∃ k : Nat, k ≤ l.length ∧ i = .int .i64 k ∧ Hid ((l.take k).all (fun c => !greatC c) = true)) (fun i _ => l.length - (intOf i).toNat)
    case atStart => exact ⟨0, Nat.zero_le _, rfl, rfl⟩
    case round =>
      obtain ⟨k, hk, rfl, HS⟩ := hrel
      by_cases hlt : k < l.length
      · obtain ⟨b, off, rfl, hb, hat⟩ := hr.cases.resolve_left (fun e => by simp [e] at hlt)
        obtain ⟨a1, cap1, a2, cap2, c0, c1, hr1, hr2⟩ := cl_at hat (Below.refl _ _) hlt
        have x1 := hr1.max
        have x2 := hr1.le
        have x3 := hr2.max
        have x4 := hr2.le
        by_cases h3 : 300 < l[k].h.length
        · have HT : Hid (greatB l = true) := great_hit hlt (by simp [greatC, h3])
          clear HS
          go_wp2
          go_ret
          exact ⟨ret_bool HT.out.symm, rfl⟩
        · by_cases h10 : 10 < l[k].b.length
          · have HT : Hid (greatB l = true) := great_hit hlt (by simp [greatC, h10])
            clear HS
            go_wp2
            go_ret
            exact ⟨ret_bool HT.out.symm, rfl⟩
          · go_wp2
            go_loop [4] (fun i => ∃ j : Nat, j ≤ l[k].b.length ∧ i = .int .i64 j ∧ Hid ((l[k].b.take j).all (fun x => !decide (300 < x.t.length)) = true)) (fun i => l[k].b.length - (intOf i).toNat)
            case atStart => exact ⟨0, Nat.zero_le _, rfl, rfl⟩
            case round =>
              obtain ⟨j, hj, rfl, HJ⟩ := hrel
              by_cases hjl : j < l[k].b.length
              · obtain ⟨b2, off2, rfl, hb2, hat2⟩ := hr2.cases.resolve_left (fun e => by simp [e] at hjl)
                obtain ⟨a4, cap4, d0, d1, hr4⟩ := lt_at hat2 (Below.refl _ _) hjl
                have y1 := hr4.max
                have y2 := hr4.le
                by_cases h5 : 300 < l[k].b[j].t.length
                · have HT : Hid (greatB l = true) := great_hit hlt (by
                    unfold greatC
                    rw [List.any_eq_true.2 ⟨l[k].b[j], List.getElem_mem hjl, by simpa using h5⟩]; simp)
                  clear HS HJ
                  go_wp2
                  go_ret
                  exact ⟨ret_bool HT.out.symm, rfl⟩
                · have HJ2 := mkHid (scan_next (p := fun x : Lt => !decide (300 < x.t.length)) HJ.out hjl (by simpa using h5))
                  clear HJ
                  go_wp2
                  go_round
                  case rel => exact ⟨j + 1, by omega, by go_num, HJ2⟩
                  case measure => simp [intOf]; omega
              · have HT := mkHid (scan_next (p := fun c => !greatC c) HS.out hlt (by
                  have := all_any (scan_end HJ.out (by omega))
                  unfold greatC; rw [this]; simp; omega))
                clear HS HJ
                go_wp2
                go_round
                case rel => exact ⟨k + 1, by omega, by go_num, HT⟩
                case measure => simp [intOf]; omega
      · have HT : Hid (greatB l = false) := by
          rw [Hid, great_eq, all_any (scan_end HS.out (by omega))]; simp; omega
        clear HS
        go_wp2
        go_ret
        exact ⟨ret_bool HT.out.symm, rfl⟩
  · have HT : Hid (greatB l = true) := by rw [Hid, great_eq]; simp; omega
    go_enter Try.func12, Try.ntmps12
    go_wp2
    go_ret
    exact ⟨ret_bool HT.out.symm, rfl⟩
end Go.Proofs.Ytkgebkinlpmpnaa
namespace Go.Proofs.Ytkgebkinlpmpnaa
open Go.RowKit Go.Shelf Go.Lib
open Go.Sort (grow)

def or2 (x y : Int) : Int := if x = 0 then y else x
set_option maxHeartbeats 400000 in
theorem or2_any (b : Nat) (x y : Int) (w : World) (h0 : w.cell? ⟨b, 0, none⟩ = some (.int .i64 x)) (h1 : w.cell? ⟨b, 1, none⟩ = some (.int .i64 y)) :
    Calls Try.prog 49 #[.slice (some ⟨b, 0, none⟩) 2 2] w fun e w' => e = .returned (.int .i64 (or2 x y)) ∧ w = w' := by
  have HO : Hid (or2 x y = if x = 0 then y else x) := rfl
  go_enter Try.func49, Try.ntmps49
  go_wp2
  by_cases hx : x = 0
  · have HX : Hid (or2 x y = y) := by rw [Hid, HO.out, if_pos hx]
    have tx : (x != 0) = false := by simp [hx]
    clear hx HO
    by_cases hy : y = 0
    · have HY := mkHid hy
      have ty : (y != 0) = false := by simp [hy]
      clear hy
      go_loop [8] (fun i => ∃ k : Nat, k ≤ 2 ∧ i = .int .i64 k) (fun i => 2 - (intOf i).toNat)
      case atStart => exact ⟨0, by omega, rfl⟩
      case round =>
        obtain ⟨k, hk, rfl⟩ := hrel
        have hkk : k = 0 ∨ k = 1 ∨ k = 2 := by omega
        rcases hkk with rfl | rfl | rfl
        · go_wp2
          go_round
          case rel => exact ⟨1, by omega, by go_num⟩
          case measure => simp [intOf]
        · go_wp2
          go_round
          case rel => exact ⟨2, by omega, by go_num⟩
          case measure => simp [intOf]
        · go_wp2
          go_ret
          exact ⟨ret_int (by rw [HX.out, HY.out]), rfl⟩
    · have ty : (y != 0) = true := by simp [hy]
      clear hy
      go_loop [8] (fun i => ∃ k : Nat, k ≤ 1 ∧ i = .int .i64 k) (fun i => 2 - (intOf i).toNat)
      case atStart => exact ⟨0, by omega, rfl⟩
      case round =>
        obtain ⟨k, hk, rfl⟩ := hrel
        have hkk : k = 0 ∨ k = 1 := by omega
        rcases hkk with rfl | rfl
        · go_wp2
          go_round
          case rel => exact ⟨1, by omega, by go_num⟩
          case measure => simp [intOf]
        · go_wp2
          go_ret
          exact ⟨ret_int (by rw [HX.out]), rfl⟩
  · have HX : Hid (or2 x y = x) := by rw [Hid, HO.out, if_neg hx]
    have tx : (x != 0) = true := by simp [hx]
    clear hx HO
    go_loop [8] (fun i => i = .int .i64 0) (fun i => 2 - (intOf i).toNat)
    case atStart => rfl
    case round =>
      obtain rfl := hrel
      go_wp2
      go_ret
      exact ⟨ret_int (by rw [HX.out]), rfl⟩

def cmpP (x y : Pd) : Int := or2 (cmpS x.s y.s) (cmpI x.n y.n)
set_option maxHeartbeats 1600000 in
theorem predcmp_any (x y : Pd) (w : World) :
    Calls Try.prog 48 #[.agg #[.string x.s, .int .i64 x.n], .agg #[.string y.s, .int .i64 y.n]] w fun e w' => e = .returned (.int .i64 (cmpP x y)) ∧ ∃ q os', w' = grow (w.drewN q) os' := by
  obtain ⟨s, n⟩ := x
  obtain ⟨s', n'⟩ := y
  have HC : Hid (cmpP ⟨s, n⟩ ⟨s', n'⟩ = or2 (cmpS s s') (cmpI n n')) := rfl
  generalize hc1 : cmpS s s' = c1 at HC
  generalize hc2 : cmpI n n' = c2 at HC
  have H1 := mkHid hc1
  have H2 := mkHid hc2
  clear hc1 hc2
  dsimp only
  go_enter Try.func48, Try.ntmps48
  go_wp2
  obtain ⟨W, hW⟩ : ∃ W, (w.alloc (.cells #[.string s, .int .i64 n] 24)).alloc (.cells #[.string s', .int .i64 n'] 24) = W := ⟨_, rfl⟩
  have HW := mkHid hW
  have d0 : W.cell? ⟨w.heap.size, 0, none⟩ = some (.string s) := by rw [← hW]; exact keep (World.cell?_alloc_at _ _ w.heap.size 0 rfl) ((Below.refl _ _).new _)
  have d1 : W.cell? ⟨w.heap.size, 1, none⟩ = some (.int .i64 n) := by rw [← hW]; exact keep (World.cell?_alloc_at _ _ w.heap.size 1 rfl) ((Below.refl _ _).new _)
  have e0 : W.cell? ⟨w.heap.size + 1, 0, none⟩ = some (.string s') := by rw [← hW]; exact World.cell?_alloc_at _ _ _ 0 (by simp)
  have e1 : W.cell? ⟨w.heap.size + 1, 1, none⟩ = some (.int .i64 n') := by rw [← hW]; exact World.cell?_alloc_at _ _ _ 1 (by simp)
  rw [hW]
  clear hW
  have hdr := ((Below.refl W.heap.size W).new (.cells #[.int .i64 c1, .int .i64 c2] 3)).drew
  go_region_held3 (fun w' => w'.cell? ⟨w.heap.size, 0, none⟩ = some (.string s) ∧ w'.cell? ⟨w.heap.size, 1, none⟩ = some (.int .i64 n) ∧ w'.cell? ⟨w.heap.size + 1, 0, none⟩ = some (.string s') ∧ w'.cell? ⟨w.heap.size + 1, 1, none⟩ = some (.int .i64 n'))
    (first
      | exact ⟨d0, d1, e0, e1⟩
      | exact ⟨keep d0 hdr, keep d1 hdr, keep e0 hdr, keep e1 hdr⟩)
    (first
      | (go_at_call 50; refine (cmpS_any _ _ _).mono ?_; rintro e w' ⟨rfl, rfl⟩; rw [H1.out])
      | (go_at_call 51; refine (cmpI_any _ _ _).mono ?_; rintro e w' ⟨rfl, rfl⟩; rw [H2.out])
      | (go_at_call 49; refine (or2_any _ c1 c2 _ (by go_simp) (by go_simp)).mono ?_; rintro e w' ⟨rfl, rfl⟩))
  go_wp2
  go_ret
  exact ⟨ret_int HC.out.symm, 1, _, by rw [← HW.out, Go.Sort.alloc_eq_grow, Go.Sort.alloc_eq_grow, Go.Sort.alloc_eq_grow, Go.Sort.grow_grow, Go.Sort.grow_grow]; rfl⟩

def cmpL (x y : Lk) : Int := if or2 (cmpI x.f y.f) (cmpI x.t y.t) = 0 then (if x.neg = y.neg then 0 else if y.neg then -1 else 1) else or2 (cmpI x.f y.f) (cmpI x.t y.t)
set_option maxHeartbeats 1600000 in
theorem linkcmp_any (x y : Lk) (w : World) :
    Calls Try.prog 55 #[.agg #[.int .i64 x.f, .int .i64 x.t, .bool x.neg], .agg #[.int .i64 y.f, .int .i64 y.t, .bool y.neg]] w fun e w' => e = .returned (.int .i64 (cmpL x y)) ∧ ∃ q os', w' = grow (w.drewN q) os' := by
  obtain ⟨s, n, g⟩ := x
  obtain ⟨s', n', g'⟩ := y
  have HC : Hid (cmpL ⟨s, n, g⟩ ⟨s', n', g'⟩ = if or2 (cmpI s s') (cmpI n n') = 0 then (if g = g' then 0 else if g' then -1 else 1) else or2 (cmpI s s') (cmpI n n')) := rfl
  generalize hc1 : cmpI s s' = c1 at HC
  generalize hc2 : cmpI n n' = c2 at HC
  have H1 := mkHid hc1
  have H2 := mkHid hc2
  clear hc1 hc2
  generalize hc : or2 c1 c2 = c at HC
  have H3 := mkHid hc
  clear hc
  dsimp only
  have key : ∀ R : Int, Hid (cmpL ⟨s, n, g⟩ ⟨s', n', g'⟩ = R) → (c = 0 ∧ (g = g' ∧ R = 0 ∨ g = true ∧ g' = false ∧ R = 1 ∨ g = false ∧ g' = true ∧ R = -1) ∨ ¬ c = 0 ∧ R = c) → Calls Try.prog 55 #[.agg #[.int .i64 s, .int .i64 n, .bool g], .agg #[.int .i64 s', .int .i64 n', .bool g']] w fun e w' => e = .returned (.int .i64 R) ∧ ∃ q os', w' = grow (w.drewN q) os' := by
    intro R _ hR
    go_enter Try.func55, Try.ntmps55
    go_wp2
    obtain ⟨W, hW⟩ : ∃ W, (w.alloc (.cells #[.int .i64 s, .int .i64 n, .bool g] 57)).alloc (.cells #[.int .i64 s', .int .i64 n', .bool g'] 57) = W := ⟨_, rfl⟩
    have HW := mkHid hW
    have d0 : W.cell? ⟨w.heap.size, 0, none⟩ = some (.int .i64 s) := by rw [← hW]; exact keep (World.cell?_alloc_at _ _ w.heap.size 0 rfl) ((Below.refl _ _).new _)
    have d1 : W.cell? ⟨w.heap.size, 1, none⟩ = some (.int .i64 n) := by rw [← hW]; exact keep (World.cell?_alloc_at _ _ w.heap.size 1 rfl) ((Below.refl _ _).new _)
    have d2 : W.cell? ⟨w.heap.size, 2, none⟩ = some (.bool g) := by rw [← hW]; exact keep (World.cell?_alloc_at _ _ w.heap.size 2 rfl) ((Below.refl _ _).new _)
    have e0 : W.cell? ⟨w.heap.size + 1, 0, none⟩ = some (.int .i64 s') := by rw [← hW]; exact World.cell?_alloc_at _ _ _ 0 (by simp)
    have e1 : W.cell? ⟨w.heap.size + 1, 1, none⟩ = some (.int .i64 n') := by rw [← hW]; exact World.cell?_alloc_at _ _ _ 1 (by simp)
    have e2 : W.cell? ⟨w.heap.size + 1, 2, none⟩ = some (.bool g') := by rw [← hW]; exact World.cell?_alloc_at _ _ _ 2 (by simp)
    rw [hW]
    clear hW
    have hdr := ((Below.refl W.heap.size W).new (.cells #[.int .i64 c1, .int .i64 c2] 3)).drew
    have HR := mkHid hR
    clear hR
    go_region_held3 (fun w' => w'.cell? ⟨w.heap.size, 0, none⟩ = some (.int .i64 s) ∧ w'.cell? ⟨w.heap.size, 1, none⟩ = some (.int .i64 n) ∧ w'.cell? ⟨w.heap.size + 1, 0, none⟩ = some (.int .i64 s') ∧ w'.cell? ⟨w.heap.size + 1, 1, none⟩ = some (.int .i64 n'))
      (first
        | exact ⟨d0, d1, e0, e1⟩
        | exact ⟨keep d0 hdr, keep d1 hdr, keep e0 hdr, keep e1 hdr⟩)
      (first
        | (go_at_call_of 51 (Value.int .i64 s); refine (cmpI_any s s' _).mono ?_; rintro e w' ⟨rfl, rfl⟩; rw [H1.out])
        | (go_at_call_of 51 (Value.int .i64 n); refine (cmpI_any n n' _).mono ?_; rintro e w' ⟨rfl, rfl⟩; rw [H2.out])
        | (go_at_call 49; refine (or2_any _ c1 c2 _ (by go_simp) (by go_simp)).mono ?_; rintro e w' ⟨rfl, rfl⟩; rw [H3.out]))
    have f2 := keep d2 hdr
    have f3 := keep e2 hdr
    rcases HR.out with ⟨h0, h⟩ | ⟨h0, h⟩
    · have H0 := mkHid h0
      have t0 : (c != 0) = false := by simp [h0]
      clear h0
      rcases h with ⟨h1, h2⟩ | ⟨h1, h3, h2⟩ | ⟨h1, h3, h2⟩
      · have HH := mkHid h2
        have t1 : (g == g') = true := by simp [h1]
        clear h1 h2
        go_wp2
        go_ret
        exact ⟨ret_int (by rw [H0.out, HH.out]), 1, _, by rw [← HW.out, Go.Sort.alloc_eq_grow, Go.Sort.alloc_eq_grow, Go.Sort.alloc_eq_grow, Go.Sort.grow_grow, Go.Sort.grow_grow]; rfl⟩
      · have HH := mkHid h2
        subst h1 h3
        clear h2
        go_wp2
        go_ret
        exact ⟨ret_int (by rw [HH.out]), 1, _, by rw [← HW.out, Go.Sort.alloc_eq_grow, Go.Sort.alloc_eq_grow, Go.Sort.alloc_eq_grow, Go.Sort.grow_grow, Go.Sort.grow_grow]; rfl⟩
      · have HH := mkHid h2
        subst h1 h3
        clear h2
        go_wp2
        go_ret
        exact ⟨ret_int (by rw [HH.out]), 1, _, by rw [← HW.out, Go.Sort.alloc_eq_grow, Go.Sort.alloc_eq_grow, Go.Sort.alloc_eq_grow, Go.Sort.grow_grow, Go.Sort.grow_grow]; rfl⟩
    · have t0 : (c != 0) = true := by simp [h0]
      have HH := mkHid h
      clear h h0
      go_wp2
      go_ret
      exact ⟨ret_int (by rw [HH.out]), 1, _, by rw [← HW.out, Go.Sort.alloc_eq_grow, Go.Sort.alloc_eq_grow, Go.Sort.alloc_eq_grow, Go.Sort.grow_grow, Go.Sort.grow_grow]; rfl⟩
  refine (key (cmpL ⟨s, n, g⟩ ⟨s', n', g'⟩) rfl ?_)
  rw [HC.out]
  by_cases h0 : c = 0
  · left
    refine ⟨h0, ?_⟩
    rw [if_pos h0]
    cases g <;> cases g' <;> simp
  · right
    exact ⟨h0, by rw [if_neg h0]⟩
end Go.Proofs.Ytkgebkinlpmpnaa
namespace Go.Proofs.Ytkgebkinlpmpnaa
open Go.RowKit

section
variable {α : Type} [RepC α]
theorem CRows.get {w : World} {vs : List Value} {xs : List α} (h : CRows w vs xs) : ∀ {j : Nat} (hj : j < xs.length), ∃ cs, RepC.C w cs xs[j] ∧ ∀ q u, cs[q]? = some u → vs[j * Rep.sz α + q]? = some u := by
  induction h with
  | nil => intro j hj; simp at hj
  | @cons cs x vs xs hc _ ih =>
    intro j hj
    cases j with
    | zero =>
      refine ⟨cs, hc, fun q u hq => ?_⟩
      rw [Nat.zero_mul, Nat.zero_add, List.getElem?_append_left (List.getElem?_eq_some_iff.1 hq).1]; exact hq
    | succ j =>
      obtain ⟨cs', hc', hat⟩ := ih (j := j) (by simpa using hj)
      refine ⟨cs', by simpa using hc', fun q u hq => ?_⟩
      rw [List.getElem?_append_right (by rw [RepC.len hc, Nat.succ_mul]; omega), RepC.len hc, show (j + 1) * Rep.sz α + q - Rep.sz α = j * Rep.sz α + q by rw [Nat.succ_mul]; omega]
      exact hat q u hq
/-- one element is another one -/
theorem CRows.set {w : World} {vs : List Value} {xs : List α} (h : CRows w vs xs) : ∀ {i : Nat} (_ : i < xs.length) {cs : List Value} {y : α}, RepC.C w cs y → ∀ {us : List Value}, us.length = vs.length → (∀ q, q < Rep.sz α → us[i * Rep.sz α + q]? = cs[q]?) → (∀ q, q < i * Rep.sz α ∨ (i + 1) * Rep.sz α ≤ q → us[q]? = vs[q]?) → CRows w us (xs.set i y) := by
  induction h with
  | nil => intro i hi; simp at hi
  | @cons cs0 x vs xs hc hr ih =>
    intro i hi cs y hy us hl hat hout
    have hlc := RepC.len hc
    have hly := RepC.len hy
    have hsplit : us = us.take (Rep.sz α) ++ us.drop (Rep.sz α) := (List.take_append_drop _ _).symm
    have hul : us.length = Rep.sz α + vs.length := by rw [hl, List.length_append, hlc]
    cases i with
    | zero =>
      rw [List.set_cons_zero, hsplit]
      have h1 : us.take (Rep.sz α) = cs := by
        refine List.ext_getElem? fun q => ?_
        by_cases hq : q < Rep.sz α
        · rw [List.getElem?_take_of_lt hq]; have := hat q hq; rwa [Nat.zero_mul, Nat.zero_add] at this
        · rw [List.getElem?_eq_none (by simp; omega), List.getElem?_eq_none (by omega)]
      have h2 : us.drop (Rep.sz α) = vs := by
        refine List.ext_getElem? fun q => ?_
        rw [List.getElem?_drop, hout (Rep.sz α + q) (.inr (by omega)), List.getElem?_append_right (by omega), hlc, Nat.add_sub_cancel_left]
      rw [h1, h2]
      exact .cons hy hr
    | succ i =>
      rw [List.set_cons_succ, hsplit]
      have h1 : us.take (Rep.sz α) = cs0 := by
        refine List.ext_getElem? fun q => ?_
        by_cases hq : q < Rep.sz α
        · rw [List.getElem?_take_of_lt hq, hout q (.inl (by rw [Nat.succ_mul]; omega)), List.getElem?_append_left (by omega)]
        · rw [List.getElem?_eq_none (by simp; omega), List.getElem?_eq_none (by omega)]
      rw [h1]
      refine .cons hc (ih (i := i) (by simpa using hi) hy (by rw [List.length_drop, hul]; omega) (fun q hq => ?_) (fun q hq => ?_))
      · rw [List.getElem?_drop, show Rep.sz α + (i * Rep.sz α + q) = (i + 1) * Rep.sz α + q by rw [Nat.succ_mul]; omega]; exact hat q hq
      · rw [List.getElem?_drop, hout (Rep.sz α + q) (by rcases hq with h | h; exact .inl (by rw [Nat.succ_mul]; omega); exact .inr (by rw [Nat.succ_mul] at h ⊢; rw [Nat.succ_mul]; omega)), List.getElem?_append_right (by omega), hlc, Nat.add_sub_cancel_left]
variable {B e : Nat} {acc : List α} {w w' : World} {g n cap : Nat}
theorem AccInv.take (h : AccInv B e acc (.slice (some ⟨g, 0, none⟩) n cap) w) {k : Nat} (hk : k ≤ acc.length) : AccInv B e (acc.take k) (.slice (some ⟨g, 0, none⟩) k cap) w := by
  obtain ⟨vs, ⟨h1, h2⟩, hc⟩ := h.ex
  refine ⟨vs.take (k * Rep.sz α), ⟨?_, ?_⟩, hc.takeL k⟩
  · rw [List.length_take, List.length_take, h1, Nat.min_eq_left hk, Nat.min_eq_left (Nat.mul_le_mul_right _ hk)]
  · rcases h2 with ⟨h, _⟩ | ⟨g', cap', cur, e1, hb, hg, hn, hm, hs, ht⟩
    · cases h
    · injection e1 with e1 e2 e3
      injection e1 with e1
      injection e1 with e1
      subst e1; subst e3
      refine .inr ⟨g, cap, cur, by rw [List.length_take, Nat.min_eq_left hk], hb, hg, by rw [List.length_take]; omega, hm, hs, ?_⟩
      rw [← ht, List.take_take, List.length_take, Nat.min_eq_left hk, Nat.min_eq_left (Nat.mul_le_mul_right _ hk)]
theorem AccInv.len (h : AccInv B e acc (.slice (some ⟨g, 0, none⟩) n cap) w) : n = acc.length := by
  obtain ⟨vs, ⟨h1, h2⟩, hc⟩ := h.ex
  rcases h2 with ⟨h, _⟩ | ⟨g', cap', cur, e1, _⟩
  · cases h
  · injection e1
end
end Go.Proofs.Ytkgebkinlpmpnaa
namespace Go.Proofs.Ytkgebkinlpmpnaa
open Go.RowKit Go.Shelf Go.Lib
open Go.Sort (flatK HoldsK SWO PermIn SortedIn grow)

instance instInhPd : Inhabited Pd := ⟨⟨⟨#[]⟩, 0⟩⟩
instance instInhLk : Inhabited Lk := ⟨⟨0, 0, false⟩⟩

/-- elements whose cells don't hang on the world -/
structure PlainC (α : Type) [RepC α] (enc : α → List Value) (fit : α → Prop) : Prop where
  iff : ∀ (w : World) (cs : List Value) (x : α), RepC.C w cs x ↔ cs = enc x ∧ fit x
  len : ∀ x : α, (enc x).length = Rep.sz α
  one : ∀ (x : α) (v : Value), v ∈ enc x → v.oneCell' = true

section
variable {α : Type} [RepC α] {enc : α → List Value} {fit : α → Prop}
theorem PlainC.rows (h : PlainC α enc fit) {w : World} {vs : List Value} {xs : List α} (hr : CRows w vs xs) : vs = xs.flatMap enc ∧ ∀ x ∈ xs, fit x := by
  induction hr with
  | nil => exact ⟨rfl, by simp⟩
  | @cons cs x vs xs hc _ ih =>
    obtain ⟨h1, h2⟩ := (h.iff _ _ _).1 hc
    refine ⟨by rw [h1, ih.1]; simp, fun y hy => ?_⟩
    rcases List.mem_cons.1 hy with rfl | hy
    · exact h2
    · exact ih.2 y hy
theorem PlainC.mk_rows (h : PlainC α enc fit) (w : World) : ∀ (xs : List α), (∀ x ∈ xs, fit x) → CRows w (xs.flatMap enc) xs
  | [], _ => .nil
  | x :: xs, hf => .cons ((h.iff w _ x).2 ⟨rfl, hf x (by simp)⟩) (PlainC.mk_rows h w xs fun y hy => hf y (by simp [hy]))
theorem PlainC.flat_get (h : PlainC α enc fit) : ∀ (l : List α) (t : Nat), (l.flatMap enc)[t]? = (l[t / Rep.sz α]?).bind fun x => (enc x)[t % Rep.sz α]?
  | [], t => by simp
  | x :: l, t => by
    have hp : 0 < Rep.sz α := RepC.pos
    rw [List.flatMap_cons]
    by_cases ht : t < Rep.sz α
    · rw [List.getElem?_append_left (by rw [h.len]; exact ht), Nat.div_eq_of_lt ht, Nat.mod_eq_of_lt ht]; rfl
    · have e1 : t / Rep.sz α = (t - Rep.sz α) / Rep.sz α + 1 := by rw [Nat.div_eq t, if_pos ⟨hp, by omega⟩]
      have e2 : t % Rep.sz α = (t - Rep.sz α) % Rep.sz α := Nat.mod_eq_sub_mod (by omega)
      rw [List.getElem?_append_right (by rw [h.len]; omega), h.len, e1, e2, List.getElem?_cons_succ]
      exact PlainC.flat_get h l _
theorem PlainC.flatK (h : PlainC α enc fit) [Inhabited α] (l : List α) : (flatK enc (Rep.sz α) l.toArray).toList = l.flatMap enc := by
  refine List.ext_getElem? fun t => ?_
  have hp : 0 < Rep.sz α := RepC.pos
  rw [h.flat_get]
  by_cases ht : t < l.length * Rep.sz α
  · have h2 : t / Rep.sz α < l.length := Nat.div_lt_of_lt_mul (by rw [Nat.mul_comm]; exact ht)
    have h3 : t % Rep.sz α < Rep.sz α := Nat.mod_lt _ hp
    have hs : t < (Go.Sort.flatK enc (Rep.sz α) l.toArray).size := by simpa using ht
    rw [List.getElem?_eq_getElem (l := (Go.Sort.flatK enc (Rep.sz α) l.toArray).toList) (by simpa using hs), List.getElem?_eq_getElem h2, Array.getElem_toList]
    have := Go.Sort.get_flatK enc (Rep.sz α) l.toArray t (by simpa using ht)
    rw [getElem!_pos _ t hs] at this
    rw [this]
    simp only [Option.bind_some]
    rw [List.getElem?_eq_getElem (by rw [h.len]; exact h3), getElem!_pos l.toArray (t / Rep.sz α) (by simpa using h2), getElem!_pos _ (t % Rep.sz α) (by simp only [List.getElem_toArray]; rw [h.len]; exact h3)]
    rfl
  · have : l.length ≤ t / Rep.sz α := by
      rw [Nat.le_div_iff_mul_le hp]; omega
    rw [List.getElem?_eq_none (by simpa using ht), List.getElem?_eq_none (l := l) this]; rfl
variable [Inhabited α]
theorem sortG_grown (w : World) (g n : Nat) (d : Array α) (os : Array Obj) : w.grownBy (sortWorldK enc (Rep.sz α) w g 0 n d os) (some g) := by
  refine ⟨rfl, rfl, rfl, ?_, fun k hk hne => ?_⟩
  · simp [sortWorldK, grow, Go.Sort.putRowK, Go.Sort.ahead]
  · have hkg : g ≠ k := fun e => hne (by rw [e])
    simp only [sortWorldK, grow, Go.Sort.putRowK, Go.Sort.putRow, Go.Sort.mapBlock, Go.Sort.ahead]
    rw [Array.getElem?_append_left (by simpa using hk), Array.getElem?_modify]
    simp [hkg]
theorem sortG_block (w : World) (g n : Nat) (d : Array α) (os : Array Obj) {cur : Array Value} {e : Nat} (h : w.heap[g]? = some (.cells cur e (0, 0))) :
    (sortWorldK enc (Rep.sz α) w g 0 n d os).heap[g]? = some (.cells (Go.Sort.putCells id 0 (Go.Sort.flatK enc (Rep.sz α) d) cur) e (0, 0)) := by
  have hlt := (Array.getElem?_eq_some_iff.1 h).1
  simp only [sortWorldK, grow, Go.Sort.putRowK, Go.Sort.putRow, Go.Sort.mapBlock, Go.Sort.ahead]
  rw [Array.getElem?_append_left (by simpa using hlt), Array.getElem?_modify, if_pos rfl, h]
  rfl
omit [Inhabited α] in
theorem putCells_takeG (F cur : Array Value) (h : F.size ≤ cur.size) : (Go.Sort.putCells id 0 F cur).toList.take F.size = F.toList := by
  refine List.ext_getElem? fun t => ?_
  by_cases ht : t < F.size
  · rw [List.getElem?_take_of_lt ht, Array.getElem?_toList, Array.getElem?_toList]
    unfold Go.Sort.putCells
    rw [Array.getElem?_mapIdx, Array.getElem?_eq_getElem (show t < cur.size by omega), Array.getElem?_eq_getElem ht]
    simp only [Option.map_some]
    rw [if_pos (by omega), Nat.sub_zero, getElem!_pos F t ht]; rfl
  · rw [List.getElem?_eq_none (by rw [List.length_take]; omega), List.getElem?_eq_none (by simpa using ht)]

/-- a sorted row is a row -/
theorem PlainC.sorted (h : PlainC α enc fit) {B e g n cap : Nat} {acc : List α} {w : World} (hacc : AccInv B e acc (.slice (some ⟨g, 0, none⟩) n cap) w)
    {d' : List α} (hp : d'.Perm acc) (m : Nat) (os : Array Obj) : AccInv B e d' (.slice (some ⟨g, 0, none⟩) n cap) (sortWorldK enc (Rep.sz α) w g 0 m d'.toArray os) := by
  have hn := hacc.len
  obtain ⟨vs, ⟨h1, h2⟩, hc⟩ := hacc.ex
  have hdl : d'.length = acc.length := hp.length_eq
  obtain ⟨_, hfit⟩ := h.rows hc
  rcases h2 with ⟨h, _⟩ | ⟨g', cap', cur, e1, hb, hg, hnc, hm, hs, ht⟩
  · cases h
  · injection e1 with e1 e2 e3
    injection e1 with e1
    injection e1 with e1
    subst e1; subst e3
    have hf : (Go.Sort.flatK enc (Rep.sz α) d'.toArray).size = acc.length * Rep.sz α := by simp [hdl]
    refine ⟨d'.flatMap enc, ⟨?_, .inr ⟨g, cap, _, ?_, hb, sortG_block w g m d'.toArray os hg, ?_, hm, ?_, ?_⟩⟩, ?_⟩
    · rw [← h.flatK, Array.length_toList, hf, hdl]
    · rw [hdl, hn]
    · rw [hdl]; exact hnc
    · rw [← hs]; simp [Go.Sort.putCells]
    · rw [hdl, ← hf, putCells_takeG _ _ (by rw [hf, hs]; exact Nat.mul_le_mul_right _ hnc), h.flatK]
    · exact h.mk_rows _ d' fun x hx => hfit x (hp.mem_iff.1 hx)

set_option maxHeartbeats 1000000 in
theorem PlainC.sort (h : PlainC α enc fit) {ρ : Ren} (L : Go.Proofs.SlLaysF0.n6 Try.prog ρ) (aE : ∀ w, (isAgg (ρ.t 24)).run Try.prog w = .ok true w) (zE : ∀ w, (Go.sizeOf (ρ.t 24)).run Try.prog w = .ok (Rep.sz α) w)
    (cf : α → α → Int) (hS : SWO (ltOf cf)) (F : FuncId) (eg : ∀ args w, (callFunc F args).run Try.prog w = .ok (.enter F args) w) (hcmp : ∀ blk off size w, CmpLays Try.prog F #[] enc (Rep.sz α) cf blk off size w)
    (B e : Nat) (v : Value) (w : World) (acc : List α) (hacc : AccInv B e acc v w) (hB : B ≤ w.heap.size) (hl : acc.length ≤ 1000000000) :
    Calls Try.prog (ρ.f 6) #[v, .func (.func F) #[] #[]] w fun e1 w' => e1 = .returned (.tuple #[]) ∧ ∃ acc' : List α, Hid (acc'.Perm acc ∧ acc'.Pairwise fun x y => ltOf cf y x = false) ∧ AccInv B e acc' v w' ∧ Below B w w' := by
  obtain ⟨a, cap, rfl, hrow⟩ := hacc.row
  cases acc with
  | nil =>
    have h := AnyF.slices_SortFunc_none L a cap (.func (.func F) #[] #[]) w
    exact h.mono fun e w' ⟨he, hw⟩ => ⟨he, [], ⟨List.Perm.refl _, List.Pairwise.nil⟩, by rw [hw]; exact hacc, by rw [hw]; exact Below.refl _ _⟩
  | cons b0 acc0 =>
    obtain ⟨g, rfl⟩ : ∃ g, a = some ⟨g, 0, none⟩ := by
      obtain ⟨vs, ho, _⟩ := hacc.ex
      rcases ho.2 with ⟨e, hn⟩ | ⟨g, cap', cur, e, _⟩
      · simp at hn
      · injection e with e1; exact ⟨g, e1⟩
    have hgl := hacc.lt g rfl
    obtain ⟨vs, ho, hc⟩ := hacc.ex
    obtain ⟨hvs, _⟩ := h.rows hc
    obtain ⟨l, hlb⟩ : ∃ l, b0 :: acc0 = l := ⟨_, rfl⟩
    rw [hlb] at hacc ho hvs hl hrow ⊢
    have hH : HoldsK enc (Rep.sz α) w g 0 l.toArray := by
      intro j hj
      refine ⟨?_, ho.frozenAt _⟩
      have hj' : j < (Go.Sort.flatK enc (Rep.sz α) l.toArray).toList.length := by simpa using hj
      have h1 : vs[j]? = some ((Go.Sort.flatK enc (Rep.sz α) l.toArray).toList[j]'hj') := by
        rw [hvs, ← h.flatK, List.getElem?_eq_getElem hj']
      have h2 := own_cells ho j _ h1
      rw [Nat.zero_add, h2, getElem!_pos _ j hj]; simp
    have hcon := AnyQ.slices_SortFunc L (Rep.sz α) aE zE enc h.len h.one cf hS F #[] g 0 cap l.toArray w eg (hcmp g 0 l.toArray.size w) hH hgl.2 (by simp; omega)
    have hsz : l.toArray.size = l.length := by simp
    rw [hsz] at hcon
    refine hcon.mono fun e w' ⟨he, d', m, os, hp, hs, hw⟩ => ?_
    obtain ⟨hp1, _, hp3⟩ := hp
    have hperm : d'.toList.Perm l := by
      have e1 : d'.extract 0 l.length = d' := by
        rw [← hsz, ← hp1]; simp
      have e2 : l.toArray.extract 0 l.length = l.toArray := by rw [← hsz]; simp
      rw [e1, e2] at hp3
      simpa using hp3
    refine ⟨he, d'.toList, ⟨hperm, ?_⟩, ?_, ?_⟩
    · rw [List.pairwise_iff_getElem]
      intro i j hi hj hij
      have hi' : i < d'.size := by simpa using hi
      have hj' : j < d'.size := by simpa using hj
      have := hs i j (Nat.zero_le _) hij (by rw [← hsz, ← hp1]; exact hj')
      rw [getElem!_pos d' i hi', getElem!_pos d' j hj'] at this
      simpa using this
    · rw [hw]
      have := h.sorted hacc hperm m os
      simpa using this
    · rw [hw]
      exact (Below.refl B w).grown (sortG_grown w g m d' os) hB (fun k e => by cases e; exact hgl.1)
end
end Go.Proofs.Ytkgebkinlpmpnaa
