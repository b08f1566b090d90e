import Derived.Test.YtkgebkinlpmpnaaZr2
import Derived.IntWalk
import Derived.Deep.Slices
import Derived.Deep.Fields
import Derived.ChangeSame
import Derived.ProofKit
import Derived.OpenShut
import Derived.ShutString
import Derived.ChangeOld
import Derived.Lib.SmallJoins
import Derived.DeepKeys5
import Derived.Test.YtkgebkinlpmpnaaRows
import Derived.Shelf.SlSortCmp.WholeK
import Derived.StillTailTactics
import Derived.Deep.AppendLies
namespace Go.Proofs.Ytkgebkinlpmpnaa
open Go.RowKit

/-! ### what a row is without what stands twice beside itself -/
section
variable {α : Type} [DecidableEq α]
def keepAt (d : List α) (j : Nat) : Bool := match j with
  | 0 => true
  | i + 1 => !decide (d[i + 1]? = d[i]?)
def compTo (d : List α) : Nat → List α
  | 0 => []
  | j + 1 => compTo d j ++ (match d[j]? with
    | some x => if keepAt d j then [x] else []
    | none => [])
theorem comp_keep {d : List α} {j : Nat} (hj : j < d.length) (h : keepAt d j = true) : compTo d (j + 1) = compTo d j ++ [d[j]] := by
  simp only [compTo, List.getElem?_eq_getElem hj, h, if_true]
theorem comp_skip {d : List α} {j : Nat} (hj : j < d.length) (h : keepAt d j = false) : compTo d (j + 1) = compTo d j := by
  simp [compTo, List.getElem?_eq_getElem hj, h]
theorem keep_yes {d : List α} {i : Nat} (h : i + 1 < d.length) (he : ¬ d[i + 1] = d[i]) : keepAt d (i + 1) = true := by
  simp [keepAt, List.getElem?_eq_getElem h, List.getElem?_eq_getElem (show i < d.length by omega), he]
theorem keep_no {d : List α} {i : Nat} (h : i + 1 < d.length) (he : d[i + 1] = d[i]) : keepAt d (i + 1) = false := by
  simp [keepAt, List.getElem?_eq_getElem h, List.getElem?_eq_getElem (show i < d.length by omega), he]
theorem comp_one {d : List α} (h : 0 < d.length) : compTo d (0 + 1) = d.take (0 + 1) := by
  rw [comp_keep h rfl]
  cases d with
  | nil => simp at h
  | cons x l => rfl
theorem comp_short {d : List α} (h : d.length < 2) : compTo d d.length = d := by
  match d, h with
  | [], _ => rfl
  | [x], _ => rfl
theorem comp_next {d : List α} {k : Nat} (hk : k + 1 < d.length) (h : compTo d (k + 1) = d.take (k + 1)) (he : ¬ d[k + 1] = d[k]) : compTo d (k + 1 + 1) = d.take (k + 1 + 1) := by
  rw [comp_keep hk (keep_yes hk he), h, List.take_succ_eq_append_getElem hk]
theorem comp_all {d : List α} {k : Nat} (hk : d.length ≤ k + 1) (hk2 : k + 1 ≤ d.length) (h : compTo d (k + 1) = d.take (k + 1)) : compTo d d.length = d := by
  have : k + 1 = d.length := by omega
  rw [this, List.take_length] at h
  exact h
/-- how far a row is without what stands twice -/
structure CompInv (d L : List α) (i j : Nat) : Prop where
  len : L.length = d.length
  lo : i < j
  hi : j ≤ d.length
  pre : L.take i = compTo d j
  post : L.drop i = d.drop i
theorem CompInv.start {d : List α} {k : Nat} (hk : k + 1 < d.length) (h : compTo d (k + 1) = d.take (k + 1)) (he : d[k + 1] = d[k]) : CompInv d d (k + 1) (k + 1 + 0 + 1) :=
  ⟨rfl, by omega, by omega, by rw [Nat.add_zero, comp_skip hk (keep_no hk he), h], rfl⟩
theorem CompInv.at_ {d L : List α} {i j q : Nat} (h : CompInv d L i j) (hq : i ≤ q) (hd : q < d.length) (hl : q < L.length) : L[q] = d[q] := by
  have h1 : (L.drop i)[q - i]? = (d.drop i)[q - i]? := by rw [h.post]
  rw [List.getElem?_drop, List.getElem?_drop, show i + (q - i) = q by omega, List.getElem?_eq_getElem hl, List.getElem?_eq_getElem hd] at h1
  exact Option.some.inj h1
theorem CompInv.keep {d L : List α} {i j : Nat} (h : CompInv d L i (j + 1)) (hj : j + 1 < d.length) (ho : ¬ d[j + 1] = d[j]) : CompInv d (L.set i d[j + 1]) (i + 1) (j + 1 + 1) := by
  have h1 := h.lo
  have h2 := h.len
  refine ⟨by rw [List.length_set]; exact h.len, by omega, hj, ?_, ?_⟩
  · rw [comp_keep hj (keep_yes hj ho), ← h.pre, List.take_succ_eq_append_getElem (by rw [List.length_set]; omega), List.getElem_set_self, List.take_set, List.set_eq_of_length_le (by rw [List.length_take]; omega)]
  · rw [List.drop_set_of_lt (by omega)]
    have := congrArg (List.drop 1) h.post
    rwa [List.drop_drop, List.drop_drop] at this
theorem CompInv.skip {d L : List α} {i j : Nat} (h : CompInv d L i (j + 1)) (hj : j + 1 < d.length) (ho : d[j + 1] = d[j]) : CompInv d L i (j + 1 + 1) := by
  have h1 := h.lo
  refine ⟨h.len, by omega, hj, ?_, h.post⟩
  rw [comp_skip hj (keep_no hj ho)]; exact h.pre
end
theorem below_size {B : Nat} {w w' : World} (h : Below B w w') (hB : B ≤ w.heap.size) : B ≤ w'.heap.size := Nat.le_trans hB h.size

section
variable {B e g n cap : Nat} {acc : List Pd} {w : World}
theorem AccInv.getPd (h : AccInv B e acc (.slice (some ⟨g, 0, none⟩) n cap) w) {j : Nat} (hj : j < acc.length) :
    w.cell? ⟨g, j * 2, none⟩ = some (.string acc[j].s) ∧ w.cell? ⟨g, j * 2 + 1, none⟩ = some (.int .i64 acc[j].n) ∧ acc[j].fit := by
  obtain ⟨vs, ho, hc⟩ := h.ex
  obtain ⟨cs, ⟨rfl, hf⟩, hat⟩ := hc.get hj
  have hl : n = acc.length := h.len
  subst hl
  exact ⟨own_cells ho _ _ (hat 0 _ rfl), own_cells ho _ _ (hat 1 _ rfl), hf⟩
theorem AccInv.frozenPd (h : AccInv B e acc (.slice (some ⟨g, 0, none⟩) n cap) w) (j : Nat) : w.frozen? ⟨g, j, none⟩ = false := by
  obtain ⟨vs, ho, hc⟩ := h.ex
  have hl : n = acc.length := h.len
  subst hl
  exact ho.frozenAt j
theorem AccInv.setPd (h : AccInv B e acc (.slice (some ⟨g, 0, none⟩) n cap) w) {i : Nat} (hi : i < acc.length) (y : Pd) (hf : y.fit) :
    AccInv B e (acc.set i y) (.slice (some ⟨g, 0, none⟩) n cap) ((w.setCell ⟨g, i * 2, none⟩ (.string y.s)).setCell ⟨g, i * 2 + 1, none⟩ (.int .i64 y.n)) ∧
    w.grownBy ((w.setCell ⟨g, i * 2, none⟩ (.string y.s)).setCell ⟨g, i * 2 + 1, none⟩ (.int .i64 y.n)) (some g) := by
  obtain ⟨vs, ho, hc⟩ := h.ex
  have hl : n = acc.length := h.len
  subst hl
  obtain ⟨o1, g1⟩ := ho.stored (i * 2) (.string y.s)
  obtain ⟨o2, g2⟩ := o1.stored (i * 2 + 1) (.int .i64 y.n)
  have hg := g1.trans g2
  refine ⟨⟨_, by rw [List.length_set]; exact o2, ?_⟩, hg⟩
  have hk : Keeps (hide (some g) w) (hide (some g) _) := grown_keeps hg
  have hvl : vs.length = acc.length * 2 := hc.len
  refine (hc.keeps hk).set hi (cs := [.string y.s, .int .i64 y.n]) ⟨rfl, hf⟩ (by simp) (fun q hq => ?_) (fun q hq => ?_)
  · have hq' : q < 2 := hq
    show ((vs.set (i * 2) _).set (i * 2 + 1) _)[i * 2 + q]? = _
    match q, hq' with
    | 0, _ => rw [List.getElem?_set_ne (by omega), Nat.add_zero, List.getElem?_set_self (by first | omega | (simp; omega))]; rfl
    | 1, _ => rw [List.getElem?_set_self (by first | omega | (simp; omega))]; rfl
  · have hq' : q < i * 2 ∨ (i + 1) * 2 ≤ q := hq
    rw [List.getElem?_set_ne (by omega), List.getElem?_set_ne (by omega)]
theorem acc_behindPd : ∀ (us : List Value) (o : Nat), acc.length * 2 ≤ o → ∀ {w : World}, AccInv B e acc (.slice (some ⟨g, 0, none⟩) n cap) w → AccInv B e acc (.slice (some ⟨g, 0, none⟩) n cap) (w.setCells g o us) ∧ w.grownBy (w.setCells g o us) (some g)
  | [], _, _, w, h => ⟨h, ⟨rfl, rfl, rfl, Nat.le_refl _, fun _ _ _ => rfl⟩⟩
  | u :: us, o, ho, w, h => by
    obtain ⟨vs, how, hc⟩ := h.ex
    have hl : n = acc.length := h.len
    obtain ⟨o1, g1⟩ := (hl ▸ how : w.ownsRow B e 2 (.slice (some ⟨g, 0, none⟩) acc.length cap) acc.length vs).stored o u
    have hvl : vs.length = acc.length * 2 := hc.len
    rw [List.set_eq_of_length_le (by omega)] at o1
    have h1 : AccInv B e acc (.slice (some ⟨g, 0, none⟩) n cap) (w.setCell ⟨g, o, none⟩ u) := ⟨vs, by rw [hl]; exact o1, hc.keeps (grown_keeps g1)⟩
    obtain ⟨r1, r2⟩ := acc_behindPd us (o + 1) (by omega) h1
    exact ⟨r1, g1.trans r2⟩
end
theorem Try.zeroPd (w : World) : (zeroValue 24).run Try.prog w = .ok (.agg #[.string ⟨#[]⟩, .int .i64 0]) w := by kernel_rfl
def zPd (n : Nat) : List Value := (Builtin.zeroCells #[.string ⟨#[]⟩, .int .i64 0] n).toList
theorem zPd_len (n : Nat) : (zPd n).length = n * 2 := by simp [zPd, Builtin.zeroCells]
theorem zPd_one (n : Nat) : ∀ v ∈ zPd n, v.oneCell' = true := by
  intro v hv
  unfold zPd Builtin.zeroCells at hv
  rw [Array.toList_map] at hv
  obtain ⟨i, _, rfl⟩ := List.mem_map.1 hv
  have h : i % 2 = 0 ∨ i % 2 = 1 := by omega
  rcases h with h | h
  all_goals
    first
      | (have : i % (#[Value.string ⟨#[]⟩, Value.int .i64 0] : Array Value).size = 0 := h; rw [this]; rfl)
      | (have : i % (#[Value.string ⟨#[]⟩, Value.int .i64 0] : Array Value).size = 1 := h; rw [this]; rfl)
theorem run_clear_Pd (w : World) (ty : TypeId) (b o n c : Nat) (hn : 0 < n)
    (hc : ∀ j, j < n * 2 → (w.cell? ⟨b, o + j, none⟩).isSome = true) (hf : ∀ j, j < n * 2 → w.frozen? ⟨b, o + j, none⟩ = false) :
    (Builtin.clear_ #[36] ty #[.slice (some ⟨b, o, none⟩) n c]).run Try.prog w = .ok (.tuple #[]) (w.setCells b o (zPd n)) := by
  have hst := run_storeCells_cells (P := Try.prog) b o (zPd n) 0 w (by rw [zPd_len]; simpa using hc) (by rw [zPd_len]; simpa using hf) (zPd_one n)
  simp only [Nat.add_zero] at hst
  obtain ⟨m, rfl⟩ : ∃ m, n = m + 1 := ⟨n - 1, by omega⟩
  have hz : (Builtin.zeroCells (Value.agg #[.string ⟨#[]⟩, .int .i64 0]).cells (m + 1)).toList = zPd (m + 1) := rfl
  simp [Builtin.clear_, run_underlying Try.underlying36, Try.zeroPd, hz, hst]

set_option maxHeartbeats 3200000 in
theorem compactPd_any (B : Nat) (v : Value) (w : World) (acc : List Pd) (hacc : AccInv B 24 acc v w) (hB : B ≤ w.heap.size) :
    Calls Try.prog 52 #[v] w fun e w' => ∃ v', e = .returned v' ∧ AccInv B 24 (compTo acc acc.length) v' w' ∧ Below B w w' := by
  obtain ⟨a, cap, rfl, hrow⟩ := hacc.row
  have hm := hrow.max
  have hm2 := hrow.le
  by_cases h2 : acc.length < 2
  · have HC := mkHid (comp_short h2)
    go_enter Try.func52, Try.ntmps52
    go_wp2
    go_ret
    exact ⟨_, rfl, by rw [HC.out]; exact hacc, Below.refl _ _⟩
  · obtain ⟨g, rfl⟩ : ∃ g, a = some ⟨g, 0, none⟩ := by
      obtain ⟨vs, ho, _⟩ := hacc.ex
      rcases ho.2 with ⟨e, hn⟩ | ⟨g, cap', cur, e, _⟩
      · omega
      · injection e with e1; exact ⟨g, e1⟩
    have hgl := hacc.lt g rfl
    obtain ⟨L0, hL0⟩ : ∃ L0, acc.length = L0 := ⟨_, rfl⟩
    have HL0 := mkHid hL0
    have hA1 : acc.length ≤ L0 := by omega
    have hA2 : L0 ≤ acc.length := by omega
    rw [hL0] at hacc h2 hm2 ⊢
    clear hL0 hrow
    have hd2 : decide ((L0 : Int) < 2) = false := by simp; omega
    go_enter Try.func52, Try.ntmps52
    go_wp2
    go_loopw [3, 4, 5] (fun i _ _ wr => ∃ k : Nat, k + 1 ≤ L0 ∧ i = .int .i64 ((k : Int) + 1) ∧ AccInv B 24 acc (.slice (some ⟨g, 0, none⟩) L0 cap) wr ∧ Below B w wr ∧ Hid (compTo acc (k + 1) = acc.take (k + 1))) (fun i _ _ wr => L0 - (intOf i).toNat)
    case atStart => exact ⟨0, by omega, rfl, hacc, Below.refl _ _, comp_one (by omega)⟩
    case round =>
      clear hacc
      obtain ⟨k, hk, rfl, hacc, hbl, HS⟩ := hrel
      by_cases hlt : k + 1 < L0
      · obtain ⟨c0, c1, hf0⟩ := hacc.getPd (j := k) (by omega)
        obtain ⟨d0, d1, hf1⟩ := hacc.getPd (j := k + 1) (by omega)
        have w1 : IntKind.i64.wrap ((k : Int) + 1 - 1) = (k : Int) := by rw [show (k : Int) + 1 - 1 = (k : Int) by omega]; exact IntWalk.i64_in _ (by omega)
        have hne := fun w => run_eql_pd acc[k + 1] acc[k] w
        have t1 : ((k : Int) + 1).toNat = k + 1 := by omega
        have t2 : (0 : Int) ≤ (k : Int) + 1 := by omega
        have t3 : (k : Int) + 1 < (L0 : Int) := by omega
        by_cases he : acc[k + 1] = acc[k]
        · have HI := mkHid (CompInv.start (d := acc) (k := k) (by omega) HS.out he)
          rw [decide_eq_true he] at hne
          clear he HS
          go_wp2
          go_quiet (fail)
          have hbd := drewN_below wr nq
          have hacc1 := hacc.below hbd
          have hbl1 := hbl.trans (hbd.mono (below_size hbl hB))
          clear hne w1 t1 c0 c1 d0 d1 hf0 hf1 hacc hbl hbd
          go_wp2
          go_loopw [3, 5] (fun i j wr => ∃ (kk p : Nat) (L : List Pd), kk ≤ k + 1 + p ∧ k + 1 + (p + 1) ≤ L0 ∧ i = .int .i64 kk ∧ j = .int .i64 ((p : Int) + 1) ∧ AccInv B 24 L (.slice (some ⟨g, 0, none⟩) L0 cap) wr ∧ Below B w wr ∧ Hid (CompInv acc L kk (k + 1 + p + 1))) (fun i j wr => L0 - (intOf j).toNat)
          case atStart => exact ⟨k + 1, 0, acc, by omega, by omega, by go_num, rfl, hacc1, hbl1, HI⟩
          case round =>
            clear hacc1 hbl1
            obtain ⟨kk, p, L, hkk, hp, rfl, rfl, hacc, hbl, HD⟩ := hrel
            have HLl := mkHid HD.out.len
            by_cases hlp : k + 1 + (p + 1) < L0
            · have hl1 : k + 1 + (p + 1) < L.length := by have := HLl.out; omega
              have hl2 : k + 1 + p < L.length := by omega
              obtain ⟨c0, c1, hf0⟩ := hacc.getPd hl2
              obtain ⟨d0, d1, hf1⟩ := hacc.getPd hl1
              rw [HD.out.at_ hkk (by omega) hl2] at c0 c1 hf0
              rw [HD.out.at_ (by omega) (by omega) hl1] at d0 d1 hf1
              rw [show (k + 1 + p) * 2 = (k + 1) * 2 + p * 2 by omega] at c0 c1
              rw [show (k + 1 + (p + 1)) * 2 = (k + 1) * 2 + (p + 1) * 2 by omega] at d0 d1
              obtain ⟨e0, e1, hf2⟩ := hacc.getPd (j := kk) (by omega)
              have y0 := hacc.frozenPd (kk * 2)
              have y1 := hacc.frozenPd (kk * 2 + 1)
              have w1 : IntKind.i64.wrap ((p : Int) + 1 - 1) = (p : Int) := by rw [show (p : Int) + 1 - 1 = (p : Int) by omega]; exact IntWalk.i64_in _ (by omega)
              have hne := fun w => run_neq_pd acc[k + 1 + (p + 1)] acc[k + 1 + p] w
              have t1 : ((p : Int) + 1).toNat = p + 1 := by omega
              have t2 : (0 : Int) ≤ (p : Int) + 1 := by omega
              have t3 : (p : Int) + 1 < ((L0 - (k + 1) : Nat) : Int) := by omega
              have t4 : (p : Int) < ((L0 - (k + 1) : Nat) : Int) := by omega
              by_cases he : acc[k + 1 + (p + 1)] = acc[k + 1 + p]
              · have HN := mkHid (HD.out.skip (by omega) he)
                rw [decide_eq_true he] at hne
                clear he HD
                go_wp2
                go_quiet (fail)
                have hbd := drewN_below wr nq
                go_wp2
                go_round
                case rel => exact ⟨kk, p + 1, L, by omega, by omega, rfl, by go_num, hacc.below hbd, hbl.trans (hbd.mono (below_size hbl hB)), HN⟩
                case measure => simp [intOf]; omega
              · have HN := mkHid (HD.out.keep (by omega) he)
                rw [decide_eq_false he] at hne
                clear he HD
                go_wp2
                go_quiet (fail)
                have hbd := drewN_below wr nq
                obtain ⟨hst1, hst2⟩ := (hacc.below hbd).setPd (i := kk) (by omega) acc[k + 1 + (p + 1)] hf1
                have hsz0 : B ≤ wr.heap.size := below_size hbl hB
                have hbs := (hbl.trans (hbd.mono (below_size hbl hB))).grown hst2 hsz0 (fun k e => by cases e; exact hgl.1)
                go_wp2
                go_round
                case rel => exact ⟨kk + 1, p + 1, _, by omega, by omega, by go_num, by go_num, hst1, hbs, HN⟩
                case measure => simp [intOf]; omega
            · have hj : k + 1 + p + 1 = acc.length := by have := HL0.out; omega
              have hpre := HD.out.pre
              rw [hj] at hpre
              have hkl : kk < L0 := by omega
              have hta := hacc.take (k := kk) (by have := HLl.out; have := HL0.out; omega)
              rw [hpre] at hta
              have hil : kk = (compTo acc acc.length).length := hta.len
              have hex : ∀ q, q < (L0 - kk) * 2 → (wr.cell? ⟨g, kk * 2 + q, none⟩).isSome = true := by
                intro q hq
                obtain ⟨vs, ho, hc⟩ := hacc.ex
                have hvl : vs.length = L.length * 2 := hc.len
                have hLL : L.length = L0 := by rw [HLl.out, HL0.out]
                have hu : vs[kk * 2 + q]? = some (vs[kk * 2 + q]'(by rw [hvl, hLL]; omega)) := List.getElem?_eq_getElem _
                have ho' : wr.ownsRow B 24 2 (.slice (some ⟨g, 0, none⟩) L.length cap) L.length vs := by rw [hLL]; rw [hLL] at ho; exact ho
                rw [own_cells ho' _ _ hu]; rfl
              have hcl := fun ty => run_clear_Pd wr ty g (kk * 2) (L0 - kk) (cap - kk) (by omega) hex (fun q _ => hacc.frozenPd _)
              obtain ⟨hfin, hgr⟩ := acc_behindPd (zPd (L0 - kk)) (kk * 2) (by rw [← hil]; exact Nat.le_refl _) hta
              have HFI : Hid (AccInv B 24 (compTo acc L0) (.slice (some ⟨g, 0, none⟩) kk cap) (wr.setCells g (kk * 2) (zPd (L0 - kk)))) := by rw [Hid, ← HL0.out]; rw [← HL0.out] at hfin; exact hfin
              have hkc : kk < cap := by omega
              clear HD hj hpre hta hil hex hfin HI HLl
              go_wp2
              go_ret
              exact ⟨_, rfl, HFI.out, hbl.grown hgr (below_size hbl hB) (fun k e => by cases e; exact hgl.1)⟩
        · have HT := mkHid (comp_next (by omega) HS.out he)
          rw [decide_eq_false he] at hne
          clear he HS
          go_wp2
          go_quiet (fail)
          have hbd := drewN_below wr nq
          go_wp2
          go_round
          case rel => exact ⟨k + 1, by omega, by go_num, hacc.below hbd, hbl.trans (hbd.mono (below_size hbl hB)), HT⟩
          case measure => simp [intOf]; omega
      · have HT : Hid (compTo acc L0 = acc) := by rw [Hid, ← HL0.out]; exact comp_all (by omega) (by omega) HS.out
        clear HS
        go_wp2
        go_ret
        exact ⟨_, rfl, by rw [HT.out]; exact hacc, hbl⟩
end Go.Proofs.Ytkgebkinlpmpnaa
namespace Go.Proofs.Ytkgebkinlpmpnaa
open Go.RowKit


section
variable {B e g n cap : Nat} {acc : List Lk} {w : World}
theorem AccInv.getLk (h : AccInv B e acc (.slice (some ⟨g, 0, none⟩) n cap) w) {j : Nat} (hj : j < acc.length) :
    w.cell? ⟨g, j * 3, none⟩ = some (.int .i64 acc[j].f) ∧ w.cell? ⟨g, j * 3 + 1, none⟩ = some (.int .i64 acc[j].t) ∧ w.cell? ⟨g, j * 3 + 2, none⟩ = some (.bool acc[j].neg) ∧ acc[j].fit := by
  obtain ⟨vs, ho, hc⟩ := h.ex
  obtain ⟨cs, ⟨rfl, hf⟩, hat⟩ := hc.get hj
  have hl : n = acc.length := h.len
  subst hl
  exact ⟨own_cells ho _ _ (hat 0 _ rfl), own_cells ho _ _ (hat 1 _ rfl), own_cells ho _ _ (hat 2 _ rfl), hf⟩
theorem AccInv.frozenLk (h : AccInv B e acc (.slice (some ⟨g, 0, none⟩) n cap) w) (j : Nat) : w.frozen? ⟨g, j, none⟩ = false := by
  obtain ⟨vs, ho, hc⟩ := h.ex
  have hl : n = acc.length := h.len
  subst hl
  exact ho.frozenAt j
theorem AccInv.setLk (h : AccInv B e acc (.slice (some ⟨g, 0, none⟩) n cap) w) {i : Nat} (hi : i < acc.length) (y : Lk) (hf : y.fit) :
    AccInv B e (acc.set i y) (.slice (some ⟨g, 0, none⟩) n cap) (((w.setCell ⟨g, i * 3, none⟩ (.int .i64 y.f)).setCell ⟨g, i * 3 + 1, none⟩ (.int .i64 y.t)).setCell ⟨g, i * 3 + 2, none⟩ (.bool y.neg)) ∧
    w.grownBy (((w.setCell ⟨g, i * 3, none⟩ (.int .i64 y.f)).setCell ⟨g, i * 3 + 1, none⟩ (.int .i64 y.t)).setCell ⟨g, i * 3 + 2, none⟩ (.bool y.neg)) (some g) := by
  obtain ⟨vs, ho, hc⟩ := h.ex
  have hl : n = acc.length := h.len
  subst hl
  obtain ⟨o1, g1⟩ := ho.stored (i * 3) (.int .i64 y.f)
  obtain ⟨o2, g2⟩ := o1.stored (i * 3 + 1) (.int .i64 y.t)
  obtain ⟨o3, g3⟩ := o2.stored (i * 3 + 2) (.bool y.neg)
  have hg := (g1.trans g2).trans g3
  refine ⟨⟨_, by rw [List.length_set]; exact o3, ?_⟩, hg⟩
  have hk : Keeps (hide (some g) w) (hide (some g) _) := grown_keeps hg
  have hvl : vs.length = acc.length * 3 := hc.len
  refine (hc.keeps hk).set hi (cs := [.int .i64 y.f, .int .i64 y.t, .bool y.neg]) ⟨rfl, hf⟩ (by simp) (fun q hq => ?_) (fun q hq => ?_)
  · have hq' : q < 3 := hq
    show (((vs.set (i * 3) _).set (i * 3 + 1) _).set (i * 3 + 2) _)[i * 3 + q]? = _
    match q, hq' with
    | 0, _ => rw [List.getElem?_set_ne (by omega), List.getElem?_set_ne (by omega), Nat.add_zero, List.getElem?_set_self (by first | omega | (simp; omega))]; rfl
    | 1, _ => rw [List.getElem?_set_ne (by omega), List.getElem?_set_self (by first | omega | (simp; omega))]; rfl
    | 2, _ => rw [List.getElem?_set_self (by first | omega | (simp; omega))]; rfl
  · have hq' : q < i * 3 ∨ (i + 1) * 3 ≤ q := hq
    rw [List.getElem?_set_ne (by omega), List.getElem?_set_ne (by omega), List.getElem?_set_ne (by omega)]
theorem acc_behindLk : ∀ (us : List Value) (o : Nat), acc.length * 3 ≤ o → ∀ {w : World}, AccInv B e acc (.slice (some ⟨g, 0, none⟩) n cap) w → AccInv B e acc (.slice (some ⟨g, 0, none⟩) n cap) (w.setCells g o us) ∧ w.grownBy (w.setCells g o us) (some g)
  | [], _, _, w, h => ⟨h, ⟨rfl, rfl, rfl, Nat.le_refl _, fun _ _ _ => rfl⟩⟩
  | u :: us, o, ho, w, h => by
    obtain ⟨vs, how, hc⟩ := h.ex
    have hl : n = acc.length := h.len
    obtain ⟨o1, g1⟩ := (hl ▸ how : w.ownsRow B e 3 (.slice (some ⟨g, 0, none⟩) acc.length cap) acc.length vs).stored o u
    have hvl : vs.length = acc.length * 3 := hc.len
    rw [List.set_eq_of_length_le (by omega)] at o1
    have h1 : AccInv B e acc (.slice (some ⟨g, 0, none⟩) n cap) (w.setCell ⟨g, o, none⟩ u) := ⟨vs, by rw [hl]; exact o1, hc.keeps (grown_keeps g1)⟩
    obtain ⟨r1, r2⟩ := acc_behindLk us (o + 1) (by omega) h1
    exact ⟨r1, g1.trans r2⟩
end
theorem Try.zeroLk (w : World) : (zeroValue 57).run Try.prog w = .ok (.agg #[.int .i64 0, .int .i64 0, .bool false]) w := by kernel_rfl
def zLk (n : Nat) : List Value := (Builtin.zeroCells #[.int .i64 0, .int .i64 0, .bool false] n).toList
theorem zLk_len (n : Nat) : (zLk n).length = n * 3 := by simp [zLk, Builtin.zeroCells]
theorem zLk_one (n : Nat) : ∀ v ∈ zLk n, v.oneCell' = true := by
  intro v hv
  unfold zLk Builtin.zeroCells at hv
  rw [Array.toList_map] at hv
  obtain ⟨i, _, rfl⟩ := List.mem_map.1 hv
  have h : i % 3 = 0 ∨ i % 3 = 1 ∨ i % 3 = 2 := by omega
  rcases h with h | h | h
  all_goals
    first
      | (have : i % (#[Value.int .i64 0, Value.int .i64 0, Value.bool false] : Array Value).size = 0 := h; rw [this]; rfl)
      | (have : i % (#[Value.int .i64 0, Value.int .i64 0, Value.bool false] : Array Value).size = 1 := h; rw [this]; rfl)
      | (have : i % (#[Value.int .i64 0, Value.int .i64 0, Value.bool false] : Array Value).size = 2 := h; rw [this]; rfl)
theorem run_clear_Lk (w : World) (ty : TypeId) (b o n c : Nat) (hn : 0 < n)
    (hc : ∀ j, j < n * 3 → (w.cell? ⟨b, o + j, none⟩).isSome = true) (hf : ∀ j, j < n * 3 → w.frozen? ⟨b, o + j, none⟩ = false) :
    (Builtin.clear_ #[41] ty #[.slice (some ⟨b, o, none⟩) n c]).run Try.prog w = .ok (.tuple #[]) (w.setCells b o (zLk n)) := by
  have hst := run_storeCells_cells (P := Try.prog) b o (zLk n) 0 w (by rw [zLk_len]; simpa using hc) (by rw [zLk_len]; simpa using hf) (zLk_one n)
  simp only [Nat.add_zero] at hst
  obtain ⟨m, rfl⟩ : ∃ m, n = m + 1 := ⟨n - 1, by omega⟩
  have hz : (Builtin.zeroCells (Value.agg #[.int .i64 0, .int .i64 0, .bool false]).cells (m + 1)).toList = zLk (m + 1) := rfl
  simp [Builtin.clear_, run_underlying Try.underlying41, Try.zeroLk, hz, hst]

set_option maxHeartbeats 3200000 in
theorem compactLk_any (B : Nat) (v : Value) (w : World) (acc : List Lk) (hacc : AccInv B 57 acc v w) (hB : B ≤ w.heap.size) :
    Calls Try.prog 56 #[v] w fun e w' => ∃ v', e = .returned v' ∧ AccInv B 57 (compTo acc acc.length) v' w' ∧ Below B w w' := by
  obtain ⟨a, cap, rfl, hrow⟩ := hacc.row
  have hm := hrow.max
  have hm2 := hrow.le
  by_cases h2 : acc.length < 2
  · have HC := mkHid (comp_short h2)
    go_enter Try.func56, Try.ntmps56
    go_wp2
    go_ret
    exact ⟨_, rfl, by rw [HC.out]; exact hacc, Below.refl _ _⟩
  · obtain ⟨g, rfl⟩ : ∃ g, a = some ⟨g, 0, none⟩ := by
      obtain ⟨vs, ho, _⟩ := hacc.ex
      rcases ho.2 with ⟨e, hn⟩ | ⟨g, cap', cur, e, _⟩
      · omega
      · injection e with e1; exact ⟨g, e1⟩
    have hgl := hacc.lt g rfl
    obtain ⟨L0, hL0⟩ : ∃ L0, acc.length = L0 := ⟨_, rfl⟩
    have HL0 := mkHid hL0
    have hA1 : acc.length ≤ L0 := by omega
    have hA2 : L0 ≤ acc.length := by omega
    rw [hL0] at hacc h2 hm2 ⊢
    clear hL0 hrow
    have hd2 : decide ((L0 : Int) < 2) = false := by simp; omega
    go_enter Try.func56, Try.ntmps56
    go_wp2
    go_loopw [3, 4, 5] (fun i _ _ wr => ∃ k : Nat, k + 1 ≤ L0 ∧ i = .int .i64 ((k : Int) + 1) ∧ AccInv B 57 acc (.slice (some ⟨g, 0, none⟩) L0 cap) wr ∧ Below B w wr ∧ Hid (compTo acc (k + 1) = acc.take (k + 1))) (fun i _ _ wr => L0 - (intOf i).toNat)
    case atStart => exact ⟨0, by omega, rfl, hacc, Below.refl _ _, comp_one (by omega)⟩
    case round =>
      clear hacc
      obtain ⟨k, hk, rfl, hacc, hbl, HS⟩ := hrel
      by_cases hlt : k + 1 < L0
      · obtain ⟨c0, c1, c2, hf0⟩ := hacc.getLk (j := k) (by omega)
        obtain ⟨d0, d1, d2, hf1⟩ := hacc.getLk (j := k + 1) (by omega)
        have w1 : IntKind.i64.wrap ((k : Int) + 1 - 1) = (k : Int) := by rw [show (k : Int) + 1 - 1 = (k : Int) by omega]; exact IntWalk.i64_in _ (by omega)
        have hne := fun w => run_eql_lk acc[k + 1] acc[k] w
        have t1 : ((k : Int) + 1).toNat = k + 1 := by omega
        have t2 : (0 : Int) ≤ (k : Int) + 1 := by omega
        have t3 : (k : Int) + 1 < (L0 : Int) := by omega
        by_cases he : acc[k + 1] = acc[k]
        · have HI := mkHid (CompInv.start (d := acc) (k := k) (by omega) HS.out he)
          rw [decide_eq_true he] at hne
          clear he HS
          go_wp2
          go_quiet (fail)
          have hbd := drewN_below wr nq
          have hacc1 := hacc.below hbd
          have hbl1 := hbl.trans (hbd.mono (below_size hbl hB))
          clear hne w1 t1 c0 c1 c2 d0 d1 d2 hf0 hf1 hacc hbl hbd
          go_wp2
          go_loopw [3, 5] (fun i j wr => ∃ (kk p : Nat) (L : List Lk), kk ≤ k + 1 + p ∧ k + 1 + (p + 1) ≤ L0 ∧ i = .int .i64 kk ∧ j = .int .i64 ((p : Int) + 1) ∧ AccInv B 57 L (.slice (some ⟨g, 0, none⟩) L0 cap) wr ∧ Below B w wr ∧ Hid (CompInv acc L kk (k + 1 + p + 1))) (fun i j wr => L0 - (intOf j).toNat)
          case atStart => exact ⟨k + 1, 0, acc, by omega, by omega, by go_num, rfl, hacc1, hbl1, HI⟩
          case round =>
            clear hacc1 hbl1
            obtain ⟨kk, p, L, hkk, hp, rfl, rfl, hacc, hbl, HD⟩ := hrel
            have HLl := mkHid HD.out.len
            by_cases hlp : k + 1 + (p + 1) < L0
            · have hl1 : k + 1 + (p + 1) < L.length := by have := HLl.out; omega
              have hl2 : k + 1 + p < L.length := by omega
              obtain ⟨c0, c1, c2, hf0⟩ := hacc.getLk hl2
              obtain ⟨d0, d1, d2, hf1⟩ := hacc.getLk hl1
              rw [HD.out.at_ hkk (by omega) hl2] at c0 c1 c2 hf0
              rw [HD.out.at_ (by omega) (by omega) hl1] at d0 d1 d2 hf1
              rw [show (k + 1 + p) * 3 = (k + 1) * 3 + p * 3 by omega] at c0 c1 c2
              rw [show (k + 1 + (p + 1)) * 3 = (k + 1) * 3 + (p + 1) * 3 by omega] at d0 d1 d2
              obtain ⟨e0, e1, e2, hf2⟩ := hacc.getLk (j := kk) (by omega)
              have y0 := hacc.frozenLk (kk * 3)
              have y1 := hacc.frozenLk (kk * 3 + 1)
              have y2 := hacc.frozenLk (kk * 3 + 2)
              have w1 : IntKind.i64.wrap ((p : Int) + 1 - 1) = (p : Int) := by rw [show (p : Int) + 1 - 1 = (p : Int) by omega]; exact IntWalk.i64_in _ (by omega)
              have hne := fun w => run_neq_lk acc[k + 1 + (p + 1)] acc[k + 1 + p] w
              have t1 : ((p : Int) + 1).toNat = p + 1 := by omega
              have t2 : (0 : Int) ≤ (p : Int) + 1 := by omega
              have t3 : (p : Int) + 1 < ((L0 - (k + 1) : Nat) : Int) := by omega
              have t4 : (p : Int) < ((L0 - (k + 1) : Nat) : Int) := by omega
              by_cases he : acc[k + 1 + (p + 1)] = acc[k + 1 + p]
              · have HN := mkHid (HD.out.skip (by omega) he)
                rw [decide_eq_true he] at hne
                clear he HD
                go_wp2
                go_quiet (fail)
                have hbd := drewN_below wr nq
                go_wp2
                go_round
                case rel => exact ⟨kk, p + 1, L, by omega, by omega, rfl, by go_num, hacc.below hbd, hbl.trans (hbd.mono (below_size hbl hB)), HN⟩
                case measure => simp [intOf]; omega
              · have HN := mkHid (HD.out.keep (by omega) he)
                rw [decide_eq_false he] at hne
                clear he HD
                go_wp2
                go_quiet (fail)
                have hbd := drewN_below wr nq
                obtain ⟨hst1, hst2⟩ := (hacc.below hbd).setLk (i := kk) (by omega) acc[k + 1 + (p + 1)] hf1
                have hsz0 : B ≤ wr.heap.size := below_size hbl hB
                have hbs := (hbl.trans (hbd.mono (below_size hbl hB))).grown hst2 hsz0 (fun k e => by cases e; exact hgl.1)
                go_wp2
                go_round
                case rel => exact ⟨kk + 1, p + 1, _, by omega, by omega, by go_num, by go_num, hst1, hbs, HN⟩
                case measure => simp [intOf]; omega
            · have hj : k + 1 + p + 1 = acc.length := by have := HL0.out; omega
              have hpre := HD.out.pre
              rw [hj] at hpre
              have hkl : kk < L0 := by omega
              have hta := hacc.take (k := kk) (by have := HLl.out; have := HL0.out; omega)
              rw [hpre] at hta
              have hil : kk = (compTo acc acc.length).length := hta.len
              have hex : ∀ q, q < (L0 - kk) * 3 → (wr.cell? ⟨g, kk * 3 + q, none⟩).isSome = true := by
                intro q hq
                obtain ⟨vs, ho, hc⟩ := hacc.ex
                have hvl : vs.length = L.length * 3 := hc.len
                have hLL : L.length = L0 := by rw [HLl.out, HL0.out]
                have hu : vs[kk * 3 + q]? = some (vs[kk * 3 + q]'(by rw [hvl, hLL]; omega)) := List.getElem?_eq_getElem _
                have ho' : wr.ownsRow B 57 3 (.slice (some ⟨g, 0, none⟩) L.length cap) L.length vs := by rw [hLL]; rw [hLL] at ho; exact ho
                rw [own_cells ho' _ _ hu]; rfl
              have hcl := fun ty => run_clear_Lk wr ty g (kk * 3) (L0 - kk) (cap - kk) (by omega) hex (fun q _ => hacc.frozenLk _)
              obtain ⟨hfin, hgr⟩ := acc_behindLk (zLk (L0 - kk)) (kk * 3) (by rw [← hil]; exact Nat.le_refl _) hta
              have HFI : Hid (AccInv B 57 (compTo acc L0) (.slice (some ⟨g, 0, none⟩) kk cap) (wr.setCells g (kk * 3) (zLk (L0 - kk)))) := by rw [Hid, ← HL0.out]; rw [← HL0.out] at hfin; exact hfin
              have hkc : kk < cap := by omega
              clear HD hj hpre hta hil hex hfin HI HLl
              go_wp2
              go_ret
              exact ⟨_, rfl, HFI.out, hbl.grown hgr (below_size hbl hB) (fun k e => by cases e; exact hgl.1)⟩
        · have HT := mkHid (comp_next (by omega) HS.out he)
          rw [decide_eq_false he] at hne
          clear he HS
          go_wp2
          go_quiet (fail)
          have hbd := drewN_below wr nq
          go_wp2
          go_round
          case rel => exact ⟨k + 1, by omega, by go_num, hacc.below hbd, hbl.trans (hbd.mono (below_size hbl hB)), HT⟩
          case measure => simp [intOf]; omega
      · have HT : Hid (compTo acc L0 = acc) := by rw [Hid, ← HL0.out]; exact comp_all (by omega) (by omega) HS.out
        clear HS
        go_wp2
        go_ret
        exact ⟨_, rfl, by rw [HT.out]; exact hacc, hbl⟩
end Go.Proofs.Ytkgebkinlpmpnaa
namespace Go.Proofs.Ytkgebkinlpmpnaa
open Go.RowKit Go.ChangeShapes Go.WideShapes Go.Deep Go.ChangeAt

theorem Try.own : ownKnob Try.prog.godebug = none := by kernel_rfl
theorem Try.laidOut : laidOutB Try.prog = true := by kernel_rfl
theorem Try.cells50 : Try.prog.cellsOf 50 = 3 := by kernel_rfl
theorem Try.cells28 : Try.prog.cellsOf 28 = 1 := by kernel_rfl
theorem Try.cells3 : Try.prog.cellsOf 3 = 1 := by kernel_rfl
theorem Try.cells9 : Try.prog.cellsOf 9 = 1 := by kernel_rfl

theorem i64_wf {n : Int} (h : (Lit.int .i64 n).wf = true) : -9223372036854775808 ≤ n ∧ n ≤ 9223372036854775807 := by
  simp [Lit.wf, IntKind.min, IntKind.max, IntKind.signed, IntKind.bits] at h
  omega
theorem add_lit (b o j : Nat) : (Addr.mk b o none).add j = ⟨b, o + j, none⟩ := by unfold Addr.add; split <;> simp_all

section
variable {H : Type} {enc : TypeId × Value → H} {w : World} {spare : Nat → Bool} {held : Bool}
set_option maxRecDepth 100000 in
/-- three cells that read as a cell of a term -/
theorem open_cell {n : Nat} {cs : List Value} {x : DataW H × List MemPlace} (h : DataW.trod enc Try.prog w 0 spare held n 50 cs = some x) :
    ∃ c : Cel, cs = [.int .i64 c.k, .string c.s, .int .i64 c.n] ∧ c.fit := by
  obtain ⟨ys, m, _, _, hlen, hyl, hf⟩ := DataW.trod_struct Try.underlying50 h
  rw [Try.cells50] at hlen
  match cs, hlen with
  | [v0, v1, v2], _ =>
    have h0 : DataW.trod enc Try.prog w 0 spare held m 3 (([v0, v1, v2].drop 0).take (Try.prog.cellsOf 3)) = ys[0]? := hf 0 _ rfl
    have h1 : DataW.trod enc Try.prog w 0 spare held m 9 (([v0, v1, v2].drop 1).take (Try.prog.cellsOf 9)) = ys[1]? := hf 1 _ rfl
    have h2 : DataW.trod enc Try.prog w 0 spare held m 3 (([v0, v1, v2].drop 2).take (Try.prog.cellsOf 3)) = ys[2]? := hf 2 _ rfl
    rw [Try.cells3] at h0 h2
    rw [Try.cells9] at h1
    have hy : ∀ i : Nat, i < 3 → ∃ y, ys[i]? = some y := fun i hi => ⟨_, List.getElem?_eq_getElem (by rw [hyl]; exact hi)⟩
    obtain ⟨y0, e0⟩ := hy 0 (by omega)
    obtain ⟨y1, e1⟩ := hy 1 (by omega)
    obtain ⟨y2, e2⟩ := hy 2 (by omega)
    rw [e0] at h0
    rw [e1] at h1
    rw [e2] at h2
    obtain ⟨a0, q0, _, f0⟩ := DataW.trod_int Try.underlying3 h0
    obtain ⟨a1, q1, _, f1⟩ := DataW.trod_string Try.underlying9 h1
    obtain ⟨a2, q2, _, f2⟩ := DataW.trod_int Try.underlying3 h2
    simp at q0 q1 q2
    refine ⟨⟨a0, a1, a2⟩, by rw [q0, q1, q2], ⟨(i64_wf f0).1, (i64_wf f0).2, (i64_wf f2).1, (i64_wf f2).2, by unfold maxLen at f1; exact f1⟩⟩

/-- what rows of a kind are made of -/
theorem open_rows {α : Type} [Rep α] {t e : TypeId} (ht : Try.prog.underlying t = some (.slice e)) (hC : Try.prog.cellsOf e = Rep.sz α)
    (hE : ∀ (n : Nat) (a : Addr) (cs : List Value) (x : DataW H × List MemPlace), w.cells? 0 a (Rep.sz α) = some cs → DataW.trod enc Try.prog w 0 (fun _ => true) held n e cs = some x → ∃ (b o : Nat) (y : α), a = ⟨b, o, none⟩ ∧ Rep.E w b o y)
    {fuel : Nat} {a : Option Addr} {len cap : Nat} {x : DataW H × List MemPlace} (h : DataW.trod enc Try.prog w 0 (fun _ => true) held fuel t [.slice a len cap] = some x) :
    ∃ xs : List α, xs.length = len ∧ Row w a cap xs := by
  rcases open_slice ht h with ⟨hcs, _⟩ | ⟨ad, l, c, m, n, D, Pl, hcs, _, hl, hm, hmm, _, hi⟩
  · simp at hcs
    obtain ⟨rfl, rfl, rfl⟩ := hcs
    exact ⟨[], rfl, Row.empty _ _ _ (by omega) (fun _ => rfl)⟩
  · simp at hcs
    obtain ⟨rfl, rfl, rfl⟩ := hcs
    simp only [if_true] at hmm
    subst hmm
    have key : ∀ i, i < len → ∃ (b o : Nat) (y : α), ad.add (i * Rep.sz α) = ⟨b, o, none⟩ ∧ Rep.E w b o y := by
      intro i hil
      obtain ⟨cs', hc, ht'⟩ := hi i (by omega)
      rw [hC] at hc
      exact hE n _ cs' _ hc ht'
    have hy : ∀ i : Fin len, ∃ y : α, ∃ b o, ad.add (i.val * Rep.sz α) = ⟨b, o, none⟩ ∧ Rep.E w b o y := fun i => by
      obtain ⟨b, o, y, e1, e2⟩ := key i.val i.isLt
      exact ⟨y, b, o, e1, e2⟩
    let f : Fin len → α := fun i => Classical.choose (hy i)
    have hf : ∀ i : Fin len, ∃ b o, ad.add (i.val * Rep.sz α) = ⟨b, o, none⟩ ∧ Rep.E w b o (f i) := fun i => Classical.choose_spec (hy i)
    refine ⟨List.ofFn f, List.length_ofFn, ⟨by rw [List.length_ofFn]; exact hl, by unfold maxLen at hm; omega, (fun e => by cases e), fun i x hx => ?_⟩⟩
    have hil : i < len := by
      have := (List.getElem?_eq_some_iff.1 hx).1; rwa [List.length_ofFn] at this
    have hx' : f ⟨i, hil⟩ = x := by
      rw [List.getElem?_eq_getElem (by rw [List.length_ofFn]; exact hil), List.getElem_ofFn] at hx
      exact Option.some.inj hx
    obtain ⟨b, o, e1, e2⟩ := hf ⟨i, hil⟩
    obtain ⟨b0, o0, s0⟩ := ad
    have hz := hf ⟨0, by omega⟩
    obtain ⟨b1, o1, e3, _⟩ := hz
    simp only [Nat.zero_mul, Addr.add, if_true] at e3
    injection e3 with e3 e4 e5
    subst e5
    rw [add_lit] at e1
    injection e1 with e1 e6
    subst e1
    refine ⟨b0, o0, rfl, ?_⟩
    rw [hx'] at e2
    rw [← e6] at e2
    exact e2

theorem spot_none {a : Addr} {v : Value} (h : w.cell? a = some v) : ∃ b o, a = ⟨b, o, none⟩ := by
  have := World.cell?_spot h
  obtain ⟨b, o, s⟩ := a
  simp at this
  subst this
  exact ⟨b, o, rfl⟩
theorem E_cell (n : Nat) (a : Addr) (cs : List Value) (x : DataW H × List MemPlace) (hc : w.cells? 0 a 3 = some cs) (h : DataW.trod enc Try.prog w 0 spare held n 50 cs = some x) : ∃ (b o : Nat) (y : Cel), a = ⟨b, o, none⟩ ∧ Rep.E w b o y := by
  obtain ⟨c, rfl, hf⟩ := open_cell h
  obtain ⟨_, _, hat⟩ := World.cells?_some hc
  have h0 := hat 0 (by omega)
  obtain ⟨b, o, rfl⟩ : ∃ b o, a = ⟨b, o, none⟩ := spot_none (by simpa [Addr.add] using h0)
  refine ⟨b, o, c, rfl, ?_⟩
  have h1 := hat 1 (by omega)
  have h2 := hat 2 (by omega)
  rw [add_lit] at h0 h1 h2
  exact ⟨h0, h1, h2, hf⟩
/-- []Cell -/
theorem open_cells {fuel : Nat} {a : Option Addr} {len cap : Nat} {x : DataW H × List MemPlace} (h : DataW.trod enc Try.prog w 0 (fun _ => true) held fuel 28 [.slice a len cap] = some x) :
    ∃ xs : List Cel, xs.length = len ∧ Row w a cap xs :=
  open_rows Try.underlying28 Try.cells50 (fun n a cs x h1 h2 => E_cell n a cs x h1 h2) h
theorem E_list {α : Type} [Rep α] {e : TypeId} {el : TypeId} (he : Try.prog.underlying e = some (.slice el))
    (hop : ∀ {fuel : Nat} {a : Option Addr} {len cap : Nat} {x : DataW H × List MemPlace}, DataW.trod enc Try.prog w 0 (fun _ => true) held fuel e [.slice a len cap] = some x → ∃ xs : List α, xs.length = len ∧ Row w a cap xs)
    (n : Nat) (a : Addr) (cs : List Value) (x : DataW H × List MemPlace) (hc : w.cells? 0 a 1 = some cs) (h : DataW.trod enc Try.prog w 0 (fun _ => true) held n e cs = some x) : ∃ (b o : Nat) (y : List α), a = ⟨b, o, none⟩ ∧ Rep.E w b o y := by
  obtain ⟨_, hl, hat⟩ := World.cells?_some hc
  have h0 := hat 0 (by omega)
  match cs, hl with
  | [v], _ =>
    have hv : ∃ a' len cap, v = .slice a' len cap := by
      rcases open_slice he h with ⟨hcs, _⟩ | ⟨ad, l, c, m, n, D, Pl, hcs, _⟩
      · simp at hcs; exact ⟨_, _, _, hcs⟩
      · simp at hcs; exact ⟨_, _, _, hcs⟩
    obtain ⟨a', len, cap, rfl⟩ := hv
    obtain ⟨xs, rfl, hr⟩ := hop h
    obtain ⟨b, o, rfl⟩ : ∃ b o, a = ⟨b, o, none⟩ := spot_none (by simpa [Addr.add] using h0)
    rw [add_lit] at h0
    exact ⟨b, o, xs, rfl, ⟨a', cap, h0, hr⟩⟩
end
end Go.Proofs.Ytkgebkinlpmpnaa
namespace Go.Proofs.Ytkgebkinlpmpnaa
open Go.RowKit

def keyP (p : Pd) : Lit := .string (keyBytes [.string p.s.data.toList, .int .i64 p.n])
theorem pd_law : WideMaps.KeyLaw Try.prog 24 :=
  deep_law_gate Try.laidOut (Nat.le_of_ble_eq_true (by kernel_rfl)) (Nat.le_of_ble_eq_true (by kernel_rfl)) (by kernel_rfl) (by rw [Try.underlying24])
theorem pd_keyed : Go.Maps.Keyed Try.prog 24 := Go.Maps.Keyed.of_law pd_law
theorem Try.cellsPred : Try.prog.cellsOf 24 = 2 := by kernel_rfl
theorem Try.keyPred : Try.prog.keyType 24 = true := by kernel_rfl
theorem Try.typesSize : ∃ m, Try.prog.types.size = m + 1 := ⟨Try.prog.types.size - 1, by kernel_rfl⟩
theorem keyOf_pd {p : Pd} (hf : p.fit) : keyOf Try.prog 24 (.agg #[.string p.s, .int .i64 p.n]) = some (keyP p) := by
  obtain ⟨m, hm⟩ := Try.typesSize
  have h1 := hf.s
  have h2 : (Lit.int .i64 p.n).wf = true := wf64 hf.n1 hf.n2
  unfold keyOf
  simp only [Try.underlying24]
  rw [if_pos (by simp [Try.keyPred, Value.formed, Try.underlying24, Try.cellsPred]), hm]
  unfold Program.keyLits
  simp only [Try.underlying24, Value.cells]
  rw [if_pos (by rw [Try.cellsPred]; simp)]
  have k1 : Try.prog.keyLits (m + 1) 9 [.string p.s] = some [.string p.s.data.toList] := by
    unfold Program.keyLits
    simp only [Try.underlying9]
    rw [if_pos (by unfold maxLen; omega)]
  have k2 : Try.prog.keyLits (m + 1) 3 [.int .i64 p.n] = some [.int .i64 p.n] := by
    unfold Program.keyLits
    simp only [Try.underlying3]
    rw [if_pos ⟨trivial, h2⟩]
  simp only [List.mapM_cons, List.mapM_nil]
  rw [Try.cells9, Try.cells3]
  show Option.map (fun ls => Lit.string (keyBytes ls)) (Option.map List.flatten (do
    let x ← Try.prog.keyLits (m + 1) 9 [Value.string p.s]
    let y ← (do
      let z ← Try.prog.keyLits (m + 1) 3 [Value.int .i64 p.n]
      let u ← pure []
      pure (z :: u))
    pure (x :: y))) = _
  rw [k1, k2]
  simp only [bind, Option.bind, pure, Option.map, List.flatten_cons, List.flatten_nil, List.append_nil, List.cons_append, List.nil_append, keyP]
theorem keyP_inj {p q : Pd} (hp : p.fit) (hq : q.fit) (h : keyP p = keyP q) : p = q := by
  have h1 := keyOf_pd hp
  have h2 := keyOf_pd hq
  rw [← h] at h2
  have h3 := pd_keyed.inj h1 h2
  clear h h1 h2
  have h4 : (#[Value.string p.s, .int .i64 p.n] : Array Value).toList = [Value.string q.s, .int .i64 q.n] := by rw [Value.agg.inj h3]
  have h5 : Value.string p.s = Value.string q.s := (List.cons.inj h4).1
  have h6 : Value.int .i64 p.n = Value.int .i64 q.n := (List.cons.inj (List.cons.inj h4).2).1
  exact (Pd.eq_iff p q).2 ⟨Value.string.inj h5, (Value.int.inj h6).2⟩

/-- block b of w is a map from predicates to int of at most n entries; what is not there is the zero value -/
def MapPI (w : World) (b n : Nat) (f : Pd → Int) : Prop :=
  ∃ D : DataW Unit, w.ownsMap Try.prog 24 (plainElem Try.prog 3) b n D ∧ ∀ p : Pd, p.fit → D.atKey (keyP p) (.lit (.int .i64 0)) = .lit (.int .i64 (f p))
theorem MapPI.made (w : World) : MapPI (w.alloc (.map #[] 0)) w.heap.size 0 (fun _ => 0) :=
  ⟨.map [], World.ownsMap_made w Try.prog 24 _, fun _ _ => rfl⟩
theorem Try.zeroIntK (w : World) : (zeroValue 3).run Try.prog w = .ok (.int .i64 0) w := by kernel_rfl
section
variable {w w' : World} {b n : Nat} {f : Pd → Int}
theorem MapPI.lt (h : MapPI w b n f) : b < w.heap.size := let ⟨_, h, _⟩ := h; h.lt
theorem MapPI.kept {row : Option Nat} (h : MapPI w b n f) (hg : w.grownBy w' row) (hne : some b ≠ row) : MapPI w' b n f :=
  let ⟨D, h, hf⟩ := h; ⟨D, h.kept hg hne, hf⟩
theorem MapPI.below (h : MapPI w b n f) (hb : Below w.heap.size w w') : MapPI w' b n f :=
  h.kept (row := none) ⟨hb.os, hb.tape, hb.output, hb.size, fun k hk _ => hb.block k hk⟩ (by simp)
theorem MapPI.alloc (h : MapPI w b n f) (o : Obj) : MapPI (w.alloc o) b n f := let ⟨D, h, hf⟩ := h; ⟨D, h.alloc o, hf⟩
theorem MapPI.run_lookup (h : MapPI w b n f) {p : Pd} (hp : p.fit) : (Instr.lookup 80 (.map (some b)) (.agg #[.string p.s, .int .i64 p.n]) false).run Try.prog w = .ok (.int .i64 (f p)) w := by
  obtain ⟨D, h, hf⟩ := h
  obtain ⟨v, ps, hrun, hv⟩ := h.lookup pd_keyed Try.underlying80 (Try.zeroIntK w) (z := .int .i64 0) (zd := .lit (.int .i64 0)) (zp := []) (plainElem_int Try.underlying3 rfl) (keyOf_pd hp)
  rw [hf p hp] at hv
  rw [hrun]
  obtain ⟨c, rfl, hc, _⟩ := plainElem_int_inv Try.underlying3 hv
  simp at hc
  rw [hc.1]
theorem MapPI.put_at {D : DataW Unit} (hD : Go.Maps.IsMap D) (hf : ∀ p : Pd, p.fit → D.atKey (keyP p) (.lit (.int .i64 0)) = .lit (.int .i64 (f p))) {p : Pd} (hp : p.fit) (x : Int) :
    ∀ q : Pd, q.fit → (D.put (keyP p) (.lit (.int .i64 x))).atKey (keyP q) (.lit (.int .i64 0)) = .lit (.int .i64 (if q = p then x else f q)) := by
  intro q hq
  by_cases e : q = p
  · subst e; rw [if_pos rfl]; exact Go.Maps.atKey_put_same hD (pd_keyed.key (keyOf_pd hq)) _ _
  · rw [if_neg e, ← hf q hq]; exact Go.Maps.atKey_put_other (fun h => e (keyP_inj hq hp h)) _ _
theorem MapPI.wpl_update {ops : Array Oper} {rest : List Oper} {o : Oper} {a : Act} {Q : Exit → Act → World → Prop}
    (hg : o.guard = none) (m x y : Operand) (hop : o.op = Op.mapUpdate 80 m x y)
    (hm : a.eval m = .map (some b)) (h : MapPI w b n f) (hn : n < 9223372036854775807) (p : Pd) (hx : a.eval x = .agg #[.string p.s, .int .i64 p.n]) (hp : p.fit) (z : Int) (hy : a.eval y = .int .i64 z) (hz : (Lit.int .i64 z).wf = true)
    (hK : ∀ w', MapPI w' b (n + 1) (fun j => if j = p then z else f j) → w.grownBy w' (some b) → wpList Try.prog ops Q rest (a.put o.dst undef) w') :
    wpList Try.prog ops Q (o :: rest) a w := by
  obtain ⟨D, h, hf⟩ := h
  refine wpList_mapUpdate_own w hg m x y 80 hop 24 3 pd_keyed Try.underlying80 _ b n D hm h (by unfold maxLen; omega) _ _ _ hx hy (keyOf_pd hp) (.lit (.int .i64 z)) [] (plainElem_int Try.underlying3 hz) ?_
  intro w' h' hg'
  exact hK w' ⟨_, h', MapPI.put_at h.isMap hf hp z⟩ hg'
end
end Go.Proofs.Ytkgebkinlpmpnaa
namespace Go.Proofs.Ytkgebkinlpmpnaa
open Go.RowKit Go.Lib Go.Shelf

/-! ### orders -/
structure LO {α : Type} (lt : α → α → Bool) : Prop where
  irr : ∀ x, lt x x = false
  tr : ∀ x y z, lt x y = true → lt y z = true → lt x z = true
  tot : ∀ x y, lt x y = false → lt y x = false → x = y
section
variable {α : Type} {lt : α → α → Bool}
theorem LO.asym (h : LO lt) {x y : α} (h1 : lt x y = true) : lt y x = false := by
  cases h2 : lt y x with
  | false => rfl
  | true => have := h.tr _ _ _ h1 h2; rw [h.irr] at this; cases this
theorem LO.ntr (h : LO lt) {x y z : α} (h1 : lt x y = false) (h2 : lt y z = false) : lt x z = false := by
  cases h3 : lt x z with
  | false => rfl
  | true =>
    cases h4 : lt y x with
    | false => have := h.tot _ _ h1 h4; subst this; rw [h3] at h2; cases h2
    | true => have := h.tr _ _ _ h4 h3; rw [this] at h2; cases h2
theorem LO.swo (h : LO lt) : Go.Sort.SWO lt := ⟨h.irr, h.tr, fun _ _ _ => h.ntr⟩
/-- rows that rise, with the same members, are the same -/
theorem LO.unique (h : LO lt) : ∀ (l1 l2 : List α), l1.Pairwise (fun x y => lt x y = true) → l2.Pairwise (fun x y => lt x y = true) → (∀ x, x ∈ l1 ↔ x ∈ l2) → l1 = l2
  | [], [], _, _, _ => rfl
  | [], b :: l2, _, _, hm => by have := (hm b).2 (by simp); simp at this
  | a :: l1, [], _, _, hm => by have := (hm a).1 (by simp); simp at this
  | a :: l1, b :: l2, h1, h2, hm => by
    rw [List.pairwise_cons] at h1 h2
    have hab : a = b := by
      rcases List.mem_cons.1 ((hm a).1 (by simp)) with e | ha
      · exact e
      · rcases List.mem_cons.1 ((hm b).2 (by simp)) with e | hb
        · exact e.symm
        · have x1 := h2.1 a ha
          have x2 := h1.1 b hb
          rw [h.asym x1] at x2; cases x2
    subst hab
    rw [LO.unique h l1 l2 h1.2 h2.2 (fun x => by
      constructor
      · intro hx
        rcases List.mem_cons.1 ((hm x).1 (by simp [hx])) with e | h'
        · subst e; have := h1.1 x hx; rw [h.irr] at this; cases this
        · exact h'
      · intro hx
        rcases List.mem_cons.1 ((hm x).2 (by simp [hx])) with e | h'
        · subst e; have := h2.1 x hx; rw [h.irr] at this; cases this
        · exact h')]
/-- a row that doesn't fall, without what stands twice, rises, and has the same members -/
theorem LO.comp [DecidableEq α] (h : LO lt) {d : List α} (hd : d.Pairwise fun x y => lt y x = false) : ∀ j, j ≤ d.length → (compTo d j).Pairwise (fun x y => lt x y = true) ∧ ∀ x, x ∈ compTo d j ↔ x ∈ d.take j
  | 0, _ => ⟨List.Pairwise.nil, by simp [compTo]⟩
  | j + 1, hj => by
    obtain ⟨h1, h2⟩ := LO.comp h hd j (by omega)
    have hjl : j < d.length := by omega
    rw [List.pairwise_iff_getElem] at hd
    cases hk : keepAt d j with
    | false =>
      rw [comp_skip hjl hk]
      refine ⟨h1, fun x => ?_⟩
      rw [h2, List.take_succ_eq_append_getElem hjl, List.mem_append, List.mem_singleton]
      constructor
      · exact .inl
      · rintro (hx | hx)
        · exact hx
        · cases j with
          | zero => simp [keepAt] at hk
          | succ i =>
            have e : d[i + 1] = d[i] := by
              simp [keepAt, List.getElem?_eq_getElem hjl, List.getElem?_eq_getElem (show i < d.length by omega)] at hk
              exact hk
            rw [hx, e, List.mem_take_iff_getElem]
            exact ⟨i, by omega, rfl⟩
    | true =>
      rw [comp_keep hjl hk]
      refine ⟨?_, fun x => ?_⟩
      · rw [List.pairwise_append]
        refine ⟨h1, List.pairwise_singleton _ _, fun y hy x hx => ?_⟩
        rw [List.mem_singleton] at hx
        subst hx
        rw [h2, List.mem_take_iff_getElem] at hy
        obtain ⟨i, hi, rfl⟩ := hy
        have hij : i < j := by omega
        have n1 := hd i j (by omega) hjl hij
        cases hlt : lt d[i] d[j] with
        | true => rfl
        | false =>
          exfalso
          have e := h.tot _ _ hlt n1
          cases j with
          | zero => omega
          | succ q =>
            have hne : ¬ d[q + 1] = d[q] := by
              simp [keepAt, List.getElem?_eq_getElem hjl, List.getElem?_eq_getElem (show q < d.length by omega)] at hk
              exact hk
            apply hne
            have n2 := hd q (q + 1) (by omega) hjl (by omega)
            rcases Nat.lt_or_ge i q with hiq | hiq
            · have n3 := hd i q (by omega) (by omega) hiq
              rw [e] at n3
              exact h.tot _ _ n2 n3
            · have : i = q := by omega
              subst this
              exact e.symm
      · rw [List.mem_append, h2, List.take_succ_eq_append_getElem hjl, List.mem_append]
theorem LO.done [DecidableEq α] (h : LO lt) {d d' r : List α} (hp : d'.Perm d) (hd : d'.Pairwise fun x y => lt y x = false) (hr : r.Pairwise fun x y => lt x y = true) (hm : ∀ x, x ∈ r ↔ x ∈ d) : compTo d' d'.length = r := by
  obtain ⟨h1, h2⟩ := h.comp hd d'.length (Nat.le_refl _)
  refine h.unique _ _ h1 hr fun x => ?_
  rw [h2, List.take_length, hp.mem_iff, hm]
end

/-! ### bytes -/
theorem bl_irr (l : List UInt8) : Op.bytesLess l l = false := bytesLess_irrefl l
theorem bl_tr : ∀ (a b c : List UInt8), Op.bytesLess a b = true → Op.bytesLess b c = true → Op.bytesLess a c = true := by
  intro a
  induction a with
  | nil =>
    intro b c h1 h2
    cases b with
    | nil => simp [Op.bytesLess] at h1
    | cons y b => cases c with
      | nil => simp [Op.bytesLess] at h2
      | cons z c => simp [Op.bytesLess]
  | cons x a ih =>
    intro b c h1 h2
    cases b with
    | nil => simp [Op.bytesLess] at h1
    | cons y b => cases c with
      | nil => simp [Op.bytesLess] at h2
      | cons z c =>
        simp [Op.bytesLess] at h1 h2 ⊢
        rcases h1 with h1 | ⟨h1, h1'⟩ <;> rcases h2 with h2 | ⟨h2, h2'⟩
        · exact .inl (UInt8.lt_trans h1 h2)
        · subst h2; exact .inl h1
        · subst h1; exact .inl h2
        · subst h1; subst h2; exact .inr ⟨rfl, ih _ _ h1' h2'⟩
theorem bl_tot : ∀ (a b : List UInt8), Op.bytesLess a b = false → Op.bytesLess b a = false → a = b := by
  intro a
  induction a with
  | nil =>
    intro b h1 h2
    cases b with
    | nil => rfl
    | cons y b => simp [Op.bytesLess] at h1
  | cons x a ih =>
    intro b h1 h2
    cases b with
    | nil => simp [Op.bytesLess] at h2
    | cons y b =>
      simp [Op.bytesLess] at h1 h2
      have hxy : x = y := by
        apply UInt8.le_antisymm
        · exact h2.1
        · exact h1.1
      subst hxy
      rw [ih b (h1.2 rfl) (h2.2 rfl)]
theorem pd_lo : LO pdLt where
  irr p := by unfold pdLt; rw [bl_irr]; simp
  tr p q r h1 h2 := by
    unfold pdLt at *
    simp at h1 h2 ⊢
    rcases h1 with h1 | ⟨h1, h1'⟩ <;> rcases h2 with h2 | ⟨h2, h2'⟩
    · exact .inl (bl_tr _ _ _ h1 h2)
    · rw [h2] at h1; exact .inl h1
    · rw [← h1] at h2; exact .inl h2
    · exact .inr ⟨h1.trans h2, by omega⟩
  tot p q h1 h2 := by
    unfold pdLt at h1 h2
    simp at h1 h2
    have e := bl_tot _ _ h1.1 h2.1
    rw [toList_inj] at e
    have n1 := h1.2 e
    have n2 := h2.2 e.symm
    exact (Pd.eq_iff p q).2 ⟨e, by omega⟩
theorem lt_pd (x y : Pd) : ltOf cmpP x y = pdLt x y := by
  unfold ltOf cmpP or2 cmpS cmpI pdLt
  by_cases h1 : Op.bytesLess x.s.toList y.s.toList = true
  · simp [h1]
  · have h1' : Op.bytesLess x.s.toList y.s.toList = false := by simpa using h1
    rw [h1']
    by_cases h2 : x.s = y.s
    · simp [h2]
      by_cases h3 : x.n < y.n
      · simp [h3]
      · by_cases h4 : y.n < x.n <;> simp [h3, h4]
    · simp [h2]
def lkLt (x y : Lk) : Bool := decide (x.f < y.f) || (decide (x.f = y.f) && (decide (x.t < y.t) || (decide (x.t = y.t) && (!x.neg && y.neg))))
theorem lk_lo : LO lkLt where
  irr p := by unfold lkLt; simp
  tr p q r h1 h2 := by
    obtain ⟨pf, pt, pn⟩ := p
    obtain ⟨qf, qt, qn⟩ := q
    obtain ⟨rf, rt, rn⟩ := r
    unfold lkLt at *
    cases pn <;> cases qn <;> cases rn <;> simp at h1 h2 ⊢ <;> omega
  tot p q h1 h2 := by
    unfold lkLt at h1 h2
    simp at h1 h2
    refine (Lk.eq_iff p q).2 ⟨by omega, by omega, ?_⟩
    have e1 : p.f = q.f := by omega
    have e2 : p.t = q.t := by omega
    have n1 := (h1.2 e1).2 e2
    have n2 := (h2.2 e1.symm).2 e2.symm
    cases hp : p.neg <;> cases hq : q.neg <;> simp [hp, hq] at n1 n2 ⊢
theorem lt_lk (x y : Lk) : ltOf cmpL x y = lkLt x y := by
  unfold ltOf cmpL or2 cmpI lkLt
  by_cases h1 : x.f < y.f
  · simp [h1]
  · by_cases h2 : y.f < x.f
    · have : ¬ x.f = y.f := by omega
      simp [h1, h2, this]
    · have e : x.f = y.f := by omega
      by_cases h3 : x.t < y.t
      · simp [h1, h2, e, h3]
      · by_cases h4 : y.t < x.t
        · have : ¬ x.t = y.t := by omega
          simp [h1, h2, e, h3, h4, this]
        · have e2 : x.t = y.t := by omega
          simp [e, e2]
          cases x.neg <;> cases y.neg <;> simp
end Go.Proofs.Ytkgebkinlpmpnaa
namespace Go.Proofs.Ytkgebkinlpmpnaa
open Go.RowKit Go.Lib

theorem mem_putP {l : List Pd} {p x : Pd} : x ∈ putP l p ↔ x = p ∨ x ∈ l := by
  induction l with
  | nil => simp [putP]
  | cons q l ih =>
    unfold putP
    split
    · simp only [List.mem_cons, ih]
      constructor
      · rintro (h | h | h)
        · exact .inr (.inl h)
        · exact .inl h
        · exact .inr (.inr h)
      · rintro (h | h | h)
        · exact .inr (.inl h)
        · exact .inl h
        · exact .inr (.inr h)
    · split
      · rename_i e
        subst e
        simp
      · simp
theorem putP_up {l : List Pd} {p : Pd} (h : l.Pairwise fun x y => pdLt x y = true) : (putP l p).Pairwise fun x y => pdLt x y = true := by
  induction l with
  | nil => simp [putP]
  | cons q l ih =>
    rw [List.pairwise_cons] at h
    unfold putP
    split
    · rename_i hlt
      rw [List.pairwise_cons]
      refine ⟨fun x hx => ?_, ih h.2⟩
      rcases mem_putP.1 hx with rfl | hx
      · exact hlt
      · exact h.1 x hx
    · rename_i hlt
      split
      · rename_i e
        subst e
        rw [List.pairwise_cons]
        exact h
      · rename_i hne
        have hpq : pdLt p q = true := by
          cases hc : pdLt p q with
          | true => rfl
          | false => exact absurd (pd_lo.tot _ _ (by simpa using hlt) hc) hne
        rw [List.pairwise_cons]
        refine ⟨fun x hx => ?_, by rw [List.pairwise_cons]; exact h⟩
        rcases List.mem_cons.1 hx with rfl | hx
        · exact hpq
        · exact pd_lo.tr _ _ _ hpq (h.1 x hx)
theorem foldP_up (ps : List Pd) : ∀ A : List Pd, A.Pairwise (fun x y => pdLt x y = true) → (ps.foldl putP A).Pairwise (fun x y => pdLt x y = true) ∧ ∀ x, x ∈ ps.foldl putP A ↔ x ∈ A ∨ x ∈ ps := by
  induction ps with
  | nil => intro A h; exact ⟨h, by simp⟩
  | cons p ps ih =>
    intro A h
    obtain ⟨h1, h2⟩ := ih (putP A p) (putP_up h)
    refine ⟨h1, fun x => ?_⟩
    rw [List.foldl_cons, h2, mem_putP, List.mem_cons]
    constructor
    · rintro ((h | h) | h)
      · exact .inr (.inl h)
      · exact .inl h
      · exact .inr (.inr h)
    · rintro (h | h | h)
      · exact .inl (.inr h)
      · exact .inl (.inl h)
      · exact .inr h
theorem preds_up (m : List Cl) : (predsL m).Pairwise fun x y => pdLt x y = true := (foldP_up (allP m) [] List.Pairwise.nil).1
theorem mem_preds {m : List Cl} {p : Pd} : p ∈ predsL m ↔ p ∈ allP m := by
  have := (foldP_up (allP m) [] List.Pairwise.nil).2 p
  simpa [predsL] using this
theorem preds_nodup (m : List Cl) : (predsL m).Nodup := (preds_up m).imp fun {x y} h e => by subst e; rw [pd_lo.irr] at h; cases h
theorem mem_allP {m : List Cl} {p : Pd} : p ∈ allP m ↔ ∃ c ∈ m, p = predOf c.h ∨ ∃ x ∈ c.b, p = predOf x.t := by
  unfold allP
  rw [List.mem_flatMap]
  constructor
  · rintro ⟨c, hc, h⟩
    rcases List.mem_cons.1 h with h | h
    · exact ⟨c, hc, .inl h⟩
    · obtain ⟨x, hx, e⟩ := List.mem_map.1 h
      exact ⟨c, hc, .inr ⟨x, hx, e.symm⟩⟩
  · rintro ⟨c, hc, h⟩
    refine ⟨c, hc, ?_⟩
    rcases h with h | ⟨x, hx, e⟩
    · rw [h]; simp
    · rw [e]; exact List.mem_cons_of_mem _ (List.mem_map.2 ⟨x, hx, rfl⟩)
theorem head_mem {m : List Cl} {c : Cl} (h : c ∈ m) : predOf c.h ∈ predsL m := mem_preds.2 (mem_allP.2 ⟨c, h, .inl rfl⟩)
theorem body_mem {m : List Cl} {c : Cl} (h : c ∈ m) {x : Lt} (hx : x ∈ c.b) : predOf x.t ∈ predsL m := mem_preds.2 (mem_allP.2 ⟨c, h, .inr ⟨x, hx, rfl⟩⟩)

/-! ### links -/
def linkOf (P : List Pd) (c : Cl) (x : Lt) : Lk := ⟨(P.idxOf (predOf c.h) : Nat), (P.idxOf (predOf x.t) : Nat), x.neg⟩
def allK (P : List Pd) (m : List Cl) : List Lk := m.flatMap fun c => c.b.map (linkOf P c)
theorem idx_get {P : List Pd} (h : P.Nodup) {i : Nat} (hi : i < P.length) : P.idxOf P[i] = i := by
  have hm : P.idxOf P[i] < P.length := List.idxOf_lt_length_of_mem (List.getElem_mem hi)
  have he := List.getElem_idxOf hm
  have hp := List.pairwise_iff_getElem.1 h
  rcases Nat.lt_trichotomy (P.idxOf P[i]) i with h1 | h1 | h1
  · exact absurd he (hp _ _ hm hi h1)
  · exact h1
  · exact absurd he.symm (hp _ _ hi hm h1)
theorem mem_linkAt {m : List Cl} {P : List Pd} {i k : Nat} (hi : i < P.length) (hk : k < P.length) {x : Lk} : x ∈ linkAt m P i k ↔ x.f = i ∧ x.t = k ∧ hasB m P[i] P[k] x.neg = true := by
  rw [linkAt_of m hi hk, List.mem_append]
  obtain ⟨a, b, c⟩ := x
  cases c <;> cases h1 : hasB m P[i] P[k] false <;> cases h2 : hasB m P[i] P[k] true <;> simp [h1, h2]
theorem hasB_iff {m : List Cl} {p q : Pd} {neg : Bool} : hasB m p q neg = true ↔ ∃ c ∈ m, predOf c.h = p ∧ ∃ x ∈ c.b, predOf x.t = q ∧ x.neg = neg := by
  unfold hasB
  simp only [List.any_eq_true, Bool.and_eq_true, decide_eq_true_eq, beq_iff_eq]
theorem mem_links {m : List Cl} {x : Lk} : x ∈ linksL m ↔ x ∈ allK (predsL m) m := by
  rw [links_eq, List.mem_flatMap]
  unfold allK
  rw [List.mem_flatMap]
  constructor
  · rintro ⟨i, hi, h⟩
    obtain ⟨k, hk, h⟩ := List.mem_flatMap.1 h
    rw [List.mem_range] at hi hk
    rw [mem_linkAt hi hk] at h
    obtain ⟨e1, e2, e3⟩ := h
    obtain ⟨c, hc, e4, y, hy, e5, e6⟩ := hasB_iff.1 e3
    refine ⟨c, hc, List.mem_map.2 ⟨y, hy, ?_⟩⟩
    rw [Lk.eq_iff]
    refine ⟨?_, ?_, e6⟩
    · show ((predsL m).idxOf (predOf c.h) : Int) = x.f
      rw [e4, idx_get (preds_nodup m) hi, e1]
    · show ((predsL m).idxOf (predOf y.t) : Int) = x.t
      rw [e5, idx_get (preds_nodup m) hk, e2]
  · rintro ⟨c, hc, h⟩
    obtain ⟨y, hy, e⟩ := List.mem_map.1 h
    have h1 := List.idxOf_lt_length_of_mem (head_mem hc)
    have h2 := List.idxOf_lt_length_of_mem (body_mem hc hy)
    refine ⟨_, List.mem_range.2 h1, List.mem_flatMap.2 ⟨_, List.mem_range.2 h2, ?_⟩⟩
    rw [mem_linkAt h1 h2]
    refine ⟨by rw [← e]; rfl, by rw [← e]; rfl, ?_⟩
    rw [hasB_iff]
    refine ⟨c, hc, (List.getElem_idxOf h1).symm, y, hy, (List.getElem_idxOf h2).symm, by rw [← e]; rfl⟩
theorem linkAt_up (m : List Cl) {P : List Pd} {i k : Nat} (hi : i < P.length) (hk : k < P.length) : (linkAt m P i k).Pairwise fun x y => lkLt x y = true := by
  rw [linkAt_of m hi hk]
  cases h1 : hasB m P[i] P[k] false <;> cases h2 : hasB m P[i] P[k] true <;> simp [lkLt]
theorem pairwise_flat {α : Type} {R : α → α → Prop} {F : Nat → List α} : ∀ (l : List Nat), l.Pairwise (fun a b => ∀ x ∈ F a, ∀ y ∈ F b, R x y) → (∀ a ∈ l, (F a).Pairwise R) → (l.flatMap F).Pairwise R
  | [], _, _ => by simp
  | a :: l, h, hF => by
    rw [List.pairwise_cons] at h
    rw [List.flatMap_cons, List.pairwise_append]
    refine ⟨hF a (by simp), pairwise_flat l h.2 fun b hb => hF b (by simp [hb]), fun x hx y hy => ?_⟩
    obtain ⟨b, hb, hy⟩ := List.mem_flatMap.1 hy
    exact h.1 b hb x hx y hy
theorem range_up (n : Nat) : (List.range n).Pairwise fun a b => a < b := List.pairwise_lt_range
theorem links_up (m : List Cl) : (linksL m).Pairwise fun x y => lkLt x y = true := by
  rw [links_eq]
  refine pairwise_flat _ ?_ ?_
  · refine List.Pairwise.imp_of_mem ?_ (range_up _)
    intro a b ha hb hab x hx y hy
    obtain ⟨k, hk, hx⟩ := List.mem_flatMap.1 hx
    obtain ⟨j, hj, hy⟩ := List.mem_flatMap.1 hy
    rw [List.mem_range] at ha hb hk hj
    rw [mem_linkAt ha hk] at hx
    rw [mem_linkAt hb hj] at hy
    unfold lkLt
    have : x.f < y.f := by omega
    simp [this]
  · intro a ha
    rw [List.mem_range] at ha
    refine pairwise_flat _ ?_ ?_
    · refine List.Pairwise.imp_of_mem ?_ (range_up _)
      intro b c hb hc hbc x hx y hy
      rw [List.mem_range] at hb hc
      rw [mem_linkAt ha hb] at hx
      rw [mem_linkAt ha hc] at hy
      unfold lkLt
      have e1 : x.f = y.f := by omega
      have e2 : x.t < y.t := by omega
      simp [e1, e2]
    · intro b hb
      rw [List.mem_range] at hb
      exact linkAt_up m ha hb

theorem preds_done {m : List Cl} {d : List Pd} (hp : d.Perm (allP m)) (hd : d.Pairwise fun x y => ltOf cmpP y x = false) : compTo d d.length = predsL m :=
  pd_lo.done hp (hd.imp fun {x y} h => by rw [lt_pd] at h; exact h) (preds_up m) fun _ => mem_preds
theorem links_done {m : List Cl} {d : List Lk} (hp : d.Perm (allK (predsL m) m)) (hd : d.Pairwise fun x y => ltOf cmpL y x = false) : compTo d d.length = linksL m :=
  lk_lo.done hp (hd.imp fun {x y} h => by rw [lt_lk] at h; exact h) (links_up m) fun _ => mem_links
theorem swo_pd : Go.Sort.SWO (ltOf cmpP) := by
  have : ltOf cmpP = pdLt := by funext x y; exact lt_pd x y
  rw [this]; exact pd_lo.swo
theorem swo_lk : Go.Sort.SWO (ltOf cmpL) := by
  have : ltOf cmpL = lkLt := by funext x y; exact lt_lk x y
  rw [this]; exact lk_lo.swo
end Go.Proofs.Ytkgebkinlpmpnaa
namespace Go.Proofs.Ytkgebkinlpmpnaa
open Go.Shelf
def Try.sortPd_ren : Go.Shelf.Ren := ⟨fun | 6 => 47 | 15 => 62 | 14 => 61 | 28 => 76 | 29 => 77 | 20 => 68 | 21 => 69 | 22 => 70 | 23 => 71 | 24 => 72 | 25 => 73 | 26 => 74 | 27 => 75 | 46 => 88 | 47 => 89 | 48 => 90 | 49 => 91 | 50 => 92 | 57 => 100 | n => n, fun | 22 => 36 | 24 => 24 | 25 => 77 | 3 => 3 | 39 => 88 | 0 => 0 | 53 => 102 | 55 => 104 | 4 => 4 | 46 => 95 | 45 => 94 | 50 => 99 | 5 => 5 | 9 => 9 | 66 => 111 | 70 => 115 | 76 => 121 | 77 => 122 | n => n, fun | n => n⟩
theorem Try.sortPd : Go.Proofs.SlLaysF0.n6 Try.prog Try.sortPd_ren := {
  mixed := by kernel_rfl
  f6 := ⟨Try.f47.name, by decide, Try.func47.trans (congrArg some (by kernel_rfl))⟩
  f14 := ⟨Try.f61.name, by decide, Try.func61.trans (congrArg some (by kernel_rfl))⟩
  f15 := Try.func62.trans (congrArg some (by kernel_rfl))
  f20 := ⟨Try.f68.name, by decide, Try.func68.trans (congrArg some (by kernel_rfl))⟩
  f21 := ⟨Try.f69.name, by decide, Try.func69.trans (congrArg some (by kernel_rfl))⟩
  f22 := ⟨Try.f70.name, by decide, Try.func70.trans (congrArg some (by kernel_rfl))⟩
  f23 := ⟨Try.f71.name, by decide, Try.func71.trans (congrArg some (by kernel_rfl))⟩
  f24 := ⟨Try.f72.name, by decide, Try.func72.trans (congrArg some (by kernel_rfl))⟩
  f25 := ⟨Try.f73.name, by decide, Try.func73.trans (congrArg some (by kernel_rfl))⟩
  f26 := ⟨Try.f74.name, by decide, Try.func74.trans (congrArg some (by kernel_rfl))⟩
  f27 := ⟨Try.f75.name, by decide, Try.func75.trans (congrArg some (by kernel_rfl))⟩
  f28 := Try.func76.trans (congrArg some (by kernel_rfl))
  f29 := Try.func77.trans (congrArg some (by kernel_rfl))
  f46 := ⟨Try.f88.name, by decide, Try.func88.trans (congrArg some (by kernel_rfl))⟩
  f47 := Try.func89.trans (congrArg some (by kernel_rfl))
  f48 := Try.func90.trans (congrArg some (by kernel_rfl))
  f49 := ⟨Try.f91.name, by decide, Try.func91.trans (congrArg some (by kernel_rfl))⟩
  f50 := ⟨Try.f92.name, by decide, Try.func92.trans (congrArg some (by kernel_rfl))⟩
  f57 := ⟨Try.f100.name, by decide, Try.func100.trans (congrArg some (by kernel_rfl))⟩
  t0 := Try.underlying0
  a0 := Try.isAgg0
  z0 := Try.sizeOf0
  v0 := Try.zeroValue0
  t3 := Try.underlying3
  a3 := Try.isAgg3
  z3 := Try.sizeOf3
  v3 := Try.zeroValue3
  t4 := Try.underlying4
  a4 := Try.isAgg4
  z4 := Try.sizeOf4
  v4 := Try.zeroValue4
  t5 := Try.underlying5
  a5 := Try.isAgg5
  z5 := Try.sizeOf5
  v5 := Try.zeroValue5
  t9 := Try.underlying9
  a9 := Try.isAgg9
  z9 := Try.sizeOf9
  v9 := Try.zeroValue9
  t22 := Try.underlying36
  a22 := Try.isAgg36
  z22 := Try.sizeOf36
  v22 := Try.zeroValue36
  t25 := Try.underlying77
  a25 := Try.isAgg77
  z25 := Try.sizeOf77
  v25 := Try.zeroValue77
  t39 := Try.underlying88
  a39 := Try.isAgg88
  z39 := Try.sizeOf88
  v39 := Try.zeroValue88
  t45 := Try.underlying94
  a45 := Try.isAgg94
  z45 := Try.sizeOf94
  v45 := Try.zeroValue94
  t46 := Try.underlying95
  a46 := Try.isAgg95
  z46 := Try.sizeOf95
  v46 := Try.zeroValue95
  t50 := Try.underlying99
  a50 := Try.isAgg99
  z50 := Try.sizeOf99
  v50 := Try.zeroValue99
  t53 := Try.underlying102
  a53 := Try.isAgg102
  z53 := Try.sizeOf102
  v53 := Try.zeroValue102
  t55 := Try.underlying104
  a55 := Try.isAgg104
  z55 := Try.sizeOf104
  v55 := Try.zeroValue104
  t66 := Try.underlying111
  a66 := Try.isAgg111
  z66 := Try.sizeOf111
  v66 := Try.zeroValue111
  t70 := Try.underlying115
  a70 := Try.isAgg115
  z70 := Try.sizeOf115
  v70 := Try.zeroValue115
  t76 := Try.underlying121
  a76 := Try.isAgg121
  z76 := Try.sizeOf121
  v76 := Try.zeroValue121
  t77 := Try.underlying122
  a77 := Try.isAgg122
  z77 := Try.sizeOf122
  v77 := Try.zeroValue122 }
end Go.Proofs.Ytkgebkinlpmpnaa
namespace Go.Proofs.Ytkgebkinlpmpnaa
open Go.Shelf
def Try.sortLk_ren : Go.Shelf.Ren := ⟨fun | 6 => 54 | 15 => 62 | 14 => 65 | 28 => 76 | 29 => 77 | 20 => 78 | 21 => 79 | 22 => 80 | 23 => 81 | 24 => 82 | 25 => 83 | 26 => 84 | 27 => 85 | 46 => 93 | 47 => 89 | 48 => 90 | 49 => 94 | 50 => 95 | 57 => 101 | n => n, fun | 22 => 41 | 24 => 57 | 25 => 82 | 3 => 3 | 39 => 88 | 0 => 0 | 53 => 102 | 55 => 104 | 4 => 4 | 46 => 95 | 45 => 94 | 50 => 99 | 5 => 5 | 9 => 9 | 66 => 111 | 70 => 115 | 76 => 121 | 77 => 122 | n => n, fun | n => n⟩
theorem Try.sortLk : Go.Proofs.SlLaysF0.n6 Try.prog Try.sortLk_ren := {
  mixed := by kernel_rfl
  f6 := ⟨Try.f54.name, by decide, Try.func54.trans (congrArg some (by kernel_rfl))⟩
  f14 := ⟨Try.f65.name, by decide, Try.func65.trans (congrArg some (by kernel_rfl))⟩
  f15 := Try.func62.trans (congrArg some (by kernel_rfl))
  f20 := ⟨Try.f78.name, by decide, Try.func78.trans (congrArg some (by kernel_rfl))⟩
  f21 := ⟨Try.f79.name, by decide, Try.func79.trans (congrArg some (by kernel_rfl))⟩
  f22 := ⟨Try.f80.name, by decide, Try.func80.trans (congrArg some (by kernel_rfl))⟩
  f23 := ⟨Try.f81.name, by decide, Try.func81.trans (congrArg some (by kernel_rfl))⟩
  f24 := ⟨Try.f82.name, by decide, Try.func82.trans (congrArg some (by kernel_rfl))⟩
  f25 := ⟨Try.f83.name, by decide, Try.func83.trans (congrArg some (by kernel_rfl))⟩
  f26 := ⟨Try.f84.name, by decide, Try.func84.trans (congrArg some (by kernel_rfl))⟩
  f27 := ⟨Try.f85.name, by decide, Try.func85.trans (congrArg some (by kernel_rfl))⟩
  f28 := Try.func76.trans (congrArg some (by kernel_rfl))
  f29 := Try.func77.trans (congrArg some (by kernel_rfl))
  f46 := ⟨Try.f93.name, by decide, Try.func93.trans (congrArg some (by kernel_rfl))⟩
  f47 := Try.func89.trans (congrArg some (by kernel_rfl))
  f48 := Try.func90.trans (congrArg some (by kernel_rfl))
  f49 := ⟨Try.f94.name, by decide, Try.func94.trans (congrArg some (by kernel_rfl))⟩
  f50 := ⟨Try.f95.name, by decide, Try.func95.trans (congrArg some (by kernel_rfl))⟩
  f57 := ⟨Try.f101.name, by decide, Try.func101.trans (congrArg some (by kernel_rfl))⟩
  t0 := Try.underlying0
  a0 := Try.isAgg0
  z0 := Try.sizeOf0
  v0 := Try.zeroValue0
  t3 := Try.underlying3
  a3 := Try.isAgg3
  z3 := Try.sizeOf3
  v3 := Try.zeroValue3
  t4 := Try.underlying4
  a4 := Try.isAgg4
  z4 := Try.sizeOf4
  v4 := Try.zeroValue4
  t5 := Try.underlying5
  a5 := Try.isAgg5
  z5 := Try.sizeOf5
  v5 := Try.zeroValue5
  t9 := Try.underlying9
  a9 := Try.isAgg9
  z9 := Try.sizeOf9
  v9 := Try.zeroValue9
  t22 := Try.underlying41
  a22 := Try.isAgg41
  z22 := Try.sizeOf41
  v22 := Try.zeroValue41
  t25 := Try.underlying82
  a25 := Try.isAgg82
  z25 := Try.sizeOf82
  v25 := Try.zeroValue82
  t39 := Try.underlying88
  a39 := Try.isAgg88
  z39 := Try.sizeOf88
  v39 := Try.zeroValue88
  t45 := Try.underlying94
  a45 := Try.isAgg94
  z45 := Try.sizeOf94
  v45 := Try.zeroValue94
  t46 := Try.underlying95
  a46 := Try.isAgg95
  z46 := Try.sizeOf95
  v46 := Try.zeroValue95
  t50 := Try.underlying99
  a50 := Try.isAgg99
  z50 := Try.sizeOf99
  v50 := Try.zeroValue99
  t53 := Try.underlying102
  a53 := Try.isAgg102
  z53 := Try.sizeOf102
  v53 := Try.zeroValue102
  t55 := Try.underlying104
  a55 := Try.isAgg104
  z55 := Try.sizeOf104
  v55 := Try.zeroValue104
  t66 := Try.underlying111
  a66 := Try.isAgg111
  z66 := Try.sizeOf111
  v66 := Try.zeroValue111
  t70 := Try.underlying115
  a70 := Try.isAgg115
  z70 := Try.sizeOf115
  v70 := Try.zeroValue115
  t76 := Try.underlying121
  a76 := Try.isAgg121
  z76 := Try.sizeOf121
  v76 := Try.zeroValue121
  t77 := Try.underlying122
  a77 := Try.isAgg122
  z77 := Try.sizeOf122
  v77 := Try.zeroValue122 }
end Go.Proofs.Ytkgebkinlpmpnaa
namespace Go.Proofs.Ytkgebkinlpmpnaa
open Go.RowKit Go.Shelf Go.Lib
open Go.Sort (grow)

theorem plainPd : PlainC Pd (fun x => [.string x.s, .int .i64 x.n]) Pd.fit where
  iff _ _ _ := Iff.rfl
  len _ := rfl
  one x v hv := by simp at hv; rcases hv with rfl | rfl <;> rfl
theorem plainLk : PlainC Lk (fun x => [.int .i64 x.f, .int .i64 x.t, .bool x.neg]) Lk.fit where
  iff _ _ _ := Iff.rfl
  len _ := rfl
  one x v hv := by simp at hv; rcases hv with rfl | rfl | rfl <;> rfl
theorem PlainC.other {α : Type} [RepC α] {enc : α → List Value} {fit : α → Prop} (h : PlainC α enc fit) {B e b : Nat} {acc : List α} {v : Value} {w w' : World} (ha : AccInv B e acc v w) (hg : w.grownBy w' (some b)) (hb : b < B) : AccInv B e acc v w' := by
  obtain ⟨vs, ho, hc⟩ := ha.ex
  obtain ⟨rfl, hf⟩ := h.rows hc
  exact ⟨_, ho.kept hg (.inr (fun e => by have := (ho.lt b e).1; omega)), h.mk_rows _ _ hf⟩

theorem grown_setK (w : World) (g o : Nat) (v : Value) : w.grownBy (w.setCell ⟨g, o, none⟩ v) (some g) :=
  ⟨rfl, rfl, rfl, by simp [World.setCell], fun k _ hn => Below.heap_setCell w ⟨g, o, none⟩ v k (fun e => hn (by rw [e]))⟩

set_option maxHeartbeats 1600000 in
theorem addpred_any (B0 B : Nat) (A : List Pd) (v : Value) (a : Option Addr) (cap : Nat) (w : World) (xs : List Cel) (hr : Row w a cap xs) (hA : atomB xs = true) (hl : A.length ≤ 1000000)
    (hc : w.cell? ⟨B0, 0, none⟩ = some v) (hz : w.frozen? ⟨B0, 0, none⟩ = false) (hacc : AccInv B 24 A v w) (hB : B0 < B) (hBw : B ≤ w.heap.size) :
    Calls Try.prog 45 #[.slice a xs.length cap, .pointer (some ⟨B0, 0, none⟩)] w fun e w' => e = .returned (.tuple #[]) ∧ ∃ v', w'.cell? ⟨B0, 0, none⟩ = some v' ∧ w'.frozen? ⟨B0, 0, none⟩ = false ∧ AccInv B 24 (A ++ [predOf xs]) v' w' ∧ Below B0 w w' ∧ w.heap.size ≤ w'.heap.size ∧ Hid (∀ b o u, b ≠ B0 → (hide v.ownBlock w).cell? ⟨b, o, none⟩ = some u → w'.cell? ⟨b, o, none⟩ = some u) := by
  have hf := predOf_fit hr.fit (atom_ne hA)
  obtain ⟨av, capv, rfl, hrow⟩ := hacc.row
  obtain ⟨p, hp⟩ : ∃ p, predOf xs = p := ⟨_, rfl⟩
  have HP := mkHid hp
  rw [hp] at hf ⊢
  have HA := mkHid hA
  clear hp hA
  go_enter Try.func45, Try.ntmps45
  go_wp2_with (first
    | (go_at_call 46; refine (predicate_yes _ _ _ _ hr HA.out).mono ?_; rintro e w1 ⟨rfl, hb1⟩; rw [HP.out]; have hbx := hb1.new (.cells #[.string p.s, .int .i64 p.n] 24); have hx := (Below.refl w1.heap.size w1).new (.cells #[.string p.s, .int .i64 p.n] 24); have d0 := keep hc hb1; have d1 := keep d0 hx; have z1 : (w1.alloc (.cells #[.string p.s, .int .i64 p.n] 24)).frozen? ⟨B0, 0, none⟩ = false := (hbx.frozen (p := ⟨B0, 0, none⟩) (cell_lt hc)).trans hz; have hacc1 := hacc.below hbx; have hBx : B ≤ (w1.alloc (.cells #[.string p.s, .int .i64 p.n] 24)).heap.size := Nat.le_trans hBw hbx.size)
    | (at_builtin; refine wpList_accK (α := Pd) rfl _ _ 36 rfl B 24 24 _ Try.underlying36 Try.infoPred rfl (by decide) _ A hacc1 (by rfl) _ #[.string p.s, .int .i64 p.n] p ⟨rfl, hf⟩ (by first | rfl | (rw [World.size_alloc]; rfl)) (by omega) hBx ?_; intro v' w3 hacc3 hb3 hk3; obtain ⟨a3, c3, rfl, _⟩ := hacc3.row; have d3 := keepB hb3 d1 hB; have z3 : w3.frozen? ⟨B0, 0, none⟩ = false := (hb3.frozen (p := ⟨B0, 0, none⟩) hB).trans z1))
  go_wp2
  refine bodyPost_end (results_none rfl _ _ _) rfl ?_
  have hl1 : (A ++ [p]).length = A.length + 1 := by simp
  rw [hl1] at hacc3
  have hg := grown_setK w3 B0 0 (.slice a3 (A.length + 1) c3)
  have hbs : Below B0 w3 (w3.setCell ⟨B0, 0, none⟩ (.slice a3 (A.length + 1) c3)) := (Below.refl B0 w3).setCell (p := ⟨B0, 0, none⟩) (Nat.le_refl _) _
  refine ⟨rfl, _, ?_, ?_, plainPd.other hacc3 hg hB, ?_, ?_, ?_⟩
  · go_simp
  · go_simp
  · exact (hbx.mono (Nat.le_of_lt (cell_lt hc))).trans ((hb3.mono (Nat.le_of_lt hB)).trans hbs)
  · exact Nat.le_trans (Nat.le_trans hbx.size hb3.size) hbs.size
  · intro b o u hne hcu
    have h1 := below_hide hbx _ b o u hcu
    have h2 := hide_keeps _ _ _ _ _ (hk3 b o u h1)
    have h3 := hide_keeps _ _ _ _ _ (grown_keeps hg b o u (hide_of_ne hne h2))
    exact h3
end Go.Proofs.Ytkgebkinlpmpnaa
namespace Go.Proofs.Ytkgebkinlpmpnaa
open Go.RowKit Go.Shelf Go.Lib
open Go.Sort (grow)

theorem predsSort_any (B : Nat) (v : Value) (w : World) (acc : List Pd) (hacc : AccInv B 24 acc v w) (hB : B ≤ w.heap.size) (hl : acc.length ≤ 1000000000) :
    Calls Try.prog 47 #[v, .func (.func 48) #[] #[]] w fun e1 w' => e1 = .returned (.tuple #[]) ∧ ∃ acc' : List Pd, Hid (acc'.Perm acc ∧ acc'.Pairwise fun x y => ltOf cmpP y x = false) ∧ AccInv B 24 acc' v w' ∧ Below B w w' :=
  plainPd.sort Try.sortPd Try.isAgg24 Try.sizeOf24 cmpP swo_pd 48 (enters_of Try.func48 (by kernel_rfl) rfl) (fun _ _ _ _ _ _ _ _ x y => predcmp_any x y _) B _ v w acc hacc hB hl
theorem linksSort_any (B : Nat) (v : Value) (w : World) (acc : List Lk) (hacc : AccInv B 57 acc v w) (hB : B ≤ w.heap.size) (hl : acc.length ≤ 1000000000) :
    Calls Try.prog 54 #[v, .func (.func 55) #[] #[]] w fun e1 w' => e1 = .returned (.tuple #[]) ∧ ∃ acc' : List Lk, Hid (acc'.Perm acc ∧ acc'.Pairwise fun x y => ltOf cmpL y x = false) ∧ AccInv B 57 acc' v w' ∧ Below B w w' :=
  plainLk.sort Try.sortLk Try.isAgg57 Try.sizeOf57 cmpL swo_lk 55 (enters_of Try.func55 (by kernel_rfl) rfl) (fun _ _ _ _ _ _ _ _ x y => linkcmp_any x y _) B _ v w acc hacc hB hl

theorem allP_step' {m : List Cl} {A : List Pd} {k : Nat} (hk : k < m.length) (h : allP m = A ++ allP (m.drop k)) : allP m = (A ++ [predOf m[k].h]) ++ (((m[k].b.drop 0).map fun x => predOf x.t) ++ allP (m.drop (k + 1))) := by
  rw [h, allP_step hk]; simp
theorem bP_step' {bs : List Lt} {A r R : List Pd} {j : Nat} (hj : j < bs.length) (h : R = A ++ (((bs.drop j).map fun x => predOf x.t) ++ r)) : R = (A ++ [predOf bs[j].t]) ++ (((bs.drop (j + 1)).map fun x => predOf x.t) ++ r) := by
  rw [h, bP_step hj]; simp
theorem bP_end' {bs : List Lt} {A r R : List Pd} {j : Nat} (hj : bs.length ≤ j) (h : R = A ++ (((bs.drop j).map fun x => predOf x.t) ++ r)) : R = A ++ r := by
  rw [h, List.drop_eq_nil_of_le hj]; rfl

set_option maxHeartbeats 3200000 in
theorem predsp_any (a : Option Addr) (cap : Nat) (w : World) (m : List Cl) (hr : Row w a cap m) (HM : Hid (Mays m)) (hl : m.length ≤ 1000) :
    Calls Try.prog 20 #[.slice a m.length cap] w fun e w' => ∃ v, e = .returned v ∧ AccInv (w.heap.size + 1) 24 (predsL m) v w' ∧ Below w.heap.size w w' := by
  have hmf : ∀ (fn : Fn) (first cap : Array Value) (w : World), (Instr.makeFunc fn first cap).run Try.prog w = .ok (.func fn first cap) w := fun _ _ _ _ => rfl
  have hm := hr.max
  have hm2 := hr.le
  have hb0 := (Below.refl w.heap.size w).new (.cells #[.slice none 0 0] 36)
  have HSO : Hid (∀ d : List Pd, d.Perm (allP m) → (d.Pairwise fun x y => ltOf cmpP y x = false) → compTo d d.length = predsL m) := fun _ => preds_done
  go_enter Try.func20, Try.ntmps20
  go_wp2
  go_loopw [12] (fun i wr => ∃ (k : Nat) (A : List Pd) (v : Value), k ≤ m.length ∧ A.length ≤ 9 * k ∧ i = .int .i64 k ∧ wr.cell? ⟨w.heap.size, 0, none⟩ = some v ∧ wr.frozen? ⟨w.heap.size, 0, none⟩ = false ∧ AccInv (w.heap.size + 1) 24 A v wr ∧ Below w.heap.size w wr ∧ w.heap.size < wr.heap.size ∧ Hid (allP m = A ++ allP (m.drop k))) (fun i wr => m.length - (intOf i).toNat)
  case atStart => exact ⟨0, [], _, Nat.zero_le _, Nat.zero_le _, rfl, by go_simp, by go_simp, AccInv.nil _ _ _, hb0, by simp, rfl⟩
  case round =>
    obtain ⟨k, A, v, hk, hA, rfl, q0, z0, hacc, hbl, hsz, HS⟩ := hrel
    by_cases hlt : k < m.length
    · obtain ⟨b, off, rfl, hb, hat⟩ := hr.cases.resolve_left (fun e => by simp [e] at hlt)
      obtain ⟨a1, cap1, a2, cap2, cw0, cw1, hr1, hr2⟩ := cl_at hat (Below.refl _ _) hlt
      have c0 := keep cw0 hbl
      have c1 := keep cw1 hbl
      obtain ⟨h8, hat8, hah⟩ := HM.out.at_ hlt
      have HAH := mkHid hah
      have HAT := mkHid hat8
      have HS1 := mkHid (allP_step' hlt HS.out)
      have hbx : Below wr.heap.size wr (wr.alloc (.cells #[.slice a1 m[k].h.length cap1, .slice a2 m[k].b.length cap2] 31)) := (Below.refl _ _).new _
      have x1 : (wr.alloc (.cells #[.slice a1 m[k].h.length cap1, .slice a2 m[k].b.length cap2] 31)).cell? ⟨wr.heap.size, 1, none⟩ = some (.slice a2 m[k].b.length cap2) := World.cell?_alloc_at _ _ _ 1 rfl
      have hgl := hacc.lt
      clear HS hah hat8
      go_wp2_with (go_at_call 45; refine (addpred_any w.heap.size (w.heap.size + 1) A v _ _ _ m[k].h ((hr1.below hbl).below hbx) HAH.out (by omega) (keep q0 hbx) ((hbx.frozen (p := ⟨w.heap.size, 0, none⟩) hsz).trans z0) (hacc.below hbx) (by omega) (Nat.le_trans hsz hbx.size)).mono ?_; rintro e w2 ⟨rfl, v2, q2, z2, hacc2, hb2, hs2, HK2⟩; have y1 := HK2.out wr.heap.size 1 _ (by omega) (by
          cases hv : v.ownBlock with
          | none => exact x1
          | some g => exact hide_of_ne (by have := (hgl g hv).2; omega) x1))
      have hb3 := (hbl.then hbx).trans (hb2.mono (Nat.le_refl _))
      have hs3 : w.heap.size < w2.heap.size := Nat.lt_of_lt_of_le (Nat.lt_of_lt_of_le hsz hbx.size) hs2
      have hmb := hr2.max
      have hmb2 := hr2.le
      have hA3 : (A ++ [predOf m[k].h]).length ≤ 9 * k + 1 := by rw [List.length_append]; simp; omega
      clear HK2 hb2 hs2 hacc hbl hsz q0 z0 x1 y1 hgl hbx c0 c1
      go_loopw [23] (fun i wr2 => ∃ (j : Nat) (A2 : List Pd) (v : Value), j ≤ m[k].b.length ∧ A2.length ≤ 9 * k + 1 + j ∧ i = .int .i64 j ∧ wr2.cell? ⟨w.heap.size, 0, none⟩ = some v ∧ wr2.frozen? ⟨w.heap.size, 0, none⟩ = false ∧ AccInv (w.heap.size + 1) 24 A2 v wr2 ∧ Below w.heap.size w wr2 ∧ w.heap.size < wr2.heap.size ∧ Hid (allP m = A2 ++ (((m[k].b.drop j).map fun x => predOf x.t) ++ allP (m.drop (k + 1))))) (fun i wr2 => m[k].b.length - (intOf i).toNat)
      case atStart => exact ⟨0, _, _, Nat.zero_le _, by omega, rfl, q2, z2, hacc2, hb3, hs3, HS1⟩
      case round =>
        clear hacc2 hb3 hs3 q2 z2
        obtain ⟨j, A2, v4, hj, hA2, rfl, q4, z4, hacc4, hbl4, hsz4, HS4⟩ := hrel
        by_cases hjl : j < m[k].b.length
        · obtain ⟨b2, off2, rfl, hb2, hat2⟩ := hr2.cases.resolve_left (fun e => by simp [e] at hjl)
          obtain ⟨a4, cap4, dw0, dw1, hr4⟩ := lt_at hat2 (Below.refl _ _) hjl
          have d0 := keep dw0 hbl4
          have d1 := keep dw1 hbl4
          have hta := HAT.out _ (List.getElem_mem hjl)
          have HTA := mkHid hta
          have HS5 := mkHid (bP_step' hjl HS4.out)
          have hby : Below wr.heap.size wr (wr.alloc (.cells #[.bool m[k].b[j].neg, .slice a4 m[k].b[j].t.length cap4] 47)) := (Below.refl _ _).new _
          clear HS4 hta
          go_wp2_with (go_at_call 45; refine (addpred_any w.heap.size (w.heap.size + 1) A2 v4 _ _ _ m[k].b[j].t ((hr4.below hbl4).below hby) HTA.out (by omega) (keep q4 hby) ((hby.frozen (p := ⟨w.heap.size, 0, none⟩) hsz4).trans z4) (hacc4.below hby) (by omega) (Nat.le_trans hsz4 hby.size)).mono ?_; rintro e w5 ⟨rfl, v5, q5, z5, hacc5, hb5, hs5, _⟩)
          go_round
          case rel => exact ⟨j + 1, _, _, by omega, by rw [List.length_append]; simp; omega, by go_num, q5, z5, hacc5, (hbl4.then hby).trans (hb5.mono (Nat.le_refl _)), Nat.lt_of_lt_of_le (Nat.lt_of_lt_of_le hsz4 hby.size) hs5, HS5⟩
          case measure => simp [intOf]; omega
        · have HS5 := mkHid (bP_end' (by omega) HS4.out)
          clear HS4
          go_wp2
          go_round
          case rel => exact ⟨k + 1, A2, v4, by omega, by omega, by go_num, q4, z4, hacc4, hbl4, hsz4, HS5⟩
          case measure => simp [intOf]; omega
    · have HA2 : Hid (allP m = A) := by rw [Hid, HS.out, List.drop_eq_nil_of_le (by omega)]; simp [allP]
      obtain ⟨av, capv, rfl, _⟩ := hacc.row
      clear HS
      go_wp2_with (first
        | (go_at_call 47; refine (predsSort_any (w.heap.size + 1) _ _ A hacc hsz (by omega)).mono ?_; rintro e w2 ⟨rfl, A', HP, hacc2, hb2⟩; have q2 := keepB hb2 q0 (Nat.lt_succ_self _); have hs2 : w.heap.size + 1 ≤ w2.heap.size := Nat.le_trans hsz hb2.size)
        | (go_at_call 52; refine (compactPd_any (w.heap.size + 1) _ _ A' hacc2 hs2).mono ?_; rintro e w3 ⟨v3, rfl, hacc3, hb3⟩))
      go_ret
      have hfin := HSO.out A' (by rw [HA2.out]; exact HP.out.1) HP.out.2
      rw [hfin] at hacc3
      exact ⟨_, rfl, hacc3, hbl.trans ((hb2.mono (Nat.le_succ _)).trans (hb3.mono (Nat.le_succ _)))⟩
end Go.Proofs.Ytkgebkinlpmpnaa
namespace Go.Proofs.Ytkgebkinlpmpnaa
open Go.RowKit Go.Shelf Go.Lib

set_option maxHeartbeats 1600000 in
theorem ofp_any (a : Option Addr) (cap : Nat) (w : World) (m : List Cl) (p : Pd) (hr : Row w a cap m) (HM : Hid (Mays m)) (hl : m.length ≤ 1000) :
    Calls Try.prog 23 #[.slice a m.length cap, .agg #[.string p.s, .int .i64 p.n]] w fun e w' => ∃ v, e = .returned v ∧ AccInv (w.heap.size + 1) 3 (ofL m p) v w' ∧ Below w.heap.size w w' := by
  have hm := hr.max
  have hm2 := hr.le
  have hb0 := (Below.refl w.heap.size w).new (.cells #[.string p.s, .int .i64 p.n] 24)
  go_enter Try.func23, Try.ntmps23
  go_wp2
  go_loopw [5, 12] (fun v i wr => ∃ (k : Nat) (A : List Int), k ≤ m.length ∧ A.length ≤ k ∧ i = .int .i64 k ∧ AccInv (w.heap.size + 1) 3 A v wr ∧ Below w.heap.size w wr ∧ w.heap.size < wr.heap.size ∧ wr.cell? ⟨w.heap.size, 0, none⟩ = some (.string p.s) ∧ wr.cell? ⟨w.heap.size, 1, none⟩ = some (.int .i64 p.n) ∧ Hid (ofTo m p k = A)) (fun v i wr => m.length - (intOf i).toNat)
  case atStart => exact ⟨0, [], Nat.zero_le _, by simp, rfl, AccInv.nil _ _ _, hb0, by simp, by go_simp, by go_simp, rfl⟩
  case round =>
    obtain ⟨k, A, hk, hA, rfl, hacc, hbl, hsz, q0, q1, HS⟩ := hrel
    by_cases hlt : k < m.length
    · obtain ⟨b, off, rfl, hb, hat⟩ := hr.cases.resolve_left (fun e => by simp [e] at hlt)
      obtain ⟨a1, cap1, a2, cap2, c0, c1, hr1, hr2⟩ := cl_at hat hbl hlt
      obtain ⟨h8, hat8, hah⟩ := HM.out.at_ hlt
      have HAH := mkHid hah
      have hbx : Below wr.heap.size wr (wr.alloc (.cells #[.slice a1 m[k].h.length cap1, .slice a2 m[k].b.length cap2] 31)) := (Below.refl _ _).new _
      have hne := fun w => run_eql_pd (predOf m[k].h) p w
      have hp0 : (predOf m[k].h).v = .agg #[.string (predOf m[k].h).s, .int .i64 (predOf m[k].h).n] := rfl
      obtain ⟨ab, capb, rfl, hrow⟩ := hacc.row
      clear hat8 hah
      by_cases he : predOf m[k].h = p
      · have HT : Hid (ofTo m p (k + 1) = A ++ [(k : Int)]) := by rw [Hid, ofTo_yes hlt he, HS.out]
        rw [decide_eq_true he] at hne
        clear he HS
        go_wp2_with (first
          | (go_at_call 46; refine (predicate_yes _ _ _ _ (hr1.below hbx) HAH.out).mono ?_; rintro e w2 ⟨rfl, hb2⟩; rw [hp0]; have r0 := keep (keep q0 hbx) hb2; have r1 := keep (keep q1 hbx) hb2; have hb3 := (Below.refl w2.heap.size w2).new (.cells #[.string (predOf m[k].h).s, .int .i64 (predOf m[k].h).n] 24); have s0 := keep r0 hb3; have s1 := keep r1 hb3; have hacc3 := ((hacc.below hbx).below hb2).below hb3; have hz3 := Nat.lt_of_lt_of_le (Nat.lt_of_lt_of_le (Nat.lt_of_lt_of_le hsz hbx.size) hb2.size) hb3.size)
          | (at_builtin; refine wpList_acc (α := Int) rfl _ _ 33 rfl (w.heap.size + 1) 3 8 _ Try.underlying33 Try.infoInt rfl (by decide) _ A hacc3 (by rfl) _ #[.int .i64 k] (k : Int) ⟨rfl, by omega, by omega⟩ (by first | rfl | (rw [World.size_alloc]; rfl)) (by omega) hz3 ?_; intro v' w3 hacc4 hb4))
        go_round
        case rel => exact ⟨k + 1, _, by omega, by simp; omega, by go_num, hacc4, (((hbl.then hbx).then hb2).then hb3).trans (hb4.mono (by omega)), Nat.lt_of_lt_of_le hz3 hb4.size, keepB hb4 s0 (by omega), keepB hb4 s1 (by omega), HT⟩
        case measure => simp [intOf]; omega
      · have HT : Hid (ofTo m p (k + 1) = A) := by rw [Hid, ofTo_no hlt he, HS.out]
        rw [decide_eq_false he] at hne
        clear he HS
        go_wp2_with (go_at_call 46; refine (predicate_yes _ _ _ _ (hr1.below hbx) HAH.out).mono ?_; rintro e w2 ⟨rfl, hb2⟩; rw [hp0]; have r0 := keep (keep q0 hbx) hb2; have r1 := keep (keep q1 hbx) hb2; have hb3 := (Below.refl w2.heap.size w2).new (.cells #[.string (predOf m[k].h).s, .int .i64 (predOf m[k].h).n] 24); have s0 := keep r0 hb3; have s1 := keep r1 hb3; have hacc3 := ((hacc.below hbx).below hb2).below hb3; have hz3 := Nat.lt_of_lt_of_le (Nat.lt_of_lt_of_le (Nat.lt_of_lt_of_le hsz hbx.size) hb2.size) hb3.size)
        go_round
        case rel => exact ⟨k + 1, _, by omega, by omega, by go_num, hacc3, (((hbl.then hbx).then hb2).then hb3), hz3, s0, s1, HT⟩
        case measure => simp [intOf]; omega
    · have HT : Hid (ofL m p = A) := by
        have : k = m.length := by omega
        rw [Hid, ← HS.out, this]; rfl
      clear HS
      go_wp2
      go_ret
      exact ⟨_, rfl, by rw [HT.out]; exact hacc, hbl⟩
end Go.Proofs.Ytkgebkinlpmpnaa
namespace Go.Proofs.Ytkgebkinlpmpnaa
open Go.RowKit Go.Shelf Go.Lib

/-- each of the first k predicates has its place -/
def PutTo (P : List Pd) (k : Nat) (f : Pd → Int) : Prop := ∀ p ∈ P.take k, f p = (P.idxOf p : Nat)
theorem putTo_next {P : List Pd} {k : Nat} {f : Pd → Int} (hn : P.Nodup) (hk : k < P.length) (h : PutTo P k f) : PutTo P (k + 1) fun j => if j = P[k] then (k : Int) else f j := by
  intro p hp
  rw [List.take_succ_eq_append_getElem hk, List.mem_append, List.mem_singleton] at hp
  by_cases e : p = P[k]
  · subst e; simp only [if_true]; rw [idx_get hn hk]
  · simp only [if_neg e]
    rcases hp with hp | hp
    · exact h p hp
    · exact absurd hp e
theorem allK_step {P : List Pd} {m : List Cl} {A : List Lk} {k : Nat} (hk : k < m.length) (h : allK P m = A ++ allK P (m.drop k)) : allK P m = A ++ (((m[k].b.drop 0).map (linkOf P m[k])) ++ allK P (m.drop (k + 1))) := by
  have e : allK P (m.drop k) = (m[k].b.map (linkOf P m[k])) ++ allK P (m.drop (k + 1)) := by rw [List.drop_eq_getElem_cons hk]; rfl
  rw [h, e]; rfl
theorem bK_step {P : List Pd} {c : Cl} {A r R : List Lk} {j : Nat} (hj : j < c.b.length) (h : R = A ++ (((c.b.drop j).map (linkOf P c)) ++ r)) : R = (A ++ [linkOf P c c.b[j]]) ++ (((c.b.drop (j + 1)).map (linkOf P c)) ++ r) := by
  rw [h, List.drop_eq_getElem_cons hj]; simp only [List.map_cons, List.append_assoc, List.cons_append, List.nil_append]
theorem bK_end {P : List Pd} {c : Cl} {A r R : List Lk} {j : Nat} (hj : c.b.length ≤ j) (h : R = A ++ (((c.b.drop j).map (linkOf P c)) ++ r)) : R = A ++ r := by
  rw [h, List.drop_eq_nil_of_le hj]; rfl

theorem MapPI.belowB {w w' : World} {B b n : Nat} {f : Pd → Int} (h : MapPI w b n f) (hb : Below B w w') (hl : b < B) : MapPI w' b n f := by
  obtain ⟨D, ⟨es, clock, h1, h2⟩, hf⟩ := h
  exact ⟨D, ⟨es, clock, (hb.block b hl).trans h1, h2⟩, hf⟩
theorem PlainC.newRow {α : Type} [RepC α] {enc : α → List Value} {fit : α → Prop} (h : PlainC α enc fit) {B e : Nat} {acc : List α} {v : Value} {w : World} (ha : AccInv B e acc v w) : ∃ a cap, v = .slice a acc.length cap ∧ NewRow B w a cap acc := by
  obtain ⟨vs, ho, hc⟩ := ha.ex
  obtain ⟨rfl, hf⟩ := h.rows hc
  exact own_newG ho (h.mk_rows _ _ hf)

set_option maxRecDepth 100000 in
set_option maxHeartbeats 3200000 in
theorem linksp_any (a : Option Addr) (cap : Nat) (w : World) (m : List Cl) (hr : Row w a cap m) (HM : Hid (Mays m)) (hl : m.length ≤ 1000) :
    Calls Try.prog 26 #[.slice a m.length cap] w fun e w' => ∃ v, e = .returned v ∧ AccInv (w.heap.size + 1) 57 (linksL m) v w' ∧ Below w.heap.size w w' := by
  have hmm := @run_makeMap Try.prog
  have hm := hr.max
  have hm2 := hr.le
  have hpl := preds_len HM.out
  have HSO : Hid (∀ d : List Lk, d.Perm (allK (predsL m) m) → (d.Pairwise fun x y => ltOf cmpL y x = false) → compTo d d.length = linksL m) := fun _ => links_done
  have HND := mkHid (preds_nodup m)
  have HHM : Hid (∀ c ∈ m, predOf c.h ∈ predsL m) := fun _ h => head_mem h
  have HBM : Hid (∀ c ∈ m, ∀ x ∈ c.b, predOf x.t ∈ predsL m) := fun _ h _ hx => body_mem h hx
  have hm0 := MapPI.made w
  have hb0 := (Below.refl w.heap.size w).new (.map #[] 0)
  go_enter Try.func26, Try.ntmps26
  go_wp2_with (go_at_call 20; refine (predsp_any _ _ _ _ (hr.below hb0) HM hl).mono ?_; rintro e w1 ⟨vp, rfl, haccp, hb1⟩; obtain ⟨ap, capp, rfl, hrowp⟩ := haccp.row; have hm1 := hm0.below hb1; obtain ⟨ap2, capp2, ep, hnewp⟩ := plainPd.newRow haccp; injection ep with ep1 ep2 ep3; subst ep1; subst ep3; clear ep2; have hnp := hnewp.hide (r := some w.heap.size) (fun g e => by injection e with e; subst e; simp; omega))
  obtain ⟨P, hP⟩ : ∃ P, predsL m = P := ⟨_, rfl⟩
  rw [hP] at hrowp hpl HSO HND HHM HBM hnp
  rw [hP]
  have hx1 := hrowp.max
  have hx2 := hrowp.le
  have hb01 := hb0.then hb1
  clear haccp hnewp hrowp hP hb0 hb1 hm0
  go_wp2
  go_loopw [19] (fun i wr => ∃ (k n : Nat) (f : Pd → Int), k ≤ P.length ∧ n ≤ k ∧ i = .int .i64 k ∧ MapPI wr w.heap.size n f ∧ Row (hide (some w.heap.size) wr) ap capp P ∧ Below w.heap.size w wr ∧ Hid (PutTo P k f)) (fun i wr => P.length - (intOf i).toNat)
  case atStart => exact ⟨0, 0, _, Nat.zero_le _, Nat.zero_le _, rfl, hm1, hnp, hb01, fun p hp => by simp at hp⟩
  case round =>
    clear hnp hb01 hm1
    obtain ⟨k, n, f, hk, hn, rfl, hmap, hrp, hbl, HF⟩ := hrel
    by_cases hlt : k < P.length
    · obtain ⟨b, off, rfl, hb, hat⟩ := (hrp.keeps (hide_keeps _ _)).cases.resolve_left (fun e => by simp [e] at hlt)
      obtain ⟨c0, c1, hfk⟩ := pd_at hat (Below.refl _ _) hlt
      have HF2 := mkHid (putTo_next HND.out hlt HF.out)
      have hbx : Below wr.heap.size wr (wr.alloc (.cells #[.string P[k].s, .int .i64 P[k].n] 24)) := (Below.refl _ _).new _
      have hmx := hmap.below hbx
      have hml := hmap.lt
      clear HF
      go_wp2_with (at_mapUpdate; refine hmx.wpl_update rfl _ _ _ rfl (by rfl) (by omega) P[k] (by rfl) hfk (k : Int) (by rfl) (wf64 (by omega) (by omega)) ?_; intro w5 hm5 hg5)
      go_round
      case rel => exact ⟨k + 1, n + 1, _, by omega, by omega, by go_num, hm5, (hrp.keeps (below_hide hbx _)).keeps (grown_keeps hg5), (hbl.then hbx).trans (grown_at hg5 (Nat.le_trans hbl.size hbx.size) (Nat.le_refl _)), HF2⟩
      case measure => simp [intOf]; omega
    · have HF2 : Hid (∀ p ∈ P, f p = (P.idxOf p : Nat)) := by
        have := HF.out
        unfold PutTo at this
        rwa [List.take_of_length_le (by omega)] at this
      clear HF hrp
      go_wp2
      go_loopw [6, 30] (fun v i wr => ∃ (k : Nat) (A : List Lk), k ≤ m.length ∧ A.length ≤ 8 * k ∧ i = .int .i64 k ∧ AccInv (w.heap.size + 1) 57 A v wr ∧ MapPI wr w.heap.size n f ∧ Below w.heap.size w wr ∧ Hid (allK P m = A ++ allK P (m.drop k))) (fun v i wr => m.length - (intOf i).toNat)
      case atStart => exact ⟨0, [], Nat.zero_le _, Nat.zero_le _, rfl, AccInv.nil _ _ _, hmap, hbl, rfl⟩
      case round =>
        clear hmap hbl
        obtain ⟨i, A, hi, hA, rfl, hacc, hmap, hbl, HS⟩ := hrel
        have hml := hmap.lt
        by_cases hil : i < m.length
        · obtain ⟨b, off, rfl, hb, hat⟩ := hr.cases.resolve_left (fun e => by simp [e] at hil)
          obtain ⟨a1, cap1, a2, cap2, cw0, cw1, hr1, hr2⟩ := cl_at hat (Below.refl _ _) hil
          have c0 := keep cw0 hbl
          have c1 := keep cw1 hbl
          obtain ⟨h8, hat8, hah⟩ := HM.out.at_ hil
          have HAH := mkHid hah
          have HAT := mkHid hat8
          have HPH := mkHid (HHM.out _ (List.getElem_mem hil))
          have HPB := mkHid (HBM.out _ (List.getElem_mem hil))
          have hfh := predOf_fit hr1.fit (atom_ne hah)
          have HS1 := mkHid (allK_step hil HS.out)
          obtain ⟨ab, capb, rfl, hrow⟩ := hacc.row
          have hgl := hacc.lt
          have hbx : Below wr.heap.size wr (wr.alloc (.cells #[.slice a1 m[i].h.length cap1, .slice a2 m[i].b.length cap2] 31)) := (Below.refl _ _).new _
          have x1 : (wr.alloc (.cells #[.slice a1 m[i].h.length cap1, .slice a2 m[i].b.length cap2] 31)).cell? ⟨wr.heap.size, 1, none⟩ = some (.slice a2 m[i].b.length cap2) := World.cell?_alloc_at _ _ _ 1 rfl
          have hp0 : (predOf m[i].h).v = .agg #[.string (predOf m[i].h).s, .int .i64 (predOf m[i].h).n] := rfl
          obtain ⟨ph, hph⟩ : ∃ ph, predOf m[i].h = ph := ⟨_, rfl⟩
          have HPHE := mkHid hph
          rw [hph] at hfh hp0
          clear HS hah hat8 hph
          go_wp2_with (go_at_call 46; refine (predicate_yes _ _ _ _ ((hr1.below hbl).below hbx) HAH.out).mono ?_; rintro e w2 ⟨rfl, hb2⟩; rw [HPHE.out, hp0]; have y1 := keep x1 hb2; have hs2 : wr.heap.size < w2.heap.size := cell_lt y1; have y2 := keep y1 ((Below.refl w2.heap.size w2).new (.cells #[.string ph.s, .int .i64 ph.n] 24)))
          have hb3 := (Below.refl w2.heap.size w2).new (.cells #[.string ph.s, .int .i64 ph.n] 24)
          have g0 : (w2.alloc (.cells #[.string ph.s, .int .i64 ph.n] 24)).cell? ⟨w2.heap.size, 0, none⟩ = some (.string ph.s) := World.cell?_alloc_at _ _ _ 0 rfl
          have g1 : (w2.alloc (.cells #[.string ph.s, .int .i64 ph.n] 24)).cell? ⟨w2.heap.size, 1, none⟩ = some (.int .i64 ph.n) := World.cell?_alloc_at _ _ _ 1 rfl
          have hacc3 := ((hacc.below hbx).below hb2).below hb3
          have hmap3 := ((hmap.below hbx).below hb2).below hb3
          have hbl3 := ((hbl.then hbx).then hb2).then hb3
          have hg2 : ∀ g, (Value.slice ab A.length capb).ownBlock = some g → g < w2.heap.size := fun g hg => by
            have h1 := (hgl g hg).2
            have h2 := hbx.size
            have h3 := hb2.size
            omega
          have k0 : (hide (Value.slice ab A.length capb).ownBlock (w2.alloc (.cells #[.string ph.s, .int .i64 ph.n] 24))).cell? ⟨w2.heap.size, 0, none⟩ = some (.string ph.s) := by
            cases hv : (Value.slice ab A.length capb).ownBlock with
            | none => exact g0
            | some g => exact hide_of_ne (by have := hg2 g hv; omega) g0
          have k1 : (hide (Value.slice ab A.length capb).ownBlock (w2.alloc (.cells #[.string ph.s, .int .i64 ph.n] 24))).cell? ⟨w2.heap.size, 1, none⟩ = some (.int .i64 ph.n) := by
            cases hv : (Value.slice ab A.length capb).ownBlock with
            | none => exact g1
            | some g => exact hide_of_ne (by have := hg2 g hv; omega) g1
          have hmb := hr2.max
          have hmb2 := hr2.le
          have hsz3 : w2.heap.size < (w2.alloc (.cells #[.string ph.s, .int .i64 ph.n] 24)).heap.size := by simp
          have hsz2 : w.heap.size < w2.heap.size := by have h2 := hbx.size; have h3 := hb2.size; omega
          have HK0 := mkHid k0
          have HK1 := mkHid k1
          clear hg2 k0 k1 g0 g1 hb3 y1 y2 hs2 x1 hgl hacc hmap hrow hbl c0 c1 hml hb2 hbx
          obtain ⟨W3, hW3⟩ : ∃ W3, w2.alloc (.cells #[.string ph.s, .int .i64 ph.n] 24) = W3 := ⟨_, rfl⟩
          rw [hW3] at HK0 HK1 hacc3 hmap3 hbl3 hsz3
          rw [hW3]
          clear hW3
          obtain ⟨H, hH⟩ : ∃ H, w2.heap.size = H := ⟨_, rfl⟩
          rw [hH] at HK0 HK1 hsz3 hsz2
          rw [hH]
          clear hH
          go_wp2
          go_loopw [6, 45] (fun v j wr2 => ∃ (j' : Nat) (A2 : List Lk), j' ≤ m[i].b.length ∧ A2.length ≤ 8 * i + j' ∧ j = .int .i64 j' ∧ AccInv (w.heap.size + 1) 57 A2 v wr2 ∧ MapPI wr2 w.heap.size n f ∧ Below w.heap.size w wr2 ∧ H < wr2.heap.size ∧ Hid ((hide v.ownBlock wr2).cell? ⟨H, 0, none⟩ = some (.string ph.s)) ∧ Hid ((hide v.ownBlock wr2).cell? ⟨H, 1, none⟩ = some (.int .i64 ph.n)) ∧ Hid (allK P m = A2 ++ (((m[i].b.drop j').map (linkOf P m[i])) ++ allK P (m.drop (i + 1))))) (fun v j wr2 => m[i].b.length - (intOf j).toNat)
          case atStart => exact ⟨0, A, Nat.zero_le _, by omega, rfl, hacc3, hmap3, hbl3, hsz3, HK0, HK1, HS1⟩
          case round =>
            clear hacc3 hmap3 hbl3 hsz3 HK0 HK1 HS1 hA
            obtain ⟨j, A2, hj, hA2, rfl, hacc, hmap, hbl, hszH, HK0, HK1, HS⟩ := hrel
            obtain ⟨ab2, capb2, rfl, hrow2⟩ := hacc.row
            by_cases hjl : j < m[i].b.length
            · obtain ⟨b2, off2, rfl, hb2, hat2⟩ := hr2.cases.resolve_left (fun e => by simp [e] at hjl)
              obtain ⟨a4, cap4, dw0, dw1, hr4⟩ := lt_at hat2 (Below.refl _ _) hjl
              have d0 := keep dw0 hbl
              have d1 := keep dw1 hbl
              have hta := HAT.out _ (List.getElem_mem hjl)
              have HTA := mkHid hta
              have hfb := predOf_fit hr4.fit (atom_ne hta)
              have HPL := mkHid (HPB.out _ (List.getElem_mem hjl))
              have HS5 := mkHid (bK_step hjl HS.out)
              have hby : Below wr.heap.size wr (wr.alloc (.cells #[.bool m[i].b[j].neg, .slice a4 m[i].b[j].t.length cap4] 47)) := (Below.refl _ _).new _
              have x0 : (wr.alloc (.cells #[.bool m[i].b[j].neg, .slice a4 m[i].b[j].t.length cap4] 47)).cell? ⟨wr.heap.size, 0, none⟩ = some (.bool m[i].b[j].neg) := World.cell?_alloc_at _ _ _ 0 rfl
              have hp1 : (predOf m[i].b[j].t).v = .agg #[.string (predOf m[i].b[j].t).s, .int .i64 (predOf m[i].b[j].t).n] := rfl
              have HLK : Hid (linkOf P m[i] m[i].b[j] = ⟨(P.idxOf ph : Nat), (P.idxOf (predOf m[i].b[j].t) : Nat), m[i].b[j].neg⟩) := by rw [Hid, ← HPHE.out]; rfl
              obtain ⟨pb, hpb⟩ : ∃ pb, predOf m[i].b[j].t = pb := ⟨_, rfl⟩
              have HPBE := mkHid hpb
              rw [hpb] at hfb hp1 HPL HLK
              have h0 := hide_keeps _ _ _ _ _ HK0.out
              have h1 := hide_keeps _ _ _ _ _ HK1.out
              clear HS hta hpb
              go_wp2_with (go_at_call 46; refine (predicate_yes _ _ _ _ ((hr4.below hbl).below hby) HTA.out).mono ?_; rintro e w5 ⟨rfl, hb5⟩; rw [HPBE.out, hp1]; have y0 := keep x0 hb5; have e0 := keep (keep h0 hby) hb5; have e1 := keep (keep h1 hby) hb5; have hs5 : wr.heap.size < w5.heap.size := cell_lt y0; have hs6 : H < w5.heap.size := cell_lt e0)
              have hb6 := (Below.refl w5.heap.size w5).new (.cells #[.string pb.s, .int .i64 pb.n] 24)
              have g0 : (w5.alloc (.cells #[.string pb.s, .int .i64 pb.n] 24)).cell? ⟨w5.heap.size, 0, none⟩ = some (.string pb.s) := World.cell?_alloc_at _ _ _ 0 rfl
              have g1 : (w5.alloc (.cells #[.string pb.s, .int .i64 pb.n] 24)).cell? ⟨w5.heap.size, 1, none⟩ = some (.int .i64 pb.n) := World.cell?_alloc_at _ _ _ 1 rfl
              have y6 := keep y0 hb6
              have e6 := keep e0 hb6
              have e7 := keep e1 hb6
              have hacc6 := ((hacc.below hby).below hb5).below hb6
              have hmap6 := ((hmap.below hby).below hb5).below hb6
              have hbl6 := ((hbl.then hby).then hb5).then hb6
              have HL0 := mkHid (below_hide hb6 _ _ _ _ (below_hide hb5 _ _ _ _ (below_hide hby _ _ _ _ HK0.out)))
              have HL1 := mkHid (below_hide hb6 _ _ _ _ (below_hide hb5 _ _ _ _ (below_hide hby _ _ _ _ HK1.out)))
              have hgl2 := hacc.lt
              have HN0 : Hid ((Value.slice ab2 A2.length capb2).ownBlock ≠ some wr.heap.size) := fun e => by have := (hgl2 _ e).2; omega
              have HN1' : Hid ((Value.slice ab2 A2.length capb2).ownBlock ≠ some w5.heap.size) := fun e => by have := (hgl2 _ e).2; omega
              have hsz6 : H < (w5.alloc (.cells #[.string pb.s, .int .i64 pb.n] 24)).heap.size := by simp; omega
              have hB6 : w.heap.size + 1 ≤ (w5.alloc (.cells #[.string pb.s, .int .i64 pb.n] 24)).heap.size := by simp; omega
              clear hb6 y0 e0 e1 hs5 hs6 hb5 x0 hby hacc hmap hbl HK0 HK1 h0 h1 d0 d1 hgl2
              obtain ⟨W6, hW6⟩ : ∃ W6, w5.alloc (.cells #[.string pb.s, .int .i64 pb.n] 24) = W6 := ⟨_, rfl⟩
              rw [hW6] at g0 g1 y6 e6 e7 hacc6 hmap6 hbl6 HL0 HL1 hsz6 hB6
              rw [hW6]
              clear hW6
              obtain ⟨K5, hK5⟩ : ∃ K5, w5.heap.size = K5 := ⟨_, rfl⟩
              rw [hK5] at g0 g1 HN1'
              have HN1 := HN1'
              rw [hK5]
              clear hK5
              have hfi : f ph = (P.idxOf ph : Nat) := HF2.out _ (by rw [← HPHE.out]; exact HPH.out)
              have hfj : f pb = (P.idxOf pb : Nat) := HF2.out _ HPL.out
              obtain ⟨F1, hF1⟩ : ∃ F1, P.idxOf ph = F1 := ⟨_, rfl⟩
              obtain ⟨F2, hF2⟩ : ∃ F2, P.idxOf pb = F2 := ⟨_, rfl⟩
              have hF1l : F1 ≤ P.length := by rw [← hF1]; exact List.idxOf_le_length
              have hF2l : F2 ≤ P.length := by rw [← hF2]; exact List.idxOf_le_length
              rw [hF1] at hfi HLK
              rw [hF2] at hfj HLK
              -- REGION
              have hlkW : ∀ W, MapPI W w.heap.size n f → (Instr.lookup 80 (.map (some w.heap.size)) (.agg #[.string ph.s, .int .i64 ph.n]) false).run Try.prog W = .ok (.int .i64 F1) W ∧ (Instr.lookup 80 (.map (some w.heap.size)) (.agg #[.string pb.s, .int .i64 pb.n]) false).run Try.prog W = .ok (.int .i64 F2) W := fun W hM => by
                have h1 := hM.run_lookup hfh
                have h2 := hM.run_lookup hfb
                rw [hfi] at h1
                rw [hfj] at h2
                exact ⟨h1, h2⟩
              have HLW := mkHid hlkW
              clear hlkW hF1 hF2 hfi hfj
              obtain ⟨vs, hown, hc⟩ := hacc6.ex
              obtain ⟨rfl, hfitA⟩ := plainLk.rows hc
              have HFA := mkHid hfitA
              have hgl6 := hacc6.lt
              clear hc hfitA hacc6
              obtain ⟨i0, hi0, hz0, hz1, hz2⟩ := info_parts Try.infoLink
              obtain ⟨gg, cg, wa, hrun, hown1, hgrow, hat, hlt2⟩ := run_append_lies (P := Try.prog) (W6.drew.alloc (.cells #[.int .i64 F1, .int .i64 F2, .bool m[i].b[j].neg] 57)) 41 41 (w.heap.size + 1) 57 i0 _ 3 24 Try.underlying41 hi0 hz0 hz1 hz2 rfl (by omega) _ A2.length (A2.flatMap fun x => [.int .i64 x.f, .int .i64 x.t, .bool x.neg]) ((show W6.drew.ownsRow (w.heap.size + 1) 57 3 _ _ _ from hown).alloc _)
                ⟨W6.drew.heap.size, 0, none⟩ 1 1 [.int .i64 F1, .int .i64 F2, .bool m[i].b[j].neg] rfl (World.news_of_block (cs := #[.int .i64 F1, .int .i64 F2, .bool m[i].b[j].neg]) (t := 57) (fr := (0, 0)) (heap_alloc_new _ _)) (by simp [Value.oneCell']) (by omega) (by unfold maxLen; omega) (by omega) (by rw [World.size_alloc]; exact Nat.le_trans hB6 (Nat.le_succ _)) _ rfl
              have hrunA : (Builtin.append_ #[41, 41] 41 #[.slice ab2 A2.length capb2, .slice (some ⟨W6.heap.size, 0, none⟩) 1 1]).run Try.prog (W6.drew.alloc (.cells #[.int .i64 F1, .int .i64 F2, .bool m[i].b[j].neg] 57)) = .ok (.slice (some ⟨gg, 0, none⟩) (A2.length + 1) cg) wa := hrun
              have hrunB : (Builtin.append_ #[41, 41] 41 #[.slice ab2 A2.length capb2, .slice (some ⟨W6.heap.size, 0, none⟩) 1 1]).run Try.prog (W6.alloc (.cells #[.int .i64 F1, .int .i64 F2, .bool m[i].b[j].neg] 57)).drew = .ok (.slice (some ⟨gg, 0, none⟩) (A2.length + 1) cg) wa := hrun
              clear hrun
              have hold : ∀ k, k < W6.heap.size → (Value.slice ab2 A2.length capb2).ownBlock ≠ some k → wa.heap[k]? = W6.heap[k]? := fun k hk hn => (hgrow.block k (by rw [World.size_alloc]; exact Nat.lt_succ_of_lt hk) (fun e => hn e.symm)).trans (heap_alloc_old W6.drew _ hk)
              have hG1 : W6.heap.size ≤ wa.heap.size := Nat.le_trans (Nat.le_succ W6.heap.size) (by have h1 := hgrow.size; rw [World.size_alloc] at h1; exact h1)
              have hnV : ∀ k, k < w.heap.size + 1 ∨ W6.heap.size ≤ k → (Value.slice ab2 A2.length capb2).ownBlock ≠ some k := fun k hk e => by have := hgl6 k e; omega
              have hHn : (Value.slice ab2 A2.length capb2).ownBlock ≠ some H := fun e => by
                have h9 := HL0.out
                rw [e] at h9
                exact (hide_cell h9).1 rfl
              have hwrn : (Value.slice ab2 A2.length capb2).ownBlock ≠ some wr.heap.size := HN0.out
              have hK5n : (Value.slice ab2 A2.length capb2).ownBlock ≠ some K5 := HN1.out
              have cellk : ∀ b o v, (Value.slice ab2 A2.length capb2).ownBlock ≠ some b → W6.cell? ⟨b, o, none⟩ = some v → wa.cell? ⟨b, o, none⟩ = some v := fun b o v hn hc => (World.cell?_of_block (w := W6) (a := ⟨b, o, none⟩) (hold b (cell_lt hc) hn)).trans hc
              have hbelow : Below (w.heap.size + 1) W6 wa := ⟨hgrow.os, hgrow.tape, hgrow.output, hG1, fun k hk => hold k (by omega) (hnV k (.inl hk))⟩
              have hmapa := hmap6.belowB hbelow (Nat.lt_succ_self _)
              have HS1 : Hid ((fun w' : World => w'.cell? ⟨H, 0, none⟩ = some (.string ph.s) ∧ w'.cell? ⟨H, 1, none⟩ = some (.int .i64 ph.n) ∧ w'.cell? ⟨K5, 0, none⟩ = some (.string pb.s) ∧ w'.cell? ⟨K5, 1, none⟩ = some (.int .i64 pb.n) ∧ w'.cell? ⟨wr.heap.size, 0, none⟩ = some (.bool m[i].b[j].neg) ∧ (Instr.lookup 80 (.map (some w.heap.size)) (.agg #[.string ph.s, .int .i64 ph.n]) false).run Try.prog w' = .ok (.int .i64 F1) w' ∧ (Instr.lookup 80 (.map (some w.heap.size)) (.agg #[.string pb.s, .int .i64 pb.n]) false).run Try.prog w' = .ok (.int .i64 F2) w') W6.drew) := ⟨e6, e7, g0, g1, y6, HLW.out W6.drew (hmap6.below ((Below.refl _ _).drew))⟩
              have HS2 : Hid ((fun w' : World => w'.cell? ⟨H, 0, none⟩ = some (.string ph.s) ∧ w'.cell? ⟨H, 1, none⟩ = some (.int .i64 ph.n) ∧ w'.cell? ⟨K5, 0, none⟩ = some (.string pb.s) ∧ w'.cell? ⟨K5, 1, none⟩ = some (.int .i64 pb.n) ∧ w'.cell? ⟨wr.heap.size, 0, none⟩ = some (.bool m[i].b[j].neg) ∧ (Instr.lookup 80 (.map (some w.heap.size)) (.agg #[.string ph.s, .int .i64 ph.n]) false).run Try.prog w' = .ok (.int .i64 F1) w' ∧ (Instr.lookup 80 (.map (some w.heap.size)) (.agg #[.string pb.s, .int .i64 pb.n]) false).run Try.prog w' = .ok (.int .i64 F2) w') (W6.drew.alloc (.cells #[.int .i64 F1, .int .i64 F2, .bool m[i].b[j].neg] 57))) := ⟨keep (w := W6.drew) e6 ((Below.refl _ _).new _), keep (w := W6.drew) e7 ((Below.refl _ _).new _), keep (w := W6.drew) g0 ((Below.refl _ _).new _), keep (w := W6.drew) g1 ((Below.refl _ _).new _), keep (w := W6.drew) y6 ((Below.refl _ _).new _), HLW.out _ (hmap6.below (((Below.refl _ _).drew).new _))⟩
              have HS3 : Hid ((fun w' : World => w'.cell? ⟨H, 0, none⟩ = some (.string ph.s) ∧ w'.cell? ⟨H, 1, none⟩ = some (.int .i64 ph.n) ∧ w'.cell? ⟨K5, 0, none⟩ = some (.string pb.s) ∧ w'.cell? ⟨K5, 1, none⟩ = some (.int .i64 pb.n) ∧ w'.cell? ⟨wr.heap.size, 0, none⟩ = some (.bool m[i].b[j].neg) ∧ (Instr.lookup 80 (.map (some w.heap.size)) (.agg #[.string ph.s, .int .i64 ph.n]) false).run Try.prog w' = .ok (.int .i64 F1) w' ∧ (Instr.lookup 80 (.map (some w.heap.size)) (.agg #[.string pb.s, .int .i64 pb.n]) false).run Try.prog w' = .ok (.int .i64 F2) w') wa) := ⟨cellk _ _ _ hHn e6, cellk _ _ _ hHn e7, cellk _ _ _ hK5n g0, cellk _ _ _ hK5n g1, cellk _ _ _ hwrn y6, HLW.out _ hmapa⟩
              have hgH : gg ≠ H := fun e => by
                rcases hat with h | h
                · exact hHn (by rw [h, e])
                · rw [World.size_alloc] at h; have h2 : W6.drew.heap.size = W6.heap.size := rfl; have := cell_lt e6; omega
              have HK2 : Hid ((hide (some gg) wa).cell? ⟨H, 0, none⟩ = some (.string ph.s)) := hide_of_ne hgH.symm HS3.out.1
              have HK3 : Hid ((hide (some gg) wa).cell? ⟨H, 1, none⟩ = some (.int .i64 ph.n)) := hide_of_ne hgH.symm HS3.out.2.1
              have hfit1 : (linkOf P m[i] m[i].b[j]).fit := by rw [HLK.out]; exact ⟨by (show _ ≤ ((F1 : Nat) : Int)); omega, by (show ((F1 : Nat) : Int) ≤ _); omega, by (show _ ≤ ((F2 : Nat) : Int)); omega, by (show ((F2 : Nat) : Int) ≤ _); omega⟩
              have hacc7 : AccInv (w.heap.size + 1) 57 (A2 ++ [linkOf P m[i] m[i].b[j]]) (.slice (some ⟨gg, 0, none⟩) (A2.length + 1) cg) wa := by
                refine ⟨(A2 ++ [linkOf P m[i] m[i].b[j]]).flatMap fun x => [.int .i64 x.f, .int .i64 x.t, .bool x.neg], ?_, plainLk.mk_rows _ _ fun x hx => ?_⟩
                · rw [List.length_append, List.flatMap_append, HLK.out]
                  simp only [List.flatMap_cons, List.flatMap_nil, List.append_nil]
                  exact hown1
                · rcases List.mem_append.1 hx with h | h
                  · exact HFA.out x h
                  · rw [List.mem_singleton.1 h]; exact hfit1
              have hbla : Below w.heap.size w wa := hbl6.trans (hbelow.mono (Nat.le_succ _))
              have hsza : H < wa.heap.size := Nat.lt_of_lt_of_le (cell_lt e6) hG1
              have HAC := mkHid hacc7
              have HMA := mkHid hmapa
              clear hold hgrow hown hown1 hat hacc7 hbelow cellk hfit1 hmapa hHn hwrn hK5n hnV hgl6 hmap6 hbl6 e6 e7 g0 g1 y6 HN0 HN1
              go_wp2
              refine wp_region_noPanic ?_
              refine wp_region_held_drew (S := (fun w' : World => w'.cell? ⟨H, 0, none⟩ = some (.string ph.s) ∧ w'.cell? ⟨H, 1, none⟩ = some (.int .i64 ph.n) ∧ w'.cell? ⟨K5, 0, none⟩ = some (.string pb.s) ∧ w'.cell? ⟨K5, 1, none⟩ = some (.int .i64 pb.n) ∧ w'.cell? ⟨wr.heap.size, 0, none⟩ = some (.bool m[i].b[j].neg) ∧ (Instr.lookup 80 (.map (some w.heap.size)) (.agg #[.string ph.s, .int .i64 ph.n]) false).run Try.prog w' = .ok (.int .i64 F1) w' ∧ (Instr.lookup 80 (.map (some w.heap.size)) (.agg #[.string pb.s, .int .i64 pb.n]) false).run Try.prog w' = .ok (.int .i64 F2) w')) (by kernel_rfl) (HS1.out) (fun hSd => ?_)
              refine wpAnyH_take (i := 0) (oi := _) (v := ?_) rfl (by kernel_rfl) (by kernel_rfl) (by kernel_rfl) (fun _ _ _ h => h) (Or.inl ⟨by rfl, ?_⟩) (by assumption) ?_
              rotate_left
              · (intro w' hSw; (try dsimp only at hSw); go_simp; try with_reducible rfl)
              (try simp only [Act.put, List.setIfInBounds_toArray, List.set_cons_zero, List.set_cons_succ])
              refine wpAnyH_take (i := 1) (oi := _) (v := ?_) rfl (by kernel_rfl) (by kernel_rfl) (by kernel_rfl) (fun _ _ _ h => h) (Or.inl ⟨by rfl, ?_⟩) (by assumption) ?_
              rotate_left
              · (intro w' hSw; (try dsimp only at hSw); go_simp; try with_reducible rfl)
              (try simp only [Act.put, List.setIfInBounds_toArray, List.set_cons_zero, List.set_cons_succ])
              refine wpAnyH_take (i := 2) (oi := _) (v := ?_) rfl (by kernel_rfl) (by kernel_rfl) (by kernel_rfl) (fun _ _ _ h => h) (Or.inl ⟨by rfl, ?_⟩) (by assumption) ?_
              rotate_left
              · (intro w' hSw; (try dsimp only at hSw); go_simp; try with_reducible rfl)
              (try simp only [Act.put, List.setIfInBounds_toArray, List.set_cons_zero, List.set_cons_succ])
              refine wpAnyH_take (i := 3) (oi := _) (v := ?_) rfl (by kernel_rfl) (by kernel_rfl) (by kernel_rfl) (fun _ _ _ h => h) (Or.inl ⟨by rfl, ?_⟩) (by assumption) ?_
              rotate_left
              · (intro w' hSw; (try dsimp only at hSw); go_simp; try with_reducible rfl)
              (try simp only [Act.put, List.setIfInBounds_toArray, List.set_cons_zero, List.set_cons_succ])
              refine wpAnyH_take (i := 4) (oi := _) (v := ?_) rfl (by kernel_rfl) (by kernel_rfl) (by kernel_rfl) (fun _ _ _ h => h) (Or.inl ⟨by rfl, ?_⟩) (by assumption) ?_
              rotate_left
              · (intro w' hSw; (try dsimp only at hSw); go_simp; try with_reducible rfl)
              (try simp only [Act.put, List.setIfInBounds_toArray, List.set_cons_zero, List.set_cons_succ])
              refine wpAnyH_take (i := 5) (oi := _) (v := ?_) rfl (by kernel_rfl) (by kernel_rfl) (by kernel_rfl) (fun _ _ _ h => h) (Or.inl ⟨by rfl, ?_⟩) (by assumption) ?_
              rotate_left
              · (intro w' hSw; (try dsimp only at hSw); go_simp; try with_reducible rfl)
              (try simp only [Act.put, List.setIfInBounds_toArray, List.set_cons_zero, List.set_cons_succ])
              refine wpAnyH_take (i := 6) (oi := _) (v := ?_) rfl (by kernel_rfl) (by kernel_rfl) (by kernel_rfl) (fun _ _ _ h => h) (Or.inl ⟨by rfl, ?_⟩) (by assumption) ?_
              rotate_left
              · (intro w' hSw; (try dsimp only at hSw); go_simp; try with_reducible rfl)
              (try simp only [Act.put, List.setIfInBounds_toArray, List.set_cons_zero, List.set_cons_succ])
              refine wpAnyH_take (i := 7) (oi := _) (v := ?_) rfl (by kernel_rfl) (by kernel_rfl) (by kernel_rfl) (fun _ _ _ h => h) (Or.inl ⟨by rfl, ?_⟩) (by assumption) ?_
              rotate_left
              · (intro w' hSw; (try dsimp only at hSw); go_simp; try with_reducible rfl)
              (try simp only [Act.put, List.setIfInBounds_toArray, List.set_cons_zero, List.set_cons_succ])
              refine wpAnyH_take (i := 8) (oi := _) (v := ?_) rfl (by kernel_rfl) (by kernel_rfl) (by kernel_rfl) (fun _ _ _ h => h) (Or.inl ⟨by rfl, ?_⟩) (by assumption) ?_
              rotate_left
              · (intro w' hSw; (try dsimp only at hSw); go_simp; try with_reducible rfl)
              (try simp only [Act.put, List.setIfInBounds_toArray, List.set_cons_zero, List.set_cons_succ])
              refine wpAnyH_take (i := 9) (oi := _) (v := ?_) rfl (by kernel_rfl) (by kernel_rfl) (by kernel_rfl) (fun _ _ _ h => h) (Or.inl ⟨by rfl, ?_⟩) (by assumption) ?_
              rotate_left
              · (intro w' hSw; (try dsimp only at hSw); go_simp; try with_reducible rfl)
              (try simp only [Act.put, List.setIfInBounds_toArray, List.set_cons_zero, List.set_cons_succ])
              refine wpAnyH_ready (rs := [10]) (by kernel_rfl) (by simp) ?_
              refine AllReadyH.cons (o := _) rfl (fun Kq hKq => ?_) AllReadyH.nil
              go_simp
              refine hKq.out _ _ (HS2.out) (fun _ => ?_)
              clear hKq Kq
              (try simp only [Act.put, List.setIfInBounds_toArray, List.set_cons_zero, List.set_cons_succ])
              refine wpAnyH_ready (rs := [11]) (by kernel_rfl) (by simp) ?_
              refine AllReadyH.cons (o := _) rfl (fun Kq hKq => ?_) AllReadyH.nil
              (rw [if_pos (by rfl)]; simp [Oper.wp, execOp, resolve, invoke, builtin, Oper.upon, Act.eval, hrunA, hrunB, Result.andThen, Sem.run_bind])
              refine hKq.out _ _ (HS3.out) (fun _ => ?_)
              clear hKq Kq
              (try simp only [Act.put, List.setIfInBounds_toArray, List.set_cons_zero, List.set_cons_succ])
              refine wpAnyH_ready (rs := [12]) (by kernel_rfl) (by simp) ?_
              refine AllReadyH.cons (o := _) rfl (fun Kq hKq => ?_) AllReadyH.nil
              go_simp
              refine hKq.out _ _ (HS3.out) (fun _ => ?_)
              clear hKq Kq
              (try simp only [Act.put, List.setIfInBounds_toArray, List.set_cons_zero, List.set_cons_succ])
              refine wpAnyH_done (by kernel_rfl) (NoPanic.normal ?_) _
              go_wp2
              have hjj : m[i].b.length - (j + 1) < m[i].b.length - j := by omega
              have hll : (A2 ++ [linkOf P m[i] m[i].b[j]]).length ≤ 8 * i + (j + 1) := by rw [List.length_append, List.length_singleton]; omega
              have HAC2 := HAC.out
              have HMA2 := HMA.out
              generalize A2 ++ [linkOf P m[i] m[i].b[j]] = A3 at hll HAC2 HS5
              refine ⟨⟨j + 1, A3, by omega, hll, by go_num, HAC2, HMA2, hbla, hsza, HK2, HK3, HS5⟩, ?_⟩
              simp [intOf]; omega
            · have HS5 := mkHid (bK_end (by omega) HS.out)
              clear HS
              go_wp2
              go_round
              case rel => exact ⟨i + 1, A2, by omega, by omega, by go_num, hacc, hmap, hbl, HS5⟩
              case measure => simp [intOf]; omega
        · have hA2 : Hid (allK P m = A) := by rw [Hid, HS.out, List.drop_eq_nil_of_le (by omega)]; simp [allK]
          obtain ⟨av, capv, rfl, _⟩ := hacc.row
          have hsz : w.heap.size + 1 ≤ wr.heap.size := hml
          clear HS
          go_wp2_with (first
            | (go_at_call 54; refine (linksSort_any (w.heap.size + 1) _ _ A hacc hsz (by omega)).mono ?_; rintro e w2 ⟨rfl, A', HP, hacc2, hb2⟩; have hs2 : w.heap.size + 1 ≤ w2.heap.size := Nat.le_trans hsz hb2.size)
            | (go_at_call 56; refine (compactLk_any (w.heap.size + 1) _ _ A' hacc2 hs2).mono ?_; rintro e w3 ⟨v3, rfl, hacc3, hb3⟩))
          go_ret
          have hfin := HSO.out A' (by rw [hA2.out]; exact HP.out.1) HP.out.2
          rw [hfin] at hacc3
          exact ⟨_, rfl, hacc3, hbl.trans ((hb2.mono (Nat.le_succ _)).trans (hb3.mono (Nat.le_succ _)))⟩
end Go.Proofs.Ytkgebkinlpmpnaa
namespace Go.Proofs.Ytkgebkinlpmpnaa
open Go.RowKit

/-- all blocks that were there, but some, are as they were -/
structure Fr (us : List Nat) (w w' : World) : Prop where
  os : w'.os = w.os
  tape : w'.tape = w.tape
  output : w'.output = w.output
  size : w.heap.size ≤ w'.heap.size
  block : ∀ k, k < w.heap.size → k ∉ us → w'.heap[k]? = w.heap[k]?
section
variable {us : List Nat} {w w' w'' : World}
theorem Fr.refl (us : List Nat) (w : World) : Fr us w w := ⟨rfl, rfl, rfl, Nat.le_refl _, fun _ _ _ => rfl⟩
theorem Fr.trans (h : Fr us w w') (k : Fr us w' w'') : Fr us w w'' :=
  ⟨k.os.trans h.os, k.tape.trans h.tape, k.output.trans h.output, Nat.le_trans h.size k.size, fun i hi hn => (k.block i (Nat.lt_of_lt_of_le hi h.size) hn).trans (h.block i hi hn)⟩
theorem Fr.of (h : Below w.heap.size w w') : Fr us w w' := ⟨h.os, h.tape, h.output, h.size, fun k hk _ => h.block k hk⟩
theorem Fr.alloc (h : Fr us w w') (o : Obj) : Fr us w (w'.alloc o) := h.trans (Fr.of ((Below.refl _ _).new o))
theorem Fr.drew (h : Fr us w w') : Fr us w w'.drew := h.trans (Fr.of (Below.refl _ _).drew)
theorem Fr.set (h : Fr us w w') {g k : Nat} (hg : g ∈ us) (v : Value) : Fr us w (w'.setCell ⟨g, k, none⟩ v) :=
  h.trans ⟨rfl, rfl, rfl, by simp [World.setCell], fun i _ hn => Below.heap_setCell _ _ _ _ (fun e => hn (by rw [show i = g from e]; exact hg))⟩
theorem Fr.sub {vs : List Nat} (h : Fr us w w') (hs : ∀ k ∈ us, k ∈ vs) : Fr vs w w' := ⟨h.os, h.tape, h.output, h.size, fun k hk hn => h.block k hk fun e => hn (hs k e)⟩
/-- what lies below all of them is as it was -/
theorem Fr.below (h : Fr us w w') {B : Nat} (hB : B ≤ w.heap.size) (hu : ∀ k ∈ us, B ≤ k) : Below B w w' :=
  ⟨h.os, h.tape, h.output, h.size, fun k hk => h.block k (by omega) fun e => by have := hu k e; omega⟩
/-- blocks that are newer than the first world don't count -/
theorem Fr.fresh {vs : List Nat} (h : Fr (vs ++ us) w w') (hv : ∀ k ∈ vs, w.heap.size ≤ k) : Fr us w w' :=
  ⟨h.os, h.tape, h.output, h.size, fun k hk hn => h.block k hk fun e => by
    rcases List.mem_append.1 e with e | e
    · have := hv k e; omega
    · exact hn e⟩
end
/-- the world without some blocks -/
def veil (us : List Nat) (w : World) : World := { w with heap := w.heap.mapIdx fun i o => if i ∈ us then .cells #[] 0 else o }
theorem veil_heap {us : List Nat} {w : World} {b : Nat} (h : b ∉ us) : (veil us w).heap[b]? = w.heap[b]? := by
  unfold veil
  rw [Array.getElem?_mapIdx]
  cases hw : w.heap[b]? with
  | none => rfl
  | some o => simp [h]
theorem veil_cell {us : List Nat} {w : World} {b o : Nat} {v : Value} (h : (veil us w).cell? ⟨b, o, none⟩ = some v) : b ∉ us ∧ w.cell? ⟨b, o, none⟩ = some v := by
  by_cases hb : b ∈ us
  · exfalso
    unfold veil at h
    simp only [World.cell?, Array.getElem?_mapIdx] at h
    cases hw : w.heap[b]? with
    | none => rw [hw] at h; simp at h
    | some o => rw [hw] at h; simp [hb] at h
  · refine ⟨hb, ?_⟩
    rwa [World.cell?, veil_heap hb] at h
theorem veil_of {us : List Nat} {w : World} {b o : Nat} {v : Value} (hb : b ∉ us) (h : w.cell? ⟨b, o, none⟩ = some v) : (veil us w).cell? ⟨b, o, none⟩ = some v := by
  rwa [World.cell?, veil_heap hb]
theorem veil_keeps (us : List Nat) (w : World) : Keeps (veil us w) w := fun _ _ _ h => (veil_cell h).2
theorem Fr.keeps {us : List Nat} {w w' : World} (h : Fr us w w') : Keeps (veil us w) (veil us w') := by
  intro b o v hc
  obtain ⟨hb, hc'⟩ := veil_cell hc
  exact veil_of hb ((World.cell?_of_block (w := w) (a := ⟨b, o, none⟩) (h.block b (cell_lt hc') hb)).trans hc')
/-- what is elder than all of them is read without them -/
theorem veil_fresh {w0 w : World} {us : List Nat} (h : Keeps w0 w) (hu : ∀ k ∈ us, w0.heap.size ≤ k) : Keeps w0 (veil us w) := fun b o v hc => by
  have hl := cell_lt hc
  exact veil_of (fun e => by have := hu b e; omega) (h _ _ _ hc)
theorem veil_mono {us vs : List Nat} (w : World) (h : ∀ k ∈ vs, k ∈ us) : Keeps (veil us w) (veil vs w) := fun b o v hc => by
  obtain ⟨hb, hc'⟩ := veil_cell hc
  exact veil_of (fun e => hb (h b e)) hc'

/-- a block of numbers -/
def RowU (w : World) (u : Nat) (U : List Int) : Prop := w.heap[u]? = some (.cells (U.map (Value.int .i64)).toArray 3 (0, 0))
section
variable {us : List Nat} {w w' : World} {u : Nat} {U : List Int}
theorem RowU.lt (h : RowU w u U) : u < w.heap.size := by
  unfold RowU at h
  exact (Array.getElem?_eq_some_iff.1 h).1
theorem RowU.read (h : RowU w u U) {k : Nat} (hk : k < U.length) : w.cell? ⟨u, k, none⟩ = some (.int .i64 U[k]) := by
  rw [cell_of_row w u k _ _ _ h]; simp [hk]
theorem RowU.free (h : RowU w u U) (k : Nat) : w.frozen? ⟨u, k, none⟩ = false := by
  unfold RowU at h
  simp [World.frozen?, h]
theorem RowU.set (h : RowU w u U) (k : Nat) (v : Int) : RowU (w.setCell ⟨u, k, none⟩ (.int .i64 v)) u (U.set k v) := by
  unfold RowU at *
  have hl := (Array.getElem?_eq_some_iff.1 h).1
  simp only [World.setCell, Array.getElem?_modify, if_true, h, Option.map_some]
  simp
theorem RowU.fr (h : RowU w u U) (hf : Fr us w w') (hu : u ∉ us) : RowU w' u U := (hf.block u h.lt hu).trans h
theorem RowU.below (h : RowU w u U) (hb : Below w.heap.size w w') : RowU w' u U := (hb.block u h.lt).trans h
theorem RowU.alloc (h : RowU w u U) (o : Obj) : RowU (w.alloc o) u U := h.below ((Below.refl _ _).new o)
theorem RowU.drew (h : RowU w u U) : RowU w.drew u U := h
theorem RowU.setOther (h : RowU w u U) {g k : Nat} (hg : g ≠ u) (v : Value) : RowU (w.setCell ⟨g, k, none⟩ v) u U := (Below.heap_setCell w ⟨g, k, none⟩ v u (Ne.symm hg)).trans h
end

/-- the places of two terms and their classes, but for what changes -/
structure Cls (z : World) (C u s m : Nat) (l : List Cel) (E : List Int) : Prop where
  cells : ∃ a cap, z.cell? ⟨C, 0, none⟩ = some (.slice a l.length cap) ∧ Row z a cap l
  behind : ∃ a cap, z.cell? ⟨C, 1, none⟩ = some (.slice a E.length cap) ∧ Row z a cap E
  first : z.cell? ⟨C, 2, none⟩ = some (.map (some m))
  up : ∃ cap, l.length ≤ cap ∧ cap ≤ 9223372036854775807 ∧ z.cell? ⟨C, 3, none⟩ = some (.slice (some ⟨u, 0, none⟩) l.length cap)
  size : ∃ cap, l.length ≤ cap ∧ cap ≤ 9223372036854775807 ∧ z.cell? ⟨C, 4, none⟩ = some (.slice (some ⟨s, 0, none⟩) l.length cap)
  us : u ≠ s
theorem Cls.keeps {z z' : World} {C u s m : Nat} {l : List Cel} {E : List Int} (h : Cls z C u s m l E) (hk : Keeps z z') : Cls z' C u s m l E := by
  obtain ⟨⟨a, ca, h0, hr⟩, ⟨b, cb, h1, hr1⟩, h2, ⟨c, hc1, hc2, h3⟩, ⟨d, hd1, hd2, h4⟩, h5⟩ := h
  exact ⟨⟨a, ca, hk _ _ _ h0, hr.keeps hk⟩, ⟨b, cb, hk _ _ _ h1, hr1.keeps hk⟩, hk _ _ _ h2, ⟨c, hc1, hc2, hk _ _ _ h3⟩, ⟨d, hd1, hd2, hk _ _ _ h4⟩, h5⟩

/-! ### the forest of the places -/
/-- r: the place that stands for the class; d: falls on the way there -/
structure Roots (n : Nat) (U : List Int) (r d : Nat → Nat) : Prop where
  len : U.length = n
  up : ∀ x, x < n → ∃ y : Nat, U[x]? = some (y : Int) ∧ y < n ∧ r y = r x ∧ (y ≠ x → d y < d x) ∧ (y = x → r x = x)
  lt : ∀ x, x < n → r x < n
  top : ∀ x, x < n → U[r x]? = some (r x : Int)
section
variable {n : Nat} {U : List Int} {r d : Nat → Nat}
theorem Roots.halve (h : Roots n U r d) {x y z : Nat} (hx : x < n) (hy : U[x]? = some (y : Int)) (hne : y ≠ x) (hz : U[y]? = some (z : Int)) : Roots n (U.set x (z : Int)) r d := by
  obtain ⟨y', e1, hy1, hy2, hy3, _⟩ := h.up x hx
  rw [hy] at e1
  obtain rfl : y = y' := by injection e1 with e1; omega
  obtain ⟨z', e2, hz1, hz2, hz3, _⟩ := h.up y hy1
  rw [hz] at e2
  obtain rfl : z = z' := by injection e2 with e2; omega
  have hdy := hy3 hne
  have hdz : d z < d x := by
    by_cases e : z = y
    · rw [e]; exact hdy
    · have := hz3 e; omega
  have hxl : x < U.length := by rw [h.len]; exact hx
  refine ⟨by rw [List.length_set]; exact h.len, fun q hq => ?_, h.lt, fun q hq => ?_⟩
  · by_cases e : x = q
    · subst e
      refine ⟨z, by rw [List.getElem?_set_self hxl], hz1, hz2.trans hy2, fun _ => hdz, fun e => ?_⟩
      rw [e] at hdz; omega
    · rw [List.getElem?_set_ne e]; exact h.up q hq
  · by_cases e : x = r q
    · exfalso
      have h1 := h.top q hq
      rw [← e, hy] at h1
      injection h1 with h1
      omega
    · rw [List.getElem?_set_ne e]; exact h.top q hq
end
end Go.Proofs.Ytkgebkinlpmpnaa
namespace Go.Proofs.Ytkgebkinlpmpnaa

/-! ### levels, plain: what the program's rounds tell -/
def G (l : List Int) (p : Int) : Int := l.getD p.toNat 0
def In (n : Nat) (p : Int) : Prop := 0 ≤ p ∧ p < (n : Int)
theorem G_set {l : List Int} {n : Nat} (hl : l.length = n) {p q : Int} (hp : In n p) (hq : In n q) (x : Int) : G (l.set p.toNat x) q = if p = q then x else G l q := by
  unfold G In at *
  rw [List.getD_eq_getElem?_getD, List.getD_eq_getElem?_getD, List.getElem?_set]
  by_cases e : p = q
  · subst e
    have : p.toNat < l.length := by omega
    simp [this]
  · have : ¬ p.toNat = q.toNat := by omega
    simp [this, e]
theorem G_ext {a b : List Int} {n : Nat} (ha : a.length = n) (hb : b.length = n) (h : ∀ p, In n p → G a p = G b p) : a = b := by
  apply List.ext_getElem (by omega)
  intro i h1 h2
  have := h i ⟨by omega, by omega⟩
  unfold G at this
  rw [List.getD_eq_getElem?_getD, List.getD_eq_getElem?_getD] at this
  simpa [List.getElem?_eq_getElem h1, List.getElem?_eq_getElem h2] using this
theorem G_mem {a : List Int} {n : Nat} (ha : a.length = n) {p : Int} (hp : In n p) : G a p ∈ a := by
  unfold G In at *
  have : p.toNat < a.length := by omega
  rw [List.getD_eq_getElem?_getD, List.getElem?_eq_getElem this]
  exact List.getElem_mem this
theorem mem_G {a : List Int} {n : Nat} (ha : a.length = n) {x : Int} (h : x ∈ a) : ∃ p, In n p ∧ G a p = x := by
  obtain ⟨i, hi, rfl⟩ := List.getElem_of_mem h
  refine ⟨i, ⟨by omega, by omega⟩, ?_⟩
  unfold G
  rw [List.getD_eq_getElem?_getD]
  simp [List.getElem?_eq_getElem hi]

/-- levels that keep all links -/
structure Sat (n : Nat) (k : List Lk) (b : List Int) : Prop where
  len : b.length = n
  pos : ∀ p, In n p → 0 ≤ G b p
  lk : ∀ x ∈ k, G b x.t + negI x.neg ≤ G b x.f
/-- the lowest ones -/
structure Least (n : Nat) (k : List Lk) (a : List Int) : Prop where
  sat : Sat n k a
  low : ∀ b, Sat n k b → ∀ p, In n p → G a p ≤ G b p
  top : ∀ p, In n p → G a p ≤ n
theorem Least.unique {n : Nat} {k : List Lk} {a b : List Int} (ha : Least n k a) (hb : Least n k b) : a = b :=
  G_ext ha.sat.len hb.sat.len fun p hp => Int.le_antisymm (ha.low b hb.sat p hp) (hb.low a ha.sat p hp)

/-- one row is gone through: each that stands on the level is raised, and told -/
def up1 (lv : Int) (s : List Int × List Int) (p : Int) : List Int × List Int := if G s.1 p = lv then (s.1.set p.toNat (lv + 1), s.2 ++ [p]) else s
def upP (lv : Int) (s : List Int × List Int) (l : List Int) : List Int × List Int := l.foldl (up1 lv) s
def rowAt (d : List (List Int)) (p : Int) : List Int := d.getD p.toNat []
def denyP (lv : Int) (d : List (List Int)) (s : List Int × List Int) (last : List Int) : List Int × List Int := last.foldl (fun s p => upP lv s (rowAt d p)) s
def spreadP (lv : Int) (d : List (List Int)) : Nat → Nat → List Int × List Int → List Int × List Int
  | 0, _, s => s
  | g + 1, i, s => match s.2[i]? with
    | none => s
    | some p => spreadP lv d g (i + 1) (upP lv s (rowAt d p))
def roundP (n : Nat) (lean deny : List (List Int)) (lv : Int) (o top : List Int) : List Int × List Int :=
  spreadP lv lean (n + 1) 0 (denyP lv deny (o, []) top)
def levP (n : Nat) (lean deny : List (List Int)) : Nat → Int → List Int → List Int → Option (List Int)
  | 0, _, _, _ => none
  | g + 1, lv, o, top => if top = [] then some o else
    if (roundP n lean deny lv o top).2.length = top.length then none else levP n lean deny g (lv + 1) (roundP n lean deny lv o top).1 (roundP n lean deny lv o top).2
def whoL (n : Nat) (neg : Bool) (k : List Lk) : List (List Int) := (List.range n).map fun (q : Nat) => (k.filter fun x => decide (x.t = (q : Int)) && (x.neg == neg)).map Lk.f
def levelsP (n : Nat) (k : List Lk) : Option (List Int) := levP n (whoL n false k) (whoL n true k) (n + 1) 0 (List.replicate n 0) ((List.range n).map fun (i : Nat) => (i : Int))

theorem who_mem {n : Nat} {neg : Bool} {k : List Lk} {q : Int} (hq : In n q) {p : Int} : p ∈ rowAt (whoL n neg k) q ↔ ∃ x ∈ k, x.f = p ∧ x.t = q ∧ x.neg = neg := by
  unfold rowAt whoL In at *
  have h1 : q.toNat < n := by omega
  have h2 : ((q.toNat : Nat) : Int) = q := by omega
  rw [List.getD_eq_getElem?_getD, List.getElem?_map, List.getElem?_range h1]
  simp only [Option.map_some, Option.getD_some, List.mem_map, List.mem_filter, Bool.and_eq_true, decide_eq_true_eq, beq_iff_eq, h2]
  constructor
  · rintro ⟨x, ⟨h1, h2, h3⟩, h4⟩; exact ⟨x, h1, h4, h2, h3⟩
  · rintro ⟨x, h1, h4, h2, h3⟩; exact ⟨x, ⟨h1, h2, h3⟩, h4⟩

/-- within a round -/
structure RInv (n : Nat) (k : List Lk) (lv : Int) (o last : List Int) (s : List Int × List Int) : Prop where
  len : s.1.length = n
  same : ∀ p, In n p → G s.1 p = G o p ∨ G o p = lv ∧ G s.1 p = lv + 1
  top : ∀ p, p ∈ s.2 ↔ In n p ∧ G o p = lv ∧ G s.1 p = lv + 1
  nd : s.2.Nodup
  why : ∀ b, Sat n k b → ∀ p ∈ s.2, ∃ q ∈ last, G b q + 1 ≤ G b p
theorem sub_len {α : Type} [DecidableEq α] : ∀ {l r : List α}, l.Nodup → (∀ p ∈ l, p ∈ r) → l.length ≤ r.length
  | [], r, _, _ => by simp
  | a :: l, r, hn, h => by
    obtain ⟨h1, h2⟩ := List.nodup_cons.1 hn
    have ha := h a (by simp)
    have := sub_len (r := r.erase a) h2 fun p hp => (List.mem_erase_of_ne (fun e : p = a => h1 (by rw [← e]; exact hp))).2 (h p (by simp [hp]))
    rw [List.length_erase_of_mem ha] at this
    have := List.length_pos_of_mem ha
    rw [List.length_cons]; omega
theorem sub_eq_len {α : Type} [DecidableEq α] {l r : List α} (hn : l.Nodup) (h : ∀ p ∈ l, p ∈ r) (e : l.length = r.length) : ∀ p ∈ r, p ∈ l := fun p hp => by
  apply Classical.byContradiction
  intro hne
  have := sub_len (l := p :: l) (r := r) (List.nodup_cons.2 ⟨hne, hn⟩) (fun q hq => by
    rcases List.mem_cons.1 hq with rfl | hq
    · exact hp
    · exact h q hq)
  rw [List.length_cons] at this
  omega
section
variable {n : Nat} {k : List Lk} {lv : Int} {o last : List Int} {s : List Int × List Int}
theorem RInv.start (ho : o.length = n) : RInv n k lv o last (o, []) :=
  ⟨ho, fun _ _ => .inl rfl, fun p => ⟨fun h => by simp at h, fun ⟨_, h1, h2⟩ => by simp at h2; omega⟩, List.nodup_nil, fun _ _ _ h => by simp at h⟩
theorem RInv.up1 (h : RInv n k lv o last s) {p : Int} (hp : In n p) (hw : ∀ b, Sat n k b → ∃ q ∈ last, G b q + 1 ≤ G b p) : RInv n k lv o last (up1 lv s p) := by
  unfold Go.Proofs.Ytkgebkinlpmpnaa.up1
  split
  next e =>
    have h0 : G o p = lv := by
      rcases h.same p hp with h1 | ⟨h1, _⟩
      · rw [← h1]; exact e
      · exact h1
    have hn : p ∉ s.2 := fun hm => by have := ((h.top p).1 hm).2.2; omega
    refine ⟨by simp [h.len], fun q hq => ?_, fun q => ?_, ?_, fun b hb q hq => ?_⟩
    · show G (s.1.set p.toNat (lv + 1)) q = _ ∨ _
      rw [G_set h.len hp hq]
      by_cases e2 : p = q
      · subst e2; right; simp [h0]
      · rw [if_neg e2]; exact h.same q hq
    · show q ∈ s.2 ++ [p] ↔ In n q ∧ G o q = lv ∧ G (s.1.set p.toNat (lv + 1)) q = lv + 1
      rw [List.mem_append, List.mem_singleton]
      constructor
      · rintro (h1 | rfl)
        · obtain ⟨h2, h3, h4⟩ := (h.top q).1 h1
          refine ⟨h2, h3, ?_⟩
          rw [G_set h.len hp h2]; split <;> omega
        · refine ⟨hp, h0, ?_⟩
          rw [G_set h.len hp hp, if_pos rfl]
      · rintro ⟨h2, h3, h4⟩
        rw [G_set h.len hp h2] at h4
        by_cases e2 : p = q
        · right; exact e2.symm
        · rw [if_neg e2] at h4; left; exact (h.top q).2 ⟨h2, h3, h4⟩
    · show (s.2 ++ [p]).Nodup
      rw [List.nodup_append]
      refine ⟨h.nd, by simp, fun a ha b hb => ?_⟩
      simp at hb; subst hb; intro e3; subst e3; exact hn ha
    · show ∃ q' ∈ last, _
      have hq' : q ∈ s.2 ++ [p] := hq
      rw [List.mem_append, List.mem_singleton] at hq'
      rcases hq' with h1 | rfl
      · exact h.why b hb q h1
      · exact hw b hb
  next => exact h
/-- what was raised, or stood elsewhere, is not on the level -/
theorem up1_done (h : s.1.length = n) {p q : Int} (hp : In n p) (hq : In n q) (hd : G s.1 q ≠ lv) : G (up1 lv s p).1 q ≠ lv := by
  unfold up1
  split
  next e =>
    show G (s.1.set p.toNat (lv + 1)) q ≠ lv
    rw [G_set h hp hq]; split
    · omega
    · exact hd
  next => exact hd
theorem up1_self (h : s.1.length = n) {p : Int} (hp : In n p) : G (up1 lv s p).1 p ≠ lv := by
  unfold up1
  split
  next e =>
    show G (s.1.set p.toNat (lv + 1)) p ≠ lv
    rw [G_set h hp hp, if_pos rfl]; omega
  next e => exact e
theorem up1_len {p : Int} : (up1 lv s p).1.length = s.1.length := by unfold up1; split <;> simp
theorem up1_pre {lv : Int} {s : List Int × List Int} (p : Int) : ∃ r, (up1 lv s p).2 = s.2 ++ r := by
  unfold up1; split
  · exact ⟨_, rfl⟩
  · exact ⟨[], by simp⟩
theorem upP_ok : ∀ (l : List Int) {s : List Int × List Int}, RInv n k lv o last s → (∀ p ∈ l, In n p) → (∀ b, Sat n k b → ∀ p ∈ l, ∃ q ∈ last, G b q + 1 ≤ G b p) →
    RInv n k lv o last (upP lv s l) ∧ (∀ p ∈ l, G (upP lv s l).1 p ≠ lv) ∧ (∀ q, In n q → G s.1 q ≠ lv → G (upP lv s l).1 q ≠ lv) ∧ ∃ r, (upP lv s l).2 = s.2 ++ r
  | [], s, h, _, _ => ⟨h, fun p hp => by simp at hp, fun _ _ h => h, [], by simp [upP]⟩
  | p :: l, s, h, hin, hw => by
    have hp := hin p (by simp)
    have h1 := h.up1 hp (fun b hb => hw b hb p (by simp))
    obtain ⟨i1, i2, i3, r, i4⟩ := upP_ok l h1 (fun q hq => hin q (by simp [hq])) (fun b hb q hq => hw b hb q (by simp [hq]))
    obtain ⟨r0, hr0⟩ := up1_pre (lv := lv) (s := s) p
    refine ⟨i1, fun q hq => ?_, fun q hq hd => i3 q hq (up1_done h.len hp hq hd), r0 ++ r, ?_⟩
    · rcases List.mem_cons.1 hq with rfl | hq
      · exact i3 _ hp (up1_self h.len hp)
      · exact i2 q hq
    · show (upP lv (Go.Proofs.Ytkgebkinlpmpnaa.up1 lv s p) l).2 = _
      rw [i4, hr0, List.append_assoc]
theorem denyP_ok {d : List (List Int)} : ∀ (l : List Int) {s : List Int × List Int}, RInv n k lv o last s → (∀ q ∈ l, ∀ p ∈ rowAt d q, In n p) → (∀ b, Sat n k b → ∀ q ∈ l, ∀ p ∈ rowAt d q, ∃ q ∈ last, G b q + 1 ≤ G b p) →
    RInv n k lv o last (denyP lv d s l) ∧ (∀ q ∈ l, ∀ p ∈ rowAt d q, G (denyP lv d s l).1 p ≠ lv) ∧ (∀ q, In n q → G s.1 q ≠ lv → G (denyP lv d s l).1 q ≠ lv)
  | [], s, h, _, _ => ⟨h, fun p hp => by simp at hp, fun _ _ h => h⟩
  | q :: l, s, h, hin, hw => by
    obtain ⟨j1, j2, j3, _⟩ := upP_ok (rowAt d q) h (hin q (by simp)) (fun b hb => hw b hb q (by simp))
    obtain ⟨i1, i2, i3⟩ := denyP_ok l j1 (fun q hq => hin q (by simp [hq])) (fun b hb q hq => hw b hb q (by simp [hq]))
    refine ⟨i1, fun q' hq' p hp => ?_, fun q' hq' hd => i3 q' hq' (j3 q' hq' hd)⟩
    rcases List.mem_cons.1 hq' with rfl | hq'
    · exact i3 p (hin _ (by simp) p hp) (j2 p hp)
    · exact i2 q' hq' p hp
theorem nodup_in_len {n : Nat} {l : List Int} (hn : l.Nodup) (h : ∀ p ∈ l, In n p) : l.length ≤ n := by
  have h1 : (l.map Int.toNat).Nodup := by
    rw [List.Nodup, List.pairwise_map]
    refine List.Pairwise.imp_of_mem ?_ hn
    intro a b ha hb hne e
    have h1 := h a ha
    have h2 := h b hb
    unfold In at h1 h2
    exact hne (by omega)
  have h2 := sub_len h1 (r := List.range n) (fun x hx => by
    obtain ⟨a, ha, rfl⟩ := List.mem_map.1 hx
    have := h a ha
    unfold In at this
    simp; omega)
  simpa using h2
theorem RInv.len_le (h : RInv n k lv o last s) : s.2.length ≤ n := nodup_in_len h.nd fun p hp => ((h.top p).1 hp).1
theorem spreadP_ok {d : List (List Int)} (hin : ∀ q p, p ∈ rowAt d q → In n q → In n p) (hw : ∀ b, Sat n k b → ∀ q, In n q → ∀ p ∈ rowAt d q, G b q ≤ G b p) : ∀ (g i : Nat) {s : List Int × List Int}, RInv n k lv o last s →
    (∀ j q, j < i → s.2[j]? = some q → ∀ p ∈ rowAt d q, G s.1 p ≠ lv) → n < g + i →
    RInv n k lv o last (spreadP lv d g i s) ∧ (∀ q ∈ (spreadP lv d g i s).2, ∀ p ∈ rowAt d q, G (spreadP lv d g i s).1 p ≠ lv) ∧ (∀ q, In n q → G s.1 q ≠ lv → G (spreadP lv d g i s).1 q ≠ lv)
  | 0, i, s, h, hd, hg => by
    refine ⟨h, fun q hq p hp => ?_, fun _ _ h => h⟩
    obtain ⟨j, hj, e⟩ := List.getElem_of_mem (show q ∈ s.2 from hq)
    have := h.len_le
    exact hd j q (by omega) (by rw [List.getElem?_eq_getElem hj, e]) p hp
  | g + 1, i, s, h, hd, hg => by
    show RInv n k lv o last (match s.2[i]? with | none => s | some p => spreadP lv d g (i + 1) (upP lv s (rowAt d p))) ∧ _
    cases e : s.2[i]? with
    | none =>
      have he : spreadP lv d (g + 1) i s = s := by unfold spreadP; rw [e]
      rw [he]
      refine ⟨h, fun q hq p hp => ?_, fun _ _ h => h⟩
      obtain ⟨j, hj, e2⟩ := List.getElem_of_mem hq
      have := List.getElem?_eq_none_iff.1 e
      exact hd j q (by omega) (by rw [List.getElem?_eq_getElem hj, e2]) p hp
    | some q =>
      have he : spreadP lv d (g + 1) i s = spreadP lv d g (i + 1) (upP lv s (rowAt d q)) := by rw [spreadP, e]
      rw [he]
      have hq : q ∈ s.2 := List.mem_of_getElem? e
      have hqi := ((h.top q).1 hq).1
      obtain ⟨j1, j2, j3, r, j4⟩ := upP_ok (rowAt d q) h (fun p hp => hin q p hp hqi) (fun b hb p hp => by
        obtain ⟨q', hq', h1⟩ := h.why b hb q hq
        have := hw b hb q hqi p hp
        exact ⟨q', hq', by omega⟩)
      obtain ⟨i1, i2, i3⟩ := spreadP_ok hin hw g (i + 1) j1 (fun j q' hj hq' p hp => by
        have hl := (List.getElem?_eq_some_iff.1 e).1
        rw [j4, List.getElem?_append_left (by omega)] at hq'
        by_cases ej : j = i
        · subst ej; rw [e] at hq'; injection hq' with hq'; subst hq'; exact j2 p hp
        · have hq2 : q' ∈ s.2 := List.mem_of_getElem? hq'
          exact j3 p (hin q' p hp ((h.top q').1 hq2).1) (hd j q' (by omega) hq' p hp)) (by omega)
      exact ⟨i1, i2, fun q' hq' hd => i3 q' hq' (j3 q' hq' hd)⟩
end

/-- between two rounds -/
structure LInv (n : Nat) (k : List Lk) (lv : Int) (o top : List Int) : Prop where
  len : o.length = n
  lv0 : 0 ≤ lv
  rng : ∀ p, In n p → 0 ≤ G o p ∧ G o p ≤ lv
  tops : ∀ p, p ∈ top ↔ In n p ∧ G o p = lv
  nd : top.Nodup
  part : ∀ x ∈ k, min lv (G o x.t + negI x.neg) ≤ G o x.f
  low : ∀ b, Sat n k b → ∀ p, In n p → G o p ≤ G b p
  size : lv + top.length ≤ n
section
variable {n : Nat} {k : List Lk} {lv : Int} {o top : List Int}
theorem G_rep {n : Nat} {p : Int} : G (List.replicate n 0) p = 0 := by
  unfold G
  rw [List.getD_eq_getElem?_getD, List.getElem?_replicate]
  split <;> rfl
theorem LInv.start : LInv n k 0 (List.replicate n 0) ((List.range n).map fun (i : Nat) => (i : Int)) where
  len := by simp
  lv0 := Int.le_refl _
  rng p _ := by rw [G_rep]; omega
  tops p := by
    rw [G_rep]
    simp only [List.mem_map, List.mem_range, In]
    constructor
    · rintro ⟨a, h, rfl⟩; exact ⟨⟨by omega, by omega⟩, trivial⟩
    · rintro ⟨⟨h1, h2⟩, _⟩; exact ⟨p.toNat, by omega, by omega⟩
  nd := by
    rw [List.Nodup, List.pairwise_map]
    exact (List.nodup_range (n := n)).imp fun h e => h (by omega)
  part x _ := by rw [G_rep, G_rep]; omega
  low b hb p hp := by rw [G_rep]; exact hb.pos p hp
  size := by simp
theorem round_ok (hk : LkIn n k) (h : LInv n k lv o top) : RInv n k lv o top (roundP n (whoL n false k) (whoL n true k) lv o top) ∧
    (∀ x ∈ k, (x.neg = true → x.t ∈ top → G (roundP n (whoL n false k) (whoL n true k) lv o top).1 x.f ≠ lv) ∧
      (x.neg = false → x.t ∈ (roundP n (whoL n false k) (whoL n true k) lv o top).2 → G (roundP n (whoL n false k) (whoL n true k) lv o top).1 x.f ≠ lv)) := by
  have hinw : ∀ neg q p, p ∈ rowAt (whoL n neg k) q → In n q → In n p := fun neg q p hp hq => by
    obtain ⟨x, hx, rfl, _⟩ := (who_mem hq).1 hp
    obtain ⟨h1, h2, _⟩ := hk x hx
    exact ⟨h1, h2⟩
  obtain ⟨i1, i2, i3⟩ := denyP_ok (d := whoL n true k) top (RInv.start (k := k) (lv := lv) (last := top) h.len) (fun q hq p hp => hinw true q p hp ((h.tops q).1 hq).1) (fun b hb q hq p hp => by
    obtain ⟨x, hx, rfl, rfl, hn⟩ := (who_mem ((h.tops q).1 hq).1).1 hp
    refine ⟨x.t, hq, ?_⟩
    have := hb.lk x hx
    rw [hn] at this
    simpa [negI] using this)
  obtain ⟨j1, j2, j3⟩ := spreadP_ok (d := whoL n false k) (hinw false) (fun b hb q hq p hp => by
    obtain ⟨x, hx, rfl, rfl, hn⟩ := (who_mem hq).1 hp
    have := hb.lk x hx
    rw [hn] at this
    simpa [negI] using this) (n + 1) 0 i1 (fun j q hj => by omega) (by omega)
  refine ⟨j1, fun x hx => ⟨fun hn ht => ?_, fun hn ht => ?_⟩⟩
  · obtain ⟨h1, h2, h3, h4⟩ := hk x hx
    exact j3 x.f ⟨h1, h2⟩ (i2 x.t ht x.f ((who_mem ⟨h3, h4⟩).2 ⟨x, hx, rfl, rfl, hn⟩))
  · obtain ⟨h1, h2, h3, h4⟩ := hk x hx
    exact j2 x.t ht x.f ((who_mem ⟨h3, h4⟩).2 ⟨x, hx, rfl, rfl, hn⟩)
/-- what a round comes to -/
theorem round_next (hk : LkIn n k) (h : LInv n k lv o top) : (roundP n (whoL n false k) (whoL n true k) lv o top).2.length ≤ top.length ∧
    ((roundP n (whoL n false k) (whoL n true k) lv o top).2.length < top.length → LInv n k (lv + 1) (roundP n (whoL n false k) (whoL n true k) lv o top).1 (roundP n (whoL n false k) (whoL n true k) lv o top).2) ∧
    ((roundP n (whoL n false k) (whoL n true k) lv o top).2.length = top.length → top ≠ [] → ∀ b, ¬ Sat n k b) := by
  obtain ⟨hr, hd⟩ := round_ok hk h
  generalize roundP n (whoL n false k) (whoL n true k) lv o top = s at hr hd
  have hsub : ∀ p ∈ s.2, p ∈ top := fun p hp => by
    obtain ⟨h1, h2, _⟩ := (hr.top p).1 hp
    exact (h.tops p).2 ⟨h1, h2⟩
  refine ⟨sub_len hr.nd hsub, fun hlt => ?_, fun he hne b hb => ?_⟩
  · have htop : ∀ p, p ∈ s.2 ↔ In n p ∧ G s.1 p = lv + 1 := fun p => by
      rw [hr.top p]
      constructor
      · rintro ⟨h1, _, h3⟩; exact ⟨h1, h3⟩
      · rintro ⟨h1, h3⟩
        refine ⟨h1, ?_, h3⟩
        rcases hr.same p h1 with h4 | h4
        · have := h.rng p h1; omega
        · exact h4.1
    refine ⟨hr.len, by have := h.lv0; omega, fun p hp => ?_, htop, hr.nd, fun x hx => ?_, fun b hb p hp => ?_, by have := h.size; omega⟩
    · have := h.rng p hp; have := h.lv0
      rcases hr.same p hp with h1 | ⟨h1, h2⟩ <;> omega
    · obtain ⟨h1, h2, h3, h4⟩ := hk x hx
      have hp := h.part x hx
      have hf := hr.same x.f ⟨h1, h2⟩
      have ht := hr.same x.t ⟨h3, h4⟩
      have hrt := h.rng x.t ⟨h3, h4⟩
      have hrf := h.rng x.f ⟨h1, h2⟩
      obtain ⟨d1, d2⟩ := hd x hx
      cases hN : x.neg with
      | true =>
        rw [hN] at hp
        simp only [negI, if_true] at hp ⊢
        by_cases hl : G o x.t = lv
        · have := d1 hN ((h.tops x.t).2 ⟨⟨h3, h4⟩, hl⟩)
          omega
        · omega
      | false =>
        rw [hN] at hp
        simp only [negI] at hp ⊢
        by_cases hl : G s.1 x.t = lv + 1
        · have := d2 hN ((htop x.t).2 ⟨⟨h3, h4⟩, hl⟩)
          simp at hp ⊢
          omega
        · simp at hp ⊢
          omega
    · rcases hr.same p hp with h1 | ⟨h1, h2⟩
      · rw [h1]; exact h.low b hb p hp
      · obtain ⟨q, hq, h3⟩ := hr.why b hb p ((hr.top p).2 ⟨hp, h1, h2⟩)
        obtain ⟨h4, h5⟩ := (h.tops q).1 hq
        have := h.low b hb q h4
        omega
  · have hall := sub_eq_len hr.nd hsub he
    -- a least one among those at the top
    have hmin : ∀ (m : Nat) (p : Int), p ∈ top → (G b p).toNat < m → False := by
      intro m
      induction m with
      | zero => intro p _ h; omega
      | succ m ih =>
        intro p hp hm
        obtain ⟨q, hq, h1⟩ := hr.why b hb p (hall p hp)
        have h2 := hb.pos q ((h.tops q).1 hq).1
        exact ih q hq (by omega)
    obtain ⟨p, hp⟩ := List.exists_mem_of_ne_nil _ hne
    exact hmin _ p hp (Nat.lt_succ_self _)
theorem levP_ok (hk : LkIn n k) : ∀ (g : Nat) {lv : Int} {o top : List Int}, LInv n k lv o top → top.length < g →
    match levP n (whoL n false k) (whoL n true k) g lv o top with
    | none => ∀ b, ¬ Sat n k b
    | some a => Least n k a
  | 0, _, _, _, _, hg => by omega
  | g + 1, lv, o, top, h, hg => by
    unfold levP
    by_cases h0 : top = []
    · rw [if_pos h0]
      refine ⟨⟨h.len, fun p hp => (h.rng p hp).1, fun x hx => ?_⟩, h.low, fun p hp => ?_⟩
      · obtain ⟨h1, h2, h3, h4⟩ := hk x hx
        have hp := h.part x hx
        have hf : G o x.f ≠ lv := fun e => by have := (h.tops x.f).2 ⟨⟨h1, h2⟩, e⟩; rw [h0] at this; cases this
        have := h.rng x.f ⟨h1, h2⟩
        omega
      · have := h.rng p hp
        have hs := h.size
        omega
    · rw [if_neg h0]
      obtain ⟨n1, n2, n3⟩ := round_next hk h
      split
      next e =>
        split at e
        next e2 => exact n3 e2 h0
        next e2 =>
          have := levP_ok hk g (n2 (by omega)) (by omega)
          rw [e] at this
          exact this
      next a e =>
        split at e
        next e2 => cases e
        next e2 =>
          have := levP_ok hk g (n2 (by omega)) (by omega)
          rw [e] at this
          exact this
end
theorem levelsP_ok {n : Nat} {k : List Lk} (hk : LkIn n k) : match levelsP n k with
    | none => ∀ b, ¬ Sat n k b
    | some a => Least n k a := levP_ok hk (n + 1) LInv.start (by simp)
end Go.Proofs.Ytkgebkinlpmpnaa
