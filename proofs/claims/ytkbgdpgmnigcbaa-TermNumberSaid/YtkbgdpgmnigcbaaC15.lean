import Derived.Test.YtkbgdpgmnigcbaaC14
namespace Go.Proofs.Ytkbgdpgmnigcbaa
open Go.RowKit

theorem varsGo_nodup (xs : List Cel) : ∀ acc : List Int, acc.Nodup → (varsGo acc xs).Nodup := by
  induction xs with
  | nil => intro acc h; exact h
  | cons c l ih =>
    intro acc h
    refine ih _ ?_
    split
    · rename_i hc
      rw [List.nodup_append]
      refine ⟨h, by simp, ?_⟩
      intro a ha b hb
      simp at hb
      subst hb
      intro e; subst e
      exact hc.2 ha
    · exact h
theorem varsGo_sub (xs : List Cel) : ∀ (acc : List Int) (n : Int), n ∈ acc → n ∈ varsGo acc xs := by
  induction xs with
  | nil => intro acc n h; exact h
  | cons c l ih =>
    intro acc n h
    refine ih _ _ ?_
    split
    · exact List.mem_append_left _ h
    · exact h
theorem mem_varsGo (xs : List Cel) : ∀ (acc : List Int), ∀ c ∈ xs, c.k = 1 → c.n ∈ varsGo acc xs := by
  induction xs with
  | nil => intro acc c h; simp at h
  | cons d l ih =>
    intro acc c h hc
    rcases List.mem_cons.1 h with rfl | h
    · simp only [varsGo]
      refine varsGo_sub _ _ _ ?_
      split
      · simp
      · rename_i h1
        by_cases h2 : c.n ∈ acc
        · exact h2
        · exact absurd ⟨hc, h2⟩ h1
    · exact ih _ c h hc
/-- one variable numbered -/
def numC (vs : List Int) (c : Cel) : Cel := if c.k = 1 then ⟨c.k, c.s, placeI vs c.n⟩ else c
def numL (xs : List Cel) : List Cel := xs.map (numC (varsL xs))
theorem placeI_range (vs : List Int) (n : Int) (h : vs.length ≤ 1000000) : -1 ≤ placeI vs n ∧ placeI vs n ≤ 1000000 := by
  unfold placeI
  split
  · have := List.idxOf_le_length (a := n) (l := vs); omega
  · omega
theorem numC_fit {vs : List Int} {c : Cel} (hv : vs.length ≤ 1000000) (h : c.fit) : (numC vs c).fit := by
  unfold numC
  have := placeI_range vs c.n hv
  split
  · exact ⟨h.k1, h.k2, by show -9223372036854775808 ≤ placeI vs c.n; omega, by show placeI vs c.n ≤ 9223372036854775807; omega, h.s⟩
  · exact h
/-- what a map of the first k places says -/
def placeF (vs : List Int) (k : Nat) : Int → Int := fun i => if i ∈ vs.take k then (vs.idxOf i : Int) else 0
theorem placeF_succ {vs : List Int} (hn : vs.Nodup) {k : Nat} (hk : k < vs.length) : (fun j => if j = vs[k] then ((k : Nat) : Int) else placeF vs k j) = placeF vs (k + 1) := by
  funext j
  have hiff : j ∈ vs.take (k + 1) ↔ j ∈ vs.take k ∨ j = vs[k] := by
    rw [List.take_succ_eq_append_getElem hk, List.mem_append, List.mem_singleton]
  unfold placeF
  by_cases e : j = vs[k]
  · have h1 : vs.idxOf vs[k] = k := hn.idxOf_getElem k hk
    rw [if_pos e, if_pos (hiff.2 (.inr e)), e, h1]
  · rw [if_neg e]
    by_cases h2 : j ∈ vs.take k
    · rw [if_pos h2, if_pos (hiff.2 (.inl h2))]
    · rw [if_neg h2, if_neg (fun h => (hiff.1 h).elim h2 e)]
theorem placeF_all {vs : List Int} {k : Nat} (hk : vs.length ≤ k) {i : Int} (hi : i ∈ vs) : placeF vs k i = placeI vs i := by
  unfold placeF placeI
  rw [List.take_of_length_le hk, if_pos hi, if_pos hi]
theorem Try.zeroInt (w : World) : (zeroValue 3).run Try.prog w = .ok (.int .i64 0) w := by kernel_rfl

theorem map_hide {w : World} {P : Program} {k e : TypeId} {b n : Nat} {f : Int → Int} (h : MapII P k e w b n f) : Keeps w (hide (some b) w) := by
  obtain ⟨D, ⟨es, clock, hb, _⟩, _⟩ := h
  intro b' o v hc
  refine hide_of_ne (fun e => ?_) hc
  subst e
  simp [World.cell?, hb] at hc

theorem own_mono {w : World} {B B' e size : Nat} {v : Value} {n : Nat} {vs : List Value} (h : w.ownsRow B e size v n vs) (hB : B' ≤ B) : w.ownsRow B' e size v n vs := by
  refine ⟨h.1, ?_⟩
  rcases h.2 with h | ⟨g, cap, cur, e, hb, rest⟩
  · exact .inl h
  · exact .inr ⟨g, cap, cur, e, Nat.le_trans hB hb, rest⟩

set_option maxHeartbeats 1600000 in
theorem number_any (a : Option Addr) (cap : Nat) (w : World) (xs : List Cel) (hr : Row w a cap xs) (hl : xs.length ≤ 1000000) (h0 : 0 < xs.length) :
    Calls Try.prog 30 #[.slice a xs.length cap] w fun e w' => ∃ a' cap', e = .returned (.slice a' (numL xs).length cap') ∧ Row w' a' cap' (numL xs) ∧ Below w.heap.size w w' := by
  have hm := hr.max
  have hle := hr.le
  have hfit := mkHid hr.fit
  have hmm := @run_makeMap Try.prog
  have hm0 := MapII.made Try.prog 3 3 w
  have hb0 := (Below.refl w.heap.size w).new (.map #[] 0)
  have hvl := varsGo_length xs []
  rw [show varsGo [] xs = varsL xs from rfl, List.length_nil, Nat.zero_add] at hvl
  have HND : Hid ((varsL xs).Nodup) := varsGo_nodup xs [] List.nodup_nil
  have hvf := mkHid (varsGo_fit xs hr.fit [] (by simp))
  rw [show varsGo [] xs = varsL xs from rfl] at hvf
  go_enter Try.func30, Try.ntmps30
  go_wp2_with (go_at_call 21; refine (vars_any a cap _ xs (hr.below hb0) hl).mono ?_; rintro e w1 ⟨av, capv, rfl, hrv, hb1⟩; have hm1 := hm0.below hb1; have hb01 := hb0.then hb1)
  go_loopw [13] (fun i wr => ∃ k : Nat, k ≤ (varsL xs).length ∧ i = .int .i64 k ∧ MapII Try.prog 3 3 wr w.heap.size k (placeF (varsL xs) k) ∧ Below w.heap.size w wr ∧ w1.grownBy wr (some w.heap.size)) (fun i wr => (varsL xs).length - (intOf i).toNat)
  case atStart => exact ⟨0, Nat.zero_le _, rfl, hm1, hb01, ⟨rfl, rfl, rfl, Nat.le_refl _, fun _ _ _ => rfl⟩⟩
  case round =>
    obtain ⟨k, hk, rfl, hmap, hbl, hg1⟩ := hrel
    by_cases hlt : k < (varsL xs).length
    · have hgk : Keeps w1 wr := (map_hide hm1).trans ((grown_keeps hg1).trans (hide_keeps _ _))
      obtain ⟨b, off, rfl, hb, hat⟩ := (hrv.keeps hgk).cases.resolve_left (fun e => by simp [e] at hlt)
      obtain ⟨d0, n1, n2⟩ := int_at hat (Below.refl _ _) hlt
      have HF := mkHid (placeF_succ HND.out hlt)
      go_wp2_with (at_mapUpdate; refine hmap.wpl_update rfl _ _ _ rfl Try.underlying3 Try.underlying53 Try.underlying3 rfl (by omega) (varsL xs)[k] rfl (wf64 n1 n2) k rfl (wf64 (by omega) (by omega)) ?_; intro w2 hmap2 hg2)
      go_round
      case rel => exact ⟨k + 1, by omega, by go_num, by rw [← HF.out]; exact hmap2, hbl.trans (grown_at hg2 hbl.size (Nat.le_refl _)), grown_trans hg1 hg2⟩
      case measure => simp [intOf]; omega
    · obtain rfl : k = (varsL xs).length := by omega
      have HF : Hid (∀ c ∈ xs, c.k = 1 → placeF (varsL xs) (varsL xs).length c.n = placeI (varsL xs) c.n) := fun c hc h1 => placeF_all (Nat.le_refl _) (mem_varsGo xs [] c hc h1)
      generalize placeF (varsL xs) (varsL xs).length = f at hmap HF
      clear hm1
      go_wp2_with (go_at_call 42; refine (clone_any a cap _ xs (hr.below hbl) hl).mono ?_; rintro e w2 ⟨v, rfl, hown, hb2⟩; have hmap2 := hmap.below hb2; have hbl2 := hbl.then hb2; have hmlt := hmap.lt)
      obtain ⟨g, cp, rfl, hg1, hg2, hg3, hg4⟩ := own_form hown h0
      go_loopw [26] (fun i wr => ∃ k : Nat, k ≤ xs.length ∧ i = .int .i64 k ∧ wr.ownsRow (w.heap.size + 1) 40 3 (.slice (some ⟨g, 0, none⟩) xs.length cp) xs.length (flat (upTo (numC (varsL xs)) xs k)) ∧ Below w.heap.size w wr ∧ MapII Try.prog 3 3 wr w.heap.size (varsL xs).length f) (fun i wr => xs.length - (intOf i).toNat)
      case atStart => exact ⟨0, Nat.zero_le _, rfl, by rw [upTo_zero]; exact own_mono hown (by omega), hbl2, hmap2⟩
      case round =>
        clear hown hmap2 hmap
        obtain ⟨k, hk, rfl, hown, hbl, hmap⟩ := hrel
        have hgl := (hown.lt g rfl).2
        have hgb := (hown.lt g rfl).1
        by_cases hlt : k < xs.length
        · obtain ⟨b, off, rfl, hb, hat⟩ := hr.cases.resolve_left (fun e => by simp [e] at hlt)
          obtain ⟨c0, c1, c2, hf⟩ := cel_at hat hbl hlt
          obtain ⟨_, _, o2⟩ := own_cel hown (upTo_at _ _ hlt)
          have hfz := own_free hown (k * 3 + 2)
          by_cases h1 : xs[k].k = 1
          · have t1 : (xs[k].k == 1) = true := by simp [h1]
            have hp := HF.out _ (List.getElem_mem hlt) h1
            have hlk : ∀ o, (Instr.lookup 53 (.map (some w.heap.size)) (.int .i64 xs[k].n) false).run Try.prog (wr.alloc o) = .ok (.int .i64 (placeI (varsL xs) xs[k].n)) (wr.alloc o) := fun o => by
              rw [← hp]
              exact (hmap.alloc o).run_lookup Try.underlying3 Try.underlying53 Try.underlying3 (Try.zeroInt _) (wf64 hf.n1 hf.n2)
            have hs := own_store hown hlt (show numC (varsL xs) xs[k] = ⟨xs[k].k, xs[k].s, placeI (varsL xs) xs[k].n⟩ from if_pos h1)
            have HS := mkHid (hs.alloc (.cells #[.int .i64 xs[k].k, .string xs[k].s, .int .i64 xs[k].n] 40))
            have HB := mkHid ((hbl.setCell (p := ⟨g, k * 3 + 2, none⟩) (by show w.heap.size ≤ g; omega) (.int .i64 (placeI (varsL xs) xs[k].n))).new (.cells #[.int .i64 xs[k].k, .string xs[k].s, .int .i64 xs[k].n] 40))
            have HM := mkHid ((hmap.kept (grown_set wr g (k * 3 + 2) (.int .i64 (placeI (varsL xs) xs[k].n))) (by simp; omega)).alloc (.cells #[.int .i64 xs[k].k, .string xs[k].s, .int .i64 xs[k].n] 40))
            clear h1 hs hp
            go_wp2
            go_round
            case rel => exact ⟨k + 1, by omega, by go_num, HS.out, HB.out, HM.out⟩
            case measure => simp [intOf]; omega
          · have t1 : (xs[k].k == 1) = false := by simp [h1]
            have HE := mkHid (upTo_same (numC (varsL xs)) xs hlt (if_neg h1))
            clear h1
            go_wp2
            go_round
            case rel => exact ⟨k + 1, by omega, by go_num, by rw [HE.out]; exact hown.alloc _, hbl.new _, hmap.alloc _⟩
            case measure => simp [intOf]; omega
        · have hu := upTo_all (numC (varsL xs)) xs (k := k) (by omega)
          rw [hu] at hown
          have hml : (xs.map (numC (varsL xs))).length = xs.length := by simp
          have hfm : ∀ c ∈ xs.map (numC (varsL xs)), c.fit := fun c hc => by
            obtain ⟨c', hc', rfl⟩ := List.mem_map.1 hc
            exact numC_fit (by omega) (hfit.out c' hc')
          obtain ⟨a2, cap2, ev, hrow⟩ := own_row (xs := xs.map (numC (varsL xs))) (by rw [hml]; exact hown) hfm
          rw [hml] at ev
          injection ev with ev1 _ ev2
          subst ev1
          subst ev2
          have HM := mkHid (show (numL xs).length = xs.length from hml)
          clear hu hml
          go_wp2
          go_ret
          exact ⟨some ⟨g, 0, none⟩, cp, by rw [HM.out]; rfl, hrow, hbl⟩
end Go.Proofs.Ytkbgdpgmnigcbaa
