import Derived.Test.YtfcebbfphjbkoaaZd1
import Derived.OneCell
import Derived.Deep.RegionHeld3
namespace Go.Proofs.Ytfcebbfphjbkoaa
open Go.RowKit

theorem Try.infoSl : (Try.prog.info? 22).map (fun i => (i.zero, i.size, i.bytes)) = some (some (.slice none 0 0), 1, 24) := by kernel_rfl
theorem passI_at {xs : List Cel} {j : Nat} (h : rightB xs = true) (hj : j < ar0 xs) : passI xs (aN xs j) = aN xs (j + 1) := by
  unfold passI; rw [if_pos (by omega), Int.toNat_natCast, (right_next h hj).2]
theorem take_drop_len {xs : List Cel} {j : Nat} (h : rightB xs = true) (hj : j < ar0 xs) : aN xs (j + 1) - aN xs j = (partJ xs j).length := (partJ_length h hj).symm

set_option maxHeartbeats 1600000 in
theorem parts_any (a : Option Addr) (cap : Nat) (w : World) (xs : List Cel) (hr : Row w a cap xs) (hR : rightB xs = true) :
    Calls Try.prog 39 #[.slice a xs.length cap] w fun e w' => ∃ a' cap', e = .returned (.slice a' (partsL xs).length cap') ∧ Row w' a' cap' (partsL xs) ∧ Below w.heap.size w w' := by
  have hm := hr.max
  have hle := hr.le
  have h6 := ar_le6 hR
  obtain ⟨c, l, e0, hc, _, h200⟩ := right_sk hR
  have h0 : 0 < xs.length := by rw [e0]; simp
  have hc0 : xs[0] = c := by simp [e0]
  have har : ar0 xs = ar xs[0] := by rw [hc0, e0]; rfl
  have HA : Hid (arI xs[0] = ar0 xs) := by rw [Hid, har, hc0]; exact arI_ar hc
  have HR := mkHid hR
  clear hR e0 hc hc0 har
  obtain ⟨b, off, rfl, hb, hat⟩ := hr.cases.resolve_left (fun e => by simp [e] at h0)
  go_enter Try.func39, Try.ntmps39
  go_wp2_with (first
    | (go_at_call 15; refine (right_any _ cap _ xs hr).mono ?_; rintro e w1 ⟨rfl, hb1⟩; rw [HR.out]; obtain ⟨c0, c1, c2, hf⟩ := cel_at hat hb1 h0; simp only [Nat.zero_mul, Nat.add_zero] at c0 c1 c2)
    | (go_at_call 64; refine (arguments_any xs[0] _).mono ?_; rintro e w2 ⟨rfl, hb2⟩; rw [HA.out]))
  have hb12 := hb1.then hb2
  clear c0 c1 c2
  go_loopw [3, 4, 13] (fun v i j wr => ∃ (k : Nat) (vs : List Value), k ≤ ar0 xs ∧ j = .int .i64 k ∧ i = .int .i64 (aN xs k) ∧ wr.ownsRow w.heap.size 22 1 v k vs ∧ Below w.heap.size w wr ∧ Hid (SlRows (hide v.ownBlock wr) vs ((List.range k).map (partJ xs)))) (fun v i j wr => ar0 xs - (intOf j).toNat)
  case atStart => exact ⟨0, [], Nat.zero_le _, rfl, by unfold aN; rw [afterI_zero (by omega)]; rfl, World.ownsRow_nil _ _ _ _, hb12, SlRows.nil _⟩
  case round =>
    obtain ⟨k, vs, hk, rfl, rfl, hown, hbl, HS⟩ := hrel
    by_cases hlt : k < ar0 xs
    · have hra := (right_after HR.out hk).2
      have hrb := (right_after HR.out (show k + 1 ≤ ar0 xs from hlt)).2
      have hrn := (right_next HR.out hlt).1
      have HP := mkHid (passI_at HR.out hlt)
      obtain ⟨q1, q2, _⟩ := hra
      obtain ⟨q3, q4, _⟩ := hrb
      have hr1 := hr.below hbl
      go_wp2_with (go_at_call 48; refine (behind_any _ cap (aN xs k) _ xs hr1 (by omega) (by omega) (by omega)).mono ?_; rintro e w3 ⟨rfl, hb3⟩; rw [HP.out])
      have hrow3 := (hr1.below hb3).slice (i := aN xs k) (j := aN xs (k + 1)) (by omega) q4
      have hfit : ∀ c ∈ partJ xs k, c.fit := hrow3.fit
      refine (clone_any' _ _ _ _ (partJ xs k) (take_drop_len HR.out hlt) hrow3 (by have := partJ_length HR.out hlt; omega)).mono ?_
      rintro e w4 ⟨v1, rfl, hown4, hb4⟩
      have hown1 := own_below (own_below hown hb3) hb4
      have hlt4 := hown4.lt
      obtain ⟨a1, cap1, rfl, hrow4⟩ := own_row (own_hide (r := u3.ownBlock) hown4 (fun g hg => (own_below hown hb3).lt g hg |>.2)) hfit
      have hbl4 := (hbl.then hb3).then hb4
      have HS4 := mkHid (((HS.out.keeps (below_hide hb3 _)).keeps (below_hide hb4 _)).snoc hrow4)
      go_wp2_with (at_builtin; refine wpList_app2 rfl _ _ 49 rfl w.heap.size 22 1 24 _ Try.underlying49 Try.infoSl rfl (by decide) (by decide) _ k _ rfl (hown1.alloc _) ⟨_, 0, none⟩ 1 1 [.slice a1 (partJ xs k).length cap1] rfl (src_new _ #[.slice a1 (partJ xs k).length cap1] _ 1 rfl (by simp [Value.oneCell'])) (by omega) (Nat.le_trans hbl4.size (by simp)) ?_; intro v' w5 hown5 _ hb5 hk5)
      go_round
      case rel => exact ⟨k + 1, vs ++ [.slice a1 (partJ xs k).length cap1], by omega, by go_num, rfl, hown5, (hbl4.new _).trans hb5, by rw [parts_succ]; exact (HS4.out.keeps (alloc_hide _ _ _)).keeps hk5⟩
      case measure => simp [intOf]; omega
    · obtain rfl : k = ar0 xs := by omega
      have hS := HS.out.keeps (hide_keeps _ _)
      have hl : (partsL xs).length = ar0 xs := by simp [partsL]
      obtain ⟨a', cap', rfl, hrow'⟩ := own_rowL (e := 22) (B := w.heap.size) (v := u3) (ps := partsL xs) (by rw [hl]; exact hown) hS
      have HL := mkHid hl
      clear hl
      go_wp2
      go_ret
      exact ⟨a', cap', rfl, hrow', hbl⟩
end Go.Proofs.Ytfcebbfphjbkoaa
namespace Go.Proofs.Ytfcebbfphjbkoaa
open Go.RowKit

set_option maxHeartbeats 1600000 in
theorem refparts_any (a : Option Addr) (cap : Nat) (w : World) (xs : List Cel) (hr : Row w a cap xs) (hR : rightB xs = true) :
    Calls Try.prog 34 #[.slice a xs.length cap] w fun e w' => ∃ a' cap', e = .returned (.slice a' (partsL xs).length cap') ∧ Row w' a' cap' (partsL xs) ∧ Below w.heap.size w w' := by
  have hm := hr.max
  have hle := hr.le
  have h6 := ar_le6 hR
  obtain ⟨c, l, e0, hc, _, h200⟩ := right_sk hR
  have h0 : 0 < xs.length := by rw [e0]; simp
  have hc0 : xs[0] = c := by simp [e0]
  have har : ar0 xs = ar xs[0] := by rw [hc0, e0]; rfl
  have hm0 := World.ownsRow_made (base := w.heap.size) (e := 22) (size := 1) w #[] 0 (Nat.le_refl _) (by unfold maxLen; omega) rfl
  have hb0 := (Below.refl w.heap.size w).new (.cells #[] 22)
  have hl0 : ((xs.length : Int) == 0) = false := by simp; intro e; simp [e] at h0
  obtain ⟨b, off, rfl, hb, hat⟩ := hr.cases.resolve_left (fun e => by simp [e] at h0)
  obtain ⟨c0, c1, c2, hf⟩ := cel_at hat (Below.refl _ _) h0
  simp only [Nat.zero_mul, Nat.add_zero] at c0 c1 c2
  by_cases h3 : xs[0].k = 3
  · have t3 : (xs[0].k != 3) = false := by simp [h3]
    have hn : xs[0].n = ar0 xs := by
      have := arI_ar hc; rw [← hc0] at this; rw [har, ← this]; unfold arI; rw [if_pos h3]
    have HN := mkHid hn
    have HR := mkHid hR
    clear hR e0 hc hc0 har h3 hn
    go_enter Try.func34, Try.ntmps34
    go_wp2_with fail
    go_loopw [3, 4, 5] (fun v i j wr => ∃ (k : Nat) (vs : List Value), k ≤ ar0 xs ∧ j = .int .i64 k ∧ i = .int .i64 (aN xs k) ∧ wr.ownsRow w.heap.size 22 1 v k vs ∧ Below w.heap.size w wr ∧ Hid (SlRows w vs ((List.range k).map (partJ xs)))) (fun v i j wr => ar0 xs - (intOf j).toNat)
    case atStart => exact ⟨0, [], Nat.zero_le _, rfl, by unfold aN; rw [afterI_zero (by omega)]; rfl, hm0, hb0, SlRows.nil _⟩
    case round =>
      obtain ⟨k, vs, hk, rfl, rfl, hown, hbl, HS⟩ := hrel
      have d2 : wr.cell? ⟨b, off + 2, none⟩ = some (.int .i64 (ar0 xs)) := by rw [← HN.out]; exact keep c2 hbl
      clear c0 c1 c2
      by_cases hlt : k < ar0 xs
      · have hra := (right_after HR.out hk).2
        have hrb := (right_after HR.out (show k + 1 ≤ ar0 xs from hlt)).2
        have hrn := (right_next HR.out hlt).1
        have HP := mkHid (right_next HR.out hlt).2
        obtain ⟨q1, q2, _⟩ := hra
        obtain ⟨q3, q4, _⟩ := hrb
        have hr1 := hr.below hbl
        have hrow3 := hr.slice (i := aN xs k) (j := aN xs (k + 1)) (by omega) q4
        have HS4 := mkHid (HS.out.snoc hrow3)
        have HL := mkHid (take_drop_len HR.out hlt)
        go_wp2_with (first
          | (go_at_call 63; refine (refend_any _ cap (aN xs k) _ xs hr1 (by omega) (by omega)).mono ?_; rintro e w3 ⟨rfl, hb3⟩; rw [HP.out]; have hown3 := own_below hown hb3; have hbl3 := hbl.then hb3)
          | (at_builtin; refine wpList_app rfl _ _ 49 rfl w.heap.size 22 1 24 _ Try.underlying49 Try.infoSl rfl (by decide) (by decide) _ k _ rfl (hown3.alloc _) (some ⟨_, 0, none⟩) 1 1 [.slice (some ⟨b, off + aN xs k * 3, none⟩) (aN xs (k + 1) - aN xs k) (cap - aN xs k)] rfl (src_new _ #[.slice (some ⟨b, off + aN xs k * 3, none⟩) (aN xs (k + 1) - aN xs k) (cap - aN xs k)] _ 1 rfl (by simp [Value.oneCell'])) (by omega) (Nat.le_trans hbl3.size (by simp)) ?_; intro v' w5 hown5 _ hb5))
        go_round
        case rel => exact ⟨k + 1, vs ++ [.slice (some ⟨b, off + aN xs k * 3, none⟩) (aN xs (k + 1) - aN xs k) (cap - aN xs k)], by omega, by go_num, rfl, hown5, (hbl3.new _).trans hb5, by rw [parts_succ, HL.out]; exact HS4.out⟩
        case measure => simp [intOf]; omega
      · obtain rfl : k = ar0 xs := by omega
        have hl : (partsL xs).length = ar0 xs := by simp [partsL]
        obtain ⟨a', cap', rfl, hrow'⟩ := own_rowL (e := 22) (B := w.heap.size) (v := u3) (ps := partsL xs) (by rw [hl]; exact hown) (HS.out.keeps (Keeps.of hbl))
        have HL := mkHid hl
        clear hl
        go_wp2
        go_ret
        exact ⟨a', cap', rfl, hrow', hbl⟩
  · have t3 : (xs[0].k != 3) = true := by simp [h3]
    have hp : partsL xs = [] := by unfold partsL; rw [har]; unfold ar; rw [if_neg h3]; rfl
    have HP := mkHid hp
    clear hR e0 hc hc0 har h3 hp
    go_enter Try.func34, Try.ntmps34
    go_wp2_with fail
    go_ret
    rw [HP.out]
    exact ⟨_, _, rfl, Row.empty _ _ _ (by omega) (by simp), hb0⟩

theorem sameall_ne {xs ys : List (List Cel)} {k : Nat} (hx : k < xs.length) (hy : k < ys.length) (h : ¬ xs[k] = ys[k]) : ¬ xs = ys := by
  intro e; subst e; exact h rfl
end Go.Proofs.Ytfcebbfphjbkoaa
namespace Go.Proofs.Ytfcebbfphjbkoaa
open Go.RowKit

/-- a term as a tree -/
inductive Tm where
  | mk (c : Cel) (args : List Tm)
def Tm.hd : Tm → Cel | .mk c _ => c
def Tm.args : Tm → List Tm | .mk _ ts => ts
mutual
def Tm.flat : Tm → List Cel
  | .mk c ts => c :: flats ts
def flats : List Tm → List Cel
  | [] => []
  | t :: ts => t.flat ++ flats ts
end
mutual
def Tm.ok : Tm → Prop
  | .mk c ts => cellOk c = true ∧ ts.length = ar c ∧ oks ts
def oks : List Tm → Prop
  | [] => True
  | t :: ts => t.ok ∧ oks ts
end
mutual
def Tm.depth : Tm → Nat
  | .mk _ ts => depths ts + 1
def depths : List Tm → Nat
  | [] => 0
  | t :: ts => max t.depth (depths ts)
end
theorem flats_append (a b : List Tm) : flats (a ++ b) = flats a ++ flats b := by
  induction a with
  | nil => simp [flats]
  | cons t a ih => simp [flats, ih]
theorem depths_append (a b : List Tm) : depths (a ++ b) = max (depths a) (depths b) := by
  induction a with
  | nil => simp [depths]
  | cons t a ih => simp [depths, ih, Nat.max_assoc]
theorem oks_append {a b : List Tm} : oks (a ++ b) ↔ oks a ∧ oks b := by
  induction a with
  | nil => simp [oks]
  | cons t a ih => simp [oks, ih, and_assoc]
theorem oks_mem {ts : List Tm} (h : oks ts) : ∀ t ∈ ts, t.ok := by
  induction ts with
  | nil => intro t ht; simp at ht
  | cons t ts ih =>
    intro u hu
    rcases List.mem_cons.1 hu with rfl | hu
    · exact h.1
    · exact ih h.2 u hu
theorem flat_cons (t : Tm) : t.flat = t.hd :: flats t.args := by cases t; rfl
theorem ok_iff (t : Tm) : t.ok ↔ cellOk t.hd = true ∧ t.args.length = ar t.hd ∧ oks t.args := by cases t; rfl
theorem depth_eq (t : Tm) : t.depth = depths t.args + 1 := by cases t; rfl
theorem flat_pos (t : Tm) : 0 < t.flat.length := by rw [flat_cons]; simp

/-- what is skipped is made of terms -/
theorem sk_parse (l : List Cel) : ∀ (m : Nat) (r : List Cel), sk m l = some r → ∃ ts : List Tm, ts.length = m ∧ oks ts ∧ l = flats ts ++ r := by
  induction l with
  | nil =>
    intro m r h
    cases m with
    | zero => simp [sk] at h; subst h; exact ⟨[], rfl, trivial, rfl⟩
    | succ m => simp [sk] at h
  | cons c l ih =>
    intro m r h
    cases m with
    | zero => simp [sk] at h; subst h; exact ⟨[], rfl, trivial, rfl⟩
    | succ m =>
      simp only [sk] at h
      split at h
      · rename_i hc
        obtain ⟨ts, hl, ho, e⟩ := ih _ _ h
        have hsplit : ts = ts.take (ar c) ++ ts.drop (ar c) := (List.take_append_drop _ _).symm
        rw [hsplit] at ho e
        rw [oks_append] at ho
        refine ⟨.mk c (ts.take (ar c)) :: ts.drop (ar c), by simp; omega, ⟨⟨hc, by simp; omega, ho.1⟩, ho.2⟩, ?_⟩
        rw [e, flats_append]
        simp [flats, Tm.flat]
      · cases h
mutual
theorem sk_flat : ∀ (t : Tm), t.ok → ∀ (m : Nat) (r : List Cel), sk (m + 1) (t.flat ++ r) = sk m r
  | .mk c ts, h, m, r => by
    obtain ⟨h1, h2, h3⟩ := h
    simp only [Tm.flat, List.cons_append, sk, h1, if_true]
    rw [← h2, Nat.add_comm, sk_flats ts h3]
theorem sk_flats : ∀ (ts : List Tm), oks ts → ∀ (m : Nat) (r : List Cel), sk (ts.length + m) (flats ts ++ r) = sk m r
  | [], _, m, r => by simp [flats]
  | t :: ts, h, m, r => by
    obtain ⟨h1, h2⟩ := h
    simp only [flats, List.append_assoc, List.length_cons]
    rw [show ts.length + 1 + m = ts.length + m + 1 by omega, sk_flat t h1, sk_flats ts h2]
end
theorem right_flat {t : Tm} (h : t.ok) (hl : t.flat.length ≤ 200) : rightB t.flat = true := by
  have h' := (ok_iff t).1 h
  rw [flat_cons] at hl ⊢
  refine right_of_sk h'.1 ?_ hl
  have := sk_flats t.args h'.2.2 0 []
  rw [List.append_nil, Nat.add_zero, h'.2.1] at this
  rw [this]; rfl
theorem right_tm {xs : List Cel} (h : rightB xs = true) : ∃ t : Tm, t.ok ∧ xs = t.flat ∧ xs.length ≤ 200 := by
  obtain ⟨c, l, rfl, hc, hs, hl⟩ := right_sk h
  obtain ⟨ts, h1, h2, h3⟩ := sk_parse l _ _ hs
  exact ⟨.mk c ts, ⟨hc, h1, h2⟩, by rw [h3]; simp [Tm.flat], hl⟩

/-- where the arguments lie -/
theorem after_flat {t : Tm} (h : t.ok) {j : Nat} (hj : j ≤ t.args.length) : afterI t.flat 1 j = 1 + (flats (t.args.take j)).length := by
  obtain ⟨_, _, h3⟩ := (ok_iff t).1 h
  have hs : t.args = t.args.take j ++ t.args.drop j := (List.take_append_drop _ _).symm
  have ho : oks (t.args.take j) := by rw [hs] at h3; exact (oks_append.1 h3).1
  have e := sk_flats (t.args.take j) ho 0 (flats (t.args.drop j))
  rw [Nat.add_zero, List.length_take, Nat.min_eq_left hj, ← flats_append, ← hs] at e
  unfold afterI
  rw [flat_cons, List.drop_one, List.tail_cons, e]
  simp only [sk, List.length_cons]
  have := congrArg List.length (congrArg flats hs)
  rw [flats_append, List.length_append] at this
  omega
theorem aN_flat {t : Tm} (h : t.ok) {j : Nat} (hj : j ≤ t.args.length) : aN t.flat j = 1 + (flats (t.args.take j)).length := by
  unfold aN; rw [after_flat h hj]; omega
theorem part_flat {t : Tm} (h : t.ok) {j : Nat} (hj : j < t.args.length) : partJ t.flat j = t.args[j].flat := by
  unfold partJ
  rw [aN_flat h (Nat.le_of_lt hj), aN_flat h hj]
  have hs : t.args = t.args.take j ++ (t.args[j] :: t.args.drop (j + 1)) := by
    rw [← List.drop_eq_getElem_cons hj, List.take_append_drop]
  have hf : flats t.args = flats (t.args.take j) ++ (t.args[j].flat ++ flats (t.args.drop (j + 1))) := by
    conv => lhs; rw [hs]
    rw [flats_append]; rfl
  have ht : flats (t.args.take (j + 1)) = flats (t.args.take j) ++ t.args[j].flat := by
    rw [List.take_succ_eq_append_getElem hj, flats_append]; simp [flats]
  rw [ht, flat_cons t, hf, Nat.add_comm 1 (flats (t.args.take j)).length, List.drop_succ_cons, List.drop_left, List.length_append]
  rw [show 1 + ((flats (t.args.take j)).length + t.args[j].flat.length) - ((flats (t.args.take j)).length + 1) = t.args[j].flat.length by omega]
  exact List.take_left
theorem ar0_flat {t : Tm} (h : t.ok) : ar0 t.flat = t.args.length := by
  rw [flat_cons]; exact ((ok_iff t).1 h).2.1.symm
theorem parts_flat {t : Tm} (h : t.ok) : partsL t.flat = t.args.map Tm.flat := by
  unfold partsL
  rw [ar0_flat h]
  refine List.ext_getElem (by simp) (fun j h1 h2 => ?_)
  simp at h1
  simp [part_flat h h1]
theorem flat_arg_lt {t : Tm} {u : Tm} (hu : u ∈ t.args) : u.flat.length < t.flat.length := by
  rw [flat_cons t]
  have : ∀ ts : List Tm, u ∈ ts → u.flat.length ≤ (flats ts).length := by
    intro ts h
    induction ts with
    | nil => simp at h
    | cons v ts ih =>
      simp only [flats, List.length_append]
      rcases List.mem_cons.1 h with e | h
      · rw [e]; omega
      · have := ih h; omega
  have := this _ hu
  simp only [List.length_cons]; omega
mutual
theorem depth_le : ∀ t : Tm, t.depth ≤ t.flat.length
  | .mk c ts => by
    have := depths_le ts
    simp only [Tm.depth, Tm.flat, List.length_cons]; omega
theorem depths_le : ∀ ts : List Tm, depths ts ≤ (flats ts).length
  | [] => by simp [depths]
  | t :: ts => by
    have h1 := depth_le t
    have h2 := depths_le ts
    simp only [depths, flats, List.length_append]; omega
end
theorem depth_pos (t : Tm) : 1 ≤ t.depth := by rw [depth_eq]; omega
end Go.Proofs.Ytfcebbfphjbkoaa
namespace Go.Proofs.Ytfcebbfphjbkoaa
open Go.RowKit

theorem grown_trans {a b c : World} {r : Option Nat} (h : a.grownBy b r) (k : b.grownBy c r) : a.grownBy c r :=
  ⟨k.os.trans h.os, k.tape.trans h.tape, k.output.trans h.output, Nat.le_trans h.size k.size, fun i hi hn => (k.block i (Nat.lt_of_lt_of_le hi h.size) hn).trans (h.block i hi hn)⟩
theorem grown_set (w : World) (g o : Nat) (v : Value) : w.grownBy (w.setCell ⟨g, o, none⟩ v) (some g) :=
  ⟨rfl, rfl, rfl, by simp [World.setCell], fun k _ hn => Below.heap_setCell w ⟨g, o, none⟩ v k (fun e => hn (by rw [e]))⟩
theorem max_nat (a b : Nat) : ((max a b : Nat) : Int) = if (a : Int) < b then (b : Int) else a := by omega

theorem drop_arg {xs r : List Cel} {i : Nat} {t : Tm} (h : xs.drop i = t.flat ++ r) {k : Nat} (hk : k < t.args.length) : xs.drop (i + 1 + (flats (t.args.take k)).length) = t.args[k].flat ++ (flats (t.args.drop (k + 1)) ++ r) := by
  have hs : t.args = t.args.take k ++ (t.args[k] :: t.args.drop (k + 1)) := by
    rw [← List.drop_eq_getElem_cons hk, List.take_append_drop]
  have hf : flats t.args = flats (t.args.take k) ++ (t.args[k].flat ++ flats (t.args.drop (k + 1))) := by
    conv => lhs; rw [hs]
    rw [flats_append]; rfl
  rw [Nat.add_assoc, ← List.drop_drop, h, flat_cons t, hf, Nat.add_comm 1, List.cons_append, List.drop_succ_cons, List.append_assoc, List.drop_left, List.append_assoc]
theorem depths_take (t : Tm) {k : Nat} (hk : k < t.args.length) : depths (t.args.take (k + 1)) = max (depths (t.args.take k)) t.args[k].depth := by
  rw [List.take_succ_eq_append_getElem hk, depths_append]; simp [depths]
theorem flats_take (t : Tm) {k : Nat} (hk : k < t.args.length) : (flats (t.args.take (k + 1))).length = (flats (t.args.take k)).length + t.args[k].flat.length := by
  rw [List.take_succ_eq_append_getElem hk, flats_append]; simp [flats]
theorem depths_small (t : Tm) (k : Nat) (h : t.flat.length ≤ 1000) : depths (t.args.take k) ≤ 1000 := by
  have h1 := depths_le (t.args.take k)
  have hs : t.args = t.args.take k ++ t.args.drop k := (List.take_append_drop _ _).symm
  have := congrArg List.length (congrArg flats hs)
  rw [flats_append, List.length_append] at this
  rw [flat_cons t, List.length_cons] at h
  omega

theorem args_le6 {t : Tm} (h : t.ok) : t.args.length ≤ 6 := by
  have h := (ok_iff t).1 h
  rw [h.2.1]; exact ar_le _ h.1

set_option maxHeartbeats 1600000 in
theorem depthc_any (xs : List Cel) (a : Option Addr) (cap b0 b1 b2 : Nat) (_h01 : ¬ b0 = b1) (_h10 : ¬ b1 = b0) (_h12 : ¬ b1 = b2) (_h21 : ¬ b2 = b1) (hl : xs.length ≤ 200) (n : Nat) : ∀ (t : Tm) (i : Nat) (r : List Cel) (w : World), t.flat.length ≤ n → t.ok → xs.drop i = t.flat ++ r →
    Row (hide (some b1) w) a cap xs → (hide (some b1) w).cell? ⟨b0, 0, none⟩ = some (.slice a xs.length cap) → w.heap[b1]? = some (.cells #[.int .i64 i] 3 (0, 0)) →
    (hide (some b1) w).cell? ⟨b2, 0, none⟩ = some (.func (.func 67) #[] #[.pointer (some ⟨b0, 0, none⟩), .pointer (some ⟨b1, 0, none⟩), .pointer (some ⟨b2, 0, none⟩)]) →
    Calls Try.prog 67 #[.pointer (some ⟨b0, 0, none⟩), .pointer (some ⟨b1, 0, none⟩), .pointer (some ⟨b2, 0, none⟩)] w fun e w' => e = .returned (.int .i64 t.depth) ∧ w.grownBy w' (some b1) ∧ w'.heap[b1]? = some (.cells #[.int .i64 ((i + t.flat.length : Nat) : Int)] 3 (0, 0)) := by
  induction n with
  | zero => intro t i r w hn; have := flat_pos t; omega
  | succ n ih =>
    intro t i r w hn ht hd hR h0 h1 h2
    have hm := hR.max
    have hle := hR.le
    have hlen := congrArg List.length hd
    rw [List.length_drop, List.length_append] at hlen
    have hfp := flat_pos t
    have hi : i < xs.length := by omega
    have hx : xs[i] = t.hd := by
      have := (List.drop_eq_getElem_cons hi).symm.trans (hd.trans (by rw [flat_cons, List.cons_append]))
      exact (List.cons.inj this).1
    obtain ⟨b, off, rfl, hb, hat⟩ := hR.cases.resolve_left (fun e => by simp [e] at hi)
    obtain ⟨c0, c1, c2, hf⟩ := (cel_at hat (Below.refl _ _) hi).keeps (hide_keeps _ _)
    have k0 := hide_keeps _ _ _ _ _ h0
    have k2 := hide_keeps _ _ _ _ _ h2
    have k1 : w.cell? ⟨b1, 0, none⟩ = some (.int .i64 i) := by simp [World.cell?, h1]
    have hfz : w.frozen? ⟨b1, 0, none⟩ = false := by simp [World.frozen?, h1]
    have hlt1 := cell_lt k1
    have hargs := args_le6 ht
    have hd0 := depths_small t t.args.length (by omega)
    rw [List.take_length] at hd0
    have hH := mkHid h1
    have HA : Hid (arI t.hd = t.args.length) := by
      have h := (ok_iff t).1 ht
      rw [Hid, arI_ar h.1, h.2.1]
    clear h1
    go_enter Try.func67, Try.ntmps67
    go_wp2_with (go_at_call 64; refine (arguments_any t.hd _).mono ?_; rintro e w1 ⟨rfl, hb1⟩; rw [HA.out])
    have g1 : w.grownBy w1 (some b1) := grown_trans (grown_trans (grown_set w b1 0 _) (World.grownBy_alloc _ _ _)) (below_grown hb1 _)
    have p1 : Hid (w1.heap[b1]? = some (.cells #[.int .i64 ((i + 1 + (flats (t.args.take 0)).length : Nat) : Int)] 3 (0, 0))) := by
      have q := one_setCell (u := .int .i64 ((i : Int) + 1)) hH.out
      have q2 := (Below.heap_alloc _ (.cells #[.int .i64 t.hd.k, .string t.hd.s, .int .i64 t.hd.n] 24) b1 (lt_of_block q)).trans q
      exact (hb1.block b1 (lt_of_block q2)).trans q2
    clear hH k0 k1 k2 hfz c0 c1 c2
    go_loopw [5, 14] (fun m j wr => ∃ (k : Nat), k ≤ t.args.length ∧ j = .int .i64 k ∧ m = .int .i64 (depths (t.args.take k)) ∧ w.grownBy wr (some b1) ∧ Hid (wr.heap[b1]? = some (.cells #[.int .i64 ((i + 1 + (flats (t.args.take k)).length : Nat) : Int)] 3 (0, 0)))) (fun m j wr => t.args.length - (intOf j).toNat)
    case atStart => exact ⟨0, Nat.zero_le _, rfl, rfl, g1, p1⟩
    case round =>
      obtain ⟨k, hk, rfl, rfl, hg, hp⟩ := hrel
      have hG := grown_keeps hg
      have h0' := hG _ _ _ h0
      have h2' := hG _ _ _ h2
      have hR' := hR.keeps hG
      have q2 := hide_keeps _ _ _ _ _ h2'
      have hd1 := depths_small t k (by omega)
      by_cases hlt : k < t.args.length
      · have hsm := flat_arg_lt (List.getElem_mem hlt)
        have hok := oks_mem ((ok_iff t).1 ht).2.2 _ (List.getElem_mem hlt)
        have hda := drop_arg hd hlt
        have hT := mkHid (depths_take t hlt)
        have hF := mkHid (flats_take t hlt)
        have hd2 := depth_le t.args[k]
        by_cases hmx : depths (t.args.take k) < t.args[k].depth
        · have hT' : Hid (depths (t.args.take (k + 1)) = t.args[k].depth) := by rw [Hid, hT.out]; omega
          go_wp2_with (go_at_call 67; refine (ih t.args[k] _ _ _ (by omega) hok hda hR' h0' hp.out h2').mono ?_; rintro e w3 ⟨rfl, hg3, hp3⟩; have hp4 := mkHid hp3; clear hp3)
          go_round
          case rel => exact ⟨k + 1, by omega, by go_num, by rw [hT'.out], grown_trans hg hg3, by rw [Hid, hp4.out, hF.out]; congr 5; omega⟩
          case measure => simp [intOf]; omega
        · have hT' : Hid (depths (t.args.take (k + 1)) = depths (t.args.take k)) := by rw [Hid, hT.out]; omega
          go_wp2_with (go_at_call 67; refine (ih t.args[k] _ _ _ (by omega) hok hda hR' h0' hp.out h2').mono ?_; rintro e w3 ⟨rfl, hg3, hp3⟩; have hp4 := mkHid hp3; clear hp3)
          go_round
          case rel => exact ⟨k + 1, by omega, by go_num, by rw [hT'.out], grown_trans hg hg3, by rw [Hid, hp4.out, hF.out]; congr 5; omega⟩
          case measure => simp [intOf]; omega
      · obtain rfl : k = t.args.length := by omega
        have hD : Hid (((depths t.args : Nat) : Int) + 1 = t.depth) := by rw [Hid, depth_eq]; omega
        have hE : Hid (i + 1 + (flats (t.args.take t.args.length)).length = i + t.flat.length) := by rw [Hid, List.take_length, flat_cons t, List.length_cons]; omega
        go_wp2
        go_ret
        exact ⟨ret_int hD.out, hg, by rw [← hE.out]; exact hp.out⟩
end Go.Proofs.Ytfcebbfphjbkoaa
namespace Go.Proofs.Ytfcebbfphjbkoaa
open Go.RowKit

set_option maxHeartbeats 800000 in
theorem depth_any (t : Tm) (ht : t.ok) (h200 : t.flat.length ≤ 200) (a : Option Addr) (cap : Nat) (w : World) (hr : Row w a cap t.flat) :
    Calls Try.prog 44 #[.slice a t.flat.length cap] w fun e w' => e = .returned (.int .i64 t.depth) ∧ Below w.heap.size w w' := by
  have hmf : ∀ (fn : Fn) (first cap : Array Value) (w : World), (Instr.makeFunc fn first cap).run Try.prog w = .ok (.func fn first cap) w := fun _ _ _ _ => rfl
  have hm := hr.max
  have hle := hr.le
  have HR := mkHid (right_flat ht h200)
  have hb0 := (Below.refl w.heap.size w).new (.cells #[.slice a t.flat.length cap] 22)
  go_enter Try.func44, Try.ntmps44
  go_wp2_with (first
    | (go_at_call 15; refine (right_any _ cap _ t.flat (hr.below hb0)).mono ?_; rintro e w1 ⟨rfl, hb1⟩; rw [HR.out]; have d0 : w1.cell? ⟨w.heap.size, 0, none⟩ = some (.slice a t.flat.length cap) := keep (by go_simp) hb1; have hsz := hb1.size; simp only [World.size_alloc] at hsz))
  have hl0 := cell_lt d0
  refine (depthc_any t.flat a cap w.heap.size w1.heap.size (w1.heap.size + 1) (by omega) (by omega) (by omega) (by omega) h200 t.flat.length t 0 [] _ (Nat.le_refl _) ht (by simp) ?_ ?_ ?_ ?_).mono ?_
  · exact (hr.below (hb0.then hb1)).keeps (fresh_keeps (Keeps.of (((Below.refl _ _).new _).new _)) (Nat.le_refl _))
  · exact fresh_keeps (Keeps.of (((Below.refl _ _).new _).new _)) (Nat.le_refl _) _ _ _ d0
  · exact (Below.heap_alloc _ _ _ (by simp)).trans (heap_alloc_new w1 _)
  · exact hide_of_ne (by omega) (by go_simp)
  rintro e w2 ⟨rfl, hg, _⟩
  go_wp2
  go_ret
  have hb4 := ((hb0.then hb1).new (.cells #[.int .i64 0] 3)).new (.cells #[.func (.func 67) #[] #[.pointer (some ⟨w.heap.size, 0, none⟩), .pointer (some ⟨w1.heap.size, 0, none⟩), .pointer (some ⟨w1.heap.size + 1, 0, none⟩)]] 79)
  exact ⟨rfl, hb4.trans (grown_at hg hb4.size (by omega))⟩

end Go.Proofs.Ytfcebbfphjbkoaa
namespace Go.Proofs.Ytfcebbfphjbkoaa
open Go.RowKit

/-- cells changed one by one: the first k of them -/
def upTo (f : Cel → Cel) (xs : List Cel) (k : Nat) : List Cel := (xs.take k).map f ++ xs.drop k
theorem upTo_length (f : Cel → Cel) (xs : List Cel) (k : Nat) : (upTo f xs k).length = xs.length := by
  simp [upTo]; omega
theorem upTo_zero (f : Cel → Cel) (xs : List Cel) : upTo f xs 0 = xs := by simp [upTo]
theorem upTo_all (f : Cel → Cel) (xs : List Cel) {k : Nat} (h : xs.length ≤ k) : upTo f xs k = xs.map f := by
  simp [upTo, List.take_of_length_le h, List.drop_eq_nil_of_le h]
theorem upTo_at (f : Cel → Cel) (xs : List Cel) {k : Nat} (h : k < xs.length) : (upTo f xs k)[k]? = some xs[k] := by
  unfold upTo
  rw [List.getElem?_append_right (by simp; omega), List.length_map, List.length_take, Nat.min_eq_left (Nat.le_of_lt h), Nat.sub_self, List.getElem?_drop]
  simp
theorem upTo_succ (f : Cel → Cel) (xs : List Cel) {k : Nat} (h : k < xs.length) : upTo f xs (k + 1) = (upTo f xs k).set k (f xs[k]) := by
  unfold upTo
  rw [List.take_succ_eq_append_getElem h, List.map_append, List.drop_eq_getElem_cons h, List.append_assoc]
  rw [List.set_append_right _ _ (by simp; omega), List.length_map, List.length_take, Nat.min_eq_left (Nat.le_of_lt h), Nat.sub_self]
  rfl
theorem upTo_same (f : Cel → Cel) (xs : List Cel) {k : Nat} (h : k < xs.length) (e : f xs[k] = xs[k]) : upTo f xs (k + 1) = upTo f xs k := by
  rw [upTo_succ f xs h, e]
  refine List.ext_getElem? fun i => ?_
  rw [List.getElem?_set]
  split
  · rename_i hi
    subst hi
    rw [if_pos (by rw [upTo_length]; exact h), upTo_at f xs h]
  · rfl
theorem flat_set (xs : List Cel) (i : Nat) (hi : i < xs.length) (m : Int) : (flat xs).set (i * 3 + 2) (.int .i64 m) = flat (xs.set i { xs[i] with n := m }) := by
  induction xs generalizing i with
  | nil => simp at hi
  | cons c xs ih =>
    cases i with
    | zero => simp [flat]
    | succ i =>
      have := ih i (by simpa using hi)
      have hf : flat (c :: xs) = .int .i64 c.k :: .string c.s :: .int .i64 c.n :: flat xs := rfl
      rw [hf, show (i + 1) * 3 + 2 = i * 3 + 2 + 1 + 1 + 1 by omega]
      simp only [List.set_cons_succ, List.getElem_cons_succ]
      rw [this]; rfl
theorem wrap64_range (n : Int) : -9223372036854775808 ≤ wrap64 n ∧ wrap64 n ≤ 9223372036854775807 := by
  unfold wrap64; omega
/-- one variable shifted -/
def shiftC (d : Int) (c : Cel) : Cel := if c.k = 1 then { c with n := wrap64 (c.n + d) } else c
def shiftL (xs : List Cel) (d : Int) : List Cel := if rightB (xs.map (shiftC d)) then xs.map (shiftC d) else []
theorem shiftC_fit {d : Int} {c : Cel} (h : c.fit) : (shiftC d c).fit := by
  unfold shiftC
  have hw := wrap64_range (c.n + d)
  split
  · exact ⟨h.k1, h.k2, hw.1, hw.2, h.s⟩
  · exact h
theorem upTo_fit {f : Cel → Cel} {xs : List Cel} {k : Nat} (hf : ∀ c ∈ xs, c.fit) (h : ∀ c : Cel, c.fit → (f c).fit) : ∀ c ∈ upTo f xs k, c.fit := by
  intro c hc
  unfold upTo at hc
  rcases List.mem_append.1 hc with h1 | h1
  · obtain ⟨d, hd, rfl⟩ := List.mem_map.1 h1
    exact h d (hf d (List.mem_of_mem_take hd))
  · exact hf c (List.mem_of_mem_drop h1)
/-- a row of the call's own that holds something -/
theorem own_form {w : World} {B e size : Nat} {v : Value} {n : Nat} {vs : List Value} (h : w.ownsRow B e size v n vs) (hn : 0 < n) :
    ∃ g cap, v = .slice (some ⟨g, 0, none⟩) n cap ∧ B ≤ g ∧ g < w.heap.size ∧ n ≤ cap ∧ cap ≤ 9223372036854775807 := by
  rcases h.2 with ⟨_, h0⟩ | ⟨g, cap, cur, rfl, hb, hg, hc, hm, _⟩
  · omega
  · exact ⟨g, cap, rfl, hb, (Array.getElem?_eq_some_iff.1 hg).1, hc, by unfold maxLen at hm; omega⟩
theorem own_cel {w : World} {B e g n cap : Nat} {ys : List Cel} (h : w.ownsRow B e 3 (.slice (some ⟨g, 0, none⟩) n cap) n (flat ys)) {k : Nat} {c : Cel} (hc : ys[k]? = some c) :
    w.cell? ⟨g, k * 3, none⟩ = some (.int .i64 c.k) ∧ w.cell? ⟨g, k * 3 + 1, none⟩ = some (.string c.s) ∧ w.cell? ⟨g, k * 3 + 2, none⟩ = some (.int .i64 c.n) := by
  have hl : k < ys.length := (List.getElem?_eq_some_iff.1 hc).1
  have he : ys[k] = c := by rw [List.getElem?_eq_getElem hl] at hc; exact Option.some.inj hc
  obtain ⟨f0, f1, f2⟩ := flat_at ys k hl
  rw [he] at f0 f1 f2
  exact ⟨own_cells h _ _ f0, own_cells h _ _ f1, own_cells h _ _ f2⟩
/-- one number stored into a row of cells -/
theorem own_store {w : World} {B e g n cap : Nat} {f : Cel → Cel} {xs : List Cel} {k : Nat} (h : w.ownsRow B e 3 (.slice (some ⟨g, 0, none⟩) n cap) n (flat (upTo f xs k))) (hk : k < xs.length) {m : Int} (hf : f xs[k] = ⟨xs[k].k, xs[k].s, m⟩) :
    (w.setCell ⟨g, k * 3 + 2, none⟩ (.int .i64 m)).ownsRow B e 3 (.slice (some ⟨g, 0, none⟩) n cap) n (flat (upTo f xs (k + 1))) := by
  have := (h.stored (k * 3 + 2) (.int .i64 m)).1
  have hl : k < (upTo f xs k).length := by rw [upTo_length]; exact hk
  have he : (upTo f xs k)[k] = xs[k] := by
    have := upTo_at f xs hk; rw [List.getElem?_eq_getElem hl] at this; exact Option.some.inj this
  rw [flat_set _ _ hl, he] at this
  have hf' : f xs[k] = { xs[k] with n := m } := hf
  rw [← hf', ← upTo_succ f xs hk] at this
  exact this
theorem own_free {w : World} {B e size g n cap : Nat} {vs : List Value} (h : w.ownsRow B e size (.slice (some ⟨g, 0, none⟩) n cap) n vs) (j : Nat) : w.frozen? ⟨g, j, none⟩ = false := h.frozenAt j
end Go.Proofs.Ytfcebbfphjbkoaa
namespace Go.Proofs.Ytfcebbfphjbkoaa
open Go.RowKit

set_option maxHeartbeats 1600000 in
theorem shift_any (a : Option Addr) (cap : Nat) (d : Int) (w : World) (xs : List Cel) (hr : Row w a cap xs) (hl : xs.length ≤ 1000000) (h0 : 0 < xs.length) :
    Calls Try.prog 42 #[.slice a xs.length cap, .int .i64 d] w fun e w' => ∃ a' cap', e = .returned (.slice a' (shiftL xs d).length cap') ∧ Row w' a' cap' (shiftL xs d) ∧ Below w.heap.size w w' := by
  have hm := hr.max
  have hle := hr.le
  have hfit := mkHid hr.fit
  go_enter Try.func42, Try.ntmps42
  go_wp2_with
    (go_at_call 65; refine (clone_any a cap _ xs hr hl).mono ?_; rintro e w1 ⟨v, rfl, hown, hb1⟩)
  obtain ⟨g, cp, rfl, hg1, hg2, hg3, hg4⟩ := own_form hown h0
  go_loopw [12] (fun i wr => ∃ k : Nat, k ≤ xs.length ∧ i = .int .i64 k ∧ wr.ownsRow w.heap.size 24 3 (.slice (some ⟨g, 0, none⟩) xs.length cp) xs.length (flat (upTo (shiftC d) xs k)) ∧ Below w.heap.size w wr) (fun i wr => xs.length - (intOf i).toNat)
  case atStart => exact ⟨0, Nat.zero_le _, rfl, by rw [upTo_zero]; exact hown, hb1⟩
  case round =>
    clear hown
    obtain ⟨k, hk, rfl, hown, hbl⟩ := hrel
    have hgl := (hown.lt g rfl).2
    by_cases hlt : k < xs.length
    · 
      obtain ⟨b, off, rfl, hb, hat⟩ := hr.cases.resolve_left (fun e => by simp [e] at hlt)
      obtain ⟨c0, c1, c2, hf⟩ := cel_at hat hbl hlt
      obtain ⟨_, _, o2⟩ := own_cel hown (upTo_at _ _ hlt)
      have hbx := hbl.new (.cells #[.int .i64 xs[k].k, .string xs[k].s, .int .i64 xs[k].n] 24)
      have hox := hown.alloc (.cells #[.int .i64 xs[k].k, .string xs[k].s, .int .i64 xs[k].n] 24)
      have hfz := own_free hown (k * 3 + 2)
      by_cases h1 : xs[k].k = 1
      · have t1 : (xs[k].k == 1) = true := by simp [h1]
        have hs := own_store hown hlt (show shiftC d xs[k] = ⟨xs[k].k, xs[k].s, wrap64 (xs[k].n + d)⟩ from if_pos h1)
        have HS := mkHid (hs.alloc (.cells #[.int .i64 xs[k].k, .string xs[k].s, .int .i64 xs[k].n] 24))
        have HB := mkHid ((hbl.setCell (p := ⟨g, k * 3 + 2, none⟩) hg1 (.int .i64 (wrap64 (xs[k].n + d)))).new (.cells #[.int .i64 xs[k].k, .string xs[k].s, .int .i64 xs[k].n] 24))
        clear h1 hs
        go_wp2
        go_round
        case rel => exact ⟨k + 1, by omega, by go_num, HS.out, HB.out⟩
        case measure => simp [intOf]; omega
      · have t1 : (xs[k].k == 1) = false := by simp [h1]
        have HE := mkHid (upTo_same (shiftC d) xs hlt (if_neg h1))
        clear h1
        go_wp2
        go_round
        case rel => exact ⟨k + 1, by omega, by go_num, by rw [HE.out]; exact hox, hbx⟩
        case measure => simp [intOf]; omega
    · have hu := upTo_all (shiftC d) xs (k := k) (by omega)
      rw [hu] at hown
      have hml : (xs.map (shiftC d)).length = xs.length := by simp
      have hfm : ∀ c ∈ xs.map (shiftC d), c.fit := fun c hc => by
        obtain ⟨c', hc', rfl⟩ := List.mem_map.1 hc
        exact shiftC_fit (hfit.out c' hc')
      obtain ⟨a2, cap2, ev, hrow⟩ := own_row (xs := xs.map (shiftC d)) (by rw [hml]; exact hown) hfm
      rw [hml] at ev
      injection ev with ev1 _ ev2
      subst ev1
      subst ev2
      have hcall := right_any (some ⟨g, 0, none⟩) cp wr (xs.map (shiftC d)) hrow
      rw [hml] at hcall
      have HC := mkHid hcall
      have HM := mkHid hml
      clear hcall hu hml
      cases hR : rightB (xs.map (shiftC d)) with
      | true =>
        have HZ : Hid (shiftL xs d = xs.map (shiftC d)) := if_pos hR
        have HR := mkHid hR
        clear hR
        go_wp2_with (go_at_call 15; refine HC.out.mono ?_; rintro e w2 ⟨rfl, hb2⟩; rw [HR.out])
        go_ret
        rw [HZ.out]
        exact ⟨some ⟨g, 0, none⟩, cp, by rw [HM.out]; rfl, hrow.below hb2, hbl.then hb2⟩
      | false =>
        have HZ : Hid (shiftL xs d = []) := if_neg (by rw [hR]; simp)
        have HR := mkHid hR
        clear hR
        go_wp2_with (go_at_call 15; refine HC.out.mono ?_; rintro e w2 ⟨rfl, hb2⟩; rw [HR.out])
        go_ret
        rw [HZ.out]
        exact ⟨none, 0, rfl, Row.empty _ _ _ (by omega) (fun _ => rfl), hbl.then hb2⟩

end Go.Proofs.Ytfcebbfphjbkoaa
namespace Go.Proofs.Ytfcebbfphjbkoaa
open Go.RowKit

theorem varsGo_nodup (xs : List Cel) : ∀ acc : List Int, acc.Nodup → (varsGo acc xs).Nodup := by
  induction xs with
  | nil => intro acc h; exact h
  | cons c l ih =>
    intro acc h
    refine ih _ ?_
    split
    · rename_i hc
      rw [List.nodup_append]
      refine ⟨h, by simp, ?_⟩
      intro a ha b hb
      simp at hb
      subst hb
      intro e; subst e
      exact hc.2 ha
    · exact h
theorem varsGo_sub (xs : List Cel) : ∀ (acc : List Int) (n : Int), n ∈ acc → n ∈ varsGo acc xs := by
  induction xs with
  | nil => intro acc n h; exact h
  | cons c l ih =>
    intro acc n h
    refine ih _ _ ?_
    split
    · exact List.mem_append_left _ h
    · exact h
theorem mem_varsGo (xs : List Cel) : ∀ (acc : List Int), ∀ c ∈ xs, c.k = 1 → c.n ∈ varsGo acc xs := by
  induction xs with
  | nil => intro acc c h; simp at h
  | cons d l ih =>
    intro acc c h hc
    rcases List.mem_cons.1 h with rfl | h
    · simp only [varsGo]
      refine varsGo_sub _ _ _ ?_
      split
      · simp
      · rename_i h1
        by_cases h2 : c.n ∈ acc
        · exact h2
        · exact absurd ⟨hc, h2⟩ h1
    · exact ih _ c h hc
/-- one variable numbered -/
def numC (vs : List Int) (c : Cel) : Cel := if c.k = 1 then ⟨c.k, c.s, placeI vs c.n⟩ else c
def numL (xs : List Cel) : List Cel := xs.map (numC (varsL xs))
theorem placeI_range (vs : List Int) (n : Int) (h : vs.length ≤ 1000000) : -1 ≤ placeI vs n ∧ placeI vs n ≤ 1000000 := by
  unfold placeI
  split
  · have := List.idxOf_le_length (a := n) (l := vs); omega
  · omega
theorem numC_fit {vs : List Int} {c : Cel} (hv : vs.length ≤ 1000000) (h : c.fit) : (numC vs c).fit := by
  unfold numC
  have := placeI_range vs c.n hv
  split
  · exact ⟨h.k1, h.k2, by show -9223372036854775808 ≤ placeI vs c.n; omega, by show placeI vs c.n ≤ 9223372036854775807; omega, h.s⟩
  · exact h
/-- what a map of the first k places says -/
def placeF (vs : List Int) (k : Nat) : Int → Int := fun i => if i ∈ vs.take k then (vs.idxOf i : Int) else 0
theorem placeF_succ {vs : List Int} (hn : vs.Nodup) {k : Nat} (hk : k < vs.length) : (fun j => if j = vs[k] then ((k : Nat) : Int) else placeF vs k j) = placeF vs (k + 1) := by
  funext j
  have hiff : j ∈ vs.take (k + 1) ↔ j ∈ vs.take k ∨ j = vs[k] := by
    rw [List.take_succ_eq_append_getElem hk, List.mem_append, List.mem_singleton]
  unfold placeF
  by_cases e : j = vs[k]
  · have h1 : vs.idxOf vs[k] = k := hn.idxOf_getElem k hk
    rw [if_pos e, if_pos (hiff.2 (.inr e)), e, h1]
  · rw [if_neg e]
    by_cases h2 : j ∈ vs.take k
    · rw [if_pos h2, if_pos (hiff.2 (.inl h2))]
    · rw [if_neg h2, if_neg (fun h => (hiff.1 h).elim h2 e)]
theorem placeF_all {vs : List Int} {k : Nat} (hk : vs.length ≤ k) {i : Int} (hi : i ∈ vs) : placeF vs k i = placeI vs i := by
  unfold placeF placeI
  rw [List.take_of_length_le hk, if_pos hi, if_pos hi]
theorem Try.zeroInt (w : World) : (zeroValue 3).run Try.prog w = .ok (.int .i64 0) w := by kernel_rfl

theorem map_hide {w : World} {P : Program} {k e : TypeId} {b n : Nat} {f : Int → Int} (h : MapII P k e w b n f) : Keeps w (hide (some b) w) := by
  obtain ⟨D, ⟨es, clock, hb, _⟩, _⟩ := h
  intro b' o v hc
  refine hide_of_ne (fun e => ?_) hc
  subst e
  simp [World.cell?, hb] at hc

theorem own_mono {w : World} {B B' e size : Nat} {v : Value} {n : Nat} {vs : List Value} (h : w.ownsRow B e size v n vs) (hB : B' ≤ B) : w.ownsRow B' e size v n vs := by
  refine ⟨h.1, ?_⟩
  rcases h.2 with h | ⟨g, cap, cur, e, hb, rest⟩
  · exact .inl h
  · exact .inr ⟨g, cap, cur, e, Nat.le_trans hB hb, rest⟩

set_option maxHeartbeats 1600000 in
theorem number_any (a : Option Addr) (cap : Nat) (w : World) (xs : List Cel) (hr : Row w a cap xs) (hl : xs.length ≤ 1000000) (h0 : 0 < xs.length) :
    Calls Try.prog 40 #[.slice a xs.length cap] w fun e w' => ∃ a' cap', e = .returned (.slice a' (numL xs).length cap') ∧ Row w' a' cap' (numL xs) ∧ Below w.heap.size w w' := by
  have hm := hr.max
  have hle := hr.le
  have hfit := mkHid hr.fit
  have hmm := @run_makeMap Try.prog
  have hm0 := MapII.made Try.prog 3 3 w
  have hb0 := (Below.refl w.heap.size w).new (.map #[] 0)
  have hvl := varsGo_length xs []
  rw [show varsGo [] xs = varsL xs from rfl, List.length_nil, Nat.zero_add] at hvl
  have HND : Hid ((varsL xs).Nodup) := varsGo_nodup xs [] List.nodup_nil
  have hvf := mkHid (varsGo_fit xs hr.fit [] (by simp))
  rw [show varsGo [] xs = varsL xs from rfl] at hvf
  go_enter Try.func40, Try.ntmps40
  go_wp2_with (go_at_call 41; refine (vars_any a cap _ xs (hr.below hb0) hl).mono ?_; rintro e w1 ⟨av, capv, rfl, hrv, hb1⟩; have hm1 := hm0.below hb1; have hb01 := hb0.then hb1)
  go_loopw [13] (fun i wr => ∃ k : Nat, k ≤ (varsL xs).length ∧ i = .int .i64 k ∧ MapII Try.prog 3 3 wr w.heap.size k (placeF (varsL xs) k) ∧ Below w.heap.size w wr ∧ w1.grownBy wr (some w.heap.size)) (fun i wr => (varsL xs).length - (intOf i).toNat)
  case atStart => exact ⟨0, Nat.zero_le _, rfl, hm1, hb01, ⟨rfl, rfl, rfl, Nat.le_refl _, fun _ _ _ => rfl⟩⟩
  case round =>
    obtain ⟨k, hk, rfl, hmap, hbl, hg1⟩ := hrel
    by_cases hlt : k < (varsL xs).length
    · have hgk : Keeps w1 wr := (map_hide hm1).trans ((grown_keeps hg1).trans (hide_keeps _ _))
      obtain ⟨b, off, rfl, hb, hat⟩ := (hrv.keeps hgk).cases.resolve_left (fun e => by simp [e] at hlt)
      obtain ⟨d0, n1, n2⟩ := int_at hat (Below.refl _ _) hlt
      have HF := mkHid (placeF_succ HND.out hlt)
      go_wp2_with (at_mapUpdate; refine hmap.wpl_update rfl _ _ _ rfl Try.underlying3 Try.underlying77 Try.underlying3 rfl (by omega) (varsL xs)[k] rfl (wf64 n1 n2) k rfl (wf64 (by omega) (by omega)) ?_; intro w2 hmap2 hg2)
      go_round
      case rel => exact ⟨k + 1, by omega, by go_num, by rw [← HF.out]; exact hmap2, hbl.trans (grown_at hg2 hbl.size (Nat.le_refl _)), grown_trans hg1 hg2⟩
      case measure => simp [intOf]; omega
    · obtain rfl : k = (varsL xs).length := by omega
      have HF : Hid (∀ c ∈ xs, c.k = 1 → placeF (varsL xs) (varsL xs).length c.n = placeI (varsL xs) c.n) := fun c hc h1 => placeF_all (Nat.le_refl _) (mem_varsGo xs [] c hc h1)
      generalize placeF (varsL xs) (varsL xs).length = f at hmap HF
      clear hm1
      go_wp2_with (go_at_call 65; refine (clone_any a cap _ xs (hr.below hbl) hl).mono ?_; rintro e w2 ⟨v, rfl, hown, hb2⟩; have hmap2 := hmap.below hb2; have hbl2 := hbl.then hb2; have hmlt := hmap.lt)
      obtain ⟨g, cp, rfl, hg1, hg2, hg3, hg4⟩ := own_form hown h0
      go_loopw [26] (fun i wr => ∃ k : Nat, k ≤ xs.length ∧ i = .int .i64 k ∧ wr.ownsRow (w.heap.size + 1) 24 3 (.slice (some ⟨g, 0, none⟩) xs.length cp) xs.length (flat (upTo (numC (varsL xs)) xs k)) ∧ Below w.heap.size w wr ∧ MapII Try.prog 3 3 wr w.heap.size (varsL xs).length f) (fun i wr => xs.length - (intOf i).toNat)
      case atStart => exact ⟨0, Nat.zero_le _, rfl, by rw [upTo_zero]; exact own_mono hown (by omega), hbl2, hmap2⟩
      case round =>
        clear hown hmap2 hmap
        obtain ⟨k, hk, rfl, hown, hbl, hmap⟩ := hrel
        have hgl := (hown.lt g rfl).2
        have hgb := (hown.lt g rfl).1
        by_cases hlt : k < xs.length
        · obtain ⟨b, off, rfl, hb, hat⟩ := hr.cases.resolve_left (fun e => by simp [e] at hlt)
          obtain ⟨c0, c1, c2, hf⟩ := cel_at hat hbl hlt
          obtain ⟨_, _, o2⟩ := own_cel hown (upTo_at _ _ hlt)
          have hfz := own_free hown (k * 3 + 2)
          by_cases h1 : xs[k].k = 1
          · have t1 : (xs[k].k == 1) = true := by simp [h1]
            have hp := HF.out _ (List.getElem_mem hlt) h1
            have hlk : ∀ o, (Instr.lookup 77 (.map (some w.heap.size)) (.int .i64 xs[k].n) false).run Try.prog (wr.alloc o) = .ok (.int .i64 (placeI (varsL xs) xs[k].n)) (wr.alloc o) := fun o => by
              rw [← hp]
              exact (hmap.alloc o).run_lookup Try.underlying3 Try.underlying77 Try.underlying3 (Try.zeroInt _) (wf64 hf.n1 hf.n2)
            have hs := own_store hown hlt (show numC (varsL xs) xs[k] = ⟨xs[k].k, xs[k].s, placeI (varsL xs) xs[k].n⟩ from if_pos h1)
            have HS := mkHid (hs.alloc (.cells #[.int .i64 xs[k].k, .string xs[k].s, .int .i64 xs[k].n] 24))
            have HB := mkHid ((hbl.setCell (p := ⟨g, k * 3 + 2, none⟩) (by show w.heap.size ≤ g; omega) (.int .i64 (placeI (varsL xs) xs[k].n))).new (.cells #[.int .i64 xs[k].k, .string xs[k].s, .int .i64 xs[k].n] 24))
            have HM := mkHid ((hmap.kept (grown_set wr g (k * 3 + 2) (.int .i64 (placeI (varsL xs) xs[k].n))) (by simp; omega)).alloc (.cells #[.int .i64 xs[k].k, .string xs[k].s, .int .i64 xs[k].n] 24))
            clear h1 hs hp
            go_wp2
            go_round
            case rel => exact ⟨k + 1, by omega, by go_num, HS.out, HB.out, HM.out⟩
            case measure => simp [intOf]; omega
          · have t1 : (xs[k].k == 1) = false := by simp [h1]
            have HE := mkHid (upTo_same (numC (varsL xs)) xs hlt (if_neg h1))
            clear h1
            go_wp2
            go_round
            case rel => exact ⟨k + 1, by omega, by go_num, by rw [HE.out]; exact hown.alloc _, hbl.new _, hmap.alloc _⟩
            case measure => simp [intOf]; omega
        · have hu := upTo_all (numC (varsL xs)) xs (k := k) (by omega)
          rw [hu] at hown
          have hml : (xs.map (numC (varsL xs))).length = xs.length := by simp
          have hfm : ∀ c ∈ xs.map (numC (varsL xs)), c.fit := fun c hc => by
            obtain ⟨c', hc', rfl⟩ := List.mem_map.1 hc
            exact numC_fit (by omega) (hfit.out c' hc')
          obtain ⟨a2, cap2, ev, hrow⟩ := own_row (xs := xs.map (numC (varsL xs))) (by rw [hml]; exact hown) hfm
          rw [hml] at ev
          injection ev with ev1 _ ev2
          subst ev1
          subst ev2
          have HM := mkHid (show (numL xs).length = xs.length from hml)
          clear hu hml
          go_wp2
          go_ret
          exact ⟨some ⟨g, 0, none⟩, cp, by rw [HM.out]; rfl, hrow, hbl⟩
end Go.Proofs.Ytfcebbfphjbkoaa
namespace Go.Proofs.Ytfcebbfphjbkoaa
open Go.RowKit

/-- what a name and arguments make -/
def madeL (nm : ByteArray) (l : List (List Cel)) : List Cel := ⟨3, nm, l.length⟩ :: l.flatten
def makeL (nm : ByteArray) (l : List (List Cel)) : List Cel := if l.all rightB && rightB (madeL nm l) then madeL nm l else []
theorem right_len {xs : List Cel} (h : rightB xs = true) : xs.length ≤ 200 := by
  obtain ⟨_, _, _, _, _, h200⟩ := right_sk h
  exact h200
theorem make_bad {nm : ByteArray} {l : List (List Cel)} {k : Nat} (hk : k < l.length) (h : rightB l[k] = false) : makeL nm l = [] := by
  unfold makeL
  rw [if_neg]
  intro h2
  simp only [Bool.and_eq_true, List.all_eq_true] at h2
  have := h2.1 _ (List.getElem_mem hk)
  rw [h] at this; cases this
theorem make_head {nm : ByteArray} {l : List (List Cel)} (h : cellOk ⟨3, nm, l.length⟩ = false) : makeL nm l = [] := by
  unfold makeL
  rw [if_neg]
  intro h2
  simp only [Bool.and_eq_true] at h2
  obtain ⟨c, r, e, hc, _⟩ := right_sk h2.2
  unfold madeL at e
  rw [← (List.cons.inj e).1, h] at hc; cases hc
theorem all_take {l : List (List Cel)} {k : Nat} (hk : k < l.length) (h : (l.take k).all rightB = true) (h2 : rightB l[k] = true) : (l.take (k + 1)).all rightB = true := by
  rw [List.take_succ_eq_append_getElem hk, List.all_append, h]; simp [h2]
theorem flatten_take {l : List (List Cel)} {k : Nat} (hk : k < l.length) : (l.take (k + 1)).flatten = (l.take k).flatten ++ l[k] := by
  rw [List.take_succ_eq_append_getElem hk, List.flatten_append]; simp
theorem made_length {l : List (List Cel)} (h : l.all rightB = true) : l.flatten.length ≤ 200 * l.length := by
  induction l with
  | nil => simp
  | cons p l ih =>
    simp only [List.all_cons, Bool.and_eq_true] at h
    obtain ⟨_, _, _, _, _, h200⟩ := right_sk h.1
    have := ih h.2
    simp only [List.flatten_cons, List.length_append, List.length_cons]; omega

/-- what holds when k arguments stand behind the name -/
structure MakeInv (w : World) (nm : ByteArray) (l : List (List Cel)) (k : Nat) (v : Value) (wr : World) : Prop where
  all : (l.take k).all rightB = true
  own : wr.ownsRow w.heap.size 24 3 v (1 + (l.take k).flatten.length) (flat (⟨3, nm, l.length⟩ :: (l.take k).flatten))
  bel : Below w.heap.size w wr
  fit : Hid (∀ c ∈ (l.take k).flatten, c.fit)

set_option maxHeartbeats 1600000 in
theorem make_any (a : Option Addr) (cap : Nat) (nm : ByteArray) (w : World) (l : List (List Cel)) (hr : Row w a cap l) (hl : l.length ≤ 1000) (hn : nm.size ≤ 9223372036854775807) :
    Calls Try.prog 43 #[.string nm, .slice a l.length cap] w fun e w' => ∃ a' cap', e = .returned (.slice a' (makeL nm l).length cap') ∧ Row w' a' cap' (makeL nm l) ∧ Below w.heap.size w w' := by
  have hm := hr.max
  have hle := hr.le
  have hcf : (⟨3, nm, l.length⟩ : Cel).fit := ⟨by simp, by simp, by show (-9223372036854775808 : Int) ≤ l.length; omega, by show (l.length : Int) ≤ 9223372036854775807; omega, hn⟩
  have hb0 := (Below.refl w.heap.size w).new (.cells #[.int .i64 3, .string nm, .int .i64 l.length] 24)
  have hown0 : (w.alloc (.cells #[.int .i64 3, .string nm, .int .i64 l.length] 24)).ownsRow w.heap.size 24 3 (.slice (some ⟨w.heap.size, 0, none⟩) 1 1) 1 (flat (⟨3, nm, l.length⟩ :: (l.take 0).flatten)) := by
    have := World.ownsRow_lit (base := w.heap.size) (e := 24) (size := 3) w #[.int .i64 3, .string nm, .int .i64 l.length] 1 (Nat.le_refl _) (by unfold maxLen; omega) rfl
    simpa [flat] using this
  cases hcb : cellOk ⟨3, nm, l.length⟩ with
  | false =>
    have HE := mkHid (make_head hcb)
    have HC := mkHid hcb
    clear hcb
    go_enter Try.func43, Try.ntmps43
    go_wp2_with (go_at_call 66; refine (may_any ⟨3, nm, l.length⟩ _ hcf).mono ?_; rintro e w1 ⟨rfl, hb1⟩; rw [HC.out])
    go_ret
    rw [HE.out]
    exact ⟨none, 0, rfl, Row.empty _ _ _ (by omega) (fun _ => rfl), hb0.then hb1⟩
  | true =>
  have HC := mkHid hcb
  clear hcb
  go_enter Try.func43, Try.ntmps43
  go_wp2_with (go_at_call 66; refine (may_any ⟨3, nm, l.length⟩ _ hcf).mono ?_; rintro e w1 ⟨rfl, hb1⟩; rw [HC.out])
  have hown1 := own_below hown0 hb1
  have hb01 := hb0.then hb1
  go_loopw [5, 20] (fun v i wr => ∃ k : Nat, k ≤ l.length ∧ i = .int .i64 k ∧ MakeInv w nm l k v wr) (fun v i wr => l.length - (intOf i).toNat)
  case atStart => exact ⟨0, Nat.zero_le _, rfl, ⟨rfl, hown1, hb01, by simp [Hid]⟩⟩
  case round =>
    clear hown0 hown1
    obtain ⟨k, hk, rfl, ⟨HA, hown, hbl, HF⟩⟩ := hrel
    have hlen := made_length HA
    rw [List.length_take, Nat.min_eq_left hk] at hlen
    by_cases hlt : k < l.length
    · obtain ⟨b, off, rfl, hb, hat⟩ := hr.cases.resolve_left (fun e => by simp [e] at hlt)
      obtain ⟨a1, cap1, c0, hr1⟩ := list_at hat hbl hlt
      cases hR : rightB l[k] with
      | false =>
        have HE := mkHid (make_bad (nm := nm) hlt hR)
        have HR := mkHid hR
        clear hR HA
        go_wp2_with (go_at_call 15; refine (right_any a1 cap1 _ l[k] hr1).mono ?_; rintro e w2 ⟨rfl, hb2⟩; rw [HR.out])
        go_ret
        rw [HE.out]
        exact ⟨none, 0, rfl, Row.empty _ _ _ (by omega) (fun _ => rfl), hbl.then hb2⟩
      | true =>
        have h200 := right_len hR
        have HA' := mkHid (all_take hlt HA hR)
        have HT := mkHid (flatten_take hlt)
        have HF' : Hid (∀ c ∈ (l.take (k + 1)).flatten, c.fit) := by
          rw [Hid, HT.out]
          intro c hc
          rcases List.mem_append.1 hc with h | h
          · exact HF.out c h
          · exact hr1.fit c h
        have HR := mkHid hR
        clear hR HA
        go_wp2_with (first
          | (go_at_call 15; refine (right_any a1 cap1 _ l[k] hr1).mono ?_; rintro e w2 ⟨rfl, hb2⟩; rw [HR.out]; have hown2 := own_below hown hb2; have hbl2 := hbl.then hb2; have c0' := keep c0 hb2; clear c0)
          | (at_builtin; refine wpList_app rfl _ _ 22 rfl w.heap.size 24 3 32 _ Try.underlying22 Try.infoCell rfl (by decide) (by decide) _ _ _ rfl hown2 a1 l[k].length cap1 (flat l[k]) rfl ((hr1.below hb2).src) (by omega) hbl2.size ?_; intro v' w3 hown3 _ hb3))
        rw [← flat_append, List.cons_append] at hown3
        go_round
        case rel => exact ⟨k + 1, by omega, by go_num, ⟨HA'.out, by rw [HT.out, List.length_append, ← Nat.add_assoc]; exact hown3, hbl2.trans hb3, HF'⟩⟩
        case measure => simp [intOf]; omega
    · have hkl : l.take k = l := List.take_of_length_le (by omega)
      rw [hkl] at hown HA HF
      have hML : (madeL nm l).length = 1 + l.flatten.length := by simp [madeL]; omega
      have hfm : ∀ c ∈ madeL nm l, c.fit := fun c hc => by
        rcases List.mem_cons.1 hc with rfl | hc
        · exact hcf
        · exact HF.out c hc
      obtain ⟨a2, cap2, rfl, hrow⟩ := own_row (xs := madeL nm l) (by rw [hML]; exact hown) hfm
      have HA' := mkHid HA
      clear hkl hML HA
      cases hR : rightB (madeL nm l) with
      | true =>
        have HZ : Hid (makeL nm l = madeL nm l) := if_pos (by rw [HA'.out, hR]; rfl)
        have HR := mkHid hR
        clear hR
        go_wp2_with (go_at_call 15; refine (right_any a2 cap2 _ (madeL nm l) hrow).mono ?_; rintro e w2 ⟨rfl, hb2⟩; rw [HR.out])
        go_ret
        rw [HZ.out]
        exact ⟨a2, cap2, rfl, hrow.below hb2, hbl.then hb2⟩
      | false =>
        have HZ : Hid (makeL nm l = []) := if_neg (by rw [hR]; simp)
        have HR := mkHid hR
        clear hR
        go_wp2_with (go_at_call 15; refine (right_any a2 cap2 _ (madeL nm l) hrow).mono ?_; rintro e w2 ⟨rfl, hb2⟩; rw [HR.out])
        go_ret
        rw [HZ.out]
        exact ⟨none, 0, rfl, Row.empty _ _ _ (by omega) (fun _ => rfl), hbl.then hb2⟩

end Go.Proofs.Ytfcebbfphjbkoaa
namespace Go.Proofs.Ytfcebbfphjbkoaa
open Go.RowKit

def oneL : List Cel := [⟨3, ⟨#[102]⟩, 3⟩, ⟨1, ⟨#[]⟩, 3⟩, ⟨3, ⟨#[103]⟩, 1⟩, ⟨1, ⟨#[]⟩, 1⟩, ⟨1, ⟨#[]⟩, 3⟩]
def oneT : Tm := .mk ⟨3, ⟨#[102]⟩, 3⟩ [.mk ⟨1, ⟨#[]⟩, 3⟩ [], .mk ⟨3, ⟨#[103]⟩, 1⟩ [.mk ⟨1, ⟨#[]⟩, 1⟩ []], .mk ⟨1, ⟨#[]⟩, 3⟩ []]
theorem one_right : rightB oneL = true := by decide +kernel
theorem one_flat : oneT.flat = oneL := by simp [oneT, Tm.flat, flats, oneL]
theorem one_ok : oneT.ok := by simp [oneT, Tm.ok, oks]; decide +kernel
theorem one_depth : oneT.depth = 3 := by simp [oneT, Tm.depth, depths]
theorem one_parts : partsL oneL = [[⟨1, ⟨#[]⟩, 3⟩], [⟨3, ⟨#[103]⟩, 1⟩, ⟨1, ⟨#[]⟩, 1⟩], [⟨1, ⟨#[]⟩, 3⟩]] := by decide +kernel
theorem one_vars : varsL oneL = [3, 1] := by decide +kernel
theorem one_num : numL oneL = [⟨3, ⟨#[102]⟩, 3⟩, ⟨1, ⟨#[]⟩, 0⟩, ⟨3, ⟨#[103]⟩, 1⟩, ⟨1, ⟨#[]⟩, 1⟩, ⟨1, ⟨#[]⟩, 0⟩] := by decide +kernel
theorem one_shift : shiftL oneL 2 = [⟨3, ⟨#[102]⟩, 3⟩, ⟨1, ⟨#[]⟩, 5⟩, ⟨3, ⟨#[103]⟩, 1⟩, ⟨1, ⟨#[]⟩, 3⟩, ⟨1, ⟨#[]⟩, 5⟩] := by decide +kernel
theorem one_shift997 : shiftL oneL 997 = [] := by decide +kernel
theorem one_cut : rightB [⟨3, ⟨#[102]⟩, 3⟩, ⟨1, ⟨#[]⟩, 3⟩, ⟨3, ⟨#[103]⟩, 1⟩, ⟨1, ⟨#[]⟩, 1⟩] = false := by decide +kernel
theorem nil_right : rightB [] = false := by decide +kernel
theorem one_ground : groundB oneL = false := by decide +kernel
theorem make_a : makeL ⟨#[97]⟩ [] = [⟨3, ⟨#[97]⟩, 0⟩] := by decide +kernel
theorem make_none : makeL ⟨#[]⟩ [] = [] := by decide +kernel
theorem comp_a7 : compP [⟨3, ⟨#[97]⟩, 0⟩] [⟨2, ⟨#[]⟩, 7⟩] = 1 := by decide +kernel
theorem comp_77 : compP [⟨2, ⟨#[]⟩, 7⟩] [⟨2, ⟨#[]⟩, 7⟩] = 0 := by decide +kernel
theorem ground_a : groundB [⟨3, ⟨#[97]⟩, 0⟩] = true := by decide +kernel

set_option maxHeartbeats 400000 in
theorem one_any (w : World) :
    Calls Try.prog 38 #[] w fun e w' => ∃ a cap, e = .returned (.slice a 5 cap) ∧ Row w' a cap oneL ∧ Below w.heap.size w w' := by
  have hown := World.ownsRow_lit (base := w.heap.size) (e := 24) (size := 3) w #[.int .i64 3, .string ⟨#[102]⟩, .int .i64 3, .int .i64 1, .string ⟨#[]⟩, .int .i64 3, .int .i64 3, .string ⟨#[103]⟩, .int .i64 1, .int .i64 1, .string ⟨#[]⟩, .int .i64 1, .int .i64 1, .string ⟨#[]⟩, .int .i64 3] 5 (Nat.le_refl _) (by unfold maxLen; omega) rfl
  have hfit : ∀ c ∈ oneL, c.fit := by
    intro c hc
    simp only [oneL, List.mem_cons, List.not_mem_nil, or_false] at hc
    rcases hc with rfl | rfl | rfl | rfl | rfl <;> exact ⟨by decide, by decide, by decide, by decide, by decide⟩
  obtain ⟨a, cap, e, hr⟩ := own_row (xs := oneL) hown hfit
  injection e with e1 e2 e3
  subst e1
  subst e3
  have hb := (Below.refl w.heap.size w).new (.cells #[.int .i64 3, .string ⟨#[102]⟩, .int .i64 3, .int .i64 1, .string ⟨#[]⟩, .int .i64 3, .int .i64 3, .string ⟨#[103]⟩, .int .i64 1, .int .i64 1, .string ⟨#[]⟩, .int .i64 1, .int .i64 1, .string ⟨#[]⟩, .int .i64 3] 24)
  clear e2 hown hfit
  go_enter Try.func38, Try.ntmps38
  go_wp2
  go_ret
  exact ⟨_, _, rfl, hr, hb⟩
end Go.Proofs.Ytfcebbfphjbkoaa
namespace Go.Proofs.Ytfcebbfphjbkoaa
open Go.RowKit

theorem later_of {w0 : World} {x : Later w0} {w' : World} (h : Below x.w'.heap.size x.w' w') : ∃ y : Later w0, w' = y.w' := ⟨⟨w', x.ok.then h⟩, rfl⟩
theorem later_first {w0 w' : World} (h : Below w0.heap.size w0 w') : ∃ y : Later w0, w' = y.w' := ⟨⟨w', h⟩, rfl⟩
theorem nilRow {α : Type} [Rep α] (w : World) : Row w none 0 ([] : List α) := Row.empty _ _ _ (by omega) (fun _ => rfl)

section lit
variable {n : Nat} {xs : List Cel} {a : Option Addr} {cap : Nat} {w : World}
theorem right_lit (hn : n = xs.length) (hr : Row w a cap xs) {b : Bool} (hb : rightB xs = b) :
    Calls Try.prog 15 #[.slice a n cap] w fun e w' => e = .returned (.bool b) ∧ Below w.heap.size w w' := by
  subst hn; subst hb; exact right_any a cap w xs hr
theorem parts_lit (hn : n = xs.length) (hr : Row w a cap xs) (hb : rightB xs = true) {m : Nat} {ps : List (List Cel)} (hp : partsL xs = ps) (hm : m = ps.length) :
    Calls Try.prog 39 #[.slice a n cap] w fun e w' => ∃ a' cap', e = .returned (.slice a' m cap') ∧ Row w' a' cap' ps ∧ Below w.heap.size w w' := by
  subst hn; subst hm; subst hp; exact parts_any a cap w xs hr hb
theorem number_lit (hn : n = xs.length) (hr : Row w a cap xs) (hl : xs.length ≤ 1000000) (h0 : 0 < xs.length) {m : Nat} {ps : List Cel} (hp : numL xs = ps) (hm : m = ps.length) :
    Calls Try.prog 40 #[.slice a n cap] w fun e w' => ∃ a' cap', e = .returned (.slice a' m cap') ∧ Row w' a' cap' ps ∧ Below w.heap.size w w' := by
  subst hn; subst hm; subst hp; exact number_any a cap w xs hr hl h0
theorem vars_lit (hn : n = xs.length) (hr : Row w a cap xs) (hl : xs.length ≤ 1000000) {m : Nat} {ps : List Int} (hp : varsL xs = ps) (hm : m = ps.length) :
    Calls Try.prog 41 #[.slice a n cap] w fun e w' => ∃ a' cap', e = .returned (.slice a' m cap') ∧ Row w' a' cap' ps ∧ Below w.heap.size w w' := by
  subst hn; subst hm; subst hp; exact vars_any a cap w xs hr hl
theorem shift_lit (d : Int) (hn : n = xs.length) (hr : Row w a cap xs) (hl : xs.length ≤ 1000000) (h0 : 0 < xs.length) {m : Nat} {ps : List Cel} (hp : shiftL xs d = ps) (hm : m = ps.length) :
    Calls Try.prog 42 #[.slice a n cap, .int .i64 d] w fun e w' => ∃ a' cap', e = .returned (.slice a' m cap') ∧ Row w' a' cap' ps ∧ Below w.heap.size w w' := by
  subst hn; subst hm; subst hp; exact shift_any a cap d w xs hr hl h0
theorem make_lit (nm : ByteArray) {l : List (List Cel)} (hn : n = l.length) (hr : Row w a cap l) (hl : l.length ≤ 1000) (hs : nm.size ≤ 9223372036854775807) {m : Nat} {ps : List Cel} (hp : makeL nm l = ps) (hm : m = ps.length) :
    Calls Try.prog 43 #[.string nm, .slice a n cap] w fun e w' => ∃ a' cap', e = .returned (.slice a' m cap') ∧ Row w' a' cap' ps ∧ Below w.heap.size w w' := by
  subst hn; subst hm; subst hp; exact make_any a cap nm w l hr hl hs
theorem ground_lit (hn : n = xs.length) (hr : Row w a cap xs) {b : Bool} (hb : groundB xs = b) :
    Calls Try.prog 45 #[.slice a n cap] w fun e w' => e = .returned (.bool b) ∧ Below w.heap.size w w' := by
  subst hn; subst hb; exact ground_any a cap w xs hr
theorem compare_lit {m : Nat} {ys : List Cel} {a' : Option Addr} {cap' : Nat} (hn : n = xs.length) (hr : Row w a cap xs) (hm : m = ys.length) (hr' : Row w a' cap' ys) {d : Int} (hd : compP xs ys = d) :
    Calls Try.prog 46 #[.slice a n cap, .slice a' m cap'] w fun e w' => e = .returned (.int .i64 d) ∧ Below w.heap.size w w' := by
  subst hn; subst hm; subst hd; exact compare_any a cap a' cap' w xs ys hr hr'
theorem same_lit {m : Nat} {ys : List Cel} {a' : Option Addr} {cap' : Nat} (hn : n = xs.length) (hr : Row w a cap xs) (hm : m = ys.length) (hr' : Row w a' cap' ys) {d : Bool} (hd : decide (xs = ys) = d) :
    Calls Try.prog 47 #[.slice a n cap, .slice a' m cap'] w fun e w' => e = .returned (.bool d) ∧ Below w.heap.size w w' := by
  subst hn; subst hm; subst hd; exact same_any a cap a' cap' w xs ys hr hr'
theorem depth_lit {t : Tm} (hx : t.flat = xs) (ht : t.ok) (hn : n = xs.length) (hl : xs.length ≤ 200) (hr : Row w a cap xs) {d : Nat} (hd : t.depth = d) :
    Calls Try.prog 44 #[.slice a n cap] w fun e w' => e = .returned (.int .i64 d) ∧ Below w.heap.size w w' := by
  subst hn; subst hx; subst hd; exact depth_any t ht hl a cap w hr
end lit

set_option maxHeartbeats 4000000 in
set_option maxRecDepth 100000 in
theorem head_any (w : World) :
    Calls Try.prog 13 #[] w fun e w' => e = .returned (.bool true) ∧ Below w.heap.size w w' := by
  go_enter Try.func13, Try.ntmps13
  go_wp2_with fail
  refine (one_any _).mono ?_
  rintro e w1 ⟨a1, cap1, rfl, r1, hb1⟩
  go_wp2_with fail
  refine (parts_lit rfl r1 one_right one_parts (m := 3) rfl).mono ?_
  rintro e w2 ⟨a2, cap2, rfl, r2, hb2⟩
  have r1' := r1.below hb2
  go_wp2_with fail
  refine (number_lit rfl r1' (by decide) (by decide) one_num (m := 5) rfl).mono ?_
  rintro e w3 ⟨a3, cap3, rfl, r3, hb3⟩
  have r1'' := r1'.below hb3
  go_wp2_with fail
  refine (vars_lit rfl r1'' (by decide) one_vars (m := 2) rfl).mono ?_
  rintro e w4 ⟨a4, cap4, rfl, r4, hb4⟩
  go_wp2_with fail
  refine (shift_lit 2 rfl (r1''.below hb4) (by decide) (by decide) one_shift (m := 5) rfl).mono ?_
  rintro e w5 ⟨a5, cap5, rfl, r5, hb5⟩
  go_wp2_with fail
  refine (make_lit ⟨#[97]⟩ (l := []) rfl (nilRow _) (by decide) (by decide) make_a (m := 1) rfl).mono ?_
  rintro e w6 ⟨a6, cap6, rfl, r6, hb6⟩
  have hb06 := ((((hb1.then hb2).then hb3).then hb4).then hb5).then hb6
  have ho := World.ownsRow_lit (base := w6.heap.size) (e := 24) (size := 3) w6 #[.int .i64 2, .string ⟨#[]⟩, .int .i64 7] 1 (Nat.le_refl _) (by unfold maxLen; omega) rfl
  obtain ⟨a7, cap7, e7, r7⟩ := own_row (xs := [⟨2, ⟨#[]⟩, 7⟩]) ho (by intro c hc; simp only [List.mem_cons, List.not_mem_nil, or_false] at hc; subst hc; exact ⟨by decide, by decide, by decide, by decide, by decide⟩)
  injection e7 with e7 e9 e8
  clear e9
  subst e7
  subst e8
  have hb67 := (Below.refl w6.heap.size w6).new (.cells #[.int .i64 2, .string ⟨#[]⟩, .int .i64 7] 24)
  have r6' := r6.below hb67
  have r5' := (r5.below hb6).below hb67
  have r4' := ((r4.below hb5).below hb6).below hb67
  have r3' := (((r3.below hb4).below hb5).below hb6).below hb67
  have r2' := ((((r2.below hb3).below hb4).below hb5).below hb6).below hb67
  have r1w := ((((r1''.below hb4).below hb5).below hb6)).below hb67
  have hbw := hb06.then hb67
  obtain ⟨b1, o1, rfl, _, at1⟩ := r1w.cases.resolve_left (by simp [oneL])
  obtain ⟨b2, o2, rfl, _, at2⟩ := r2'.cases.resolve_left (by simp)
  obtain ⟨b3, o3, rfl, _, at3⟩ := r3'.cases.resolve_left (by simp)
  obtain ⟨b4, o4, rfl, _, at4⟩ := r4'.cases.resolve_left (by simp)
  obtain ⟨b5, o5, rfl, _, at5⟩ := r5'.cases.resolve_left (by simp)
  have k40 : ∀ z : Later (w6.alloc (.cells #[.int .i64 2, .string ⟨#[]⟩, .int .i64 7] 24)), z.w'.cell? ⟨b4, o4, none⟩ = some (.int .i64 3) := keepL (int_at at4 (Below.refl _ _) (k := 0) (by simp)).c
  have k41 : ∀ z : Later (w6.alloc (.cells #[.int .i64 2, .string ⟨#[]⟩, .int .i64 7] 24)), z.w'.cell? ⟨b4, o4 + 1, none⟩ = some (.int .i64 1) := keepL (int_at at4 (Below.refl _ _) (k := 1) (by simp)).c
  have k31 : ∀ z : Later (w6.alloc (.cells #[.int .i64 2, .string ⟨#[]⟩, .int .i64 7] 24)), z.w'.cell? ⟨b3, o3 + 5, none⟩ = some (.int .i64 0) := keepL (cel_at at3 (Below.refl _ _) (k := 1) (by simp)).c2
  have k33 : ∀ z : Later (w6.alloc (.cells #[.int .i64 2, .string ⟨#[]⟩, .int .i64 7] 24)), z.w'.cell? ⟨b3, o3 + 11, none⟩ = some (.int .i64 1) := keepL (cel_at at3 (Below.refl _ _) (k := 3) (by simp)).c2
  have k34 : ∀ z : Later (w6.alloc (.cells #[.int .i64 2, .string ⟨#[]⟩, .int .i64 7] 24)), z.w'.cell? ⟨b3, o3 + 14, none⟩ = some (.int .i64 0) := keepL (cel_at at3 (Below.refl _ _) (k := 4) (by simp)).c2
  have k51 : ∀ z : Later (w6.alloc (.cells #[.int .i64 2, .string ⟨#[]⟩, .int .i64 7] 24)), z.w'.cell? ⟨b5, o5 + 5, none⟩ = some (.int .i64 5) := keepL (cel_at at5 (Below.refl _ _) (k := 1) (by simp)).c2
  obtain ⟨p1, cp1, kp, _⟩ := list_at at2 (Below.refl _ _) (k := 1) (by simp)
  have k21 : ∀ z : Later (w6.alloc (.cells #[.int .i64 2, .string ⟨#[]⟩, .int .i64 7] 24)), z.w'.cell? ⟨b2, o2 + 1, none⟩ = some (.slice p1 2 cp1) := keepL kp
  have rcut := r1w.slice (i := 0) (j := 4) (by omega) (by decide)
  rw [Nat.zero_mul, Nat.add_zero, Nat.sub_zero, Nat.sub_zero, List.drop_zero, show oneL.take 4 = [⟨3, ⟨#[102]⟩, 3⟩, ⟨1, ⟨#[]⟩, 3⟩, ⟨3, ⟨#[103]⟩, 1⟩, ⟨1, ⟨#[]⟩, 1⟩] from rfl] at rcut
  have hcap1 := r1w.le
  have hcap1' := r1w.max
  rw [show oneL.length = 5 from rfl] at hcap1
  clear kp at1 at2 at3 at4 at5 r2 r3 r4 r5 r6 r1 r1' r1'' r2' r3' r4' r5'
  go_wp2_with fail
  refine (right_lit rfl r1w one_right).mono ?_
  rintro e w8 ⟨rfl, hb8⟩
  obtain ⟨y1, rfl⟩ := later_first hb8
  clear hb8
  go_wp2_with fail
  refine (right_lit rfl (rcut.below y1.ok) one_cut).mono ?_
  rintro e w8 ⟨rfl, hb8⟩
  obtain ⟨y2, rfl⟩ := later_of hb8
  clear hb8
  go_wp2_with fail
  refine (right_lit (xs := []) rfl (nilRow _) nil_right).mono ?_
  rintro e w8 ⟨rfl, hb8⟩
  obtain ⟨y3, rfl⟩ := later_of hb8
  clear hb8
  go_wp2_with fail
  refine (depth_lit one_flat one_ok rfl (by decide) (r1w.below y3.ok) one_depth).mono ?_
  rintro e w8 ⟨rfl, hb8⟩
  obtain ⟨y4, rfl⟩ := later_of hb8
  clear hb8
  go_wp2_with fail
  refine (ground_lit rfl (r1w.below y4.ok) one_ground).mono ?_
  rintro e w8 ⟨rfl, hb8⟩
  obtain ⟨y5, rfl⟩ := later_of hb8
  clear hb8
  go_wp2_with fail
  refine (compare_lit rfl (r6'.below y5.ok) rfl (r7.below y5.ok) comp_a7).mono ?_
  rintro e w8 ⟨rfl, hb8⟩
  obtain ⟨y6, rfl⟩ := later_of hb8
  clear hb8
  go_wp2_with fail
  refine (compare_lit rfl (r7.below y6.ok) rfl (r7.below y6.ok) comp_77).mono ?_
  rintro e w8 ⟨rfl, hb8⟩
  obtain ⟨y7, rfl⟩ := later_of hb8
  clear hb8
  go_wp2_with fail
  refine (one_any _).mono ?_
  rintro e w8 ⟨a8, cap8, rfl, r8, hb8⟩
  obtain ⟨y8, rfl⟩ := later_of hb8
  clear hb8
  go_wp2_with fail
  refine (same_lit rfl (r1w.below y8.ok) rfl r8 (decide_eq_true rfl)).mono ?_
  rintro e w8 ⟨rfl, hb8⟩
  obtain ⟨y9, rfl⟩ := later_of hb8
  clear hb8
  go_wp2_with fail
  refine (ground_lit rfl (r6'.below y9.ok) ground_a).mono ?_
  rintro e w8 ⟨rfl, hb8⟩
  obtain ⟨y10, rfl⟩ := later_of hb8
  clear hb8
  go_wp2_with fail
  refine (shift_lit 997 rfl (r1w.below y10.ok) (by decide) (by decide) one_shift997 (m := 0) rfl).mono ?_
  rintro e w8 ⟨a9, cap9, rfl, r9, hb8⟩
  obtain ⟨y11, rfl⟩ := later_of hb8
  clear hb8
  go_wp2_with fail
  refine (make_lit ⟨#[]⟩ (l := []) rfl (nilRow _) (by decide) (by decide) make_none (m := 0) rfl).mono ?_
  rintro e w8 ⟨a10, cap10, rfl, r10, hb8⟩
  obtain ⟨y12, rfl⟩ := later_of hb8
  clear hb8
  go_wp2_with fail
  go_ret
  exact ⟨rfl, hbw.then y12.ok⟩
end Go.Proofs.Ytfcebbfphjbkoaa
namespace Go.Proofs.Ytfcebbfphjbkoaa
open Go.RowKit

theorem great_yes {a : Option Addr} {cap : Nat} {w : World} {n : Nat} (h : 300 < n) :
    Calls Try.prog 14 #[.slice a n cap] w fun e w' => e = .returned (.bool true) ∧ Below w.heap.size w w' :=
  (great_any a cap w n).mono fun e w' ⟨he, hb⟩ => ⟨by rw [he, decide_eq_true (by omega)], hb⟩
theorem great_no {a : Option Addr} {cap : Nat} {w : World} {n : Nat} (h : ¬ 300 < n) :
    Calls Try.prog 14 #[.slice a n cap] w fun e w' => e = .returned (.bool false) ∧ Below w.heap.size w w' :=
  (great_any a cap w n).mono fun e w' ⟨he, hb⟩ => ⟨by rw [he, decide_eq_false (by omega)], hb⟩

theorem flatten_flat (ts : List Tm) : (ts.map Tm.flat).flatten = flats ts := by
  induction ts with
  | nil => rfl
  | cons t ts ih => simp [flats, ih]
theorem args_right {t : Tm} (h : t.ok) (h200 : t.flat.length ≤ 200) {k : Nat} (hk : k < t.args.length) : rightB t.args[k].flat = true := by
  have hs := flat_arg_lt (List.getElem_mem hk)
  exact right_flat (oks_mem ((ok_iff t).1 h).2.2 _ (List.getElem_mem hk)) (by omega)
theorem make_flat {t : Tm} (h : t.ok) (h200 : t.flat.length ≤ 200) (h3 : t.hd.k = 3) : makeL t.hd.s (t.args.map Tm.flat) = t.flat := by
  have h' := (ok_iff t).1 h
  have hm : madeL t.hd.s (t.args.map Tm.flat) = t.flat := by
    unfold madeL
    rw [flatten_flat, flat_cons, List.length_map]
    congr 1
    have hn := arI_ar h'.1
    rw [← h'.2.1] at hn
    unfold arI at hn
    rw [if_pos h3] at hn
    exact (Cel.eq_iff _ _).2 ⟨h3.symm, rfl, hn.symm⟩
  unfold makeL
  rw [hm, if_pos]
  rw [Bool.and_eq_true, List.all_eq_true]
  refine ⟨fun p hp => ?_, right_flat h h200⟩
  obtain ⟨u, hu, rfl⟩ := List.mem_map.1 hp
  obtain ⟨k, hk, rfl⟩ := List.getElem_of_mem hu
  exact args_right h h200 hk
theorem flat_take_le (t : Tm) (k : Nat) : (flats (t.args.take k)).length + 1 ≤ t.flat.length := by
  have hs : t.args = t.args.take k ++ t.args.drop k := (List.take_append_drop _ _).symm
  have := congrArg List.length (congrArg flats hs)
  rw [flats_append, List.length_append] at this
  rw [flat_cons t, List.length_cons]; omega

end Go.Proofs.Ytfcebbfphjbkoaa
namespace Go.Proofs.Ytfcebbfphjbkoaa
open Go.RowKit

/-- data of a kind, whose cells are told by a list of values -/
class RepC (α : Type) extends Rep α where
  C : World → List Value → α → Prop
  len : ∀ {w : World} {cs : List Value} {x : α}, C w cs x → cs.length = Rep.sz α
  one : ∀ {w : World} {cs : List Value} {x : α}, C w cs x → ∀ u ∈ cs, u.oneCell' = true
  cmono : ∀ {w w' : World} {cs : List Value} {x : α}, C w cs x → Keeps w w' → C w' cs x
  toE : ∀ {w : World} {cs : List Value} {x : α} {b o : Nat}, C w cs x → (∀ j u, cs[j]? = some u → w.cell? ⟨b, o + j, none⟩ = some u) → Rep.E w b o x
  ofE : ∀ {w : World} {x : α} {b o : Nat}, Rep.E w b o x → ∃ cs, C w cs x ∧ ∀ j u, cs[j]? = some u → w.cell? ⟨b, o + j, none⟩ = some u
  pos : 0 < sz

/-- values that read as a list, element by element -/
inductive CRows {α : Type} [RepC α] (w : World) : List Value → List α → Prop where
  | nil : CRows w [] []
  | cons {cs : List Value} {x : α} {vs : List Value} {xs : List α} : RepC.C w cs x → CRows w vs xs → CRows w (cs ++ vs) (x :: xs)

section
variable {α : Type} [RepC α]
theorem CRows.len {w : World} {vs : List Value} {xs : List α} (h : CRows w vs xs) : vs.length = xs.length * Rep.sz α := by
  induction h with
  | nil => simp
  | cons hc _ ih => rw [List.length_append, RepC.len hc, ih, List.length_cons, Nat.succ_mul, Nat.add_comm]
theorem CRows.one {w : World} {vs : List Value} {xs : List α} (h : CRows w vs xs) : ∀ u ∈ vs, u.oneCell' = true := by
  induction h with
  | nil => intro u hu; simp at hu
  | cons hc _ ih =>
    intro u hu
    rcases List.mem_append.1 hu with hu | hu
    · exact RepC.one hc u hu
    · exact ih u hu
theorem CRows.keeps {w w' : World} {vs : List Value} {xs : List α} (h : CRows w vs xs) (hk : Keeps w w') : CRows w' vs xs := by
  induction h with
  | nil => exact .nil
  | cons hc _ ih => exact .cons (RepC.cmono hc hk) ih
theorem CRows.append {w : World} {vs us : List Value} {xs ys : List α} (h : CRows w vs xs) (k : CRows w us ys) : CRows w (vs ++ us) (xs ++ ys) := by
  induction h with
  | nil => exact k
  | cons hc _ ih => rw [List.append_assoc]; exact .cons hc ih
theorem CRows.single {w : World} {cs : List Value} {x : α} (h : RepC.C w cs x) : CRows w cs [x] := by
  have := CRows.cons h (CRows.nil (w := w) (α := α))
  rwa [List.append_nil] at this
theorem CRows.snoc {w : World} {vs cs : List Value} {xs : List α} {x : α} (h : CRows w vs xs) (k : RepC.C w cs x) : CRows w (vs ++ cs) (xs ++ [x]) := h.append (CRows.single k)
/-- at a block -/
theorem CRows.at_ {w : World} {vs : List Value} {xs : List α} (h : CRows w vs xs) : ∀ {b o : Nat}, (∀ j u, vs[j]? = some u → w.cell? ⟨b, o + j, none⟩ = some u) → ∀ i x, xs[i]? = some x → Rep.E w b (o + i * Rep.sz α) x := by
  induction h with
  | nil => intro b o _ i x hi; simp at hi
  | @cons cs x vs xs hc _ ih =>
    intro b o hat i y hi
    cases i with
    | zero =>
      simp at hi
      subst hi
      rw [Nat.zero_mul, Nat.add_zero]
      refine RepC.toE hc fun j u hj => hat j u ?_
      rw [List.getElem?_append_left (List.getElem?_eq_some_iff.1 hj).1]; exact hj
    | succ i =>
      rw [List.getElem?_cons_succ] at hi
      have := ih (b := b) (o := o + Rep.sz α) (fun j u hj => by
        have := hat (Rep.sz α + j) u (by rw [List.getElem?_append_right (by rw [RepC.len hc]; omega), RepC.len hc, Nat.add_sub_cancel_left]; exact hj)
        rwa [← Nat.add_assoc] at this) i y hi
      rwa [show o + (i + 1) * Rep.sz α = o + Rep.sz α + i * Rep.sz α by rw [Nat.succ_mul]; omega]
/-- a row of the call's own reads as a row -/
theorem own_rowG {w : World} {B e : Nat} {v : Value} {vs : List Value} {xs : List α} (h : w.ownsRow B e (Rep.sz α) v xs.length vs) (hs : CRows w vs xs) : ∃ a cap, v = .slice a xs.length cap ∧ Row w a cap xs := by
  rcases h.2 with ⟨rfl, hn⟩ | ⟨g, cap, cur, rfl, hb, hg, hn, hm, hsz, ht⟩
  · obtain rfl : xs = [] := List.eq_nil_of_length_eq_zero hn
    exact ⟨none, 0, rfl, Row.empty _ _ _ (by omega) (fun _ => rfl)⟩
  · refine ⟨_, cap, rfl, ⟨hn, by unfold maxLen at hm; omega, (fun e => by cases e), fun i x hi => ⟨g, 0, rfl, ?_⟩⟩⟩
    exact hs.at_ (fun j u hj => by rw [Nat.zero_add]; exact own_cells h j u hj) i x hi
/-- the cells of a row -/
theorem crows_of {w : World} {b : Nat} : ∀ (xs : List α) (o : Nat), (∀ i x, xs[i]? = some x → Rep.E w b (o + i * Rep.sz α) x) → ∃ vs, CRows w vs xs ∧ ∀ j u, vs[j]? = some u → w.cell? ⟨b, o + j, none⟩ = some u
  | [], _, _ => ⟨[], .nil, fun j u h => by simp at h⟩
  | x :: xs, o, h => by
    have h0 := h 0 x rfl
    rw [Nat.zero_mul, Nat.add_zero] at h0
    obtain ⟨cs, hc, hat⟩ := RepC.ofE h0
    obtain ⟨vs, hv, hvat⟩ := crows_of xs (o + Rep.sz α) (fun i y hi => by
      have := h (i + 1) y (by rw [List.getElem?_cons_succ]; exact hi)
      rwa [show o + (i + 1) * Rep.sz α = o + Rep.sz α + i * Rep.sz α by rw [Nat.succ_mul]; omega] at this)
    refine ⟨cs ++ vs, .cons hc hv, fun j u hj => ?_⟩
    by_cases hl : j < cs.length
    · rw [List.getElem?_append_left hl] at hj
      exact hat j u hj
    · rw [List.getElem?_append_right (by omega)] at hj
      have := hvat _ u hj
      rw [RepC.len hc] at this
      rwa [show o + Rep.sz α + (j - Rep.sz α) = o + j by have := RepC.len hc; omega] at this
theorem Row.srcG {w : World} {a : Option Addr} {cap : Nat} {xs : List α} (h : Row w a cap xs) : ∃ vs, CRows w vs xs ∧ Src w (Rep.sz α) a xs.length cap vs := by
  rcases h.cases with rfl | ⟨b, off, rfl, _, hat⟩
  · refine ⟨[], .nil, ⟨by simp, fun e => ⟨rfl, h.nil e⟩, fun ad _ j u hj => by simp at hj, fun u hu => by simp at hu⟩⟩
  · obtain ⟨vs, hv, hvat⟩ := crows_of (w := w) (b := b) xs off (fun i x hi => by
      obtain ⟨hl, rfl⟩ := List.getElem?_eq_some_iff.1 hi
      exact hat i hl)
    refine ⟨vs, hv, ⟨hv.len, (fun e => by cases e), ?_, hv.one⟩⟩
    intro ad e j u hj
    simp at e
    subst e
    have ha : (Addr.mk b off none).add j = ⟨b, off + j, none⟩ := by unfold Addr.add; split <;> simp_all
    rw [ha]
    exact hvat j u hj
/-- an element that was laid in a new block, as the source of an append -/
theorem CRows.takeL {w : World} {vs : List Value} {xs : List α} (h : CRows w vs xs) (k : Nat) : CRows w (vs.take (k * Rep.sz α)) (xs.take k) := by
  induction h generalizing k with
  | nil => simp; exact .nil
  | @cons cs x vs xs hc _ ih =>
    cases k with
    | zero => simp; exact .nil
    | succ k =>
      rw [List.take_succ_cons, List.take_append, RepC.len hc, List.take_of_length_le (by rw [RepC.len hc, Nat.succ_mul]; omega), show (k + 1) * Rep.sz α - Rep.sz α = k * Rep.sz α by rw [Nat.succ_mul]; omega]
      exact .cons hc (ih k)
end

instance {α : Type} [Rep α] : RepC (List α) where
  C w cs xs := ∃ a cap, cs = [.slice a xs.length cap] ∧ Row w a cap xs
  len := by rintro w cs xs ⟨a, cap, rfl, _⟩; rfl
  one := by rintro w cs xs ⟨a, cap, rfl, _⟩ u hu; simp at hu; subst hu; rfl
  cmono := by rintro w w' cs xs ⟨a, cap, rfl, h⟩ hk; exact ⟨a, cap, rfl, h.keeps hk⟩
  toE := by
    rintro w cs xs b o ⟨a, cap, rfl, h⟩ hat
    exact ⟨a, cap, hat 0 _ rfl, h⟩
  ofE := by
    rintro w xs b o ⟨a, cap, hc, h⟩
    refine ⟨_, ⟨a, cap, rfl, h⟩, fun j u hj => ?_⟩
    cases j with
    | zero => simp at hj; subst hj; exact hc
    | succ j => simp at hj
  pos := Nat.one_pos
instance : RepC Cel where
  C _ cs c := cs = [.int .i64 c.k, .string c.s, .int .i64 c.n] ∧ c.fit
  len := by rintro w cs c ⟨rfl, _⟩; rfl
  one := by rintro w cs c ⟨rfl, _⟩ u hu; simp at hu; rcases hu with rfl | rfl | rfl <;> rfl
  cmono := by rintro w w' cs c h _; exact h
  toE := by
    rintro w cs c b o ⟨rfl, hf⟩ hat
    exact ⟨hat 0 _ rfl, hat 1 _ rfl, hat 2 _ rfl, hf⟩
  ofE := by
    rintro w c b o ⟨h0, h1, h2, hf⟩
    refine ⟨_, ⟨rfl, hf⟩, fun j u hj => ?_⟩
    match j with
    | 0 => simp at hj; subst hj; exact h0
    | 1 => simp at hj; subst hj; exact h1
    | 2 => simp at hj; subst hj; exact h2
    | j + 3 => simp at hj
  pos := by decide
instance : RepC Int where
  C _ cs n := cs = [.int .i64 n] ∧ -9223372036854775808 ≤ n ∧ n ≤ 9223372036854775807
  len := by rintro w cs c ⟨rfl, _⟩; rfl
  one := by rintro w cs c ⟨rfl, _⟩ u hu; simp at hu; subst hu; rfl
  cmono := by rintro w w' cs c h _; exact h
  toE := by
    rintro w cs c b o ⟨rfl, h1, h2⟩ hat
    exact ⟨hat 0 _ rfl, h1, h2⟩
  ofE := by
    rintro w c b o ⟨h0, h1, h2⟩
    refine ⟨_, ⟨rfl, h1, h2⟩, fun j u hj => ?_⟩
    cases j with
    | zero => simp at hj; subst hj; exact h0
    | succ j => simp at hj
  pos := by decide

section
variable {α : Type} [RepC α]
/-- a slice literal, laid in a new block -/
theorem row_new (w : World) (cs : Array Value) (T : TypeId × Nat) {xs : List α} (h : CRows (w.alloc (.cells cs T.1)) cs.toList xs) (hl : xs.length ≤ 9223372036854775807) :
    Row (w.alloc (.cells cs T.1)) (some ⟨w.heap.size, 0, none⟩) xs.length xs :=
  ⟨Nat.le_refl _, hl, (fun e => by cases e), fun i x hi => ⟨w.heap.size, 0, rfl, h.at_ (fun j u hj => by
    rw [Nat.zero_add, World.cell?_alloc_at _ _ _ _ rfl]; simpa using hj) i x hi⟩⟩
theorem Row.lit {w : World} {a : Option Addr} {cap : Nat} {xs ys : List α} (h : Row w a cap xs) (e : xs = ys) : Row w a cap ys := e ▸ h
end

/-- the world without all blocks below B -/
def under (B : Nat) (w : World) : World := { w with heap := w.heap.mapIdx fun i o => if i < B then .cells #[] 0 else o }
theorem under_size (B : Nat) (w : World) : (under B w).heap.size = w.heap.size := by simp [under]
theorem under_heap {B : Nat} {w : World} {b : Nat} (h : B ≤ b) : (under B w).heap[b]? = w.heap[b]? := by
  unfold under
  rw [Array.getElem?_mapIdx]
  cases hw : w.heap[b]? with
  | none => rfl
  | some o => simp; intro; omega
theorem under_cell {B : Nat} {w : World} {b o : Nat} {v : Value} (h : (under B w).cell? ⟨b, o, none⟩ = some v) : B ≤ b ∧ w.cell? ⟨b, o, none⟩ = some v := by
  by_cases hb : B ≤ b
  · refine ⟨hb, ?_⟩
    rwa [World.cell?, under_heap hb] at h
  · exfalso
    unfold under at h
    simp only [World.cell?, Array.getElem?_mapIdx] at h
    cases hw : w.heap[b]? with
    | none => rw [hw] at h; simp at h
    | some o => rw [hw] at h; simp [show b < B by omega] at h
theorem under_of {B : Nat} {w : World} {b o : Nat} {v : Value} (hb : B ≤ b) (h : w.cell? ⟨b, o, none⟩ = some v) : (under B w).cell? ⟨b, o, none⟩ = some v := by
  rwa [World.cell?, under_heap hb]
theorem under_keeps (B : Nat) (w : World) : Keeps (under B w) w := fun _ _ _ h => (under_cell h).2
theorem under_mono {B B' : Nat} (h : B' ≤ B) (w : World) : Keeps (under B w) (under B' w) := fun _ _ _ hc => under_of (Nat.le_trans h (under_cell hc).1) (under_cell hc).2
theorem under_hide {B : Nat} (w : World) {r : Option Nat} (hr : ∀ g, r = some g → g < B) : Keeps (under B w) (hide r w) := by
  intro b o v hc
  obtain ⟨h1, h2⟩ := under_cell hc
  cases r with
  | none => exact h2
  | some g => exact hide_of_ne (by have := hr g rfl; omega) h2
theorem under_grown {B : Nat} {w w' : World} {r : Option Nat} (hg : w.grownBy w' r) (hr : ∀ g, r = some g → g < B) : Keeps (under B w) (under B w') := by
  intro b o v hc
  obtain ⟨h1, h2⟩ := under_cell hc
  refine under_of h1 ?_
  exact (World.cell?_of_block (w := w) (a := ⟨b, o, none⟩) (hg.block b (cell_lt h2) (fun e => by have := hr b e.symm; omega))).trans h2
theorem under_below {B : Nat} {w w' : World} (hb : Below w.heap.size w w') : Keeps (under B w) (under B w') := under_grown (below_grown hb none) (fun g e => by cases e)
theorem under_own {w : World} {B e size : Nat} {v : Value} {n : Nat} {xs : List Value} (h : w.ownsRow B e size v n xs) : (under B w).ownsRow B e size v n xs := by
  refine ⟨h.1, ?_⟩
  rcases h.2 with h | ⟨g, cap, cur, rfl, hb, hg, rest⟩
  · exact .inl h
  · exact .inr ⟨g, cap, cur, rfl, hb, by rw [under_heap hb]; exact hg, rest⟩
theorem under_new {w0 w : World} (h : Keeps w0 w) {B : Nat} (hn : ∀ b o v, w0.cell? ⟨b, o, none⟩ = some v → B ≤ b) : Keeps w0 (under B w) := fun b o v hc => under_of (hn b o v hc) (h _ _ _ hc)

/-- a slice that lies in no block below B -/
def NewRow {α : Type} [Rep α] (B : Nat) (w : World) (a : Option Addr) (cap : Nat) (xs : List α) : Prop := Row (under B w) a cap xs
section
variable {α : Type} [Rep α] {B : Nat} {w w' : World} {a : Option Addr} {cap : Nat} {xs : List α}
theorem NewRow.row (h : NewRow B w a cap xs) : Row w a cap xs := Row.keeps h (under_keeps B w)
theorem NewRow.hide (h : NewRow B w a cap xs) {r : Option Nat} (hr : ∀ g, r = some g → g < B) : Row (hide r w) a cap xs := Row.keeps h (under_hide w hr)
theorem NewRow.below (h : NewRow B w a cap xs) (hb : Below w.heap.size w w') : NewRow B w' a cap xs := Row.keeps h (under_below hb)
theorem NewRow.grown (h : NewRow B w a cap xs) {r : Option Nat} (hg : w.grownBy w' r) (hr : ∀ g, r = some g → g < B) : NewRow B w' a cap xs := Row.keeps h (under_grown hg hr)
theorem NewRow.mono {B' : Nat} (h : NewRow B w a cap xs) (hb : B' ≤ B) : NewRow B' w a cap xs := Row.keeps h (under_mono hb w)
theorem NewRow.empty (B : Nat) (w : World) (a : Option Addr) (cap : Nat) (h : cap ≤ 9223372036854775807) (hn : a = none → cap = 0) : NewRow B w a cap ([] : List α) := Row.empty _ _ _ h hn
theorem NewRow.lit {ys : List α} (h : NewRow B w a cap xs) (e : xs = ys) : NewRow B w a cap ys := e ▸ h
end
theorem own_newG {α : Type} [RepC α] {w : World} {B e : Nat} {v : Value} {vs : List Value} {xs : List α} (h : w.ownsRow B e (Rep.sz α) v xs.length vs) (hs : CRows (under B w) vs xs) :
    ∃ a cap, v = .slice a xs.length cap ∧ NewRow B w a cap xs := own_rowG (under_own h) hs
theorem crows_flat (w : World) {xs : List Cel} (h : ∀ c ∈ xs, c.fit) : CRows w (flat xs) xs := by
  induction xs with
  | nil => exact .nil
  | cons c xs ih => exact .cons (cs := [.int .i64 c.k, .string c.s, .int .i64 c.n]) ⟨rfl, h c (by simp)⟩ (ih fun d hd => h d (by simp [hd]))
theorem crows_ints (w : World) {xs : List Int} (h : ∀ n ∈ xs, -9223372036854775808 ≤ n ∧ n ≤ 9223372036854775807) : CRows w (xs.map (Value.int .i64)) xs := by
  induction xs with
  | nil => exact .nil
  | cons c xs ih => exact .cons (cs := [.int .i64 c]) ⟨rfl, h c (by simp)⟩ (ih fun d hd => h d (by simp [hd]))
theorem own_new {w : World} {B e : Nat} {v : Value} {xs : List Cel} (h : w.ownsRow B e 3 v xs.length (flat xs)) (hf : ∀ c ∈ xs, c.fit) : ∃ a cap, v = .slice a xs.length cap ∧ NewRow B w a cap xs :=
  own_newG h (crows_flat _ hf)

theorem fresh_own {w wr : World} {e size n : Nat} {v : Value} {xs : List Value} (hb : Below w.heap.size w wr) (h : wr.ownsRow w.heap.size e size v n xs) : Keeps w (hide v.ownBlock wr) := by
  cases hv : v.ownBlock with
  | none => exact Keeps.of hb
  | some g => exact fresh_keeps (Keeps.of hb) (h.lt g hv).1
end Go.Proofs.Ytfcebbfphjbkoaa
namespace Go.Proofs.Ytfcebbfphjbkoaa
open Go.RowKit

theorem own_belowA {w w' : World} {B e size : Nat} {v : Value} {n : Nat} {xs : List Value} (h : w.ownsRow B e size v n xs) (hb : Below w.heap.size w w') : w'.ownsRow B e size v n xs :=
  h.kept (row := none) ⟨hb.os, hb.tape, hb.output, hb.size, fun k hk _ => hb.block k hk⟩ (by cases hv : v.ownBlock <;> simp)

/-- a row of the call's own that is appended to -/
structure AccInv {α : Type} [RepC α] (B e : Nat) (acc : List α) (v : Value) (w : World) : Prop where
  ex : ∃ vs, w.ownsRow B e (Rep.sz α) v acc.length vs ∧ CRows (hide v.ownBlock w) vs acc
section
variable {α : Type} [RepC α] {B e : Nat} {acc : List α} {v : Value} {w w' : World}
theorem AccInv.nil (B e : Nat) (w : World) : AccInv B e ([] : List α) (.slice none 0 0) w := ⟨[], World.ownsRow_nil _ _ _ _, .nil⟩
theorem AccInv.made {T : Nat} (w : World) (hB : B ≤ w.heap.size) (he : e = T) : AccInv B e ([] : List α) (.slice (some ⟨w.heap.size, 0, none⟩) 0 0) (w.alloc (.cells #[] T)) :=
  ⟨[], by subst he; simpa using World.ownsRow_made (base := B) (e := e) (size := Rep.sz α) w #[] 0 hB (by unfold maxLen; omega) (by simp), .nil⟩
theorem AccInv.below (h : AccInv B e acc v w) (hb : Below w.heap.size w w') : AccInv B e acc v w' :=
  let ⟨vs, ho, hc⟩ := h.ex
  ⟨vs, own_belowA ho hb, hc.keeps (below_hide hb _)⟩
theorem AccInv.lt (h : AccInv B e acc v w) : ∀ g, v.ownBlock = some g → B ≤ g ∧ g < w.heap.size := let ⟨_, ho, _⟩ := h.ex; fun g hg => ho.lt g hg
theorem AccInv.row (h : AccInv B e acc v w) : ∃ a cap, v = .slice a acc.length cap ∧ Row w a cap acc :=
  let ⟨_, ho, hc⟩ := h.ex; own_rowG ho (hc.keeps (hide_keeps _ _))
theorem AccInv.lit {acc' : List α} (h : AccInv B e acc v w) (e1 : acc = acc') : AccInv B e acc' v w := e1 ▸ h
/-- what was there when the call began is read beside the row -/
theorem AccInv.fresh {w0 : World} (h : AccInv w0.heap.size e acc v w) (hb : Below w0.heap.size w0 w) : Keeps w0 (hide v.ownBlock w) := by
  obtain ⟨_, ho, _⟩ := h.ex
  cases hv : v.ownBlock with
  | none => exact Keeps.of hb
  | some g => exact fresh_keeps (Keeps.of hb) (ho.lt g hv).1
/-- a slice that is newer than the row is read beside it -/
theorem AccInv.newer {β : Type} [Rep β] {B2 : Nat} {w2 : World} {a : Option Addr} {cap : Nat} {ys : List β} (h : AccInv B e acc v w) (hB : w.heap.size ≤ B2) (hr : NewRow B2 w2 a cap ys) : Row (hide v.ownBlock w2) a cap ys :=
  hr.hide fun g hg => Nat.lt_of_lt_of_le (h.lt g hg).2 hB
end

/-- append of one element, laid just ahead of it -/
theorem wpList_acc {α : Type} [RepC α] {P : Program} {w : World} {ops : Array Oper} {rest : List Oper} {o : Oper} {a : Act} {Q : Exit → Act → World → Prop} (hgd : o.guard = none) (s x : Operand) (t : TypeId)
    (ho : o.op = .call { callee := .builtin .append, args := #[s, x], argTypes := #[t, t] })
    (B e bytes : Nat) (z : Value) (ht : P.underlying t = some (.slice e)) (hinfo : (P.info? e).map (fun i => (i.zero, i.size, i.bytes)) = some (some z, Rep.sz α, bytes))
    (hzs : z.cells.size = Rep.sz α) (hby : bytes ≤ 1000)
    (v : Value) (acc : List α) (hacc : AccInv B e acc v w) (hs : a.eval s = v) (T : Nat) (cs : Array Value) (y : α) (hcs : RepC.C (hide v.ownBlock w) cs.toList y)
    (hx : a.eval x = .slice (some ⟨w.heap.size, 0, none⟩) 1 1)
    (hmax : acc.length + 1 ≤ 1000000000) (hB : B ≤ w.heap.size)
    (h : ∀ v' w', AccInv B e (acc ++ [y]) v' w' → Below B w w' → wpList P ops Q rest (a.put o.dst v') w') : wpList P ops Q (o :: rest) a (w.alloc (.cells cs T)) := by
  obtain ⟨vs, hown, hc⟩ := hacc.ex
  refine wpList_app2 hgd s x t ho B e (Rep.sz α) bytes z ht hinfo hzs RepC.pos hby v acc.length vs hs (hown.alloc _) ⟨w.heap.size, 0, none⟩ 1 1 cs.toList hx (src_new w cs T (Rep.sz α) (by have := RepC.len hcs; simpa using this) (fun u hu => RepC.one hcs u hu)) hmax (Nat.le_trans hB (by simp)) ?_
  intro v' w' h1 _ h3 h4
  refine h v' w' ⟨vs ++ cs.toList, by rw [List.length_append]; exact h1, ?_⟩ (((Below.refl B w).alloc hB _).trans h3)
  exact ((hc.keeps (alloc_hide w _ _)).keeps h4).snoc (RepC.cmono (RepC.cmono hcs (alloc_hide w _ _)) h4)
theorem Row.srcK {α : Type} [RepC α] {w w' : World} {a : Option Addr} {cap : Nat} {xs : List α} (h : Row w a cap xs) (hk : Keeps w w') : ∃ vs, CRows w vs xs ∧ Src w' (Rep.sz α) a xs.length cap vs := by
  rcases h.cases with rfl | ⟨b, off, rfl, _, hat⟩
  · refine ⟨[], .nil, ⟨by simp, fun e => ⟨rfl, h.nil e⟩, fun ad _ j u hj => by simp at hj, fun u hu => by simp at hu⟩⟩
  · obtain ⟨vs, hv, hvat⟩ := crows_of (w := w) (b := b) xs off (fun i x hi => by
      obtain ⟨hl, rfl⟩ := List.getElem?_eq_some_iff.1 hi
      exact hat i hl)
    refine ⟨vs, hv, ⟨hv.len, (fun e => by cases e), ?_, hv.one⟩⟩
    intro ad e j u hj
    simp at e
    subst e
    have ha : (Addr.mk b off none).add j = ⟨b, off + j, none⟩ := by unfold Addr.add; split <;> simp_all
    rw [ha]
    exact hk _ _ _ (hvat j u hj)
/-- append of all of a slice -/
theorem wpList_accs {α : Type} [RepC α] {P : Program} {w : World} {ops : Array Oper} {rest : List Oper} {o : Oper} {a : Act} {Q : Exit → Act → World → Prop} (hgd : o.guard = none) (s x : Operand) (t : TypeId)
    (ho : o.op = .call { callee := .builtin .append, args := #[s, x], argTypes := #[t, t] })
    (B e bytes : Nat) (z : Value) (ht : P.underlying t = some (.slice e)) (hinfo : (P.info? e).map (fun i => (i.zero, i.size, i.bytes)) = some (some z, Rep.sz α, bytes))
    (hzs : z.cells.size = Rep.sz α) (hby : bytes ≤ 1000)
    (v : Value) (acc : List α) (hacc : AccInv B e acc v w) (hs : a.eval s = v) (sa : Option Addr) (cap : Nat) (ys : List α) (hr : Row (hide v.ownBlock w) sa cap ys)
    (hx : a.eval x = .slice sa ys.length cap)
    (hmax : acc.length + ys.length ≤ 1000000000) (hB : B ≤ w.heap.size)
    (h : ∀ v' w', AccInv B e (acc ++ ys) v' w' → Below B w w' → wpList P ops Q rest (a.put o.dst v') w') : wpList P ops Q (o :: rest) a w := by
  obtain ⟨vs, hown, hc⟩ := hacc.ex
  obtain ⟨us, hu, hsrc⟩ := hr.srcK (hide_keeps _ _)
  cases sa with
  | none =>
    have h0 : ys.length = 0 := (hsrc.nil rfl).1
    have hc0 : cap = 0 := (hsrc.nil rfl).2
    obtain rfl : ys = [] := List.eq_nil_of_length_eq_zero h0
    obtain ⟨i, hi, hz0, hz1, hz2⟩ := info_parts hinfo
    subst hc0
    refine wpList_append_own_none hgd s x t ho B e i (Rep.sz α) ht hi v acc.length vs hs hown hx ?_
    exact h v w ⟨vs, by rw [List.append_nil]; exact hown, by rw [List.append_nil]; exact hc⟩ (Below.refl _ _)
  | some ad =>
    refine wpList_app2 hgd s x t ho B e (Rep.sz α) bytes z ht hinfo hzs RepC.pos hby v acc.length vs hs hown ad ys.length cap us hx hsrc hmax hB ?_
    intro v' w' h1 _ h3 h4
    exact h v' w' ⟨vs ++ us, by rw [List.length_append]; exact h1, (hc.keeps h4).append (hu.keeps h4)⟩ h3
end Go.Proofs.Ytfcebbfphjbkoaa
namespace Go.Proofs.Ytfcebbfphjbkoaa
open Go.RowKit

theorem right_sk1 {xs : List Cel} (h : rightB xs = true) : sk 1 xs = some [] := by
  obtain ⟨c, l, rfl, hc, hs, hl⟩ := right_sk h
  have : sk 1 (c :: l) = sk (0 + ar c) l := by simp [sk, hc]
  rw [this, Nat.zero_add]; exact hs
theorem right_app {xs ys : List Cel} (h : rightB xs = true) (h2 : rightB (xs ++ ys) = true) : ys = [] := by
  obtain ⟨t, ht, rfl, _⟩ := right_tm h
  have h3 := right_sk1 h2
  rw [sk_flat t ht 0 ys] at h3
  simpa [sk] using h3
theorem cut_wrong {xs : List Cel} (h : rightB xs = true) {k : Nat} (hk : k < xs.length) : rightB (xs.take k) = false := by
  rw [Bool.eq_false_iff]
  intro h2
  have h3 := right_app (ys := xs.drop k) h2 (by rw [List.take_append_drop]; exact h)
  have := congrArg List.length h3
  simp at this; omega
theorem more_wrong {xs : List Cel} (h : rightB xs = true) (c : Cel) : rightB (xs ++ [c]) = false := by
  rw [Bool.eq_false_iff]
  intro h2
  have := right_app h h2
  cases this

/-- append of all of a slice, at a step of a region that draws its order -/
theorem step_accs {α : Type} [RepC α] {P : Program} {w : World} {ops : Array Oper} {o : Oper} {a : Act} {K : Act → World → Prop} {E : Prop} (hw : Region.wanted o (yielded ops a.tmps) = true) (s x : Operand) (t : TypeId)
    (ho : o.op = .call { callee := .builtin .append, args := #[s, x], argTypes := #[t, t] })
    (B e bytes : Nat) (z : Value) (ht : P.underlying t = some (.slice e)) (hinfo : (P.info? e).map (fun i => (i.zero, i.size, i.bytes)) = some (some z, Rep.sz α, bytes))
    (hzs : z.cells.size = Rep.sz α) (hby : bytes ≤ 1000)
    (v : Value) (acc : List α) (hacc : AccInv B e acc v w) (hs : a.eval s = v) (sa : Addr) (cap : Nat) (ys : List α) (hr : Row (hide v.ownBlock w) (some sa) cap ys)
    (hx : a.eval x = .slice (some sa) ys.length cap)
    (hmax : acc.length + ys.length ≤ 1000000000) (hB : B ≤ w.heap.size) {Q : Exit → Act → World → Prop}
    (h : ∀ v' w', AccInv B e (acc ++ ys) v' w' → Below B w w' → Keeps (hide v.ownBlock w) (hide v'.ownBlock w') → K (a.put o.dst v') w') : if Region.wanted o (yielded ops a.tmps) = true then Oper.wp P o a w K Q else E := by
  rw [if_pos hw]
  obtain ⟨vs, hown, hc⟩ := hacc.ex
  obtain ⟨us, hu, hsrc⟩ := hr.srcK (hide_keeps _ _)
  obtain ⟨i, hi, hz0, hz1, hz2⟩ := info_parts hinfo
  have hb : (acc.length + ys.length) * bytes ≤ 140737488355328 := Nat.le_trans (Nat.mul_le_mul hmax hby) (by decide)
  obtain ⟨v', w', hr2, h2, h3, h4⟩ := run_append_where (P := P) w B t o.type e i z (Rep.sz α) bytes ht hi hz0 hz1 hz2 hzs RepC.pos v acc.length vs hown sa ys.length cap us hsrc.len (hsrc.cells sa rfl) hsrc.one (by unfold maxLen; omega) hb hB
  unfold Oper.wp execOp
  simp only [ho, resolve, invoke, builtin, Sem.run_bind, Sem.run_pure, Result.andThen_ok, List.map_toArray, List.map_cons, List.map_nil, hs, hx, hr2]
  have hk := hide_next h3 h4
  exact h v' w' ⟨vs ++ us, by rw [List.length_append]; exact h2, (hc.keeps hk).append (hu.keeps hk)⟩ (grown_below h3 hown hB) hk
theorem kept_cell {B : Nat} {w w' : World} {b o : Nat} {v : Value} (hc : w.cell? ⟨b, o, none⟩ = some v) (hb : Below B w w') (h : b < B) : w'.cell? ⟨b, o, none⟩ = some v := (hb.cell (p := ⟨b, o, none⟩) h).trans hc
/-- a cell, laid in a new block, beside a row that is elder -/
theorem one_new (w : World) {c : Cel} (hf : c.fit) : NewRow w.heap.size (w.alloc (.cells #[.int .i64 c.k, .string c.s, .int .i64 c.n] 24)) (some ⟨w.heap.size, 0, none⟩) 1 [c] := by
  obtain ⟨a, cap, e, h⟩ := own_new (xs := [c]) (World.ownsRow_lit (base := w.heap.size) (e := 24) (size := 3) w #[.int .i64 c.k, .string c.s, .int .i64 c.n] 1 (Nat.le_refl _) (by unfold maxLen; omega) rfl) (by simp [hf])
  injection e with e1 _ e2
  subst e1; subst e2
  exact h

set_option maxHeartbeats 8000000 in
set_option maxRecDepth 100000 in
theorem lawEnds_any (w : World) (xs : List Cel) (a : Option Addr) (cap : Nat) (hr : Row w a cap xs) (n : Int) (hn : (Lit.int .u8 n).wf = true) (c : Cel) (hf : c.fit) :
    Calls Try.prog 3 #[.slice a xs.length cap, .int .u8 n, .agg #[.int .i64 c.k, .string c.s, .int .i64 c.n]] w fun e w' => e = .returned (.bool true) ∧ Below w.heap.size w w' := by
  have hlh : 0 ≤ n ∧ n ≤ 255 := by
    simp [Lit.wf, IntKind.min, IntKind.max, IntKind.signed, IntKind.bits] at hn
    omega
  obtain ⟨hlo, hhi⟩ := hlh
  clear hn
  have hm := hr.max
  have hle := hr.le
  have hb0 := (Below.refl w.heap.size w).new (.cells #[.int .i64 c.k, .string c.s, .int .i64 c.n] 24)
  by_cases hg : 300 < xs.length
  · go_enter Try.func3, Try.ntmps3
    go_wp2_with fail
    refine (head_any _).mono ?_; rintro e w1 ⟨rfl, hb1⟩
    go_wp2_with fail
    refine (great_yes hg).mono ?_; rintro e w2 ⟨rfl, hb2⟩
    go_wp2_with fail
    go_ret
    exact ⟨rfl, (hb0.then hb1).then hb2⟩
  cases hR : rightB xs with
  | false =>
    have HR := mkHid hR
    clear hR
    go_enter Try.func3, Try.ntmps3
    go_wp2_with fail
    refine (head_any _).mono ?_; rintro e w1 ⟨rfl, hb1⟩
    go_wp2_with fail
    refine (great_no hg).mono ?_; rintro e w2 ⟨rfl, hb2⟩
    replace hb0 := (hb0.then hb1).then hb2
    go_wp2_with fail
    refine (right_lit rfl (hr.below hb0) HR.out).mono ?_; rintro e w3 ⟨rfl, hb3⟩
    go_wp2_with fail
    go_ret
    exact ⟨rfl, hb0.then hb3⟩
  | true =>
    have HR := mkHid hR
    obtain ⟨d, l, e0, _⟩ := right_sk hR
    have h0 : 0 < xs.length := by rw [e0]; simp
    clear hR e0
    have h0i : (0 : Int) < (xs.length : Int) := by omega
    have h0n : ((xs.length : Int) == 0) = false := by simp; intro e; simp [e] at h0
    have c0 : (w.alloc (.cells #[.int .i64 c.k, .string c.s, .int .i64 c.n] 24)).cell? ⟨w.heap.size, 0, none⟩ = some (.int .i64 c.k) := World.cell?_alloc_at _ _ _ 0 rfl
    have c1 : (w.alloc (.cells #[.int .i64 c.k, .string c.s, .int .i64 c.n] 24)).cell? ⟨w.heap.size, 1, none⟩ = some (.string c.s) := World.cell?_alloc_at _ _ _ 1 rfl
    have c2 : (w.alloc (.cells #[.int .i64 c.k, .string c.s, .int .i64 c.n] 24)).cell? ⟨w.heap.size, 2, none⟩ = some (.int .i64 c.n) := World.cell?_alloc_at _ _ _ 2 rfl
    obtain ⟨k, hk, hkl⟩ : ∃ k : Nat, Int.tmod n xs.length = k ∧ k < xs.length := by
      have h1 : Int.tmod n xs.length = n % xs.length := Int.tmod_eq_emod_of_nonneg hlo
      have h2 := Int.emod_nonneg n (show (xs.length : Int) ≠ 0 by omega)
      have h3 := Int.emod_lt_of_pos n h0i
      exact ⟨(n % xs.length).toNat, by omega, by omega⟩
    have hkl' : (k : Int) ≤ (cap : Int) := by omega
    obtain ⟨b, off, rfl, hb, hat⟩ := hr.cases.resolve_left (fun e => by simp [e] at h0)
    have hrt : Row w (some ⟨b, off, none⟩) cap (xs.take k) := by simpa using hr.slice (i := 0) (j := k) (by omega) (by omega)
    have HC := mkHid (cut_wrong HR.out hkl)
    have HKT : Hid (k = (xs.take k).length) := by rw [Hid]; simp; omega
    have HM := mkHid (more_wrong HR.out c)
    go_enter Try.func3, Try.ntmps3
    go_wp2_with fail
    refine (head_any _).mono ?_; rintro e w1 ⟨rfl, hb1⟩
    replace c0 := keep c0 hb1; replace c1 := keep c1 hb1; replace c2 := keep c2 hb1
    replace hb0 := hb0.then hb1
    clear hb1
    go_wp2_with fail
    refine (great_no hg).mono ?_; rintro e w2 ⟨rfl, hb2⟩
    replace c0 := keep c0 hb2; replace c1 := keep c1 hb2; replace c2 := keep c2 hb2
    replace hb0 := hb0.then hb2
    clear hb2
    go_wp2_with fail
    refine (right_lit rfl (hr.below hb0) HR.out).mono ?_; rintro e w3 ⟨rfl, hb3⟩
    replace c0 := keep c0 hb3; replace c1 := keep c1 hb3; replace c2 := keep c2 hb3
    replace hb0 := hb0.then hb3
    clear hb3
    go_wp2_with fail
    replace c0 : w3.drew.cell? ⟨w.heap.size, 0, none⟩ = some (.int .i64 c.k) := c0
    replace c1 : w3.drew.cell? ⟨w.heap.size, 1, none⟩ = some (.string c.s) := c1
    replace c2 : w3.drew.cell? ⟨w.heap.size, 2, none⟩ = some (.int .i64 c.n) := c2
    replace hb0 : Below w.heap.size w w3.drew := hb0.trans (Below.refl _ _).drew
    go_region_held3 (fun w' => w'.cell? ⟨w.heap.size, 0, none⟩ = some (.int .i64 c.k) ∧ w'.cell? ⟨w.heap.size, 1, none⟩ = some (.string c.s) ∧ w'.cell? ⟨w.heap.size, 2, none⟩ = some (.int .i64 c.n))
      (first
        | exact ⟨c0, c1, c2⟩
        | exact ⟨keep c0 ((Below.refl _ _).new _), keep c1 ((Below.refl _ _).new _), keep c2 ((Below.refl _ _).new _)⟩
        | exact ⟨keep (keep c0 ((Below.refl _ _).new _)) ((Below.refl _ _).new _), keep (keep c1 ((Below.refl _ _).new _)) ((Below.refl _ _).new _), keep (keep c2 ((Below.refl _ _).new _)) ((Below.refl _ _).new _)⟩)
      (first
        | (go_at_call 15; refine (right_lit (xs := xs ++ [c]) (by simp) hr6 HM.out).mono ?_; rintro e w7 ⟨rfl, hb7⟩; replace c0 := keep c0 hb7; replace c1 := keep c1 hb7; replace c2 := keep c2 hb7)
        | (go_at_call 15; refine (right_lit (xs := xs.take k) HKT.out (hrt.below hb0) HC.out).mono ?_; rintro e w4 ⟨rfl, hb4⟩; replace c0 := keep c0 hb4; replace c1 := keep c1 hb4; replace c2 := keep c2 hb4; replace hb0 := hb0.then hb4; have hlt4 := cell_lt c0; have hr4 := hr.below hb0; clear hb4)
        | ((refine step_accs (α := Cel) (by kernel_rfl) _ _ 22 (by rfl) w4.heap.size 24 32 _ Try.underlying22 Try.infoCell rfl (by decide) (.slice (some ⟨w4.heap.size, 0, none⟩) 0 0) [] (AccInv.made (α := Cel) (T := 24) w4 (Nat.le_refl _) rfl) (by rfl) _ cap xs (Row.keeps hr4 (fresh_keeps (Keeps.of ((Below.refl _ _).new (.cells #[] 24))) (Nat.le_refl _))) (by rfl) (by simp <;> omega) (by simp) ?_; intro v5 w5 hacc5 hb5 _; replace hb5 := ((Below.refl w4.heap.size w4).new (.cells #[] 24)).trans hb5; replace c0 := kept_cell c0 hb5 hlt4; replace c1 := kept_cell c1 hb5 hlt4; replace c2 := kept_cell c2 hb5 hlt4))
        | ((refine step_accs (α := Cel) (by kernel_rfl) _ _ 22 (by rfl) w4.heap.size 24 32 _ Try.underlying22 Try.infoCell rfl (by decide) (.slice (some ⟨w4.heap.size, 0, none⟩) 0 0) [] ((AccInv.made (α := Cel) (T := 24) w4 (Nat.le_refl _) rfl).below ((Below.refl _ _).new (.cells #[.int .i64 c.k, .string c.s, .int .i64 c.n] 24))) (by rfl) _ cap xs (Row.keeps hr4 (fresh_keeps (Keeps.of (((Below.refl _ _).new (.cells #[] 24)).new (.cells #[.int .i64 c.k, .string c.s, .int .i64 c.n] 24))) (Nat.le_refl _))) (by rfl) (by simp <;> omega) (by simp <;> omega) ?_; intro v5 w5 hacc5 hb5 hk5; have hrc := Row.keeps ((one_new (w4.alloc (.cells #[] 24)) hf).hide (r := some w4.heap.size) (fun g e => by cases e; simp)) hk5; rw [World.size_alloc] at hrc; replace hb5 := (((Below.refl w4.heap.size w4).new (.cells #[] 24)).new (.cells #[.int .i64 c.k, .string c.s, .int .i64 c.n] 24)).trans hb5; replace c0 := kept_cell c0 hb5 hlt4; replace c1 := kept_cell c1 hb5 hlt4; replace c2 := kept_cell c2 hb5 hlt4))
        | ((refine step_accs (α := Cel) (by kernel_rfl) _ _ 22 (by rfl) w4.heap.size 24 32 _ Try.underlying22 Try.infoCell rfl (by decide) (.slice (some ⟨w4.heap.size + 1, 0, none⟩) 0 0) [] (by simpa using AccInv.made (α := Cel) (B := w4.heap.size) (T := 24) (w4.alloc (.cells #[.int .i64 c.k, .string c.s, .int .i64 c.n] 24)) (by simp) rfl) (by rfl) _ cap xs (Row.keeps hr4 (fresh_keeps (g := w4.heap.size + 1) (Keeps.of (((Below.refl _ _).new (.cells #[.int .i64 c.k, .string c.s, .int .i64 c.n] 24)).new (.cells #[] 24))) (Nat.le_succ _))) (by rfl) (by simp <;> omega) (by simp <;> omega) ?_; intro v5 w5 hacc5 hb5 hk5; have hrc := Row.keeps (Row.keeps (one_new w4 hf).row (fresh_keeps (g := w4.heap.size + 1) (Keeps.of ((Below.refl _ _).new (.cells #[] 24))) (by simp))) hk5; replace hb5 := (((Below.refl w4.heap.size w4).new (.cells #[.int .i64 c.k, .string c.s, .int .i64 c.n] 24)).new (.cells #[] 24)).trans hb5; replace c0 := kept_cell c0 hb5 hlt4; replace c1 := kept_cell c1 hb5 hlt4; replace c2 := kept_cell c2 hb5 hlt4))
        | ((refine step_accs (α := Cel) (by kernel_rfl) _ _ 22 (by rfl) w4.heap.size 24 32 _ Try.underlying22 Try.infoCell rfl (by decide) v5 ([] ++ xs) hacc5 (by rfl) _ 1 [c] hrc (by rfl) (by simp <;> omega) hb5.size ?_; intro v6 w6 hacc6 hb6 _; replace hb5 := hb5.trans hb6; replace c0 := kept_cell c0 hb6 hlt4; replace c1 := kept_cell c1 hb6 hlt4; replace c2 := kept_cell c2 hb6 hlt4; rw [List.nil_append] at hacc6; obtain ⟨a6, cap6, rfl, hr6⟩ := hacc6.row; clear hacc6))
        | ((refine step_accs (α := Cel) (by kernel_rfl) _ _ 22 (by rfl) w4.heap.size 24 32 _ Try.underlying22 Try.infoCell rfl (by decide) v5 ([] ++ xs) (hacc5.below ((Below.refl _ _).new (.cells #[.int .i64 c.k, .string c.s, .int .i64 c.n] 24))) (by rfl) _ 1 [c] (hacc5.newer (Nat.le_refl _) (one_new w5 hf)) (by rfl) (by simp <;> omega) (Nat.le_trans hb5.size (by simp)) ?_; intro v6 w6 hacc6 hb6 _; replace hb6 := ((Below.refl w5.heap.size w5).new (.cells #[.int .i64 c.k, .string c.s, .int .i64 c.n] 24) |>.mono hb5.size).trans hb6; replace hb5 := hb5.trans hb6; replace c0 := kept_cell c0 hb6 hlt4; replace c1 := kept_cell c1 hb6 hlt4; replace c2 := kept_cell c2 hb6 hlt4; rw [List.nil_append] at hacc6; obtain ⟨a6, cap6, rfl, hr6⟩ := hacc6.row; clear hacc6)))
    all_goals go_wp2
    all_goals go_ret
    all_goals exact ⟨rfl, ((hb0.trans (hb5.mono hb0.size))).then hb7⟩
end Go.Proofs.Ytfcebbfphjbkoaa
