import Derived.Test.YtmmnfkggfnokjaaGreatZr1
import Derived.OneCell
import Derived.OrdersHeld
import Derived.Deep.RegionHeld3
import Derived.Laws.Bits64b
namespace Go.Proofs.YtmmnfkggfnokjaaGreat
open Go.RowKit

/-- a term as a tree -/
inductive Tm where
  | mk (c : Cel) (args : List Tm)
def Tm.hd : Tm → Cel | .mk c _ => c
def Tm.args : Tm → List Tm | .mk _ ts => ts
mutual
def Tm.flat : Tm → List Cel
  | .mk c ts => c :: flats ts
def flats : List Tm → List Cel
  | [] => []
  | t :: ts => t.flat ++ flats ts
end
mutual
def Tm.ok : Tm → Prop
  | .mk c ts => cellOk c = true ∧ ts.length = ar c ∧ oks ts
def oks : List Tm → Prop
  | [] => True
  | t :: ts => t.ok ∧ oks ts
end
mutual
def Tm.depth : Tm → Nat
  | .mk _ ts => depths ts + 1
def depths : List Tm → Nat
  | [] => 0
  | t :: ts => max t.depth (depths ts)
end
theorem flats_append (a b : List Tm) : flats (a ++ b) = flats a ++ flats b := by
  induction a with
  | nil => simp [flats]
  | cons t a ih => simp [flats, ih]
theorem depths_append (a b : List Tm) : depths (a ++ b) = max (depths a) (depths b) := by
  induction a with
  | nil => simp [depths]
  | cons t a ih => simp [depths, ih, Nat.max_assoc]
theorem oks_append {a b : List Tm} : oks (a ++ b) ↔ oks a ∧ oks b := by
  induction a with
  | nil => simp [oks]
  | cons t a ih => simp [oks, ih, and_assoc]
theorem oks_mem {ts : List Tm} (h : oks ts) : ∀ t ∈ ts, t.ok := by
  induction ts with
  | nil => intro t ht; simp at ht
  | cons t ts ih =>
    intro u hu
    rcases List.mem_cons.1 hu with rfl | hu
    · exact h.1
    · exact ih h.2 u hu
theorem flat_cons (t : Tm) : t.flat = t.hd :: flats t.args := by cases t; rfl
theorem ok_iff (t : Tm) : t.ok ↔ cellOk t.hd = true ∧ t.args.length = ar t.hd ∧ oks t.args := by cases t; rfl
theorem depth_eq (t : Tm) : t.depth = depths t.args + 1 := by cases t; rfl
theorem flat_pos (t : Tm) : 0 < t.flat.length := by rw [flat_cons]; simp

/-- what is skipped is made of terms -/
theorem sk_parse (l : List Cel) : ∀ (m : Nat) (r : List Cel), sk m l = some r → ∃ ts : List Tm, ts.length = m ∧ oks ts ∧ l = flats ts ++ r := by
  induction l with
  | nil =>
    intro m r h
    cases m with
    | zero => simp [sk] at h; subst h; exact ⟨[], rfl, trivial, rfl⟩
    | succ m => simp [sk] at h
  | cons c l ih =>
    intro m r h
    cases m with
    | zero => simp [sk] at h; subst h; exact ⟨[], rfl, trivial, rfl⟩
    | succ m =>
      simp only [sk] at h
      split at h
      · rename_i hc
        obtain ⟨ts, hl, ho, e⟩ := ih _ _ h
        have hsplit : ts = ts.take (ar c) ++ ts.drop (ar c) := (List.take_append_drop _ _).symm
        rw [hsplit] at ho e
        rw [oks_append] at ho
        refine ⟨.mk c (ts.take (ar c)) :: ts.drop (ar c), by simp; omega, ⟨⟨hc, by simp; omega, ho.1⟩, ho.2⟩, ?_⟩
        rw [e, flats_append]
        simp [flats, Tm.flat]
      · cases h
mutual
theorem sk_flat : ∀ (t : Tm), t.ok → ∀ (m : Nat) (r : List Cel), sk (m + 1) (t.flat ++ r) = sk m r
  | .mk c ts, h, m, r => by
    obtain ⟨h1, h2, h3⟩ := h
    simp only [Tm.flat, List.cons_append, sk, h1, if_true]
    rw [← h2, Nat.add_comm, sk_flats ts h3]
theorem sk_flats : ∀ (ts : List Tm), oks ts → ∀ (m : Nat) (r : List Cel), sk (ts.length + m) (flats ts ++ r) = sk m r
  | [], _, m, r => by simp [flats]
  | t :: ts, h, m, r => by
    obtain ⟨h1, h2⟩ := h
    simp only [flats, List.append_assoc, List.length_cons]
    rw [show ts.length + 1 + m = ts.length + m + 1 by omega, sk_flat t h1, sk_flats ts h2]
end
theorem right_flat {t : Tm} (h : t.ok) (hl : t.flat.length ≤ 200) : rightB t.flat = true := by
  have h' := (ok_iff t).1 h
  rw [flat_cons] at hl ⊢
  refine right_of_sk h'.1 ?_ hl
  have := sk_flats t.args h'.2.2 0 []
  rw [List.append_nil, Nat.add_zero, h'.2.1] at this
  rw [this]; rfl
theorem right_tm {xs : List Cel} (h : rightB xs = true) : ∃ t : Tm, t.ok ∧ xs = t.flat ∧ xs.length ≤ 200 := by
  obtain ⟨c, l, rfl, hc, hs, hl⟩ := right_sk h
  obtain ⟨ts, h1, h2, h3⟩ := sk_parse l _ _ hs
  exact ⟨.mk c ts, ⟨hc, h1, h2⟩, by rw [h3]; simp [Tm.flat], hl⟩

/-- where the arguments lie -/
theorem after_flat {t : Tm} (h : t.ok) {j : Nat} (hj : j ≤ t.args.length) : afterI t.flat 1 j = 1 + (flats (t.args.take j)).length := by
  obtain ⟨_, _, h3⟩ := (ok_iff t).1 h
  have hs : t.args = t.args.take j ++ t.args.drop j := (List.take_append_drop _ _).symm
  have ho : oks (t.args.take j) := by rw [hs] at h3; exact (oks_append.1 h3).1
  have e := sk_flats (t.args.take j) ho 0 (flats (t.args.drop j))
  rw [Nat.add_zero, List.length_take, Nat.min_eq_left hj, ← flats_append, ← hs] at e
  unfold afterI
  rw [flat_cons, List.drop_one, List.tail_cons, e]
  simp only [sk, List.length_cons]
  have := congrArg List.length (congrArg flats hs)
  rw [flats_append, List.length_append] at this
  omega
theorem aN_flat {t : Tm} (h : t.ok) {j : Nat} (hj : j ≤ t.args.length) : aN t.flat j = 1 + (flats (t.args.take j)).length := by
  unfold aN; rw [after_flat h hj]; omega
theorem part_flat {t : Tm} (h : t.ok) {j : Nat} (hj : j < t.args.length) : partJ t.flat j = t.args[j].flat := by
  unfold partJ
  rw [aN_flat h (Nat.le_of_lt hj), aN_flat h hj]
  have hs : t.args = t.args.take j ++ (t.args[j] :: t.args.drop (j + 1)) := by
    rw [← List.drop_eq_getElem_cons hj, List.take_append_drop]
  have hf : flats t.args = flats (t.args.take j) ++ (t.args[j].flat ++ flats (t.args.drop (j + 1))) := by
    conv => lhs; rw [hs]
    rw [flats_append]; rfl
  have ht : flats (t.args.take (j + 1)) = flats (t.args.take j) ++ t.args[j].flat := by
    rw [List.take_succ_eq_append_getElem hj, flats_append]; simp [flats]
  rw [ht, flat_cons t, hf, Nat.add_comm 1 (flats (t.args.take j)).length, List.drop_succ_cons, List.drop_left, List.length_append]
  rw [show 1 + ((flats (t.args.take j)).length + t.args[j].flat.length) - ((flats (t.args.take j)).length + 1) = t.args[j].flat.length by omega]
  exact List.take_left
theorem ar0_flat {t : Tm} (h : t.ok) : ar0 t.flat = t.args.length := by
  rw [flat_cons]; exact ((ok_iff t).1 h).2.1.symm
theorem parts_flat {t : Tm} (h : t.ok) : partsL t.flat = t.args.map Tm.flat := by
  unfold partsL
  rw [ar0_flat h]
  refine List.ext_getElem (by simp) (fun j h1 h2 => ?_)
  simp at h1
  simp [part_flat h h1]
theorem flat_arg_lt {t : Tm} {u : Tm} (hu : u ∈ t.args) : u.flat.length < t.flat.length := by
  rw [flat_cons t]
  have : ∀ ts : List Tm, u ∈ ts → u.flat.length ≤ (flats ts).length := by
    intro ts h
    induction ts with
    | nil => simp at h
    | cons v ts ih =>
      simp only [flats, List.length_append]
      rcases List.mem_cons.1 h with e | h
      · rw [e]; omega
      · have := ih h; omega
  have := this _ hu
  simp only [List.length_cons]; omega
mutual
theorem depth_le : ∀ t : Tm, t.depth ≤ t.flat.length
  | .mk c ts => by
    have := depths_le ts
    simp only [Tm.depth, Tm.flat, List.length_cons]; omega
theorem depths_le : ∀ ts : List Tm, depths ts ≤ (flats ts).length
  | [] => by simp [depths]
  | t :: ts => by
    have h1 := depth_le t
    have h2 := depths_le ts
    simp only [depths, flats, List.length_append]; omega
end
theorem depth_pos (t : Tm) : 1 ≤ t.depth := by rw [depth_eq]; omega
end Go.Proofs.YtmmnfkggfnokjaaGreat
namespace Go.Proofs.YtmmnfkggfnokjaaGreat
open Go.RowKit

theorem grown_trans {a b c : World} {r : Option Nat} (h : a.grownBy b r) (k : b.grownBy c r) : a.grownBy c r :=
  ⟨k.os.trans h.os, k.tape.trans h.tape, k.output.trans h.output, Nat.le_trans h.size k.size, fun i hi hn => (k.block i (Nat.lt_of_lt_of_le hi h.size) hn).trans (h.block i hi hn)⟩
theorem grown_set (w : World) (g o : Nat) (v : Value) : w.grownBy (w.setCell ⟨g, o, none⟩ v) (some g) :=
  ⟨rfl, rfl, rfl, by simp [World.setCell], fun k _ hn => Below.heap_setCell w ⟨g, o, none⟩ v k (fun e => hn (by rw [e]))⟩
theorem max_nat (a b : Nat) : ((max a b : Nat) : Int) = if (a : Int) < b then (b : Int) else a := by omega

theorem drop_arg {xs r : List Cel} {i : Nat} {t : Tm} (h : xs.drop i = t.flat ++ r) {k : Nat} (hk : k < t.args.length) : xs.drop (i + 1 + (flats (t.args.take k)).length) = t.args[k].flat ++ (flats (t.args.drop (k + 1)) ++ r) := by
  have hs : t.args = t.args.take k ++ (t.args[k] :: t.args.drop (k + 1)) := by
    rw [← List.drop_eq_getElem_cons hk, List.take_append_drop]
  have hf : flats t.args = flats (t.args.take k) ++ (t.args[k].flat ++ flats (t.args.drop (k + 1))) := by
    conv => lhs; rw [hs]
    rw [flats_append]; rfl
  rw [Nat.add_assoc, ← List.drop_drop, h, flat_cons t, hf, Nat.add_comm 1, List.cons_append, List.drop_succ_cons, List.append_assoc, List.drop_left, List.append_assoc]
theorem depths_take (t : Tm) {k : Nat} (hk : k < t.args.length) : depths (t.args.take (k + 1)) = max (depths (t.args.take k)) t.args[k].depth := by
  rw [List.take_succ_eq_append_getElem hk, depths_append]; simp [depths]
theorem flats_take (t : Tm) {k : Nat} (hk : k < t.args.length) : (flats (t.args.take (k + 1))).length = (flats (t.args.take k)).length + t.args[k].flat.length := by
  rw [List.take_succ_eq_append_getElem hk, flats_append]; simp [flats]
theorem depths_small (t : Tm) (k : Nat) (h : t.flat.length ≤ 1000) : depths (t.args.take k) ≤ 1000 := by
  have h1 := depths_le (t.args.take k)
  have hs : t.args = t.args.take k ++ t.args.drop k := (List.take_append_drop _ _).symm
  have := congrArg List.length (congrArg flats hs)
  rw [flats_append, List.length_append] at this
  rw [flat_cons t, List.length_cons] at h
  omega

theorem args_le6 {t : Tm} (h : t.ok) : t.args.length ≤ 6 := by
  have h := (ok_iff t).1 h
  rw [h.2.1]; exact ar_le _ h.1

set_option maxHeartbeats 1600000 in
theorem depthc_any (xs : List Cel) (a : Option Addr) (cap b0 b1 b2 : Nat) (_h01 : ¬ b0 = b1) (_h10 : ¬ b1 = b0) (_h12 : ¬ b1 = b2) (_h21 : ¬ b2 = b1) (hl : xs.length ≤ 200) (n : Nat) : ∀ (t : Tm) (i : Nat) (r : List Cel) (w : World), t.flat.length ≤ n → t.ok → xs.drop i = t.flat ++ r →
    Row (hide (some b1) w) a cap xs → (hide (some b1) w).cell? ⟨b0, 0, none⟩ = some (.slice a xs.length cap) → w.heap[b1]? = some (.cells #[.int .i64 i] 3 (0, 0)) →
    (hide (some b1) w).cell? ⟨b2, 0, none⟩ = some (.func (.func 54) #[] #[.pointer (some ⟨b0, 0, none⟩), .pointer (some ⟨b1, 0, none⟩), .pointer (some ⟨b2, 0, none⟩)]) →
    Calls Tryz.prog 54 #[.pointer (some ⟨b0, 0, none⟩), .pointer (some ⟨b1, 0, none⟩), .pointer (some ⟨b2, 0, none⟩)] w fun e w' => e = .returned (.int .i64 t.depth) ∧ w.grownBy w' (some b1) ∧ w'.heap[b1]? = some (.cells #[.int .i64 ((i + t.flat.length : Nat) : Int)] 3 (0, 0)) := by
  induction n with
  | zero => intro t i r w hn; have := flat_pos t; omega
  | succ n ih =>
    intro t i r w hn ht hd hR h0 h1 h2
    have hm := hR.max
    have hle := hR.le
    have hlen := congrArg List.length hd
    rw [List.length_drop, List.length_append] at hlen
    have hfp := flat_pos t
    have hi : i < xs.length := by omega
    have hx : xs[i] = t.hd := by
      have := (List.drop_eq_getElem_cons hi).symm.trans (hd.trans (by rw [flat_cons, List.cons_append]))
      exact (List.cons.inj this).1
    obtain ⟨b, off, rfl, hb, hat⟩ := hR.cases.resolve_left (fun e => by simp [e] at hi)
    obtain ⟨c0, c1, c2, hf⟩ := (cel_at hat (Below.refl _ _) hi).keeps (hide_keeps _ _)
    have k0 := hide_keeps _ _ _ _ _ h0
    have k2 := hide_keeps _ _ _ _ _ h2
    have k1 : w.cell? ⟨b1, 0, none⟩ = some (.int .i64 i) := by simp [World.cell?, h1]
    have hfz : w.frozen? ⟨b1, 0, none⟩ = false := by simp [World.frozen?, h1]
    have hlt1 := cell_lt k1
    have hargs := args_le6 ht
    have hd0 := depths_small t t.args.length (by omega)
    rw [List.take_length] at hd0
    have hH := mkHid h1
    have HA : Hid (arI t.hd = t.args.length) := by
      have h := (ok_iff t).1 ht
      rw [Hid, arI_ar h.1, h.2.1]
    clear h1
    go_enter Tryz.func54, Tryz.ntmps54
    go_wp2_with (go_at_call 55; refine (arguments_any t.hd _).mono ?_; rintro e w1 ⟨rfl, hb1⟩; rw [HA.out])
    have g1 : w.grownBy w1 (some b1) := grown_trans (grown_trans (grown_set w b1 0 _) (World.grownBy_alloc _ _ _)) (below_grown hb1 _)
    have p1 : Hid (w1.heap[b1]? = some (.cells #[.int .i64 ((i + 1 + (flats (t.args.take 0)).length : Nat) : Int)] 3 (0, 0))) := by
      have q := one_setCell (u := .int .i64 ((i : Int) + 1)) hH.out
      have q2 := (Below.heap_alloc _ (.cells #[.int .i64 t.hd.k, .string t.hd.s, .int .i64 t.hd.n] 42) b1 (lt_of_block q)).trans q
      exact (hb1.block b1 (lt_of_block q2)).trans q2
    clear hH k0 k1 k2 hfz c0 c1 c2
    go_loopw [5, 14] (fun m j wr => ∃ (k : Nat), k ≤ t.args.length ∧ j = .int .i64 k ∧ m = .int .i64 (depths (t.args.take k)) ∧ w.grownBy wr (some b1) ∧ Hid (wr.heap[b1]? = some (.cells #[.int .i64 ((i + 1 + (flats (t.args.take k)).length : Nat) : Int)] 3 (0, 0)))) (fun m j wr => t.args.length - (intOf j).toNat)
    case atStart => exact ⟨0, Nat.zero_le _, rfl, rfl, g1, p1⟩
    case round =>
      obtain ⟨k, hk, rfl, rfl, hg, hp⟩ := hrel
      have hG := grown_keeps hg
      have h0' := hG _ _ _ h0
      have h2' := hG _ _ _ h2
      have hR' := hR.keeps hG
      have q2 := hide_keeps _ _ _ _ _ h2'
      have hd1 := depths_small t k (by omega)
      by_cases hlt : k < t.args.length
      · have hsm := flat_arg_lt (List.getElem_mem hlt)
        have hok := oks_mem ((ok_iff t).1 ht).2.2 _ (List.getElem_mem hlt)
        have hda := drop_arg hd hlt
        have hT := mkHid (depths_take t hlt)
        have hF := mkHid (flats_take t hlt)
        have hd2 := depth_le t.args[k]
        by_cases hmx : depths (t.args.take k) < t.args[k].depth
        · have hT' : Hid (depths (t.args.take (k + 1)) = t.args[k].depth) := by rw [Hid, hT.out]; omega
          go_wp2_with (go_at_call 54; refine (ih t.args[k] _ _ _ (by omega) hok hda hR' h0' hp.out h2').mono ?_; rintro e w3 ⟨rfl, hg3, hp3⟩; have hp4 := mkHid hp3; clear hp3)
          go_round
          case rel => exact ⟨k + 1, by omega, by go_num, by rw [hT'.out], grown_trans hg hg3, by rw [Hid, hp4.out, hF.out]; congr 5; omega⟩
          case measure => simp [intOf]; omega
        · have hT' : Hid (depths (t.args.take (k + 1)) = depths (t.args.take k)) := by rw [Hid, hT.out]; omega
          go_wp2_with (go_at_call 54; refine (ih t.args[k] _ _ _ (by omega) hok hda hR' h0' hp.out h2').mono ?_; rintro e w3 ⟨rfl, hg3, hp3⟩; have hp4 := mkHid hp3; clear hp3)
          go_round
          case rel => exact ⟨k + 1, by omega, by go_num, by rw [hT'.out], grown_trans hg hg3, by rw [Hid, hp4.out, hF.out]; congr 5; omega⟩
          case measure => simp [intOf]; omega
      · obtain rfl : k = t.args.length := by omega
        have hD : Hid (((depths t.args : Nat) : Int) + 1 = t.depth) := by rw [Hid, depth_eq]; omega
        have hE : Hid (i + 1 + (flats (t.args.take t.args.length)).length = i + t.flat.length) := by rw [Hid, List.take_length, flat_cons t, List.length_cons]; omega
        go_wp2
        go_ret
        exact ⟨ret_int hD.out, hg, by rw [← hE.out]; exact hp.out⟩
end Go.Proofs.YtmmnfkggfnokjaaGreat
namespace Go.Proofs.YtmmnfkggfnokjaaGreat
open Go.RowKit

set_option maxHeartbeats 800000 in
theorem depth_any (t : Tm) (ht : t.ok) (h200 : t.flat.length ≤ 200) (a : Option Addr) (cap : Nat) (w : World) (hr : Row w a cap t.flat) :
    Calls Tryz.prog 30 #[.slice a t.flat.length cap] w fun e w' => e = .returned (.int .i64 t.depth) ∧ Below w.heap.size w w' := by
  have hmf : ∀ (fn : Fn) (first cap : Array Value) (w : World), (Instr.makeFunc fn first cap).run Tryz.prog w = .ok (.func fn first cap) w := fun _ _ _ _ => rfl
  have hm := hr.max
  have hle := hr.le
  have HR := mkHid (right_flat ht h200)
  have hb0 := (Below.refl w.heap.size w).new (.cells #[.slice a t.flat.length cap] 23)
  go_enter Tryz.func30, Tryz.ntmps30
  go_wp2_with (first
    | (go_at_call 28; refine (right_any _ cap _ t.flat (hr.below hb0)).mono ?_; rintro e w1 ⟨rfl, hb1⟩; rw [HR.out]; have d0 : w1.cell? ⟨w.heap.size, 0, none⟩ = some (.slice a t.flat.length cap) := keep (by go_simp) hb1; have hsz := hb1.size; simp only [World.size_alloc] at hsz))
  have hl0 := cell_lt d0
  refine (depthc_any t.flat a cap w.heap.size w1.heap.size (w1.heap.size + 1) (by omega) (by omega) (by omega) (by omega) h200 t.flat.length t 0 [] _ (Nat.le_refl _) ht (by simp) ?_ ?_ ?_ ?_).mono ?_
  · exact (hr.below (hb0.then hb1)).keeps (fresh_keeps (Keeps.of (((Below.refl _ _).new _).new _)) (Nat.le_refl _))
  · exact fresh_keeps (Keeps.of (((Below.refl _ _).new _).new _)) (Nat.le_refl _) _ _ _ d0
  · exact (Below.heap_alloc _ _ _ (by simp)).trans (heap_alloc_new w1 _)
  · exact hide_of_ne (by omega) (by go_simp)
  rintro e w2 ⟨rfl, hg, _⟩
  go_wp2
  go_ret
  have hb4 := ((hb0.then hb1).new (.cells #[.int .i64 0] 3)).new (.cells #[.func (.func 54) #[] #[.pointer (some ⟨w.heap.size, 0, none⟩), .pointer (some ⟨w1.heap.size, 0, none⟩), .pointer (some ⟨w1.heap.size + 1, 0, none⟩)]] 65)
  exact ⟨rfl, hb4.trans (grown_at hg hb4.size (by omega))⟩

set_option maxHeartbeats 800000 in
theorem refdepth_any (n : Nat) : ∀ (t : Tm) (a : Option Addr) (cap : Nat) (w : World), t.flat.length ≤ n → t.ok → t.flat.length ≤ 200 → Row w a cap t.flat →
    Calls Tryz.prog 33 #[.slice a t.flat.length cap] w fun e w' => e = .returned (.int .i64 t.depth) ∧ Below w.heap.size w w' := by
  induction n with
  | zero => intro t a cap w hn; have := flat_pos t; omega
  | succ n ih =>
    intro t a cap w hn ht h200 hr
    have HR := mkHid (right_flat ht h200)
    have HP : Hid (partsL t.flat = t.args.map Tm.flat) := parts_flat ht
    have hargs := args_le6 ht
    have hd0 := depths_small t t.args.length (by omega)
    rw [List.take_length] at hd0
    go_enter Tryz.func33, Tryz.ntmps33
    go_wp2_with (go_at_call 58; refine (refparts_any a cap _ t.flat hr HR.out).mono ?_; rintro e w1 ⟨a', cap', rfl, hr1, hb1⟩; rw [HP.out] at hr1 ⊢; rw [List.length_map])
    go_loopw [4, 5] (fun m j wr => ∃ (k : Nat), k ≤ t.args.length ∧ j = .int .i64 k ∧ m = .int .i64 (depths (t.args.take k)) ∧ Below w1.heap.size w1 wr) (fun m j wr => t.args.length - (intOf j).toNat)
    case atStart => exact ⟨0, Nat.zero_le _, rfl, rfl, Below.refl _ _⟩
    case round =>
      obtain ⟨k, hk, rfl, rfl, hbl⟩ := hrel
      have hd1 := depths_small t k (by omega)
      by_cases hlt : k < t.args.length
      · have hlt' : k < (t.args.map Tm.flat).length := by simpa using hlt
        obtain ⟨b, off, rfl, hb, hat⟩ := hr1.cases.resolve_left (fun e => by rw [e] at hlt'; simp at hlt')
        obtain ⟨a1, cap1, c0, hr2⟩ := list_at hat hbl hlt'
        rw [List.getElem_map] at c0 hr2
        have hsm := flat_arg_lt (List.getElem_mem hlt)
        have hok := oks_mem ((ok_iff t).1 ht).2.2 _ (List.getElem_mem hlt)
        have hT := mkHid (depths_take t hlt)
        have hd2 := depth_le t.args[k]
        by_cases hmx : depths (t.args.take k) < t.args[k].depth
        · have hT' : Hid (depths (t.args.take (k + 1)) = t.args[k].depth) := by rw [Hid, hT.out]; omega
          go_wp2_with (go_at_call 33; refine (ih t.args[k] _ _ _ (by omega) hok (by omega) hr2).mono ?_; rintro e w3 ⟨rfl, hb3⟩)
          go_round
          case rel => exact ⟨k + 1, by omega, by go_num, by rw [hT'.out], hbl.then hb3⟩
          case measure => simp [intOf]; omega
        · have hT' : Hid (depths (t.args.take (k + 1)) = depths (t.args.take k)) := by rw [Hid, hT.out]; omega
          go_wp2_with (go_at_call 33; refine (ih t.args[k] _ _ _ (by omega) hok (by omega) hr2).mono ?_; rintro e w3 ⟨rfl, hb3⟩)
          go_round
          case rel => exact ⟨k + 1, by omega, by go_num, by rw [hT'.out], hbl.then hb3⟩
          case measure => simp [intOf]; omega
      · obtain rfl : k = t.args.length := by omega
        have hD : Hid (((depths t.args : Nat) : Int) + 1 = t.depth) := by rw [Hid, depth_eq]; omega
        go_wp2
        go_ret
        exact ⟨ret_int hD.out, hb1.then hbl⟩
end Go.Proofs.YtmmnfkggfnokjaaGreat
namespace Go.Proofs.YtmmnfkggfnokjaaGreat
open Go.RowKit

/-- cells changed one by one: the first k of them -/
def upTo (f : Cel → Cel) (xs : List Cel) (k : Nat) : List Cel := (xs.take k).map f ++ xs.drop k
theorem upTo_length (f : Cel → Cel) (xs : List Cel) (k : Nat) : (upTo f xs k).length = xs.length := by
  simp [upTo]; omega
theorem upTo_zero (f : Cel → Cel) (xs : List Cel) : upTo f xs 0 = xs := by simp [upTo]
theorem upTo_all (f : Cel → Cel) (xs : List Cel) {k : Nat} (h : xs.length ≤ k) : upTo f xs k = xs.map f := by
  simp [upTo, List.take_of_length_le h, List.drop_eq_nil_of_le h]
theorem upTo_at (f : Cel → Cel) (xs : List Cel) {k : Nat} (h : k < xs.length) : (upTo f xs k)[k]? = some xs[k] := by
  unfold upTo
  rw [List.getElem?_append_right (by simp; omega), List.length_map, List.length_take, Nat.min_eq_left (Nat.le_of_lt h), Nat.sub_self, List.getElem?_drop]
  simp
theorem upTo_succ (f : Cel → Cel) (xs : List Cel) {k : Nat} (h : k < xs.length) : upTo f xs (k + 1) = (upTo f xs k).set k (f xs[k]) := by
  unfold upTo
  rw [List.take_succ_eq_append_getElem h, List.map_append, List.drop_eq_getElem_cons h, List.append_assoc]
  rw [List.set_append_right _ _ (by simp; omega), List.length_map, List.length_take, Nat.min_eq_left (Nat.le_of_lt h), Nat.sub_self]
  rfl
theorem upTo_same (f : Cel → Cel) (xs : List Cel) {k : Nat} (h : k < xs.length) (e : f xs[k] = xs[k]) : upTo f xs (k + 1) = upTo f xs k := by
  rw [upTo_succ f xs h, e]
  refine List.ext_getElem? fun i => ?_
  rw [List.getElem?_set]
  split
  · rename_i hi
    subst hi
    rw [if_pos (by rw [upTo_length]; exact h), upTo_at f xs h]
  · rfl
theorem flat_set (xs : List Cel) (i : Nat) (hi : i < xs.length) (m : Int) : (flat xs).set (i * 3 + 2) (.int .i64 m) = flat (xs.set i { xs[i] with n := m }) := by
  induction xs generalizing i with
  | nil => simp at hi
  | cons c xs ih =>
    cases i with
    | zero => simp [flat]
    | succ i =>
      have := ih i (by simpa using hi)
      have hf : flat (c :: xs) = .int .i64 c.k :: .string c.s :: .int .i64 c.n :: flat xs := rfl
      rw [hf, show (i + 1) * 3 + 2 = i * 3 + 2 + 1 + 1 + 1 by omega]
      simp only [List.set_cons_succ, List.getElem_cons_succ]
      rw [this]; rfl
theorem wrap64_range (n : Int) : -9223372036854775808 ≤ wrap64 n ∧ wrap64 n ≤ 9223372036854775807 := by
  unfold wrap64; omega
/-- one variable shifted -/
def shiftC (d : Int) (c : Cel) : Cel := if c.k = 1 then { c with n := wrap64 (c.n + d) } else c
def shiftL (xs : List Cel) (d : Int) : List Cel := if rightB (xs.map (shiftC d)) then xs.map (shiftC d) else []
theorem shiftC_fit {d : Int} {c : Cel} (h : c.fit) : (shiftC d c).fit := by
  unfold shiftC
  have hw := wrap64_range (c.n + d)
  split
  · exact ⟨h.k1, h.k2, hw.1, hw.2, h.s⟩
  · exact h
theorem upTo_fit {f : Cel → Cel} {xs : List Cel} {k : Nat} (hf : ∀ c ∈ xs, c.fit) (h : ∀ c : Cel, c.fit → (f c).fit) : ∀ c ∈ upTo f xs k, c.fit := by
  intro c hc
  unfold upTo at hc
  rcases List.mem_append.1 hc with h1 | h1
  · obtain ⟨d, hd, rfl⟩ := List.mem_map.1 h1
    exact h d (hf d (List.mem_of_mem_take hd))
  · exact hf c (List.mem_of_mem_drop h1)
/-- a row of the call's own that holds something -/
theorem own_form {w : World} {B e size : Nat} {v : Value} {n : Nat} {vs : List Value} (h : w.ownsRow B e size v n vs) (hn : 0 < n) :
    ∃ g cap, v = .slice (some ⟨g, 0, none⟩) n cap ∧ B ≤ g ∧ g < w.heap.size ∧ n ≤ cap ∧ cap ≤ 9223372036854775807 := by
  rcases h.2 with ⟨_, h0⟩ | ⟨g, cap, cur, rfl, hb, hg, hc, hm, _⟩
  · omega
  · exact ⟨g, cap, rfl, hb, (Array.getElem?_eq_some_iff.1 hg).1, hc, by unfold maxLen at hm; omega⟩
theorem own_cel {w : World} {B e g n cap : Nat} {ys : List Cel} (h : w.ownsRow B e 3 (.slice (some ⟨g, 0, none⟩) n cap) n (flat ys)) {k : Nat} {c : Cel} (hc : ys[k]? = some c) :
    w.cell? ⟨g, k * 3, none⟩ = some (.int .i64 c.k) ∧ w.cell? ⟨g, k * 3 + 1, none⟩ = some (.string c.s) ∧ w.cell? ⟨g, k * 3 + 2, none⟩ = some (.int .i64 c.n) := by
  have hl : k < ys.length := (List.getElem?_eq_some_iff.1 hc).1
  have he : ys[k] = c := by rw [List.getElem?_eq_getElem hl] at hc; exact Option.some.inj hc
  obtain ⟨f0, f1, f2⟩ := flat_at ys k hl
  rw [he] at f0 f1 f2
  exact ⟨own_cells h _ _ f0, own_cells h _ _ f1, own_cells h _ _ f2⟩
/-- one number stored into a row of cells -/
theorem own_store {w : World} {B e g n cap : Nat} {f : Cel → Cel} {xs : List Cel} {k : Nat} (h : w.ownsRow B e 3 (.slice (some ⟨g, 0, none⟩) n cap) n (flat (upTo f xs k))) (hk : k < xs.length) {m : Int} (hf : f xs[k] = ⟨xs[k].k, xs[k].s, m⟩) :
    (w.setCell ⟨g, k * 3 + 2, none⟩ (.int .i64 m)).ownsRow B e 3 (.slice (some ⟨g, 0, none⟩) n cap) n (flat (upTo f xs (k + 1))) := by
  have := (h.stored (k * 3 + 2) (.int .i64 m)).1
  have hl : k < (upTo f xs k).length := by rw [upTo_length]; exact hk
  have he : (upTo f xs k)[k] = xs[k] := by
    have := upTo_at f xs hk; rw [List.getElem?_eq_getElem hl] at this; exact Option.some.inj this
  rw [flat_set _ _ hl, he] at this
  have hf' : f xs[k] = { xs[k] with n := m } := hf
  rw [← hf', ← upTo_succ f xs hk] at this
  exact this
theorem own_free {w : World} {B e size g n cap : Nat} {vs : List Value} (h : w.ownsRow B e size (.slice (some ⟨g, 0, none⟩) n cap) n vs) (j : Nat) : w.frozen? ⟨g, j, none⟩ = false := h.frozenAt j
end Go.Proofs.YtmmnfkggfnokjaaGreat
namespace Go.Proofs.YtmmnfkggfnokjaaGreat
open Go.RowKit

end Go.Proofs.YtmmnfkggfnokjaaGreat
namespace Go.Proofs.YtmmnfkggfnokjaaGreat
open Go.RowKit

theorem varsGo_nodup (xs : List Cel) : ∀ acc : List Int, acc.Nodup → (varsGo acc xs).Nodup := by
  induction xs with
  | nil => intro acc h; exact h
  | cons c l ih =>
    intro acc h
    refine ih _ ?_
    split
    · rename_i hc
      rw [List.nodup_append]
      refine ⟨h, by simp, ?_⟩
      intro a ha b hb
      simp at hb
      subst hb
      intro e; subst e
      exact hc.2 ha
    · exact h
theorem varsGo_sub (xs : List Cel) : ∀ (acc : List Int) (n : Int), n ∈ acc → n ∈ varsGo acc xs := by
  induction xs with
  | nil => intro acc n h; exact h
  | cons c l ih =>
    intro acc n h
    refine ih _ _ ?_
    split
    · exact List.mem_append_left _ h
    · exact h
theorem mem_varsGo (xs : List Cel) : ∀ (acc : List Int), ∀ c ∈ xs, c.k = 1 → c.n ∈ varsGo acc xs := by
  induction xs with
  | nil => intro acc c h; simp at h
  | cons d l ih =>
    intro acc c h hc
    rcases List.mem_cons.1 h with rfl | h
    · simp only [varsGo]
      refine varsGo_sub _ _ _ ?_
      split
      · simp
      · rename_i h1
        by_cases h2 : c.n ∈ acc
        · exact h2
        · exact absurd ⟨hc, h2⟩ h1
    · exact ih _ c h hc
/-- one variable numbered -/
def numC (vs : List Int) (c : Cel) : Cel := if c.k = 1 then ⟨c.k, c.s, placeI vs c.n⟩ else c
def numL (xs : List Cel) : List Cel := xs.map (numC (varsL xs))
theorem placeI_range (vs : List Int) (n : Int) (h : vs.length ≤ 1000000) : -1 ≤ placeI vs n ∧ placeI vs n ≤ 1000000 := by
  unfold placeI
  split
  · have := List.idxOf_le_length (a := n) (l := vs); omega
  · omega
theorem numC_fit {vs : List Int} {c : Cel} (hv : vs.length ≤ 1000000) (h : c.fit) : (numC vs c).fit := by
  unfold numC
  have := placeI_range vs c.n hv
  split
  · exact ⟨h.k1, h.k2, by show -9223372036854775808 ≤ placeI vs c.n; omega, by show placeI vs c.n ≤ 9223372036854775807; omega, h.s⟩
  · exact h
/-- what a map of the first k places says -/
def placeF (vs : List Int) (k : Nat) : Int → Int := fun i => if i ∈ vs.take k then (vs.idxOf i : Int) else 0
theorem placeF_succ {vs : List Int} (hn : vs.Nodup) {k : Nat} (hk : k < vs.length) : (fun j => if j = vs[k] then ((k : Nat) : Int) else placeF vs k j) = placeF vs (k + 1) := by
  funext j
  have hiff : j ∈ vs.take (k + 1) ↔ j ∈ vs.take k ∨ j = vs[k] := by
    rw [List.take_succ_eq_append_getElem hk, List.mem_append, List.mem_singleton]
  unfold placeF
  by_cases e : j = vs[k]
  · have h1 : vs.idxOf vs[k] = k := hn.idxOf_getElem k hk
    rw [if_pos e, if_pos (hiff.2 (.inr e)), e, h1]
  · rw [if_neg e]
    by_cases h2 : j ∈ vs.take k
    · rw [if_pos h2, if_pos (hiff.2 (.inl h2))]
    · rw [if_neg h2, if_neg (fun h => (hiff.1 h).elim h2 e)]
theorem placeF_all {vs : List Int} {k : Nat} (hk : vs.length ≤ k) {i : Int} (hi : i ∈ vs) : placeF vs k i = placeI vs i := by
  unfold placeF placeI
  rw [List.take_of_length_le hk, if_pos hi, if_pos hi]
theorem Tryz.zeroInt (w : World) : (zeroValue 3).run Tryz.prog w = .ok (.int .i64 0) w := by kernel_rfl

theorem map_hide {w : World} {P : Program} {k e : TypeId} {b n : Nat} {f : Int → Int} (h : MapII P k e w b n f) : Keeps w (hide (some b) w) := by
  obtain ⟨D, ⟨es, clock, hb, _⟩, _⟩ := h
  intro b' o v hc
  refine hide_of_ne (fun e => ?_) hc
  subst e
  simp [World.cell?, hb] at hc

theorem own_mono {w : World} {B B' e size : Nat} {v : Value} {n : Nat} {vs : List Value} (h : w.ownsRow B e size v n vs) (hB : B' ≤ B) : w.ownsRow B' e size v n vs := by
  refine ⟨h.1, ?_⟩
  rcases h.2 with h | ⟨g, cap, cur, e, hb, rest⟩
  · exact .inl h
  · exact .inr ⟨g, cap, cur, e, Nat.le_trans hB hb, rest⟩

end Go.Proofs.YtmmnfkggfnokjaaGreat
namespace Go.Proofs.YtmmnfkggfnokjaaGreat
open Go.RowKit

/-- what a name and arguments make -/
def madeL (nm : ByteArray) (l : List (List Cel)) : List Cel := ⟨3, nm, l.length⟩ :: l.flatten
def makeL (nm : ByteArray) (l : List (List Cel)) : List Cel := if l.all rightB && rightB (madeL nm l) then madeL nm l else []
theorem right_len {xs : List Cel} (h : rightB xs = true) : xs.length ≤ 200 := by
  obtain ⟨_, _, _, _, _, h200⟩ := right_sk h
  exact h200
theorem make_bad {nm : ByteArray} {l : List (List Cel)} {k : Nat} (hk : k < l.length) (h : rightB l[k] = false) : makeL nm l = [] := by
  unfold makeL
  rw [if_neg]
  intro h2
  simp only [Bool.and_eq_true, List.all_eq_true] at h2
  have := h2.1 _ (List.getElem_mem hk)
  rw [h] at this; cases this
theorem make_head {nm : ByteArray} {l : List (List Cel)} (h : cellOk ⟨3, nm, l.length⟩ = false) : makeL nm l = [] := by
  unfold makeL
  rw [if_neg]
  intro h2
  simp only [Bool.and_eq_true] at h2
  obtain ⟨c, r, e, hc, _⟩ := right_sk h2.2
  unfold madeL at e
  rw [← (List.cons.inj e).1, h] at hc; cases hc
theorem all_take {l : List (List Cel)} {k : Nat} (hk : k < l.length) (h : (l.take k).all rightB = true) (h2 : rightB l[k] = true) : (l.take (k + 1)).all rightB = true := by
  rw [List.take_succ_eq_append_getElem hk, List.all_append, h]; simp [h2]
theorem flatten_take {l : List (List Cel)} {k : Nat} (hk : k < l.length) : (l.take (k + 1)).flatten = (l.take k).flatten ++ l[k] := by
  rw [List.take_succ_eq_append_getElem hk, List.flatten_append]; simp
theorem made_length {l : List (List Cel)} (h : l.all rightB = true) : l.flatten.length ≤ 200 * l.length := by
  induction l with
  | nil => simp
  | cons p l ih =>
    simp only [List.all_cons, Bool.and_eq_true] at h
    obtain ⟨_, _, _, _, _, h200⟩ := right_sk h.1
    have := ih h.2
    simp only [List.flatten_cons, List.length_append, List.length_cons]; omega

/-- what holds when k arguments stand behind the name -/
structure MakeInv (w : World) (nm : ByteArray) (l : List (List Cel)) (k : Nat) (v : Value) (wr : World) : Prop where
  all : (l.take k).all rightB = true
  own : wr.ownsRow w.heap.size 42 3 v (1 + (l.take k).flatten.length) (flat (⟨3, nm, l.length⟩ :: (l.take k).flatten))
  bel : Below w.heap.size w wr
  fit : Hid (∀ c ∈ (l.take k).flatten, c.fit)

end Go.Proofs.YtmmnfkggfnokjaaGreat
namespace Go.Proofs.YtmmnfkggfnokjaaGreat
open Go.RowKit

def oneL : List Cel := [⟨3, ⟨#[102]⟩, 3⟩, ⟨1, ⟨#[]⟩, 3⟩, ⟨3, ⟨#[103]⟩, 1⟩, ⟨1, ⟨#[]⟩, 1⟩, ⟨1, ⟨#[]⟩, 3⟩]
def oneT : Tm := .mk ⟨3, ⟨#[102]⟩, 3⟩ [.mk ⟨1, ⟨#[]⟩, 3⟩ [], .mk ⟨3, ⟨#[103]⟩, 1⟩ [.mk ⟨1, ⟨#[]⟩, 1⟩ []], .mk ⟨1, ⟨#[]⟩, 3⟩ []]
theorem one_right : rightB oneL = true := by decide +kernel
theorem one_flat : oneT.flat = oneL := by simp [oneT, Tm.flat, flats, oneL]
theorem one_ok : oneT.ok := by simp [oneT, Tm.ok, oks]; decide +kernel
theorem one_depth : oneT.depth = 3 := by simp [oneT, Tm.depth, depths]
theorem one_parts : partsL oneL = [[⟨1, ⟨#[]⟩, 3⟩], [⟨3, ⟨#[103]⟩, 1⟩, ⟨1, ⟨#[]⟩, 1⟩], [⟨1, ⟨#[]⟩, 3⟩]] := by decide +kernel
theorem one_vars : varsL oneL = [3, 1] := by decide +kernel
theorem one_num : numL oneL = [⟨3, ⟨#[102]⟩, 3⟩, ⟨1, ⟨#[]⟩, 0⟩, ⟨3, ⟨#[103]⟩, 1⟩, ⟨1, ⟨#[]⟩, 1⟩, ⟨1, ⟨#[]⟩, 0⟩] := by decide +kernel
theorem one_shift : shiftL oneL 2 = [⟨3, ⟨#[102]⟩, 3⟩, ⟨1, ⟨#[]⟩, 5⟩, ⟨3, ⟨#[103]⟩, 1⟩, ⟨1, ⟨#[]⟩, 3⟩, ⟨1, ⟨#[]⟩, 5⟩] := by decide +kernel
theorem one_shift997 : shiftL oneL 997 = [] := by decide +kernel
theorem one_cut : rightB [⟨3, ⟨#[102]⟩, 3⟩, ⟨1, ⟨#[]⟩, 3⟩, ⟨3, ⟨#[103]⟩, 1⟩, ⟨1, ⟨#[]⟩, 1⟩] = false := by decide +kernel
theorem nil_right : rightB [] = false := by decide +kernel
theorem one_ground : groundB oneL = false := by decide +kernel
theorem make_a : makeL ⟨#[97]⟩ [] = [⟨3, ⟨#[97]⟩, 0⟩] := by decide +kernel
theorem make_none : makeL ⟨#[]⟩ [] = [] := by decide +kernel
theorem comp_a7 : compP [⟨3, ⟨#[97]⟩, 0⟩] [⟨2, ⟨#[]⟩, 7⟩] = 1 := by decide +kernel
theorem comp_77 : compP [⟨2, ⟨#[]⟩, 7⟩] [⟨2, ⟨#[]⟩, 7⟩] = 0 := by decide +kernel
theorem ground_a : groundB [⟨3, ⟨#[97]⟩, 0⟩] = true := by decide +kernel

end Go.Proofs.YtmmnfkggfnokjaaGreat
namespace Go.Proofs.YtmmnfkggfnokjaaGreat
open Go.RowKit

theorem later_of {w0 : World} {x : Later w0} {w' : World} (h : Below x.w'.heap.size x.w' w') : ∃ y : Later w0, w' = y.w' := ⟨⟨w', x.ok.then h⟩, rfl⟩
theorem later_first {w0 w' : World} (h : Below w0.heap.size w0 w') : ∃ y : Later w0, w' = y.w' := ⟨⟨w', h⟩, rfl⟩
theorem nilRow {α : Type} [Rep α] (w : World) : Row w none 0 ([] : List α) := Row.empty _ _ _ (by omega) (fun _ => rfl)

section lit
variable {n : Nat} {xs : List Cel} {a : Option Addr} {cap : Nat} {w : World}
theorem right_lit (hn : n = xs.length) (hr : Row w a cap xs) {b : Bool} (hb : rightB xs = b) :
    Calls Tryz.prog 28 #[.slice a n cap] w fun e w' => e = .returned (.bool b) ∧ Below w.heap.size w w' := by
  subst hn; subst hb; exact right_any a cap w xs hr
theorem vars_lit (hn : n = xs.length) (hr : Row w a cap xs) (hl : xs.length ≤ 1000000) {m : Nat} {ps : List Int} (hp : varsL xs = ps) (hm : m = ps.length) :
    Calls Tryz.prog 68 #[.slice a n cap] w fun e w' => ∃ a' cap', e = .returned (.slice a' m cap') ∧ Row w' a' cap' ps ∧ Below w.heap.size w w' := by
  subst hn; subst hm; subst hp; exact vars_any a cap w xs hr hl
theorem ground_lit (hn : n = xs.length) (hr : Row w a cap xs) {b : Bool} (hb : groundB xs = b) :
    Calls Tryz.prog 29 #[.slice a n cap] w fun e w' => e = .returned (.bool b) ∧ Below w.heap.size w w' := by
  subst hn; subst hb; exact ground_any a cap w xs hr
theorem compare_lit {m : Nat} {ys : List Cel} {a' : Option Addr} {cap' : Nat} (hn : n = xs.length) (hr : Row w a cap xs) (hm : m = ys.length) (hr' : Row w a' cap' ys) {d : Int} (hd : compP xs ys = d) :
    Calls Tryz.prog 34 #[.slice a n cap, .slice a' m cap'] w fun e w' => e = .returned (.int .i64 d) ∧ Below w.heap.size w w' := by
  subst hn; subst hm; subst hd; exact compare_any a cap a' cap' w xs ys hr hr'
theorem same_lit {m : Nat} {ys : List Cel} {a' : Option Addr} {cap' : Nat} (hn : n = xs.length) (hr : Row w a cap xs) (hm : m = ys.length) (hr' : Row w a' cap' ys) {d : Bool} (hd : decide (xs = ys) = d) :
    Calls Tryz.prog 42 #[.slice a n cap, .slice a' m cap'] w fun e w' => e = .returned (.bool d) ∧ Below w.heap.size w w' := by
  subst hn; subst hm; subst hd; exact same_any a cap a' cap' w xs ys hr hr'
theorem depth_lit {t : Tm} (hx : t.flat = xs) (ht : t.ok) (hn : n = xs.length) (hl : xs.length ≤ 200) (hr : Row w a cap xs) {d : Nat} (hd : t.depth = d) :
    Calls Tryz.prog 30 #[.slice a n cap] w fun e w' => e = .returned (.int .i64 d) ∧ Below w.heap.size w w' := by
  subst hn; subst hx; subst hd; exact depth_any t ht hl a cap w hr
end lit

end Go.Proofs.YtmmnfkggfnokjaaGreat
namespace Go.Proofs.YtmmnfkggfnokjaaGreat
open Go.RowKit

theorem flatten_flat (ts : List Tm) : (ts.map Tm.flat).flatten = flats ts := by
  induction ts with
  | nil => rfl
  | cons t ts ih => simp [flats, ih]
theorem args_right {t : Tm} (h : t.ok) (h200 : t.flat.length ≤ 200) {k : Nat} (hk : k < t.args.length) : rightB t.args[k].flat = true := by
  have hs := flat_arg_lt (List.getElem_mem hk)
  exact right_flat (oks_mem ((ok_iff t).1 h).2.2 _ (List.getElem_mem hk)) (by omega)
theorem make_flat {t : Tm} (h : t.ok) (h200 : t.flat.length ≤ 200) (h3 : t.hd.k = 3) : makeL t.hd.s (t.args.map Tm.flat) = t.flat := by
  have h' := (ok_iff t).1 h
  have hm : madeL t.hd.s (t.args.map Tm.flat) = t.flat := by
    unfold madeL
    rw [flatten_flat, flat_cons, List.length_map]
    congr 1
    have hn := arI_ar h'.1
    rw [← h'.2.1] at hn
    unfold arI at hn
    rw [if_pos h3] at hn
    exact (Cel.eq_iff _ _).2 ⟨h3.symm, rfl, hn.symm⟩
  unfold makeL
  rw [hm, if_pos]
  rw [Bool.and_eq_true, List.all_eq_true]
  refine ⟨fun p hp => ?_, right_flat h h200⟩
  obtain ⟨u, hu, rfl⟩ := List.mem_map.1 hp
  obtain ⟨k, hk, rfl⟩ := List.getElem_of_mem hu
  exact args_right h h200 hk
theorem flat_take_le (t : Tm) (k : Nat) : (flats (t.args.take k)).length + 1 ≤ t.flat.length := by
  have hs : t.args = t.args.take k ++ t.args.drop k := (List.take_append_drop _ _).symm
  have := congrArg List.length (congrArg flats hs)
  rw [flats_append, List.length_append] at this
  rw [flat_cons t, List.length_cons]; omega

end Go.Proofs.YtmmnfkggfnokjaaGreat
namespace Go.Proofs.YtmmnfkggfnokjaaGreat
open Go.RowKit

theorem depth_one (t : Tm) : t.depth = 1 ↔ t.flat.length = 1 := by
  rw [depth_eq, flat_cons, List.length_cons]
  cases h : t.args with
  | nil => simp [depths, flats]
  | cons u ts =>
    have h1 := depth_pos u
    have h2 := flat_pos u
    simp only [depths, flats, List.length_append]; omega

theorem varsGo_append (a b : List Cel) : ∀ acc : List Int, varsGo acc (a ++ b) = varsGo (varsGo acc a) b := by
  induction a with
  | nil => intro acc; rfl
  | cons c a ih => intro acc; simp only [List.cons_append, varsGo]; exact ih _
def addL (acc : List Int) : List Int → List Int
  | [] => acc
  | n :: l => addL (if n ∈ acc then acc else acc ++ [n]) l
theorem addL_append (a b : List Int) : ∀ acc : List Int, addL acc (a ++ b) = addL (addL acc a) b := by
  induction a with
  | nil => intro acc; rfl
  | cons c a ih => intro acc; simp only [List.cons_append, addL]; exact ih _
theorem mem_addL (l : List Int) : ∀ (acc : List Int) (n : Int), n ∈ addL acc l ↔ n ∈ acc ∨ n ∈ l := by
  induction l with
  | nil => intro acc n; simp [addL]
  | cons m l ih =>
    intro acc n
    simp only [addL]
    rw [ih, List.mem_cons]
    by_cases hm : m ∈ acc
    · rw [if_pos hm]
      constructor
      · rintro (h | h)
        · exact .inl h
        · exact .inr (.inr h)
      · rintro (h | rfl | h)
        · exact .inl h
        · exact .inl hm
        · exact .inr h
    · rw [if_neg hm, List.mem_append, List.mem_singleton]
      constructor
      · rintro ((h | h) | h)
        · exact .inl h
        · exact .inr (.inl h)
        · exact .inr (.inr h)
      · rintro (h | h | h)
        · exact .inl (.inl h)
        · exact .inl (.inr h)
        · exact .inr h
theorem addL_vars (p : List Cel) : ∀ acc b : List Int, addL acc (varsGo b p) = varsGo (addL acc b) p := by
  induction p with
  | nil => intro acc b; rfl
  | cons c p ih =>
    intro acc b
    simp only [varsGo]
    rw [ih]
    congr 1
    by_cases h1 : c.k = 1
    · by_cases h2 : c.n ∈ b
      · rw [if_neg (by simp [h2]), if_neg]
        intro h; exact h.2 ((mem_addL _ _ _).2 (.inr h2))
      · rw [if_pos ⟨h1, h2⟩, addL_append]
        simp only [addL]
        by_cases h3 : c.n ∈ addL acc b
        · rw [if_pos h3, if_neg (fun h => h.2 h3)]
        · rw [if_neg h3, if_pos ⟨h1, h3⟩]
    · rw [if_neg (fun h => h1 h.1), if_neg (fun h => h1 h.1)]
theorem addL_step (acc l : List Int) {k : Nat} (hk : k < l.length) : addL acc (l.drop k) = addL (if l[k] ∈ acc then acc else acc ++ [l[k]]) (l.drop (k + 1)) := by
  rw [List.drop_eq_getElem_cons hk]; rfl
theorem vars_arg (t : Tm) {k : Nat} (hk : k < t.args.length) : varsGo [] (flats (t.args.take (k + 1))) = addL (varsGo [] (flats (t.args.take k))) (varsL t.args[k].flat) := by
  rw [List.take_succ_eq_append_getElem hk, flats_append, varsGo_append]
  simp only [flats, List.append_nil]
  unfold varsL
  rw [addL_vars]; rfl
theorem vars_hd {t : Tm} (h : ¬ t.hd.k = 1) : varsL t.flat = varsGo [] (flats t.args) := by
  unfold varsL
  rw [flat_cons]
  simp only [varsGo]
  rw [if_neg (fun h' => h h'.1)]
end Go.Proofs.YtmmnfkggfnokjaaGreat
namespace Go.Proofs.YtmmnfkggfnokjaaGreat
open Go.RowKit

theorem comp_prefix (xs : List Cel) : ∀ ys : List Cel, compP xs ys = compR xs ys ∨ (∃ z zs, ys = xs ++ z :: zs) ∨ (∃ z zs, xs = ys ++ z :: zs) := by
  induction xs with
  | nil => intro ys; cases ys with
    | nil => exact .inl rfl
    | cons y ys => exact .inr (.inl ⟨y, ys, rfl⟩)
  | cons x xs ih => intro ys; cases ys with
    | nil => exact .inr (.inr ⟨x, xs, rfl⟩)
    | cons y ys =>
      by_cases e : x = y
      · subst e
        rcases ih ys with h | ⟨z, zs, h⟩ | ⟨z, zs, h⟩
        · exact .inl (by simp [compP, compR, h])
        · exact .inr (.inl ⟨z, zs, by rw [h]; rfl⟩)
        · exact .inr (.inr ⟨z, zs, by rw [h]; rfl⟩)
      · exact .inl (by simp [compP, compR, e])
theorem right_prefix {xs : List Cel} {z : Cel} {zs : List Cel} (h : rightB xs = true) (h2 : rightB (xs ++ z :: zs) = true) : False := by
  obtain ⟨t, ht, rfl, _⟩ := right_tm h
  obtain ⟨u, hu, e, _⟩ := right_tm h2
  have h1 := sk_flat t ht 0 (z :: zs)
  have h3 := sk_flat u hu 0 []
  rw [List.append_nil, ← e, h1] at h3
  simp [sk] at h3
theorem comp_right {xs ys : List Cel} (h : rightB xs = true) (h2 : rightB ys = true) : compP xs ys = compR xs ys := by
  rcases comp_prefix xs ys with h' | ⟨z, zs, rfl⟩ | ⟨z, zs, rfl⟩
  · exact h'
  · exact (right_prefix h h2).elim
  · exact (right_prefix h2 h).elim

section lit
variable {n m : Nat} {a : Option Addr} {cap : Nat} {a' : Option Addr} {cap' : Nat} {w : World}
theorem refright_lit {xs : List Cel} (hn : n = xs.length) (hr : Row w a cap xs) {b : Bool} (hb : rightB xs = b) :
    Calls Tryz.prog 31 #[.slice a n cap] w fun e w' => e = .returned (.bool b) ∧ Below w.heap.size w w' := by
  subst hn; subst hb; exact refright_any a cap w xs hr
theorem refsame_lit {xs ys : List Cel} (hn : n = xs.length) (hr : Row w a cap xs) (hm : m = ys.length) (hr' : Row w a' cap' ys) {d : Bool} (hd : decide (xs = ys) = d) :
    Calls Tryz.prog 43 #[.slice a n cap, .slice a' m cap'] w fun e w' => e = .returned (.bool d) ∧ Below w.heap.size w w' := by
  subst hn; subst hm; subst hd; exact refsame_any a cap a' cap' w xs ys hr hr'
end lit

end Go.Proofs.YtmmnfkggfnokjaaGreat
namespace Go.Proofs.YtmmnfkggfnokjaaGreat
open Go.RowKit

/-- a way of comparing that is an order -/
structure CmpOk {α : Type} (f : α → α → Int) : Prop where
  range : ∀ x y, f x y = -1 ∨ f x y = 0 ∨ f x y = 1
  neg : ∀ x y, f y x = -(f x y)
  zero : ∀ x y, f x y = 0 ↔ x = y
  trans : ∀ x y z, f x y ≤ 0 → f y z ≤ 0 → f x z ≤ 0
theorem CmpOk.self {α : Type} {f : α → α → Int} (h : CmpOk f) (x : α) : f x x = 0 := (h.zero x x).2 rfl
theorem CmpOk.lt_le {α : Type} {f : α → α → Int} (h : CmpOk f) {x y z : α} (h1 : f x y < 0) (h2 : f y z ≤ 0) : f x z < 0 := by
  have h3 := h.trans x y z (by omega) h2
  by_cases e : f x z = 0
  · have := (h.zero x z).1 e
    subst this
    have := h.neg x y
    omega
  · omega
theorem CmpOk.le_lt {α : Type} {f : α → α → Int} (h : CmpOk f) {x y z : α} (h1 : f x y ≤ 0) (h2 : f y z < 0) : f x z < 0 := by
  have h3 := h.trans x y z h1 (by omega)
  by_cases e : f x z = 0
  · have := (h.zero x z).1 e
    subst this
    have := h.neg x y
    omega
  · omega

theorem cmpI_ok : CmpOk cmpI := by
  constructor
  · intro x y; unfold cmpI; split
    · exact .inl rfl
    · split
      · exact .inr (.inr rfl)
      · exact .inr (.inl rfl)
  · intro x y; unfold cmpI; split <;> split <;> (try split) <;> omega
  · intro x y; unfold cmpI; split
    · constructor <;> intro h <;> omega
    · split <;> constructor <;> intro h <;> omega
  · intro x y z; unfold cmpI; split <;> split <;> split <;> (try split) <;> (try split) <;> omega

theorem bl_nat (a b : UInt8) : (a < b) ↔ a.toNat < b.toNat := UInt8.lt_iff_toNat_lt
theorem bl_eq (a b : UInt8) : a = b ↔ a.toNat = b.toNat := ⟨fun h => by rw [h], fun h => UInt8.toNat_inj.1 h⟩
theorem bl_cons (a b : UInt8) (x y : List UInt8) : Op.bytesLess (a :: x) (b :: y) = true ↔ a.toNat < b.toNat ∨ a.toNat = b.toNat ∧ Op.bytesLess x y = true := by
  simp [Op.bytesLess, bl_nat, bl_eq]
theorem bl_total (x : List UInt8) : ∀ y, x = y ∨ Op.bytesLess x y = true ∨ Op.bytesLess y x = true := by
  induction x with
  | nil => intro y; cases y with
    | nil => exact .inl rfl
    | cons b y => exact .inr (.inl rfl)
  | cons a x ih => intro y; cases y with
    | nil => exact .inr (.inr rfl)
    | cons b y =>
      rw [bl_cons, bl_cons]
      rcases Nat.lt_trichotomy a.toNat b.toNat with h | h | h
      · exact .inr (.inl (.inl h))
      · rcases ih y with e | e | e
        · left; rw [e, (bl_eq a b).2 h]
        · exact .inr (.inl (.inr ⟨h, e⟩))
        · exact .inr (.inr (.inr ⟨h.symm, e⟩))
      · exact .inr (.inr (.inl h))
theorem bl_trans (x : List UInt8) : ∀ y z, Op.bytesLess x y = true → Op.bytesLess y z = true → Op.bytesLess x z = true := by
  induction x with
  | nil => intro y z h1 h2; cases z with
    | nil => cases y <;> simp [Op.bytesLess] at h2
    | cons c z => rfl
  | cons a x ih => intro y z h1 h2; cases y with
    | nil => simp [Op.bytesLess] at h1
    | cons b y => cases z with
      | nil => simp [Op.bytesLess] at h2
      | cons c z =>
        rw [bl_cons] at h1 h2 ⊢
        rcases h1 with h1 | ⟨h1, h1'⟩
        · rcases h2 with h2 | ⟨h2, h2'⟩
          · left; omega
          · left; omega
        · rcases h2 with h2 | ⟨h2, h2'⟩
          · left; omega
          · exact .inr ⟨by omega, ih y z h1' h2'⟩
theorem bl_asymm {x y : List UInt8} (h : Op.bytesLess x y = true) : Op.bytesLess y x = false := by
  cases h2 : Op.bytesLess y x with
  | false => rfl
  | true =>
    have := bl_trans x y x h h2
    rw [bytesLess_irrefl] at this; cases this
theorem cmpS_cases (s t : ByteArray) : (s = t ∧ cmpS s t = 0) ∨ (Op.bytesLess s.toList t.toList = true ∧ cmpS s t = -1) ∨ (Op.bytesLess t.toList s.toList = true ∧ cmpS s t = 1) := by
  rcases bl_total s.toList t.toList with h | h | h
  · left
    have := (toList_inj s t).1 h
    subst this
    exact ⟨rfl, by simp [cmpS, bytesLess_irrefl]⟩
  · right; left; exact ⟨h, by unfold cmpS; rw [if_pos h]⟩
  · right; right
    refine ⟨h, ?_⟩
    unfold cmpS
    rw [if_neg (by rw [bl_asymm h]; simp), if_neg]
    intro e; subst e; rw [bytesLess_irrefl] at h; cases h
theorem cmpS_ok : CmpOk cmpS := by
  constructor
  · intro x y
    rcases cmpS_cases x y with ⟨_, h⟩ | ⟨_, h⟩ | ⟨_, h⟩
    · exact .inr (.inl h)
    · exact .inl h
    · exact .inr (.inr h)
  · intro x y
    rcases cmpS_cases x y with ⟨e, h⟩ | ⟨e, h⟩ | ⟨e, h⟩
    · subst e; rw [h]; rfl
    · rw [h]
      rcases cmpS_cases y x with ⟨e2, h2⟩ | ⟨e2, h2⟩ | ⟨e2, h2⟩
      · subst e2; rw [bytesLess_irrefl] at e; cases e
      · rw [bl_asymm e] at e2; cases e2
      · rw [h2]; rfl
    · rw [h]
      rcases cmpS_cases y x with ⟨e2, h2⟩ | ⟨e2, h2⟩ | ⟨e2, h2⟩
      · subst e2; rw [bytesLess_irrefl] at e; cases e
      · rw [h2]
      · rw [bl_asymm e] at e2; cases e2
  · intro x y
    rcases cmpS_cases x y with ⟨e, h⟩ | ⟨e, h⟩ | ⟨e, h⟩
    · exact ⟨fun _ => e, fun _ => h⟩
    · refine ⟨fun h' => by omega, fun e2 => ?_⟩
      subst e2; rw [bytesLess_irrefl] at e; cases e
    · refine ⟨fun h' => by omega, fun e2 => ?_⟩
      subst e2; rw [bytesLess_irrefl] at e; cases e
  · intro x y z h1 h2
    rcases cmpS_cases x y with ⟨e, h⟩ | ⟨e, h⟩ | ⟨e, h⟩
    · subst e; exact h2
    · rcases cmpS_cases y z with ⟨e2, h'⟩ | ⟨e2, h'⟩ | ⟨e2, h'⟩
      · subst e2; exact h1
      · have := bl_trans _ _ _ e e2
        unfold cmpS; rw [if_pos this]; omega
      · omega
    · omega

theorem cellCmp_ok : CmpOk cellCmp := by
  constructor
  · intro x y; unfold cellCmp
    split
    · split
      · exact cmpS_ok.range _ _
      · exact cmpI_ok.range _ _
    · exact cmpI_ok.range _ _
  · intro x y; unfold cellCmp
    by_cases h1 : x.k = y.k
    · rw [if_pos h1, if_pos h1.symm]
      by_cases h2 : x.n = y.n
      · rw [if_pos h2, if_pos h2.symm]; exact cmpS_ok.neg _ _
      · rw [if_neg h2, if_neg (fun h => h2 h.symm)]; exact cmpI_ok.neg _ _
    · rw [if_neg h1, if_neg (fun h => h1 h.symm)]; exact cmpI_ok.neg _ _
  · intro x y; unfold cellCmp
    rw [Cel.eq_iff]
    split
    · rename_i h1
      split
      · rename_i h2
        rw [cmpS_ok.zero]; exact ⟨fun h => ⟨h1, h, h2⟩, fun h => h.2.1⟩
      · rename_i h2
        rw [cmpI_ok.zero]; exact ⟨fun h => absurd h h2, fun h => h.2.2⟩
    · rename_i h1
      rw [cmpI_ok.zero]; exact ⟨fun h => absurd h h1, fun h => h.1⟩
  · intro x y z
    unfold cellCmp
    by_cases h1 : x.k = y.k
    · rw [if_pos h1]
      by_cases h2 : y.k = z.k
      · rw [if_pos h2, if_pos (h1.trans h2)]
        by_cases h3 : x.n = y.n
        · rw [if_pos h3]
          by_cases h4 : y.n = z.n
          · rw [if_pos h4, if_pos (h3.trans h4)]; exact cmpS_ok.trans _ _ _
          · have h9 : ¬ x.n = z.n := by rw [h3]; exact h4
            rw [if_neg h4, if_neg h9, h3]; intro _ h; exact h
        · rw [if_neg h3]
          by_cases h4 : y.n = z.n
          · have h9 : ¬ x.n = z.n := by rw [← h4]; exact h3
            rw [if_pos h4, if_neg h9, ← h4]; intro h _; exact h
          · rw [if_neg h4]
            intro h5 h6
            have h7 := cmpI_ok.trans _ _ _ h5 h6
            by_cases h8 : x.n = z.n
            · exfalso
              have e := cmpI_ok.neg x.n y.n
              rw [← h8] at h6
              have := mt (cmpI_ok.zero x.n y.n).1 h3
              omega
            · rw [if_neg h8]; exact h7
      · have h9 : ¬ x.k = z.k := by rw [h1]; exact h2
        rw [if_neg h2, if_neg h9, h1]; intro _ h; exact h
    · rw [if_neg h1]
      by_cases h2 : y.k = z.k
      · have h9 : ¬ x.k = z.k := by rw [← h2]; exact h1
        rw [if_pos h2, if_neg h9, ← h2]; intro h _; exact h
      · rw [if_neg h2]
        intro h5 h6
        have h7 := cmpI_ok.trans _ _ _ h5 h6
        by_cases h8 : x.k = z.k
        · exfalso
          have e := cmpI_ok.neg x.k y.k
          rw [← h8] at h6
          have := mt (cmpI_ok.zero x.k y.k).1 h1
          omega
        · rw [if_neg h8]; exact h7

theorem compP_ok : CmpOk compP := by
  constructor
  · intro x
    induction x with
    | nil => intro y; cases y with
      | nil => exact .inr (.inl rfl)
      | cons b y => exact .inl rfl
    | cons a x ih => intro y; cases y with
      | nil => exact .inr (.inr rfl)
      | cons b y =>
        simp only [compP]; split
        · exact ih y
        · exact cellCmp_ok.range _ _
  · intro x
    induction x with
    | nil => intro y; cases y <;> rfl
    | cons a x ih => intro y; cases y with
      | nil => rfl
      | cons b y =>
        simp only [compP]
        by_cases h : a = b
        · rw [if_pos h, if_pos h.symm]; exact ih y
        · rw [if_neg h, if_neg (fun e => h e.symm)]; exact cellCmp_ok.neg _ _
  · intro x
    induction x with
    | nil => intro y; cases y with
      | nil => simp [compP]
      | cons b y => simp [compP]
    | cons a x ih => intro y; cases y with
      | nil => simp [compP]
      | cons b y =>
        simp only [compP]
        by_cases h : a = b
        · rw [if_pos h, ih y]; simp [h]
        · rw [if_neg h, cellCmp_ok.zero]; simp [h]
  · intro x
    induction x with
    | nil => intro y z _ _; cases z <;> simp [compP]
    | cons a x ih => intro y z; cases y with
      | nil => simp [compP]
      | cons b y => cases z with
        | nil => simp [compP]
        | cons c z =>
          simp only [compP]
          by_cases h1 : a = b
          · rw [if_pos h1]
            by_cases h2 : b = c
            · rw [if_pos h2, if_pos (h1.trans h2)]; exact ih y z
            · have h9 : ¬ a = c := by rw [h1]; exact h2
              rw [if_neg h2, if_neg h9, h1]; intro _ h; exact h
          · rw [if_neg h1]
            by_cases h2 : b = c
            · have h9 : ¬ a = c := by rw [← h2]; exact h1
              rw [if_pos h2, if_neg h9, ← h2]; intro h _; exact h
            · rw [if_neg h2]
              intro h5 h6
              have h7 := cellCmp_ok.trans _ _ _ h5 h6
              by_cases h8 : a = c
              · exfalso
                have e := cellCmp_ok.neg a b
                rw [← h8] at h6
                have := mt (cellCmp_ok.zero a b).1 h1
                omega
              · rw [if_neg h8]; exact h7
end Go.Proofs.YtmmnfkggfnokjaaGreat
namespace Go.Proofs.YtmmnfkggfnokjaaGreat
open Go.RowKit

/-! ### the plain model of package facts -/
theorem getD_atF {l : List (List Cel)} {k : Nat} (hk : k < l.length) : l.getD k [] = l[k] := by
  rw [List.getD_eq_getElem?_getD, List.getElem?_eq_getElem hk]; rfl
theorem take_memF {l : List (List Cel)} {k i : Nat} (hi : i < l.length) (hk : i < k) : l[i] ∈ l.take k := by
  have : (l.take k)[i]? = some l[i] := by rw [List.getElem?_take_of_lt hk, List.getElem?_eq_getElem hi]
  exact List.mem_of_getElem? this
theorem drop_memF {l : List (List Cel)} {k i : Nat} (hi : i < l.length) (hk : k ≤ i) : l[i] ∈ l.drop k := by
  have : (l.drop k)[i - k]? = some l[i] := by rw [List.getElem?_drop, show k + (i - k) = i by omega, List.getElem?_eq_getElem hi]
  exact List.mem_of_getElem? this
mutual
theorem tm_det : ∀ (t u : Tm) (r r' : List Cel), t.ok → u.ok → t.flat ++ r = u.flat ++ r' → t = u ∧ r = r'
  | .mk c ts, .mk d us, r, r', h, k, e => by
    simp only [Tm.flat, List.cons_append, List.cons.injEq] at e
    obtain ⟨rfl, e⟩ := e
    have hl : ts.length = us.length := h.2.1.trans k.2.1.symm
    obtain ⟨rfl, e2⟩ := tms_det ts us r r' h.2.2 k.2.2 hl e
    exact ⟨rfl, e2⟩
theorem tms_det : ∀ (ts us : List Tm) (r r' : List Cel), oks ts → oks us → ts.length = us.length → flats ts ++ r = flats us ++ r' → ts = us ∧ r = r'
  | [], [], r, r', _, _, _, e => ⟨rfl, by simpa [flats] using e⟩
  | t :: ts, u :: us, r, r', h, k, hl, e => by
    simp only [flats, List.append_assoc] at e
    obtain ⟨rfl, e2⟩ := tm_det t u _ _ h.1 k.1 e
    obtain ⟨rfl, e3⟩ := tms_det ts us r r' h.2 k.2 (by simpa using hl) e2
    exact ⟨rfl, e3⟩
end
open Classical in
/-- how deep cells are, as a term -/
noncomputable def depthL (xs : List Cel) : Nat := if h : ∃ t : Tm, t.ok ∧ t.flat = xs then h.choose.depth else 0
theorem depthL_flat {t : Tm} (h : t.ok) : depthL t.flat = t.depth := by
  have hx : ∃ u : Tm, u.ok ∧ u.flat = t.flat := ⟨t, h, rfl⟩
  unfold depthL
  rw [dif_pos hx]
  have hc := hx.choose_spec
  rw [(tm_det hx.choose t [] [] hc.1 h (by rw [hc.2])).1]
/-- cells that begin with a name -/
def funB : List Cel → Bool
  | c :: _ => decide (c.k = 3)
  | [] => false
/-- a fact -/
noncomputable def factB (xs : List Cel) : Bool := rightB xs && funB xs && groundB xs && decide (depthL xs ≤ 12)
theorem fact_right {xs : List Cel} (h : factB xs = true) : rightB xs = true := by
  unfold factB at h; simp only [Bool.and_eq_true] at h; exact h.1.1.1
theorem fact_fun {xs : List Cel} (h : factB xs = true) : funB xs = true := by
  unfold factB at h; simp only [Bool.and_eq_true] at h; exact h.1.1.2
theorem fact_ground {xs : List Cel} (h : factB xs = true) : groundB xs = true := by
  unfold factB at h; simp only [Bool.and_eq_true] at h; exact h.1.2
theorem fact_flat {t : Tm} (h : t.ok) (h200 : t.flat.length ≤ 200) (hf : t.hd.k = 3) (hg : groundB t.flat = true) (hd : t.depth ≤ 12) : factB t.flat = true := by
  unfold factB
  rw [right_flat h h200, hg, depthL_flat h, decide_eq_true hd]
  rw [flat_cons]
  simp [funB, hf]
/-- the k-th fact of a row stands as it should -/
noncomputable def standB (l : List (List Cel)) (k : Nat) : Bool := factB (l.getD k []) && (decide (k = 0) || decide (compP (l.getD (k - 1) []) (l.getD k []) < 0))
/-- a row of facts that may be -/
noncomputable def frightB (l : List (List Cel)) : Bool := decide (l.length ≤ 512) && (List.range l.length).all (standB l)
structure FR (l : List (List Cel)) : Prop where
  len : l.length ≤ 512
  all : ∀ x ∈ l, factB x = true
  rise : l.Pairwise fun x y => compP x y < 0
theorem pair_of_next : ∀ (l : List (List Cel)), (∀ k, k + 1 < l.length → compP (l.getD k []) (l.getD (k + 1) []) < 0) → l.Pairwise fun x y => compP x y < 0
  | [], _ => List.Pairwise.nil
  | [x], _ => by simp
  | x :: y :: l, h => by
    have h0 := h 0 (by simp)
    simp at h0
    have hr := pair_of_next (y :: l) (fun k hk => by have := h (k + 1) (by simpa using hk); simpa using this)
    refine List.pairwise_cons.2 ⟨fun z hz => ?_, hr⟩
    rcases List.mem_cons.1 hz with rfl | hz
    · exact h0
    · exact compP_ok.lt_le h0 (Int.le_of_lt ((List.pairwise_cons.1 hr).1 z hz))
theorem fright_iff {l : List (List Cel)} : frightB l = true ↔ FR l := by
  unfold frightB standB
  simp only [Bool.and_eq_true, decide_eq_true_eq, List.all_eq_true, List.mem_range, Bool.or_eq_true]
  constructor
  · rintro ⟨h1, h2⟩
    refine ⟨h1, fun x hx => ?_, pair_of_next l fun k hk => ?_⟩
    · obtain ⟨i, hi, rfl⟩ := List.getElem_of_mem hx
      have := (h2 i hi).1
      rwa [getD_atF hi] at this
    · have := (h2 (k + 1) hk).2
      simpa using this
  · rintro ⟨h1, h2, h3⟩
    refine ⟨h1, fun k hk => ⟨?_, ?_⟩⟩
    · rw [getD_atF hk]; exact h2 _ (List.getElem_mem hk)
    · by_cases h0 : k = 0
      · exact .inl h0
      · right
        rw [getD_atF hk, getD_atF (by omega)]
        exact List.pairwise_iff_getElem.1 h3 (k - 1) k (by omega) hk (by omega)
theorem fright_no {l : List (List Cel)} (h : ¬ FR l) : frightB l = false := by
  cases hb : frightB l with
  | false => rfl
  | true => exact absurd (fright_iff.1 hb) h
/-- put in its place -/
def insF (t : List Cel) : List (List Cel) → List (List Cel)
  | [] => [t]
  | x :: l => if compP t x < 0 then t :: x :: l else x :: insF t l
/-- how many stand ahead of it -/
def posF (t : List Cel) (l : List (List Cel)) : Nat := l.countP fun x => decide (compP x t < 0)
theorem comp_lt_iff {x y : List Cel} : compP x y < 0 ↔ 0 < compP y x := by
  have := compP_ok.neg x y
  omega
theorem FR.tail {x : List Cel} {l : List (List Cel)} (h : FR (x :: l)) : FR l :=
  ⟨by have := h.len; simp at this; omega, fun y hy => h.all y (List.mem_cons_of_mem _ hy), (List.pairwise_cons.1 h.rise).2⟩
theorem FR.hd {x : List Cel} {l : List (List Cel)} (h : FR (x :: l)) : ∀ y ∈ l, compP x y < 0 := (List.pairwise_cons.1 h.rise).1
theorem FR.filter {l : List (List Cel)} (h : FR l) (p : List Cel → Bool) : FR (l.filter p) :=
  ⟨Nat.le_trans (List.length_filter_le _ _) h.len, fun x hx => h.all x (List.mem_filter.1 hx).1, h.rise.filter p⟩
theorem FR.sub {l k : List (List Cel)} (h : FR l) (hs : k.Sublist l) : FR k :=
  ⟨Nat.le_trans hs.length_le h.len, fun x hx => h.all x (hs.subset hx), h.rise.sublist hs⟩
theorem posF_none {t : List Cel} {l : List (List Cel)} (h : ∀ y ∈ l, 0 ≤ compP y t) : posF t l = 0 := by
  unfold posF
  rw [List.countP_eq_zero]
  intro a ha
  have := h a ha
  simp; omega
/-- what stands ahead of a place is smaller, what stands behind it is not -/
theorem pos_split {t : List Cel} : ∀ {l : List (List Cel)}, l.Pairwise (fun x y => compP x y < 0) → (∀ x ∈ l.take (posF t l), compP x t < 0) ∧ (∀ x ∈ l.drop (posF t l), 0 ≤ compP x t)
  | [], _ => by simp
  | x :: l, h => by
    obtain ⟨h1, h2⟩ := List.pairwise_cons.1 h
    by_cases hx : compP x t < 0
    · have hp : posF t (x :: l) = posF t l + 1 := by unfold posF; rw [List.countP_cons_of_pos (by simpa using hx)]
      rw [hp]
      obtain ⟨i1, i2⟩ := pos_split (t := t) h2
      refine ⟨fun y hy => ?_, i2⟩
      rcases List.mem_cons.1 hy with rfl | hy
      · exact hx
      · exact i1 y hy
    · have hp : posF t (x :: l) = 0 := posF_none fun y hy => by
        rcases List.mem_cons.1 hy with rfl | hy
        · omega
        · have := h1 y hy
          by_cases hc : compP y t < 0
          · exact absurd (compP_ok.lt_le this (Int.le_of_lt hc)) hx
          · omega
      rw [hp]
      refine ⟨by simp, fun y hy => ?_⟩
      rw [List.drop_zero] at hy
      rcases List.mem_cons.1 hy with rfl | hy
      · omega
      · have := h1 y hy
        by_cases hc : compP y t < 0
        · exact absurd (compP_ok.lt_le this (Int.le_of_lt hc)) hx
        · omega
theorem pos_le (t : List Cel) (l : List (List Cel)) : posF t l ≤ l.length := List.countP_le_length
/-- it is there just if it stands at its place -/
theorem pos_mem {t : List Cel} {l : List (List Cel)} (h : l.Pairwise (fun x y => compP x y < 0)) : t ∈ l ↔ ∃ hk : posF t l < l.length, l[posF t l] = t := by
  constructor
  · intro ht
    obtain ⟨h1, h2⟩ := pos_split (t := t) h
    obtain ⟨i, hi, e⟩ := List.getElem_of_mem ht
    have hge : ¬ i < posF t l := fun hlt => by
      have := h1 t (by have hm := take_memF hi hlt; rw [e] at hm; exact hm)
      rw [compP_ok.self] at this; omega
    by_cases hi2 : i = posF t l
    · subst hi2; exact ⟨hi, e⟩
    · exfalso
      have hk : posF t l < l.length := by omega
      have a1 := List.pairwise_iff_getElem.1 h (posF t l) i hk hi (by omega)
      rw [e] at a1
      have a2 := h2 l[posF t l] (drop_memF hk (Nat.le_refl _))
      omega
  · rintro ⟨hk, e⟩
    rw [← e]; exact List.getElem_mem hk
/-- put in at its place -/
theorem ins_pos {t : List Cel} : ∀ {l : List (List Cel)}, l.Pairwise (fun x y => compP x y < 0) → t ∉ l → insF t l = l.take (posF t l) ++ t :: l.drop (posF t l)
  | [], _, _ => by simp [insF, posF]
  | x :: l, h, ht => by
    obtain ⟨h1, h2⟩ := List.pairwise_cons.1 h
    simp only [List.mem_cons, not_or] at ht
    unfold insF
    by_cases hx : compP t x < 0
    · rw [if_pos hx]
      have hp : posF t (x :: l) = 0 := posF_none fun y hy => by
        rcases List.mem_cons.1 hy with rfl | hy
        · have := comp_lt_iff.1 hx; omega
        · have := comp_lt_iff.1 (compP_ok.lt_le hx (Int.le_of_lt (h1 y hy))); omega
      rw [hp]; rfl
    · rw [if_neg hx]
      have hx2 : compP x t < 0 := by
        have h0 : ¬ compP t x = 0 := fun e => ht.1 ((compP_ok.zero t x).1 e)
        exact comp_lt_iff.2 (by omega)
      have hp : posF t (x :: l) = posF t l + 1 := by unfold posF; rw [List.countP_cons_of_pos (by simpa using hx2)]
      rw [hp, ins_pos h2 ht.2]; rfl
theorem mem_ins {t y : List Cel} : ∀ {l : List (List Cel)}, y ∈ insF t l ↔ y = t ∨ y ∈ l
  | [] => by simp [insF]
  | x :: l => by
    unfold insF
    split
    · simp
    · rw [List.mem_cons, mem_ins (l := l), List.mem_cons]
      constructor
      · rintro (h | h | h)
        · exact .inr (.inl h)
        · exact .inl h
        · exact .inr (.inr h)
      · rintro (h | h | h)
        · exact .inr (.inl h)
        · exact .inl h
        · exact .inr (.inr h)
theorem ins_length (t : List Cel) : ∀ l : List (List Cel), (insF t l).length = l.length + 1
  | [] => rfl
  | x :: l => by
    unfold insF
    split
    · rfl
    · simp [ins_length t l]
theorem ins_rise {t : List Cel} : ∀ {l : List (List Cel)}, l.Pairwise (fun x y => compP x y < 0) → t ∉ l → (insF t l).Pairwise (fun x y => compP x y < 0)
  | [], _, _ => by simp [insF]
  | x :: l, h, ht => by
    obtain ⟨h1, h2⟩ := List.pairwise_cons.1 h
    simp only [List.mem_cons, not_or] at ht
    unfold insF
    by_cases hx : compP t x < 0
    · rw [if_pos hx]
      refine List.pairwise_cons.2 ⟨fun y hy => ?_, h⟩
      rcases List.mem_cons.1 hy with rfl | hy
      · exact hx
      · exact compP_ok.lt_le hx (Int.le_of_lt (h1 y hy))
    · rw [if_neg hx]
      have hx2 : compP x t < 0 := by
        have h0 : ¬ compP t x = 0 := fun e => ht.1 ((compP_ok.zero t x).1 e)
        exact comp_lt_iff.2 (by omega)
      refine List.pairwise_cons.2 ⟨fun y hy => ?_, ins_rise h2 ht.2⟩
      rcases mem_ins.1 hy with rfl | hy
      · exact hx2
      · exact h1 y hy
theorem FR.ins {l : List (List Cel)} (h : FR l) {t : List Cel} (ht : factB t = true) (hn : t ∉ l) (hl : l.length < 512) : FR (insF t l) :=
  ⟨by rw [ins_length]; omega, fun x hx => (mem_ins.1 hx).elim (fun e => e ▸ ht) (h.all x), ins_rise h.rise hn⟩
theorem FR.nil : FR [] := ⟨by simp, by simp, List.Pairwise.nil⟩
/-- rows with the same facts are the same -/
theorem rise_ext : ∀ {l m : List (List Cel)}, l.Pairwise (fun x y => compP x y < 0) → m.Pairwise (fun x y => compP x y < 0) → (∀ x, x ∈ l ↔ x ∈ m) → l = m
  | [], [], _, _, _ => rfl
  | [], y :: m, _, _, h => by have := (h y).2 (by simp); simp at this
  | x :: l, [], _, _, h => by have := (h x).1 (by simp); simp at this
  | x :: l, y :: m, h1, h2, h => by
    obtain ⟨a1, a2⟩ := List.pairwise_cons.1 h1
    obtain ⟨b1, b2⟩ := List.pairwise_cons.1 h2
    have exy : x = y := by
      rcases List.mem_cons.1 ((h x).1 (by simp)) with e | e
      · exact e
      · rcases List.mem_cons.1 ((h y).2 (by simp)) with e2 | e2
        · exact e2.symm
        · have u1 := b1 x e
          have u2 := a1 y e2
          have := compP_ok.lt_le u1 (Int.le_of_lt u2)
          rw [compP_ok.self] at this; omega
    subst exy
    rw [rise_ext a2 b2 (fun z => ?_)]
    constructor
    · intro hz
      rcases List.mem_cons.1 ((h z).1 (List.mem_cons_of_mem _ hz)) with e | e
      · subst e; have := a1 z hz; rw [compP_ok.self] at this; omega
      · exact e
    · intro hz
      rcases List.mem_cons.1 ((h z).2 (List.mem_cons_of_mem _ hz)) with e | e
      · subst e; have := b1 z hz; rw [compP_ok.self] at this; omega
      · exact e
/-- adding and dropping -/
noncomputable def addE (l : List (List Cel)) (t : List Cel) : Int := if factB t then (if t ∈ l then 0 else if 512 ≤ l.length then 2 else 0) else 120
noncomputable def addF (l : List (List Cel)) (t : List Cel) : List (List Cel) := if factB t then (if t ∈ l then l else if 512 ≤ l.length then [] else insF t l) else []
noncomputable def dropE (l : List (List Cel)) (t : List Cel) : Int := if factB t then (if t ∈ l then 0 else 3) else 120
noncomputable def dropF (l : List (List Cel)) (t : List Cel) : List (List Cel) := if factB t then (if t ∈ l then l.filter (fun x => !decide (x = t)) else []) else []
def lessF (a b : List (List Cel)) : List (List Cel) := a.filter fun x => !decide (x ∈ b)
theorem FR.add {l : List (List Cel)} (h : FR l) (t : List Cel) : FR (addF l t) := by
  unfold addF
  split
  · split
    · exact h
    · split
      · exact FR.nil
      · next h1 h2 h3 => exact h.ins h1 h2 (by omega)
  · exact FR.nil
theorem FR.dropF {l : List (List Cel)} (h : FR l) (t : List Cel) : FR (dropF l t) := by
  unfold Go.Proofs.YtmmnfkggfnokjaaGreat.dropF
  split
  · split
    · exact h.filter _
    · exact FR.nil
  · exact FR.nil
end Go.Proofs.YtmmnfkggfnokjaaGreat
namespace Go.Proofs.YtmmnfkggfnokjaaGreat
open Go.RowKit

/-! ### is it a fact? -/
section
variable {n : Nat} {xs : List Cel} {a : Option Addr} {cap : Nat} {w : World}
theorem refright_litF (hn : n = xs.length) (hr : Row w a cap xs) {b : Bool} (hb : rightB xs = b) :
    Calls Tryz.prog 31 #[.slice a n cap] w fun e w' => e = .returned (.bool b) ∧ Below w.heap.size w w' := by
  subst hn; subst hb; exact refright_any a cap w xs hr
theorem refground_litF (hn : n = xs.length) (hr : Row w a cap xs) (hl : xs.length ≤ 1000000) {b : Bool} (hb : groundB xs = b) :
    Calls Tryz.prog 32 #[.slice a n cap] w fun e w' => e = .returned (.bool b) ∧ Below w.heap.size w w' := by
  subst hn; subst hb; exact refground_any a cap w xs hr hl
theorem refdepth_litF {t : Tm} (hx : t.flat = xs) (ht : t.ok) (hn : n = xs.length) (hl : xs.length ≤ 200) (hr : Row w a cap xs) {d : Nat} (hd : t.depth = d) :
    Calls Tryz.prog 33 #[.slice a n cap] w fun e w' => e = .returned (.int .i64 d) ∧ Below w.heap.size w w' := by
  subst hn; subst hx; subst hd; exact refdepth_any _ t a cap w (Nat.le_refl _) ht hl hr
end

set_option maxHeartbeats 1600000 in
theorem fact_any (a : Option Addr) (cap : Nat) (w : World) (xs : List Cel) (hx : Row w a cap xs) :
    Calls Tryz.prog 6 #[.slice a xs.length cap] w fun e w' => e = .returned (.bool (factB xs)) ∧ Below w.heap.size w w' := by
  have hm := hx.max
  have hm2 := hx.le
  cases hR : rightB xs with
  | false =>
    have HF : Hid (factB xs = false) := by unfold Hid factB; rw [hR]; rfl
    have HR := mkHid hR
    clear hR
    go_enter Tryz.func6, Tryz.ntmps6
    go_wp2_with fail
    refine (right_lit rfl hx HR.out).mono ?_; rintro e w1 ⟨rfl, hb1⟩
    go_wp2_with fail
    go_ret
    exact ⟨ret_bool HF.out.symm, hb1⟩
  | true =>
    obtain ⟨t, ht, hxt, h200⟩ := right_tm hR
    have h0 : 0 < xs.length := by rw [hxt]; exact flat_pos t
    have HX := mkHid hxt.symm
    have HT := mkHid ht
    obtain ⟨b, off, rfl, hb, hat⟩ := hx.cases.resolve_left (fun e => by simp [e] at h0)
    obtain ⟨d, hd⟩ : ∃ d, t.depth = d := ⟨_, rfl⟩
    have HD := mkHid hd
    obtain ⟨g, hg⟩ : ∃ g, groundB xs = g := ⟨_, rfl⟩
    have HG := mkHid hg
    have HR := mkHid hR
    have HF : Hid (factB xs = (decide (xs[0].k = 3) && (g && decide (d ≤ 12)))) := by
      have hfun : funB xs = decide (xs[0].k = 3) := by
        cases xs with
        | nil => simp at h0
        | cons c l => rfl
      have hdd : depthL xs = d := by rw [hxt, depthL_flat ht, hd]
      unfold Hid factB
      rw [hR, hg, hfun, hdd, Bool.true_and, Bool.and_assoc]
    clear hR hxt ht hd hg
    have hdn : (d : Int) ≤ 200 := by
      have := HD.out; have h1 := depth_le t; rw [HX.out] at h1; omega
    by_cases h3 : xs[0].k = 3
    · have t3 : (xs[0].k == 3) = true := by simp [h3]
      have HF2 : Hid (factB xs = (g && decide (d ≤ 12))) := by rw [Hid, HF.out, h3]; simp
      clear h3 HF
      go_enter Tryz.func6, Tryz.ntmps6
      go_wp2_with fail
      refine (right_lit rfl hx HR.out).mono ?_; rintro e w1 ⟨rfl, hb1⟩
      obtain ⟨c0, _, _, _⟩ := cel_at hat hb1 h0
      simp only [Nat.zero_mul, Nat.add_zero] at c0
      go_wp2_with fail
      have hx1 := hx.below hb1
      with_reducible refine (ground_lit rfl hx1 HG.out).mono ?_
      rintro e w2 ⟨rfl, hb2⟩
      cases g with
      | false =>
        go_wp2_with fail
        go_ret
        exact ⟨ret_bool (by rw [HF2.out]; rfl), hb1.then hb2⟩
      | true =>
        go_wp2_with fail
        have hx2 := hx1.below hb2
        with_reducible refine (depth_lit HX.out HT.out rfl h200 hx2 HD.out).mono ?_
        rintro e w3 ⟨rfl, hb3⟩
        go_wp2_with fail
        go_ret
        refine ⟨ret_bool ?_, (hb1.then hb2).then hb3⟩
        rw [HF2.out, Bool.true_and]
        exact decide_eq_decide.2 (by omega)
    · have t3 : (xs[0].k == 3) = false := by simp [h3]
      have HF2 : Hid (factB xs = false) := by rw [Hid, HF.out]; simp [h3]
      clear h3 HF
      go_enter Tryz.func6, Tryz.ntmps6
      go_wp2_with fail
      refine (right_lit rfl hx HR.out).mono ?_; rintro e w1 ⟨rfl, hb1⟩
      obtain ⟨c0, _, _, _⟩ := cel_at hat hb1 h0
      simp only [Nat.zero_mul, Nat.add_zero] at c0
      go_wp2_with fail
      go_ret
      exact ⟨ret_bool HF2.out.symm, hb1⟩

set_option maxHeartbeats 1600000 in
theorem reffact_any (a : Option Addr) (cap : Nat) (w : World) (xs : List Cel) (hx : Row w a cap xs) :
    Calls Tryz.prog 7 #[.slice a xs.length cap] w fun e w' => e = .returned (.bool (factB xs)) ∧ Below w.heap.size w w' := by
  have hm := hx.max
  have hm2 := hx.le
  cases hR : rightB xs with
  | false =>
    have HF : Hid (factB xs = false) := by unfold Hid factB; rw [hR]; rfl
    have HR := mkHid hR
    clear hR
    go_enter Tryz.func7, Tryz.ntmps7
    go_wp2_with fail
    refine (refright_litF rfl hx HR.out).mono ?_; rintro e w1 ⟨rfl, hb1⟩
    go_wp2_with fail
    go_ret
    exact ⟨ret_bool HF.out.symm, hb1⟩
  | true =>
    obtain ⟨t, ht, hxt, h200⟩ := right_tm hR
    have h0 : 0 < xs.length := by rw [hxt]; exact flat_pos t
    have HX := mkHid hxt.symm
    have HT := mkHid ht
    obtain ⟨b, off, rfl, hb, hat⟩ := hx.cases.resolve_left (fun e => by simp [e] at h0)
    obtain ⟨d, hd⟩ : ∃ d, t.depth = d := ⟨_, rfl⟩
    have HD := mkHid hd
    obtain ⟨g, hg⟩ : ∃ g, groundB xs = g := ⟨_, rfl⟩
    have HG := mkHid hg
    have HR := mkHid hR
    have HF : Hid (factB xs = (decide (xs[0].k = 3) && (g && decide (d ≤ 12)))) := by
      have hfun : funB xs = decide (xs[0].k = 3) := by
        cases xs with
        | nil => simp at h0
        | cons c l => rfl
      have hdd : depthL xs = d := by rw [hxt, depthL_flat ht, hd]
      unfold Hid factB
      rw [hR, hg, hfun, hdd, Bool.true_and, Bool.and_assoc]
    clear hR hxt ht hd hg
    have hdn : (d : Int) ≤ 200 := by
      have := HD.out; have h1 := depth_le t; rw [HX.out] at h1; omega
    by_cases h3 : xs[0].k = 3
    · have t3 : (xs[0].k == 3) = true := by simp [h3]
      have HF2 : Hid (factB xs = (g && decide (d ≤ 12))) := by rw [Hid, HF.out, h3]; simp
      clear h3 HF
      go_enter Tryz.func7, Tryz.ntmps7
      go_wp2_with fail
      refine (refright_litF rfl hx HR.out).mono ?_; rintro e w1 ⟨rfl, hb1⟩
      obtain ⟨c0, _, _, _⟩ := cel_at hat hb1 h0
      simp only [Nat.zero_mul, Nat.add_zero] at c0
      go_wp2_with fail
      have hx1 := hx.below hb1
      with_reducible refine (refground_litF rfl hx1 (by omega) HG.out).mono ?_
      rintro e w2 ⟨rfl, hb2⟩
      cases g with
      | false =>
        go_wp2_with fail
        go_ret
        exact ⟨ret_bool (by rw [HF2.out]; rfl), hb1.then hb2⟩
      | true =>
        go_wp2_with fail
        have hx2 := hx1.below hb2
        with_reducible refine (refdepth_litF HX.out HT.out rfl h200 hx2 HD.out).mono ?_
        rintro e w3 ⟨rfl, hb3⟩
        go_wp2_with fail
        go_ret
        refine ⟨ret_bool ?_, (hb1.then hb2).then hb3⟩
        rw [HF2.out, Bool.true_and]
        exact decide_eq_decide.2 (by omega)
    · have t3 : (xs[0].k == 3) = false := by simp [h3]
      have HF2 : Hid (factB xs = false) := by rw [Hid, HF.out]; simp [h3]
      clear h3 HF
      go_enter Tryz.func7, Tryz.ntmps7
      go_wp2_with fail
      refine (refright_litF rfl hx HR.out).mono ?_; rintro e w1 ⟨rfl, hb1⟩
      obtain ⟨c0, _, _, _⟩ := cel_at hat hb1 h0
      simp only [Nat.zero_mul, Nat.add_zero] at c0
      go_wp2_with fail
      go_ret
      exact ⟨ret_bool HF2.out.symm, hb1⟩
end Go.Proofs.YtmmnfkggfnokjaaGreat
namespace Go.Proofs.YtmmnfkggfnokjaaGreat
open Go.RowKit

/-! ### may a row be? -/
theorem stand_first {l : List (List Cel)} {k : Nat} (hk : k < l.length) (h0 : k = 0) : standB l k = factB l[k] := by
  unfold standB; rw [getD_atF hk, decide_eq_true h0]; simp
theorem stand_next {l : List (List Cel)} {k : Nat} (hk : k < l.length) (h0 : 0 < k) : standB l k = (factB l[k] && decide (compP l[k - 1] l[k] < 0)) := by
  unfold standB; rw [getD_atF hk, getD_atF (by omega), decide_eq_false (by omega), Bool.false_or]
theorem fright_bad {l : List (List Cel)} {k : Nat} (hk : k < l.length) (h : standB l k = false) : frightB l = false := by
  unfold frightB
  rw [Bool.and_eq_false_iff]
  right
  rw [List.all_eq_false]
  exact ⟨k, List.mem_range.2 hk, by simp [h]⟩
theorem fright_end {l : List (List Cel)} (h512 : l.length ≤ 512) {k : Nat} (h : ∀ j, j < k → standB l j = true) (hk : l.length ≤ k) : frightB l = true := by
  unfold frightB
  rw [decide_eq_true h512, Bool.true_and, List.all_eq_true]
  intro j hj
  exact h j (by have := List.mem_range.1 hj; omega)
theorem fright_long {l : List (List Cel)} (h : ¬ l.length ≤ 512) : frightB l = false := by
  unfold frightB; rw [decide_eq_false h, Bool.false_and]
theorem stand_succ {l : List (List Cel)} {k : Nat} (h : ∀ j, j < k → standB l j = true) (hs : standB l k = true) : ∀ j, j < k + 1 → standB l j = true := fun j hj => by
  by_cases e : j = k
  · rw [e]; exact hs
  · exact h j (by omega)
theorem stand_fact {l : List (List Cel)} {k : Nat} (hk : k < l.length) (h : standB l k = true) : factB l[k] = true := by
  by_cases h0 : k = 0
  · rwa [stand_first hk h0] at h
  · rw [stand_next hk (by omega), Bool.and_eq_true] at h; exact h.1
theorem comp_factF {xs ys : List Cel} (h : factB xs = true) (k : factB ys = true) : compP xs ys = compR xs ys := comp_right (fact_right h) (fact_right k)

section
variable {a : Option Addr} {cap : Nat} {w : World} {xs : List Cel}
theorem fact_is {b : Bool} (hr : Row w a cap xs) (H : Hid (factB xs = b)) :
    Calls Tryz.prog 6 #[.slice a xs.length cap] w fun e w' => e = .returned (.bool b) ∧ Below w.heap.size w w' :=
  (fact_any a cap w xs hr).mono fun _ _ ⟨he, hb⟩ => ⟨by rw [he]; exact ret_bool H.out, hb⟩
theorem reffact_is {b : Bool} (hr : Row w a cap xs) (H : Hid (factB xs = b)) :
    Calls Tryz.prog 7 #[.slice a xs.length cap] w fun e w' => e = .returned (.bool b) ∧ Below w.heap.size w w' :=
  (reffact_any a cap w xs hr).mono fun _ _ ⟨he, hb⟩ => ⟨by rw [he]; exact ret_bool H.out, hb⟩
theorem compare_is {a' : Option Addr} {cap' : Nat} {ys : List Cel} {d : Int} (hr : Row w a cap xs) (hr' : Row w a' cap' ys) (H : Hid (compP xs ys = d)) :
    Calls Tryz.prog 34 #[.slice a xs.length cap, .slice a' ys.length cap'] w fun e w' => e = .returned (.int .i64 d) ∧ Below w.heap.size w w' :=
  (compare_any a cap a' cap' w xs ys hr hr').mono fun _ _ ⟨he, hb⟩ => ⟨by rw [he]; exact ret_int H.out, hb⟩
theorem refcompare_is {a' : Option Addr} {cap' : Nat} {ys : List Cel} {d : Int} (hr : Row w a cap xs) (hr' : Row w a' cap' ys) (H : Hid (compR xs ys = d)) :
    Calls Tryz.prog 35 #[.slice a xs.length cap, .slice a' ys.length cap'] w fun e w' => e = .returned (.int .i64 d) ∧ Below w.heap.size w w' :=
  (refcompare_any a cap a' cap' w xs ys hr hr').mono fun _ _ ⟨he, hb⟩ => ⟨by rw [he]; exact ret_int H.out, hb⟩
theorem sameF_is {a' : Option Addr} {cap' : Nat} {ys : List Cel} {d : Bool} (hr : Row w a cap xs) (hr' : Row w a' cap' ys) (H : Hid (decide (xs = ys) = d)) :
    Calls Tryz.prog 42 #[.slice a xs.length cap, .slice a' ys.length cap'] w fun e w' => e = .returned (.bool d) ∧ Below w.heap.size w w' :=
  (same_any a cap a' cap' w xs ys hr hr').mono fun _ _ ⟨he, hb⟩ => ⟨by rw [he]; exact ret_bool H.out, hb⟩
theorem refsameF_is {a' : Option Addr} {cap' : Nat} {ys : List Cel} {d : Bool} (hr : Row w a cap xs) (hr' : Row w a' cap' ys) (H : Hid (decide (xs = ys) = d)) :
    Calls Tryz.prog 43 #[.slice a xs.length cap, .slice a' ys.length cap'] w fun e w' => e = .returned (.bool d) ∧ Below w.heap.size w w' :=
  (refsame_any a cap a' cap' w xs ys hr hr').mono fun _ _ ⟨he, hb⟩ => ⟨by rw [he]; exact ret_bool H.out, hb⟩
end

set_option maxHeartbeats 1600000 in
theorem fright_any (a : Option Addr) (cap : Nat) (w : World) (l : List (List Cel)) (hr : Row w a cap l) :
    Calls Tryz.prog 8 #[.slice a l.length cap] w fun e w' => e = .returned (.bool (frightB l)) ∧ Below w.heap.size w w' := by
  have hm := hr.max
  have hm2 := hr.le
  by_cases h512 : l.length ≤ 512
  · go_enter Tryz.func8, Tryz.ntmps8
    go_wp2
    go_loopw [10] (fun i wr => ∃ k : Nat, k ≤ l.length ∧ i = .int .i64 k ∧ Below w.heap.size w wr ∧ Hid (∀ j, j < k → standB l j = true)) (fun i wr => l.length - (intOf i).toNat)
    case atStart => exact ⟨0, Nat.zero_le _, rfl, Below.refl _ _, fun j hj => absurd hj (Nat.not_lt_zero _)⟩
    case round =>
      obtain ⟨k, hk, rfl, hbl, HS⟩ := hrel
      by_cases hlt : k < l.length
      · obtain ⟨b, off, rfl, hb, hat⟩ := hr.cases.resolve_left (fun e => by simp [e] at hlt)
        obtain ⟨a1, cap1, c0, hr1⟩ := list_at hat hbl hlt
        obtain ⟨q, hq⟩ : ∃ q, factB l[k] = q := ⟨_, rfl⟩
        have HQ := mkHid hq
        clear hq
        cases q with
        | false =>
          have HF : Hid (frightB l = false) := fright_bad hlt (by
            cases hs : standB l k with
            | false => rfl
            | true => have := stand_fact hlt hs; rw [HQ.out] at this; cases this)
          clear HS
          go_wp2_with (go_at_call 6; refine (fact_is hr1 HQ).mono ?_; rintro e w' ⟨rfl, hb1⟩)
          go_ret
          exact ⟨ret_bool HF.out.symm, hbl.then hb1⟩
        | true =>
          by_cases h0 : k = 0
          · have HT := mkHid (stand_succ HS.out (by rw [stand_first hlt h0]; exact HQ.out))
            subst h0
            simp only [Nat.add_zero] at c0
            clear HS
            go_wp2_with (go_at_call 6; refine (fact_is hr1 HQ).mono ?_; rintro e w' ⟨rfl, hb1⟩)
            go_round
            case rel => exact ⟨1, by omega, by go_num, hbl.then hb1, HT⟩
            case measure => simp [intOf]; omega
          · have h0' : 0 < k := by omega
            have hk1 : k - 1 < l.length := by omega
            obtain ⟨a2, cap2, c1, hr2⟩ := list_at hat hbl hk1
            obtain ⟨d, hd⟩ : ∃ d, compP l[k - 1] l[k] = d := ⟨_, rfl⟩
            have HD := mkHid hd
            clear hd
            have hoff : off + (k - 1) = off + k - 1 := by omega
            have hki : ((k : Int) - 1) = ((k - 1 : Nat) : Int) := by omega
            by_cases hd0 : d < 0
            · have HT := mkHid (stand_succ HS.out (by rw [stand_next hlt h0', HQ.out, HD.out, decide_eq_true hd0]; rfl))
              clear HS
              go_wp2_with (first
                | (go_at_call 6; refine (fact_is hr1 HQ).mono ?_; rintro e w' ⟨rfl, hb1⟩; have c1' := keep c1 hb1; rw [hoff] at c1')
                | (go_at_call 34; refine (compare_is (hr2.below hb1) (hr1.below hb1) HD).mono ?_; rintro e w2 ⟨rfl, hb2⟩))
              go_round
              case rel => exact ⟨k + 1, by omega, by go_num, (hbl.then hb1).then hb2, HT⟩
              case measure => simp [intOf]; omega
            · have HF : Hid (frightB l = false) := fright_bad hlt (by rw [stand_next hlt h0', HD.out, decide_eq_false hd0, Bool.and_false])
              clear HS
              go_wp2_with (first
                | (go_at_call 6; refine (fact_is hr1 HQ).mono ?_; rintro e w' ⟨rfl, hb1⟩; have c1' := keep c1 hb1; rw [hoff] at c1')
                | (go_at_call 34; refine (compare_is (hr2.below hb1) (hr1.below hb1) HD).mono ?_; rintro e w2 ⟨rfl, hb2⟩))
              go_ret
              exact ⟨ret_bool HF.out.symm, (hbl.then hb1).then hb2⟩
      · have HF : Hid (frightB l = true) := fright_end h512 HS.out (by omega)
        clear HS
        go_wp2
        go_ret
        exact ⟨ret_bool HF.out.symm, hbl⟩
  · have HF : Hid (frightB l = false) := fright_long h512
    go_enter Tryz.func8, Tryz.ntmps8
    go_wp2
    go_ret
    exact ⟨ret_bool HF.out.symm, Below.refl _ _⟩
end Go.Proofs.YtmmnfkggfnokjaaGreat
namespace Go.Proofs.YtmmnfkggfnokjaaGreat
open Go.RowKit

/-! ### sets of facts, plain -/
theorem mem_addF {l : List (List Cel)} {t y : List Cel} (ht : factB t = true) (hl : l.length < 512) : y ∈ addF l t ↔ y = t ∨ y ∈ l := by
  unfold addF
  rw [if_pos ht]
  split
  · next h => exact ⟨.inr, fun h1 => h1.elim (fun e => e ▸ h) id⟩
  · rw [if_neg (by omega)]; exact mem_ins
theorem mem_addF_in {l : List (List Cel)} {t y : List Cel} (ht : factB t = true) (h : t ∈ l) : y ∈ addF l t ↔ y ∈ l := by
  unfold addF
  rw [if_pos ht, if_pos h]
theorem addE_ok {l : List (List Cel)} {t : List Cel} (ht : factB t = true) (hl : l.length < 512) : addE l t = 0 := by
  unfold addE
  rw [if_pos ht]
  split
  · rfl
  · rw [if_neg (by omega)]
theorem addE_in {l : List (List Cel)} {t : List Cel} (ht : factB t = true) (h : t ∈ l) : addE l t = 0 := by
  unfold addE
  rw [if_pos ht, if_pos h]
theorem dropE_ok {l : List (List Cel)} {t : List Cel} (ht : factB t = true) (h : t ∈ l) : dropE l t = 0 := by
  unfold dropE
  rw [if_pos ht, if_pos h]
theorem mem_dropF {l : List (List Cel)} {t y : List Cel} (ht : factB t = true) (h : t ∈ l) : y ∈ dropF l t ↔ y ∈ l ∧ y ≠ t := by
  unfold dropF
  rw [if_pos ht, if_pos h]
  simp
theorem addF_len {l : List (List Cel)} {t : List Cel} (ht : factB t = true) (hl : l.length < 512) : (addF l t).length = if t ∈ l then l.length else l.length + 1 := by
  unfold addF
  rw [if_pos ht]
  split
  · rfl
  · rw [if_neg (by omega), ins_length]
theorem addF_le {l : List (List Cel)} (t : List Cel) : (addF l t).length ≤ l.length + 1 := by
  unfold addF
  split
  · split
    · omega
    · split
      · simp
      · rw [ins_length]; omega
  · simp
theorem FR.ext {l m : List (List Cel)} (h : FR l) (k : FR m) (e : ∀ x, x ∈ l ↔ x ∈ m) : l = m := rise_ext h.rise k.rise e
/-- what is added and dropped is as it was -/
theorem drop_add {l : List (List Cel)} (h : FR l) {t : List Cel} (ht : factB t = true) (hl : l.length < 512) (hn : t ∉ l) : dropF (addF l t) t = l := by
  refine ((h.add t).dropF t).ext h fun y => ?_
  rw [mem_dropF ht ((mem_addF ht hl).2 (.inl rfl)), mem_addF ht hl]
  constructor
  · rintro ⟨h1 | h1, h2⟩
    · exact absurd h1 h2
    · exact h1
  · intro h1
    exact ⟨.inr h1, fun e => hn (e ▸ h1)⟩
theorem add_twice {l : List (List Cel)} {t : List Cel} (ht : factB t = true) (hl : l.length < 512) : addF (addF l t) t = addF l t := by
  have : t ∈ addF l t := (mem_addF ht hl).2 (.inl rfl)
  generalize addF l t = m at this ⊢
  unfold addF
  rw [if_pos ht, if_pos this]
theorem mem_lessF {a b : List (List Cel)} {y : List Cel} : y ∈ lessF a b ↔ y ∈ a ∧ y ∉ b := by
  unfold lessF; simp
theorem FR.less {a : List (List Cel)} (h : FR a) (b : List (List Cel)) : FR (lessF a b) := h.filter _
theorem less_self (a : List (List Cel)) : lessF a a = [] := by
  unfold lessF
  rw [List.filter_eq_nil_iff]
  intro x hx
  simp [hx]
/-- one after the other added -/
noncomputable def addsF (l : List (List Cel)) (xs : List (List Cel)) : List (List Cel) := xs.foldl addF l
noncomputable def dropsF (l : List (List Cel)) (xs : List (List Cel)) : List (List Cel) := xs.foldl dropF l
theorem addsF_len : ∀ (xs l : List (List Cel)), (addsF l xs).length ≤ l.length + xs.length
  | [], l => by simp [addsF]
  | t :: xs, l => by
    have h := addsF_len xs (addF l t)
    have := addF_le (l := l) t
    unfold addsF at h ⊢
    simp only [List.foldl_cons, List.length_cons]
    omega
theorem FR.adds : ∀ {xs l : List (List Cel)}, FR l → FR (addsF l xs)
  | [], _, h => h
  | t :: xs, l, h => FR.adds (xs := xs) (h.add t)
theorem FR.drops : ∀ {xs l : List (List Cel)}, FR l → FR (dropsF l xs)
  | [], _, h => h
  | t :: xs, l, h => FR.drops (xs := xs) (h.dropF t)
theorem mem_addsF : ∀ {xs l : List (List Cel)} {y : List Cel}, (∀ x ∈ xs, factB x = true) → l.length + xs.length ≤ 512 → (y ∈ addsF l xs ↔ y ∈ xs ∨ y ∈ l)
  | [], l, y, _, _ => by simp [addsF]
  | t :: xs, l, y, h, hl => by
    simp only [List.length_cons] at hl
    have h1 := mem_addsF (xs := xs) (l := addF l t) (y := y) (fun x hx => h x (List.mem_cons_of_mem _ hx)) (by have := addF_le (l := l) t; omega)
    rw [show addsF l (t :: xs) = addsF (addF l t) xs from rfl, h1, mem_addF (h t (by simp)) (by omega), List.mem_cons]
    constructor
    · rintro (h | h | h)
      · exact .inl (.inr h)
      · exact .inl (.inl h)
      · exact .inr h
    · rintro ((h | h) | h)
      · exact .inr (.inl h)
      · exact .inl h
      · exact .inr (.inr h)
theorem mem_dropsF : ∀ {xs l : List (List Cel)} {y : List Cel}, (∀ x ∈ xs, factB x = true) → (∀ x ∈ xs, x ∈ l) → xs.Nodup → (y ∈ dropsF l xs ↔ y ∈ l ∧ y ∉ xs)
  | [], l, y, _, _, _ => by simp [dropsF]
  | t :: xs, l, y, h, hl, hn => by
    obtain ⟨n1, n2⟩ := List.nodup_cons.1 hn
    have ht := h t (by simp)
    have htl := hl t (by simp)
    have h1 := mem_dropsF (xs := xs) (l := dropF l t) (y := y) (fun x hx => h x (List.mem_cons_of_mem _ hx)) (fun x hx => (mem_dropF ht htl).2 ⟨hl x (List.mem_cons_of_mem _ hx), fun e => n1 (e ▸ hx)⟩) n2
    rw [show dropsF l (t :: xs) = dropsF (dropF l t) xs from rfl, h1, mem_dropF ht htl, List.mem_cons, not_or, and_assoc]
theorem FR.nodup {l : List (List Cel)} (h : FR l) : l.Nodup := h.rise.imp fun {x y} hxy e => by
  subst e; rw [compP_ok.self] at hxy; omega
/-- with what came added, and what went dropped, the one row is the other -/
theorem apart_back {a b : List (List Cel)} (ha : FR a) (hb : FR b) (hl : a.length + b.length ≤ 512) : dropsF (addsF a (lessF b a)) (lessF a b) = b := by
  have hm : ∀ y, y ∈ addsF a (lessF b a) ↔ y ∈ lessF b a ∨ y ∈ a := fun y => mem_addsF (fun x hx => hb.all x (mem_lessF.1 hx).1) (by
    have : (lessF b a).length ≤ b.length := List.length_filter_le _ _
    omega)
  refine (FR.drops (FR.adds ha)).ext hb fun y => ?_
  rw [mem_dropsF (fun x hx => ha.all x (mem_lessF.1 hx).1) (fun x hx => (hm x).2 (.inr (mem_lessF.1 hx).1)) (ha.less b).nodup, hm, mem_lessF, mem_lessF]
  by_cases h1 : y ∈ a <;> by_cases h2 : y ∈ b <;> simp [h1, h2]
theorem adds_take {l xs : List (List Cel)} {k : Nat} (hk : k < xs.length) : addsF l (xs.take (k + 1)) = addF (addsF l (xs.take k)) xs[k] := by
  rw [List.take_succ_eq_append_getElem hk]; unfold addsF; rw [List.foldl_append]; rfl
theorem drops_take {l xs : List (List Cel)} {k : Nat} (hk : k < xs.length) : dropsF l (xs.take (k + 1)) = dropF (dropsF l (xs.take k)) xs[k] := by
  rw [List.take_succ_eq_append_getElem hk]; unfold dropsF; rw [List.foldl_append]; rfl
end Go.Proofs.YtmmnfkggfnokjaaGreat
namespace Go.Proofs.YtmmnfkggfnokjaaGreat
open Go.RowKit

theorem own_belowA {w w' : World} {B e size : Nat} {v : Value} {n : Nat} {xs : List Value} (h : w.ownsRow B e size v n xs) (hb : Below w.heap.size w w') : w'.ownsRow B e size v n xs :=
  h.kept (row := none) ⟨hb.os, hb.tape, hb.output, hb.size, fun k hk _ => hb.block k hk⟩ (by cases hv : v.ownBlock <;> simp)

/-- a row of the call's own that is appended to -/
structure AccInv {α : Type} [RepC α] (B e : Nat) (acc : List α) (v : Value) (w : World) : Prop where
  ex : ∃ vs, w.ownsRow B e (Rep.sz α) v acc.length vs ∧ CRows (hide v.ownBlock w) vs acc
section
variable {α : Type} [RepC α] {B e : Nat} {acc : List α} {v : Value} {w w' : World}
theorem AccInv.nil (B e : Nat) (w : World) : AccInv B e ([] : List α) (.slice none 0 0) w := ⟨[], World.ownsRow_nil _ _ _ _, .nil⟩
theorem AccInv.made {T : Nat} (w : World) (hB : B ≤ w.heap.size) (he : e = T) : AccInv B e ([] : List α) (.slice (some ⟨w.heap.size, 0, none⟩) 0 0) (w.alloc (.cells #[] T)) :=
  ⟨[], by subst he; simpa using World.ownsRow_made (base := B) (e := e) (size := Rep.sz α) w #[] 0 hB (by unfold maxLen; omega) (by simp), .nil⟩
theorem AccInv.below (h : AccInv B e acc v w) (hb : Below w.heap.size w w') : AccInv B e acc v w' :=
  let ⟨vs, ho, hc⟩ := h.ex
  ⟨vs, own_belowA ho hb, hc.keeps (below_hide hb _)⟩
theorem AccInv.lt (h : AccInv B e acc v w) : ∀ g, v.ownBlock = some g → B ≤ g ∧ g < w.heap.size := let ⟨_, ho, _⟩ := h.ex; fun g hg => ho.lt g hg
theorem AccInv.row (h : AccInv B e acc v w) : ∃ a cap, v = .slice a acc.length cap ∧ Row w a cap acc :=
  let ⟨_, ho, hc⟩ := h.ex; own_rowG ho (hc.keeps (hide_keeps _ _))
theorem AccInv.lit {acc' : List α} (h : AccInv B e acc v w) (e1 : acc = acc') : AccInv B e acc' v w := e1 ▸ h
/-- what was there when the call began is read beside the row -/
theorem AccInv.fresh {w0 : World} (h : AccInv w0.heap.size e acc v w) (hb : Below w0.heap.size w0 w) : Keeps w0 (hide v.ownBlock w) := by
  obtain ⟨_, ho, _⟩ := h.ex
  cases hv : v.ownBlock with
  | none => exact Keeps.of hb
  | some g => exact fresh_keeps (Keeps.of hb) (ho.lt g hv).1
/-- a slice that is newer than the row is read beside it -/
theorem AccInv.newer {β : Type} [Rep β] {B2 : Nat} {w2 : World} {a : Option Addr} {cap : Nat} {ys : List β} (h : AccInv B e acc v w) (hB : w.heap.size ≤ B2) (hr : NewRow B2 w2 a cap ys) : Row (hide v.ownBlock w2) a cap ys :=
  hr.hide fun g hg => Nat.lt_of_lt_of_le (h.lt g hg).2 hB
end

/-- append of one element, laid just ahead of it -/
theorem wpList_acc {α : Type} [RepC α] {P : Program} {w : World} {ops : Array Oper} {rest : List Oper} {o : Oper} {a : Act} {Q : Exit → Act → World → Prop} (hgd : o.guard = none) (s x : Operand) (t : TypeId)
    (ho : o.op = .call { callee := .builtin .append, args := #[s, x], argTypes := #[t, t] })
    (B e bytes : Nat) (z : Value) (ht : P.underlying t = some (.slice e)) (hinfo : (P.info? e).map (fun i => (i.zero, i.size, i.bytes)) = some (some z, Rep.sz α, bytes))
    (hzs : z.cells.size = Rep.sz α) (hby : bytes ≤ 1000)
    (v : Value) (acc : List α) (hacc : AccInv B e acc v w) (hs : a.eval s = v) (T : Nat) (cs : Array Value) (y : α) (hcs : RepC.C (hide v.ownBlock w) cs.toList y)
    (hx : a.eval x = .slice (some ⟨w.heap.size, 0, none⟩) 1 1)
    (hmax : acc.length + 1 ≤ 1000000000) (hB : B ≤ w.heap.size)
    (h : ∀ v' w', AccInv B e (acc ++ [y]) v' w' → Below B w w' → wpList P ops Q rest (a.put o.dst v') w') : wpList P ops Q (o :: rest) a (w.alloc (.cells cs T)) := by
  obtain ⟨vs, hown, hc⟩ := hacc.ex
  refine wpList_app2 hgd s x t ho B e (Rep.sz α) bytes z ht hinfo hzs RepC.pos hby v acc.length vs hs (hown.alloc _) ⟨w.heap.size, 0, none⟩ 1 1 cs.toList hx (src_new w cs T (Rep.sz α) (by have := RepC.len hcs; simpa using this) (fun u hu => RepC.one hcs u hu)) hmax (Nat.le_trans hB (by simp)) ?_
  intro v' w' h1 _ h3 h4
  refine h v' w' ⟨vs ++ cs.toList, by rw [List.length_append]; exact h1, ?_⟩ (((Below.refl B w).alloc hB _).trans h3)
  exact ((hc.keeps (alloc_hide w _ _)).keeps h4).snoc (RepC.cmono (RepC.cmono hcs (alloc_hide w _ _)) h4)
theorem Row.srcK {α : Type} [RepC α] {w w' : World} {a : Option Addr} {cap : Nat} {xs : List α} (h : Row w a cap xs) (hk : Keeps w w') : ∃ vs, CRows w vs xs ∧ Src w' (Rep.sz α) a xs.length cap vs := by
  rcases h.cases with rfl | ⟨b, off, rfl, _, hat⟩
  · refine ⟨[], .nil, ⟨by simp, fun e => ⟨rfl, h.nil e⟩, fun ad _ j u hj => by simp at hj, fun u hu => by simp at hu⟩⟩
  · obtain ⟨vs, hv, hvat⟩ := crows_of (w := w) (b := b) xs off (fun i x hi => by
      obtain ⟨hl, rfl⟩ := List.getElem?_eq_some_iff.1 hi
      exact hat i hl)
    refine ⟨vs, hv, ⟨hv.len, (fun e => by cases e), ?_, hv.one⟩⟩
    intro ad e j u hj
    simp at e
    subst e
    have ha : (Addr.mk b off none).add j = ⟨b, off + j, none⟩ := by unfold Addr.add; split <;> simp_all
    rw [ha]
    exact hk _ _ _ (hvat j u hj)
/-- append of all of a slice -/
theorem wpList_accs {α : Type} [RepC α] {P : Program} {w : World} {ops : Array Oper} {rest : List Oper} {o : Oper} {a : Act} {Q : Exit → Act → World → Prop} (hgd : o.guard = none) (s x : Operand) (t : TypeId)
    (ho : o.op = .call { callee := .builtin .append, args := #[s, x], argTypes := #[t, t] })
    (B e bytes : Nat) (z : Value) (ht : P.underlying t = some (.slice e)) (hinfo : (P.info? e).map (fun i => (i.zero, i.size, i.bytes)) = some (some z, Rep.sz α, bytes))
    (hzs : z.cells.size = Rep.sz α) (hby : bytes ≤ 1000)
    (v : Value) (acc : List α) (hacc : AccInv B e acc v w) (hs : a.eval s = v) (sa : Option Addr) (cap : Nat) (ys : List α) (hr : Row (hide v.ownBlock w) sa cap ys)
    (hx : a.eval x = .slice sa ys.length cap)
    (hmax : acc.length + ys.length ≤ 1000000000) (hB : B ≤ w.heap.size)
    (h : ∀ v' w', AccInv B e (acc ++ ys) v' w' → Below B w w' → wpList P ops Q rest (a.put o.dst v') w') : wpList P ops Q (o :: rest) a w := by
  obtain ⟨vs, hown, hc⟩ := hacc.ex
  obtain ⟨us, hu, hsrc⟩ := hr.srcK (hide_keeps _ _)
  cases sa with
  | none =>
    have h0 : ys.length = 0 := (hsrc.nil rfl).1
    have hc0 : cap = 0 := (hsrc.nil rfl).2
    obtain rfl : ys = [] := List.eq_nil_of_length_eq_zero h0
    obtain ⟨i, hi, hz0, hz1, hz2⟩ := info_parts hinfo
    subst hc0
    refine wpList_append_own_none hgd s x t ho B e i (Rep.sz α) ht hi v acc.length vs hs hown hx ?_
    exact h v w ⟨vs, by rw [List.append_nil]; exact hown, by rw [List.append_nil]; exact hc⟩ (Below.refl _ _)
  | some ad =>
    refine wpList_app2 hgd s x t ho B e (Rep.sz α) bytes z ht hinfo hzs RepC.pos hby v acc.length vs hs hown ad ys.length cap us hx hsrc hmax hB ?_
    intro v' w' h1 _ h3 h4
    exact h v' w' ⟨vs ++ us, by rw [List.length_append]; exact h1, (hc.keeps h4).append (hu.keeps h4)⟩ h3
end Go.Proofs.YtmmnfkggfnokjaaGreat
namespace Go.Proofs.YtmmnfkggfnokjaaGreat
open Go.RowKit

/-! ### the document's own -/
theorem nmem_take {l : List (List Cel)} {t : List Cel} {k : Nat} (hk : k < l.length) (h : t ∉ l.take k) (hn : l[k] ≠ t) : t ∉ l.take (k + 1) := by
  rw [List.take_succ_eq_append_getElem hk, List.mem_append, not_or]
  exact ⟨h, by simpa using fun e => hn e.symm⟩

set_option maxHeartbeats 1600000 in
theorem refhasF_any (a : Option Addr) (cap : Nat) (l : List (List Cel)) (a' : Option Addr) (cap' : Nat) (t : List Cel) (w : World) (hr : Row w a cap l) (ht : Row w a' cap' t) :
    Calls Tryz.prog 21 #[.slice a l.length cap, .slice a' t.length cap'] w fun e w' => e = .returned (.bool (decide (t ∈ l))) ∧ Below w.heap.size w w' := by
  have hm := hr.max
  have hm2 := hr.le
  go_enter Tryz.func21, Tryz.ntmps21
  go_wp2
  go_loopw [5] (fun i wr => ∃ k : Nat, k ≤ l.length ∧ i = .int .i64 k ∧ Below w.heap.size w wr ∧ Hid (t ∉ l.take k)) (fun i wr => l.length - (intOf i).toNat)
  case atStart => exact ⟨0, Nat.zero_le _, rfl, Below.refl _ _, by simp [Hid]⟩
  case round =>
    obtain ⟨k, hk, rfl, hbl, HS⟩ := hrel
    by_cases hlt : k < l.length
    · obtain ⟨b, off, rfl, hb, hat⟩ := hr.cases.resolve_left (fun e => by simp [e] at hlt)
      obtain ⟨a1, cap1, c0, hr1⟩ := list_at hat hbl hlt
      have ht1 := ht.below hbl
      by_cases he : l[k] = t
      · have HD := mkHid (decide_eq_true he)
        have HF : Hid (decide (t ∈ l) = true) := decide_eq_true (he ▸ List.getElem_mem hlt)
        clear HS he
        go_wp2_with (go_at_call 43; refine (refsameF_is hr1 ht1 HD).mono ?_; rintro e w' ⟨rfl, hb1⟩)
        go_ret
        exact ⟨ret_bool HF.out.symm, hbl.then hb1⟩
      · have HD := mkHid (decide_eq_false he)
        have HT := mkHid (nmem_take hlt HS.out he)
        clear HS he
        go_wp2_with (go_at_call 43; refine (refsameF_is hr1 ht1 HD).mono ?_; rintro e w' ⟨rfl, hb1⟩)
        go_round
        case rel => exact ⟨k + 1, by omega, by go_num, hbl.then hb1, HT⟩
        case measure => simp [intOf]; omega
    · have HF : Hid (decide (t ∈ l) = false) := decide_eq_false (by have := HS.out; rwa [List.take_of_length_le (by omega)] at this)
      clear HS
      go_wp2
      go_ret
      exact ⟨ret_bool HF.out.symm, hbl⟩

set_option maxHeartbeats 1600000 in
theorem refsame12_any (a : Option Addr) (cap : Nat) (a' : Option Addr) (cap' : Nat) (w : World) (xs ys : List (List Cel)) (hx : Row w a cap xs) (hy : Row w a' cap' ys) :
    Calls Tryz.prog 19 #[.slice a xs.length cap, .slice a' ys.length cap'] w fun e w' => e = .returned (.bool (decide (xs = ys))) ∧ Below w.heap.size w w' := by
  have hm := hx.max
  have hm2 := hx.le
  have hm3 := hy.max
  have hm4 := hy.le
  by_cases hlen : xs.length = ys.length
  · have hlt2 : ys.length ≤ xs.length := by omega
    have hlt3 : xs.length ≤ ys.length := by omega
    have hne : ((xs.length : Int) != (ys.length : Int)) = false := by simp [hlen]
    clear hlen
    go_enter Tryz.func19, Tryz.ntmps19
    go_wp2
    go_loopw [5] (fun i wr => ∃ k : Nat, k ≤ xs.length ∧ i = .int .i64 k ∧ Below w.heap.size w wr ∧ Hid (xs.take k = ys.take k)) (fun i wr => xs.length - (intOf i).toNat)
    case atStart => exact ⟨0, Nat.zero_le _, rfl, Below.refl _ _, rfl⟩
    case round =>
      obtain ⟨k, hk, rfl, hbl, HS⟩ := hrel
      by_cases hlt : k < xs.length
      · have hlt' : k < ys.length := by omega
        obtain ⟨b, off, rfl, hb, hat⟩ := hx.cases.resolve_left (fun e => by simp [e] at hlt)
        obtain ⟨b', off', rfl, hb', hat'⟩ := hy.cases.resolve_left (fun e => by simp [e] at hlt')
        obtain ⟨a1, cap1, c0, hr1⟩ := list_at hat hbl hlt
        obtain ⟨a2, cap2, d0, hr2⟩ := list_at hat' hbl hlt'
        have e0 : ∀ x : Later wr, x.w'.cell? ⟨b, off + k, none⟩ = some (.slice a1 xs[k].length cap1) := keepL c0
        have f0 : ∀ x : Later wr, x.w'.cell? ⟨b', off' + k, none⟩ = some (.slice a2 ys[k].length cap2) := keepL d0
        by_cases he : xs[k] = ys[k]
        · have HT : Hid (xs.take (k + 1) = ys.take (k + 1)) := take_eq_snoc HS.out hlt hlt' he
          have HD := mkHid (decide_eq_true he)
          have hcall : ∀ x : Later wr, Calls Tryz.prog 43 #[.slice a1 xs[k].length cap1, .slice a2 ys[k].length cap2] x.w' fun e w'' => e = .returned (.bool true) ∧ Below x.w'.heap.size x.w' w'' := fun x =>
            refsameF_is (hr1.below x.ok) (hr2.below x.ok) HD
          clear he HS
          go_wp2
          refine wp_region_calm (by kernel_rfl) (by kernel_rfl) ?_
          repeat (go_big_quiet_step (exact Calls.calm_of (hcall _)))
          refine wpQuiet_nil ?_
          rintro _ ⟨x, rfl⟩
          go_wp2
          go_round
          case rel => exact ⟨k + 1, by omega, by go_num, hbl.then x.ok, HT⟩
          case measure => simp [intOf]; omega
        · have HE : Hid (false = decide (xs = ys)) := by
            rw [Hid, decide_eq_false]
            intro e
            subst e
            exact he rfl
          have HD := mkHid (decide_eq_false he)
          have hcall : ∀ x : Later wr, Calls Tryz.prog 43 #[.slice a1 xs[k].length cap1, .slice a2 ys[k].length cap2] x.w' fun e w'' => e = .returned (.bool false) ∧ Below x.w'.heap.size x.w' w'' := fun x =>
            refsameF_is (hr1.below x.ok) (hr2.below x.ok) HD
          clear he HS
          go_wp2
          refine wp_region_calm (by kernel_rfl) (by kernel_rfl) ?_
          repeat (go_big_quiet_step (exact Calls.calm_of (hcall _)))
          refine wpQuiet_nil ?_
          rintro _ ⟨x, rfl⟩
          go_wp2
          go_ret
          exact ⟨ret_bool HE.out, hbl.then x.ok⟩
      · have HE : Hid (true = decide (xs = ys)) := by
          rw [Hid, decide_eq_true (take_all HS.out (by omega) (by omega))]
        clear HS
        go_wp2
        go_ret
        exact ⟨ret_bool HE.out, hbl⟩
  · have HE : Hid (false = decide (xs = ys)) := by
      rw [Hid, decide_eq_false]; intro e; rw [e] at hlen; exact hlen rfl
    have hne : ((xs.length : Int) != (ys.length : Int)) = true := by simp; omega
    clear hlen
    go_enter Tryz.func19, Tryz.ntmps19
    go_wp2
    go_ret
    exact ⟨ret_bool HE.out, Below.refl _ _⟩

set_option maxHeartbeats 1600000 in
theorem refrightF_any (a : Option Addr) (cap : Nat) (w : World) (l : List (List Cel)) (hr : Row w a cap l) :
    Calls Tryz.prog 9 #[.slice a l.length cap] w fun e w' => e = .returned (.bool (frightB l)) ∧ Below w.heap.size w w' := by
  have hm := hr.max
  have hm2 := hr.le
  by_cases h512 : l.length ≤ 512
  · go_enter Tryz.func9, Tryz.ntmps9
    go_wp2
    go_loopw [3] (fun i wr => ∃ k : Nat, k ≤ l.length ∧ i = .int .i64 k ∧ Below w.heap.size w wr ∧ Hid (∀ j, j < k → standB l j = true)) (fun i wr => l.length - (intOf i).toNat)
    case atStart => exact ⟨0, Nat.zero_le _, rfl, Below.refl _ _, fun j hj => absurd hj (Nat.not_lt_zero _)⟩
    case round =>
      obtain ⟨k, hk, rfl, hbl, HS⟩ := hrel
      by_cases hlt : k < l.length
      · obtain ⟨b, off, rfl, hb, hat⟩ := hr.cases.resolve_left (fun e => by simp [e] at hlt)
        obtain ⟨a1, cap1, c0, hr1⟩ := list_at hat hbl hlt
        obtain ⟨q, hq⟩ : ∃ q, factB l[k] = q := ⟨_, rfl⟩
        have HQ := mkHid hq
        clear hq
        have hcF : ∀ x : Later wr, Calls Tryz.prog 7 #[.slice a1 l[k].length cap1] x.w' fun e w'' => e = .returned (.bool q) ∧ Below x.w'.heap.size x.w' w'' := fun x => reffact_is (hr1.below x.ok) HQ
        cases q with
        | false =>
          have HF : Hid (frightB l = false) := fright_bad hlt (by
            cases hs : standB l k with
            | false => rfl
            | true => have := stand_fact hlt hs; rw [HQ.out] at this; cases this)
          have e0 : ∀ x : Later wr, x.w'.cell? ⟨b, off + k, none⟩ = some (.slice a1 l[k].length cap1) := keepL c0
          clear HS
          go_wp2
          refine wp_region_calm (by kernel_rfl) (by kernel_rfl) ?_
          repeat (go_big_quiet_step (exact Calls.calm_of (hcF _)))
          refine wpQuiet_nil ?_
          rintro _ ⟨x, rfl⟩
          go_wp2
          go_ret
          exact ⟨ret_bool HF.out.symm, hbl.then x.ok⟩
        | true =>
          by_cases h0 : k = 0
          · have HT := mkHid (stand_succ HS.out (by rw [stand_first hlt h0]; exact HQ.out))
            subst h0
            simp only [Nat.add_zero] at c0
            have e0 : ∀ x : Later wr, x.w'.cell? ⟨b, off, none⟩ = some (.slice a1 l[0].length cap1) := keepL c0
            clear HS
            go_wp2
            refine wp_region_calm (by kernel_rfl) (by kernel_rfl) ?_
            repeat (go_big_quiet_step (exact Calls.calm_of (hcF _)))
            refine wpQuiet_nil ?_
            rintro _ ⟨x, rfl⟩
            go_wp2
            go_round
            case rel => exact ⟨1, by omega, by go_num, hbl.then x.ok, HT⟩
            case measure => simp [intOf]; omega
          · have h0' : 0 < k := by omega
            have hk1 : k - 1 < l.length := by omega
            have e0 : ∀ x : Later wr, x.w'.cell? ⟨b, off + k, none⟩ = some (.slice a1 l[k].length cap1) := keepL c0
            obtain ⟨a2, cap2, c1, hr2⟩ := list_at hat hbl hk1
            have hf1 : factB l[k - 1] = true := stand_fact hk1 (HS.out (k - 1) (by omega))
            obtain ⟨d, hd⟩ : ∃ d, compP l[k - 1] l[k] = d := ⟨_, rfl⟩
            have HD := mkHid hd
            have HR : Hid (compR l[k - 1] l[k] = d) := by rw [Hid, ← comp_factF hf1 HQ.out]; exact hd
            have hcC : ∀ x : Later wr, Calls Tryz.prog 35 #[.slice a2 l[k - 1].length cap2, .slice a1 l[k].length cap1] x.w' fun e w'' => e = .returned (.int .i64 d) ∧ Below x.w'.heap.size x.w' w'' := fun x =>
              refcompare_is (hr2.below x.ok) (hr1.below x.ok) HR
            clear hd hf1
            have hoff : off + (k - 1) = off + k - 1 := by omega
            rw [hoff] at c1
            have e1 : ∀ x : Later wr, x.w'.cell? ⟨b, off + k - 1, none⟩ = some (.slice a2 l[k - 1].length cap2) := keepL c1
            by_cases hd0 : d < 0
            · have hd1 : ¬ 0 ≤ d := by omega
              have HT := mkHid (stand_succ HS.out (by rw [stand_next hlt h0', HQ.out, HD.out, decide_eq_true hd0]; rfl))
              clear HS
              go_wp2
              refine wp_region_calm (by kernel_rfl) (by kernel_rfl) ?_
              repeat (go_big_quiet_step (first | exact Calls.calm_of (hcF _) | exact Calls.calm_of (hcC _)))
              refine wpQuiet_nil ?_
              rintro _ ⟨x, rfl⟩
              go_wp2
              go_round
              case rel => exact ⟨k + 1, by omega, by go_num, hbl.then x.ok, HT⟩
              case measure => simp [intOf]; omega
            · have hd1 : 0 ≤ d := by omega
              have HF : Hid (frightB l = false) := fright_bad hlt (by rw [stand_next hlt h0', HD.out, decide_eq_false hd0, Bool.and_false])
              clear HS
              go_wp2
              refine wp_region_calm (by kernel_rfl) (by kernel_rfl) ?_
              repeat (go_big_quiet_step (first | exact Calls.calm_of (hcF _) | exact Calls.calm_of (hcC _)))
              refine wpQuiet_nil ?_
              rintro _ ⟨x, rfl⟩
              go_wp2
              go_ret
              exact ⟨ret_bool HF.out.symm, hbl.then x.ok⟩
      · have HF : Hid (frightB l = true) := fright_end h512 HS.out (by omega)
        clear HS
        go_wp2
        go_ret
        exact ⟨ret_bool HF.out.symm, hbl⟩
  · have HF : Hid (frightB l = false) := fright_long h512
    go_enter Tryz.func9, Tryz.ntmps9
    go_wp2
    go_ret
    exact ⟨ret_bool HF.out.symm, Below.refl _ _⟩
end Go.Proofs.YtmmnfkggfnokjaaGreat
namespace Go.Proofs.YtmmnfkggfnokjaaGreat
open Go.RowKit

/-- the name that is made of a string -/
theorem name3_any (s : ByteArray) (w : World) : Calls Tryz.prog 48 #[.string s] w fun e w' => (∃ t : ByteArray, e = .returned (.string t) ∧ (t = ⟨#[102]⟩ ∨ t = ⟨#[103]⟩ ∨ t = ⟨#[97]⟩)) ∧ w' = w := by
  go_enter Tryz.func48, Tryz.ntmps48
  go_wp2
  all_goals
    go_ret
    exact ⟨⟨_, rfl, by simp⟩, rfl⟩
end Go.Proofs.YtmmnfkggfnokjaaGreat
namespace Go.Proofs.YtmmnfkggfnokjaaGreat
open Go.RowKit

/-! ### laying out: the row that grows -/
def LR (W : World) (B : Nat) (v : Value) (acc : List Cel) : Prop := W.ownsRow B 42 3 v acc.length (flat acc)
theorem LR.kept {W W' : World} {B : Nat} {v : Value} {acc : List Cel} {row : Option Nat} (h : LR W B v acc) (hg : W.grownBy W' row) (hne : v.ownBlock = none ∨ v.ownBlock ≠ row) : LR W' B v acc := World.ownsRow.kept h hg hne
theorem LR.cells {W : World} {B g : Nat} {v : Value} {acc : List Cel} (h : LR W B v acc) (hg : v.ownBlock = some g) : ∃ cur, W.heap[g]? = some (.cells cur 42 (0, 0)) := by
  rcases h.2 with ⟨rfl, _⟩ | ⟨g', cap', cur, rfl, hb, hgg, _⟩
  · simp [Value.ownBlock] at hg
  · simp [Value.ownBlock] at hg
    subst hg
    exact ⟨cur, hgg⟩
theorem LR.block {W W' : World} {B : Nat} {v : Value} {acc : List Cel} (h : LR W B v acc) (e : ∀ g, v.ownBlock = some g → W'.heap[g]? = W.heap[g]?) : LR W' B v acc := by
  refine ⟨h.1, ?_⟩
  rcases h.2 with hn | ⟨g', cap', cur, rfl, hb, hgg, rest⟩
  · exact .inl hn
  · exact .inr ⟨g', cap', cur, rfl, hb, (e g' rfl).trans hgg, rest⟩
theorem LR.lt {W : World} {B : Nat} {v : Value} {acc : List Cel} (h : LR W B v acc) : ∀ g, v.ownBlock = some g → B ≤ g ∧ g < W.heap.size := World.ownsRow.lt h
/-- append of one cell, laid just ahead of it -/
theorem run_lay {W : World} {B : Nat} {v : Value} {acc : List Cel} (h : LR W B v acc) (c : Cel) (hl : acc.length ≤ 1000000) (hB : B ≤ W.heap.size) (ty : TypeId) :
    ∃ v' w', (Builtin.append_ #[23, 23] ty #[v, .slice (some ⟨W.heap.size, 0, none⟩) 1 1]).run Tryz.prog (W.alloc (.cells #[.int .i64 c.k, .string c.s, .int .i64 c.n] 42)) = .ok v' w' ∧
      LR w' B v' (acc ++ [c]) ∧ (W.alloc (.cells #[.int .i64 c.k, .string c.s, .int .i64 c.n] 42)).grownBy w' v.ownBlock ∧ (v'.ownBlock = v.ownBlock ∨ v'.ownBlock = some (W.heap.size + 1)) ∧ ∃ g cap', v' = .slice (some ⟨g, 0, none⟩) (acc.length + 1) cap' := by
  obtain ⟨i, hi, hz0, hz1, hz2⟩ := info_parts Tryz.infoCell
  obtain ⟨v', w', hrun, h2, h3, h4⟩ := run_append_where (P := Tryz.prog) (W.alloc (.cells #[.int .i64 c.k, .string c.s, .int .i64 c.n] 42)) B 23 ty 42 i _ 3 32 Tryz.underlying23 hi hz0 hz1 hz2 rfl (by omega) _ acc.length _ (World.ownsRow.alloc h _)
    ⟨W.heap.size, 0, none⟩ 1 1 [.int .i64 c.k, .string c.s, .int .i64 c.n] rfl (by
      intro j u hj
      match j, hj with
      | 0, hj => simp at hj; subst hj; simp [Addr.add, World.cell?_alloc_at]
      | 1, hj => simp at hj; subst hj; simp [Addr.add, World.cell?_alloc_at]
      | 2, hj => simp at hj; subst hj; simp [Addr.add, World.cell?_alloc_at]
      | j + 3, hj => simp at hj) (by intro u hu; simp at hu; rcases hu with rfl | rfl | rfl <;> rfl) (by unfold maxLen; omega) (by omega) (by simp; omega)
  refine ⟨v', w', hrun, ?_, h3, by simpa using h4, ?_⟩
  · unfold LR
    rw [List.length_append, List.length_singleton, show flat (acc ++ [c]) = flat acc ++ [.int .i64 c.k, .string c.s, .int .i64 c.n] by simp [flat]]
    exact h2
  · rcases h2.2 with ⟨_, h0⟩ | ⟨g, cap, _, e, _⟩
    · omega
    · exact ⟨g, cap, e⟩
end Go.Proofs.YtmmnfkggfnokjaaGreat
namespace Go.Proofs.YtmmnfkggfnokjaaGreat
open Go.RowKit

/-- append of one element, and what is read beside the row -/
theorem wpList_accK {α : Type} [RepC α] {P : Program} {w : World} {ops : Array Oper} {rest : List Oper} {o : Oper} {a : Act} {Q : Exit → Act → World → Prop} (hgd : o.guard = none) (s x : Operand) (t : TypeId)
    (ho : o.op = .call { callee := .builtin .append, args := #[s, x], argTypes := #[t, t] })
    (B e bytes : Nat) (z : Value) (ht : P.underlying t = some (.slice e)) (hinfo : (P.info? e).map (fun i => (i.zero, i.size, i.bytes)) = some (some z, Rep.sz α, bytes))
    (hzs : z.cells.size = Rep.sz α) (hby : bytes ≤ 1000)
    (v : Value) (acc : List α) (hacc : AccInv B e acc v w) (hs : a.eval s = v) (T : Nat) (cs : Array Value) (y : α) (hcs : RepC.C (hide v.ownBlock w) cs.toList y)
    (hx : a.eval x = .slice (some ⟨w.heap.size, 0, none⟩) 1 1)
    (hmax : acc.length + 1 ≤ 1000000000) (hB : B ≤ w.heap.size)
    (h : ∀ v' w', AccInv B e (acc ++ [y]) v' w' → Below B w w' → Keeps (hide v.ownBlock w) (hide v'.ownBlock w') → wpList P ops Q rest (a.put o.dst v') w') : wpList P ops Q (o :: rest) a (w.alloc (.cells cs T)) := by
  obtain ⟨vs, hown, hc⟩ := hacc.ex
  refine wpList_app2 hgd s x t ho B e (Rep.sz α) bytes z ht hinfo hzs RepC.pos hby v acc.length vs hs (hown.alloc _) ⟨w.heap.size, 0, none⟩ 1 1 cs.toList hx (src_new w cs T (Rep.sz α) (by have := RepC.len hcs; simpa using this) (fun u hu => RepC.one hcs u hu)) hmax (Nat.le_trans hB (by simp)) ?_
  intro v' w' h1 _ h3 h4
  refine h v' w' ⟨vs ++ cs.toList, by rw [List.length_append]; exact h1, ?_⟩ (((Below.refl B w).alloc hB _).trans h3) ((alloc_hide w _ _).trans h4)
  exact ((hc.keeps (alloc_hide w _ _)).keeps h4).snoc (RepC.cmono (RepC.cmono hcs (alloc_hide w _ _)) h4)
/-- append of all of a slice, and what is read beside the row -/
theorem wpList_accsK {α : Type} [RepC α] {P : Program} {w : World} {ops : Array Oper} {rest : List Oper} {o : Oper} {a : Act} {Q : Exit → Act → World → Prop} (hgd : o.guard = none) (s x : Operand) (t : TypeId)
    (ho : o.op = .call { callee := .builtin .append, args := #[s, x], argTypes := #[t, t] })
    (B e bytes : Nat) (z : Value) (ht : P.underlying t = some (.slice e)) (hinfo : (P.info? e).map (fun i => (i.zero, i.size, i.bytes)) = some (some z, Rep.sz α, bytes))
    (hzs : z.cells.size = Rep.sz α) (hby : bytes ≤ 1000)
    (v : Value) (acc : List α) (hacc : AccInv B e acc v w) (hs : a.eval s = v) (sa : Option Addr) (cap : Nat) (ys : List α) (hr : Row (hide v.ownBlock w) sa cap ys)
    (hx : a.eval x = .slice sa ys.length cap)
    (hmax : acc.length + ys.length ≤ 1000000000) (hB : B ≤ w.heap.size)
    (h : ∀ v' w', AccInv B e (acc ++ ys) v' w' → Below B w w' → Keeps (hide v.ownBlock w) (hide v'.ownBlock w') → wpList P ops Q rest (a.put o.dst v') w') : wpList P ops Q (o :: rest) a w := by
  obtain ⟨vs, hown, hc⟩ := hacc.ex
  obtain ⟨us, hu, hsrc⟩ := hr.srcK (hide_keeps _ _)
  cases sa with
  | none =>
    have h0 : ys.length = 0 := (hsrc.nil rfl).1
    have hc0 : cap = 0 := (hsrc.nil rfl).2
    obtain rfl : ys = [] := List.eq_nil_of_length_eq_zero h0
    obtain ⟨i, hi, hz0, hz1, hz2⟩ := info_parts hinfo
    subst hc0
    refine wpList_append_own_none hgd s x t ho B e i (Rep.sz α) ht hi v acc.length vs hs hown hx ?_
    exact h v w ⟨vs, by rw [List.append_nil]; exact hown, by rw [List.append_nil]; exact hc⟩ (Below.refl _ _) (fun _ _ _ h => h)
  | some ad =>
    refine wpList_app2 hgd s x t ho B e (Rep.sz α) bytes z ht hinfo hzs RepC.pos hby v acc.length vs hs hown ad ys.length cap us hx hsrc hmax hB ?_
    intro v' w' h1 _ h3 h4
    exact h v' w' ⟨vs ++ us, by rw [List.length_append]; exact h1, (hc.keeps h4).append (hu.keeps h4)⟩ h3 h4

set_option maxHeartbeats 800000 in
theorem refvars_new (a : Option Addr) (cap : Nat) (w : World) (xs : List Cel) (hr : Row w a cap xs) (hl : xs.length ≤ 1000000) :
    Calls Tryz.prog 57 #[.slice a xs.length cap] w fun e w' => ∃ a' cap', e = .returned (.slice a' (varsL xs).length cap') ∧ NewRow w.heap.size w' a' cap' (varsL xs) ∧ Below w.heap.size w w' := by
  have hc := hr.le
  have hc2 := hr.max
  have hm0 := World.ownsRow_made (base := w.heap.size) (e := 3) (size := 1) w #[] 0 (Nat.le_refl _) (by unfold maxLen; omega) rfl
  have hb0 := (Below.refl w.heap.size w).new (.cells #[] 3)
  go_enter Tryz.func57, Tryz.ntmps57
  go_wp2_with fail
  go_loopw [3, 4] (fun v i wr => ∃ (k : Nat) (acc : List Int), k ≤ xs.length ∧ acc.length ≤ k ∧ i = .int .i64 k ∧ wr.ownsRow w.heap.size 3 1 v acc.length (acc.map (Value.int .i64)) ∧ Below w.heap.size w wr ∧ (∀ n ∈ acc, -9223372036854775808 ≤ n ∧ n ≤ 9223372036854775807) ∧ Hid (varsL xs = varsGo acc (xs.drop k))) (fun v i wr => xs.length - (intOf i).toNat)
  case atStart => exact ⟨0, [], Nat.zero_le _, Nat.zero_le _, rfl, hm0, hb0, by simp, rfl⟩
  case round =>
    obtain ⟨k, acc, hk, hak, rfl, hown, hbl, haf, HS⟩ := hrel
    obtain ⟨a', cap', rfl, hrowN⟩ := own_rowI (under_own hown) haf
    have hrow := Row.keeps hrowN (under_keeps _ _)
    have HN := mkHid hrowN
    clear hrowN
    have HA := mkHid haf
    by_cases hlt : k < xs.length
    · obtain ⟨b, off, rfl, hb, hat⟩ := hr.cases.resolve_left (fun e => by simp [e] at hlt)
      obtain ⟨c0, c1, c2, hf⟩ := cel_at hat hbl hlt
      have hst := varsGo_step acc xs k hlt
      by_cases h1 : xs[k].k = 1
      · have t1 : (xs[k].k == 1) = true := by simp [h1]
        by_cases h2 : xs[k].n ∈ acc
        · have HT : Hid (varsL xs = varsGo acc (xs.drop (k + 1))) := by rw [Hid, HS.out, hst, if_neg (by simp [h2])]
          have hd := mkHid (decide_eq_true h2)
          clear h1 h2 HS hst haf
          go_wp2_with (go_at_call 74; refine (refin_any a' cap' xs[k].n _ acc hrow).mono ?_; rintro e w' ⟨rfl, hb1⟩; rw [hd.out])
          go_round
          case rel => exact ⟨k + 1, acc, by omega, by omega, by go_num, own_below hown hb1, hbl.then hb1, HA.out, HT⟩
          case measure => simp [intOf]; omega
        · have HT : Hid (varsL xs = varsGo (acc ++ [xs[k].n]) (xs.drop (k + 1))) := by rw [Hid, HS.out, hst, if_pos ⟨h1, h2⟩]
          have hd := mkHid (decide_eq_false h2)
          clear h1 h2 HS hst haf
          go_wp2_with (first
            | (go_at_call 74; refine (refin_any a' cap' xs[k].n _ acc hrow).mono ?_; rintro e w' ⟨rfl, hb1⟩; rw [hd.out]; have d0 := keep c0 hb1; have d2 := keep c2 hb1; have hown1 := own_below hown hb1; have hbl1 := hbl.then hb1; clear c0 c1 c2)
            | (at_builtin; refine wpList_app rfl _ _ 63 rfl w.heap.size 3 1 8 _ Tryz.underlying63 Tryz.infoInt rfl (by decide) (by decide) _ acc.length _ rfl (hown1.alloc _) (some ⟨_, 0, none⟩) 1 1 [.int .i64 xs[k].n] rfl (src_new _ #[.int .i64 xs[k].n] _ 1 rfl (by simp [Value.oneCell'])) (by omega) (Nat.le_trans hbl1.size (by simp)) ?_; intro v' w2 hown2 _ hb2))
          go_round
          case rel => exact ⟨k + 1, acc ++ [xs[k].n], by omega, by simp; omega, by go_num, by simpa using hown2, (hbl1.new _).trans hb2, out_fit HA.out hf.n1 hf.n2, HT⟩
          case measure => simp [intOf]; omega
      · have t1 : (xs[k].k == 1) = false := by simp [h1]
        have HT : Hid (varsL xs = varsGo acc (xs.drop (k + 1))) := by rw [Hid, HS.out, hst, if_neg (fun h => h1 h.1)]
        clear h1 HS hst haf
        go_wp2
        go_round
        case rel => exact ⟨k + 1, acc, by omega, by omega, by go_num, hown, hbl, HA.out, HT⟩
        case measure => simp [intOf]; omega
    · have HT : Hid (varsL xs = acc) := by rw [Hid, HS.out, List.drop_eq_nil_of_le (by omega)]; rfl
      clear HS haf
      go_wp2
      go_ret
      exact ⟨a', cap', by rw [HT.out]; rfl, by rw [HT.out]; exact HN.out, hbl⟩
end Go.Proofs.YtmmnfkggfnokjaaGreat
namespace Go.Proofs.YtmmnfkggfnokjaaGreat
open Go.RowKit

theorem mask (a : Int) (m : Nat) (hm : m ≤ 1000) : 0 ≤ bits .and .i64 a m ∧ bits .and .i64 a m ≤ m := by
  have h2 : (BitVec.ofInt 64 (m : Int)).toNat = m := by
    rw [BitVec.ofInt_natCast, BitVec.toNat_ofNat]; exact Nat.mod_eq_of_lt (by omega)
  have h3 : (BitVec.ofInt 64 a &&& BitVec.ofInt 64 (m : Int)).toNat ≤ m := by
    rw [BitVec.toNat_and, h2]; exact Nat.and_le_right
  have e : bits .and .i64 a m = IntKind.i64.wrap ((BitVec.ofInt 64 a &&& BitVec.ofInt 64 (m : Int)).toNat : Int) := rfl
  rw [e, IntKind.wrap_i64]
  omega
/-- append of one cell, laid just ahead of it -/
theorem wpList_lay {w : World} {ops : Array Oper} {rest : List Oper} {o : Oper} {a : Act} {Q : Exit → Act → World → Prop} (hg : o.guard = none) (s x : Operand) (hop : o.op = Op.call { callee := Callee.builtin Builtin.append, args := #[s, x], argTypes := #[23, 23] })
    (B : Nat) (v : Value) (acc : List Cel) (c : Cel) (hT : LR w B v acc) (hs : a.eval s = v) (hx : a.eval x = .slice (some ⟨w.heap.size, 0, none⟩) 1 1) (hB : B ≤ w.heap.size) (hl : acc.length ≤ 1000000)
    (hK : ∀ v' w', LR w' B v' (acc ++ [c]) → Below B w w' → (∃ g cap, v' = .slice (some ⟨g, 0, none⟩) (acc.length + 1) cap) → wpList Tryz.prog ops Q rest (a.put o.dst v') w') :
    wpList Tryz.prog ops Q (o :: rest) a (w.alloc (.cells #[.int .i64 c.k, .string c.s, .int .i64 c.n] 42)) := by
  refine wpList_plain hg fun K hK' => ?_
  obtain ⟨v', w', hrun, h2, h3, _, h4⟩ := run_lay hT c hl hB o.type
  have hlt := hT.lt
  have hb : Below B w w' := by
    refine ⟨h3.os, h3.tape, h3.output, by have := h3.size; simp at this; omega, fun k hk => ?_⟩
    exact (h3.block k (by simp; omega) (fun e => by have := (hlt k e.symm).1; omega)).trans (heap_alloc_old _ _ (by omega))
  unfold Oper.wp execOp
  simp [hop, resolve, invoke, builtin, hs, hx, hrun, Result.andThen]
  exact hK' _ _ (hK v' w' h2 hb h4)
end Go.Proofs.YtmmnfkggfnokjaaGreat
namespace Go.Proofs.YtmmnfkggfnokjaaGreat
open Go.RowKit

/-- what is made so far: n terms are wanted -/
structure MadeI (most n : Nat) (out : List Cel) : Prop where
  read : ∀ rest, sk 1 (out ++ rest) = sk n rest
  room : out.length + n ≤ most
  fit : ∀ c ∈ out, c.fit
theorem MadeI.start {most : Nat} (h : 1 ≤ most) : MadeI most 1 [] := ⟨fun _ => rfl, by simpa using h, by simp⟩
theorem MadeI.snoc {most m : Nat} {out : List Cel} {c : Cel} (h : MadeI most (m + 1) out) (hc : cellOk c = true) (hf : c.fit) (hr : out.length + (m + 1) + ar c ≤ most) : MadeI most (m + ar c) (out ++ [c]) := by
  refine ⟨fun rest => ?_, by rw [List.length_append, List.length_singleton]; omega, fun d hd => ?_⟩
  · rw [List.append_assoc, h.read]
    simp [sk, hc]
  · rcases List.mem_append.1 hd with hd | hd
    · exact h.fit d hd
    · rw [List.mem_singleton] at hd; rw [hd]; exact hf
theorem MadeI.done {most : Nat} {out : List Cel} (h : MadeI most 0 out) (hm : most ≤ 200) : rightB out = true ∧ out.length ≤ most := by
  have h1 := h.read []
  rw [List.append_nil] at h1
  have h2 := h.room
  refine ⟨?_, by omega⟩
  unfold rightB endI
  rw [List.drop_zero, h1]
  simp [sk]
  omega
def aC : Cel := ⟨3, ⟨#[97]⟩, 0⟩
theorem aC_fit : aC.fit := ⟨by show _ ≤ (3 : Int); omega, by show (3 : Int) ≤ _; omega, by show _ ≤ (0 : Int); omega, by show (0 : Int) ≤ _; omega, by show (1 : Nat) ≤ _; omega⟩
theorem aC_ok : cellOk aC = true := by decide +kernel
theorem vcel_ok (n : Int) (h : 0 ≤ n ∧ n ≤ 7) : cellOk ⟨1, ⟨#[]⟩, n⟩ = true ∧ (⟨1, ⟨#[]⟩, n⟩ : Cel).fit := by
  refine ⟨?_, ⟨by show _ ≤ (1 : Int); omega, by show (1 : Int) ≤ _; omega, by show _ ≤ n; omega, by show n ≤ _; omega, by show (0 : Nat) ≤ _; omega⟩⟩
  unfold cellOk
  simp
  omega
theorem ncel_ok (n : Int) (h : 0 ≤ n ∧ n ≤ 3) : cellOk ⟨2, ⟨#[]⟩, n⟩ = true ∧ (⟨2, ⟨#[]⟩, n⟩ : Cel).fit := by
  refine ⟨?_, ⟨by show _ ≤ (2 : Int); omega, by show (2 : Int) ≤ _; omega, by show _ ≤ n; omega, by show n ≤ _; omega, by show (0 : Nat) ≤ _; omega⟩⟩
  unfold cellOk
  simp
  omega
theorem fcel_ok (t : ByteArray) (ht : t = ⟨#[102]⟩ ∨ t = ⟨#[103]⟩ ∨ t = ⟨#[97]⟩) (n : Int) (h : 0 ≤ n ∧ n ≤ 3) : cellOk ⟨3, t, n⟩ = true ∧ (⟨3, t, n⟩ : Cel).fit := by
  refine ⟨?_, ⟨by show _ ≤ (3 : Int); omega, by show (3 : Int) ≤ _; omega, by show _ ≤ n; omega, by show n ≤ _; omega, by rcases ht with rfl | rfl | rfl <;> show (1 : Nat) ≤ _ <;> omega⟩⟩
  have hn : nameOk t = true := by rcases ht with rfl | rfl | rfl <;> decide +kernel
  unfold cellOk
  simp [hn]
  omega

/-- where a made row lies: it is the one that came, or it is new -/
def MadeAt (w : World) (a : Option Addr) (cap : Nat) (xs : List Cel) (w' : World) (a' : Option Addr) (cap' : Nat) (ys : List Cel) : Prop := (a' = a ∧ cap' = cap ∧ ys = xs) ∨ NewRow w.heap.size w' a' cap' ys
set_option maxRecDepth 100000 in
set_option maxHeartbeats 16000000 in
theorem made_where (a : Option Addr) (cap : Nat) (w : World) (xs : List Cel) (hx : Row w a cap xs) (most : Nat) (hm1 : 1 ≤ most) (hm2 : most ≤ 200) :
    Calls Tryz.prog 24 #[.slice a xs.length cap, .int .i64 most] w fun e w' => ∃ a' cap' ys, e = .returned (.slice a' ys.length cap') ∧ MadeAt w a cap xs w' a' cap' ys ∧ rightB ys = true ∧ ys.length ≤ most ∧ Below w.heap.size w w' := by
  have hm := hx.max
  have hle := hx.le
  have HX := mkHid hx
  clear hx
  go_enter Tryz.func24, Tryz.ntmps24
  go_wp2_with fail
  refine (refright_any a cap _ xs HX.out).mono ?_
  rintro e w1 ⟨rfl, hb1⟩
  by_cases hg : rightB xs = true ∧ xs.length ≤ most
  · obtain ⟨hr, hl⟩ := hg
    have t1 : decide (xs.length ≤ most) = true := by simp; omega
    have HE : Hid (∃ a' cap' ys, Ending.returned (.slice a xs.length cap) = .returned (.slice a' ys.length cap') ∧ MadeAt w a cap xs w1 a' cap' ys ∧ rightB ys = true ∧ ys.length ≤ most ∧ Below w.heap.size w w1) := ⟨a, cap, xs, rfl, .inl ⟨rfl, rfl, rfl⟩, hr, hl, hb1⟩
    rw [hr]
    clear hl hr
    go_wp2_with fail
    go_ret
    exact HE.out
  · by_cases hr : rightB xs = true
    · have t1 : decide (xs.length ≤ most) = false := by
        have : ¬ xs.length ≤ most := fun e => hg ⟨hr, e⟩
        simp; omega
      rw [hr]
      clear hr hg
      go_wp2_with fail
      have hown0 : LR (w1.alloc (.cells #[] 42)) w.heap.size (.slice (some ⟨w1.heap.size, 0, none⟩) 0 0) [] := World.ownsRow_made (base := w.heap.size) (e := 42) (size := 3) w1 #[] 0 hb1.size (by unfold maxLen; omega) rfl
      have HOWN0 := mkHid hown0
      have HMI0 := mkHid (MadeI.start hm1)
      have hb2 := hb1.new (.cells #[] 42)
      clear hown0
      go_loopw [5, 6, 7] (fun v nd i wr => ∃ (n : Nat) (out : List Cel) (g capo : Nat), nd = .int .i64 n ∧ i = .int .i64 out.length ∧ v = .slice (some ⟨g, 0, none⟩) out.length capo ∧ Hid (MadeI most n out) ∧ Hid (LR wr w.heap.size (.slice (some ⟨g, 0, none⟩) out.length capo) out) ∧ Below w.heap.size w wr ∧ out.length + n ≤ most) (fun v nd i wr => most - (intOf i).toNat)
      case atStart => exact ⟨1, [], w1.heap.size, 0, rfl, rfl, rfl, HMI0, HOWN0, hb2, by simpa using hm1⟩
      case round =>
        clear HOWN0 HMI0 hb2
        obtain ⟨n, out, g, capo, rfl, rfl, rfl, HMI, HLR, hbl, hrm⟩ := hrel
        cases n with
        | zero =>
          have HE : Hid (∃ a' cap' ys, Ending.returned (.slice (some ⟨g, 0, none⟩) out.length capo) = .returned (.slice a' ys.length cap') ∧ MadeAt w a cap xs wr a' cap' ys ∧ rightB ys = true ∧ ys.length ≤ most ∧ Below w.heap.size w wr) := by
            obtain ⟨q1, q2⟩ := HMI.out.done hm2
            obtain ⟨a5, cap5, e5, hr5⟩ := own_new (xs := out) HLR.out HMI.out.fit
            cases e5
            exact ⟨_, _, out, rfl, .inr hr5, q1, q2, hbl⟩
          go_wp2_with fail
          go_ret
          exact HE.out
        | succ m =>
          by_cases hlt : out.length < xs.length
          · obtain ⟨b, off, rfl, hb', hat⟩ := HX.out.cases.resolve_left (fun e => by simp [e] at hlt)
            obtain ⟨c0, c1, c2, hf⟩ := cel_at hat hbl hlt
            obtain ⟨k1, k2⟩ := mask xs[out.length].k 3 (by omega)
            obtain ⟨m1, m2⟩ := mask xs[out.length].n 7 (by omega)
            obtain ⟨n1, n2⟩ := mask xs[out.length].n 3 (by omega)
            rw [show ((3 : Nat) : Int) = 3 from rfl] at k1 k2 n1 n2
            rw [show ((7 : Nat) : Int) = 7 from rfl] at m1 m2
            have t27 : decide ((out.length : Int) < (xs.length : Int)) = true := by simp; omega
            have t27n : decide (out.length < xs.length) = true := by simp; omega
            have hbw := cell_lt c0
            have hk0 : (0 : Int) ≤ (out.length : Int) := by omega
            have hk1 : (out.length : Int) < (xs.length : Int) := by omega
            have hb3 := hbl.new (.cells #[.int .i64 3, .string ⟨#[97]⟩, .int .i64 0] 42)
            have HLR3 : Hid (LR (wr.alloc (.cells #[.int .i64 3, .string ⟨#[97]⟩, .int .i64 0] 42)) w.heap.size (.slice (some ⟨g, 0, none⟩) out.length capo) out) := World.ownsRow.alloc HLR.out _
            generalize hkk : bits .and .i64 xs[out.length].k 3 = kk at k1 k2
            generalize hm7 : bits .and .i64 xs[out.length].n 7 = v7 at m1 m2
            generalize hn3 : bits .and .i64 xs[out.length].n 3 = v3 at n1 n2
            by_cases h1 : kk = 1
            · have t35 : (kk == 1) = true := by simp [h1]
              obtain ⟨q1, q2⟩ := vcel_ok v7 ⟨m1, m2⟩
              have HN := mkHid (HMI.out.snoc q1 q2 (by show out.length + (m + 1) + 0 ≤ most; omega))
              clear h1 q1 q2
              have hb4 := hbl.new (.cells #[.int .i64 1, .string ⟨#[]⟩, .int .i64 v7] 42)
              have HLR4 : Hid (LR (wr.alloc (.cells #[.int .i64 1, .string ⟨#[]⟩, .int .i64 v7] 42)) w.heap.size (.slice (some ⟨g, 0, none⟩) out.length capo) out) := World.ownsRow.alloc HLR.out _
              go_wp2_with (at_builtin; refine wpList_lay rfl _ _ rfl w.heap.size _ out (⟨1, ⟨#[]⟩, v7⟩ : Cel) HLR4.out rfl (by simp only [World.size_alloc]; rfl) hb4.size (by omega) ?_; intro v2 w2 h1 h2 h3; obtain ⟨g2, cap2, rfl⟩ := h3)
              go_round
              case rel => exact ⟨m + ar (⟨1, ⟨#[]⟩, v7⟩ : Cel), out ++ [(⟨1, ⟨#[]⟩, v7⟩ : Cel)], g2, cap2, by go_num, by simp, by simp, HN.out, by rw [Hid, List.length_append]; exact h1, hb4.trans h2, HN.out.room⟩
              case measure => simp [intOf]; omega
            · have t35 : (kk == 1) = false := by simp [h1]
              by_cases h2 : kk = 2
              · have t55 : (kk == 2) = true := by simp [h2]
                obtain ⟨q1, q2⟩ := ncel_ok v3 ⟨n1, n2⟩
                have HN := mkHid (HMI.out.snoc q1 q2 (by show out.length + (m + 1) + 0 ≤ most; omega))
                clear h1 h2 q1 q2
                have hb4 := hbl.new (.cells #[.int .i64 2, .string ⟨#[]⟩, .int .i64 v3] 42)
                have HLR4 : Hid (LR (wr.alloc (.cells #[.int .i64 2, .string ⟨#[]⟩, .int .i64 v3] 42)) w.heap.size (.slice (some ⟨g, 0, none⟩) out.length capo) out) := World.ownsRow.alloc HLR.out _
                go_wp2_with (at_builtin; refine wpList_lay rfl _ _ rfl w.heap.size _ out (⟨2, ⟨#[]⟩, v3⟩ : Cel) HLR4.out rfl (by simp only [World.size_alloc]; rfl) hb4.size (by omega) ?_; intro v2 w2 h1 h2 h3; obtain ⟨g2, cap2, rfl⟩ := h3)
                go_round
                case rel => exact ⟨m + ar (⟨2, ⟨#[]⟩, v3⟩ : Cel), out ++ [(⟨2, ⟨#[]⟩, v3⟩ : Cel)], g2, cap2, by go_num, by simp, by simp, HN.out, by rw [Hid, List.length_append]; exact h1, hb4.trans h2, HN.out.room⟩
                case measure => simp [intOf]; omega
              · have t55 : (kk == 2) = false := by simp [h2]
                clear h1 h2
                by_cases hro : (out.length : Int) + ((m : Int) + 1) + v3 ≤ (most : Int)
                · have t81 : decide ((out.length : Int) + ((m : Int) + 1) + v3 ≤ (most : Int)) = true := by simp; omega
                  have HKS : Hid (∀ w', Below wr.heap.size wr w' → w'.cell? ⟨b, off + out.length * 3 + 1, none⟩ = some (.string xs[out.length].s) ∧ w'.cell? ⟨b, off + out.length * 3 + 2, none⟩ = some (.int .i64 xs[out.length].n)) := fun w' h => ⟨keep c1 h, keep c2 h⟩
                  have HB0 : Hid (Below wr.heap.size wr (wr.alloc (.cells #[.int .i64 3, .string ⟨#[97]⟩, .int .i64 0] 42)).drew) := ((Below.refl _ _).new _).drew
                  have hro2 : out.length + (m + 1) + v3.toNat ≤ most := by omega
                  clear hro
                  go_wp2_with fail
                  go_region_held3 (fun w' => w'.cell? ⟨b, off + out.length * 3 + 1, none⟩ = some (.string xs[out.length].s) ∧ w'.cell? ⟨b, off + out.length * 3 + 2, none⟩ = some (.int .i64 xs[out.length].n))
                    (first | exact HKS.out _ HB0.out | exact HKS.out _ (((Below.refl _ _).new _).drew) | exact HKS.out _ ((HB0.out).setCell (Nat.le_refl _) _) | exact HKS.out _ (((((HB0.out).setCell (p := ⟨wr.heap.size, 0, none⟩) (Nat.le_refl _) _).setCell (p := ⟨wr.heap.size, 1, none⟩) (Nat.le_refl _) _)).setCell (p := ⟨wr.heap.size, 2, none⟩) (Nat.le_refl _) _))
                    ((go_at_call 48; refine (name3_any _ _).mono ?_; rintro e w2 ⟨⟨tn, rfl, htn⟩, rfl⟩))
                  have hw5 : ∃ W5, W5 = (wr.alloc (.cells #[.int .i64 3, .string tn, .int .i64 v3] 42)).drew := ⟨_, rfl⟩
                  obtain ⟨W5, hW5⟩ := hw5
                  rw [← hW5]
                  have z0 : W5.cell? ⟨wr.heap.size, 0, none⟩ = some (.int .i64 3) := by rw [hW5]; exact World.cell?_alloc_at _ _ _ 0 rfl
                  have z1 : W5.cell? ⟨wr.heap.size, 1, none⟩ = some (.string tn) := by rw [hW5]; exact World.cell?_alloc_at _ _ _ 1 rfl
                  have z2 : W5.cell? ⟨wr.heap.size, 2, none⟩ = some (.int .i64 v3) := by rw [hW5]; exact World.cell?_alloc_at _ _ _ 2 rfl
                  have hl5 := cell_lt z0
                  have hb4 : Below w.heap.size w W5 := by rw [hW5]; exact (hbl.new _).drew
                  have HLR5 : Hid (LR W5 w.heap.size (.slice (some ⟨g, 0, none⟩) out.length capo) out) := by
                    rw [hW5]
                    exact World.ownsRow.alloc HLR.out (.cells #[.int .i64 3, .string tn, .int .i64 v3] 42)
                  obtain ⟨q1, q2⟩ := fcel_ok tn htn v3 ⟨n1, n2⟩
                  have HN := mkHid (HMI.out.snoc q1 q2 (by show out.length + (m + 1) + v3.toNat ≤ most; exact hro2))
                  clear hW5 q1 q2 htn
                  go_wp2_with (at_builtin; refine wpList_lay rfl _ _ rfl w.heap.size _ out (⟨3, tn, v3⟩ : Cel) HLR5.out rfl rfl hb4.size (by omega) ?_; intro v2 w2 h1 h2 h3; obtain ⟨g2, cap2, rfl⟩ := h3)
                  go_round
                  case rel => exact ⟨m + ar (⟨3, tn, v3⟩ : Cel), out ++ [(⟨3, tn, v3⟩ : Cel)], g2, cap2, (by show Value.int .i64 _ = Value.int .i64 ((m + v3.toNat : Nat) : Int); congr 1; omega), by simp, by simp, HN.out, by rw [Hid, List.length_append]; exact h1, hb4.trans h2, HN.out.room⟩
                  case measure => simp [intOf]; omega
                · have t81 : decide ((out.length : Int) + ((m : Int) + 1) + v3 ≤ (most : Int)) = false := by simp; omega
                  have HN := mkHid (HMI.out.snoc aC_ok aC_fit (by show out.length + (m + 1) + 0 ≤ most; omega))
                  clear hro
                  have hb4 := hbl.new (.cells #[.int .i64 3, .string ⟨#[97]⟩, .int .i64 0] 42)
                  have HLR4 : Hid (LR (wr.alloc (.cells #[.int .i64 3, .string ⟨#[97]⟩, .int .i64 0] 42)) w.heap.size (.slice (some ⟨g, 0, none⟩) out.length capo) out) := World.ownsRow.alloc HLR.out _
                  go_wp2_with (at_builtin; refine wpList_lay rfl _ _ rfl w.heap.size _ out aC HLR4.out rfl (by simp only [World.size_alloc]; rfl) hb4.size (by omega) ?_; intro v2 w2 h1 h2 h3; obtain ⟨g2, cap2, rfl⟩ := h3)
                  go_round
                  case rel => exact ⟨m + ar aC, out ++ [aC], g2, cap2, by go_num, by simp, by simp, HN.out, by rw [Hid, List.length_append]; exact h1, hb4.trans h2, HN.out.room⟩
                  case measure => simp [intOf]; omega
          · have t27 : decide ((out.length : Int) < (xs.length : Int)) = false := by simp; omega
            have t27n : decide (out.length < xs.length) = false := by simp; omega
            have HN := mkHid (HMI.out.snoc aC_ok aC_fit (by show out.length + (m + 1) + 0 ≤ most; omega))
            clear hlt
            have hb3 := hbl.new (.cells #[.int .i64 3, .string ⟨#[97]⟩, .int .i64 0] 42)
            have HLR3 : Hid (LR (wr.alloc (.cells #[.int .i64 3, .string ⟨#[97]⟩, .int .i64 0] 42)) w.heap.size (.slice (some ⟨g, 0, none⟩) out.length capo) out) := World.ownsRow.alloc HLR.out _
            go_wp2_with (at_builtin; refine wpList_lay rfl _ _ rfl w.heap.size _ out aC HLR3.out rfl (by simp only [World.size_alloc]; rfl) hb3.size (by omega) ?_; intro v2 w2 h1 h2 h3; obtain ⟨g2, cap2, rfl⟩ := h3)
            go_round
            case rel => exact ⟨m + ar aC, out ++ [aC], g2, cap2, by go_num, by simp, by simp, HN.out, by rw [Hid, List.length_append]; exact h1, hb3.trans h2, HN.out.room⟩
            case measure => simp [intOf]; omega
    · rw [show rightB xs = false by simpa using hr]
      clear hr hg
      go_wp2_with fail
      have hown0 : LR (w1.alloc (.cells #[] 42)) w.heap.size (.slice (some ⟨w1.heap.size, 0, none⟩) 0 0) [] := World.ownsRow_made (base := w.heap.size) (e := 42) (size := 3) w1 #[] 0 hb1.size (by unfold maxLen; omega) rfl
      have HOWN0 := mkHid hown0
      have HMI0 := mkHid (MadeI.start hm1)
      have hb2 := hb1.new (.cells #[] 42)
      clear hown0
      go_loopw [5, 6, 7] (fun v nd i wr => ∃ (n : Nat) (out : List Cel) (g capo : Nat), nd = .int .i64 n ∧ i = .int .i64 out.length ∧ v = .slice (some ⟨g, 0, none⟩) out.length capo ∧ Hid (MadeI most n out) ∧ Hid (LR wr w.heap.size (.slice (some ⟨g, 0, none⟩) out.length capo) out) ∧ Below w.heap.size w wr ∧ out.length + n ≤ most) (fun v nd i wr => most - (intOf i).toNat)
      case atStart => exact ⟨1, [], w1.heap.size, 0, rfl, rfl, rfl, HMI0, HOWN0, hb2, by simpa using hm1⟩
      case round =>
        clear HOWN0 HMI0 hb2
        obtain ⟨n, out, g, capo, rfl, rfl, rfl, HMI, HLR, hbl, hrm⟩ := hrel
        cases n with
        | zero =>
          have HE : Hid (∃ a' cap' ys, Ending.returned (.slice (some ⟨g, 0, none⟩) out.length capo) = .returned (.slice a' ys.length cap') ∧ MadeAt w a cap xs wr a' cap' ys ∧ rightB ys = true ∧ ys.length ≤ most ∧ Below w.heap.size w wr) := by
            obtain ⟨q1, q2⟩ := HMI.out.done hm2
            obtain ⟨a5, cap5, e5, hr5⟩ := own_new (xs := out) HLR.out HMI.out.fit
            cases e5
            exact ⟨_, _, out, rfl, .inr hr5, q1, q2, hbl⟩
          go_wp2_with fail
          go_ret
          exact HE.out
        | succ m =>
          by_cases hlt : out.length < xs.length
          · obtain ⟨b, off, rfl, hb', hat⟩ := HX.out.cases.resolve_left (fun e => by simp [e] at hlt)
            obtain ⟨c0, c1, c2, hf⟩ := cel_at hat hbl hlt
            obtain ⟨k1, k2⟩ := mask xs[out.length].k 3 (by omega)
            obtain ⟨m1, m2⟩ := mask xs[out.length].n 7 (by omega)
            obtain ⟨n1, n2⟩ := mask xs[out.length].n 3 (by omega)
            rw [show ((3 : Nat) : Int) = 3 from rfl] at k1 k2 n1 n2
            rw [show ((7 : Nat) : Int) = 7 from rfl] at m1 m2
            have t27 : decide ((out.length : Int) < (xs.length : Int)) = true := by simp; omega
            have t27n : decide (out.length < xs.length) = true := by simp; omega
            have hbw := cell_lt c0
            have hk0 : (0 : Int) ≤ (out.length : Int) := by omega
            have hk1 : (out.length : Int) < (xs.length : Int) := by omega
            have hb3 := hbl.new (.cells #[.int .i64 3, .string ⟨#[97]⟩, .int .i64 0] 42)
            have HLR3 : Hid (LR (wr.alloc (.cells #[.int .i64 3, .string ⟨#[97]⟩, .int .i64 0] 42)) w.heap.size (.slice (some ⟨g, 0, none⟩) out.length capo) out) := World.ownsRow.alloc HLR.out _
            generalize hkk : bits .and .i64 xs[out.length].k 3 = kk at k1 k2
            generalize hm7 : bits .and .i64 xs[out.length].n 7 = v7 at m1 m2
            generalize hn3 : bits .and .i64 xs[out.length].n 3 = v3 at n1 n2
            by_cases h1 : kk = 1
            · have t35 : (kk == 1) = true := by simp [h1]
              obtain ⟨q1, q2⟩ := vcel_ok v7 ⟨m1, m2⟩
              have HN := mkHid (HMI.out.snoc q1 q2 (by show out.length + (m + 1) + 0 ≤ most; omega))
              clear h1 q1 q2
              have hb4 := hbl.new (.cells #[.int .i64 1, .string ⟨#[]⟩, .int .i64 v7] 42)
              have HLR4 : Hid (LR (wr.alloc (.cells #[.int .i64 1, .string ⟨#[]⟩, .int .i64 v7] 42)) w.heap.size (.slice (some ⟨g, 0, none⟩) out.length capo) out) := World.ownsRow.alloc HLR.out _
              go_wp2_with (at_builtin; refine wpList_lay rfl _ _ rfl w.heap.size _ out (⟨1, ⟨#[]⟩, v7⟩ : Cel) HLR4.out rfl (by simp only [World.size_alloc]; rfl) hb4.size (by omega) ?_; intro v2 w2 h1 h2 h3; obtain ⟨g2, cap2, rfl⟩ := h3)
              go_round
              case rel => exact ⟨m + ar (⟨1, ⟨#[]⟩, v7⟩ : Cel), out ++ [(⟨1, ⟨#[]⟩, v7⟩ : Cel)], g2, cap2, by go_num, by simp, by simp, HN.out, by rw [Hid, List.length_append]; exact h1, hb4.trans h2, HN.out.room⟩
              case measure => simp [intOf]; omega
            · have t35 : (kk == 1) = false := by simp [h1]
              by_cases h2 : kk = 2
              · have t55 : (kk == 2) = true := by simp [h2]
                obtain ⟨q1, q2⟩ := ncel_ok v3 ⟨n1, n2⟩
                have HN := mkHid (HMI.out.snoc q1 q2 (by show out.length + (m + 1) + 0 ≤ most; omega))
                clear h1 h2 q1 q2
                have hb4 := hbl.new (.cells #[.int .i64 2, .string ⟨#[]⟩, .int .i64 v3] 42)
                have HLR4 : Hid (LR (wr.alloc (.cells #[.int .i64 2, .string ⟨#[]⟩, .int .i64 v3] 42)) w.heap.size (.slice (some ⟨g, 0, none⟩) out.length capo) out) := World.ownsRow.alloc HLR.out _
                go_wp2_with (at_builtin; refine wpList_lay rfl _ _ rfl w.heap.size _ out (⟨2, ⟨#[]⟩, v3⟩ : Cel) HLR4.out rfl (by simp only [World.size_alloc]; rfl) hb4.size (by omega) ?_; intro v2 w2 h1 h2 h3; obtain ⟨g2, cap2, rfl⟩ := h3)
                go_round
                case rel => exact ⟨m + ar (⟨2, ⟨#[]⟩, v3⟩ : Cel), out ++ [(⟨2, ⟨#[]⟩, v3⟩ : Cel)], g2, cap2, by go_num, by simp, by simp, HN.out, by rw [Hid, List.length_append]; exact h1, hb4.trans h2, HN.out.room⟩
                case measure => simp [intOf]; omega
              · have t55 : (kk == 2) = false := by simp [h2]
                clear h1 h2
                by_cases hro : (out.length : Int) + ((m : Int) + 1) + v3 ≤ (most : Int)
                · have t81 : decide ((out.length : Int) + ((m : Int) + 1) + v3 ≤ (most : Int)) = true := by simp; omega
                  have HKS : Hid (∀ w', Below wr.heap.size wr w' → w'.cell? ⟨b, off + out.length * 3 + 1, none⟩ = some (.string xs[out.length].s) ∧ w'.cell? ⟨b, off + out.length * 3 + 2, none⟩ = some (.int .i64 xs[out.length].n)) := fun w' h => ⟨keep c1 h, keep c2 h⟩
                  have HB0 : Hid (Below wr.heap.size wr (wr.alloc (.cells #[.int .i64 3, .string ⟨#[97]⟩, .int .i64 0] 42)).drew) := ((Below.refl _ _).new _).drew
                  have hro2 : out.length + (m + 1) + v3.toNat ≤ most := by omega
                  clear hro
                  go_wp2_with fail
                  go_region_held3 (fun w' => w'.cell? ⟨b, off + out.length * 3 + 1, none⟩ = some (.string xs[out.length].s) ∧ w'.cell? ⟨b, off + out.length * 3 + 2, none⟩ = some (.int .i64 xs[out.length].n))
                    (first | exact HKS.out _ HB0.out | exact HKS.out _ (((Below.refl _ _).new _).drew) | exact HKS.out _ ((HB0.out).setCell (Nat.le_refl _) _) | exact HKS.out _ (((((HB0.out).setCell (p := ⟨wr.heap.size, 0, none⟩) (Nat.le_refl _) _).setCell (p := ⟨wr.heap.size, 1, none⟩) (Nat.le_refl _) _)).setCell (p := ⟨wr.heap.size, 2, none⟩) (Nat.le_refl _) _))
                    ((go_at_call 48; refine (name3_any _ _).mono ?_; rintro e w2 ⟨⟨tn, rfl, htn⟩, rfl⟩))
                  have hw5 : ∃ W5, W5 = (wr.alloc (.cells #[.int .i64 3, .string tn, .int .i64 v3] 42)).drew := ⟨_, rfl⟩
                  obtain ⟨W5, hW5⟩ := hw5
                  rw [← hW5]
                  have z0 : W5.cell? ⟨wr.heap.size, 0, none⟩ = some (.int .i64 3) := by rw [hW5]; exact World.cell?_alloc_at _ _ _ 0 rfl
                  have z1 : W5.cell? ⟨wr.heap.size, 1, none⟩ = some (.string tn) := by rw [hW5]; exact World.cell?_alloc_at _ _ _ 1 rfl
                  have z2 : W5.cell? ⟨wr.heap.size, 2, none⟩ = some (.int .i64 v3) := by rw [hW5]; exact World.cell?_alloc_at _ _ _ 2 rfl
                  have hl5 := cell_lt z0
                  have hb4 : Below w.heap.size w W5 := by rw [hW5]; exact (hbl.new _).drew
                  have HLR5 : Hid (LR W5 w.heap.size (.slice (some ⟨g, 0, none⟩) out.length capo) out) := by
                    rw [hW5]
                    exact World.ownsRow.alloc HLR.out (.cells #[.int .i64 3, .string tn, .int .i64 v3] 42)
                  obtain ⟨q1, q2⟩ := fcel_ok tn htn v3 ⟨n1, n2⟩
                  have HN := mkHid (HMI.out.snoc q1 q2 (by show out.length + (m + 1) + v3.toNat ≤ most; exact hro2))
                  clear hW5 q1 q2 htn
                  go_wp2_with (at_builtin; refine wpList_lay rfl _ _ rfl w.heap.size _ out (⟨3, tn, v3⟩ : Cel) HLR5.out rfl rfl hb4.size (by omega) ?_; intro v2 w2 h1 h2 h3; obtain ⟨g2, cap2, rfl⟩ := h3)
                  go_round
                  case rel => exact ⟨m + ar (⟨3, tn, v3⟩ : Cel), out ++ [(⟨3, tn, v3⟩ : Cel)], g2, cap2, (by show Value.int .i64 _ = Value.int .i64 ((m + v3.toNat : Nat) : Int); congr 1; omega), by simp, by simp, HN.out, by rw [Hid, List.length_append]; exact h1, hb4.trans h2, HN.out.room⟩
                  case measure => simp [intOf]; omega
                · have t81 : decide ((out.length : Int) + ((m : Int) + 1) + v3 ≤ (most : Int)) = false := by simp; omega
                  have HN := mkHid (HMI.out.snoc aC_ok aC_fit (by show out.length + (m + 1) + 0 ≤ most; omega))
                  clear hro
                  have hb4 := hbl.new (.cells #[.int .i64 3, .string ⟨#[97]⟩, .int .i64 0] 42)
                  have HLR4 : Hid (LR (wr.alloc (.cells #[.int .i64 3, .string ⟨#[97]⟩, .int .i64 0] 42)) w.heap.size (.slice (some ⟨g, 0, none⟩) out.length capo) out) := World.ownsRow.alloc HLR.out _
                  go_wp2_with (at_builtin; refine wpList_lay rfl _ _ rfl w.heap.size _ out aC HLR4.out rfl (by simp only [World.size_alloc]; rfl) hb4.size (by omega) ?_; intro v2 w2 h1 h2 h3; obtain ⟨g2, cap2, rfl⟩ := h3)
                  go_round
                  case rel => exact ⟨m + ar aC, out ++ [aC], g2, cap2, by go_num, by simp, by simp, HN.out, by rw [Hid, List.length_append]; exact h1, hb4.trans h2, HN.out.room⟩
                  case measure => simp [intOf]; omega
          · have t27 : decide ((out.length : Int) < (xs.length : Int)) = false := by simp; omega
            have t27n : decide (out.length < xs.length) = false := by simp; omega
            have HN := mkHid (HMI.out.snoc aC_ok aC_fit (by show out.length + (m + 1) + 0 ≤ most; omega))
            clear hlt
            have hb3 := hbl.new (.cells #[.int .i64 3, .string ⟨#[97]⟩, .int .i64 0] 42)
            have HLR3 : Hid (LR (wr.alloc (.cells #[.int .i64 3, .string ⟨#[97]⟩, .int .i64 0] 42)) w.heap.size (.slice (some ⟨g, 0, none⟩) out.length capo) out) := World.ownsRow.alloc HLR.out _
            go_wp2_with (at_builtin; refine wpList_lay rfl _ _ rfl w.heap.size _ out aC HLR3.out rfl (by simp only [World.size_alloc]; rfl) hb3.size (by omega) ?_; intro v2 w2 h1 h2 h3; obtain ⟨g2, cap2, rfl⟩ := h3)
            go_round
            case rel => exact ⟨m + ar aC, out ++ [aC], g2, cap2, by go_num, by simp, by simp, HN.out, by rw [Hid, List.length_append]; exact h1, hb3.trans h2, HN.out.room⟩
            case measure => simp [intOf]; omega
theorem made_any (a : Option Addr) (cap : Nat) (w : World) (xs : List Cel) (hx : Row w a cap xs) (most : Nat) (hm1 : 1 ≤ most) (hm2 : most ≤ 200) :
    Calls Tryz.prog 24 #[.slice a xs.length cap, .int .i64 most] w fun e w' => ∃ a' cap' ys, e = .returned (.slice a' ys.length cap') ∧ Row w' a' cap' ys ∧ rightB ys = true ∧ ys.length ≤ most ∧ Below w.heap.size w w' :=
  (made_where a cap w xs hx most hm1 hm2).mono fun e w' ⟨a', cap', ys, h1, h2, h3, h4, h5⟩ => ⟨a', cap', ys, h1, by
    rcases h2 with ⟨rfl, rfl, rfl⟩ | h2
    · exact hx.below h5
    · exact h2.row, h3, h4, h5⟩
end Go.Proofs.YtmmnfkggfnokjaaGreat
