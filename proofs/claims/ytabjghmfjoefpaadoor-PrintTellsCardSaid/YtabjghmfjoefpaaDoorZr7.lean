import Derived.Test.YtabjghmfjoefpaaDoorZr6
set_option linter.unusedVariables false
namespace Go.Proofs.YtabjghmfjoefpaaDoor
open Go.RowKit
namespace Hd
def ops4 : Array Oper :=
    #[{ dst := some 16, op := Op.load 62 (Operand.tmp 2), type := 62, pos := "law.go:25", after := #[], guard := none },
      { dst := some 17, op := Op.buildSlice 22 1 #[(0, Operand.tmp 16)], type := 22, pos := "law.go:25",
        after := #[{ on := 0, ground := Ground.data }], guard := none },
      { dst := some 18,
        op :=
          Op.call
            { callee := Callee.value (Operand.func 31),
              args :=
                #[Operand.const (Value.string { data := #[112] }), Operand.const (Value.int IntKind.i64 1),
                  Operand.tmp 17],
              argTypes := #[9, 3, 22] },
        type := 22, pos := "law.go:25", after := #[{ on := 1, ground := Ground.data }], guard := none },
      { dst := some 19, op := Op.load 62 (Operand.tmp 2), type := 62, pos := "law.go:25", after := #[], guard := none },
      { dst := some 20, op := Op.load 62 (Operand.tmp 3), type := 62, pos := "law.go:25", after := #[], guard := none },
      { dst := some 21, op := Op.buildSlice 22 2 #[(0, Operand.tmp 19), (1, Operand.tmp 20)], type := 22,
        pos := "law.go:25", after := #[{ on := 3, ground := Ground.data }, { on := 4, ground := Ground.data }],
        guard := none },
      { dst := some 22,
        op :=
          Op.call
            { callee := Callee.value (Operand.func 31),
              args :=
                #[Operand.const (Value.string { data := #[113] }), Operand.const (Value.int IntKind.i64 2),
                  Operand.tmp 21],
              argTypes := #[9, 3, 22] },
        type := 22, pos := "law.go:25",
        after := #[{ on := 5, ground := Ground.data }, { on := 2, ground := Ground.chain }], guard := none },
      { dst := some 23, op := Op.build 49 #[(1, Operand.tmp 22)], type := 49, pos := "law.go:25",
        after := #[{ on := 6, ground := Ground.data }], guard := none },
      { dst := some 24, op := Op.load 62 (Operand.tmp 3), type := 62, pos := "law.go:25", after := #[], guard := none },
      { dst := some 25, op := Op.load 62 (Operand.tmp 1), type := 62, pos := "law.go:25", after := #[], guard := none },
      { dst := some 26, op := Op.buildSlice 22 2 #[(0, Operand.tmp 24), (1, Operand.tmp 25)], type := 22,
        pos := "law.go:25", after := #[{ on := 8, ground := Ground.data }, { on := 9, ground := Ground.data }],
        guard := none },
      { dst := some 27,
        op :=
          Op.call
            { callee := Callee.value (Operand.func 31),
              args :=
                #[Operand.const (Value.string { data := #[61] }), Operand.const (Value.int IntKind.i64 2),
                  Operand.tmp 26],
              argTypes := #[9, 3, 22] },
        type := 22, pos := "law.go:25",
        after := #[{ on := 10, ground := Ground.data }, { on := 6, ground := Ground.chain }], guard := none },
      { dst := some 28, op := Op.build 49 #[(0, Operand.const (Value.bool true)), (1, Operand.tmp 27)], type := 49,
        pos := "law.go:25", after := #[{ on := 11, ground := Ground.data }], guard := none },
      { dst := some 29, op := Op.buildSlice 31 2 #[(0, Operand.tmp 23), (1, Operand.tmp 28)], type := 31,
        pos := "law.go:25", after := #[{ on := 7, ground := Ground.data }, { on := 12, ground := Ground.data }],
        guard := none },
      { dst := some 30, op := Op.build 33 #[(0, Operand.tmp 18), (1, Operand.tmp 29)], type := 33, pos := "law.go:25",
        after := #[{ on := 2, ground := Ground.data }, { on := 13, ground := Ground.data }], guard := none },
      { dst := some 8, op := Op.alloc 33, type := 0, pos := "law.go:25", after := #[], guard := none },
      { dst := none, op := Op.store 33 (Operand.tmp 8) (Operand.tmp 30), type := 0, pos := "law.go:25",
        after :=
          #[{ on := 15, ground := Ground.data }, { on := 14, ground := Ground.data },
            { on := 11, ground := Ground.chain }, { on := 0, ground := Ground.phase },
            { on := 1, ground := Ground.phase }, { on := 2, ground := Ground.phase },
            { on := 3, ground := Ground.phase }, { on := 4, ground := Ground.phase },
            { on := 5, ground := Ground.phase }, { on := 6, ground := Ground.phase },
            { on := 7, ground := Ground.phase }, { on := 8, ground := Ground.phase },
            { on := 9, ground := Ground.phase }, { on := 10, ground := Ground.phase },
            { on := 11, ground := Ground.phase }, { on := 12, ground := Ground.phase },
            { on := 13, ground := Ground.phase }, { on := 14, ground := Ground.phase },
            { on := 15, ground := Ground.phase }],
        guard := none }]
def A1 (B : Nat) : Act := ⟨#[.bool false, .pointer (some ⟨B, 0, none⟩), .pointer (some ⟨B + 1, 0, none⟩), .pointer (some ⟨B + 1 + 1, 0, none⟩), .pointer (some ⟨B + 1 + 1 + 1, 0, none⟩), .pointer (some ⟨B + 1 + 1 + 1 + 1, 0, none⟩), .pointer (some ⟨B + 1 + 1 + 1 + 1 + 1, 0, none⟩), .pointer (some ⟨B + 1 + 1 + 1 + 1 + 1 + 1, 0, none⟩), undef, .agg #[.int .i64 3, .string ⟨#[97]⟩, .int .i64 0], .agg #[.int .i64 1, .string ⟨#[]⟩, .int .i64 0], .agg #[.int .i64 1, .string ⟨#[]⟩, .int .i64 27], .agg #[.int .i64 3, .string ⟨#[91, 93]⟩, .int .i64 0], .agg #[.int .i64 2, .string ⟨#[]⟩, .int .i64 (-1)], .agg #[.int .i64 3, .string ⟨#[46]⟩, .int .i64 2], .agg #[.int .i64 3, .string ⟨#[43]⟩, .int .i64 2], .agg #[.int .i64 1, .string ⟨#[]⟩, .int .i64 0], undef, undef, .agg #[.int .i64 1, .string ⟨#[]⟩, .int .i64 0], .agg #[.int .i64 1, .string ⟨#[]⟩, .int .i64 27], undef, undef, undef, .agg #[.int .i64 1, .string ⟨#[]⟩, .int .i64 27], .agg #[.int .i64 3, .string ⟨#[97]⟩, .int .i64 0], undef, undef, undef, undef, undef, undef, undef, undef, undef, undef, undef, undef, undef, undef, undef, undef, undef, undef, undef, undef, undef, undef, undef, undef, undef, undef, undef, undef, undef, undef, undef, undef, undef, undef, undef, undef, undef, undef, undef, undef, undef, undef, undef, undef, undef, undef, undef, undef, undef, undef, undef, undef, undef, undef, undef, undef, undef, undef, undef, undef, undef, undef, undef, undef, undef, undef, undef, undef, undef, undef, undef, undef, undef, undef, undef, undef, undef, undef, undef, undef, undef, undef, undef, undef, undef, undef, undef, undef, undef, undef, undef, undef, undef, undef, undef, undef, undef, undef, undef, undef, undef, undef, undef], []⟩
def QP (B : Nat) (W0 : World) : Exit → Act → World → Prop := fun ev A' W' => ev = .normal ∧ ∃ (b1 : Nat) (a2 : Option Addr) (c2 : Nat) (b5 : Nat) (a6 : Option Addr) (c6 : Nat) (b10 : Nat) (a11 : Option Addr) (c11 : Nat) (b13 : Nat) (b15 : Nat), A' = ((((((((((((A1 B).put (some 8) (.pointer (some ⟨b15, 0, none⟩))).put (some 17) (.slice (some ⟨b1, 0, none⟩) 1 1)).put (some 18) (.slice a2 2 c2)).put (some 21) (.slice (some ⟨b5, 0, none⟩) 2 2)).put (some 22) (.slice a6 3 c6)).put (some 23) (.agg #[.bool false, .slice a6 3 c6])).put (some 26) (.slice (some ⟨b10, 0, none⟩) 2 2)).put (some 27) (.slice a11 3 c11)).put (some 28) (.agg #[.bool true, .slice a11 3 c11])).put (some 29) (.slice (some ⟨b13, 0, none⟩) 2 2)).put (some 30) (.agg #[.slice a2 2 c2, .slice (some ⟨b13, 0, none⟩) 2 2])) ∧ Post W0 W' b15 b13 a2 c2
set_option maxRecDepth 100000 in
set_option maxHeartbeats 4000000 in
theorem R1_2_5_6_10_11_13_15 (B : Nat) (W0 : World) (HS : Hid (∀ W', Below W0.heap.size W0 W' → SB B W')) (W : World) (b1 : Nat) (a2 : Option Addr) (c2 : Nat) (b5 : Nat) (a6 : Option Addr) (c6 : Nat) (b10 : Nat) (a11 : Option Addr) (c11 : Nat) (b13 : Nat) (b15 : Nat) (r2 : Row (veil [b15] W) a2 c2 [⟨3, ⟨#[112]⟩, 1⟩, Hp.v0]) (r13 : Row (veil [b15] W) (some ⟨b13, 0, none⟩) 2 ([⟨false, [⟨3, ⟨#[113]⟩, 2⟩, Hp.v0, Hp.v27]⟩, ⟨true, [⟨3, ⟨#[61]⟩, 2⟩, Hp.v27, Hp.aC]⟩] : List Lt)) (k15 : W.heap[b15]? = some (.cells #[.slice none 0 0, .slice none 0 0] 33 (0, 0))) (g15 : W0.heap.size ≤ b15) (hc : Below W0.heap.size W0 W) :
    wpAnyH Tryd.prog .any ops4 (NoPanic (QP B W0)) (SB B) 1 #[true, true, true, true, true, true, true, true, true, true, true, true, true, true, true, true, false] ((((((((((((A1 B).put (some 8) (.pointer (some ⟨b15, 0, none⟩))).put (some 17) (.slice (some ⟨b1, 0, none⟩) 1 1)).put (some 18) (.slice a2 2 c2)).put (some 21) (.slice (some ⟨b5, 0, none⟩) 2 2)).put (some 22) (.slice a6 3 c6)).put (some 23) (.agg #[.bool false, .slice a6 3 c6])).put (some 26) (.slice (some ⟨b10, 0, none⟩) 2 2)).put (some 27) (.slice a11 3 c11)).put (some 28) (.agg #[.bool true, .slice a11 3 c11])).put (some 29) (.slice (some ⟨b13, 0, none⟩) 2 2)).put (some 30) (.agg #[.slice a2 2 c2, .slice (some ⟨b13, 0, none⟩) 2 2])) W := by
  unfold ops4 A1
  (try simp only [Act.put, List.setIfInBounds_toArray, List.set_cons_zero, List.set_cons_succ])
  have hSW := HS.out _ hc
  have e0 : W.cell? ⟨b15, 0, none⟩ = some (.slice none 0 0) := by rw [Lib.cell_of_heap k15]; rfl
  have e1 : W.cell? ⟨b15, 1, none⟩ = some (.slice none 0 0) := by rw [Lib.cell_of_heap k15]; rfl
  have f0 : W.frozen? ⟨b15, 0, none⟩ = false := Lib.frozen_of_heap k15 0
  have f1 : W.frozen? ⟨b15, 1, none⟩ = false := Lib.frozen_of_heap k15 1
  have hc2 := (hc.setCell (p := ⟨b15, 0, none⟩) g15 (.slice a2 2 c2)).setCell (p := ⟨b15, 1, none⟩) g15 (.slice (some ⟨b13, 0, none⟩) 2 2)
  have hv5 : ((W.setCell ⟨b15, 0, none⟩ (.slice a2 2 c2)).setCell ⟨b15, 1, none⟩ (.slice (some ⟨b13, 0, none⟩) 2 2)).heap[b15]? = some (.cells #[.slice a2 2 c2, .slice (some ⟨b13, 0, none⟩) 2 2] 33 (0, 0)) := by
    simp only [World.setCell, Array.getElem?_modify, if_true, k15, Option.map_some]
    simp
  have hkp : Keeps (veil [b15] W) ((W.setCell ⟨b15, 0, none⟩ (.slice a2 2 c2)).setCell ⟨b15, 1, none⟩ (.slice (some ⟨b13, 0, none⟩) 2 2)) := by
    intro b o v hcc
    obtain ⟨n1, n2⟩ := veil_cell hcc
    have hne : b ≠ b15 := fun e => n1 (by simp [e])
    refine (World.cell?_of_block (w := W) (a := ⟨b, o, none⟩) ?_).trans n2
    exact (Below.heap_setCell _ ⟨b15, 1, none⟩ _ b hne).trans (Below.heap_setCell _ ⟨b15, 0, none⟩ _ b hne)
  have hpost : Post W0 ((W.setCell ⟨b15, 0, none⟩ (.slice a2 2 c2)).setCell ⟨b15, 1, none⟩ (.slice (some ⟨b13, 0, none⟩) 2 2)) b15 b13 a2 c2 := ⟨hv5, r2.keeps hkp, r13.keeps hkp, hc2⟩
  have HP := mkHid hpost
  clear hv5 hkp hpost r2 r13 k15
  refine wpAnyH_ready (rs := [16]) (by kernel_rfl) (by simp) ?_
  refine AllReadyH.cons (o := _) rfl (fun Kq hKq => ?_) AllReadyH.nil
  go_simp
  try dsimp only
  refine hKq.out _ _ (HS.out _ hc2) (fun _ => ?_)
  clear hKq Kq
  refine wpAnyH_done (by kernel_rfl) ?_ _
  refine NoPanic.normal ?_
  refine ⟨rfl, b1, a2, c2, b5, a6, c6, b10, a11, c11, b13, b15, ?_, HP.out⟩
  simp only [A1, Act.put, List.setIfInBounds_toArray, List.set_cons_zero, List.set_cons_succ]
set_option maxRecDepth 100000 in
set_option maxHeartbeats 4000000 in
theorem R1_2_5_6_10_11_13 (B : Nat) (W0 : World) (HS : Hid (∀ W', Below W0.heap.size W0 W' → SB B W')) (W : World) (b1 : Nat) (a2 : Option Addr) (c2 : Nat) (b5 : Nat) (a6 : Option Addr) (c6 : Nat) (b10 : Nat) (a11 : Option Addr) (c11 : Nat) (b13 : Nat) (r2 : Row (veil [] W) a2 c2 [⟨3, ⟨#[112]⟩, 1⟩, Hp.v0]) (r13 : Row (veil [] W) (some ⟨b13, 0, none⟩) 2 ([⟨false, [⟨3, ⟨#[113]⟩, 2⟩, Hp.v0, Hp.v27]⟩, ⟨true, [⟨3, ⟨#[61]⟩, 2⟩, Hp.v27, Hp.aC]⟩] : List Lt)) (hc : Below W0.heap.size W0 W) :
    wpAnyH Tryd.prog .any ops4 (NoPanic (QP B W0)) (SB B) 2 #[true, true, true, true, true, true, true, true, true, true, true, true, true, true, true, false, false] (((((((((((A1 B).put (some 17) (.slice (some ⟨b1, 0, none⟩) 1 1)).put (some 18) (.slice a2 2 c2)).put (some 21) (.slice (some ⟨b5, 0, none⟩) 2 2)).put (some 22) (.slice a6 3 c6)).put (some 23) (.agg #[.bool false, .slice a6 3 c6])).put (some 26) (.slice (some ⟨b10, 0, none⟩) 2 2)).put (some 27) (.slice a11 3 c11)).put (some 28) (.agg #[.bool true, .slice a11 3 c11])).put (some 29) (.slice (some ⟨b13, 0, none⟩) 2 2)).put (some 30) (.agg #[.slice a2 2 c2, .slice (some ⟨b13, 0, none⟩) 2 2])) W := by
  unfold ops4 A1
  (try simp only [Act.put, List.setIfInBounds_toArray, List.set_cons_zero, List.set_cons_succ])
  have hSW := HS.out _ hc
  refine wpAnyH_ready (rs := [15]) (by kernel_rfl) (by simp) ?_
  refine AllReadyH.cons (o := _) rfl (fun Kq hKq => ?_) AllReadyH.nil
  have hn : Below W.heap.size W (W.alloc (.cells #[.slice none 0 0, .slice none 0 0] 33)) := (Below.refl _ _).new _
  have r2 := more (.cells #[.slice none 0 0, .slice none 0 0] 33) r2
  have r13 := more (.cells #[.slice none 0 0, .slice none 0 0] 33) r13
  have k15 : (W.alloc (.cells #[.slice none 0 0, .slice none 0 0] 33)).heap[W.heap.size]? = some (.cells #[.slice none 0 0, .slice none 0 0] 33 (0, 0)) := heap_alloc_new W _
  have g15 := hc.size
  have hc := hc.then hn
  go_simp
  try dsimp only
  refine hKq.out _ _ (HS.out _ hc) (fun _ => ?_)
  clear hKq Kq
  (try simp only [Act.put, List.setIfInBounds_toArray, List.set_cons_zero, List.set_cons_succ])
  refine wpAnyH_cast (R1_2_5_6_10_11_13_15 B W0 HS (W.alloc (.cells #[.slice none 0 0, .slice none 0 0] 33)) b1 a2 c2 b5 a6 c6 b10 a11 c11 b13 W.heap.size r2 r13 k15 g15 hc) ?_ ?_
  · rfl
  · first | (simp only [A1, Act.put, List.setIfInBounds_toArray, List.set_cons_zero, List.set_cons_succ]; done) | (simp only [A1, Act.put, List.setIfInBounds_toArray, List.set_cons_zero, List.set_cons_succ]; rfl)
set_option maxRecDepth 100000 in
set_option maxHeartbeats 4000000 in
theorem R1_2_5_6_10_11_15 (B : Nat) (W0 : World) (HS : Hid (∀ W', Below W0.heap.size W0 W' → SB B W')) (W : World) (b1 : Nat) (a2 : Option Addr) (c2 : Nat) (b5 : Nat) (a6 : Option Addr) (c6 : Nat) (b10 : Nat) (a11 : Option Addr) (c11 : Nat) (b15 : Nat) (r2 : Row (veil [b15] W) a2 c2 [⟨3, ⟨#[112]⟩, 1⟩, Hp.v0]) (r6 : Row (veil [b15] W) a6 c6 [⟨3, ⟨#[113]⟩, 2⟩, Hp.v0, Hp.v27]) (r11 : Row (veil [b15] W) a11 c11 [⟨3, ⟨#[61]⟩, 2⟩, Hp.v27, Hp.aC]) (k15 : W.heap[b15]? = some (.cells #[.slice none 0 0, .slice none 0 0] 33 (0, 0))) (g15 : W0.heap.size ≤ b15) (hc : Below W0.heap.size W0 W) :
    wpAnyH Tryd.prog .any ops4 (NoPanic (QP B W0)) (SB B) 3 #[true, true, true, true, true, true, true, true, true, true, true, true, true, false, false, true, false] ((((((((((A1 B).put (some 8) (.pointer (some ⟨b15, 0, none⟩))).put (some 17) (.slice (some ⟨b1, 0, none⟩) 1 1)).put (some 18) (.slice a2 2 c2)).put (some 21) (.slice (some ⟨b5, 0, none⟩) 2 2)).put (some 22) (.slice a6 3 c6)).put (some 23) (.agg #[.bool false, .slice a6 3 c6])).put (some 26) (.slice (some ⟨b10, 0, none⟩) 2 2)).put (some 27) (.slice a11 3 c11)).put (some 28) (.agg #[.bool true, .slice a11 3 c11])) W := by
  unfold ops4 A1
  (try simp only [Act.put, List.setIfInBounds_toArray, List.set_cons_zero, List.set_cons_succ])
  have hSW := HS.out _ hc
  refine wpAnyH_ready (rs := [13]) (by kernel_rfl) (by simp) ?_
  refine AllReadyH.cons (o := _) rfl (fun Kq hKq => ?_) AllReadyH.nil
  have hn : Below W.heap.size W (W.alloc (.cells #[.bool false, .slice a6 3 c6, .bool true, .slice a11 3 c11] 49)) := (Below.refl _ _).new _
  have r13 : Row (veil [b15] (W.alloc (.cells #[.bool false, .slice a6 3 c6, .bool true, .slice a11 3 c11] 49))) (some ⟨W.heap.size, 0, none⟩) 2 ([⟨false, [⟨3, ⟨#[113]⟩, 2⟩, Hp.v0, Hp.v27]⟩, ⟨true, [⟨3, ⟨#[61]⟩, 2⟩, Hp.v27, Hp.aC]⟩] : List Lt) := lits2 [b15] W (by simp; exact (Array.getElem?_eq_some_iff.1 k15).1) 3 3 rfl rfl r6 r11
  have r2 := grow [b15] hn r2
  have k15 := (hn.block b15 (Array.getElem?_eq_some_iff.1 k15).1).trans k15
  have hc := hc.then hn
  go_simp
  try dsimp only
  refine hKq.out _ _ (HS.out _ hc) (fun _ => ?_)
  clear hKq Kq
  (try simp only [Act.put, List.setIfInBounds_toArray, List.set_cons_zero, List.set_cons_succ])
  refine wpAnyH_take (i := 14) (oi := _) (v := ?_) rfl (by kernel_rfl) (by kernel_rfl) (by kernel_rfl) (fun _ _ _ h => h) (Or.inl ⟨by rfl, ?_⟩) (by assumption) ?_
  rotate_left
  · (intro w' hSw; obtain ⟨q00, q01, q02, q10, q11, q12, q20, q21, q22, q30, q31, q32, q40, q41, q42, q50, q51, q52, q60, q61, q62⟩ := hSw; go_simp; try with_reducible rfl)
  (try simp only [Act.put, List.setIfInBounds_toArray, List.set_cons_zero, List.set_cons_succ])
  refine wpAnyH_cast (R1_2_5_6_10_11_13_15 B W0 HS (W.alloc (.cells #[.bool false, .slice a6 3 c6, .bool true, .slice a11 3 c11] 49)) b1 a2 c2 b5 a6 c6 b10 a11 c11 W.heap.size b15 r2 r13 k15 g15 hc) ?_ ?_
  · rfl
  · first | (simp only [A1, Act.put, List.setIfInBounds_toArray, List.set_cons_zero, List.set_cons_succ]; done) | (simp only [A1, Act.put, List.setIfInBounds_toArray, List.set_cons_zero, List.set_cons_succ]; rfl)
set_option maxRecDepth 100000 in
set_option maxHeartbeats 4000000 in
theorem R1_2_5_6_10_11 (B : Nat) (W0 : World) (HS : Hid (∀ W', Below W0.heap.size W0 W' → SB B W')) (W : World) (b1 : Nat) (a2 : Option Addr) (c2 : Nat) (b5 : Nat) (a6 : Option Addr) (c6 : Nat) (b10 : Nat) (a11 : Option Addr) (c11 : Nat) (r2 : Row (veil [] W) a2 c2 [⟨3, ⟨#[112]⟩, 1⟩, Hp.v0]) (r6 : Row (veil [] W) a6 c6 [⟨3, ⟨#[113]⟩, 2⟩, Hp.v0, Hp.v27]) (r11 : Row (veil [] W) a11 c11 [⟨3, ⟨#[61]⟩, 2⟩, Hp.v27, Hp.aC]) (hc : Below W0.heap.size W0 W) :
    wpAnyH Tryd.prog .any ops4 (NoPanic (QP B W0)) (SB B) 4 #[true, true, true, true, true, true, true, true, true, true, true, true, true, false, false, false, false] (((((((((A1 B).put (some 17) (.slice (some ⟨b1, 0, none⟩) 1 1)).put (some 18) (.slice a2 2 c2)).put (some 21) (.slice (some ⟨b5, 0, none⟩) 2 2)).put (some 22) (.slice a6 3 c6)).put (some 23) (.agg #[.bool false, .slice a6 3 c6])).put (some 26) (.slice (some ⟨b10, 0, none⟩) 2 2)).put (some 27) (.slice a11 3 c11)).put (some 28) (.agg #[.bool true, .slice a11 3 c11])) W := by
  unfold ops4 A1
  (try simp only [Act.put, List.setIfInBounds_toArray, List.set_cons_zero, List.set_cons_succ])
  have hSW := HS.out _ hc
  refine wpAnyH_ready (rs := [13, 15]) (by kernel_rfl) (by simp) ?_
  refine AllReadyH.cons (o := _) rfl (fun Kq hKq => ?_) ?_
  · have hn : Below W.heap.size W (W.alloc (.cells #[.bool false, .slice a6 3 c6, .bool true, .slice a11 3 c11] 49)) := (Below.refl _ _).new _
    have r13 : Row (veil [] (W.alloc (.cells #[.bool false, .slice a6 3 c6, .bool true, .slice a11 3 c11] 49))) (some ⟨W.heap.size, 0, none⟩) 2 ([⟨false, [⟨3, ⟨#[113]⟩, 2⟩, Hp.v0, Hp.v27]⟩, ⟨true, [⟨3, ⟨#[61]⟩, 2⟩, Hp.v27, Hp.aC]⟩] : List Lt) := lits2 [] W (by simp) 3 3 rfl rfl r6 r11
    have r2 := grow [] hn r2
    have hc := hc.then hn
    go_simp
    try dsimp only
    refine hKq.out _ _ (HS.out _ hc) (fun _ => ?_)
    clear hKq Kq
    (try simp only [Act.put, List.setIfInBounds_toArray, List.set_cons_zero, List.set_cons_succ])
    refine wpAnyH_take (i := 14) (oi := _) (v := ?_) rfl (by kernel_rfl) (by kernel_rfl) (by kernel_rfl) (fun _ _ _ h => h) (Or.inl ⟨by rfl, ?_⟩) (by assumption) ?_
    rotate_left
    · (intro w' hSw; obtain ⟨q00, q01, q02, q10, q11, q12, q20, q21, q22, q30, q31, q32, q40, q41, q42, q50, q51, q52, q60, q61, q62⟩ := hSw; go_simp; try with_reducible rfl)
    (try simp only [Act.put, List.setIfInBounds_toArray, List.set_cons_zero, List.set_cons_succ])
    refine wpAnyH_cast (R1_2_5_6_10_11_13 B W0 HS (W.alloc (.cells #[.bool false, .slice a6 3 c6, .bool true, .slice a11 3 c11] 49)) b1 a2 c2 b5 a6 c6 b10 a11 c11 W.heap.size r2 r13 hc) ?_ ?_
    · rfl
    · first | (simp only [A1, Act.put, List.setIfInBounds_toArray, List.set_cons_zero, List.set_cons_succ]; done) | (simp only [A1, Act.put, List.setIfInBounds_toArray, List.set_cons_zero, List.set_cons_succ]; rfl)
  refine AllReadyH.cons (o := _) rfl (fun Kq hKq => ?_) AllReadyH.nil
  have hn : Below W.heap.size W (W.alloc (.cells #[.slice none 0 0, .slice none 0 0] 33)) := (Below.refl _ _).new _
  have r2 := more (.cells #[.slice none 0 0, .slice none 0 0] 33) r2
  have r6 := more (.cells #[.slice none 0 0, .slice none 0 0] 33) r6
  have r11 := more (.cells #[.slice none 0 0, .slice none 0 0] 33) r11
  have k15 : (W.alloc (.cells #[.slice none 0 0, .slice none 0 0] 33)).heap[W.heap.size]? = some (.cells #[.slice none 0 0, .slice none 0 0] 33 (0, 0)) := heap_alloc_new W _
  have g15 := hc.size
  have hc := hc.then hn
  go_simp
  try dsimp only
  refine hKq.out _ _ (HS.out _ hc) (fun _ => ?_)
  clear hKq Kq
  (try simp only [Act.put, List.setIfInBounds_toArray, List.set_cons_zero, List.set_cons_succ])
  refine wpAnyH_cast (R1_2_5_6_10_11_15 B W0 HS (W.alloc (.cells #[.slice none 0 0, .slice none 0 0] 33)) b1 a2 c2 b5 a6 c6 b10 a11 c11 W.heap.size r2 r6 r11 k15 g15 hc) ?_ ?_
  · rfl
  · first | (simp only [A1, Act.put, List.setIfInBounds_toArray, List.set_cons_zero, List.set_cons_succ]; done) | (simp only [A1, Act.put, List.setIfInBounds_toArray, List.set_cons_zero, List.set_cons_succ]; rfl)
set_option maxRecDepth 100000 in
set_option maxHeartbeats 4000000 in
theorem R1_2_5_6_10_15 (B : Nat) (W0 : World) (HS : Hid (∀ W', Below W0.heap.size W0 W' → SB B W')) (W : World) (b1 : Nat) (a2 : Option Addr) (c2 : Nat) (b5 : Nat) (a6 : Option Addr) (c6 : Nat) (b10 : Nat) (b15 : Nat) (r2 : Row (veil [b15] W) a2 c2 [⟨3, ⟨#[112]⟩, 1⟩, Hp.v0]) (r6 : Row (veil [b15] W) a6 c6 [⟨3, ⟨#[113]⟩, 2⟩, Hp.v0, Hp.v27]) (r10 : Row (veil [b15] W) (some ⟨b10, 0, none⟩) 2 [Hp.v27, Hp.aC]) (k15 : W.heap[b15]? = some (.cells #[.slice none 0 0, .slice none 0 0] 33 (0, 0))) (g15 : W0.heap.size ≤ b15) (hc : Below W0.heap.size W0 W) :
    wpAnyH Tryd.prog .any ops4 (NoPanic (QP B W0)) (SB B) 5 #[true, true, true, true, true, true, true, true, true, true, true, false, false, false, false, true, false] ((((((((A1 B).put (some 8) (.pointer (some ⟨b15, 0, none⟩))).put (some 17) (.slice (some ⟨b1, 0, none⟩) 1 1)).put (some 18) (.slice a2 2 c2)).put (some 21) (.slice (some ⟨b5, 0, none⟩) 2 2)).put (some 22) (.slice a6 3 c6)).put (some 23) (.agg #[.bool false, .slice a6 3 c6])).put (some 26) (.slice (some ⟨b10, 0, none⟩) 2 2)) W := by
  unfold ops4 A1
  (try simp only [Act.put, List.setIfInBounds_toArray, List.set_cons_zero, List.set_cons_succ])
  have hSW := HS.out _ hc
  refine wpAnyH_ready (rs := [11]) (by kernel_rfl) (by simp) ?_
  refine AllReadyH.cons (o := _) rfl (fun Kq hKq => ?_) AllReadyH.nil
  go_simp
  refine (Hp.fun_is ⟨#[61]⟩ 2 _ _ W (plain r10) 2 rfl (by omega) (by omega) (by decide)).mono ?_
  rintro e V ⟨a11, c11, rfl, r11, hn⟩
  have r11 := new_veil (us := [b15]) r11 (by simp; exact (Array.getElem?_eq_some_iff.1 k15).1)
  have r2 := grow [b15] hn r2
  have r6 := grow [b15] hn r6
  have k15 := (hn.block b15 (Array.getElem?_eq_some_iff.1 k15).1).trans k15
  have hc := hc.then hn
  try dsimp only
  refine hKq.out _ _ (HS.out _ hc) (fun _ => ?_)
  clear hKq Kq
  (try simp only [Act.put, List.setIfInBounds_toArray, List.set_cons_zero, List.set_cons_succ])
  refine wpAnyH_take (i := 12) (oi := _) (v := ?_) rfl (by kernel_rfl) (by kernel_rfl) (by kernel_rfl) (fun _ _ _ h => h) (Or.inl ⟨by rfl, ?_⟩) (by assumption) ?_
  rotate_left
  · (intro w' hSw; obtain ⟨q00, q01, q02, q10, q11, q12, q20, q21, q22, q30, q31, q32, q40, q41, q42, q50, q51, q52, q60, q61, q62⟩ := hSw; go_simp; try with_reducible rfl)
  (try simp only [Act.put, List.setIfInBounds_toArray, List.set_cons_zero, List.set_cons_succ])
  refine wpAnyH_cast (R1_2_5_6_10_11_15 B W0 HS V b1 a2 c2 b5 a6 c6 b10 a11 c11 b15 r2 r6 r11 k15 g15 hc) ?_ ?_
  · rfl
  · first | (simp only [A1, Act.put, List.setIfInBounds_toArray, List.set_cons_zero, List.set_cons_succ]; done) | (simp only [A1, Act.put, List.setIfInBounds_toArray, List.set_cons_zero, List.set_cons_succ]; rfl)
set_option maxRecDepth 100000 in
set_option maxHeartbeats 4000000 in
theorem R1_2_5_6_10 (B : Nat) (W0 : World) (HS : Hid (∀ W', Below W0.heap.size W0 W' → SB B W')) (W : World) (b1 : Nat) (a2 : Option Addr) (c2 : Nat) (b5 : Nat) (a6 : Option Addr) (c6 : Nat) (b10 : Nat) (r2 : Row (veil [] W) a2 c2 [⟨3, ⟨#[112]⟩, 1⟩, Hp.v0]) (r6 : Row (veil [] W) a6 c6 [⟨3, ⟨#[113]⟩, 2⟩, Hp.v0, Hp.v27]) (r10 : Row (veil [] W) (some ⟨b10, 0, none⟩) 2 [Hp.v27, Hp.aC]) (hc : Below W0.heap.size W0 W) :
    wpAnyH Tryd.prog .any ops4 (NoPanic (QP B W0)) (SB B) 6 #[true, true, true, true, true, true, true, true, true, true, true, false, false, false, false, false, false] (((((((A1 B).put (some 17) (.slice (some ⟨b1, 0, none⟩) 1 1)).put (some 18) (.slice a2 2 c2)).put (some 21) (.slice (some ⟨b5, 0, none⟩) 2 2)).put (some 22) (.slice a6 3 c6)).put (some 23) (.agg #[.bool false, .slice a6 3 c6])).put (some 26) (.slice (some ⟨b10, 0, none⟩) 2 2)) W := by
  unfold ops4 A1
  (try simp only [Act.put, List.setIfInBounds_toArray, List.set_cons_zero, List.set_cons_succ])
  have hSW := HS.out _ hc
  refine wpAnyH_ready (rs := [11, 15]) (by kernel_rfl) (by simp) ?_
  refine AllReadyH.cons (o := _) rfl (fun Kq hKq => ?_) ?_
  · go_simp
    refine (Hp.fun_is ⟨#[61]⟩ 2 _ _ W (plain r10) 2 rfl (by omega) (by omega) (by decide)).mono ?_
    rintro e V ⟨a11, c11, rfl, r11, hn⟩
    have r11 := new_veil (us := []) r11 (by simp)
    have r2 := grow [] hn r2
    have r6 := grow [] hn r6
    have hc := hc.then hn
    try dsimp only
    refine hKq.out _ _ (HS.out _ hc) (fun _ => ?_)
    clear hKq Kq
    (try simp only [Act.put, List.setIfInBounds_toArray, List.set_cons_zero, List.set_cons_succ])
    refine wpAnyH_take (i := 12) (oi := _) (v := ?_) rfl (by kernel_rfl) (by kernel_rfl) (by kernel_rfl) (fun _ _ _ h => h) (Or.inl ⟨by rfl, ?_⟩) (by assumption) ?_
    rotate_left
    · (intro w' hSw; obtain ⟨q00, q01, q02, q10, q11, q12, q20, q21, q22, q30, q31, q32, q40, q41, q42, q50, q51, q52, q60, q61, q62⟩ := hSw; go_simp; try with_reducible rfl)
    (try simp only [Act.put, List.setIfInBounds_toArray, List.set_cons_zero, List.set_cons_succ])
    refine wpAnyH_cast (R1_2_5_6_10_11 B W0 HS V b1 a2 c2 b5 a6 c6 b10 a11 c11 r2 r6 r11 hc) ?_ ?_
    · rfl
    · first | (simp only [A1, Act.put, List.setIfInBounds_toArray, List.set_cons_zero, List.set_cons_succ]; done) | (simp only [A1, Act.put, List.setIfInBounds_toArray, List.set_cons_zero, List.set_cons_succ]; rfl)
  refine AllReadyH.cons (o := _) rfl (fun Kq hKq => ?_) AllReadyH.nil
  have hn : Below W.heap.size W (W.alloc (.cells #[.slice none 0 0, .slice none 0 0] 33)) := (Below.refl _ _).new _
  have r2 := more (.cells #[.slice none 0 0, .slice none 0 0] 33) r2
  have r6 := more (.cells #[.slice none 0 0, .slice none 0 0] 33) r6
  have r10 := more (.cells #[.slice none 0 0, .slice none 0 0] 33) r10
  have k15 : (W.alloc (.cells #[.slice none 0 0, .slice none 0 0] 33)).heap[W.heap.size]? = some (.cells #[.slice none 0 0, .slice none 0 0] 33 (0, 0)) := heap_alloc_new W _
  have g15 := hc.size
  have hc := hc.then hn
  go_simp
  try dsimp only
  refine hKq.out _ _ (HS.out _ hc) (fun _ => ?_)
  clear hKq Kq
  (try simp only [Act.put, List.setIfInBounds_toArray, List.set_cons_zero, List.set_cons_succ])
  refine wpAnyH_cast (R1_2_5_6_10_15 B W0 HS (W.alloc (.cells #[.slice none 0 0, .slice none 0 0] 33)) b1 a2 c2 b5 a6 c6 b10 W.heap.size r2 r6 r10 k15 g15 hc) ?_ ?_
  · rfl
  · first | (simp only [A1, Act.put, List.setIfInBounds_toArray, List.set_cons_zero, List.set_cons_succ]; done) | (simp only [A1, Act.put, List.setIfInBounds_toArray, List.set_cons_zero, List.set_cons_succ]; rfl)
set_option maxRecDepth 100000 in
set_option maxHeartbeats 4000000 in
theorem R1_2_5_6_15 (B : Nat) (W0 : World) (HS : Hid (∀ W', Below W0.heap.size W0 W' → SB B W')) (W : World) (b1 : Nat) (a2 : Option Addr) (c2 : Nat) (b5 : Nat) (a6 : Option Addr) (c6 : Nat) (b15 : Nat) (r2 : Row (veil [b15] W) a2 c2 [⟨3, ⟨#[112]⟩, 1⟩, Hp.v0]) (r6 : Row (veil [b15] W) a6 c6 [⟨3, ⟨#[113]⟩, 2⟩, Hp.v0, Hp.v27]) (k15 : W.heap[b15]? = some (.cells #[.slice none 0 0, .slice none 0 0] 33 (0, 0))) (g15 : W0.heap.size ≤ b15) (hc : Below W0.heap.size W0 W) :
    wpAnyH Tryd.prog .any ops4 (NoPanic (QP B W0)) (SB B) 6 #[true, true, true, true, true, true, true, true, true, true, false, false, false, false, false, true, false] (((((((A1 B).put (some 8) (.pointer (some ⟨b15, 0, none⟩))).put (some 17) (.slice (some ⟨b1, 0, none⟩) 1 1)).put (some 18) (.slice a2 2 c2)).put (some 21) (.slice (some ⟨b5, 0, none⟩) 2 2)).put (some 22) (.slice a6 3 c6)).put (some 23) (.agg #[.bool false, .slice a6 3 c6])) W := by
  unfold ops4 A1
  (try simp only [Act.put, List.setIfInBounds_toArray, List.set_cons_zero, List.set_cons_succ])
  have hSW := HS.out _ hc
  refine wpAnyH_ready (rs := [10]) (by kernel_rfl) (by simp) ?_
  refine AllReadyH.cons (o := _) rfl (fun Kq hKq => ?_) AllReadyH.nil
  have hn : Below W.heap.size W (W.alloc (.cells #[.int .i64 1, .string ⟨#[]⟩, .int .i64 27, .int .i64 3, .string ⟨#[97]⟩, .int .i64 0] 62)) := (Below.refl _ _).new _
  have r10 : Row (veil [b15] (W.alloc (.cells #[.int .i64 1, .string ⟨#[]⟩, .int .i64 27, .int .i64 3, .string ⟨#[97]⟩, .int .i64 0] 62))) (some ⟨W.heap.size, 0, none⟩) 2 [Hp.v27, Hp.aC] := rowV [b15] W (by simp; exact (Array.getElem?_eq_some_iff.1 k15).1) [Hp.v27, Hp.aC] (by intro c hc; simp at hc; rcases hc with rfl | rfl <;> exact Hp.fit0 _ _ _ (by decide) (by decide) (by decide)) 2 rfl _ rfl rfl (by omega)
  have r2 := grow [b15] hn r2
  have r6 := grow [b15] hn r6
  have k15 := (hn.block b15 (Array.getElem?_eq_some_iff.1 k15).1).trans k15
  have hc := hc.then hn
  go_simp
  try dsimp only
  refine hKq.out _ _ (HS.out _ hc) (fun _ => ?_)
  clear hKq Kq
  (try simp only [Act.put, List.setIfInBounds_toArray, List.set_cons_zero, List.set_cons_succ])
  refine wpAnyH_cast (R1_2_5_6_10_15 B W0 HS (W.alloc (.cells #[.int .i64 1, .string ⟨#[]⟩, .int .i64 27, .int .i64 3, .string ⟨#[97]⟩, .int .i64 0] 62)) b1 a2 c2 b5 a6 c6 W.heap.size b15 r2 r6 r10 k15 g15 hc) ?_ ?_
  · rfl
  · first | (simp only [A1, Act.put, List.setIfInBounds_toArray, List.set_cons_zero, List.set_cons_succ]; done) | (simp only [A1, Act.put, List.setIfInBounds_toArray, List.set_cons_zero, List.set_cons_succ]; rfl)
set_option maxRecDepth 100000 in
set_option maxHeartbeats 4000000 in
theorem R1_2_5_10_15 (B : Nat) (W0 : World) (HS : Hid (∀ W', Below W0.heap.size W0 W' → SB B W')) (W : World) (b1 : Nat) (a2 : Option Addr) (c2 : Nat) (b5 : Nat) (b10 : Nat) (b15 : Nat) (r2 : Row (veil [b15] W) a2 c2 [⟨3, ⟨#[112]⟩, 1⟩, Hp.v0]) (r5 : Row (veil [b15] W) (some ⟨b5, 0, none⟩) 2 [Hp.v0, Hp.v27]) (r10 : Row (veil [b15] W) (some ⟨b10, 0, none⟩) 2 [Hp.v27, Hp.aC]) (k15 : W.heap[b15]? = some (.cells #[.slice none 0 0, .slice none 0 0] 33 (0, 0))) (g15 : W0.heap.size ≤ b15) (hc : Below W0.heap.size W0 W) :
    wpAnyH Tryd.prog .any ops4 (NoPanic (QP B W0)) (SB B) 7 #[true, true, true, true, true, true, false, false, true, true, true, false, false, false, false, true, false] ((((((A1 B).put (some 8) (.pointer (some ⟨b15, 0, none⟩))).put (some 17) (.slice (some ⟨b1, 0, none⟩) 1 1)).put (some 18) (.slice a2 2 c2)).put (some 21) (.slice (some ⟨b5, 0, none⟩) 2 2)).put (some 26) (.slice (some ⟨b10, 0, none⟩) 2 2)) W := by
  unfold ops4 A1
  (try simp only [Act.put, List.setIfInBounds_toArray, List.set_cons_zero, List.set_cons_succ])
  have hSW := HS.out _ hc
  refine wpAnyH_ready (rs := [6]) (by kernel_rfl) (by simp) ?_
  refine AllReadyH.cons (o := _) rfl (fun Kq hKq => ?_) AllReadyH.nil
  go_simp
  refine (Hp.fun_is ⟨#[113]⟩ 2 _ _ W (plain r5) 2 rfl (by omega) (by omega) (by decide)).mono ?_
  rintro e V ⟨a6, c6, rfl, r6, hn⟩
  have r6 := new_veil (us := [b15]) r6 (by simp; exact (Array.getElem?_eq_some_iff.1 k15).1)
  have r2 := grow [b15] hn r2
  have r10 := grow [b15] hn r10
  have k15 := (hn.block b15 (Array.getElem?_eq_some_iff.1 k15).1).trans k15
  have hc := hc.then hn
  try dsimp only
  refine hKq.out _ _ (HS.out _ hc) (fun _ => ?_)
  clear hKq Kq
  (try simp only [Act.put, List.setIfInBounds_toArray, List.set_cons_zero, List.set_cons_succ])
  refine wpAnyH_take (i := 7) (oi := _) (v := ?_) rfl (by kernel_rfl) (by kernel_rfl) (by kernel_rfl) (fun _ _ _ h => h) (Or.inl ⟨by rfl, ?_⟩) (by assumption) ?_
  rotate_left
  · (intro w' hSw; obtain ⟨q00, q01, q02, q10, q11, q12, q20, q21, q22, q30, q31, q32, q40, q41, q42, q50, q51, q52, q60, q61, q62⟩ := hSw; go_simp; try with_reducible rfl)
  (try simp only [Act.put, List.setIfInBounds_toArray, List.set_cons_zero, List.set_cons_succ])
  refine wpAnyH_cast (R1_2_5_6_10_15 B W0 HS V b1 a2 c2 b5 a6 c6 b10 b15 r2 r6 r10 k15 g15 hc) ?_ ?_
  · rfl
  · first | (simp only [A1, Act.put, List.setIfInBounds_toArray, List.set_cons_zero, List.set_cons_succ]; done) | (simp only [A1, Act.put, List.setIfInBounds_toArray, List.set_cons_zero, List.set_cons_succ]; rfl)
set_option maxRecDepth 100000 in
set_option maxHeartbeats 4000000 in
theorem R1_2_5_6 (B : Nat) (W0 : World) (HS : Hid (∀ W', Below W0.heap.size W0 W' → SB B W')) (W : World) (b1 : Nat) (a2 : Option Addr) (c2 : Nat) (b5 : Nat) (a6 : Option Addr) (c6 : Nat) (r2 : Row (veil [] W) a2 c2 [⟨3, ⟨#[112]⟩, 1⟩, Hp.v0]) (r6 : Row (veil [] W) a6 c6 [⟨3, ⟨#[113]⟩, 2⟩, Hp.v0, Hp.v27]) (hc : Below W0.heap.size W0 W) :
    wpAnyH Tryd.prog .any ops4 (NoPanic (QP B W0)) (SB B) 7 #[true, true, true, true, true, true, true, true, true, true, false, false, false, false, false, false, false] ((((((A1 B).put (some 17) (.slice (some ⟨b1, 0, none⟩) 1 1)).put (some 18) (.slice a2 2 c2)).put (some 21) (.slice (some ⟨b5, 0, none⟩) 2 2)).put (some 22) (.slice a6 3 c6)).put (some 23) (.agg #[.bool false, .slice a6 3 c6])) W := by
  unfold ops4 A1
  (try simp only [Act.put, List.setIfInBounds_toArray, List.set_cons_zero, List.set_cons_succ])
  have hSW := HS.out _ hc
  refine wpAnyH_ready (rs := [10, 15]) (by kernel_rfl) (by simp) ?_
  refine AllReadyH.cons (o := _) rfl (fun Kq hKq => ?_) ?_
  · have hn : Below W.heap.size W (W.alloc (.cells #[.int .i64 1, .string ⟨#[]⟩, .int .i64 27, .int .i64 3, .string ⟨#[97]⟩, .int .i64 0] 62)) := (Below.refl _ _).new _
    have r10 : Row (veil [] (W.alloc (.cells #[.int .i64 1, .string ⟨#[]⟩, .int .i64 27, .int .i64 3, .string ⟨#[97]⟩, .int .i64 0] 62))) (some ⟨W.heap.size, 0, none⟩) 2 [Hp.v27, Hp.aC] := rowV [] W (by simp) [Hp.v27, Hp.aC] (by intro c hc; simp at hc; rcases hc with rfl | rfl <;> exact Hp.fit0 _ _ _ (by decide) (by decide) (by decide)) 2 rfl _ rfl rfl (by omega)
    have r2 := grow [] hn r2
    have r6 := grow [] hn r6
    have hc := hc.then hn
    go_simp
    try dsimp only
    refine hKq.out _ _ (HS.out _ hc) (fun _ => ?_)
    clear hKq Kq
    (try simp only [Act.put, List.setIfInBounds_toArray, List.set_cons_zero, List.set_cons_succ])
    refine wpAnyH_cast (R1_2_5_6_10 B W0 HS (W.alloc (.cells #[.int .i64 1, .string ⟨#[]⟩, .int .i64 27, .int .i64 3, .string ⟨#[97]⟩, .int .i64 0] 62)) b1 a2 c2 b5 a6 c6 W.heap.size r2 r6 r10 hc) ?_ ?_
    · rfl
    · first | (simp only [A1, Act.put, List.setIfInBounds_toArray, List.set_cons_zero, List.set_cons_succ]; done) | (simp only [A1, Act.put, List.setIfInBounds_toArray, List.set_cons_zero, List.set_cons_succ]; rfl)
  refine AllReadyH.cons (o := _) rfl (fun Kq hKq => ?_) AllReadyH.nil
  have hn : Below W.heap.size W (W.alloc (.cells #[.slice none 0 0, .slice none 0 0] 33)) := (Below.refl _ _).new _
  have r2 := more (.cells #[.slice none 0 0, .slice none 0 0] 33) r2
  have r6 := more (.cells #[.slice none 0 0, .slice none 0 0] 33) r6
  have k15 : (W.alloc (.cells #[.slice none 0 0, .slice none 0 0] 33)).heap[W.heap.size]? = some (.cells #[.slice none 0 0, .slice none 0 0] 33 (0, 0)) := heap_alloc_new W _
  have g15 := hc.size
  have hc := hc.then hn
  go_simp
  try dsimp only
  refine hKq.out _ _ (HS.out _ hc) (fun _ => ?_)
  clear hKq Kq
  (try simp only [Act.put, List.setIfInBounds_toArray, List.set_cons_zero, List.set_cons_succ])
  refine wpAnyH_cast (R1_2_5_6_15 B W0 HS (W.alloc (.cells #[.slice none 0 0, .slice none 0 0] 33)) b1 a2 c2 b5 a6 c6 W.heap.size r2 r6 k15 g15 hc) ?_ ?_
  · rfl
  · first | (simp only [A1, Act.put, List.setIfInBounds_toArray, List.set_cons_zero, List.set_cons_succ]; done) | (simp only [A1, Act.put, List.setIfInBounds_toArray, List.set_cons_zero, List.set_cons_succ]; rfl)
set_option maxRecDepth 100000 in
set_option maxHeartbeats 4000000 in
theorem R1_2_5_10 (B : Nat) (W0 : World) (HS : Hid (∀ W', Below W0.heap.size W0 W' → SB B W')) (W : World) (b1 : Nat) (a2 : Option Addr) (c2 : Nat) (b5 : Nat) (b10 : Nat) (r2 : Row (veil [] W) a2 c2 [⟨3, ⟨#[112]⟩, 1⟩, Hp.v0]) (r5 : Row (veil [] W) (some ⟨b5, 0, none⟩) 2 [Hp.v0, Hp.v27]) (r10 : Row (veil [] W) (some ⟨b10, 0, none⟩) 2 [Hp.v27, Hp.aC]) (hc : Below W0.heap.size W0 W) :
    wpAnyH Tryd.prog .any ops4 (NoPanic (QP B W0)) (SB B) 8 #[true, true, true, true, true, true, false, false, true, true, true, false, false, false, false, false, false] (((((A1 B).put (some 17) (.slice (some ⟨b1, 0, none⟩) 1 1)).put (some 18) (.slice a2 2 c2)).put (some 21) (.slice (some ⟨b5, 0, none⟩) 2 2)).put (some 26) (.slice (some ⟨b10, 0, none⟩) 2 2)) W := by
  unfold ops4 A1
  (try simp only [Act.put, List.setIfInBounds_toArray, List.set_cons_zero, List.set_cons_succ])
  have hSW := HS.out _ hc
  refine wpAnyH_ready (rs := [6, 15]) (by kernel_rfl) (by simp) ?_
  refine AllReadyH.cons (o := _) rfl (fun Kq hKq => ?_) ?_
  · go_simp
    refine (Hp.fun_is ⟨#[113]⟩ 2 _ _ W (plain r5) 2 rfl (by omega) (by omega) (by decide)).mono ?_
    rintro e V ⟨a6, c6, rfl, r6, hn⟩
    have r6 := new_veil (us := []) r6 (by simp)
    have r2 := grow [] hn r2
    have r10 := grow [] hn r10
    have hc := hc.then hn
    try dsimp only
    refine hKq.out _ _ (HS.out _ hc) (fun _ => ?_)
    clear hKq Kq
    (try simp only [Act.put, List.setIfInBounds_toArray, List.set_cons_zero, List.set_cons_succ])
    refine wpAnyH_take (i := 7) (oi := _) (v := ?_) rfl (by kernel_rfl) (by kernel_rfl) (by kernel_rfl) (fun _ _ _ h => h) (Or.inl ⟨by rfl, ?_⟩) (by assumption) ?_
    rotate_left
    · (intro w' hSw; obtain ⟨q00, q01, q02, q10, q11, q12, q20, q21, q22, q30, q31, q32, q40, q41, q42, q50, q51, q52, q60, q61, q62⟩ := hSw; go_simp; try with_reducible rfl)
    (try simp only [Act.put, List.setIfInBounds_toArray, List.set_cons_zero, List.set_cons_succ])
    refine wpAnyH_cast (R1_2_5_6_10 B W0 HS V b1 a2 c2 b5 a6 c6 b10 r2 r6 r10 hc) ?_ ?_
    · rfl
    · first | (simp only [A1, Act.put, List.setIfInBounds_toArray, List.set_cons_zero, List.set_cons_succ]; done) | (simp only [A1, Act.put, List.setIfInBounds_toArray, List.set_cons_zero, List.set_cons_succ]; rfl)
  refine AllReadyH.cons (o := _) rfl (fun Kq hKq => ?_) AllReadyH.nil
  have hn : Below W.heap.size W (W.alloc (.cells #[.slice none 0 0, .slice none 0 0] 33)) := (Below.refl _ _).new _
  have r2 := more (.cells #[.slice none 0 0, .slice none 0 0] 33) r2
  have r5 := more (.cells #[.slice none 0 0, .slice none 0 0] 33) r5
  have r10 := more (.cells #[.slice none 0 0, .slice none 0 0] 33) r10
  have k15 : (W.alloc (.cells #[.slice none 0 0, .slice none 0 0] 33)).heap[W.heap.size]? = some (.cells #[.slice none 0 0, .slice none 0 0] 33 (0, 0)) := heap_alloc_new W _
  have g15 := hc.size
  have hc := hc.then hn
  go_simp
  try dsimp only
  refine hKq.out _ _ (HS.out _ hc) (fun _ => ?_)
  clear hKq Kq
  (try simp only [Act.put, List.setIfInBounds_toArray, List.set_cons_zero, List.set_cons_succ])
  refine wpAnyH_cast (R1_2_5_10_15 B W0 HS (W.alloc (.cells #[.slice none 0 0, .slice none 0 0] 33)) b1 a2 c2 b5 b10 W.heap.size r2 r5 r10 k15 g15 hc) ?_ ?_
  · rfl
  · first | (simp only [A1, Act.put, List.setIfInBounds_toArray, List.set_cons_zero, List.set_cons_succ]; done) | (simp only [A1, Act.put, List.setIfInBounds_toArray, List.set_cons_zero, List.set_cons_succ]; rfl)
set_option maxRecDepth 100000 in
set_option maxHeartbeats 4000000 in
theorem R1_2_5_15 (B : Nat) (W0 : World) (HS : Hid (∀ W', Below W0.heap.size W0 W' → SB B W')) (W : World) (b1 : Nat) (a2 : Option Addr) (c2 : Nat) (b5 : Nat) (b15 : Nat) (r2 : Row (veil [b15] W) a2 c2 [⟨3, ⟨#[112]⟩, 1⟩, Hp.v0]) (r5 : Row (veil [b15] W) (some ⟨b5, 0, none⟩) 2 [Hp.v0, Hp.v27]) (k15 : W.heap[b15]? = some (.cells #[.slice none 0 0, .slice none 0 0] 33 (0, 0))) (g15 : W0.heap.size ≤ b15) (hc : Below W0.heap.size W0 W) :
    wpAnyH Tryd.prog .any ops4 (NoPanic (QP B W0)) (SB B) 8 #[true, true, true, true, true, true, false, false, true, true, false, false, false, false, false, true, false] (((((A1 B).put (some 8) (.pointer (some ⟨b15, 0, none⟩))).put (some 17) (.slice (some ⟨b1, 0, none⟩) 1 1)).put (some 18) (.slice a2 2 c2)).put (some 21) (.slice (some ⟨b5, 0, none⟩) 2 2)) W := by
  unfold ops4 A1
  (try simp only [Act.put, List.setIfInBounds_toArray, List.set_cons_zero, List.set_cons_succ])
  have hSW := HS.out _ hc
  refine wpAnyH_ready (rs := [6, 10]) (by kernel_rfl) (by simp) ?_
  refine AllReadyH.cons (o := _) rfl (fun Kq hKq => ?_) ?_
  · go_simp
    refine (Hp.fun_is ⟨#[113]⟩ 2 _ _ W (plain r5) 2 rfl (by omega) (by omega) (by decide)).mono ?_
    rintro e V ⟨a6, c6, rfl, r6, hn⟩
    have r6 := new_veil (us := [b15]) r6 (by simp; exact (Array.getElem?_eq_some_iff.1 k15).1)
    have r2 := grow [b15] hn r2
    have k15 := (hn.block b15 (Array.getElem?_eq_some_iff.1 k15).1).trans k15
    have hc := hc.then hn
    try dsimp only
    refine hKq.out _ _ (HS.out _ hc) (fun _ => ?_)
    clear hKq Kq
    (try simp only [Act.put, List.setIfInBounds_toArray, List.set_cons_zero, List.set_cons_succ])
    refine wpAnyH_take (i := 7) (oi := _) (v := ?_) rfl (by kernel_rfl) (by kernel_rfl) (by kernel_rfl) (fun _ _ _ h => h) (Or.inl ⟨by rfl, ?_⟩) (by assumption) ?_
    rotate_left
    · (intro w' hSw; obtain ⟨q00, q01, q02, q10, q11, q12, q20, q21, q22, q30, q31, q32, q40, q41, q42, q50, q51, q52, q60, q61, q62⟩ := hSw; go_simp; try with_reducible rfl)
    (try simp only [Act.put, List.setIfInBounds_toArray, List.set_cons_zero, List.set_cons_succ])
    refine wpAnyH_cast (R1_2_5_6_15 B W0 HS V b1 a2 c2 b5 a6 c6 b15 r2 r6 k15 g15 hc) ?_ ?_
    · rfl
    · first | (simp only [A1, Act.put, List.setIfInBounds_toArray, List.set_cons_zero, List.set_cons_succ]; done) | (simp only [A1, Act.put, List.setIfInBounds_toArray, List.set_cons_zero, List.set_cons_succ]; rfl)
  refine AllReadyH.cons (o := _) rfl (fun Kq hKq => ?_) AllReadyH.nil
  have hn : Below W.heap.size W (W.alloc (.cells #[.int .i64 1, .string ⟨#[]⟩, .int .i64 27, .int .i64 3, .string ⟨#[97]⟩, .int .i64 0] 62)) := (Below.refl _ _).new _
  have r10 : Row (veil [b15] (W.alloc (.cells #[.int .i64 1, .string ⟨#[]⟩, .int .i64 27, .int .i64 3, .string ⟨#[97]⟩, .int .i64 0] 62))) (some ⟨W.heap.size, 0, none⟩) 2 [Hp.v27, Hp.aC] := rowV [b15] W (by simp; exact (Array.getElem?_eq_some_iff.1 k15).1) [Hp.v27, Hp.aC] (by intro c hc; simp at hc; rcases hc with rfl | rfl <;> exact Hp.fit0 _ _ _ (by decide) (by decide) (by decide)) 2 rfl _ rfl rfl (by omega)
  have r2 := grow [b15] hn r2
  have r5 := grow [b15] hn r5
  have k15 := (hn.block b15 (Array.getElem?_eq_some_iff.1 k15).1).trans k15
  have hc := hc.then hn
  go_simp
  try dsimp only
  refine hKq.out _ _ (HS.out _ hc) (fun _ => ?_)
  clear hKq Kq
  (try simp only [Act.put, List.setIfInBounds_toArray, List.set_cons_zero, List.set_cons_succ])
  refine wpAnyH_cast (R1_2_5_10_15 B W0 HS (W.alloc (.cells #[.int .i64 1, .string ⟨#[]⟩, .int .i64 27, .int .i64 3, .string ⟨#[97]⟩, .int .i64 0] 62)) b1 a2 c2 b5 W.heap.size b15 r2 r5 r10 k15 g15 hc) ?_ ?_
  · rfl
  · first | (simp only [A1, Act.put, List.setIfInBounds_toArray, List.set_cons_zero, List.set_cons_succ]; done) | (simp only [A1, Act.put, List.setIfInBounds_toArray, List.set_cons_zero, List.set_cons_succ]; rfl)
set_option maxRecDepth 100000 in
set_option maxHeartbeats 4000000 in
theorem R1_2_10_15 (B : Nat) (W0 : World) (HS : Hid (∀ W', Below W0.heap.size W0 W' → SB B W')) (W : World) (b1 : Nat) (a2 : Option Addr) (c2 : Nat) (b10 : Nat) (b15 : Nat) (r2 : Row (veil [b15] W) a2 c2 [⟨3, ⟨#[112]⟩, 1⟩, Hp.v0]) (r10 : Row (veil [b15] W) (some ⟨b10, 0, none⟩) 2 [Hp.v27, Hp.aC]) (k15 : W.heap[b15]? = some (.cells #[.slice none 0 0, .slice none 0 0] 33 (0, 0))) (g15 : W0.heap.size ≤ b15) (hc : Below W0.heap.size W0 W) :
    wpAnyH Tryd.prog .any ops4 (NoPanic (QP B W0)) (SB B) 8 #[true, true, true, true, true, false, false, false, true, true, true, false, false, false, false, true, false] (((((A1 B).put (some 8) (.pointer (some ⟨b15, 0, none⟩))).put (some 17) (.slice (some ⟨b1, 0, none⟩) 1 1)).put (some 18) (.slice a2 2 c2)).put (some 26) (.slice (some ⟨b10, 0, none⟩) 2 2)) W := by
  unfold ops4 A1
  (try simp only [Act.put, List.setIfInBounds_toArray, List.set_cons_zero, List.set_cons_succ])
  have hSW := HS.out _ hc
  refine wpAnyH_ready (rs := [5]) (by kernel_rfl) (by simp) ?_
  refine AllReadyH.cons (o := _) rfl (fun Kq hKq => ?_) AllReadyH.nil
  have hn : Below W.heap.size W (W.alloc (.cells #[.int .i64 1, .string ⟨#[]⟩, .int .i64 0, .int .i64 1, .string ⟨#[]⟩, .int .i64 27] 62)) := (Below.refl _ _).new _
  have r5 : Row (veil [b15] (W.alloc (.cells #[.int .i64 1, .string ⟨#[]⟩, .int .i64 0, .int .i64 1, .string ⟨#[]⟩, .int .i64 27] 62))) (some ⟨W.heap.size, 0, none⟩) 2 [Hp.v0, Hp.v27] := rowV [b15] W (by simp; exact (Array.getElem?_eq_some_iff.1 k15).1) [Hp.v0, Hp.v27] (by intro c hc; simp at hc; rcases hc with rfl | rfl <;> exact Hp.fit0 _ _ _ (by decide) (by decide) (by decide)) 2 rfl _ rfl rfl (by omega)
  have r2 := grow [b15] hn r2
  have r10 := grow [b15] hn r10
  have k15 := (hn.block b15 (Array.getElem?_eq_some_iff.1 k15).1).trans k15
  have hc := hc.then hn
  go_simp
  try dsimp only
  refine hKq.out _ _ (HS.out _ hc) (fun _ => ?_)
  clear hKq Kq
  (try simp only [Act.put, List.setIfInBounds_toArray, List.set_cons_zero, List.set_cons_succ])
  refine wpAnyH_cast (R1_2_5_10_15 B W0 HS (W.alloc (.cells #[.int .i64 1, .string ⟨#[]⟩, .int .i64 0, .int .i64 1, .string ⟨#[]⟩, .int .i64 27] 62)) b1 a2 c2 W.heap.size b10 b15 r2 r5 r10 k15 g15 hc) ?_ ?_
  · rfl
  · first | (simp only [A1, Act.put, List.setIfInBounds_toArray, List.set_cons_zero, List.set_cons_succ]; done) | (simp only [A1, Act.put, List.setIfInBounds_toArray, List.set_cons_zero, List.set_cons_succ]; rfl)
set_option maxRecDepth 100000 in
set_option maxHeartbeats 4000000 in
theorem R1_5_10_15 (B : Nat) (W0 : World) (HS : Hid (∀ W', Below W0.heap.size W0 W' → SB B W')) (W : World) (b1 : Nat) (b5 : Nat) (b10 : Nat) (b15 : Nat) (r1 : Row (veil [b15] W) (some ⟨b1, 0, none⟩) 1 [Hp.v0]) (r5 : Row (veil [b15] W) (some ⟨b5, 0, none⟩) 2 [Hp.v0, Hp.v27]) (r10 : Row (veil [b15] W) (some ⟨b10, 0, none⟩) 2 [Hp.v27, Hp.aC]) (k15 : W.heap[b15]? = some (.cells #[.slice none 0 0, .slice none 0 0] 33 (0, 0))) (g15 : W0.heap.size ≤ b15) (hc : Below W0.heap.size W0 W) :
    wpAnyH Tryd.prog .any ops4 (NoPanic (QP B W0)) (SB B) 8 #[true, true, false, true, true, true, false, false, true, true, true, false, false, false, false, true, false] (((((A1 B).put (some 8) (.pointer (some ⟨b15, 0, none⟩))).put (some 17) (.slice (some ⟨b1, 0, none⟩) 1 1)).put (some 21) (.slice (some ⟨b5, 0, none⟩) 2 2)).put (some 26) (.slice (some ⟨b10, 0, none⟩) 2 2)) W := by
  unfold ops4 A1
  (try simp only [Act.put, List.setIfInBounds_toArray, List.set_cons_zero, List.set_cons_succ])
  have hSW := HS.out _ hc
  refine wpAnyH_ready (rs := [2]) (by kernel_rfl) (by simp) ?_
  refine AllReadyH.cons (o := _) rfl (fun Kq hKq => ?_) AllReadyH.nil
  go_simp
  refine (Hp.fun_is ⟨#[112]⟩ 1 _ _ W (plain r1) 1 rfl (by omega) (by omega) (by decide)).mono ?_
  rintro e V ⟨a2, c2, rfl, r2, hn⟩
  have r2 := new_veil (us := [b15]) r2 (by simp; exact (Array.getElem?_eq_some_iff.1 k15).1)
  have r5 := grow [b15] hn r5
  have r10 := grow [b15] hn r10
  have k15 := (hn.block b15 (Array.getElem?_eq_some_iff.1 k15).1).trans k15
  have hc := hc.then hn
  try dsimp only
  refine hKq.out _ _ (HS.out _ hc) (fun _ => ?_)
  clear hKq Kq
  (try simp only [Act.put, List.setIfInBounds_toArray, List.set_cons_zero, List.set_cons_succ])
  refine wpAnyH_cast (R1_2_5_10_15 B W0 HS V b1 a2 c2 b5 b10 b15 r2 r5 r10 k15 g15 hc) ?_ ?_
  · rfl
  · first | (simp only [A1, Act.put, List.setIfInBounds_toArray, List.set_cons_zero, List.set_cons_succ]; done) | (simp only [A1, Act.put, List.setIfInBounds_toArray, List.set_cons_zero, List.set_cons_succ]; rfl)
set_option maxRecDepth 100000 in
set_option maxHeartbeats 4000000 in
theorem R1_2_5 (B : Nat) (W0 : World) (HS : Hid (∀ W', Below W0.heap.size W0 W' → SB B W')) (W : World) (b1 : Nat) (a2 : Option Addr) (c2 : Nat) (b5 : Nat) (r2 : Row (veil [] W) a2 c2 [⟨3, ⟨#[112]⟩, 1⟩, Hp.v0]) (r5 : Row (veil [] W) (some ⟨b5, 0, none⟩) 2 [Hp.v0, Hp.v27]) (hc : Below W0.heap.size W0 W) :
    wpAnyH Tryd.prog .any ops4 (NoPanic (QP B W0)) (SB B) 9 #[true, true, true, true, true, true, false, false, true, true, false, false, false, false, false, false, false] ((((A1 B).put (some 17) (.slice (some ⟨b1, 0, none⟩) 1 1)).put (some 18) (.slice a2 2 c2)).put (some 21) (.slice (some ⟨b5, 0, none⟩) 2 2)) W := by
  unfold ops4 A1
  (try simp only [Act.put, List.setIfInBounds_toArray, List.set_cons_zero, List.set_cons_succ])
  have hSW := HS.out _ hc
  refine wpAnyH_ready (rs := [6, 10, 15]) (by kernel_rfl) (by simp) ?_
  refine AllReadyH.cons (o := _) rfl (fun Kq hKq => ?_) ?_
  · go_simp
    refine (Hp.fun_is ⟨#[113]⟩ 2 _ _ W (plain r5) 2 rfl (by omega) (by omega) (by decide)).mono ?_
    rintro e V ⟨a6, c6, rfl, r6, hn⟩
    have r6 := new_veil (us := []) r6 (by simp)
    have r2 := grow [] hn r2
    have hc := hc.then hn
    try dsimp only
    refine hKq.out _ _ (HS.out _ hc) (fun _ => ?_)
    clear hKq Kq
    (try simp only [Act.put, List.setIfInBounds_toArray, List.set_cons_zero, List.set_cons_succ])
    refine wpAnyH_take (i := 7) (oi := _) (v := ?_) rfl (by kernel_rfl) (by kernel_rfl) (by kernel_rfl) (fun _ _ _ h => h) (Or.inl ⟨by rfl, ?_⟩) (by assumption) ?_
    rotate_left
    · (intro w' hSw; obtain ⟨q00, q01, q02, q10, q11, q12, q20, q21, q22, q30, q31, q32, q40, q41, q42, q50, q51, q52, q60, q61, q62⟩ := hSw; go_simp; try with_reducible rfl)
    (try simp only [Act.put, List.setIfInBounds_toArray, List.set_cons_zero, List.set_cons_succ])
    refine wpAnyH_cast (R1_2_5_6 B W0 HS V b1 a2 c2 b5 a6 c6 r2 r6 hc) ?_ ?_
    · rfl
    · first | (simp only [A1, Act.put, List.setIfInBounds_toArray, List.set_cons_zero, List.set_cons_succ]; done) | (simp only [A1, Act.put, List.setIfInBounds_toArray, List.set_cons_zero, List.set_cons_succ]; rfl)
  refine AllReadyH.cons (o := _) rfl (fun Kq hKq => ?_) ?_
  · have hn : Below W.heap.size W (W.alloc (.cells #[.int .i64 1, .string ⟨#[]⟩, .int .i64 27, .int .i64 3, .string ⟨#[97]⟩, .int .i64 0] 62)) := (Below.refl _ _).new _
    have r10 : Row (veil [] (W.alloc (.cells #[.int .i64 1, .string ⟨#[]⟩, .int .i64 27, .int .i64 3, .string ⟨#[97]⟩, .int .i64 0] 62))) (some ⟨W.heap.size, 0, none⟩) 2 [Hp.v27, Hp.aC] := rowV [] W (by simp) [Hp.v27, Hp.aC] (by intro c hc; simp at hc; rcases hc with rfl | rfl <;> exact Hp.fit0 _ _ _ (by decide) (by decide) (by decide)) 2 rfl _ rfl rfl (by omega)
    have r2 := grow [] hn r2
    have r5 := grow [] hn r5
    have hc := hc.then hn
    go_simp
    try dsimp only
    refine hKq.out _ _ (HS.out _ hc) (fun _ => ?_)
    clear hKq Kq
    (try simp only [Act.put, List.setIfInBounds_toArray, List.set_cons_zero, List.set_cons_succ])
    refine wpAnyH_cast (R1_2_5_10 B W0 HS (W.alloc (.cells #[.int .i64 1, .string ⟨#[]⟩, .int .i64 27, .int .i64 3, .string ⟨#[97]⟩, .int .i64 0] 62)) b1 a2 c2 b5 W.heap.size r2 r5 r10 hc) ?_ ?_
    · rfl
    · first | (simp only [A1, Act.put, List.setIfInBounds_toArray, List.set_cons_zero, List.set_cons_succ]; done) | (simp only [A1, Act.put, List.setIfInBounds_toArray, List.set_cons_zero, List.set_cons_succ]; rfl)
  refine AllReadyH.cons (o := _) rfl (fun Kq hKq => ?_) AllReadyH.nil
  have hn : Below W.heap.size W (W.alloc (.cells #[.slice none 0 0, .slice none 0 0] 33)) := (Below.refl _ _).new _
  have r2 := more (.cells #[.slice none 0 0, .slice none 0 0] 33) r2
  have r5 := more (.cells #[.slice none 0 0, .slice none 0 0] 33) r5
  have k15 : (W.alloc (.cells #[.slice none 0 0, .slice none 0 0] 33)).heap[W.heap.size]? = some (.cells #[.slice none 0 0, .slice none 0 0] 33 (0, 0)) := heap_alloc_new W _
  have g15 := hc.size
  have hc := hc.then hn
  go_simp
  try dsimp only
  refine hKq.out _ _ (HS.out _ hc) (fun _ => ?_)
  clear hKq Kq
  (try simp only [Act.put, List.setIfInBounds_toArray, List.set_cons_zero, List.set_cons_succ])
  refine wpAnyH_cast (R1_2_5_15 B W0 HS (W.alloc (.cells #[.slice none 0 0, .slice none 0 0] 33)) b1 a2 c2 b5 W.heap.size r2 r5 k15 g15 hc) ?_ ?_
  · rfl
  · first | (simp only [A1, Act.put, List.setIfInBounds_toArray, List.set_cons_zero, List.set_cons_succ]; done) | (simp only [A1, Act.put, List.setIfInBounds_toArray, List.set_cons_zero, List.set_cons_succ]; rfl)
set_option maxRecDepth 100000 in
set_option maxHeartbeats 4000000 in
theorem R1_2_10 (B : Nat) (W0 : World) (HS : Hid (∀ W', Below W0.heap.size W0 W' → SB B W')) (W : World) (b1 : Nat) (a2 : Option Addr) (c2 : Nat) (b10 : Nat) (r2 : Row (veil [] W) a2 c2 [⟨3, ⟨#[112]⟩, 1⟩, Hp.v0]) (r10 : Row (veil [] W) (some ⟨b10, 0, none⟩) 2 [Hp.v27, Hp.aC]) (hc : Below W0.heap.size W0 W) :
    wpAnyH Tryd.prog .any ops4 (NoPanic (QP B W0)) (SB B) 9 #[true, true, true, true, true, false, false, false, true, true, true, false, false, false, false, false, false] ((((A1 B).put (some 17) (.slice (some ⟨b1, 0, none⟩) 1 1)).put (some 18) (.slice a2 2 c2)).put (some 26) (.slice (some ⟨b10, 0, none⟩) 2 2)) W := by
  unfold ops4 A1
  (try simp only [Act.put, List.setIfInBounds_toArray, List.set_cons_zero, List.set_cons_succ])
  have hSW := HS.out _ hc
  refine wpAnyH_ready (rs := [5, 15]) (by kernel_rfl) (by simp) ?_
  refine AllReadyH.cons (o := _) rfl (fun Kq hKq => ?_) ?_
  · have hn : Below W.heap.size W (W.alloc (.cells #[.int .i64 1, .string ⟨#[]⟩, .int .i64 0, .int .i64 1, .string ⟨#[]⟩, .int .i64 27] 62)) := (Below.refl _ _).new _
    have r5 : Row (veil [] (W.alloc (.cells #[.int .i64 1, .string ⟨#[]⟩, .int .i64 0, .int .i64 1, .string ⟨#[]⟩, .int .i64 27] 62))) (some ⟨W.heap.size, 0, none⟩) 2 [Hp.v0, Hp.v27] := rowV [] W (by simp) [Hp.v0, Hp.v27] (by intro c hc; simp at hc; rcases hc with rfl | rfl <;> exact Hp.fit0 _ _ _ (by decide) (by decide) (by decide)) 2 rfl _ rfl rfl (by omega)
    have r2 := grow [] hn r2
    have r10 := grow [] hn r10
    have hc := hc.then hn
    go_simp
    try dsimp only
    refine hKq.out _ _ (HS.out _ hc) (fun _ => ?_)
    clear hKq Kq
    (try simp only [Act.put, List.setIfInBounds_toArray, List.set_cons_zero, List.set_cons_succ])
    refine wpAnyH_cast (R1_2_5_10 B W0 HS (W.alloc (.cells #[.int .i64 1, .string ⟨#[]⟩, .int .i64 0, .int .i64 1, .string ⟨#[]⟩, .int .i64 27] 62)) b1 a2 c2 W.heap.size b10 r2 r5 r10 hc) ?_ ?_
    · rfl
    · first | (simp only [A1, Act.put, List.setIfInBounds_toArray, List.set_cons_zero, List.set_cons_succ]; done) | (simp only [A1, Act.put, List.setIfInBounds_toArray, List.set_cons_zero, List.set_cons_succ]; rfl)
  refine AllReadyH.cons (o := _) rfl (fun Kq hKq => ?_) AllReadyH.nil
  have hn : Below W.heap.size W (W.alloc (.cells #[.slice none 0 0, .slice none 0 0] 33)) := (Below.refl _ _).new _
  have r2 := more (.cells #[.slice none 0 0, .slice none 0 0] 33) r2
  have r10 := more (.cells #[.slice none 0 0, .slice none 0 0] 33) r10
  have k15 : (W.alloc (.cells #[.slice none 0 0, .slice none 0 0] 33)).heap[W.heap.size]? = some (.cells #[.slice none 0 0, .slice none 0 0] 33 (0, 0)) := heap_alloc_new W _
  have g15 := hc.size
  have hc := hc.then hn
  go_simp
  try dsimp only
  refine hKq.out _ _ (HS.out _ hc) (fun _ => ?_)
  clear hKq Kq
  (try simp only [Act.put, List.setIfInBounds_toArray, List.set_cons_zero, List.set_cons_succ])
  refine wpAnyH_cast (R1_2_10_15 B W0 HS (W.alloc (.cells #[.slice none 0 0, .slice none 0 0] 33)) b1 a2 c2 b10 W.heap.size r2 r10 k15 g15 hc) ?_ ?_
  · rfl
  · first | (simp only [A1, Act.put, List.setIfInBounds_toArray, List.set_cons_zero, List.set_cons_succ]; done) | (simp only [A1, Act.put, List.setIfInBounds_toArray, List.set_cons_zero, List.set_cons_succ]; rfl)
set_option maxRecDepth 100000 in
set_option maxHeartbeats 4000000 in
theorem R1_2_15 (B : Nat) (W0 : World) (HS : Hid (∀ W', Below W0.heap.size W0 W' → SB B W')) (W : World) (b1 : Nat) (a2 : Option Addr) (c2 : Nat) (b15 : Nat) (r2 : Row (veil [b15] W) a2 c2 [⟨3, ⟨#[112]⟩, 1⟩, Hp.v0]) (k15 : W.heap[b15]? = some (.cells #[.slice none 0 0, .slice none 0 0] 33 (0, 0))) (g15 : W0.heap.size ≤ b15) (hc : Below W0.heap.size W0 W) :
    wpAnyH Tryd.prog .any ops4 (NoPanic (QP B W0)) (SB B) 9 #[true, true, true, true, true, false, false, false, true, true, false, false, false, false, false, true, false] ((((A1 B).put (some 8) (.pointer (some ⟨b15, 0, none⟩))).put (some 17) (.slice (some ⟨b1, 0, none⟩) 1 1)).put (some 18) (.slice a2 2 c2)) W := by
  unfold ops4 A1
  (try simp only [Act.put, List.setIfInBounds_toArray, List.set_cons_zero, List.set_cons_succ])
  have hSW := HS.out _ hc
  refine wpAnyH_ready (rs := [5, 10]) (by kernel_rfl) (by simp) ?_
  refine AllReadyH.cons (o := _) rfl (fun Kq hKq => ?_) ?_
  · have hn : Below W.heap.size W (W.alloc (.cells #[.int .i64 1, .string ⟨#[]⟩, .int .i64 0, .int .i64 1, .string ⟨#[]⟩, .int .i64 27] 62)) := (Below.refl _ _).new _
    have r5 : Row (veil [b15] (W.alloc (.cells #[.int .i64 1, .string ⟨#[]⟩, .int .i64 0, .int .i64 1, .string ⟨#[]⟩, .int .i64 27] 62))) (some ⟨W.heap.size, 0, none⟩) 2 [Hp.v0, Hp.v27] := rowV [b15] W (by simp; exact (Array.getElem?_eq_some_iff.1 k15).1) [Hp.v0, Hp.v27] (by intro c hc; simp at hc; rcases hc with rfl | rfl <;> exact Hp.fit0 _ _ _ (by decide) (by decide) (by decide)) 2 rfl _ rfl rfl (by omega)
    have r2 := grow [b15] hn r2
    have k15 := (hn.block b15 (Array.getElem?_eq_some_iff.1 k15).1).trans k15
    have hc := hc.then hn
    go_simp
    try dsimp only
    refine hKq.out _ _ (HS.out _ hc) (fun _ => ?_)
    clear hKq Kq
    (try simp only [Act.put, List.setIfInBounds_toArray, List.set_cons_zero, List.set_cons_succ])
    refine wpAnyH_cast (R1_2_5_15 B W0 HS (W.alloc (.cells #[.int .i64 1, .string ⟨#[]⟩, .int .i64 0, .int .i64 1, .string ⟨#[]⟩, .int .i64 27] 62)) b1 a2 c2 W.heap.size b15 r2 r5 k15 g15 hc) ?_ ?_
    · rfl
    · first | (simp only [A1, Act.put, List.setIfInBounds_toArray, List.set_cons_zero, List.set_cons_succ]; done) | (simp only [A1, Act.put, List.setIfInBounds_toArray, List.set_cons_zero, List.set_cons_succ]; rfl)
  refine AllReadyH.cons (o := _) rfl (fun Kq hKq => ?_) AllReadyH.nil
  have hn : Below W.heap.size W (W.alloc (.cells #[.int .i64 1, .string ⟨#[]⟩, .int .i64 27, .int .i64 3, .string ⟨#[97]⟩, .int .i64 0] 62)) := (Below.refl _ _).new _
  have r10 : Row (veil [b15] (W.alloc (.cells #[.int .i64 1, .string ⟨#[]⟩, .int .i64 27, .int .i64 3, .string ⟨#[97]⟩, .int .i64 0] 62))) (some ⟨W.heap.size, 0, none⟩) 2 [Hp.v27, Hp.aC] := rowV [b15] W (by simp; exact (Array.getElem?_eq_some_iff.1 k15).1) [Hp.v27, Hp.aC] (by intro c hc; simp at hc; rcases hc with rfl | rfl <;> exact Hp.fit0 _ _ _ (by decide) (by decide) (by decide)) 2 rfl _ rfl rfl (by omega)
  have r2 := grow [b15] hn r2
  have k15 := (hn.block b15 (Array.getElem?_eq_some_iff.1 k15).1).trans k15
  have hc := hc.then hn
  go_simp
  try dsimp only
  refine hKq.out _ _ (HS.out _ hc) (fun _ => ?_)
  clear hKq Kq
  (try simp only [Act.put, List.setIfInBounds_toArray, List.set_cons_zero, List.set_cons_succ])
  refine wpAnyH_cast (R1_2_10_15 B W0 HS (W.alloc (.cells #[.int .i64 1, .string ⟨#[]⟩, .int .i64 27, .int .i64 3, .string ⟨#[97]⟩, .int .i64 0] 62)) b1 a2 c2 W.heap.size b15 r2 r10 k15 g15 hc) ?_ ?_
  · rfl
  · first | (simp only [A1, Act.put, List.setIfInBounds_toArray, List.set_cons_zero, List.set_cons_succ]; done) | (simp only [A1, Act.put, List.setIfInBounds_toArray, List.set_cons_zero, List.set_cons_succ]; rfl)
set_option maxRecDepth 100000 in
set_option maxHeartbeats 4000000 in
theorem R1_5_10 (B : Nat) (W0 : World) (HS : Hid (∀ W', Below W0.heap.size W0 W' → SB B W')) (W : World) (b1 : Nat) (b5 : Nat) (b10 : Nat) (r1 : Row (veil [] W) (some ⟨b1, 0, none⟩) 1 [Hp.v0]) (r5 : Row (veil [] W) (some ⟨b5, 0, none⟩) 2 [Hp.v0, Hp.v27]) (r10 : Row (veil [] W) (some ⟨b10, 0, none⟩) 2 [Hp.v27, Hp.aC]) (hc : Below W0.heap.size W0 W) :
    wpAnyH Tryd.prog .any ops4 (NoPanic (QP B W0)) (SB B) 9 #[true, true, false, true, true, true, false, false, true, true, true, false, false, false, false, false, false] ((((A1 B).put (some 17) (.slice (some ⟨b1, 0, none⟩) 1 1)).put (some 21) (.slice (some ⟨b5, 0, none⟩) 2 2)).put (some 26) (.slice (some ⟨b10, 0, none⟩) 2 2)) W := by
  unfold ops4 A1
  (try simp only [Act.put, List.setIfInBounds_toArray, List.set_cons_zero, List.set_cons_succ])
  have hSW := HS.out _ hc
  refine wpAnyH_ready (rs := [2, 15]) (by kernel_rfl) (by simp) ?_
  refine AllReadyH.cons (o := _) rfl (fun Kq hKq => ?_) ?_
  · go_simp
    refine (Hp.fun_is ⟨#[112]⟩ 1 _ _ W (plain r1) 1 rfl (by omega) (by omega) (by decide)).mono ?_
    rintro e V ⟨a2, c2, rfl, r2, hn⟩
    have r2 := new_veil (us := []) r2 (by simp)
    have r5 := grow [] hn r5
    have r10 := grow [] hn r10
    have hc := hc.then hn
    try dsimp only
    refine hKq.out _ _ (HS.out _ hc) (fun _ => ?_)
    clear hKq Kq
    (try simp only [Act.put, List.setIfInBounds_toArray, List.set_cons_zero, List.set_cons_succ])
    refine wpAnyH_cast (R1_2_5_10 B W0 HS V b1 a2 c2 b5 b10 r2 r5 r10 hc) ?_ ?_
    · rfl
    · first | (simp only [A1, Act.put, List.setIfInBounds_toArray, List.set_cons_zero, List.set_cons_succ]; done) | (simp only [A1, Act.put, List.setIfInBounds_toArray, List.set_cons_zero, List.set_cons_succ]; rfl)
  refine AllReadyH.cons (o := _) rfl (fun Kq hKq => ?_) AllReadyH.nil
  have hn : Below W.heap.size W (W.alloc (.cells #[.slice none 0 0, .slice none 0 0] 33)) := (Below.refl _ _).new _
  have r1 := more (.cells #[.slice none 0 0, .slice none 0 0] 33) r1
  have r5 := more (.cells #[.slice none 0 0, .slice none 0 0] 33) r5
  have r10 := more (.cells #[.slice none 0 0, .slice none 0 0] 33) r10
  have k15 : (W.alloc (.cells #[.slice none 0 0, .slice none 0 0] 33)).heap[W.heap.size]? = some (.cells #[.slice none 0 0, .slice none 0 0] 33 (0, 0)) := heap_alloc_new W _
  have g15 := hc.size
  have hc := hc.then hn
  go_simp
  try dsimp only
  refine hKq.out _ _ (HS.out _ hc) (fun _ => ?_)
  clear hKq Kq
  (try simp only [Act.put, List.setIfInBounds_toArray, List.set_cons_zero, List.set_cons_succ])
  refine wpAnyH_cast (R1_5_10_15 B W0 HS (W.alloc (.cells #[.slice none 0 0, .slice none 0 0] 33)) b1 b5 b10 W.heap.size r1 r5 r10 k15 g15 hc) ?_ ?_
  · rfl
  · first | (simp only [A1, Act.put, List.setIfInBounds_toArray, List.set_cons_zero, List.set_cons_succ]; done) | (simp only [A1, Act.put, List.setIfInBounds_toArray, List.set_cons_zero, List.set_cons_succ]; rfl)
set_option maxRecDepth 100000 in
set_option maxHeartbeats 4000000 in
theorem R1_5_15 (B : Nat) (W0 : World) (HS : Hid (∀ W', Below W0.heap.size W0 W' → SB B W')) (W : World) (b1 : Nat) (b5 : Nat) (b15 : Nat) (r1 : Row (veil [b15] W) (some ⟨b1, 0, none⟩) 1 [Hp.v0]) (r5 : Row (veil [b15] W) (some ⟨b5, 0, none⟩) 2 [Hp.v0, Hp.v27]) (k15 : W.heap[b15]? = some (.cells #[.slice none 0 0, .slice none 0 0] 33 (0, 0))) (g15 : W0.heap.size ≤ b15) (hc : Below W0.heap.size W0 W) :
    wpAnyH Tryd.prog .any ops4 (NoPanic (QP B W0)) (SB B) 9 #[true, true, false, true, true, true, false, false, true, true, false, false, false, false, false, true, false] ((((A1 B).put (some 8) (.pointer (some ⟨b15, 0, none⟩))).put (some 17) (.slice (some ⟨b1, 0, none⟩) 1 1)).put (some 21) (.slice (some ⟨b5, 0, none⟩) 2 2)) W := by
  unfold ops4 A1
  (try simp only [Act.put, List.setIfInBounds_toArray, List.set_cons_zero, List.set_cons_succ])
  have hSW := HS.out _ hc
  refine wpAnyH_ready (rs := [2, 10]) (by kernel_rfl) (by simp) ?_
  refine AllReadyH.cons (o := _) rfl (fun Kq hKq => ?_) ?_
  · go_simp
    refine (Hp.fun_is ⟨#[112]⟩ 1 _ _ W (plain r1) 1 rfl (by omega) (by omega) (by decide)).mono ?_
    rintro e V ⟨a2, c2, rfl, r2, hn⟩
    have r2 := new_veil (us := [b15]) r2 (by simp; exact (Array.getElem?_eq_some_iff.1 k15).1)
    have r5 := grow [b15] hn r5
    have k15 := (hn.block b15 (Array.getElem?_eq_some_iff.1 k15).1).trans k15
    have hc := hc.then hn
    try dsimp only
    refine hKq.out _ _ (HS.out _ hc) (fun _ => ?_)
    clear hKq Kq
    (try simp only [Act.put, List.setIfInBounds_toArray, List.set_cons_zero, List.set_cons_succ])
    refine wpAnyH_cast (R1_2_5_15 B W0 HS V b1 a2 c2 b5 b15 r2 r5 k15 g15 hc) ?_ ?_
    · rfl
    · first | (simp only [A1, Act.put, List.setIfInBounds_toArray, List.set_cons_zero, List.set_cons_succ]; done) | (simp only [A1, Act.put, List.setIfInBounds_toArray, List.set_cons_zero, List.set_cons_succ]; rfl)
  refine AllReadyH.cons (o := _) rfl (fun Kq hKq => ?_) AllReadyH.nil
  have hn : Below W.heap.size W (W.alloc (.cells #[.int .i64 1, .string ⟨#[]⟩, .int .i64 27, .int .i64 3, .string ⟨#[97]⟩, .int .i64 0] 62)) := (Below.refl _ _).new _
  have r10 : Row (veil [b15] (W.alloc (.cells #[.int .i64 1, .string ⟨#[]⟩, .int .i64 27, .int .i64 3, .string ⟨#[97]⟩, .int .i64 0] 62))) (some ⟨W.heap.size, 0, none⟩) 2 [Hp.v27, Hp.aC] := rowV [b15] W (by simp; exact (Array.getElem?_eq_some_iff.1 k15).1) [Hp.v27, Hp.aC] (by intro c hc; simp at hc; rcases hc with rfl | rfl <;> exact Hp.fit0 _ _ _ (by decide) (by decide) (by decide)) 2 rfl _ rfl rfl (by omega)
  have r1 := grow [b15] hn r1
  have r5 := grow [b15] hn r5
  have k15 := (hn.block b15 (Array.getElem?_eq_some_iff.1 k15).1).trans k15
  have hc := hc.then hn
  go_simp
  try dsimp only
  refine hKq.out _ _ (HS.out _ hc) (fun _ => ?_)
  clear hKq Kq
  (try simp only [Act.put, List.setIfInBounds_toArray, List.set_cons_zero, List.set_cons_succ])
  refine wpAnyH_cast (R1_5_10_15 B W0 HS (W.alloc (.cells #[.int .i64 1, .string ⟨#[]⟩, .int .i64 27, .int .i64 3, .string ⟨#[97]⟩, .int .i64 0] 62)) b1 b5 W.heap.size b15 r1 r5 r10 k15 g15 hc) ?_ ?_
  · rfl
  · first | (simp only [A1, Act.put, List.setIfInBounds_toArray, List.set_cons_zero, List.set_cons_succ]; done) | (simp only [A1, Act.put, List.setIfInBounds_toArray, List.set_cons_zero, List.set_cons_succ]; rfl)
set_option maxRecDepth 100000 in
set_option maxHeartbeats 4000000 in
theorem R1_10_15 (B : Nat) (W0 : World) (HS : Hid (∀ W', Below W0.heap.size W0 W' → SB B W')) (W : World) (b1 : Nat) (b10 : Nat) (b15 : Nat) (r1 : Row (veil [b15] W) (some ⟨b1, 0, none⟩) 1 [Hp.v0]) (r10 : Row (veil [b15] W) (some ⟨b10, 0, none⟩) 2 [Hp.v27, Hp.aC]) (k15 : W.heap[b15]? = some (.cells #[.slice none 0 0, .slice none 0 0] 33 (0, 0))) (g15 : W0.heap.size ≤ b15) (hc : Below W0.heap.size W0 W) :
    wpAnyH Tryd.prog .any ops4 (NoPanic (QP B W0)) (SB B) 9 #[true, true, false, true, true, false, false, false, true, true, true, false, false, false, false, true, false] ((((A1 B).put (some 8) (.pointer (some ⟨b15, 0, none⟩))).put (some 17) (.slice (some ⟨b1, 0, none⟩) 1 1)).put (some 26) (.slice (some ⟨b10, 0, none⟩) 2 2)) W := by
  unfold ops4 A1
  (try simp only [Act.put, List.setIfInBounds_toArray, List.set_cons_zero, List.set_cons_succ])
  have hSW := HS.out _ hc
  refine wpAnyH_ready (rs := [2, 5]) (by kernel_rfl) (by simp) ?_
  refine AllReadyH.cons (o := _) rfl (fun Kq hKq => ?_) ?_
  · go_simp
    refine (Hp.fun_is ⟨#[112]⟩ 1 _ _ W (plain r1) 1 rfl (by omega) (by omega) (by decide)).mono ?_
    rintro e V ⟨a2, c2, rfl, r2, hn⟩
    have r2 := new_veil (us := [b15]) r2 (by simp; exact (Array.getElem?_eq_some_iff.1 k15).1)
    have r10 := grow [b15] hn r10
    have k15 := (hn.block b15 (Array.getElem?_eq_some_iff.1 k15).1).trans k15
    have hc := hc.then hn
    try dsimp only
    refine hKq.out _ _ (HS.out _ hc) (fun _ => ?_)
    clear hKq Kq
    (try simp only [Act.put, List.setIfInBounds_toArray, List.set_cons_zero, List.set_cons_succ])
    refine wpAnyH_cast (R1_2_10_15 B W0 HS V b1 a2 c2 b10 b15 r2 r10 k15 g15 hc) ?_ ?_
    · rfl
    · first | (simp only [A1, Act.put, List.setIfInBounds_toArray, List.set_cons_zero, List.set_cons_succ]; done) | (simp only [A1, Act.put, List.setIfInBounds_toArray, List.set_cons_zero, List.set_cons_succ]; rfl)
  refine AllReadyH.cons (o := _) rfl (fun Kq hKq => ?_) AllReadyH.nil
  have hn : Below W.heap.size W (W.alloc (.cells #[.int .i64 1, .string ⟨#[]⟩, .int .i64 0, .int .i64 1, .string ⟨#[]⟩, .int .i64 27] 62)) := (Below.refl _ _).new _
  have r5 : Row (veil [b15] (W.alloc (.cells #[.int .i64 1, .string ⟨#[]⟩, .int .i64 0, .int .i64 1, .string ⟨#[]⟩, .int .i64 27] 62))) (some ⟨W.heap.size, 0, none⟩) 2 [Hp.v0, Hp.v27] := rowV [b15] W (by simp; exact (Array.getElem?_eq_some_iff.1 k15).1) [Hp.v0, Hp.v27] (by intro c hc; simp at hc; rcases hc with rfl | rfl <;> exact Hp.fit0 _ _ _ (by decide) (by decide) (by decide)) 2 rfl _ rfl rfl (by omega)
  have r1 := grow [b15] hn r1
  have r10 := grow [b15] hn r10
  have k15 := (hn.block b15 (Array.getElem?_eq_some_iff.1 k15).1).trans k15
  have hc := hc.then hn
  go_simp
  try dsimp only
  refine hKq.out _ _ (HS.out _ hc) (fun _ => ?_)
  clear hKq Kq
  (try simp only [Act.put, List.setIfInBounds_toArray, List.set_cons_zero, List.set_cons_succ])
  refine wpAnyH_cast (R1_5_10_15 B W0 HS (W.alloc (.cells #[.int .i64 1, .string ⟨#[]⟩, .int .i64 0, .int .i64 1, .string ⟨#[]⟩, .int .i64 27] 62)) b1 W.heap.size b10 b15 r1 r5 r10 k15 g15 hc) ?_ ?_
  · rfl
  · first | (simp only [A1, Act.put, List.setIfInBounds_toArray, List.set_cons_zero, List.set_cons_succ]; done) | (simp only [A1, Act.put, List.setIfInBounds_toArray, List.set_cons_zero, List.set_cons_succ]; rfl)
set_option maxRecDepth 100000 in
set_option maxHeartbeats 4000000 in
theorem R5_10_15 (B : Nat) (W0 : World) (HS : Hid (∀ W', Below W0.heap.size W0 W' → SB B W')) (W : World) (b5 : Nat) (b10 : Nat) (b15 : Nat) (r5 : Row (veil [b15] W) (some ⟨b5, 0, none⟩) 2 [Hp.v0, Hp.v27]) (r10 : Row (veil [b15] W) (some ⟨b10, 0, none⟩) 2 [Hp.v27, Hp.aC]) (k15 : W.heap[b15]? = some (.cells #[.slice none 0 0, .slice none 0 0] 33 (0, 0))) (g15 : W0.heap.size ≤ b15) (hc : Below W0.heap.size W0 W) :
    wpAnyH Tryd.prog .any ops4 (NoPanic (QP B W0)) (SB B) 9 #[true, false, false, true, true, true, false, false, true, true, true, false, false, false, false, true, false] ((((A1 B).put (some 8) (.pointer (some ⟨b15, 0, none⟩))).put (some 21) (.slice (some ⟨b5, 0, none⟩) 2 2)).put (some 26) (.slice (some ⟨b10, 0, none⟩) 2 2)) W := by
  unfold ops4 A1
  (try simp only [Act.put, List.setIfInBounds_toArray, List.set_cons_zero, List.set_cons_succ])
  have hSW := HS.out _ hc
  refine wpAnyH_ready (rs := [1]) (by kernel_rfl) (by simp) ?_
  refine AllReadyH.cons (o := _) rfl (fun Kq hKq => ?_) AllReadyH.nil
  have hn : Below W.heap.size W (W.alloc (.cells #[.int .i64 1, .string ⟨#[]⟩, .int .i64 0] 62)) := (Below.refl _ _).new _
  have r1 : Row (veil [b15] (W.alloc (.cells #[.int .i64 1, .string ⟨#[]⟩, .int .i64 0] 62))) (some ⟨W.heap.size, 0, none⟩) 1 [Hp.v0] := rowV [b15] W (by simp; exact (Array.getElem?_eq_some_iff.1 k15).1) [Hp.v0] (by intro c hc; simp at hc; rcases hc with rfl <;> exact Hp.fit0 _ _ _ (by decide) (by decide) (by decide)) 1 rfl _ rfl rfl (by omega)
  have r5 := grow [b15] hn r5
  have r10 := grow [b15] hn r10
  have k15 := (hn.block b15 (Array.getElem?_eq_some_iff.1 k15).1).trans k15
  have hc := hc.then hn
  go_simp
  try dsimp only
  refine hKq.out _ _ (HS.out _ hc) (fun _ => ?_)
  clear hKq Kq
  (try simp only [Act.put, List.setIfInBounds_toArray, List.set_cons_zero, List.set_cons_succ])
  refine wpAnyH_cast (R1_5_10_15 B W0 HS (W.alloc (.cells #[.int .i64 1, .string ⟨#[]⟩, .int .i64 0] 62)) W.heap.size b5 b10 b15 r1 r5 r10 k15 g15 hc) ?_ ?_
  · rfl
  · first | (simp only [A1, Act.put, List.setIfInBounds_toArray, List.set_cons_zero, List.set_cons_succ]; done) | (simp only [A1, Act.put, List.setIfInBounds_toArray, List.set_cons_zero, List.set_cons_succ]; rfl)
set_option maxRecDepth 100000 in
set_option maxHeartbeats 4000000 in
theorem R1_2 (B : Nat) (W0 : World) (HS : Hid (∀ W', Below W0.heap.size W0 W' → SB B W')) (W : World) (b1 : Nat) (a2 : Option Addr) (c2 : Nat) (r2 : Row (veil [] W) a2 c2 [⟨3, ⟨#[112]⟩, 1⟩, Hp.v0]) (hc : Below W0.heap.size W0 W) :
    wpAnyH Tryd.prog .any ops4 (NoPanic (QP B W0)) (SB B) 10 #[true, true, true, true, true, false, false, false, true, true, false, false, false, false, false, false, false] (((A1 B).put (some 17) (.slice (some ⟨b1, 0, none⟩) 1 1)).put (some 18) (.slice a2 2 c2)) W := by
  unfold ops4 A1
  (try simp only [Act.put, List.setIfInBounds_toArray, List.set_cons_zero, List.set_cons_succ])
  have hSW := HS.out _ hc
  refine wpAnyH_ready (rs := [5, 10, 15]) (by kernel_rfl) (by simp) ?_
  refine AllReadyH.cons (o := _) rfl (fun Kq hKq => ?_) ?_
  · have hn : Below W.heap.size W (W.alloc (.cells #[.int .i64 1, .string ⟨#[]⟩, .int .i64 0, .int .i64 1, .string ⟨#[]⟩, .int .i64 27] 62)) := (Below.refl _ _).new _
    have r5 : Row (veil [] (W.alloc (.cells #[.int .i64 1, .string ⟨#[]⟩, .int .i64 0, .int .i64 1, .string ⟨#[]⟩, .int .i64 27] 62))) (some ⟨W.heap.size, 0, none⟩) 2 [Hp.v0, Hp.v27] := rowV [] W (by simp) [Hp.v0, Hp.v27] (by intro c hc; simp at hc; rcases hc with rfl | rfl <;> exact Hp.fit0 _ _ _ (by decide) (by decide) (by decide)) 2 rfl _ rfl rfl (by omega)
    have r2 := grow [] hn r2
    have hc := hc.then hn
    go_simp
    try dsimp only
    refine hKq.out _ _ (HS.out _ hc) (fun _ => ?_)
    clear hKq Kq
    (try simp only [Act.put, List.setIfInBounds_toArray, List.set_cons_zero, List.set_cons_succ])
    refine wpAnyH_cast (R1_2_5 B W0 HS (W.alloc (.cells #[.int .i64 1, .string ⟨#[]⟩, .int .i64 0, .int .i64 1, .string ⟨#[]⟩, .int .i64 27] 62)) b1 a2 c2 W.heap.size r2 r5 hc) ?_ ?_
    · rfl
    · first | (simp only [A1, Act.put, List.setIfInBounds_toArray, List.set_cons_zero, List.set_cons_succ]; done) | (simp only [A1, Act.put, List.setIfInBounds_toArray, List.set_cons_zero, List.set_cons_succ]; rfl)
  refine AllReadyH.cons (o := _) rfl (fun Kq hKq => ?_) ?_
  · have hn : Below W.heap.size W (W.alloc (.cells #[.int .i64 1, .string ⟨#[]⟩, .int .i64 27, .int .i64 3, .string ⟨#[97]⟩, .int .i64 0] 62)) := (Below.refl _ _).new _
    have r10 : Row (veil [] (W.alloc (.cells #[.int .i64 1, .string ⟨#[]⟩, .int .i64 27, .int .i64 3, .string ⟨#[97]⟩, .int .i64 0] 62))) (some ⟨W.heap.size, 0, none⟩) 2 [Hp.v27, Hp.aC] := rowV [] W (by simp) [Hp.v27, Hp.aC] (by intro c hc; simp at hc; rcases hc with rfl | rfl <;> exact Hp.fit0 _ _ _ (by decide) (by decide) (by decide)) 2 rfl _ rfl rfl (by omega)
    have r2 := grow [] hn r2
    have hc := hc.then hn
    go_simp
    try dsimp only
    refine hKq.out _ _ (HS.out _ hc) (fun _ => ?_)
    clear hKq Kq
    (try simp only [Act.put, List.setIfInBounds_toArray, List.set_cons_zero, List.set_cons_succ])
    refine wpAnyH_cast (R1_2_10 B W0 HS (W.alloc (.cells #[.int .i64 1, .string ⟨#[]⟩, .int .i64 27, .int .i64 3, .string ⟨#[97]⟩, .int .i64 0] 62)) b1 a2 c2 W.heap.size r2 r10 hc) ?_ ?_
    · rfl
    · first | (simp only [A1, Act.put, List.setIfInBounds_toArray, List.set_cons_zero, List.set_cons_succ]; done) | (simp only [A1, Act.put, List.setIfInBounds_toArray, List.set_cons_zero, List.set_cons_succ]; rfl)
  refine AllReadyH.cons (o := _) rfl (fun Kq hKq => ?_) AllReadyH.nil
  have hn : Below W.heap.size W (W.alloc (.cells #[.slice none 0 0, .slice none 0 0] 33)) := (Below.refl _ _).new _
  have r2 := more (.cells #[.slice none 0 0, .slice none 0 0] 33) r2
  have k15 : (W.alloc (.cells #[.slice none 0 0, .slice none 0 0] 33)).heap[W.heap.size]? = some (.cells #[.slice none 0 0, .slice none 0 0] 33 (0, 0)) := heap_alloc_new W _
  have g15 := hc.size
  have hc := hc.then hn
  go_simp
  try dsimp only
  refine hKq.out _ _ (HS.out _ hc) (fun _ => ?_)
  clear hKq Kq
  (try simp only [Act.put, List.setIfInBounds_toArray, List.set_cons_zero, List.set_cons_succ])
  refine wpAnyH_cast (R1_2_15 B W0 HS (W.alloc (.cells #[.slice none 0 0, .slice none 0 0] 33)) b1 a2 c2 W.heap.size r2 k15 g15 hc) ?_ ?_
  · rfl
  · first | (simp only [A1, Act.put, List.setIfInBounds_toArray, List.set_cons_zero, List.set_cons_succ]; done) | (simp only [A1, Act.put, List.setIfInBounds_toArray, List.set_cons_zero, List.set_cons_succ]; rfl)
set_option maxRecDepth 100000 in
set_option maxHeartbeats 4000000 in
theorem R1_5 (B : Nat) (W0 : World) (HS : Hid (∀ W', Below W0.heap.size W0 W' → SB B W')) (W : World) (b1 : Nat) (b5 : Nat) (r1 : Row (veil [] W) (some ⟨b1, 0, none⟩) 1 [Hp.v0]) (r5 : Row (veil [] W) (some ⟨b5, 0, none⟩) 2 [Hp.v0, Hp.v27]) (hc : Below W0.heap.size W0 W) :
    wpAnyH Tryd.prog .any ops4 (NoPanic (QP B W0)) (SB B) 10 #[true, true, false, true, true, true, false, false, true, true, false, false, false, false, false, false, false] (((A1 B).put (some 17) (.slice (some ⟨b1, 0, none⟩) 1 1)).put (some 21) (.slice (some ⟨b5, 0, none⟩) 2 2)) W := by
  unfold ops4 A1
  (try simp only [Act.put, List.setIfInBounds_toArray, List.set_cons_zero, List.set_cons_succ])
  have hSW := HS.out _ hc
  refine wpAnyH_ready (rs := [2, 10, 15]) (by kernel_rfl) (by simp) ?_
  refine AllReadyH.cons (o := _) rfl (fun Kq hKq => ?_) ?_
  · go_simp
    refine (Hp.fun_is ⟨#[112]⟩ 1 _ _ W (plain r1) 1 rfl (by omega) (by omega) (by decide)).mono ?_
    rintro e V ⟨a2, c2, rfl, r2, hn⟩
    have r2 := new_veil (us := []) r2 (by simp)
    have r5 := grow [] hn r5
    have hc := hc.then hn
    try dsimp only
    refine hKq.out _ _ (HS.out _ hc) (fun _ => ?_)
    clear hKq Kq
    (try simp only [Act.put, List.setIfInBounds_toArray, List.set_cons_zero, List.set_cons_succ])
    refine wpAnyH_cast (R1_2_5 B W0 HS V b1 a2 c2 b5 r2 r5 hc) ?_ ?_
    · rfl
    · first | (simp only [A1, Act.put, List.setIfInBounds_toArray, List.set_cons_zero, List.set_cons_succ]; done) | (simp only [A1, Act.put, List.setIfInBounds_toArray, List.set_cons_zero, List.set_cons_succ]; rfl)
  refine AllReadyH.cons (o := _) rfl (fun Kq hKq => ?_) ?_
  · have hn : Below W.heap.size W (W.alloc (.cells #[.int .i64 1, .string ⟨#[]⟩, .int .i64 27, .int .i64 3, .string ⟨#[97]⟩, .int .i64 0] 62)) := (Below.refl _ _).new _
    have r10 : Row (veil [] (W.alloc (.cells #[.int .i64 1, .string ⟨#[]⟩, .int .i64 27, .int .i64 3, .string ⟨#[97]⟩, .int .i64 0] 62))) (some ⟨W.heap.size, 0, none⟩) 2 [Hp.v27, Hp.aC] := rowV [] W (by simp) [Hp.v27, Hp.aC] (by intro c hc; simp at hc; rcases hc with rfl | rfl <;> exact Hp.fit0 _ _ _ (by decide) (by decide) (by decide)) 2 rfl _ rfl rfl (by omega)
    have r1 := grow [] hn r1
    have r5 := grow [] hn r5
    have hc := hc.then hn
    go_simp
    try dsimp only
    refine hKq.out _ _ (HS.out _ hc) (fun _ => ?_)
    clear hKq Kq
    (try simp only [Act.put, List.setIfInBounds_toArray, List.set_cons_zero, List.set_cons_succ])
    refine wpAnyH_cast (R1_5_10 B W0 HS (W.alloc (.cells #[.int .i64 1, .string ⟨#[]⟩, .int .i64 27, .int .i64 3, .string ⟨#[97]⟩, .int .i64 0] 62)) b1 b5 W.heap.size r1 r5 r10 hc) ?_ ?_
    · rfl
    · first | (simp only [A1, Act.put, List.setIfInBounds_toArray, List.set_cons_zero, List.set_cons_succ]; done) | (simp only [A1, Act.put, List.setIfInBounds_toArray, List.set_cons_zero, List.set_cons_succ]; rfl)
  refine AllReadyH.cons (o := _) rfl (fun Kq hKq => ?_) AllReadyH.nil
  have hn : Below W.heap.size W (W.alloc (.cells #[.slice none 0 0, .slice none 0 0] 33)) := (Below.refl _ _).new _
  have r1 := more (.cells #[.slice none 0 0, .slice none 0 0] 33) r1
  have r5 := more (.cells #[.slice none 0 0, .slice none 0 0] 33) r5
  have k15 : (W.alloc (.cells #[.slice none 0 0, .slice none 0 0] 33)).heap[W.heap.size]? = some (.cells #[.slice none 0 0, .slice none 0 0] 33 (0, 0)) := heap_alloc_new W _
  have g15 := hc.size
  have hc := hc.then hn
  go_simp
  try dsimp only
  refine hKq.out _ _ (HS.out _ hc) (fun _ => ?_)
  clear hKq Kq
  (try simp only [Act.put, List.setIfInBounds_toArray, List.set_cons_zero, List.set_cons_succ])
  refine wpAnyH_cast (R1_5_15 B W0 HS (W.alloc (.cells #[.slice none 0 0, .slice none 0 0] 33)) b1 b5 W.heap.size r1 r5 k15 g15 hc) ?_ ?_
  · rfl
  · first | (simp only [A1, Act.put, List.setIfInBounds_toArray, List.set_cons_zero, List.set_cons_succ]; done) | (simp only [A1, Act.put, List.setIfInBounds_toArray, List.set_cons_zero, List.set_cons_succ]; rfl)
set_option maxRecDepth 100000 in
set_option maxHeartbeats 4000000 in
theorem R1_10 (B : Nat) (W0 : World) (HS : Hid (∀ W', Below W0.heap.size W0 W' → SB B W')) (W : World) (b1 : Nat) (b10 : Nat) (r1 : Row (veil [] W) (some ⟨b1, 0, none⟩) 1 [Hp.v0]) (r10 : Row (veil [] W) (some ⟨b10, 0, none⟩) 2 [Hp.v27, Hp.aC]) (hc : Below W0.heap.size W0 W) :
    wpAnyH Tryd.prog .any ops4 (NoPanic (QP B W0)) (SB B) 10 #[true, true, false, true, true, false, false, false, true, true, true, false, false, false, false, false, false] (((A1 B).put (some 17) (.slice (some ⟨b1, 0, none⟩) 1 1)).put (some 26) (.slice (some ⟨b10, 0, none⟩) 2 2)) W := by
  unfold ops4 A1
  (try simp only [Act.put, List.setIfInBounds_toArray, List.set_cons_zero, List.set_cons_succ])
  have hSW := HS.out _ hc
  refine wpAnyH_ready (rs := [2, 5, 15]) (by kernel_rfl) (by simp) ?_
  refine AllReadyH.cons (o := _) rfl (fun Kq hKq => ?_) ?_
  · go_simp
    refine (Hp.fun_is ⟨#[112]⟩ 1 _ _ W (plain r1) 1 rfl (by omega) (by omega) (by decide)).mono ?_
    rintro e V ⟨a2, c2, rfl, r2, hn⟩
    have r2 := new_veil (us := []) r2 (by simp)
    have r10 := grow [] hn r10
    have hc := hc.then hn
    try dsimp only
    refine hKq.out _ _ (HS.out _ hc) (fun _ => ?_)
    clear hKq Kq
    (try simp only [Act.put, List.setIfInBounds_toArray, List.set_cons_zero, List.set_cons_succ])
    refine wpAnyH_cast (R1_2_10 B W0 HS V b1 a2 c2 b10 r2 r10 hc) ?_ ?_
    · rfl
    · first | (simp only [A1, Act.put, List.setIfInBounds_toArray, List.set_cons_zero, List.set_cons_succ]; done) | (simp only [A1, Act.put, List.setIfInBounds_toArray, List.set_cons_zero, List.set_cons_succ]; rfl)
  refine AllReadyH.cons (o := _) rfl (fun Kq hKq => ?_) ?_
  · have hn : Below W.heap.size W (W.alloc (.cells #[.int .i64 1, .string ⟨#[]⟩, .int .i64 0, .int .i64 1, .string ⟨#[]⟩, .int .i64 27] 62)) := (Below.refl _ _).new _
    have r5 : Row (veil [] (W.alloc (.cells #[.int .i64 1, .string ⟨#[]⟩, .int .i64 0, .int .i64 1, .string ⟨#[]⟩, .int .i64 27] 62))) (some ⟨W.heap.size, 0, none⟩) 2 [Hp.v0, Hp.v27] := rowV [] W (by simp) [Hp.v0, Hp.v27] (by intro c hc; simp at hc; rcases hc with rfl | rfl <;> exact Hp.fit0 _ _ _ (by decide) (by decide) (by decide)) 2 rfl _ rfl rfl (by omega)
    have r1 := grow [] hn r1
    have r10 := grow [] hn r10
    have hc := hc.then hn
    go_simp
    try dsimp only
    refine hKq.out _ _ (HS.out _ hc) (fun _ => ?_)
    clear hKq Kq
    (try simp only [Act.put, List.setIfInBounds_toArray, List.set_cons_zero, List.set_cons_succ])
    refine wpAnyH_cast (R1_5_10 B W0 HS (W.alloc (.cells #[.int .i64 1, .string ⟨#[]⟩, .int .i64 0, .int .i64 1, .string ⟨#[]⟩, .int .i64 27] 62)) b1 W.heap.size b10 r1 r5 r10 hc) ?_ ?_
    · rfl
    · first | (simp only [A1, Act.put, List.setIfInBounds_toArray, List.set_cons_zero, List.set_cons_succ]; done) | (simp only [A1, Act.put, List.setIfInBounds_toArray, List.set_cons_zero, List.set_cons_succ]; rfl)
  refine AllReadyH.cons (o := _) rfl (fun Kq hKq => ?_) AllReadyH.nil
  have hn : Below W.heap.size W (W.alloc (.cells #[.slice none 0 0, .slice none 0 0] 33)) := (Below.refl _ _).new _
  have r1 := more (.cells #[.slice none 0 0, .slice none 0 0] 33) r1
  have r10 := more (.cells #[.slice none 0 0, .slice none 0 0] 33) r10
  have k15 : (W.alloc (.cells #[.slice none 0 0, .slice none 0 0] 33)).heap[W.heap.size]? = some (.cells #[.slice none 0 0, .slice none 0 0] 33 (0, 0)) := heap_alloc_new W _
  have g15 := hc.size
  have hc := hc.then hn
  go_simp
  try dsimp only
  refine hKq.out _ _ (HS.out _ hc) (fun _ => ?_)
  clear hKq Kq
  (try simp only [Act.put, List.setIfInBounds_toArray, List.set_cons_zero, List.set_cons_succ])
  refine wpAnyH_cast (R1_10_15 B W0 HS (W.alloc (.cells #[.slice none 0 0, .slice none 0 0] 33)) b1 b10 W.heap.size r1 r10 k15 g15 hc) ?_ ?_
  · rfl
  · first | (simp only [A1, Act.put, List.setIfInBounds_toArray, List.set_cons_zero, List.set_cons_succ]; done) | (simp only [A1, Act.put, List.setIfInBounds_toArray, List.set_cons_zero, List.set_cons_succ]; rfl)
set_option maxRecDepth 100000 in
set_option maxHeartbeats 4000000 in
theorem R1_15 (B : Nat) (W0 : World) (HS : Hid (∀ W', Below W0.heap.size W0 W' → SB B W')) (W : World) (b1 : Nat) (b15 : Nat) (r1 : Row (veil [b15] W) (some ⟨b1, 0, none⟩) 1 [Hp.v0]) (k15 : W.heap[b15]? = some (.cells #[.slice none 0 0, .slice none 0 0] 33 (0, 0))) (g15 : W0.heap.size ≤ b15) (hc : Below W0.heap.size W0 W) :
    wpAnyH Tryd.prog .any ops4 (NoPanic (QP B W0)) (SB B) 10 #[true, true, false, true, true, false, false, false, true, true, false, false, false, false, false, true, false] (((A1 B).put (some 8) (.pointer (some ⟨b15, 0, none⟩))).put (some 17) (.slice (some ⟨b1, 0, none⟩) 1 1)) W := by
  unfold ops4 A1
  (try simp only [Act.put, List.setIfInBounds_toArray, List.set_cons_zero, List.set_cons_succ])
  have hSW := HS.out _ hc
  refine wpAnyH_ready (rs := [2, 5, 10]) (by kernel_rfl) (by simp) ?_
  refine AllReadyH.cons (o := _) rfl (fun Kq hKq => ?_) ?_
  · go_simp
    refine (Hp.fun_is ⟨#[112]⟩ 1 _ _ W (plain r1) 1 rfl (by omega) (by omega) (by decide)).mono ?_
    rintro e V ⟨a2, c2, rfl, r2, hn⟩
    have r2 := new_veil (us := [b15]) r2 (by simp; exact (Array.getElem?_eq_some_iff.1 k15).1)
    have k15 := (hn.block b15 (Array.getElem?_eq_some_iff.1 k15).1).trans k15
    have hc := hc.then hn
    try dsimp only
    refine hKq.out _ _ (HS.out _ hc) (fun _ => ?_)
    clear hKq Kq
    (try simp only [Act.put, List.setIfInBounds_toArray, List.set_cons_zero, List.set_cons_succ])
    refine wpAnyH_cast (R1_2_15 B W0 HS V b1 a2 c2 b15 r2 k15 g15 hc) ?_ ?_
    · rfl
    · first | (simp only [A1, Act.put, List.setIfInBounds_toArray, List.set_cons_zero, List.set_cons_succ]; done) | (simp only [A1, Act.put, List.setIfInBounds_toArray, List.set_cons_zero, List.set_cons_succ]; rfl)
  refine AllReadyH.cons (o := _) rfl (fun Kq hKq => ?_) ?_
  · have hn : Below W.heap.size W (W.alloc (.cells #[.int .i64 1, .string ⟨#[]⟩, .int .i64 0, .int .i64 1, .string ⟨#[]⟩, .int .i64 27] 62)) := (Below.refl _ _).new _
    have r5 : Row (veil [b15] (W.alloc (.cells #[.int .i64 1, .string ⟨#[]⟩, .int .i64 0, .int .i64 1, .string ⟨#[]⟩, .int .i64 27] 62))) (some ⟨W.heap.size, 0, none⟩) 2 [Hp.v0, Hp.v27] := rowV [b15] W (by simp; exact (Array.getElem?_eq_some_iff.1 k15).1) [Hp.v0, Hp.v27] (by intro c hc; simp at hc; rcases hc with rfl | rfl <;> exact Hp.fit0 _ _ _ (by decide) (by decide) (by decide)) 2 rfl _ rfl rfl (by omega)
    have r1 := grow [b15] hn r1
    have k15 := (hn.block b15 (Array.getElem?_eq_some_iff.1 k15).1).trans k15
    have hc := hc.then hn
    go_simp
    try dsimp only
    refine hKq.out _ _ (HS.out _ hc) (fun _ => ?_)
    clear hKq Kq
    (try simp only [Act.put, List.setIfInBounds_toArray, List.set_cons_zero, List.set_cons_succ])
    refine wpAnyH_cast (R1_5_15 B W0 HS (W.alloc (.cells #[.int .i64 1, .string ⟨#[]⟩, .int .i64 0, .int .i64 1, .string ⟨#[]⟩, .int .i64 27] 62)) b1 W.heap.size b15 r1 r5 k15 g15 hc) ?_ ?_
    · rfl
    · first | (simp only [A1, Act.put, List.setIfInBounds_toArray, List.set_cons_zero, List.set_cons_succ]; done) | (simp only [A1, Act.put, List.setIfInBounds_toArray, List.set_cons_zero, List.set_cons_succ]; rfl)
  refine AllReadyH.cons (o := _) rfl (fun Kq hKq => ?_) AllReadyH.nil
  have hn : Below W.heap.size W (W.alloc (.cells #[.int .i64 1, .string ⟨#[]⟩, .int .i64 27, .int .i64 3, .string ⟨#[97]⟩, .int .i64 0] 62)) := (Below.refl _ _).new _
  have r10 : Row (veil [b15] (W.alloc (.cells #[.int .i64 1, .string ⟨#[]⟩, .int .i64 27, .int .i64 3, .string ⟨#[97]⟩, .int .i64 0] 62))) (some ⟨W.heap.size, 0, none⟩) 2 [Hp.v27, Hp.aC] := rowV [b15] W (by simp; exact (Array.getElem?_eq_some_iff.1 k15).1) [Hp.v27, Hp.aC] (by intro c hc; simp at hc; rcases hc with rfl | rfl <;> exact Hp.fit0 _ _ _ (by decide) (by decide) (by decide)) 2 rfl _ rfl rfl (by omega)
  have r1 := grow [b15] hn r1
  have k15 := (hn.block b15 (Array.getElem?_eq_some_iff.1 k15).1).trans k15
  have hc := hc.then hn
  go_simp
  try dsimp only
  refine hKq.out _ _ (HS.out _ hc) (fun _ => ?_)
  clear hKq Kq
  (try simp only [Act.put, List.setIfInBounds_toArray, List.set_cons_zero, List.set_cons_succ])
  refine wpAnyH_cast (R1_10_15 B W0 HS (W.alloc (.cells #[.int .i64 1, .string ⟨#[]⟩, .int .i64 27, .int .i64 3, .string ⟨#[97]⟩, .int .i64 0] 62)) b1 W.heap.size b15 r1 r10 k15 g15 hc) ?_ ?_
  · rfl
  · first | (simp only [A1, Act.put, List.setIfInBounds_toArray, List.set_cons_zero, List.set_cons_succ]; done) | (simp only [A1, Act.put, List.setIfInBounds_toArray, List.set_cons_zero, List.set_cons_succ]; rfl)
set_option maxRecDepth 100000 in
set_option maxHeartbeats 4000000 in
theorem R5_10 (B : Nat) (W0 : World) (HS : Hid (∀ W', Below W0.heap.size W0 W' → SB B W')) (W : World) (b5 : Nat) (b10 : Nat) (r5 : Row (veil [] W) (some ⟨b5, 0, none⟩) 2 [Hp.v0, Hp.v27]) (r10 : Row (veil [] W) (some ⟨b10, 0, none⟩) 2 [Hp.v27, Hp.aC]) (hc : Below W0.heap.size W0 W) :
    wpAnyH Tryd.prog .any ops4 (NoPanic (QP B W0)) (SB B) 10 #[true, false, false, true, true, true, false, false, true, true, true, false, false, false, false, false, false] (((A1 B).put (some 21) (.slice (some ⟨b5, 0, none⟩) 2 2)).put (some 26) (.slice (some ⟨b10, 0, none⟩) 2 2)) W := by
  unfold ops4 A1
  (try simp only [Act.put, List.setIfInBounds_toArray, List.set_cons_zero, List.set_cons_succ])
  have hSW := HS.out _ hc
  refine wpAnyH_ready (rs := [1, 15]) (by kernel_rfl) (by simp) ?_
  refine AllReadyH.cons (o := _) rfl (fun Kq hKq => ?_) ?_
  · have hn : Below W.heap.size W (W.alloc (.cells #[.int .i64 1, .string ⟨#[]⟩, .int .i64 0] 62)) := (Below.refl _ _).new _
    have r1 : Row (veil [] (W.alloc (.cells #[.int .i64 1, .string ⟨#[]⟩, .int .i64 0] 62))) (some ⟨W.heap.size, 0, none⟩) 1 [Hp.v0] := rowV [] W (by simp) [Hp.v0] (by intro c hc; simp at hc; rcases hc with rfl <;> exact Hp.fit0 _ _ _ (by decide) (by decide) (by decide)) 1 rfl _ rfl rfl (by omega)
    have r5 := grow [] hn r5
    have r10 := grow [] hn r10
    have hc := hc.then hn
    go_simp
    try dsimp only
    refine hKq.out _ _ (HS.out _ hc) (fun _ => ?_)
    clear hKq Kq
    (try simp only [Act.put, List.setIfInBounds_toArray, List.set_cons_zero, List.set_cons_succ])
    refine wpAnyH_cast (R1_5_10 B W0 HS (W.alloc (.cells #[.int .i64 1, .string ⟨#[]⟩, .int .i64 0] 62)) W.heap.size b5 b10 r1 r5 r10 hc) ?_ ?_
    · rfl
    · first | (simp only [A1, Act.put, List.setIfInBounds_toArray, List.set_cons_zero, List.set_cons_succ]; done) | (simp only [A1, Act.put, List.setIfInBounds_toArray, List.set_cons_zero, List.set_cons_succ]; rfl)
  refine AllReadyH.cons (o := _) rfl (fun Kq hKq => ?_) AllReadyH.nil
  have hn : Below W.heap.size W (W.alloc (.cells #[.slice none 0 0, .slice none 0 0] 33)) := (Below.refl _ _).new _
  have r5 := more (.cells #[.slice none 0 0, .slice none 0 0] 33) r5
  have r10 := more (.cells #[.slice none 0 0, .slice none 0 0] 33) r10
  have k15 : (W.alloc (.cells #[.slice none 0 0, .slice none 0 0] 33)).heap[W.heap.size]? = some (.cells #[.slice none 0 0, .slice none 0 0] 33 (0, 0)) := heap_alloc_new W _
  have g15 := hc.size
  have hc := hc.then hn
  go_simp
  try dsimp only
  refine hKq.out _ _ (HS.out _ hc) (fun _ => ?_)
  clear hKq Kq
  (try simp only [Act.put, List.setIfInBounds_toArray, List.set_cons_zero, List.set_cons_succ])
  refine wpAnyH_cast (R5_10_15 B W0 HS (W.alloc (.cells #[.slice none 0 0, .slice none 0 0] 33)) b5 b10 W.heap.size r5 r10 k15 g15 hc) ?_ ?_
  · rfl
  · first | (simp only [A1, Act.put, List.setIfInBounds_toArray, List.set_cons_zero, List.set_cons_succ]; done) | (simp only [A1, Act.put, List.setIfInBounds_toArray, List.set_cons_zero, List.set_cons_succ]; rfl)
set_option maxRecDepth 100000 in
set_option maxHeartbeats 4000000 in
theorem R5_15 (B : Nat) (W0 : World) (HS : Hid (∀ W', Below W0.heap.size W0 W' → SB B W')) (W : World) (b5 : Nat) (b15 : Nat) (r5 : Row (veil [b15] W) (some ⟨b5, 0, none⟩) 2 [Hp.v0, Hp.v27]) (k15 : W.heap[b15]? = some (.cells #[.slice none 0 0, .slice none 0 0] 33 (0, 0))) (g15 : W0.heap.size ≤ b15) (hc : Below W0.heap.size W0 W) :
    wpAnyH Tryd.prog .any ops4 (NoPanic (QP B W0)) (SB B) 10 #[true, false, false, true, true, true, false, false, true, true, false, false, false, false, false, true, false] (((A1 B).put (some 8) (.pointer (some ⟨b15, 0, none⟩))).put (some 21) (.slice (some ⟨b5, 0, none⟩) 2 2)) W := by
  unfold ops4 A1
  (try simp only [Act.put, List.setIfInBounds_toArray, List.set_cons_zero, List.set_cons_succ])
  have hSW := HS.out _ hc
  refine wpAnyH_ready (rs := [1, 10]) (by kernel_rfl) (by simp) ?_
  refine AllReadyH.cons (o := _) rfl (fun Kq hKq => ?_) ?_
  · have hn : Below W.heap.size W (W.alloc (.cells #[.int .i64 1, .string ⟨#[]⟩, .int .i64 0] 62)) := (Below.refl _ _).new _
    have r1 : Row (veil [b15] (W.alloc (.cells #[.int .i64 1, .string ⟨#[]⟩, .int .i64 0] 62))) (some ⟨W.heap.size, 0, none⟩) 1 [Hp.v0] := rowV [b15] W (by simp; exact (Array.getElem?_eq_some_iff.1 k15).1) [Hp.v0] (by intro c hc; simp at hc; rcases hc with rfl <;> exact Hp.fit0 _ _ _ (by decide) (by decide) (by decide)) 1 rfl _ rfl rfl (by omega)
    have r5 := grow [b15] hn r5
    have k15 := (hn.block b15 (Array.getElem?_eq_some_iff.1 k15).1).trans k15
    have hc := hc.then hn
    go_simp
    try dsimp only
    refine hKq.out _ _ (HS.out _ hc) (fun _ => ?_)
    clear hKq Kq
    (try simp only [Act.put, List.setIfInBounds_toArray, List.set_cons_zero, List.set_cons_succ])
    refine wpAnyH_cast (R1_5_15 B W0 HS (W.alloc (.cells #[.int .i64 1, .string ⟨#[]⟩, .int .i64 0] 62)) W.heap.size b5 b15 r1 r5 k15 g15 hc) ?_ ?_
    · rfl
    · first | (simp only [A1, Act.put, List.setIfInBounds_toArray, List.set_cons_zero, List.set_cons_succ]; done) | (simp only [A1, Act.put, List.setIfInBounds_toArray, List.set_cons_zero, List.set_cons_succ]; rfl)
  refine AllReadyH.cons (o := _) rfl (fun Kq hKq => ?_) AllReadyH.nil
  have hn : Below W.heap.size W (W.alloc (.cells #[.int .i64 1, .string ⟨#[]⟩, .int .i64 27, .int .i64 3, .string ⟨#[97]⟩, .int .i64 0] 62)) := (Below.refl _ _).new _
  have r10 : Row (veil [b15] (W.alloc (.cells #[.int .i64 1, .string ⟨#[]⟩, .int .i64 27, .int .i64 3, .string ⟨#[97]⟩, .int .i64 0] 62))) (some ⟨W.heap.size, 0, none⟩) 2 [Hp.v27, Hp.aC] := rowV [b15] W (by simp; exact (Array.getElem?_eq_some_iff.1 k15).1) [Hp.v27, Hp.aC] (by intro c hc; simp at hc; rcases hc with rfl | rfl <;> exact Hp.fit0 _ _ _ (by decide) (by decide) (by decide)) 2 rfl _ rfl rfl (by omega)
  have r5 := grow [b15] hn r5
  have k15 := (hn.block b15 (Array.getElem?_eq_some_iff.1 k15).1).trans k15
  have hc := hc.then hn
  go_simp
  try dsimp only
  refine hKq.out _ _ (HS.out _ hc) (fun _ => ?_)
  clear hKq Kq
  (try simp only [Act.put, List.setIfInBounds_toArray, List.set_cons_zero, List.set_cons_succ])
  refine wpAnyH_cast (R5_10_15 B W0 HS (W.alloc (.cells #[.int .i64 1, .string ⟨#[]⟩, .int .i64 27, .int .i64 3, .string ⟨#[97]⟩, .int .i64 0] 62)) b5 W.heap.size b15 r5 r10 k15 g15 hc) ?_ ?_
  · rfl
  · first | (simp only [A1, Act.put, List.setIfInBounds_toArray, List.set_cons_zero, List.set_cons_succ]; done) | (simp only [A1, Act.put, List.setIfInBounds_toArray, List.set_cons_zero, List.set_cons_succ]; rfl)
set_option maxRecDepth 100000 in
set_option maxHeartbeats 4000000 in
theorem R10_15 (B : Nat) (W0 : World) (HS : Hid (∀ W', Below W0.heap.size W0 W' → SB B W')) (W : World) (b10 : Nat) (b15 : Nat) (r10 : Row (veil [b15] W) (some ⟨b10, 0, none⟩) 2 [Hp.v27, Hp.aC]) (k15 : W.heap[b15]? = some (.cells #[.slice none 0 0, .slice none 0 0] 33 (0, 0))) (g15 : W0.heap.size ≤ b15) (hc : Below W0.heap.size W0 W) :
    wpAnyH Tryd.prog .any ops4 (NoPanic (QP B W0)) (SB B) 10 #[true, false, false, true, true, false, false, false, true, true, true, false, false, false, false, true, false] (((A1 B).put (some 8) (.pointer (some ⟨b15, 0, none⟩))).put (some 26) (.slice (some ⟨b10, 0, none⟩) 2 2)) W := by
  unfold ops4 A1
  (try simp only [Act.put, List.setIfInBounds_toArray, List.set_cons_zero, List.set_cons_succ])
  have hSW := HS.out _ hc
  refine wpAnyH_ready (rs := [1, 5]) (by kernel_rfl) (by simp) ?_
  refine AllReadyH.cons (o := _) rfl (fun Kq hKq => ?_) ?_
  · have hn : Below W.heap.size W (W.alloc (.cells #[.int .i64 1, .string ⟨#[]⟩, .int .i64 0] 62)) := (Below.refl _ _).new _
    have r1 : Row (veil [b15] (W.alloc (.cells #[.int .i64 1, .string ⟨#[]⟩, .int .i64 0] 62))) (some ⟨W.heap.size, 0, none⟩) 1 [Hp.v0] := rowV [b15] W (by simp; exact (Array.getElem?_eq_some_iff.1 k15).1) [Hp.v0] (by intro c hc; simp at hc; rcases hc with rfl <;> exact Hp.fit0 _ _ _ (by decide) (by decide) (by decide)) 1 rfl _ rfl rfl (by omega)
    have r10 := grow [b15] hn r10
    have k15 := (hn.block b15 (Array.getElem?_eq_some_iff.1 k15).1).trans k15
    have hc := hc.then hn
    go_simp
    try dsimp only
    refine hKq.out _ _ (HS.out _ hc) (fun _ => ?_)
    clear hKq Kq
    (try simp only [Act.put, List.setIfInBounds_toArray, List.set_cons_zero, List.set_cons_succ])
    refine wpAnyH_cast (R1_10_15 B W0 HS (W.alloc (.cells #[.int .i64 1, .string ⟨#[]⟩, .int .i64 0] 62)) W.heap.size b10 b15 r1 r10 k15 g15 hc) ?_ ?_
    · rfl
    · first | (simp only [A1, Act.put, List.setIfInBounds_toArray, List.set_cons_zero, List.set_cons_succ]; done) | (simp only [A1, Act.put, List.setIfInBounds_toArray, List.set_cons_zero, List.set_cons_succ]; rfl)
  refine AllReadyH.cons (o := _) rfl (fun Kq hKq => ?_) AllReadyH.nil
  have hn : Below W.heap.size W (W.alloc (.cells #[.int .i64 1, .string ⟨#[]⟩, .int .i64 0, .int .i64 1, .string ⟨#[]⟩, .int .i64 27] 62)) := (Below.refl _ _).new _
  have r5 : Row (veil [b15] (W.alloc (.cells #[.int .i64 1, .string ⟨#[]⟩, .int .i64 0, .int .i64 1, .string ⟨#[]⟩, .int .i64 27] 62))) (some ⟨W.heap.size, 0, none⟩) 2 [Hp.v0, Hp.v27] := rowV [b15] W (by simp; exact (Array.getElem?_eq_some_iff.1 k15).1) [Hp.v0, Hp.v27] (by intro c hc; simp at hc; rcases hc with rfl | rfl <;> exact Hp.fit0 _ _ _ (by decide) (by decide) (by decide)) 2 rfl _ rfl rfl (by omega)
  have r10 := grow [b15] hn r10
  have k15 := (hn.block b15 (Array.getElem?_eq_some_iff.1 k15).1).trans k15
  have hc := hc.then hn
  go_simp
  try dsimp only
  refine hKq.out _ _ (HS.out _ hc) (fun _ => ?_)
  clear hKq Kq
  (try simp only [Act.put, List.setIfInBounds_toArray, List.set_cons_zero, List.set_cons_succ])
  refine wpAnyH_cast (R5_10_15 B W0 HS (W.alloc (.cells #[.int .i64 1, .string ⟨#[]⟩, .int .i64 0, .int .i64 1, .string ⟨#[]⟩, .int .i64 27] 62)) W.heap.size b10 b15 r5 r10 k15 g15 hc) ?_ ?_
  · rfl
  · first | (simp only [A1, Act.put, List.setIfInBounds_toArray, List.set_cons_zero, List.set_cons_succ]; done) | (simp only [A1, Act.put, List.setIfInBounds_toArray, List.set_cons_zero, List.set_cons_succ]; rfl)
set_option maxRecDepth 100000 in
set_option maxHeartbeats 4000000 in
theorem R1 (B : Nat) (W0 : World) (HS : Hid (∀ W', Below W0.heap.size W0 W' → SB B W')) (W : World) (b1 : Nat) (r1 : Row (veil [] W) (some ⟨b1, 0, none⟩) 1 [Hp.v0]) (hc : Below W0.heap.size W0 W) :
    wpAnyH Tryd.prog .any ops4 (NoPanic (QP B W0)) (SB B) 11 #[true, true, false, true, true, false, false, false, true, true, false, false, false, false, false, false, false] ((A1 B).put (some 17) (.slice (some ⟨b1, 0, none⟩) 1 1)) W := by
  unfold ops4 A1
  (try simp only [Act.put, List.setIfInBounds_toArray, List.set_cons_zero, List.set_cons_succ])
  have hSW := HS.out _ hc
  refine wpAnyH_ready (rs := [2, 5, 10, 15]) (by kernel_rfl) (by simp) ?_
  refine AllReadyH.cons (o := _) rfl (fun Kq hKq => ?_) ?_
  · go_simp
    refine (Hp.fun_is ⟨#[112]⟩ 1 _ _ W (plain r1) 1 rfl (by omega) (by omega) (by decide)).mono ?_
    rintro e V ⟨a2, c2, rfl, r2, hn⟩
    have r2 := new_veil (us := []) r2 (by simp)
    have hc := hc.then hn
    try dsimp only
    refine hKq.out _ _ (HS.out _ hc) (fun _ => ?_)
    clear hKq Kq
    (try simp only [Act.put, List.setIfInBounds_toArray, List.set_cons_zero, List.set_cons_succ])
    refine wpAnyH_cast (R1_2 B W0 HS V b1 a2 c2 r2 hc) ?_ ?_
    · rfl
    · first | (simp only [A1, Act.put, List.setIfInBounds_toArray, List.set_cons_zero, List.set_cons_succ]; done) | (simp only [A1, Act.put, List.setIfInBounds_toArray, List.set_cons_zero, List.set_cons_succ]; rfl)
  refine AllReadyH.cons (o := _) rfl (fun Kq hKq => ?_) ?_
  · have hn : Below W.heap.size W (W.alloc (.cells #[.int .i64 1, .string ⟨#[]⟩, .int .i64 0, .int .i64 1, .string ⟨#[]⟩, .int .i64 27] 62)) := (Below.refl _ _).new _
    have r5 : Row (veil [] (W.alloc (.cells #[.int .i64 1, .string ⟨#[]⟩, .int .i64 0, .int .i64 1, .string ⟨#[]⟩, .int .i64 27] 62))) (some ⟨W.heap.size, 0, none⟩) 2 [Hp.v0, Hp.v27] := rowV [] W (by simp) [Hp.v0, Hp.v27] (by intro c hc; simp at hc; rcases hc with rfl | rfl <;> exact Hp.fit0 _ _ _ (by decide) (by decide) (by decide)) 2 rfl _ rfl rfl (by omega)
    have r1 := grow [] hn r1
    have hc := hc.then hn
    go_simp
    try dsimp only
    refine hKq.out _ _ (HS.out _ hc) (fun _ => ?_)
    clear hKq Kq
    (try simp only [Act.put, List.setIfInBounds_toArray, List.set_cons_zero, List.set_cons_succ])
    refine wpAnyH_cast (R1_5 B W0 HS (W.alloc (.cells #[.int .i64 1, .string ⟨#[]⟩, .int .i64 0, .int .i64 1, .string ⟨#[]⟩, .int .i64 27] 62)) b1 W.heap.size r1 r5 hc) ?_ ?_
    · rfl
    · first | (simp only [A1, Act.put, List.setIfInBounds_toArray, List.set_cons_zero, List.set_cons_succ]; done) | (simp only [A1, Act.put, List.setIfInBounds_toArray, List.set_cons_zero, List.set_cons_succ]; rfl)
  refine AllReadyH.cons (o := _) rfl (fun Kq hKq => ?_) ?_
  · have hn : Below W.heap.size W (W.alloc (.cells #[.int .i64 1, .string ⟨#[]⟩, .int .i64 27, .int .i64 3, .string ⟨#[97]⟩, .int .i64 0] 62)) := (Below.refl _ _).new _
    have r10 : Row (veil [] (W.alloc (.cells #[.int .i64 1, .string ⟨#[]⟩, .int .i64 27, .int .i64 3, .string ⟨#[97]⟩, .int .i64 0] 62))) (some ⟨W.heap.size, 0, none⟩) 2 [Hp.v27, Hp.aC] := rowV [] W (by simp) [Hp.v27, Hp.aC] (by intro c hc; simp at hc; rcases hc with rfl | rfl <;> exact Hp.fit0 _ _ _ (by decide) (by decide) (by decide)) 2 rfl _ rfl rfl (by omega)
    have r1 := grow [] hn r1
    have hc := hc.then hn
    go_simp
    try dsimp only
    refine hKq.out _ _ (HS.out _ hc) (fun _ => ?_)
    clear hKq Kq
    (try simp only [Act.put, List.setIfInBounds_toArray, List.set_cons_zero, List.set_cons_succ])
    refine wpAnyH_cast (R1_10 B W0 HS (W.alloc (.cells #[.int .i64 1, .string ⟨#[]⟩, .int .i64 27, .int .i64 3, .string ⟨#[97]⟩, .int .i64 0] 62)) b1 W.heap.size r1 r10 hc) ?_ ?_
    · rfl
    · first | (simp only [A1, Act.put, List.setIfInBounds_toArray, List.set_cons_zero, List.set_cons_succ]; done) | (simp only [A1, Act.put, List.setIfInBounds_toArray, List.set_cons_zero, List.set_cons_succ]; rfl)
  refine AllReadyH.cons (o := _) rfl (fun Kq hKq => ?_) AllReadyH.nil
  have hn : Below W.heap.size W (W.alloc (.cells #[.slice none 0 0, .slice none 0 0] 33)) := (Below.refl _ _).new _
  have r1 := more (.cells #[.slice none 0 0, .slice none 0 0] 33) r1
  have k15 : (W.alloc (.cells #[.slice none 0 0, .slice none 0 0] 33)).heap[W.heap.size]? = some (.cells #[.slice none 0 0, .slice none 0 0] 33 (0, 0)) := heap_alloc_new W _
  have g15 := hc.size
  have hc := hc.then hn
  go_simp
  try dsimp only
  refine hKq.out _ _ (HS.out _ hc) (fun _ => ?_)
  clear hKq Kq
  (try simp only [Act.put, List.setIfInBounds_toArray, List.set_cons_zero, List.set_cons_succ])
  refine wpAnyH_cast (R1_15 B W0 HS (W.alloc (.cells #[.slice none 0 0, .slice none 0 0] 33)) b1 W.heap.size r1 k15 g15 hc) ?_ ?_
  · rfl
  · first | (simp only [A1, Act.put, List.setIfInBounds_toArray, List.set_cons_zero, List.set_cons_succ]; done) | (simp only [A1, Act.put, List.setIfInBounds_toArray, List.set_cons_zero, List.set_cons_succ]; rfl)
set_option maxRecDepth 100000 in
set_option maxHeartbeats 4000000 in
theorem R5 (B : Nat) (W0 : World) (HS : Hid (∀ W', Below W0.heap.size W0 W' → SB B W')) (W : World) (b5 : Nat) (r5 : Row (veil [] W) (some ⟨b5, 0, none⟩) 2 [Hp.v0, Hp.v27]) (hc : Below W0.heap.size W0 W) :
    wpAnyH Tryd.prog .any ops4 (NoPanic (QP B W0)) (SB B) 11 #[true, false, false, true, true, true, false, false, true, true, false, false, false, false, false, false, false] ((A1 B).put (some 21) (.slice (some ⟨b5, 0, none⟩) 2 2)) W := by
  unfold ops4 A1
  (try simp only [Act.put, List.setIfInBounds_toArray, List.set_cons_zero, List.set_cons_succ])
  have hSW := HS.out _ hc
  refine wpAnyH_ready (rs := [1, 10, 15]) (by kernel_rfl) (by simp) ?_
  refine AllReadyH.cons (o := _) rfl (fun Kq hKq => ?_) ?_
  · have hn : Below W.heap.size W (W.alloc (.cells #[.int .i64 1, .string ⟨#[]⟩, .int .i64 0] 62)) := (Below.refl _ _).new _
    have r1 : Row (veil [] (W.alloc (.cells #[.int .i64 1, .string ⟨#[]⟩, .int .i64 0] 62))) (some ⟨W.heap.size, 0, none⟩) 1 [Hp.v0] := rowV [] W (by simp) [Hp.v0] (by intro c hc; simp at hc; rcases hc with rfl <;> exact Hp.fit0 _ _ _ (by decide) (by decide) (by decide)) 1 rfl _ rfl rfl (by omega)
    have r5 := grow [] hn r5
    have hc := hc.then hn
    go_simp
    try dsimp only
    refine hKq.out _ _ (HS.out _ hc) (fun _ => ?_)
    clear hKq Kq
    (try simp only [Act.put, List.setIfInBounds_toArray, List.set_cons_zero, List.set_cons_succ])
    refine wpAnyH_cast (R1_5 B W0 HS (W.alloc (.cells #[.int .i64 1, .string ⟨#[]⟩, .int .i64 0] 62)) W.heap.size b5 r1 r5 hc) ?_ ?_
    · rfl
    · first | (simp only [A1, Act.put, List.setIfInBounds_toArray, List.set_cons_zero, List.set_cons_succ]; done) | (simp only [A1, Act.put, List.setIfInBounds_toArray, List.set_cons_zero, List.set_cons_succ]; rfl)
  refine AllReadyH.cons (o := _) rfl (fun Kq hKq => ?_) ?_
  · have hn : Below W.heap.size W (W.alloc (.cells #[.int .i64 1, .string ⟨#[]⟩, .int .i64 27, .int .i64 3, .string ⟨#[97]⟩, .int .i64 0] 62)) := (Below.refl _ _).new _
    have r10 : Row (veil [] (W.alloc (.cells #[.int .i64 1, .string ⟨#[]⟩, .int .i64 27, .int .i64 3, .string ⟨#[97]⟩, .int .i64 0] 62))) (some ⟨W.heap.size, 0, none⟩) 2 [Hp.v27, Hp.aC] := rowV [] W (by simp) [Hp.v27, Hp.aC] (by intro c hc; simp at hc; rcases hc with rfl | rfl <;> exact Hp.fit0 _ _ _ (by decide) (by decide) (by decide)) 2 rfl _ rfl rfl (by omega)
    have r5 := grow [] hn r5
    have hc := hc.then hn
    go_simp
    try dsimp only
    refine hKq.out _ _ (HS.out _ hc) (fun _ => ?_)
    clear hKq Kq
    (try simp only [Act.put, List.setIfInBounds_toArray, List.set_cons_zero, List.set_cons_succ])
    refine wpAnyH_cast (R5_10 B W0 HS (W.alloc (.cells #[.int .i64 1, .string ⟨#[]⟩, .int .i64 27, .int .i64 3, .string ⟨#[97]⟩, .int .i64 0] 62)) b5 W.heap.size r5 r10 hc) ?_ ?_
    · rfl
    · first | (simp only [A1, Act.put, List.setIfInBounds_toArray, List.set_cons_zero, List.set_cons_succ]; done) | (simp only [A1, Act.put, List.setIfInBounds_toArray, List.set_cons_zero, List.set_cons_succ]; rfl)
  refine AllReadyH.cons (o := _) rfl (fun Kq hKq => ?_) AllReadyH.nil
  have hn : Below W.heap.size W (W.alloc (.cells #[.slice none 0 0, .slice none 0 0] 33)) := (Below.refl _ _).new _
  have r5 := more (.cells #[.slice none 0 0, .slice none 0 0] 33) r5
  have k15 : (W.alloc (.cells #[.slice none 0 0, .slice none 0 0] 33)).heap[W.heap.size]? = some (.cells #[.slice none 0 0, .slice none 0 0] 33 (0, 0)) := heap_alloc_new W _
  have g15 := hc.size
  have hc := hc.then hn
  go_simp
  try dsimp only
  refine hKq.out _ _ (HS.out _ hc) (fun _ => ?_)
  clear hKq Kq
  (try simp only [Act.put, List.setIfInBounds_toArray, List.set_cons_zero, List.set_cons_succ])
  refine wpAnyH_cast (R5_15 B W0 HS (W.alloc (.cells #[.slice none 0 0, .slice none 0 0] 33)) b5 W.heap.size r5 k15 g15 hc) ?_ ?_
  · rfl
  · first | (simp only [A1, Act.put, List.setIfInBounds_toArray, List.set_cons_zero, List.set_cons_succ]; done) | (simp only [A1, Act.put, List.setIfInBounds_toArray, List.set_cons_zero, List.set_cons_succ]; rfl)
set_option maxRecDepth 100000 in
set_option maxHeartbeats 4000000 in
theorem R10 (B : Nat) (W0 : World) (HS : Hid (∀ W', Below W0.heap.size W0 W' → SB B W')) (W : World) (b10 : Nat) (r10 : Row (veil [] W) (some ⟨b10, 0, none⟩) 2 [Hp.v27, Hp.aC]) (hc : Below W0.heap.size W0 W) :
    wpAnyH Tryd.prog .any ops4 (NoPanic (QP B W0)) (SB B) 11 #[true, false, false, true, true, false, false, false, true, true, true, false, false, false, false, false, false] ((A1 B).put (some 26) (.slice (some ⟨b10, 0, none⟩) 2 2)) W := by
  unfold ops4 A1
  (try simp only [Act.put, List.setIfInBounds_toArray, List.set_cons_zero, List.set_cons_succ])
  have hSW := HS.out _ hc
  refine wpAnyH_ready (rs := [1, 5, 15]) (by kernel_rfl) (by simp) ?_
  refine AllReadyH.cons (o := _) rfl (fun Kq hKq => ?_) ?_
  · have hn : Below W.heap.size W (W.alloc (.cells #[.int .i64 1, .string ⟨#[]⟩, .int .i64 0] 62)) := (Below.refl _ _).new _
    have r1 : Row (veil [] (W.alloc (.cells #[.int .i64 1, .string ⟨#[]⟩, .int .i64 0] 62))) (some ⟨W.heap.size, 0, none⟩) 1 [Hp.v0] := rowV [] W (by simp) [Hp.v0] (by intro c hc; simp at hc; rcases hc with rfl <;> exact Hp.fit0 _ _ _ (by decide) (by decide) (by decide)) 1 rfl _ rfl rfl (by omega)
    have r10 := grow [] hn r10
    have hc := hc.then hn
    go_simp
    try dsimp only
    refine hKq.out _ _ (HS.out _ hc) (fun _ => ?_)
    clear hKq Kq
    (try simp only [Act.put, List.setIfInBounds_toArray, List.set_cons_zero, List.set_cons_succ])
    refine wpAnyH_cast (R1_10 B W0 HS (W.alloc (.cells #[.int .i64 1, .string ⟨#[]⟩, .int .i64 0] 62)) W.heap.size b10 r1 r10 hc) ?_ ?_
    · rfl
    · first | (simp only [A1, Act.put, List.setIfInBounds_toArray, List.set_cons_zero, List.set_cons_succ]; done) | (simp only [A1, Act.put, List.setIfInBounds_toArray, List.set_cons_zero, List.set_cons_succ]; rfl)
  refine AllReadyH.cons (o := _) rfl (fun Kq hKq => ?_) ?_
  · have hn : Below W.heap.size W (W.alloc (.cells #[.int .i64 1, .string ⟨#[]⟩, .int .i64 0, .int .i64 1, .string ⟨#[]⟩, .int .i64 27] 62)) := (Below.refl _ _).new _
    have r5 : Row (veil [] (W.alloc (.cells #[.int .i64 1, .string ⟨#[]⟩, .int .i64 0, .int .i64 1, .string ⟨#[]⟩, .int .i64 27] 62))) (some ⟨W.heap.size, 0, none⟩) 2 [Hp.v0, Hp.v27] := rowV [] W (by simp) [Hp.v0, Hp.v27] (by intro c hc; simp at hc; rcases hc with rfl | rfl <;> exact Hp.fit0 _ _ _ (by decide) (by decide) (by decide)) 2 rfl _ rfl rfl (by omega)
    have r10 := grow [] hn r10
    have hc := hc.then hn
    go_simp
    try dsimp only
    refine hKq.out _ _ (HS.out _ hc) (fun _ => ?_)
    clear hKq Kq
    (try simp only [Act.put, List.setIfInBounds_toArray, List.set_cons_zero, List.set_cons_succ])
    refine wpAnyH_cast (R5_10 B W0 HS (W.alloc (.cells #[.int .i64 1, .string ⟨#[]⟩, .int .i64 0, .int .i64 1, .string ⟨#[]⟩, .int .i64 27] 62)) W.heap.size b10 r5 r10 hc) ?_ ?_
    · rfl
    · first | (simp only [A1, Act.put, List.setIfInBounds_toArray, List.set_cons_zero, List.set_cons_succ]; done) | (simp only [A1, Act.put, List.setIfInBounds_toArray, List.set_cons_zero, List.set_cons_succ]; rfl)
  refine AllReadyH.cons (o := _) rfl (fun Kq hKq => ?_) AllReadyH.nil
  have hn : Below W.heap.size W (W.alloc (.cells #[.slice none 0 0, .slice none 0 0] 33)) := (Below.refl _ _).new _
  have r10 := more (.cells #[.slice none 0 0, .slice none 0 0] 33) r10
  have k15 : (W.alloc (.cells #[.slice none 0 0, .slice none 0 0] 33)).heap[W.heap.size]? = some (.cells #[.slice none 0 0, .slice none 0 0] 33 (0, 0)) := heap_alloc_new W _
  have g15 := hc.size
  have hc := hc.then hn
  go_simp
  try dsimp only
  refine hKq.out _ _ (HS.out _ hc) (fun _ => ?_)
  clear hKq Kq
  (try simp only [Act.put, List.setIfInBounds_toArray, List.set_cons_zero, List.set_cons_succ])
  refine wpAnyH_cast (R10_15 B W0 HS (W.alloc (.cells #[.slice none 0 0, .slice none 0 0] 33)) b10 W.heap.size r10 k15 g15 hc) ?_ ?_
  · rfl
  · first | (simp only [A1, Act.put, List.setIfInBounds_toArray, List.set_cons_zero, List.set_cons_succ]; done) | (simp only [A1, Act.put, List.setIfInBounds_toArray, List.set_cons_zero, List.set_cons_succ]; rfl)
set_option maxRecDepth 100000 in
set_option maxHeartbeats 4000000 in
theorem R15 (B : Nat) (W0 : World) (HS : Hid (∀ W', Below W0.heap.size W0 W' → SB B W')) (W : World) (b15 : Nat) (k15 : W.heap[b15]? = some (.cells #[.slice none 0 0, .slice none 0 0] 33 (0, 0))) (g15 : W0.heap.size ≤ b15) (hc : Below W0.heap.size W0 W) :
    wpAnyH Tryd.prog .any ops4 (NoPanic (QP B W0)) (SB B) 11 #[true, false, false, true, true, false, false, false, true, true, false, false, false, false, false, true, false] ((A1 B).put (some 8) (.pointer (some ⟨b15, 0, none⟩))) W := by
  unfold ops4 A1
  (try simp only [Act.put, List.setIfInBounds_toArray, List.set_cons_zero, List.set_cons_succ])
  have hSW := HS.out _ hc
  refine wpAnyH_ready (rs := [1, 5, 10]) (by kernel_rfl) (by simp) ?_
  refine AllReadyH.cons (o := _) rfl (fun Kq hKq => ?_) ?_
  · have hn : Below W.heap.size W (W.alloc (.cells #[.int .i64 1, .string ⟨#[]⟩, .int .i64 0] 62)) := (Below.refl _ _).new _
    have r1 : Row (veil [b15] (W.alloc (.cells #[.int .i64 1, .string ⟨#[]⟩, .int .i64 0] 62))) (some ⟨W.heap.size, 0, none⟩) 1 [Hp.v0] := rowV [b15] W (by simp; exact (Array.getElem?_eq_some_iff.1 k15).1) [Hp.v0] (by intro c hc; simp at hc; rcases hc with rfl <;> exact Hp.fit0 _ _ _ (by decide) (by decide) (by decide)) 1 rfl _ rfl rfl (by omega)
    have k15 := (hn.block b15 (Array.getElem?_eq_some_iff.1 k15).1).trans k15
    have hc := hc.then hn
    go_simp
    try dsimp only
    refine hKq.out _ _ (HS.out _ hc) (fun _ => ?_)
    clear hKq Kq
    (try simp only [Act.put, List.setIfInBounds_toArray, List.set_cons_zero, List.set_cons_succ])
    refine wpAnyH_cast (R1_15 B W0 HS (W.alloc (.cells #[.int .i64 1, .string ⟨#[]⟩, .int .i64 0] 62)) W.heap.size b15 r1 k15 g15 hc) ?_ ?_
    · rfl
    · first | (simp only [A1, Act.put, List.setIfInBounds_toArray, List.set_cons_zero, List.set_cons_succ]; done) | (simp only [A1, Act.put, List.setIfInBounds_toArray, List.set_cons_zero, List.set_cons_succ]; rfl)
  refine AllReadyH.cons (o := _) rfl (fun Kq hKq => ?_) ?_
  · have hn : Below W.heap.size W (W.alloc (.cells #[.int .i64 1, .string ⟨#[]⟩, .int .i64 0, .int .i64 1, .string ⟨#[]⟩, .int .i64 27] 62)) := (Below.refl _ _).new _
    have r5 : Row (veil [b15] (W.alloc (.cells #[.int .i64 1, .string ⟨#[]⟩, .int .i64 0, .int .i64 1, .string ⟨#[]⟩, .int .i64 27] 62))) (some ⟨W.heap.size, 0, none⟩) 2 [Hp.v0, Hp.v27] := rowV [b15] W (by simp; exact (Array.getElem?_eq_some_iff.1 k15).1) [Hp.v0, Hp.v27] (by intro c hc; simp at hc; rcases hc with rfl | rfl <;> exact Hp.fit0 _ _ _ (by decide) (by decide) (by decide)) 2 rfl _ rfl rfl (by omega)
    have k15 := (hn.block b15 (Array.getElem?_eq_some_iff.1 k15).1).trans k15
    have hc := hc.then hn
    go_simp
    try dsimp only
    refine hKq.out _ _ (HS.out _ hc) (fun _ => ?_)
    clear hKq Kq
    (try simp only [Act.put, List.setIfInBounds_toArray, List.set_cons_zero, List.set_cons_succ])
    refine wpAnyH_cast (R5_15 B W0 HS (W.alloc (.cells #[.int .i64 1, .string ⟨#[]⟩, .int .i64 0, .int .i64 1, .string ⟨#[]⟩, .int .i64 27] 62)) W.heap.size b15 r5 k15 g15 hc) ?_ ?_
    · rfl
    · first | (simp only [A1, Act.put, List.setIfInBounds_toArray, List.set_cons_zero, List.set_cons_succ]; done) | (simp only [A1, Act.put, List.setIfInBounds_toArray, List.set_cons_zero, List.set_cons_succ]; rfl)
  refine AllReadyH.cons (o := _) rfl (fun Kq hKq => ?_) AllReadyH.nil
  have hn : Below W.heap.size W (W.alloc (.cells #[.int .i64 1, .string ⟨#[]⟩, .int .i64 27, .int .i64 3, .string ⟨#[97]⟩, .int .i64 0] 62)) := (Below.refl _ _).new _
  have r10 : Row (veil [b15] (W.alloc (.cells #[.int .i64 1, .string ⟨#[]⟩, .int .i64 27, .int .i64 3, .string ⟨#[97]⟩, .int .i64 0] 62))) (some ⟨W.heap.size, 0, none⟩) 2 [Hp.v27, Hp.aC] := rowV [b15] W (by simp; exact (Array.getElem?_eq_some_iff.1 k15).1) [Hp.v27, Hp.aC] (by intro c hc; simp at hc; rcases hc with rfl | rfl <;> exact Hp.fit0 _ _ _ (by decide) (by decide) (by decide)) 2 rfl _ rfl rfl (by omega)
  have k15 := (hn.block b15 (Array.getElem?_eq_some_iff.1 k15).1).trans k15
  have hc := hc.then hn
  go_simp
  try dsimp only
  refine hKq.out _ _ (HS.out _ hc) (fun _ => ?_)
  clear hKq Kq
  (try simp only [Act.put, List.setIfInBounds_toArray, List.set_cons_zero, List.set_cons_succ])
  refine wpAnyH_cast (R10_15 B W0 HS (W.alloc (.cells #[.int .i64 1, .string ⟨#[]⟩, .int .i64 27, .int .i64 3, .string ⟨#[97]⟩, .int .i64 0] 62)) W.heap.size b15 r10 k15 g15 hc) ?_ ?_
  · rfl
  · first | (simp only [A1, Act.put, List.setIfInBounds_toArray, List.set_cons_zero, List.set_cons_succ]; done) | (simp only [A1, Act.put, List.setIfInBounds_toArray, List.set_cons_zero, List.set_cons_succ]; rfl)
set_option maxRecDepth 100000 in
set_option maxHeartbeats 4000000 in
theorem R (B : Nat) (W0 : World) (HS : Hid (∀ W', Below W0.heap.size W0 W' → SB B W')) (W : World)  (hc : Below W0.heap.size W0 W) :
    wpAnyH Tryd.prog .any ops4 (NoPanic (QP B W0)) (SB B) 12 #[true, false, false, true, true, false, false, false, true, true, false, false, false, false, false, false, false] (A1 B) W := by
  unfold ops4 A1
  (try simp only [Act.put, List.setIfInBounds_toArray, List.set_cons_zero, List.set_cons_succ])
  have hSW := HS.out _ hc
  refine wpAnyH_ready (rs := [1, 5, 10, 15]) (by kernel_rfl) (by simp) ?_
  refine AllReadyH.cons (o := _) rfl (fun Kq hKq => ?_) ?_
  · have hn : Below W.heap.size W (W.alloc (.cells #[.int .i64 1, .string ⟨#[]⟩, .int .i64 0] 62)) := (Below.refl _ _).new _
    have r1 : Row (veil [] (W.alloc (.cells #[.int .i64 1, .string ⟨#[]⟩, .int .i64 0] 62))) (some ⟨W.heap.size, 0, none⟩) 1 [Hp.v0] := rowV [] W (by simp) [Hp.v0] (by intro c hc; simp at hc; rcases hc with rfl <;> exact Hp.fit0 _ _ _ (by decide) (by decide) (by decide)) 1 rfl _ rfl rfl (by omega)
    have hc := hc.then hn
    go_simp
    try dsimp only
    refine hKq.out _ _ (HS.out _ hc) (fun _ => ?_)
    clear hKq Kq
    (try simp only [Act.put, List.setIfInBounds_toArray, List.set_cons_zero, List.set_cons_succ])
    refine wpAnyH_cast (R1 B W0 HS (W.alloc (.cells #[.int .i64 1, .string ⟨#[]⟩, .int .i64 0] 62)) W.heap.size r1 hc) ?_ ?_
    · rfl
    · first | (simp only [A1, Act.put, List.setIfInBounds_toArray, List.set_cons_zero, List.set_cons_succ]; done) | (simp only [A1, Act.put, List.setIfInBounds_toArray, List.set_cons_zero, List.set_cons_succ]; rfl)
  refine AllReadyH.cons (o := _) rfl (fun Kq hKq => ?_) ?_
  · have hn : Below W.heap.size W (W.alloc (.cells #[.int .i64 1, .string ⟨#[]⟩, .int .i64 0, .int .i64 1, .string ⟨#[]⟩, .int .i64 27] 62)) := (Below.refl _ _).new _
    have r5 : Row (veil [] (W.alloc (.cells #[.int .i64 1, .string ⟨#[]⟩, .int .i64 0, .int .i64 1, .string ⟨#[]⟩, .int .i64 27] 62))) (some ⟨W.heap.size, 0, none⟩) 2 [Hp.v0, Hp.v27] := rowV [] W (by simp) [Hp.v0, Hp.v27] (by intro c hc; simp at hc; rcases hc with rfl | rfl <;> exact Hp.fit0 _ _ _ (by decide) (by decide) (by decide)) 2 rfl _ rfl rfl (by omega)
    have hc := hc.then hn
    go_simp
    try dsimp only
    refine hKq.out _ _ (HS.out _ hc) (fun _ => ?_)
    clear hKq Kq
    (try simp only [Act.put, List.setIfInBounds_toArray, List.set_cons_zero, List.set_cons_succ])
    refine wpAnyH_cast (R5 B W0 HS (W.alloc (.cells #[.int .i64 1, .string ⟨#[]⟩, .int .i64 0, .int .i64 1, .string ⟨#[]⟩, .int .i64 27] 62)) W.heap.size r5 hc) ?_ ?_
    · rfl
    · first | (simp only [A1, Act.put, List.setIfInBounds_toArray, List.set_cons_zero, List.set_cons_succ]; done) | (simp only [A1, Act.put, List.setIfInBounds_toArray, List.set_cons_zero, List.set_cons_succ]; rfl)
  refine AllReadyH.cons (o := _) rfl (fun Kq hKq => ?_) ?_
  · have hn : Below W.heap.size W (W.alloc (.cells #[.int .i64 1, .string ⟨#[]⟩, .int .i64 27, .int .i64 3, .string ⟨#[97]⟩, .int .i64 0] 62)) := (Below.refl _ _).new _
    have r10 : Row (veil [] (W.alloc (.cells #[.int .i64 1, .string ⟨#[]⟩, .int .i64 27, .int .i64 3, .string ⟨#[97]⟩, .int .i64 0] 62))) (some ⟨W.heap.size, 0, none⟩) 2 [Hp.v27, Hp.aC] := rowV [] W (by simp) [Hp.v27, Hp.aC] (by intro c hc; simp at hc; rcases hc with rfl | rfl <;> exact Hp.fit0 _ _ _ (by decide) (by decide) (by decide)) 2 rfl _ rfl rfl (by omega)
    have hc := hc.then hn
    go_simp
    try dsimp only
    refine hKq.out _ _ (HS.out _ hc) (fun _ => ?_)
    clear hKq Kq
    (try simp only [Act.put, List.setIfInBounds_toArray, List.set_cons_zero, List.set_cons_succ])
    refine wpAnyH_cast (R10 B W0 HS (W.alloc (.cells #[.int .i64 1, .string ⟨#[]⟩, .int .i64 27, .int .i64 3, .string ⟨#[97]⟩, .int .i64 0] 62)) W.heap.size r10 hc) ?_ ?_
    · rfl
    · first | (simp only [A1, Act.put, List.setIfInBounds_toArray, List.set_cons_zero, List.set_cons_succ]; done) | (simp only [A1, Act.put, List.setIfInBounds_toArray, List.set_cons_zero, List.set_cons_succ]; rfl)
  refine AllReadyH.cons (o := _) rfl (fun Kq hKq => ?_) AllReadyH.nil
  have hn : Below W.heap.size W (W.alloc (.cells #[.slice none 0 0, .slice none 0 0] 33)) := (Below.refl _ _).new _
  have k15 : (W.alloc (.cells #[.slice none 0 0, .slice none 0 0] 33)).heap[W.heap.size]? = some (.cells #[.slice none 0 0, .slice none 0 0] 33 (0, 0)) := heap_alloc_new W _
  have g15 := hc.size
  have hc := hc.then hn
  go_simp
  try dsimp only
  refine hKq.out _ _ (HS.out _ hc) (fun _ => ?_)
  clear hKq Kq
  (try simp only [Act.put, List.setIfInBounds_toArray, List.set_cons_zero, List.set_cons_succ])
  refine wpAnyH_cast (R15 B W0 HS (W.alloc (.cells #[.slice none 0 0, .slice none 0 0] 33)) W.heap.size k15 g15 hc) ?_ ?_
  · rfl
  · first | (simp only [A1, Act.put, List.setIfInBounds_toArray, List.set_cons_zero, List.set_cons_succ]; done) | (simp only [A1, Act.put, List.setIfInBounds_toArray, List.set_cons_zero, List.set_cons_succ]; rfl)
end Hd
end Go.Proofs.YtabjghmfjoefpaaDoor
set_option linter.unusedVariables false
namespace Go.Proofs.YtabjghmfjoefpaaDoor
open Go.RowKit
namespace Hp
theorem pow_then {w W : World} (hp : Pow w) (h : Below w.heap.size w W) : Pow W := (hp.at.fr (us := []) (Fr.of h) (by simp)).pow
theorem cls2 (w : World) {a b : Option Addr} {c d : Nat} (h1 : Row w a c ([⟨3, ⟨#[97]⟩, 0⟩] : List Cel)) (h2 : Row w b d ([⟨3, ⟨#[98]⟩, 0⟩] : List Cel)) :
    Row (w.alloc (.cells #[.slice a 1 c, .slice none 0 0, .slice b 1 d, .slice none 0 0] 33)) (some ⟨w.heap.size, 0, none⟩) 2 ([cB, cC].map Ct.row) := by
  have hb := (Below.refl w.heap.size w).new (.cells #[.slice a 1 c, .slice none 0 0, .slice b 1 d, .slice none 0 0] 33)
  have e : ∀ W : World, Row W none 0 ([] : List Lt) := fun W => Row.empty W none 0 (by omega) (fun _ => rfl)
  refine row_new w _ (33, 0) (xs := [cB, cC].map Ct.row) ?_ (by simp)
  exact .cons (cs := [.slice a 1 c, .slice none 0 0]) (show RepC.C (α := Cl) _ [.slice a 1 c, .slice none 0 0] cB.row from ⟨a, c, none, 0, rfl, h1.below hb, e _⟩) (.cons (cs := [.slice b 1 d, .slice none 0 0]) (show RepC.C (α := Cl) _ [.slice b 1 d, .slice none 0 0] cC.row from ⟨b, d, none, 0, rfl, h2.below hb, e _⟩) .nil)
end Hp
set_option maxRecDepth 100000 in
set_option maxHeartbeats 64000000 in
theorem head6_any (w : World) (hp : Pow w) : Calls Tryd.prog 10 #[] w fun e w' => e = .returned (.bool true) ∧ Below w.heap.size w w' := by
  have HS : Hid (∀ W', Below (Hd.X7 w).heap.size (Hd.X7 w) W' → Hd.SB w.heap.size W') := fun W' h => Hd.sb_of w W' h
  have HB0 := mkHid (Hd.X7_below w)
  have HP := mkHid hp
  clear hp
  go_enter Tryd.func10, Tryd.ntmps10
  go_wp2_with fail
  rw [show ((((((w.alloc (.cells #[.int .i64 3, .string ⟨#[97]⟩, .int .i64 0] 62)).alloc (.cells #[.int .i64 1, .string ⟨#[]⟩, .int .i64 0] 62)).alloc (.cells #[.int .i64 1, .string ⟨#[]⟩, .int .i64 27] 62)).alloc (.cells #[.int .i64 3, .string ⟨#[91, 93]⟩, .int .i64 0] 62)).alloc (.cells #[.int .i64 2, .string ⟨#[]⟩, .int .i64 (-1)] 62)).alloc (.cells #[.int .i64 3, .string ⟨#[46]⟩, .int .i64 2] 62)).alloc (.cells #[.int .i64 3, .string ⟨#[43]⟩, .int .i64 2] 62) = Hd.X7 w from rfl]
  generalize Hd.X7 w = W0 at *
  have hc0 := (Below.refl W0.heap.size W0).drew
  refine Code.wp_mono (Q := Hd.QP w.heap.size W0) ?_ ?_
  rotate_left
  · refine wp_region_noPanic ?_
    refine wp_region_held_drew (S := Hd.SB w.heap.size) (by kernel_rfl) (HS.out _ hc0) (fun hSd => ?_)
    refine wpAnyH_take (i := 0) (oi := _) (v := ?_) rfl (by kernel_rfl) (by kernel_rfl) (by kernel_rfl) (fun _ _ _ h => h) (Or.inl ⟨by rfl, ?_⟩) (by assumption) ?_
    rotate_left
    · (intro w' hSw; obtain ⟨q00, q01, q02, q10, q11, q12, q20, q21, q22, q30, q31, q32, q40, q41, q42, q50, q51, q52, q60, q61, q62⟩ := hSw; go_simp; try with_reducible rfl)
    (try simp only [Act.put, List.setIfInBounds_toArray, List.set_cons_zero, List.set_cons_succ])
    refine wpAnyH_take (i := 3) (oi := _) (v := ?_) rfl (by kernel_rfl) (by kernel_rfl) (by kernel_rfl) (fun _ _ _ h => h) (Or.inl ⟨by rfl, ?_⟩) (by assumption) ?_
    rotate_left
    · (intro w' hSw; obtain ⟨q00, q01, q02, q10, q11, q12, q20, q21, q22, q30, q31, q32, q40, q41, q42, q50, q51, q52, q60, q61, q62⟩ := hSw; go_simp; try with_reducible rfl)
    (try simp only [Act.put, List.setIfInBounds_toArray, List.set_cons_zero, List.set_cons_succ])
    refine wpAnyH_take (i := 4) (oi := _) (v := ?_) rfl (by kernel_rfl) (by kernel_rfl) (by kernel_rfl) (fun _ _ _ h => h) (Or.inl ⟨by rfl, ?_⟩) (by assumption) ?_
    rotate_left
    · (intro w' hSw; obtain ⟨q00, q01, q02, q10, q11, q12, q20, q21, q22, q30, q31, q32, q40, q41, q42, q50, q51, q52, q60, q61, q62⟩ := hSw; go_simp; try with_reducible rfl)
    (try simp only [Act.put, List.setIfInBounds_toArray, List.set_cons_zero, List.set_cons_succ])
    refine wpAnyH_take (i := 8) (oi := _) (v := ?_) rfl (by kernel_rfl) (by kernel_rfl) (by kernel_rfl) (fun _ _ _ h => h) (Or.inl ⟨by rfl, ?_⟩) (by assumption) ?_
    rotate_left
    · (intro w' hSw; obtain ⟨q00, q01, q02, q10, q11, q12, q20, q21, q22, q30, q31, q32, q40, q41, q42, q50, q51, q52, q60, q61, q62⟩ := hSw; go_simp; try with_reducible rfl)
    (try simp only [Act.put, List.setIfInBounds_toArray, List.set_cons_zero, List.set_cons_succ])
    refine wpAnyH_take (i := 9) (oi := _) (v := ?_) rfl (by kernel_rfl) (by kernel_rfl) (by kernel_rfl) (fun _ _ _ h => h) (Or.inl ⟨by rfl, ?_⟩) (by assumption) ?_
    rotate_left
    · (intro w' hSw; obtain ⟨q00, q01, q02, q10, q11, q12, q20, q21, q22, q30, q31, q32, q40, q41, q42, q50, q51, q52, q60, q61, q62⟩ := hSw; go_simp; try with_reducible rfl)
    (try simp only [Act.put, List.setIfInBounds_toArray, List.set_cons_zero, List.set_cons_succ])
    refine Hd.wpAnyH_cast (Hd.R w.heap.size W0 HS W0.drew hc0) ?_ ?_
    · rfl
    · rfl
  · rintro ev A' W5 ⟨rfl, b1, a2, c2, b5, a6, c6, b10, a11, c11, b13, b15, rfl, hpo⟩
    have hc := hpo.hc
    have hc5 := Below.refl W5.heap.size W5
    have HPO : Hid (∀ W', Below W0.heap.size W0 W' → True) := fun _ _ => trivial
    have hpo0 : ∀ W', Below W5.heap.size W5 W' → W'.cell? ⟨b15, 0, none⟩ = some (.slice a2 2 c2) ∧ W'.cell? ⟨b15, 1, none⟩ = some (.slice (some ⟨b13, 0, none⟩) 2 2) ∧ Row W' a2 c2 ([⟨3, ⟨#[112]⟩, 1⟩, Hp.v0] : List Cel) ∧ Row W' (some ⟨b13, 0, none⟩) 2 ([⟨false, [⟨3, ⟨#[113]⟩, 2⟩, Hp.v0, Hp.v27]⟩, ⟨true, [⟨3, ⟨#[61]⟩, 2⟩, Hp.v27, Hp.aC]⟩] : List Lt) := fun W' h =>
      ⟨keep (by rw [Lib.cell_of_heap hpo.blk]; rfl) h, keep (by rw [Lib.cell_of_heap hpo.blk]; rfl) h, hpo.r2.below h, hpo.r13.below h⟩
    clear HPO
    have HPO := mkHid hpo0
    clear hpo hpo0
    simp only [Hd.A1, Act.put, List.setIfInBounds_toArray, List.set_cons_zero, List.set_cons_succ]
    obtain ⟨q00, q01, q02, q10, q11, q12, q20, q21, q22, q30, q31, q32, q40, q41, q42, q50, q51, q52, q60, q61, q62⟩ := HS.out _ hc
    go_wp2_with fail
    have hn : Below W5.heap.size W5 (W5.alloc (.cells #[.int .i64 1, .string ⟨#[]⟩, .int .i64 0, .int .i64 3, .string ⟨#[43]⟩, .int .i64 2, .int .i64 1, .string ⟨#[]⟩, .int .i64 27, .int .i64 2, .string ⟨#[]⟩, .int .i64 (-1)] 62)) := (Below.refl _ _).new _
    have hr := Hp.rowN W5 [Hp.v0, Hp.plusC, Hp.v27, Hp.m1] (by intro c hc; simp at hc; rcases hc with rfl | rfl | rfl | rfl <;> exact Hp.fit0 _ _ _ (by decide) (by decide) (by decide)) 4 rfl #[.int .i64 1, .string ⟨#[]⟩, .int .i64 0, .int .i64 3, .string ⟨#[43]⟩, .int .i64 2, .int .i64 1, .string ⟨#[]⟩, .int .i64 27, .int .i64 2, .string ⟨#[]⟩, .int .i64 (-1)] rfl (by omega)
    refine (Hp.fun_is ⟨#[61]⟩ 2 _ _ _ hr 4 rfl (by omega) (by omega) (by decide)).mono ?_
    rintro e V1 ⟨a1, c1, rfl, r1, hb⟩
    have hc := hc.then (hn.then hb)
    have hc5 := hc5.then (hn.then hb)
    clear hr hn hb
    clear q00 q01 q02 q10 q11 q12 q20 q21 q22 q30 q31 q32 q40 q41 q42 q50 q51 q52 q60 q61 q62
    go_wp2_with fail
    refine (Hp.term_is Hp.t1 Hp.t1_ok 5 (by decide +kernel) (by omega) Hp.x1 (by decide) _ _ _ (Hp.pow_then HP.out (HB0.out.then hc)) r1.row (by decide +kernel)).mono ?_
    rintro e V2 ⟨rfl, hb⟩
    have hc := hc.then (hb)
    have hc5 := hc5.then (hb)
    clear hb
    clear r1
    obtain ⟨q00, q01, q02, q10, q11, q12, q20, q21, q22, q30, q31, q32, q40, q41, q42, q50, q51, q52, q60, q61, q62⟩ := HS.out _ hc
    go_wp2_with fail
    have hn : Below V2.heap.size V2 (V2.alloc (.cells #[.int .i64 3, .string ⟨#[97]⟩, .int .i64 0, .int .i64 3, .string ⟨#[46]⟩, .int .i64 2, .int .i64 1, .string ⟨#[]⟩, .int .i64 0, .int .i64 3, .string ⟨#[91, 93]⟩, .int .i64 0] 62)) := (Below.refl _ _).new _
    have hr := Hp.rowN V2 [Hp.aC, Hp.dotC, Hp.v0, Hp.nilC] (by intro c hc; simp at hc; rcases hc with rfl | rfl | rfl | rfl <;> exact Hp.fit0 _ _ _ (by decide) (by decide) (by decide)) 4 rfl #[.int .i64 3, .string ⟨#[97]⟩, .int .i64 0, .int .i64 3, .string ⟨#[46]⟩, .int .i64 2, .int .i64 1, .string ⟨#[]⟩, .int .i64 0, .int .i64 3, .string ⟨#[91, 93]⟩, .int .i64 0] rfl (by omega)
    refine (Hp.fun_is ⟨#[46]⟩ 2 _ _ _ hr 4 rfl (by omega) (by omega) (by decide)).mono ?_
    rintro e V3 ⟨a3, c3, rfl, r3, hb⟩
    have hc := hc.then (hn.then hb)
    have hc5 := hc5.then (hn.then hb)
    clear hr hn hb
    clear q00 q01 q02 q10 q11 q12 q20 q21 q22 q30 q31 q32 q40 q41 q42 q50 q51 q52 q60 q61 q62
    go_wp2_with fail
    refine (Hp.term_is Hp.t2 Hp.t2_ok 5 (by decide +kernel) (by omega) Hp.x2 (by decide) _ _ _ (Hp.pow_then HP.out (HB0.out.then hc)) r3.row (by decide +kernel)).mono ?_
    rintro e V4 ⟨rfl, hb⟩
    have hc := hc.then (hb)
    have hc5 := hc5.then (hb)
    clear hb
    clear r3
    obtain ⟨q00, q01, q02, q10, q11, q12, q20, q21, q22, q30, q31, q32, q40, q41, q42, q50, q51, q52, q60, q61, q62⟩ := HS.out _ hc
    go_wp2_with fail
    have hn : Below V4.heap.size V4 (V4.alloc (.cells #[.int .i64 3, .string ⟨#[97]⟩, .int .i64 0, .int .i64 1, .string ⟨#[]⟩, .int .i64 0] 62)) := (Below.refl _ _).new _
    have hr := Hp.rowN V4 [Hp.aC, Hp.v0] (by intro c hc; simp at hc; rcases hc with rfl | rfl <;> exact Hp.fit0 _ _ _ (by decide) (by decide) (by decide)) 2 rfl #[.int .i64 3, .string ⟨#[97]⟩, .int .i64 0, .int .i64 1, .string ⟨#[]⟩, .int .i64 0] rfl (by omega)
    refine (Hp.fun_is ⟨#[46]⟩ 2 _ _ _ hr 2 rfl (by omega) (by omega) (by decide)).mono ?_
    rintro e V5 ⟨a5, c5, rfl, r5, hb⟩
    have hc := hc.then (hn.then hb)
    have hc5 := hc5.then (hn.then hb)
    clear hr hn hb
    clear q00 q01 q02 q10 q11 q12 q20 q21 q22 q30 q31 q32 q40 q41 q42 q50 q51 q52 q60 q61 q62
    go_wp2_with fail
    refine (Hp.term_is Hp.t3 Hp.t3_ok 3 (by decide +kernel) (by omega) Hp.x3 (by decide) _ _ _ (Hp.pow_then HP.out (HB0.out.then hc)) r5.row (by decide +kernel)).mono ?_
    rintro e V6 ⟨rfl, hb⟩
    have hc := hc.then (hb)
    have hc5 := hc5.then (hb)
    clear hb
    clear r5
    obtain ⟨q00, q01, q02, q10, q11, q12, q20, q21, q22, q30, q31, q32, q40, q41, q42, q50, q51, q52, q60, q61, q62⟩ := HS.out _ hc
    go_wp2_with fail
    have hn : Below V6.heap.size V6 (V6.alloc (.cells #[.int .i64 3, .string ⟨#[97]⟩, .int .i64 0] 62)) := (Below.refl _ _).new _
    have hr := Hp.rowN V6 [Hp.aC] (by intro c hc; simp at hc; rcases hc with rfl <;> exact Hp.fit0 _ _ _ (by decide) (by decide) (by decide)) 1 rfl #[.int .i64 3, .string ⟨#[97]⟩, .int .i64 0] rfl (by omega)
    refine (Hp.fun_is ⟨#[91, 93]⟩ 1 _ _ _ hr 1 rfl (by omega) (by omega) (by decide)).mono ?_
    rintro e V7 ⟨a7, c7, rfl, r7, hb⟩
    have hc := hc.then (hn.then hb)
    have hc5 := hc5.then (hn.then hb)
    clear hr hn hb
    clear q00 q01 q02 q10 q11 q12 q20 q21 q22 q30 q31 q32 q40 q41 q42 q50 q51 q52 q60 q61 q62
    go_wp2_with fail
    refine (Hp.term_is Hp.t4 Hp.t4_ok 2 (by decide +kernel) (by omega) Hp.x4 (by decide) _ _ _ (Hp.pow_then HP.out (HB0.out.then hc)) r7.row (by decide +kernel)).mono ?_
    rintro e V8 ⟨rfl, hb⟩
    have hc := hc.then (hb)
    have hc5 := hc5.then (hb)
    clear hb
    clear r7
    obtain ⟨q00, q01, q02, q10, q11, q12, q20, q21, q22, q30, q31, q32, q40, q41, q42, q50, q51, q52, q60, q61, q62⟩ := HS.out _ hc
    go_wp2_with fail
    have hn : Below V8.heap.size V8 (V8.alloc (.cells #[.int .i64 3, .string ⟨#[91, 93]⟩, .int .i64 0] 62)) := (Below.refl _ _).new _
    have hr := Hp.rowN V8 [Hp.nilC] (by intro c hc; simp at hc; rcases hc with rfl <;> exact Hp.fit0 _ _ _ (by decide) (by decide) (by decide)) 1 rfl #[.int .i64 3, .string ⟨#[91, 93]⟩, .int .i64 0] rfl (by omega)
    have hcn := hc.then hn
    have hcn5 := hc5.then hn
    refine (Hp.term_is Hp.t5 Hp.nil_ok 1 (by decide +kernel) (by omega) Hp.x5 (by decide) _ _ _ (Hp.pow_then HP.out (HB0.out.then hcn)) hr (by decide +kernel)).mono ?_
    rintro e V9 ⟨rfl, hb⟩
    have hc := hcn.then hb
    have hc5 := hcn5.then hb
    clear hr hn hcn hcn5 hb
    clear q00 q01 q02 q10 q11 q12 q20 q21 q22 q30 q31 q32 q40 q41 q42 q50 q51 q52 q60 q61 q62
    obtain ⟨q00, q01, q02, q10, q11, q12, q20, q21, q22, q30, q31, q32, q40, q41, q42, q50, q51, q52, q60, q61, q62⟩ := HS.out _ hc
    go_wp2_with fail
    have hn : Below V9.heap.size V9 (V9.alloc (.cells #[.int .i64 2, .string ⟨#[]⟩, .int .i64 (-1)] 62)) := (Below.refl _ _).new _
    have hr := Hp.rowN V9 [Hp.m1] (by intro c hc; simp at hc; rcases hc with rfl <;> exact Hp.fit0 _ _ _ (by decide) (by decide) (by decide)) 1 rfl #[.int .i64 2, .string ⟨#[]⟩, .int .i64 (-1)] rfl (by omega)
    refine (Hp.fun_is ⟨#[45]⟩ 1 _ _ _ hr 1 rfl (by omega) (by omega) (by decide)).mono ?_
    rintro e V10 ⟨a10, c10, rfl, r10, hb⟩
    have hc := hc.then (hn.then hb)
    have hc5 := hc5.then (hn.then hb)
    clear hr hn hb
    clear q00 q01 q02 q10 q11 q12 q20 q21 q22 q30 q31 q32 q40 q41 q42 q50 q51 q52 q60 q61 q62
    go_wp2_with fail
    refine (Hp.term_is Hp.t6 Hp.t6_ok 2 (by decide +kernel) (by omega) Hp.x6 (by decide) _ _ _ (Hp.pow_then HP.out (HB0.out.then hc)) r10.row (by decide +kernel)).mono ?_
    rintro e V11 ⟨rfl, hb⟩
    have hc := hc.then (hb)
    have hc5 := hc5.then (hb)
    clear hb
    clear r10
    go_wp2_with fail
    refine (Hp.fun_is ⟨#[65, 98, 32, 99]⟩ 0 _ _ _ (Row.empty _ none 0 (by omega) (fun _ => rfl) : Row V11 none 0 ([] : List Cel)) 0 rfl (by omega) (by omega) (by decide)).mono ?_
    rintro e V12 ⟨a12, c12, rfl, r12, hb⟩
    have hc := hc.then (hb)
    have hc5 := hc5.then (hb)
    clear hb
    go_wp2_with fail
    refine (Hp.term_is Hp.t7 Hp.t7_ok 1 (by decide +kernel) (by omega) Hp.x7 (by decide) _ _ _ (Hp.pow_then HP.out (HB0.out.then hc)) r12.row (by decide +kernel)).mono ?_
    rintro e V13 ⟨rfl, hb⟩
    have hc := hc.then (hb)
    have hc5 := hc5.then (hb)
    clear hb
    clear r12
    obtain ⟨q00, q01, q02, q10, q11, q12, q20, q21, q22, q30, q31, q32, q40, q41, q42, q50, q51, q52, q60, q61, q62⟩ := HS.out _ hc
    go_wp2_with fail
    have hn : Below V13.heap.size V13 (V13.alloc (.cells #[.int .i64 3, .string ⟨#[97]⟩, .int .i64 0, .int .i64 3, .string ⟨#[97]⟩, .int .i64 0, .int .i64 3, .string ⟨#[97]⟩, .int .i64 0] 62)) := (Below.refl _ _).new _
    have hr := Hp.rowN V13 [Hp.aC, Hp.aC, Hp.aC] (by intro c hc; simp at hc; rcases hc with rfl | rfl | rfl <;> exact Hp.fit0 _ _ _ (by decide) (by decide) (by decide)) 3 rfl #[.int .i64 3, .string ⟨#[97]⟩, .int .i64 0, .int .i64 3, .string ⟨#[97]⟩, .int .i64 0, .int .i64 3, .string ⟨#[97]⟩, .int .i64 0] rfl (by omega)
    refine (Hp.fun_is ⟨#[43]⟩ 3 _ _ _ hr 3 rfl (by omega) (by omega) (by decide)).mono ?_
    rintro e V14 ⟨a14, c14, rfl, r14, hb⟩
    have hc := hc.then (hn.then hb)
    have hc5 := hc5.then (hn.then hb)
    clear hr hn hb
    clear q00 q01 q02 q10 q11 q12 q20 q21 q22 q30 q31 q32 q40 q41 q42 q50 q51 q52 q60 q61 q62
    go_wp2_with fail
    refine (Hp.term_is Hp.t8 Hp.t8_ok 4 (by decide +kernel) (by omega) Hp.x8 (by decide) _ _ _ (Hp.pow_then HP.out (HB0.out.then hc)) r14.row (by decide +kernel)).mono ?_
    rintro e V15 ⟨rfl, hb⟩
    have hc := hc.then (hb)
    have hc5 := hc5.then (hb)
    clear hb
    clear r14
    obtain ⟨y0, y1, rA2, rA13⟩ := HPO.out _ hc5
    go_wp2_with fail
    refine (Hp.clause_is Hp.cA Hp.cA_ok 2 2 (by decide +kernel) rfl Hp.xA (by decide) _ _ _ _ _ (Hp.pow_then HP.out (HB0.out.then hc)) rA2 rA13 (by decide +kernel) rfl).mono ?_
    rintro e V16 ⟨rfl, hb⟩
    have hc := hc.then (hb)
    have hc5 := hc5.then (hb)
    clear hb
    clear y0 y1 rA2 rA13
    go_wp2_with fail
    refine (Hp.fun_is ⟨#[97]⟩ 0 _ _ _ (Row.empty _ none 0 (by omega) (fun _ => rfl) : Row V16 none 0 ([] : List Cel)) 0 rfl (by omega) (by omega) (by decide)).mono ?_
    rintro e V17 ⟨a17, c17, rfl, r17, hb⟩
    have hc := hc.then (hb)
    have hc5 := hc5.then (hb)
    clear hb
    go_wp2_with fail
    refine (Hp.fun_is ⟨#[98]⟩ 0 _ _ _ (Row.empty _ none 0 (by omega) (fun _ => rfl) : Row V17 none 0 ([] : List Cel)) 0 rfl (by omega) (by omega) (by decide)).mono ?_
    rintro e V18 ⟨a18, c18, rfl, r18, hb⟩
    have ra := r17.row.below hb
    clear r17
    have hc := hc.then (hb)
    have hc5 := hc5.then (hb)
    clear hb
    go_wp2_with fail
    have hn : Below V18.heap.size V18 (V18.alloc (.cells #[.slice a17 1 c17, .slice none 0 0, .slice a18 1 c18, .slice none 0 0] 33)) := (Below.refl _ _).new _
    have hr := Hp.cls2 V18 ra r18.row
    have hcn := hc.then hn
    have hcn5 := hc5.then hn
    refine (Hp.program_is [Hp.cB, Hp.cC] (by intro c hc; simp at hc; rcases hc with rfl | rfl; exact Hp.cB_ok; exact Hp.cC_ok) 2 rfl Hp.xBC (by decide) _ _ _ (Hp.pow_then HP.out (HB0.out.then hcn)) hr).mono ?_
    rintro e V19 ⟨rfl, hb⟩
    have hc := hcn.then hb
    have hc5 := hcn5.then hb
    clear hr hn hcn hcn5 hb r18
    go_wp2_with fail
    refine (Hp.quote_is _ Hp.xQ1 (by decide) _).mono ?_
    rintro e V20 ⟨rfl, hb⟩
    have hc := hc.then (hb)
    have hc5 := hc5.then (hb)
    clear hb
    go_wp2_with fail
    refine (Hp.quote_is _ Hp.xQ2 (by decide) _).mono ?_
    rintro e V21 ⟨rfl, hb⟩
    have hc := hc.then (hb)
    have hc5 := hc5.then (hb)
    clear hb
    go_wp2_with fail
    refine (Hp.var_is 25 _ rfl Hp.xV25 (by omega) _ (Hp.pow_then HP.out (HB0.out.then hc))).mono ?_
    rintro e V22 ⟨rfl, hb⟩
    have hc := hc.then (hb)
    have hc5 := hc5.then (hb)
    clear hb
    go_wp2_with fail
    refine (Hp.var_is 26 _ rfl Hp.xV26 (by omega) _ (Hp.pow_then HP.out (HB0.out.then hc))).mono ?_
    rintro e V23 ⟨rfl, hb⟩
    have hc := hc.then (hb)
    have hc5 := hc5.then (hb)
    clear hb
    go_wp2_with fail
    refine (Hp.var_is 999 _ rfl Hp.xV999 (by omega) _ (Hp.pow_then HP.out (HB0.out.then hc))).mono ?_
    rintro e V24 ⟨rfl, hb⟩
    have hc := hc.then (hb)
    have hc5 := hc5.then (hb)
    clear hb
    go_wp2_with fail
    refine (Hp.program_is [] (by simp) 0 rfl rfl (by decide) _ _ _ (Hp.pow_then HP.out (HB0.out.then hc)) (Row.empty _ none 0 (by omega) (fun _ => rfl))).mono ?_
    rintro e V25 ⟨rfl, hb⟩
    have hc := hc.then (hb)
    have hc5 := hc5.then (hb)
    clear hb
    go_wp2_with fail
    go_ret
    exact ⟨rfl, HB0.out.then hc⟩
end Go.Proofs.YtabjghmfjoefpaaDoor
set_option linter.unusedVariables false
namespace Go.Proofs.YtabjghmfjoefpaaDoor
open Go.RowKit

/-! ### texts of terms are unlike -/
namespace Tx
theorem split_eq {p : UInt8 → Bool} {a b r s : List UInt8} (ha : ∀ c ∈ a, p c = true) (hb : ∀ c ∈ b, p c = true) (hr : ∀ c r', r = c :: r' → p c = false) (hs : ∀ c r', s = c :: r' → p c = false) (h : a ++ r = b ++ s) : a = b ∧ r = s := by
  induction a generalizing b with
  | nil =>
    cases b with
    | nil => exact ⟨rfl, h⟩
    | cons y b =>
      have := hr y (b ++ s) (by simpa using h)
      rw [hb y List.mem_cons_self] at this; cases this
  | cons x a ih =>
    cases b with
    | nil =>
      have := hs x (a ++ r) (by simpa using h.symm)
      rw [ha x List.mem_cons_self] at this; cases this
    | cons y b =>
      simp only [List.cons_append, List.cons.injEq] at h
      obtain ⟨rfl, h⟩ := h
      obtain ⟨rfl, e⟩ := ih (fun c hc => ha c (List.mem_cons_of_mem _ hc)) (fun c hc => hb c (List.mem_cons_of_mem _ hc)) h
      exact ⟨rfl, e⟩
theorem dval {k : Nat} (h : k < 10) : (UInt8.ofNat (48 + k)).toNat = 48 + k := by rw [UInt8.toNat_ofNat']; omega
theorem dis {k : Nat} (h : k < 10) : digitB (UInt8.ofNat (48 + k)) = true :=
  (by decide : ∀ i : Fin 10, digitB (UInt8.ofNat (48 + i.val)) = true) ⟨k, h⟩
theorem dec_all (u : Nat) : ∀ c ∈ Lib.decDigits u, digitB c = true := by
  induction u using Nat.strongRecOn with
  | _ u ih =>
    by_cases h : u < 10
    · rw [Lib.decDigits, dif_pos h]; simp only [List.mem_singleton]; rintro c rfl; exact dis h
    · rw [Lib.decDigits, dif_neg h]
      intro c hc
      rcases List.mem_append.1 hc with hc | hc
      · exact ih (u / 10) (by omega) c hc
      · simp only [List.mem_singleton] at hc; subst hc; exact dis (by omega)
theorem dec_val (u : Nat) : decN (Lib.decDigits u) = u := by
  induction u using Nat.strongRecOn with
  | _ u ih =>
    by_cases h : u < 10
    · rw [Lib.decDigits, dif_pos h]
      have := dval h
      simp only [decN, List.foldl_cons, List.foldl_nil]
      omega
    · rw [Lib.decDigits, dif_neg h]
      have e : decN (Lib.decDigits (u / 10) ++ [UInt8.ofNat (48 + u % 10)]) = decN (Lib.decDigits (u / 10)) * 10 + ((UInt8.ofNat (48 + u % 10)).toNat - 48) := by simp [decN, List.foldl_append]
      rw [e, ih (u / 10) (by omega), dval (by omega)]
      omega
theorem dec_inj {a b : Nat} (h : Lib.decDigits a = Lib.decDigits b) : a = b := by rw [← dec_val a, ← dec_val b, h]
theorem dec_ne (a : Nat) : Lib.decDigits a ≠ [] := fun h => by
  have := Lib.decDigits_length a
  have h2 := Lib.nDigits_pos a
  rw [h] at this; simp at this; omega
/-- what may stand behind a term -/
def Dl (r : List UInt8) : Prop := ∀ c r', r = c :: r' → c ∈ [41, 44, 93, 124, 32, 46]
theorem Dl.nil : Dl [] := fun c r' h => by cases h
theorem Dl.cons {c : UInt8} {r : List UInt8} (h : c ∈ [41, 44, 93, 124, 32, 46]) : Dl (c :: r) := fun d r' e => by injection e with e1 e2; subst e1; exact h
theorem Dl.not {p : UInt8 → Bool} {r : List UInt8} (h : Dl r) (hp : ∀ c ∈ ([41, 44, 93, 124, 32, 46] : List UInt8), p c = false) : ∀ c r', r = c :: r' → p c = false := fun c r' e => hp c (h c r' e)
theorem var_inj {a b : Nat} {r s : List UInt8} (hr : Dl r) (hs : Dl s) (h : varL a ++ r = varL b ++ s) : a = b ∧ r = s := by
  unfold varL at h
  simp only [List.cons_append, List.cons.injEq] at h
  obtain ⟨h1, h2⟩ := h
  have e : a % 26 = b % 26 := by
    have := congrArg UInt8.toNat h1
    rw [UInt8.toNat_ofNat', UInt8.toNat_ofNat'] at this; omega
  have hd : ∀ n : Nat, ∀ c ∈ (if n < 26 then [] else Lib.decDigits (n / 26)), digitB c = true := fun n c hc => by
    split at hc
    · cases hc
    · exact dec_all _ c hc
  obtain ⟨e1, e2⟩ := split_eq (hd a) (hd b) (hr.not (by decide)) (hs.not (by decide)) h2
  refine ⟨?_, e2⟩
  split at e1
  · split at e1
    · omega
    · exact absurd e1.symm (dec_ne _)
  · split at e1
    · exact absurd e1 (dec_ne _)
    · have := dec_inj e1; omega
def numB (c : UInt8) : Bool := digitB c || c == 45
theorem itoa_all (n : Int) : ∀ c ∈ Lib.itoa n, numB c = true := by
  intro c hc
  unfold Lib.itoa at hc
  unfold numB
  split at hc
  · rcases List.mem_cons.1 hc with rfl | hc
    · decide
    · rw [dec_all _ c hc]; rfl
  · rw [dec_all _ c hc]; rfl
theorem dec_head (u : Nat) : ∃ c r, Lib.decDigits u = c :: r ∧ digitB c = true := by
  cases h : Lib.decDigits u with
  | nil => exact absurd h (dec_ne u)
  | cons c r => exact ⟨c, r, rfl, dec_all u c (by rw [h]; exact List.mem_cons_self)⟩
theorem itoa_inj {a b : Int} (h : Lib.itoa a = Lib.itoa b) : a = b := by
  unfold Lib.itoa at h
  have no : ∀ (u : Nat) (l : List UInt8), 45 :: l ≠ Lib.decDigits u := fun u l e => by
    have := dec_all u 45 (by rw [← e]; exact List.mem_cons_self)
    revert this; decide
  split at h
  · split at h
    · injection h with _ h; have := dec_inj h; omega
    · exact absurd h (no _ _)
  · split at h
    · exact absurd h.symm (no _ _)
    · have := dec_inj h; omega
theorem int_inj {a b : Int} {r s : List UInt8} (hr : Dl r) (hs : Dl s) (h : Lib.itoa a ++ r = Lib.itoa b ++ s) : a = b ∧ r = s := by
  obtain ⟨e1, e2⟩ := split_eq (itoa_all a) (itoa_all b) (hr.not (by decide)) (hs.not (by decide)) h
  exact ⟨itoa_inj e1, e2⟩
theorem bare_letters {l : List UInt8} (h : bareB l = true) : ∀ c ∈ l, letterB c = true := by
  cases l with
  | nil => intro c hc; cases hc
  | cons x r =>
    simp only [bareB, Bool.and_eq_true] at h
    exact List.all_eq_true.1 h.2
theorem bare_head {l : List UInt8} (h : bareB l = true) : ∃ c r, l = c :: r ∧ smallB c = true := by
  cases l with
  | nil => cases h
  | cons c r =>
    simp only [bareB, Bool.and_eq_true] at h
    exact ⟨c, r, rfl, h.1⟩
theorem name_inj {a b r s : List UInt8} (ha : ∀ c ∈ a, okByte c = true) (hb : ∀ c ∈ b, okByte c = true) (hr : ∀ c r', r = c :: r' → c = 40 ∨ c ∈ [41, 44, 93, 124, 32, 46]) (hs : ∀ c r', s = c :: r' → c = 40 ∨ c ∈ [41, 44, 93, 124, 32, 46]) (h : nameL a ++ r = nameL b ++ s) : a = b ∧ r = s := by
  have hl : ∀ l : List UInt8, (∀ c r', l = c :: r' → c = 40 ∨ c ∈ [41, 44, 93, 124, 32, 46]) → ∀ c r', l = c :: r' → letterB c = false := fun l hl c r' e => by
    rcases hl c r' e with rfl | h
    · decide
    · exact (by decide : ∀ c ∈ ([41, 44, 93, 124, 32, 46] : List UInt8), letterB c = false) c h
  have hq : ∀ l : List UInt8, (∀ c ∈ l, okByte c = true) → ∀ c ∈ l, notQ c = true := fun l hl c hc => by
    have := hl c hc
    unfold okByte at this
    simp only [Bool.and_eq_true, Bool.not_eq_true', beq_eq_false_iff_ne] at this
    unfold notQ
    simp only [Bool.not_eq_true', beq_eq_false_iff_ne]
    intro e; subst e; exact this.2 rfl
  have hnx : ∀ l : List UInt8, ∀ c r', (39 : UInt8) :: l = c :: r' → notQ c = false := fun l c r' e => by injection e with e _; subst e; decide
  unfold nameL at h
  split at h
  · next h1 =>
    split at h
    · next h2 => exact split_eq (bare_letters h1) (bare_letters h2) (hl r hr) (hl s hs) h
    · next h2 =>
      obtain ⟨c, r', rfl, hc⟩ := bare_head h1
      simp only [List.cons_append, List.cons.injEq] at h
      rw [h.1] at hc; exact absurd hc (by decide)
  · next h1 =>
    split at h
    · next h2 =>
      obtain ⟨c, r', rfl, hc⟩ := bare_head h2
      simp only [List.cons_append, List.cons.injEq] at h
      rw [← h.1] at hc; exact absurd hc (by decide)
    · next h2 =>
      simp only [List.cons_append, List.append_assoc, List.cons.injEq, true_and, List.nil_append] at h
      obtain ⟨e1, e2⟩ := split_eq (hq a ha) (hq b hb) (hnx r) (hnx s) h
      injection e2 with _ e2
      exact ⟨e1, e2⟩
end Tx
end Go.Proofs.YtabjghmfjoefpaaDoor
