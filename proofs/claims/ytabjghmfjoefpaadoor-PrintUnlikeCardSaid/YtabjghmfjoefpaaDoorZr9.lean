import Derived.Test.YtabjghmfjoefpaaDoorZr8
import Derived.Deep.Slices
import Derived.Deep.Fields
import Derived.ChangeSame
import Derived.ProofKit
import Derived.OpenShut
import Derived.ShutString
import Derived.ChangeOld
import Derived.Lib.SmallJoins
import Derived.Test.YtabjghmfjoefpaaDoorTie
import Derived.Test.YtabjghmfjoefpaaDoorCards
import Derived.Deep.DeepHandedRow
import Derived.Shelf.Vars
import Derived.Stop.LaidErr
import Derived.LaidMore
import Derived.LaidLaws
import Derived.SizedLaws
import Derived.SevenTiedAt
set_option linter.unusedVariables false
namespace Go.Proofs.YtabjghmfjoefpaaDoor
open Go.RowKit
open Md
set_option maxRecDepth 100000 in
set_option maxHeartbeats 32000000 in
theorem lawPLists_any (w : World) (hp : Pow w) (l : List (List Cel)) (a : Option Addr) (cap : Nat) (hl : Row w a cap l) (xs : List Cel) (b0 : Option Addr) (capb : Nat) (hx : Row w b0 capb xs) :
    Calls Tryd.prog 9 #[.slice a l.length cap, .slice b0 xs.length capb] w fun e w' => e = .returned (.bool true) ∧ Below w.heap.size w w' := by
  have hlm := hl.max
  have hll := hl.le
  have HL := mkHid hl
  have HX := mkHid hx
  have HP := mkHid hp
  clear hl hx hp
  go_enter Tryd.func9, Tryd.ntmps9
  go_wp2_with fail
  refine (head6_any _ HP.out).mono ?_
  rintro e w1 ⟨rfl, hb1⟩
  have hrn := Hp.rowN w1 [Hp.nilC] (by intro c hc; simp at hc; subst hc; exact Hp.fit0 _ _ _ (by decide) (by decide) (by decide)) 1 rfl #[.int .i64 3, .string ⟨#[91, 93]⟩, .int .i64 0] rfl (by omega)
  have hbn : Below w1.heap.size w1 (w1.alloc (.cells #[.int .i64 3, .string ⟨#[91, 93]⟩, .int .i64 0] 62)) := (Below.refl _ _).new _
  have hb2 := hb1.then hbn
  have HMD := mkHid (made6 b0 capb _ xs (HX.out.below hb2) 8 (by omega) (by omega))
  rw [show ((8 : Nat) : Int) = 8 from rfl] at HMD
  have HRN := mkHid hrn
  have HB2 := mkHid hb2
  obtain ⟨na, hna⟩ : ∃ na, na = some (⟨w1.heap.size, 0, none⟩ : Addr) := ⟨_, rfl⟩
  have HNA := mkHid hna
  clear hrn hbn hb2 hb1 hna
  go_wp2_with fail
  refine HMD.out.mono ?_
  clear HMD
  rintro e w3 ⟨eb, ec0, u, rfl, hru, huo, hul, hb3⟩
  have hpos := flat_pos u
  obtain ⟨bq, oq, hbq, hbb, hatq⟩ := hru.cases.resolve_left (fun e => by rw [e] at hpos; simp at hpos)
  obtain ⟨c0, c1, c2, hf⟩ := cel_at hatq (Below.refl _ _) hpos
  rw [flat_hd u hpos] at c0 c1 c2 hf
  simp only [Nat.zero_mul, Nat.add_zero] at c0 c1 c2
  have hq := fun W => run_eql_cel u.hd ⟨3, ⟨#[46]⟩, 2⟩ W
  have HN0 : Hid (Row w3 na 1 ([⟨3, ⟨#[91, 93]⟩, 0⟩] : List Cel)) := by rw [Hid, HNA.out]; exact HRN.out.below hb3
  have HB3 : Hid (Below w.heap.size w w3) := HB2.out.then hb3
  cases hd : decide (u.hd = ⟨3, ⟨#[46]⟩, 2⟩) with
  | true =>
    rw [hd] at hq
    have HEO : Hid (Hp.t5.ok) := Hp.nil_ok
    have HE0 : Hid (Row w3 na 1 Hp.t5.flat) := HN0.out
    have hel : Hp.t5.flat.length ≤ 8 := by decide +kernel
    clear hru huo hul hb3 hatq hf hbb HX hd
    subst hbq
    rw [← HNA.out]
    go_wp2
    have hT0 : Row w3 na 1 Hp.t5.flat := HN0.out
    go_loopw [7, 8, 9, 10] (fun tv uv sv iv wr => ∃ (k : Nat) (ys : List Tm) (ta : Option Addr) (tc : Nat) (ua : Option Addr) (uc : Nat), iv = .int .i64 k ∧ ys.length = k ∧ k ≤ 8 ∧ k ≤ l.length ∧ Row wr ta tc (Tx.chain ys Hp.t5).flat ∧ Row wr ua uc (Tx.chain ys Hp.t5).flat ∧ (Tx.chain ys Hp.t5).ok ∧ (Tx.chain ys Hp.t5).ok ∧ (∀ x ∈ ys, x.ok ∧ x.flat.length ≤ 8) ∧ tv = .slice ta (Tx.chain ys Hp.t5).flat.length tc ∧ uv = .slice ua (Tx.chain ys Hp.t5).flat.length uc ∧ Hid (sv = .string (tx (sepL [44] (textsT ys)))) ∧ Below w3.heap.size w3 wr) (fun tv uv sv iv wr => 8 - (intOf iv).toNat)
    case atStart => exact ⟨0, [], na, 1, na, 1, rfl, rfl, by omega, by omega, hT0, HE0.out, Hp.nil_ok, HEO.out, by simp, rfl, rfl, rfl, Below.refl _ _⟩
    case round =>
      clear hT0
      obtain ⟨k, ys, ta, tc, ua, uc, rfl, hyk, hk8, hkl, hT, hU, hTO, hUO, hYS, rfl, rfl, HSS, hb⟩ := hrel
      have HT := mkHid hT
      have HU := mkHid hU
      have HTO := mkHid hTO
      have HUO := mkHid hUO
      have HYS := mkHid hYS
      obtain ⟨s, hs⟩ : ∃ s, s = tx (sepL [44] (textsT ys)) := ⟨_, rfl⟩
      have HSK := mkHid hs
      have hsv := HSS.out
      rw [← hs] at hsv
      subst hsv
      clear hT hU hTO hUO hYS hs HSS
      by_cases hlt : k < l.length
      · by_cases hlt8 : k < 8
        · obtain ⟨b, off, rfl, hbl, hat⟩ := HL.out.cases.resolve_left (fun e => by rw [e] at hlt; simp at hlt)
          obtain ⟨a1, c1, d0, r1⟩ := list_at hat (HB3.out.then hb) hlt
          have hmd := made6 a1 c1 wr l[k] r1 8 (by omega) (by omega)
          rw [show ((8 : Nat) : Int) = 8 from rfl] at hmd
          have HMD := mkHid hmd
          have HBW := mkHid hb
          clear hmd hb hat r1 hbl
          go_wp2_with fail
          refine HMD.out.mono ?_
          clear HMD
          rintro e w4 ⟨ax, cx, x, rfl, hrx, hxo, hxl, hb4⟩
          have hT4 := HT.out.below hb4
          have hU4 := HU.out.below hb4
          have hxo2 : oks [x, Tx.chain ys Hp.t5] := ⟨hxo, HTO.out, trivial⟩
          have hxo3 : oks [x, Tx.chain ys Hp.t5] := ⟨hxo, HUO.out, trivial⟩
          have hln := Tx.chain_len ys Hp.t5 8 (fun t ht => (HYS.out t ht).2)
          have hln2 := Tx.chain_len ys Hp.t5 8 (fun t ht => (HYS.out t ht).2)
          have hm9 : ys.length * (8 + 1) ≤ 7 * 9 := Nat.mul_le_mul (by omega) (by omega)
          have ht51 : Hp.t5.flat.length = 1 := by decide +kernel
          have rw1 := rowTwo w4 hrx hT4
          have hn1 := (Below.refl w4.heap.size w4).new (.cells #[.slice ax x.flat.length cx, .slice ta (Tx.chain ys Hp.t5).flat.length tc] 22)
          have HM1 := mkHid (umk ⟨#[46]⟩ [x, Tx.chain ys Hp.t5] 2 rfl (by omega) hxo2 (by decide +kernel) (by decide) (by simp only [flats, List.length_append, List.length_nil]; omega) _ _ _ rw1)
          have HRX := mkHid hrx
          have HXO := mkHid hxo
          have HU4 := mkHid hU4
          have HB4 := mkHid (HBW.out.then hb4)
          have HN1 := mkHid hn1
          have HXO3 := mkHid hxo3
          clear hrx hxo hT4 hU4 hxo2 hxo3 rw1 hn1 hb4 HT
          go_wp2_with fail
          refine HM1.out.mono ?_
          clear HM1
          rintro e w5 ⟨at5, ct5, rfl, hr5, ho5, hb5⟩
          have hb45 := HN1.out.then hb5
          have rw2 := rowTwo w5 (HRX.out.below hb45) (HU4.out.below hb45)
          have hn2 := (Below.refl w5.heap.size w5).new (.cells #[.slice ax x.flat.length cx, .slice ua (Tx.chain ys Hp.t5).flat.length uc] 22)
          have HM2 := mkHid (umk ⟨#[46]⟩ [x, Tx.chain ys Hp.t5] 2 rfl (by omega) HXO3.out (by decide +kernel) (by decide) (by simp only [flats, List.length_append, List.length_nil]; omega) _ _ _ rw2)
          have HR5 := mkHid hr5
          have HO5 := mkHid ho5
          have HB5 := mkHid hb45
          have HN2 := mkHid hn2
          clear hr5 ho5 hb5 hb45 rw2 hn2
          go_wp2_with fail
          refine HM2.out.mono ?_
          clear HM2
          rintro e w6 ⟨au6, cu6, rfl, hr6, ho6, hb6⟩
          have hb56 := HN2.out.then hb6
          have hb46 := HB5.out.then hb56
          have hb06 := HB4.out.then hb46
          have hxt := text_small HXO.out (by omega)
          have HPT := mkHid (pterm_any x HXO.out (by omega) ax cx w6 (by omega) (Hp.pow_then HP.out (HB3.out.then hb06)) (HRX.out.below hb46))
          have HR5' := mkHid (HR5.out.below hb56)
          have HR6 := mkHid hr6
          have HO6 := mkHid ho6
          have HB6 := mkHid hb06
          obtain ⟨u, hu⟩ : ∃ u, u = tx (textT x) := ⟨_, rfl⟩
          rw [← hu] at HPT
          have hu1 : u.size = (textT x).length := by rw [hu, tx_size]
          have hsl := Tx.sep_len HYS.out
          have hsm : ys.length * (40 * 8 + 1) ≤ 7 * 321 := Nat.mul_le_mul (by omega) (by omega)
          have hs1 : s.size = (sepL [44] (textsT ys)).length := by rw [HSK.out, tx_size]
          have HYS2 : Hid (∀ t ∈ x :: ys, t.ok ∧ t.flat.length ≤ 8) := mkHid (fun t ht => by
            rcases List.mem_cons.1 ht with rfl | ht
            · exact ⟨HXO.out, hxl⟩
            · exact HYS.out t ht)
          have hsb : s.size + u.size ≤ 20000 := by rw [hs1, hu1]; omega
          clear hr6 ho6 hb6 hb56 hb46 hb06 hln hln2 hm9 hsl hxt
          by_cases h0 : 0 < k
          · have HE : Hid (u ++ ((⟨#[44]⟩ : ByteArray) ++ s) = tx (sepL [44] (textsT (x :: ys)))) := by
              have hne : ys ≠ [] := fun e => by rw [e] at hyk; simp at hyk; omega
              rw [Hid, hu, HSK.out, Tx.sep_cons x hne, show (⟨#[44]⟩ : ByteArray) = tx [44] from rfl, tx_append, tx_append]; rfl
            have z1 : ¬ 9223372036854775807 < 1 + s.size := by omega
            have z2 : ¬ 9223372036854775807 < u.size + (1 + s.size) := by omega
            clear hu hu1 hs1 hsm
            go_wp2_with fail
            refine HPT.out.mono ?_
            rintro e w7 ⟨rfl, hb7⟩
            have HB7 := mkHid hb7
            clear hb7
            go_wp2
            go_round
            case rel => exact ⟨k + 1, x :: ys, at5, ct5, au6, cu6, by go_num, by simp; omega, by omega, by omega, HR5'.out.below HB7.out, HR6.out.below HB7.out, HO5.out, HO6.out, HYS2.out, by simp [Tx.chain], by simp [Tx.chain], by rw [Hid, ← HE.out], HB6.out.then HB7.out⟩
            case measure => simp [intOf]; omega
          · have hk0 : k = 0 := by omega
            have hys : ys = [] := List.eq_nil_of_length_eq_zero (by omega)
            have HE : Hid (u ++ s = tx (sepL [44] (textsT (x :: ys)))) := by
              rw [Hid, hu, HSK.out, hys, tx_append]; simp [textsT, sepL]
            have z2 : ¬ 9223372036854775807 < u.size + s.size := by omega
            clear hu hu1 hs1 hsm hk0 hys
            go_wp2_with fail
            refine HPT.out.mono ?_
            rintro e w7 ⟨rfl, hb7⟩
            have HB7 := mkHid hb7
            clear hb7
            go_wp2
            go_round
            case rel => exact ⟨k + 1, x :: ys, at5, ct5, au6, cu6, by go_num, by simp; omega, by omega, by omega, HR5'.out.below HB7.out, HR6.out.below HB7.out, HO5.out, HO6.out, HYS2.out, by simp [Tx.chain], by simp [Tx.chain], by rw [Hid, ← HE.out], HB6.out.then HB7.out⟩
            case measure => simp [intOf]; omega
        · have hln := Tx.chain_len ys Hp.t5 8 (fun t ht => (HYS.out t ht).2)
          have hln2 := Tx.chain_len ys Hp.t5 8 (fun t ht => (HYS.out t ht).2)
          have hm9 : ys.length * (8 + 1) ≤ 8 * 9 := Nat.mul_le_mul (by omega) (by omega)
          have ht51 : Hp.t5.flat.length = 1 := by decide +kernel
          have hpw : ∀ W, Below wr.heap.size wr W → Pow W := fun W h => Hp.pow_then HP.out (HB3.out.then (hb.then h))
          have hbr := Below.refl wr.heap.size wr
          have HBW := mkHid hb
          have HPW := mkHid hpw
          have htt := text_small HTO.out (by omega)
          have htu := text_small HUO.out (by omega)
          by_cases hl0 : l.length = 0
          · have hys : ys = [] := List.eq_nil_of_length_eq_zero (by omega)
            have hT := HT.out
            have hTO := HTO.out
            rw [hys] at hT hTO htt
            have hlz : ((l.length : Int) == 0) = true := by rw [beq_iff_eq]; omega
            have HPT := mkHid (Hp.term_is Hp.t5 Hp.nil_ok 1 (by decide +kernel) (by omega) Hp.x5 (by decide) ta tc wr (hpw _ hbr) hT rfl)
            have hfl : (Tx.chain ys Hp.t5).flat.length = 1 := by rw [hys]; decide +kernel
            rw [hfl]
            clear hys hT hTO hpw hbr hb hfl hl0 hln hln2
            go_wp2_with fail
            refine HPT.out.mono ?_
            rintro e w7 ⟨rfl, hb7⟩
            go_wp2_with fail
            go_ret
            exact ⟨rfl, HB3.out.then (HBW.out.then hb7)⟩
          · have hlz : ((l.length : Int) == 0) = false := by rw [beq_eq_false_iff_ne]; omega
            obtain ⟨y, yr, hyr⟩ : ∃ y yr, ys = y :: yr := by
              cases ys with
              | nil => simp at hyk; omega
              | cons y yr => exact ⟨y, yr, rfl⟩
            have hsl := Tx.sep_len HYS.out
            have hsm : ys.length * (40 * 8 + 1) ≤ 8 * 321 := Nat.mul_le_mul (by omega) (by omega)
            have hs1 : s.size = (sepL [44] (textsT ys)).length := by rw [HSK.out, tx_size]
            have HTX : Hid ((⟨#[91]⟩ : ByteArray) ++ s ++ ⟨#[93]⟩ = tx (textT (Tx.chain ys Hp.t5))) := by
              rw [Hid, hyr, Tx.chain_text, HSK.out, Tx.beh_nil0, hyr, show (⟨#[91]⟩ : ByteArray) = tx [91] from rfl, show (⟨#[93]⟩ : ByteArray) = tx [93] from rfl, tx_append, tx_append]; rfl
            have z1 : ¬ 9223372036854775807 < 1 + s.size := by omega
            have z2 : ¬ 9223372036854775807 < 1 + s.size + 1 := by omega
            have HPT : Hid (∀ W, Below wr.heap.size wr W → Calls Tryd.prog 16 #[.slice ta (Tx.chain ys Hp.t5).flat.length tc] W fun e w' => e = .returned (.string ((⟨#[91]⟩ : ByteArray) ++ s ++ ⟨#[93]⟩)) ∧ Below W.heap.size W w') := fun W h => by
              rw [HTX.out]; exact pterm_any _ HTO.out (by omega) ta tc W (by omega) (hpw W h) (HT.out.below h)
            have HSM := mkHid (refsame_any na 1 na 1 wr [⟨3, ⟨#[91, 93]⟩, 0⟩] [⟨3, ⟨#[91, 93]⟩, 0⟩] (HN0.out.below hb) (HN0.out.below hb))
            rw [decide_eq_true rfl] at HSM
            have HPU : Hid (∀ W, Below wr.heap.size wr W → Calls Tryd.prog 16 #[.slice ua (Tx.chain ys Hp.t5).flat.length uc] W fun e w' => e = .returned (.string ((⟨#[91]⟩ : ByteArray) ++ s ++ ⟨#[93]⟩)) ∧ Below W.heap.size W w') := fun W h => by
              rw [HTX.out]
              have h2 := pterm_any _ HUO.out (by omega) ua uc W (by omega) (hpw W h) (HU.out.below h)
              have e5 : textT (Tx.chain ys Hp.t5) = textT (Tx.chain ys Hp.t5) := rfl
              rwa [e5] at h2
            clear hyr hsl hsm hpw hb hln hln2 hl0
            go_wp2_with fail
            refine HSM.out.mono ?_
            rintro e w7 ⟨rfl, hb7⟩
            have HB7 := mkHid hb7
            clear hb7
            go_wp2_with fail
            refine (HPT.out _ HB7.out).mono ?_
            rintro e w8 ⟨rfl, hb8⟩
            have HB8 := mkHid (HB7.out.then hb8)
            clear hb8
            go_wp2_with fail
            refine (HPU.out _ HB8.out).mono ?_
            rintro e w9 ⟨rfl, hb9⟩
            have HB9 := mkHid (HB8.out.then hb9)
            clear hb9
            go_wp2_with fail
            go_ret
            exact ⟨rfl, HB3.out.then (HBW.out.then HB9.out)⟩
      · have hln := Tx.chain_len ys Hp.t5 8 (fun t ht => (HYS.out t ht).2)
        have hln2 := Tx.chain_len ys Hp.t5 8 (fun t ht => (HYS.out t ht).2)
        have hm9 : ys.length * (8 + 1) ≤ 8 * 9 := Nat.mul_le_mul (by omega) (by omega)
        have ht51 : Hp.t5.flat.length = 1 := by decide +kernel
        have hpw : ∀ W, Below wr.heap.size wr W → Pow W := fun W h => Hp.pow_then HP.out (HB3.out.then (hb.then h))
        have hbr := Below.refl wr.heap.size wr
        have HBW := mkHid hb
        have HPW := mkHid hpw
        have htt := text_small HTO.out (by omega)
        have htu := text_small HUO.out (by omega)
        by_cases hl0 : l.length = 0
        · have hys : ys = [] := List.eq_nil_of_length_eq_zero (by omega)
          have hT := HT.out
          have hTO := HTO.out
          rw [hys] at hT hTO htt
          have hlz : ((l.length : Int) == 0) = true := by rw [beq_iff_eq]; omega
          have HPT := mkHid (Hp.term_is Hp.t5 Hp.nil_ok 1 (by decide +kernel) (by omega) Hp.x5 (by decide) ta tc wr (hpw _ hbr) hT rfl)
          have hfl : (Tx.chain ys Hp.t5).flat.length = 1 := by rw [hys]; decide +kernel
          rw [hfl]
          clear hys hT hTO hpw hbr hb hfl hl0 hln hln2
          go_wp2_with fail
          refine HPT.out.mono ?_
          rintro e w7 ⟨rfl, hb7⟩
          go_wp2_with fail
          go_ret
          exact ⟨rfl, HB3.out.then (HBW.out.then hb7)⟩
        · have hlz : ((l.length : Int) == 0) = false := by rw [beq_eq_false_iff_ne]; omega
          obtain ⟨y, yr, hyr⟩ : ∃ y yr, ys = y :: yr := by
            cases ys with
            | nil => simp at hyk; omega
            | cons y yr => exact ⟨y, yr, rfl⟩
          have hsl := Tx.sep_len HYS.out
          have hsm : ys.length * (40 * 8 + 1) ≤ 8 * 321 := Nat.mul_le_mul (by omega) (by omega)
          have hs1 : s.size = (sepL [44] (textsT ys)).length := by rw [HSK.out, tx_size]
          have HTX : Hid ((⟨#[91]⟩ : ByteArray) ++ s ++ ⟨#[93]⟩ = tx (textT (Tx.chain ys Hp.t5))) := by
            rw [Hid, hyr, Tx.chain_text, HSK.out, Tx.beh_nil0, hyr, show (⟨#[91]⟩ : ByteArray) = tx [91] from rfl, show (⟨#[93]⟩ : ByteArray) = tx [93] from rfl, tx_append, tx_append]; rfl
          have z1 : ¬ 9223372036854775807 < 1 + s.size := by omega
          have z2 : ¬ 9223372036854775807 < 1 + s.size + 1 := by omega
          have HPT : Hid (∀ W, Below wr.heap.size wr W → Calls Tryd.prog 16 #[.slice ta (Tx.chain ys Hp.t5).flat.length tc] W fun e w' => e = .returned (.string ((⟨#[91]⟩ : ByteArray) ++ s ++ ⟨#[93]⟩)) ∧ Below W.heap.size W w') := fun W h => by
            rw [HTX.out]; exact pterm_any _ HTO.out (by omega) ta tc W (by omega) (hpw W h) (HT.out.below h)
          have HSM := mkHid (refsame_any na 1 na 1 wr [⟨3, ⟨#[91, 93]⟩, 0⟩] [⟨3, ⟨#[91, 93]⟩, 0⟩] (HN0.out.below hb) (HN0.out.below hb))
          rw [decide_eq_true rfl] at HSM
          have HPU : Hid (∀ W, Below wr.heap.size wr W → Calls Tryd.prog 16 #[.slice ua (Tx.chain ys Hp.t5).flat.length uc] W fun e w' => e = .returned (.string ((⟨#[91]⟩ : ByteArray) ++ s ++ ⟨#[93]⟩)) ∧ Below W.heap.size W w') := fun W h => by
            rw [HTX.out]
            have h2 := pterm_any _ HUO.out (by omega) ua uc W (by omega) (hpw W h) (HU.out.below h)
            have e5 : textT (Tx.chain ys Hp.t5) = textT (Tx.chain ys Hp.t5) := rfl
            rwa [e5] at h2
          clear hyr hsl hsm hpw hb hln hln2 hl0
          go_wp2_with fail
          refine HSM.out.mono ?_
          rintro e w7 ⟨rfl, hb7⟩
          have HB7 := mkHid hb7
          clear hb7
          go_wp2_with fail
          refine (HPT.out _ HB7.out).mono ?_
          rintro e w8 ⟨rfl, hb8⟩
          have HB8 := mkHid (HB7.out.then hb8)
          clear hb8
          go_wp2_with fail
          refine (HPU.out _ HB8.out).mono ?_
          rintro e w9 ⟨rfl, hb9⟩
          have HB9 := mkHid (HB8.out.then hb9)
          clear hb9
          go_wp2_with fail
          go_ret
          exact ⟨rfl, HB3.out.then (HBW.out.then HB9.out)⟩
  | false =>
    rw [hd] at hq
    have HEO := mkHid huo
    have HED : Hid (isC u.hd [46] 2 = false) := by
      rw [Hid, ← isC_iff u.hd ⟨#[46]⟩ 2]; exact hd
    have HE0 : Hid (Row w3 eb ec0 u.flat) := hru
    clear huo hru hb3 hf hbb HX hd hatq
    subst hbq
    rw [← HNA.out]
    go_wp2
    have hT0 : Row w3 na 1 Hp.t5.flat := HN0.out
    go_loopw [7, 8, 9, 10] (fun tv uv sv iv wr => ∃ (k : Nat) (ys : List Tm) (ta : Option Addr) (tc : Nat) (ua : Option Addr) (uc : Nat), iv = .int .i64 k ∧ ys.length = k ∧ k ≤ 8 ∧ k ≤ l.length ∧ Row wr ta tc (Tx.chain ys Hp.t5).flat ∧ Row wr ua uc (Tx.chain ys u).flat ∧ (Tx.chain ys Hp.t5).ok ∧ (Tx.chain ys u).ok ∧ (∀ x ∈ ys, x.ok ∧ x.flat.length ≤ 8) ∧ tv = .slice ta (Tx.chain ys Hp.t5).flat.length tc ∧ uv = .slice ua (Tx.chain ys u).flat.length uc ∧ Hid (sv = .string (tx (sepL [44] (textsT ys)))) ∧ Below w3.heap.size w3 wr) (fun tv uv sv iv wr => 8 - (intOf iv).toNat)
    case atStart => exact ⟨0, [], na, 1, (some ⟨bq, oq, none⟩), ec0, rfl, rfl, by omega, by omega, hT0, HE0.out, Hp.nil_ok, HEO.out, by simp, rfl, rfl, rfl, Below.refl _ _⟩
    case round =>
      clear hT0
      obtain ⟨k, ys, ta, tc, ua, uc, rfl, hyk, hk8, hkl, hT, hU, hTO, hUO, hYS, rfl, rfl, HSS, hb⟩ := hrel
      have HT := mkHid hT
      have HU := mkHid hU
      have HTO := mkHid hTO
      have HUO := mkHid hUO
      have HYS := mkHid hYS
      obtain ⟨s, hs⟩ : ∃ s, s = tx (sepL [44] (textsT ys)) := ⟨_, rfl⟩
      have HSK := mkHid hs
      have hsv := HSS.out
      rw [← hs] at hsv
      subst hsv
      clear hT hU hTO hUO hYS hs HSS
      by_cases hlt : k < l.length
      · by_cases hlt8 : k < 8
        · obtain ⟨b, off, rfl, hbl, hat⟩ := HL.out.cases.resolve_left (fun e => by rw [e] at hlt; simp at hlt)
          obtain ⟨a1, c1, d0, r1⟩ := list_at hat (HB3.out.then hb) hlt
          have hmd := made6 a1 c1 wr l[k] r1 8 (by omega) (by omega)
          rw [show ((8 : Nat) : Int) = 8 from rfl] at hmd
          have HMD := mkHid hmd
          have HBW := mkHid hb
          clear hmd hb hat r1 hbl
          go_wp2_with fail
          refine HMD.out.mono ?_
          clear HMD
          rintro e w4 ⟨ax, cx, x, rfl, hrx, hxo, hxl, hb4⟩
          have hT4 := HT.out.below hb4
          have hU4 := HU.out.below hb4
          have hxo2 : oks [x, Tx.chain ys Hp.t5] := ⟨hxo, HTO.out, trivial⟩
          have hxo3 : oks [x, Tx.chain ys u] := ⟨hxo, HUO.out, trivial⟩
          have hln := Tx.chain_len ys Hp.t5 8 (fun t ht => (HYS.out t ht).2)
          have hln2 := Tx.chain_len ys u 8 (fun t ht => (HYS.out t ht).2)
          have hm9 : ys.length * (8 + 1) ≤ 7 * 9 := Nat.mul_le_mul (by omega) (by omega)
          have ht51 : Hp.t5.flat.length = 1 := by decide +kernel
          have rw1 := rowTwo w4 hrx hT4
          have hn1 := (Below.refl w4.heap.size w4).new (.cells #[.slice ax x.flat.length cx, .slice ta (Tx.chain ys Hp.t5).flat.length tc] 22)
          have HM1 := mkHid (umk ⟨#[46]⟩ [x, Tx.chain ys Hp.t5] 2 rfl (by omega) hxo2 (by decide +kernel) (by decide) (by simp only [flats, List.length_append, List.length_nil]; omega) _ _ _ rw1)
          have HRX := mkHid hrx
          have HXO := mkHid hxo
          have HU4 := mkHid hU4
          have HB4 := mkHid (HBW.out.then hb4)
          have HN1 := mkHid hn1
          have HXO3 := mkHid hxo3
          clear hrx hxo hT4 hU4 hxo2 hxo3 rw1 hn1 hb4 HT
          go_wp2_with fail
          refine HM1.out.mono ?_
          clear HM1
          rintro e w5 ⟨at5, ct5, rfl, hr5, ho5, hb5⟩
          have hb45 := HN1.out.then hb5
          have rw2 := rowTwo w5 (HRX.out.below hb45) (HU4.out.below hb45)
          have hn2 := (Below.refl w5.heap.size w5).new (.cells #[.slice ax x.flat.length cx, .slice ua (Tx.chain ys u).flat.length uc] 22)
          have HM2 := mkHid (umk ⟨#[46]⟩ [x, Tx.chain ys u] 2 rfl (by omega) HXO3.out (by decide +kernel) (by decide) (by simp only [flats, List.length_append, List.length_nil]; omega) _ _ _ rw2)
          have HR5 := mkHid hr5
          have HO5 := mkHid ho5
          have HB5 := mkHid hb45
          have HN2 := mkHid hn2
          clear hr5 ho5 hb5 hb45 rw2 hn2
          go_wp2_with fail
          refine HM2.out.mono ?_
          clear HM2
          rintro e w6 ⟨au6, cu6, rfl, hr6, ho6, hb6⟩
          have hb56 := HN2.out.then hb6
          have hb46 := HB5.out.then hb56
          have hb06 := HB4.out.then hb46
          have hxt := text_small HXO.out (by omega)
          have HPT := mkHid (pterm_any x HXO.out (by omega) ax cx w6 (by omega) (Hp.pow_then HP.out (HB3.out.then hb06)) (HRX.out.below hb46))
          have HR5' := mkHid (HR5.out.below hb56)
          have HR6 := mkHid hr6
          have HO6 := mkHid ho6
          have HB6 := mkHid hb06
          obtain ⟨u, hu⟩ : ∃ u, u = tx (textT x) := ⟨_, rfl⟩
          rw [← hu] at HPT
          have hu1 : u.size = (textT x).length := by rw [hu, tx_size]
          have hsl := Tx.sep_len HYS.out
          have hsm : ys.length * (40 * 8 + 1) ≤ 7 * 321 := Nat.mul_le_mul (by omega) (by omega)
          have hs1 : s.size = (sepL [44] (textsT ys)).length := by rw [HSK.out, tx_size]
          have HYS2 : Hid (∀ t ∈ x :: ys, t.ok ∧ t.flat.length ≤ 8) := mkHid (fun t ht => by
            rcases List.mem_cons.1 ht with rfl | ht
            · exact ⟨HXO.out, hxl⟩
            · exact HYS.out t ht)
          have hsb : s.size + u.size ≤ 20000 := by rw [hs1, hu1]; omega
          clear hr6 ho6 hb6 hb56 hb46 hb06 hln hln2 hm9 hsl hxt
          by_cases h0 : 0 < k
          · have HE : Hid (u ++ ((⟨#[44]⟩ : ByteArray) ++ s) = tx (sepL [44] (textsT (x :: ys)))) := by
              have hne : ys ≠ [] := fun e => by rw [e] at hyk; simp at hyk; omega
              rw [Hid, hu, HSK.out, Tx.sep_cons x hne, show (⟨#[44]⟩ : ByteArray) = tx [44] from rfl, tx_append, tx_append]; rfl
            have z1 : ¬ 9223372036854775807 < 1 + s.size := by omega
            have z2 : ¬ 9223372036854775807 < u.size + (1 + s.size) := by omega
            clear hu hu1 hs1 hsm
            go_wp2_with fail
            refine HPT.out.mono ?_
            rintro e w7 ⟨rfl, hb7⟩
            have HB7 := mkHid hb7
            clear hb7
            go_wp2
            go_round
            case rel => exact ⟨k + 1, x :: ys, at5, ct5, au6, cu6, by go_num, by simp; omega, by omega, by omega, HR5'.out.below HB7.out, HR6.out.below HB7.out, HO5.out, HO6.out, HYS2.out, by simp [Tx.chain], by simp [Tx.chain], by rw [Hid, ← HE.out], HB6.out.then HB7.out⟩
            case measure => simp [intOf]; omega
          · have hk0 : k = 0 := by omega
            have hys : ys = [] := List.eq_nil_of_length_eq_zero (by omega)
            have HE : Hid (u ++ s = tx (sepL [44] (textsT (x :: ys)))) := by
              rw [Hid, hu, HSK.out, hys, tx_append]; simp [textsT, sepL]
            have z2 : ¬ 9223372036854775807 < u.size + s.size := by omega
            clear hu hu1 hs1 hsm hk0 hys
            go_wp2_with fail
            refine HPT.out.mono ?_
            rintro e w7 ⟨rfl, hb7⟩
            have HB7 := mkHid hb7
            clear hb7
            go_wp2
            go_round
            case rel => exact ⟨k + 1, x :: ys, at5, ct5, au6, cu6, by go_num, by simp; omega, by omega, by omega, HR5'.out.below HB7.out, HR6.out.below HB7.out, HO5.out, HO6.out, HYS2.out, by simp [Tx.chain], by simp [Tx.chain], by rw [Hid, ← HE.out], HB6.out.then HB7.out⟩
            case measure => simp [intOf]; omega
        · have hln := Tx.chain_len ys Hp.t5 8 (fun t ht => (HYS.out t ht).2)
          have hln2 := Tx.chain_len ys u 8 (fun t ht => (HYS.out t ht).2)
          have hm9 : ys.length * (8 + 1) ≤ 8 * 9 := Nat.mul_le_mul (by omega) (by omega)
          have ht51 : Hp.t5.flat.length = 1 := by decide +kernel
          have hpw : ∀ W, Below wr.heap.size wr W → Pow W := fun W h => Hp.pow_then HP.out (HB3.out.then (hb.then h))
          have hbr := Below.refl wr.heap.size wr
          have HBW := mkHid hb
          have HPW := mkHid hpw
          have htt := text_small HTO.out (by omega)
          have htu := text_small HUO.out (by omega)
          by_cases hl0 : l.length = 0
          · have hys : ys = [] := List.eq_nil_of_length_eq_zero (by omega)
            have hT := HT.out
            have hTO := HTO.out
            rw [hys] at hT hTO htt
            have hlz : ((l.length : Int) == 0) = true := by rw [beq_iff_eq]; omega
            have HPT := mkHid (Hp.term_is Hp.t5 Hp.nil_ok 1 (by decide +kernel) (by omega) Hp.x5 (by decide) ta tc wr (hpw _ hbr) hT rfl)
            have hfl : (Tx.chain ys Hp.t5).flat.length = 1 := by rw [hys]; decide +kernel
            rw [hfl]
            clear hys hT hTO hpw hbr hb hfl hl0 hln hln2
            go_wp2_with fail
            refine HPT.out.mono ?_
            rintro e w7 ⟨rfl, hb7⟩
            go_wp2_with fail
            go_ret
            exact ⟨rfl, HB3.out.then (HBW.out.then hb7)⟩
          · have hlz : ((l.length : Int) == 0) = false := by rw [beq_eq_false_iff_ne]; omega
            obtain ⟨y, yr, hyr⟩ : ∃ y yr, ys = y :: yr := by
              cases ys with
              | nil => simp at hyk; omega
              | cons y yr => exact ⟨y, yr, rfl⟩
            have hsl := Tx.sep_len HYS.out
            have hsm : ys.length * (40 * 8 + 1) ≤ 8 * 321 := Nat.mul_le_mul (by omega) (by omega)
            have hs1 : s.size = (sepL [44] (textsT ys)).length := by rw [HSK.out, tx_size]
            have HTX : Hid ((⟨#[91]⟩ : ByteArray) ++ s ++ ⟨#[93]⟩ = tx (textT (Tx.chain ys Hp.t5))) := by
              rw [Hid, hyr, Tx.chain_text, HSK.out, Tx.beh_nil0, hyr, show (⟨#[91]⟩ : ByteArray) = tx [91] from rfl, show (⟨#[93]⟩ : ByteArray) = tx [93] from rfl, tx_append, tx_append]; rfl
            have z1 : ¬ 9223372036854775807 < 1 + s.size := by omega
            have z2 : ¬ 9223372036854775807 < 1 + s.size + 1 := by omega
            have HPT : Hid (∀ W, Below wr.heap.size wr W → Calls Tryd.prog 16 #[.slice ta (Tx.chain ys Hp.t5).flat.length tc] W fun e w' => e = .returned (.string ((⟨#[91]⟩ : ByteArray) ++ s ++ ⟨#[93]⟩)) ∧ Below W.heap.size W w') := fun W h => by
              rw [HTX.out]; exact pterm_any _ HTO.out (by omega) ta tc W (by omega) (hpw W h) (HT.out.below h)
            have HSM := mkHid (refsame_any (some ⟨bq, oq, none⟩) ec0 na 1 wr u.flat [⟨3, ⟨#[91, 93]⟩, 0⟩] (HE0.out.below hb) (HN0.out.below hb))
            cases hnl : isC u.hd [91, 93] 0 with
            | true =>
              have he0 : u = Hp.t5 := Tx.nil_tree HEO.out hnl
              have hsame : decide (u.flat = [⟨3, ⟨#[91, 93]⟩, 0⟩]) = true := by rw [he0]; decide +kernel
              rw [hsame] at HSM
              have HPU : Hid (∀ W, Below wr.heap.size wr W → Calls Tryd.prog 16 #[.slice ua (Tx.chain ys u).flat.length uc] W fun e w' => e = .returned (.string ((⟨#[91]⟩ : ByteArray) ++ s ++ ⟨#[93]⟩)) ∧ Below W.heap.size W w') := fun W h => by
                rw [HTX.out]
                have h2 := pterm_any _ HUO.out (by omega) ua uc W (by omega) (hpw W h) (HU.out.below h)
                have e5 : textT (Tx.chain ys u) = textT (Tx.chain ys Hp.t5) := by rw [he0]
                rwa [e5] at h2
              clear he0 hsame hnl hyr hsl hsm hpw hb hln hln2 hl0
              go_wp2_with fail
              refine HSM.out.mono ?_
              rintro e w7 ⟨rfl, hb7⟩
              have HB7 := mkHid hb7
              clear hb7
              go_wp2_with fail
              refine (HPT.out _ HB7.out).mono ?_
              rintro e w8 ⟨rfl, hb8⟩
              have HB8 := mkHid (HB7.out.then hb8)
              clear hb8
              go_wp2_with fail
              refine (HPU.out _ HB8.out).mono ?_
              rintro e w9 ⟨rfl, hb9⟩
              have HB9 := mkHid (HB8.out.then hb9)
              clear hb9
              go_wp2_with fail
              go_ret
              exact ⟨rfl, HB3.out.then (HBW.out.then HB9.out)⟩
            | false =>
              have hsame : decide (u.flat = [⟨3, ⟨#[91, 93]⟩, 0⟩]) = false := by
                rw [decide_eq_false]
                intro e
                have h1 : u = Hp.t5 := (Tx.tm_eq u Hp.t5 [] [] HEO.out Hp.nil_ok (by rw [e]; rfl)).1
                rw [h1] at hnl
                exact absurd hnl (by decide +kernel)
              rw [hsame] at HSM
              have hte := text_small HEO.out (by omega)
              obtain ⟨v, hv⟩ : ∃ v, v = tx (textT u) := ⟨_, rfl⟩
              have hv1 : v.size = (textT u).length := by rw [hv, tx_size]
              have HUX : Hid ((⟨#[91]⟩ : ByteArray) ++ s ++ ⟨#[124]⟩ ++ v ++ ⟨#[93]⟩ = tx (textT (Tx.chain ys u))) := by
                rw [Hid, hyr, Tx.chain_text, HSK.out, Tx.beh_end HED.out hnl, hyr, hv, show (⟨#[91]⟩ : ByteArray) = tx [91] from rfl, show (⟨#[93]⟩ : ByteArray) = tx [93] from rfl, show (⟨#[124]⟩ : ByteArray) = tx [124] from rfl]; simp only [tx_append]; simp
              have HPE : Hid (∀ W, Below wr.heap.size wr W → Calls Tryd.prog 16 #[.slice (some ⟨bq, oq, none⟩) u.flat.length ec0] W fun e w' => e = .returned (.string v) ∧ Below W.heap.size W w') := fun W h => by
                rw [hv]; exact pterm_any _ HEO.out (by omega) (some ⟨bq, oq, none⟩) ec0 W (by omega) (hpw W h) (HE0.out.below (HBW.out.then h))
              have HPU : Hid (∀ W, Below wr.heap.size wr W → Calls Tryd.prog 16 #[.slice ua (Tx.chain ys u).flat.length uc] W fun e w' => e = .returned (.string ((⟨#[91]⟩ : ByteArray) ++ s ++ ⟨#[124]⟩ ++ v ++ ⟨#[93]⟩)) ∧ Below W.heap.size W w') := fun W h => by
                rw [HUX.out]
                exact pterm_any _ HUO.out (by omega) ua uc W (by omega) (hpw W h) (HU.out.below h)
              have z3 : ¬ 9223372036854775807 < 1 + s.size + 1 + v.size := by omega
              have z4 : ¬ 9223372036854775807 < 1 + s.size + 1 + v.size + 1 := by omega
              clear hsame hnl hyr hsl hsm hpw hb hln hln2 hl0 hv hte
              go_wp2_with fail
              refine HSM.out.mono ?_
              rintro e w7 ⟨rfl, hb7⟩
              have HB7 := mkHid hb7
              clear hb7
              go_wp2_with fail
              refine (HPT.out _ HB7.out).mono ?_
              rintro e w8 ⟨rfl, hb8⟩
              have HB8 := mkHid (HB7.out.then hb8)
              clear hb8
              go_wp2_with fail
              refine (HPU.out _ HB8.out).mono ?_
              rintro e w9 ⟨rfl, hb9⟩
              have HB9 := mkHid (HB8.out.then hb9)
              clear hb9
              go_wp2_with fail
              refine (HPE.out _ HB9.out).mono ?_
              rintro e w10 ⟨rfl, hb10⟩
              have HB10 := mkHid (HB9.out.then hb10)
              clear hb10
              go_wp2_with fail
              go_ret
              exact ⟨rfl, HB3.out.then (HBW.out.then HB10.out)⟩
      · have hln := Tx.chain_len ys Hp.t5 8 (fun t ht => (HYS.out t ht).2)
        have hln2 := Tx.chain_len ys u 8 (fun t ht => (HYS.out t ht).2)
        have hm9 : ys.length * (8 + 1) ≤ 8 * 9 := Nat.mul_le_mul (by omega) (by omega)
        have ht51 : Hp.t5.flat.length = 1 := by decide +kernel
        have hpw : ∀ W, Below wr.heap.size wr W → Pow W := fun W h => Hp.pow_then HP.out (HB3.out.then (hb.then h))
        have hbr := Below.refl wr.heap.size wr
        have HBW := mkHid hb
        have HPW := mkHid hpw
        have htt := text_small HTO.out (by omega)
        have htu := text_small HUO.out (by omega)
        by_cases hl0 : l.length = 0
        · have hys : ys = [] := List.eq_nil_of_length_eq_zero (by omega)
          have hT := HT.out
          have hTO := HTO.out
          rw [hys] at hT hTO htt
          have hlz : ((l.length : Int) == 0) = true := by rw [beq_iff_eq]; omega
          have HPT := mkHid (Hp.term_is Hp.t5 Hp.nil_ok 1 (by decide +kernel) (by omega) Hp.x5 (by decide) ta tc wr (hpw _ hbr) hT rfl)
          have hfl : (Tx.chain ys Hp.t5).flat.length = 1 := by rw [hys]; decide +kernel
          rw [hfl]
          clear hys hT hTO hpw hbr hb hfl hl0 hln hln2
          go_wp2_with fail
          refine HPT.out.mono ?_
          rintro e w7 ⟨rfl, hb7⟩
          go_wp2_with fail
          go_ret
          exact ⟨rfl, HB3.out.then (HBW.out.then hb7)⟩
        · have hlz : ((l.length : Int) == 0) = false := by rw [beq_eq_false_iff_ne]; omega
          obtain ⟨y, yr, hyr⟩ : ∃ y yr, ys = y :: yr := by
            cases ys with
            | nil => simp at hyk; omega
            | cons y yr => exact ⟨y, yr, rfl⟩
          have hsl := Tx.sep_len HYS.out
          have hsm : ys.length * (40 * 8 + 1) ≤ 8 * 321 := Nat.mul_le_mul (by omega) (by omega)
          have hs1 : s.size = (sepL [44] (textsT ys)).length := by rw [HSK.out, tx_size]
          have HTX : Hid ((⟨#[91]⟩ : ByteArray) ++ s ++ ⟨#[93]⟩ = tx (textT (Tx.chain ys Hp.t5))) := by
            rw [Hid, hyr, Tx.chain_text, HSK.out, Tx.beh_nil0, hyr, show (⟨#[91]⟩ : ByteArray) = tx [91] from rfl, show (⟨#[93]⟩ : ByteArray) = tx [93] from rfl, tx_append, tx_append]; rfl
          have z1 : ¬ 9223372036854775807 < 1 + s.size := by omega
          have z2 : ¬ 9223372036854775807 < 1 + s.size + 1 := by omega
          have HPT : Hid (∀ W, Below wr.heap.size wr W → Calls Tryd.prog 16 #[.slice ta (Tx.chain ys Hp.t5).flat.length tc] W fun e w' => e = .returned (.string ((⟨#[91]⟩ : ByteArray) ++ s ++ ⟨#[93]⟩)) ∧ Below W.heap.size W w') := fun W h => by
            rw [HTX.out]; exact pterm_any _ HTO.out (by omega) ta tc W (by omega) (hpw W h) (HT.out.below h)
          have HSM := mkHid (refsame_any (some ⟨bq, oq, none⟩) ec0 na 1 wr u.flat [⟨3, ⟨#[91, 93]⟩, 0⟩] (HE0.out.below hb) (HN0.out.below hb))
          cases hnl : isC u.hd [91, 93] 0 with
          | true =>
            have he0 : u = Hp.t5 := Tx.nil_tree HEO.out hnl
            have hsame : decide (u.flat = [⟨3, ⟨#[91, 93]⟩, 0⟩]) = true := by rw [he0]; decide +kernel
            rw [hsame] at HSM
            have HPU : Hid (∀ W, Below wr.heap.size wr W → Calls Tryd.prog 16 #[.slice ua (Tx.chain ys u).flat.length uc] W fun e w' => e = .returned (.string ((⟨#[91]⟩ : ByteArray) ++ s ++ ⟨#[93]⟩)) ∧ Below W.heap.size W w') := fun W h => by
              rw [HTX.out]
              have h2 := pterm_any _ HUO.out (by omega) ua uc W (by omega) (hpw W h) (HU.out.below h)
              have e5 : textT (Tx.chain ys u) = textT (Tx.chain ys Hp.t5) := by rw [he0]
              rwa [e5] at h2
            clear he0 hsame hnl hyr hsl hsm hpw hb hln hln2 hl0
            go_wp2_with fail
            refine HSM.out.mono ?_
            rintro e w7 ⟨rfl, hb7⟩
            have HB7 := mkHid hb7
            clear hb7
            go_wp2_with fail
            refine (HPT.out _ HB7.out).mono ?_
            rintro e w8 ⟨rfl, hb8⟩
            have HB8 := mkHid (HB7.out.then hb8)
            clear hb8
            go_wp2_with fail
            refine (HPU.out _ HB8.out).mono ?_
            rintro e w9 ⟨rfl, hb9⟩
            have HB9 := mkHid (HB8.out.then hb9)
            clear hb9
            go_wp2_with fail
            go_ret
            exact ⟨rfl, HB3.out.then (HBW.out.then HB9.out)⟩
          | false =>
            have hsame : decide (u.flat = [⟨3, ⟨#[91, 93]⟩, 0⟩]) = false := by
              rw [decide_eq_false]
              intro e
              have h1 : u = Hp.t5 := (Tx.tm_eq u Hp.t5 [] [] HEO.out Hp.nil_ok (by rw [e]; rfl)).1
              rw [h1] at hnl
              exact absurd hnl (by decide +kernel)
            rw [hsame] at HSM
            have hte := text_small HEO.out (by omega)
            obtain ⟨v, hv⟩ : ∃ v, v = tx (textT u) := ⟨_, rfl⟩
            have hv1 : v.size = (textT u).length := by rw [hv, tx_size]
            have HUX : Hid ((⟨#[91]⟩ : ByteArray) ++ s ++ ⟨#[124]⟩ ++ v ++ ⟨#[93]⟩ = tx (textT (Tx.chain ys u))) := by
              rw [Hid, hyr, Tx.chain_text, HSK.out, Tx.beh_end HED.out hnl, hyr, hv, show (⟨#[91]⟩ : ByteArray) = tx [91] from rfl, show (⟨#[93]⟩ : ByteArray) = tx [93] from rfl, show (⟨#[124]⟩ : ByteArray) = tx [124] from rfl]; simp only [tx_append]; simp
            have HPE : Hid (∀ W, Below wr.heap.size wr W → Calls Tryd.prog 16 #[.slice (some ⟨bq, oq, none⟩) u.flat.length ec0] W fun e w' => e = .returned (.string v) ∧ Below W.heap.size W w') := fun W h => by
              rw [hv]; exact pterm_any _ HEO.out (by omega) (some ⟨bq, oq, none⟩) ec0 W (by omega) (hpw W h) (HE0.out.below (HBW.out.then h))
            have HPU : Hid (∀ W, Below wr.heap.size wr W → Calls Tryd.prog 16 #[.slice ua (Tx.chain ys u).flat.length uc] W fun e w' => e = .returned (.string ((⟨#[91]⟩ : ByteArray) ++ s ++ ⟨#[124]⟩ ++ v ++ ⟨#[93]⟩)) ∧ Below W.heap.size W w') := fun W h => by
              rw [HUX.out]
              exact pterm_any _ HUO.out (by omega) ua uc W (by omega) (hpw W h) (HU.out.below h)
            have z3 : ¬ 9223372036854775807 < 1 + s.size + 1 + v.size := by omega
            have z4 : ¬ 9223372036854775807 < 1 + s.size + 1 + v.size + 1 := by omega
            clear hsame hnl hyr hsl hsm hpw hb hln hln2 hl0 hv hte
            go_wp2_with fail
            refine HSM.out.mono ?_
            rintro e w7 ⟨rfl, hb7⟩
            have HB7 := mkHid hb7
            clear hb7
            go_wp2_with fail
            refine (HPT.out _ HB7.out).mono ?_
            rintro e w8 ⟨rfl, hb8⟩
            have HB8 := mkHid (HB7.out.then hb8)
            clear hb8
            go_wp2_with fail
            refine (HPU.out _ HB8.out).mono ?_
            rintro e w9 ⟨rfl, hb9⟩
            have HB9 := mkHid (HB8.out.then hb9)
            clear hb9
            go_wp2_with fail
            refine (HPE.out _ HB9.out).mono ?_
            rintro e w10 ⟨rfl, hb10⟩
            have HB10 := mkHid (HB9.out.then hb10)
            clear hb10
            go_wp2_with fail
            go_ret
            exact ⟨rfl, HB3.out.then (HBW.out.then HB10.out)⟩
end Go.Proofs.YtabjghmfjoefpaaDoor
set_option linter.unusedVariables false
namespace Go.Proofs.YtabjghmfjoefpaaDoor
open Go.RowKit
open Md
theorem infoRowM : (Tryd.prog.info? 22).map (fun i => (i.zero, i.size, i.bytes)) = some (some (.slice none 0 0), 1, 24) := by kernel_rfl
/-- append of one element, laid just ahead of it; what is read beside the row is read on -/
theorem wpList_accG {α : Type} [RepC α] {P : Program} {w : World} {ops : Array Oper} {rest : List Oper} {o : Oper} {a : Act} {Q : Exit → Act → World → Prop} (hgd : o.guard = none) (s x : Operand) (t : TypeId)
    (ho : o.op = .call { callee := .builtin .append, args := #[s, x], argTypes := #[t, t] })
    (B e bytes : Nat) (z : Value) (ht : P.underlying t = some (.slice e)) (hinfo : (P.info? e).map (fun i => (i.zero, i.size, i.bytes)) = some (some z, Rep.sz α, bytes))
    (hzs : z.cells.size = Rep.sz α) (hby : bytes ≤ 1000)
    (v : Value) (acc : List α) (hacc : AccInv B e acc v w) (hs : a.eval s = v) (T : Nat) (cs : Array Value) (y : α) (hcs : RepC.C (hide v.ownBlock w) cs.toList y)
    (hx : a.eval x = .slice (some ⟨w.heap.size, 0, none⟩) 1 1)
    (hmax : acc.length + 1 ≤ 1000000000) (hB : B ≤ w.heap.size)
    (h : ∀ v' w', AccInv B e (acc ++ [y]) v' w' → Below B w w' → Keeps (hide v.ownBlock w) w' → wpList P ops Q rest (a.put o.dst v') w') : wpList P ops Q (o :: rest) a (w.alloc (.cells cs T)) := by
  obtain ⟨vs, hown, hc⟩ := hacc.ex
  refine wpList_app2 hgd s x t ho B e (Rep.sz α) bytes z ht hinfo hzs RepC.pos hby v acc.length vs hs (hown.alloc _) ⟨w.heap.size, 0, none⟩ 1 1 cs.toList hx (src_new w cs T (Rep.sz α) (by have := RepC.len hcs; simpa using this) (fun u hu => RepC.one hcs u hu)) hmax (Nat.le_trans hB (by simp)) ?_
  intro v' w' h1 _ h3 h4
  refine h v' w' ⟨vs ++ cs.toList, by rw [List.length_append]; exact h1, ?_⟩ (((Below.refl B w).alloc hB _).trans h3) (fun b o u hu => hide_keeps _ _ _ _ _ (h4 _ _ _ (alloc_hide w _ _ _ _ _ hu)))
  exact ((hc.keeps (alloc_hide w _ _)).keeps h4).snoc (RepC.cmono (RepC.cmono hcs (alloc_hide w _ _)) h4)
namespace Tx
/-- a name that begins with f -/
def fName (b : UInt8) : ByteArray := ⟨#[102, b]⟩
theorem fName_ok {b : UInt8} (h : okByte b = true) : nameOk (fName b) = true := by
  have h1 : okByte 102 = true := by decide
  have h2 : (⟨#[102, b]⟩ : ByteArray).size = 2 := rfl
  unfold nameOk fName
  simp [h, h1, h2]
theorem fName_eq (b : UInt8) (r : List UInt8) : (⟨#[102]⟩ : ByteArray) ++ (tx (b :: r)).extract 0 1 = fName b := by
  apply ByteArray.ext
  apply Array.ext'
  simp [tx, fName]
theorem f_text (b : UInt8) (n : Int) (ts : List Tm) : textT (.mk ⟨3, fName b, n⟩ ts) = nameL (fName b).data.toList ++ (if 0 < n then 40 :: (sepL [44] (textsT ts) ++ [41]) else []) := by
  refine text_plain rfl ?_ ?_ ?_ ?_
  · simp [infixB, signs, fName]
  · simp [isC, fName]
  · simp [isC, fName]
  · simp [isC, fName]
theorem plus_text (x y : Tm) : textT (.mk ⟨3, ⟨#[43]⟩, 2⟩ [x, y]) = [40] ++ (textT x ++ ([32, 43, 32] ++ (textT y ++ [41]))) := by
  rw [text_infix rfl (by decide +kernel)]
  simp [textsT, sepL]
theorem minus_text (x : Tm) : textT (.mk ⟨3, ⟨#[45]⟩, 1⟩ [x]) = [45, 40] ++ (textT x ++ [41]) := by
  rw [text_minus rfl (by decide +kernel) (by decide +kernel)]
  simp [textsT, sepL]
theorem sep_snoc (ts : List Tm) (x : Tm) (h : ts ≠ []) : sepL [44] (textsT (ts ++ [x])) = sepL [44] (textsT ts) ++ ([44] ++ textT x) := by
  have e : textsT (ts ++ [x]) = textsT ts ++ [textT x] := by simp [textsT]
  rw [e, sepL_snoc _ (by simpa [textsT] using h)]
theorem flats_len {ts : List Tm} {m : Nat} (h : ∀ t ∈ ts, t.flat.length ≤ m) : (flats ts).length ≤ ts.length * m := by
  induction ts with
  | nil => simp [flats]
  | cons t ts ih =>
    have h1 := h t List.mem_cons_self
    have h2 := ih fun u hu => h u (List.mem_cons_of_mem _ hu)
    simp only [flats, List.length_append, List.length_cons, Nat.succ_mul]; omega
end Tx
set_option maxRecDepth 100000 in
set_option maxHeartbeats 32000000 in
theorem lawPParts_any (w : World) (hp : Pow w) (l : List (List Cel)) (a : Option Addr) (cap : Nat) (hl : Row w a cap l) (xn : ByteArray) (n : Nat) (hn : n < 65536) :
    Calls Tryd.prog 8 #[.slice a l.length cap, .agg #[.string xn, .int .u16 (n : Int)]] w fun e w' => e = .returned (.bool true) ∧ Below w.heap.size w w' := by
  have hlm := hl.max
  have hll := hl.le
  have HL := mkHid hl
  have HP := mkHid hp
  have hbx : Below w.heap.size w (w.alloc (.cells #[.string xn, .int .u16 (n : Int)] 26)) := (Below.refl _ _).new _
  have x0 : (w.alloc (.cells #[.string xn, .int .u16 (n : Int)] 26)).cell? ⟨w.heap.size, 0, none⟩ = some (.string xn) := World.cell?_alloc_at _ _ _ 0 rfl
  clear hl hp
  go_enter Tryd.func8, Tryd.ntmps8
  go_wp2_with fail
  refine (head6_any _ (Hp.pow_then HP.out hbx)).mono ?_
  generalize w.alloc (.cells #[.string xn, .int .u16 (n : Int)] 26) = w0 at *
  rintro e w1 ⟨rfl, hb1⟩
  have x1 := keep x0 hb1
  have hb := hbx.then hb1
  have HB1 := mkHid hb
  clear hbx hb1 x0 hb
  go_wp2_with fail
  refine (rName_any xn w1).mono ?_
  rintro e w2 ⟨rfl, hb2⟩
  obtain ⟨nm, hnm⟩ : ∃ nm, nm = nameMade xn.data.toList := ⟨_, rfl⟩
  have hnl : 1 ≤ nm.length ∧ nm.length ≤ 12 := by rw [hnm]; exact nameMade_len _
  have hno : nameOk (tx nm) = true := by rw [hnm]; exact nameMade_ok _
  obtain ⟨bb, nr, hbn⟩ : ∃ bb nr, nm = bb :: nr := by
    cases nm with
    | nil => simp at hnl
    | cons b r => exact ⟨b, r, rfl⟩
  have hokb : okByte bb = true := by
    unfold nameOk at hno
    simp only [Bool.and_eq_true] at hno
    exact List.all_eq_true.1 hno.1.1 bb (by rw [hbn]; simp [tx])
  rw [← hnm, hbn]
  have hszn : (tx (bb :: nr)).size = nr.length + 1 := by rw [tx_size]; rfl
  have HB2 : Hid (Below w.heap.size w w2) := HB1.out.then hb2
  have HOKB := mkHid hokb
  clear hnm hno hokb hb2 hnl hbn nm
  have hacc0 : AccInv w2.heap.size 22 ([] : List (List Cel)) (.slice (some ⟨w2.heap.size, 0, none⟩) 0 0) (w2.alloc (.cells #[] 22)) := AccInv.made w2 (Nat.le_refl _) rfl
  have HA0 := mkHid hacc0
  have hb0 := (Below.refl w2.heap.size w2).new (.cells #[] 22)
  clear hacc0
  go_wp2
  rw [Tx.fName_eq]
  clear hszn
  go_loopw [7, 8, 9] (fun v sv iv wr => ∃ (k : Nat) (ts : List Tm) (v0 : Value), iv = .int .i64 k ∧ ts.length = k ∧ k ≤ 6 ∧ k ≤ l.length ∧ AccInv w2.heap.size 22 (ts.map Tm.flat) v0 wr ∧ (∀ t ∈ ts, t.ok ∧ t.flat.length ≤ 15) ∧ v = v0 ∧ Hid (sv = .string (tx (sepL [44] (textsT ts)))) ∧ Below w2.heap.size w2 wr) (fun v sv iv wr => 6 - (intOf iv).toNat)
  case atStart => exact ⟨0, [], _, rfl, rfl, by omega, by omega, HA0.out, by simp, rfl, rfl, hb0⟩
  case round =>
    clear HA0 hb0
    obtain ⟨k, ts, v, rfl, htk, hk6, hkl, hACC, hTS, hv, HSS, hb⟩ := hrel
    subst hv
    obtain ⟨v, hvE⟩ : ∃ v, v = u7 := ⟨_, rfl⟩
    subst hvE
    have HACC := mkHid hACC
    have HTS := mkHid hTS
    obtain ⟨s, hs⟩ : ∃ s, s = tx (sepL [44] (textsT ts)) := ⟨_, rfl⟩
    have HSK := mkHid hs
    have hsv := HSS.out
    rw [← hs] at hsv
    subst hsv
    clear hACC hTS hs HSS
    by_cases hlt : k < l.length
    · by_cases hlt6 : k < 6
      · obtain ⟨b, off, rfl, hbl, hat⟩ := HL.out.cases.resolve_left (fun e => by rw [e] at hlt; simp at hlt)
        have hbw0 : Below w.heap.size w wr := HB2.out.trans (hb.mono HB2.out.size)
        obtain ⟨a1, c1, d00, r0⟩ := list_at hat (Below.refl _ _) hlt
        have d0 := keep d00 hbw0
        have r1 := r0.below hbw0
        clear d00 hbw0
        have hmd := made_where a1 c1 wr l[k] r1 15 (by omega) (by omega)
        rw [show ((15 : Nat) : Int) = 15 from rfl] at hmd
        have HMD := mkHid hmd
        have HBW := mkHid hb
        have HR1 := mkHid r0
        clear hmd hb hat r1 hbl r0
        go_wp2_with fail
        refine HMD.out.mono ?_
        clear HMD
        rintro e w4 ⟨ax, cx, yx, rfl, hmk, hyr, hyl, hb4⟩
        obtain ⟨x, hxo, rfl, _⟩ := right_tm hyr
        have hxl : x.flat.length ≤ 15 := hyl
        have hvl : ∀ g, v.ownBlock = some g → w2.heap.size ≤ g ∧ g < wr.heap.size := fun g hg => HACC.out.lt g hg
        have hwl := HB2.out.size
        have hrv : Row (veil v.ownBlock.toList w4) ax cx x.flat := MadeAt.veil hmk HR1.out (HB2.out.trans (HBW.out.mono hwl)) hb4 (fun q hq => by
          have := hvl q (by simpa using hq); omega)
        have hrh : Hid (Row (hide v.ownBlock w4) ax cx x.flat) := hrv.keeps (veil_hide fun g hg => by simp [hg])
        have hacc4 : Hid (AccInv w2.heap.size 22 (ts.map Tm.flat) v w4) := HACC.out.below hb4
        have hb24 := HBW.out.trans (hb4.mono (by have := HBW.out.size; omega))
        have hsz24 := hb24.size
        have HB4 := mkHid hb24
        have HXO := mkHid hxo
        clear hmk hyr hvl hrv hb4 hb24 hxo HR1
        have hxt := text_small HXO.out (by omega)
        obtain ⟨u, hu⟩ : ∃ u, u = tx (textT x) := ⟨_, rfl⟩
        have hu1 : u.size = (textT x).length := by rw [hu, tx_size]
        have hsl := Tx.sep_len HTS.out
        have hsm : ts.length * (40 * 15 + 1) ≤ 6 * 601 := Nat.mul_le_mul (by omega) (by omega)
        have hs1 : s.size = (sepL [44] (textsT ts)).length := by rw [HSK.out, tx_size]
        have hsb : s.size + u.size ≤ 20000 := by rw [hs1, hu1]; omega
        have HTS2 : Hid (∀ t ∈ ts ++ [x], t.ok ∧ t.flat.length ≤ 15) := mkHid (fun t ht => by
          rcases List.mem_append.1 ht with ht | ht
          · exact HTS.out t ht
          · rw [List.mem_singleton.1 ht]; exact ⟨HXO.out, hxl⟩)
        have HPT0 : Hid (∀ W, Below w2.heap.size w2 W → Row W ax cx x.flat → Calls Tryd.prog 16 #[.slice ax x.flat.length cx] W fun e w' => e = .returned (.string u) ∧ Below W.heap.size W w') := fun W h hr => by
          rw [hu]; exact pterm_any x HXO.out (by omega) ax cx W (by omega) (Hp.pow_then HP.out (HB2.out.trans (h.mono hwl))) hr
        have HUK := mkHid hu
        clear hsl hxt hs1 hu1 hsm hu
        by_cases h0 : 0 < k
        · have HE : Hid (s ++ (⟨#[44]⟩ : ByteArray) ++ u = tx (sepL [44] (textsT (ts ++ [x])))) := by
            have hne : ts ≠ [] := fun e => by rw [e] at htk; simp at htk; omega
            rw [Hid, HUK.out, HSK.out, Tx.sep_snoc ts x hne, show (⟨#[44]⟩ : ByteArray) = tx [44] from rfl, tx_append, tx_append, List.append_assoc]
          have z1 : ¬ 9223372036854775807 < s.size + 1 := by omega
          have z2 : ¬ 9223372036854775807 < s.size + 1 + u.size := by omega
          go_wp2_with (at_builtin; refine wpList_accG (α := List Cel) rfl _ _ 58 rfl w2.heap.size 22 24 _ Tryd.underlying58 infoRowM rfl (by decide) _ (ts.map Tm.flat) hacc4.out (by rfl) _ #[.slice ax x.flat.length cx] x.flat ⟨ax, cx, rfl, hrh.out⟩ (by rfl) (by simp; omega) hsz24 ?_; intro v9 W9 hacc9 hb9 hk9)
          have HACC9 : Hid (AccInv w2.heap.size 22 ((ts ++ [x]).map Tm.flat) v9 W9) := by rw [Hid, List.map_append]; exact hacc9
          have hb29 : Below w2.heap.size w2 W9 := HB4.out.trans hb9
          have HB9 := mkHid hb29
          have HPT := mkHid (HPT0.out W9 hb29 (hrh.out.keeps hk9))
          clear hacc9 hb9 hk9 hb29
          go_wp2_with fail
          refine HPT.out.mono ?_
          rintro e w7 ⟨rfl, hb7⟩
          have HB7 := mkHid hb7
          clear hb7
          go_wp2
          go_round
          case rel => exact ⟨k + 1, ts ++ [x], v9, by go_num, by simp; omega, by omega, by omega, HACC9.out.below HB7.out, HTS2.out, rfl, by rw [Hid, ← HE.out], HB9.out.trans (HB7.out.mono (by have := HB9.out.size; omega))⟩
          case measure => simp [intOf]; omega
        · have hts : ts = [] := List.eq_nil_of_length_eq_zero (by omega)
          have HE : Hid (s ++ u = tx (sepL [44] (textsT (ts ++ [x])))) := by
            rw [Hid, HUK.out, HSK.out, hts, tx_append]; simp [textsT, sepL]
          have z2 : ¬ 9223372036854775807 < s.size + u.size := by omega
          clear hts
          go_wp2_with (at_builtin; refine wpList_accG (α := List Cel) rfl _ _ 58 rfl w2.heap.size 22 24 _ Tryd.underlying58 infoRowM rfl (by decide) _ (ts.map Tm.flat) hacc4.out (by rfl) _ #[.slice ax x.flat.length cx] x.flat ⟨ax, cx, rfl, hrh.out⟩ (by rfl) (by simp; omega) hsz24 ?_; intro v9 W9 hacc9 hb9 hk9)
          have HACC9 : Hid (AccInv w2.heap.size 22 ((ts ++ [x]).map Tm.flat) v9 W9) := by rw [Hid, List.map_append]; exact hacc9
          have hb29 : Below w2.heap.size w2 W9 := HB4.out.trans hb9
          have HB9 := mkHid hb29
          have HPT := mkHid (HPT0.out W9 hb29 (hrh.out.keeps hk9))
          clear hacc9 hb9 hk9 hb29
          go_wp2_with fail
          refine HPT.out.mono ?_
          rintro e w7 ⟨rfl, hb7⟩
          have HB7 := mkHid hb7
          clear hb7
          go_wp2
          go_round
          case rel => exact ⟨k + 1, ts ++ [x], v9, by go_num, by simp; omega, by omega, by omega, HACC9.out.below HB7.out, HTS2.out, rfl, by rw [Hid, ← HE.out], HB9.out.trans (HB7.out.mono (by have := HB9.out.size; omega))⟩
          case measure => simp [intOf]; omega
      · obtain ⟨at9, ct9, rfl, hT⟩ := HACC.out.row
        rw [List.length_map]
        have HBR := mkHid hb
        have hbw : Below w.heap.size w wr := HB2.out.trans (hb.mono HB2.out.size)
        have HBW := mkHid hbw
        have hpw : ∀ W, Below wr.heap.size wr W → Pow W := fun W h => Hp.pow_then HP.out (hbw.then h)
        have HPW := mkHid hpw
        have HT := mkHid hT
        have hmx := hT.max
        have hle := hT.le
        rw [List.length_map] at hle
        have hfn : (Tx.fName bb).size = 2 := rfl
        have HFO := mkHid (Tx.fName_ok HOKB.out)
        have hnlen := nameL_len (Tx.fName bb).data.toList
        have hnlen2 : (Tx.fName bb).data.toList.length = 2 := rfl
        clear hT hb hbw hpw
        by_cases hz : ts.length = 0
        · exfalso; omega
        · obtain ⟨m, hm⟩ : ∃ m, ts.length = m + 1 := ⟨ts.length - 1, by omega⟩
          have hlz : (((m + 1 : Nat) : Int) == 0) = false := by rw [beq_eq_false_iff_ne]; omega
          have hfl := Tx.flats_len (fun t ht => (HTS.out t ht).2)
          have hf6 : ts.length * 15 ≤ 6 * 15 := Nat.mul_le_mul (by omega) (by omega)
          have hoks : oks ts := by
            have : ∀ l : List Tm, (∀ t ∈ l, t.ok) → oks l := by
              intro l hl
              induction l with
              | nil => trivial
              | cons t l ih => exact ⟨hl t List.mem_cons_self, ih fun u hu => hl u (List.mem_cons_of_mem _ hu)⟩
            exact this ts fun t ht => (HTS.out t ht).1
          have HMK := mkHid (umk (Tx.fName bb) ts (m + 1) hm (by omega) hoks HFO.out (by rw [hfn]; omega) (by omega) at9 ct9 wr HT.out)
          obtain ⟨bt, ot, hbt, hbtl, hatT⟩ := HT.out.cases.resolve_left (fun e => by
            have h1 : (ts.map Tm.flat).length = 0 := by rw [e]; rfl
            rw [List.length_map] at h1; omega)
          have hi0 : 0 < (ts.map Tm.flat).length := by rw [List.length_map]; omega
          have hi1 : m < (ts.map Tm.flat).length := by rw [List.length_map]; omega
          obtain ⟨aa, ca, p0, ra⟩ := list_at hatT (Below.refl _ _) hi0
          obtain ⟨ab, cb, p1, rb⟩ := list_at hatT (Below.refl _ _) hi1
          rw [List.getElem_map] at p0 ra p1 rb
          obtain ⟨x, hxe⟩ : ∃ x, x = ts[0] := ⟨_, rfl⟩
          obtain ⟨y, hye⟩ : ∃ y, y = ts[m] := ⟨_, rfl⟩
          rw [← hxe] at p0 ra
          rw [← hye] at p1 rb
          have hxo := HTS.out x (by rw [hxe]; exact List.getElem_mem _)
          have hyo := HTS.out y (by rw [hye]; exact List.getElem_mem _)
          have hxt := text_small hxo.1 (by have := hxo.2; omega)
          have hyt := text_small hyo.1 (by have := hyo.2; omega)
          have hsl := Tx.sep_len HTS.out
          have hsm : ts.length * (40 * 15 + 1) ≤ 6 * 601 := Nat.mul_le_mul (by omega) (by omega)
          have hs1 : s.size = (sepL [44] (textsT ts)).length := by rw [HSK.out, tx_size]
          obtain ⟨q1, hq1⟩ : ∃ q, q = tx (nameL (Tx.fName bb).data.toList) := ⟨_, rfl⟩
          have hq2 : q1.size = (nameL (Tx.fName bb).data.toList).length := by rw [hq1, tx_size]
          have htx : textT (.mk ⟨3, Tx.fName bb, ((m + 1 : Nat) : Int)⟩ ts) = nameL (Tx.fName bb).data.toList ++ (40 :: (sepL [44] (textsT ts) ++ [41])) := by
            rw [Tx.f_text, if_pos (by omega)]
          have HQE : Hid (q1 ++ (⟨#[40]⟩ : ByteArray) ++ s ++ (⟨#[41]⟩ : ByteArray) = tx (textT (.mk ⟨3, Tx.fName bb, ((m + 1 : Nat) : Int)⟩ ts))) := by
            rw [Hid, htx, hq1, HSK.out, show (⟨#[40]⟩ : ByteArray) = tx [40] from rfl, show (⟨#[41]⟩ : ByteArray) = tx [41] from rfl, tx_append, tx_append, tx_append]; simp
          have hszq : q1.size + s.size ≤ 20000 := by rw [hq2, hs1]; omega
          have hlt : (textT (.mk ⟨3, Tx.fName bb, ((m + 1 : Nat) : Int)⟩ ts)).length ≤ 30000 := by
            rw [htx, List.length_append, List.length_cons, List.length_append, List.length_singleton]; omega
          obtain ⟨u, hu⟩ : ∃ u, u = tx (textT x) := ⟨_, rfl⟩
          obtain ⟨v, hv⟩ : ∃ v, v = tx (textT y) := ⟨_, rfl⟩
          have hu1 : u.size = (textT x).length := by rw [hu, tx_size]
          have hv1 : v.size = (textT y).length := by rw [hv, tx_size]
          have HPX : Hid (∀ W, Below wr.heap.size wr W → Calls Tryd.prog 16 #[.slice aa x.flat.length ca] W fun e w' => e = .returned (.string u) ∧ Below W.heap.size W w') := fun W h => by
            rw [hu]; exact pterm_any x hxo.1 (by have := hxo.2; omega) aa ca W (by omega) (HPW.out W h) (ra.below h)
          have HPY : Hid (∀ W, Below wr.heap.size wr W → Calls Tryd.prog 16 #[.slice ab y.flat.length cb] W fun e w' => e = .returned (.string v) ∧ Below W.heap.size W w') := fun W h => by
            rw [hv]; exact pterm_any y hyo.1 (by have := hyo.2; omega) ab cb W (by omega) (HPW.out W h) (rb.below h)
          have HPL : Hid ((⟨#[40]⟩ : ByteArray) ++ u ++ (⟨#[32, 43, 32]⟩ : ByteArray) ++ v ++ (⟨#[41]⟩ : ByteArray) = tx (textT (.mk ⟨3, ⟨#[43]⟩, ((2 : Nat) : Int)⟩ [x, y]))) := by
            have e2 : textT (.mk ⟨3, ⟨#[43]⟩, ((2 : Nat) : Int)⟩ [x, y]) = [40] ++ (textT x ++ ([32, 43, 32] ++ (textT y ++ [41]))) := Tx.plus_text x y
            rw [Hid, e2, hu, hv, show (⟨#[40]⟩ : ByteArray) = tx [40] from rfl, show (⟨#[41]⟩ : ByteArray) = tx [41] from rfl, show (⟨#[32, 43, 32]⟩ : ByteArray) = tx [32, 43, 32] from rfl]
            simp only [tx_append]; simp
          have HMI : Hid ((⟨#[45, 40]⟩ : ByteArray) ++ u ++ (⟨#[41]⟩ : ByteArray) = tx (textT (.mk ⟨3, ⟨#[45]⟩, ((1 : Nat) : Int)⟩ [x]))) := by
            have e2 : textT (.mk ⟨3, ⟨#[45]⟩, ((1 : Nat) : Int)⟩ [x]) = [45, 40] ++ (textT x ++ [41]) := Tx.minus_text x
            rw [Hid, e2, hu, show (⟨#[45, 40]⟩ : ByteArray) = tx [45, 40] from rfl, show (⟨#[41]⟩ : ByteArray) = tx [41] from rfl]
            simp only [tx_append]; simp
          have hlp : (textT (.mk ⟨3, ⟨#[43]⟩, ((2 : Nat) : Int)⟩ [x, y])).length ≤ 30000 := by
            have e2 : textT (.mk ⟨3, ⟨#[43]⟩, ((2 : Nat) : Int)⟩ [x, y]) = [40] ++ (textT x ++ ([32, 43, 32] ++ (textT y ++ [41]))) := Tx.plus_text x y
            rw [e2]; simp; omega
          have hlm : (textT (.mk ⟨3, ⟨#[45]⟩, ((1 : Nat) : Int)⟩ [x])).length ≤ 30000 := by
            have e2 : textT (.mk ⟨3, ⟨#[45]⟩, ((1 : Nat) : Int)⟩ [x]) = [45, 40] ++ (textT x ++ [41]) := Tx.minus_text x
            rw [e2]; simp; omega
          have huv : u.size + v.size ≤ 16000 := by rw [hu1, hv1]; omega
          have HRA := mkHid ra
          have HRB := mkHid rb
          have HXO := mkHid hxo
          have HYO := mkHid hyo
          have HCE : Hid (∀ W', Below wr.heap.size wr W' → W'.cell? ⟨bt, ot, none⟩ = some (.slice aa x.flat.length ca) ∧ W'.cell? ⟨bt, ot + m, none⟩ = some (.slice ab y.flat.length cb)) := fun W' h => ⟨keep (by simpa using p0) h, keep p1 h⟩
          have HQ1 := mkHid hq1
          rw [hm]
          subst hbt
          have hm5 : m ≤ 5 := by omega
          have hwm : IntKind.i64.wrap (m : Int) = (m : Int) := by rw [IntKind.wrap_i64]; omega
          have hf7 : (flats ts).length ≤ 90 := by omega
          clear hfl hf6 hoks hatT hi0 hi1 p0 p1 ra rb hxe hye hsl hsm hs1 hq1 hq2 htx hu hv hu1 hv1 hxo hyo hxt hyt hm hz hnlen hnlen2 hle hmx
          have z1 : ¬ 9223372036854775807 < q1.size + 1 := by omega
          have z2 : ¬ 9223372036854775807 < q1.size + 1 + s.size := by omega
          have z3 : ¬ 9223372036854775807 < q1.size + 1 + s.size + 1 := by omega
          go_wp2_with fail
          refine HMK.out.mono ?_
          clear HMK
          rintro e w5 ⟨a5, c5, rfl, hr5, ho5, hb5⟩
          have HPT := mkHid (pterm_any _ ho5 (by rw [flat_args]; simp only [Tm.args]; omega) a5 c5 w5 (by omega) (HPW.out _ hb5) hr5)
          rw [← HQE.out] at HPT
          have HB5 := mkHid hb5
          clear hr5 ho5 hb5
          go_wp2_with fail
          refine HPT.out.mono ?_
          clear HPT
          rintro e w6 ⟨rfl, hb6⟩
          have HB6 := mkHid (HB5.out.then hb6)
          clear hb6
          have HQT := mkHid (quote_any (Tx.fName bb) w6 (by rw [hfn]; omega))
          rw [show (⟨(nameL (Tx.fName bb).data.toList).toArray⟩ : ByteArray) = q1 from HQ1.out.symm] at HQT
          go_wp2_with fail
          refine HQT.out.mono ?_
          clear HQT
          rintro e w7 ⟨rfl, hb7⟩
          have HB7 := mkHid (HB6.out.then hb7)
          clear hb7
          go_wp2_with fail
          have hcd := (Below.refl w7.heap.size w7).drew
          have hc7 := HB7.out.then hcd
          refine wp_region_noPanic ?_
          refine wp_region_held_drew (S := (fun w' : World => w'.cell? ⟨bt, ot, none⟩ = some (.slice aa x.flat.length ca) ∧ w'.cell? ⟨bt, ot + m, none⟩ = some (.slice ab y.flat.length cb))) (by kernel_rfl) (HCE.out _ hc7) (fun hSd => ?_)
          refine wpAnyH_take (i := 0) (oi := _) (v := ?_) rfl (by kernel_rfl) (by kernel_rfl) (by kernel_rfl) (fun _ _ _ h => h) (Or.inl ⟨by rfl, ?_⟩) (by assumption) ?_
          rotate_left
          · (intro w' hSw; (try dsimp only at hSw); go_simp; (try simp only [hwm]); (try go_simp); (try rw [if_pos (by omega : (m : Int) < (m : Int) + 1)]); (try go_simp); try with_reducible rfl)
          (try simp only [Act.put, List.setIfInBounds_toArray, List.set_cons_zero, List.set_cons_succ])
          refine wpAnyH_take (i := 1) (oi := _) (v := ?_) rfl (by kernel_rfl) (by kernel_rfl) (by kernel_rfl) (fun _ _ _ h => h) (Or.inl ⟨by rfl, ?_⟩) (by assumption) ?_
          rotate_left
          · (intro w' hSw; (try dsimp only at hSw); go_simp; (try simp only [hwm]); (try go_simp); (try rw [if_pos (by omega : (m : Int) < (m : Int) + 1)]); (try go_simp); try with_reducible rfl)
          (try simp only [Act.put, List.setIfInBounds_toArray, List.set_cons_zero, List.set_cons_succ])
          refine wpAnyH_take (i := 2) (oi := _) (v := ?_) rfl (by kernel_rfl) (by kernel_rfl) (by kernel_rfl) (fun _ _ _ h => h) (Or.inl ⟨by rfl, ?_⟩) (by assumption) ?_
          rotate_left
          · (intro w' hSw; (try dsimp only at hSw); go_simp; (try simp only [hwm]); (try go_simp); (try rw [if_pos (by omega : (m : Int) < (m : Int) + 1)]); (try go_simp); try with_reducible rfl)
          (try simp only [Act.put, List.setIfInBounds_toArray, List.set_cons_zero, List.set_cons_succ])
          refine wpAnyH_take (i := 4) (oi := _) (v := ?_) rfl (by kernel_rfl) (by kernel_rfl) (by kernel_rfl) (fun _ _ _ h => h) (Or.inl ⟨by rfl, ?_⟩) (by assumption) ?_
          rotate_left
          · (intro w' hSw; (try dsimp only at hSw); go_simp; (try simp only [hwm]); (try go_simp); (try rw [if_pos (by omega : (m : Int) < (m : Int) + 1)]); (try go_simp); try with_reducible rfl)
          (try simp only [Act.put, List.setIfInBounds_toArray, List.set_cons_zero, List.set_cons_succ])
          refine wpAnyH_take (i := 5) (oi := _) (v := ?_) rfl (by kernel_rfl) (by kernel_rfl) (by kernel_rfl) (fun _ _ _ h => h) (Or.inl ⟨by rfl, ?_⟩) (by assumption) ?_
          rotate_left
          · (intro w' hSw; (try dsimp only at hSw); go_simp; (try simp only [hwm]); (try go_simp); (try rw [if_pos (by omega : (m : Int) < (m : Int) + 1)]); (try go_simp); try with_reducible rfl)
          (try simp only [Act.put, List.setIfInBounds_toArray, List.set_cons_zero, List.set_cons_succ])
          refine wpAnyH_take (i := 9) (oi := _) (v := ?_) rfl (by kernel_rfl) (by kernel_rfl) (by kernel_rfl) (fun _ _ _ h => h) (Or.inl ⟨by rfl, ?_⟩) (by assumption) ?_
          rotate_left
          · (intro w' hSw; (try dsimp only at hSw); go_simp; (try simp only [hwm]); (try go_simp); (try rw [if_pos (by omega : (m : Int) < (m : Int) + 1)]); (try go_simp); try with_reducible rfl)
          (try simp only [Act.put, List.setIfInBounds_toArray, List.set_cons_zero, List.set_cons_succ])
          refine wpAnyH_take (i := 3) (oi := _) (v := ?_) rfl (by kernel_rfl) (by kernel_rfl) (by kernel_rfl) (fun _ _ _ h => h) (Or.inl ⟨by rfl, ?_⟩) (by assumption) ?_
          rotate_left
          · (intro w' hSw; (try dsimp only at hSw); go_simp; (try simp only [hwm]); (try go_simp); (try rw [if_pos (by omega : (m : Int) < (m : Int) + 1)]); (try go_simp); try with_reducible rfl)
          (try simp only [Act.put, List.setIfInBounds_toArray, List.set_cons_zero, List.set_cons_succ])
          refine wpAnyH_take (i := 6) (oi := _) (v := ?_) rfl (by kernel_rfl) (by kernel_rfl) (by kernel_rfl) (fun _ _ _ h => h) (Or.inl ⟨by rfl, ?_⟩) (by assumption) ?_
          rotate_left
          · (intro w' hSw; (try dsimp only at hSw); go_simp; (try simp only [hwm]); (try go_simp); (try rw [if_pos (by omega : (m : Int) < (m : Int) + 1)]); (try go_simp); try with_reducible rfl)
          (try simp only [Act.put, List.setIfInBounds_toArray, List.set_cons_zero, List.set_cons_succ])
          refine wpAnyH_take (i := 7) (oi := _) (v := ?_) rfl (by kernel_rfl) (by kernel_rfl) (by kernel_rfl) (fun _ _ _ h => h) (Or.inl ⟨by rfl, ?_⟩) (by assumption) ?_
          rotate_left
          · (intro w' hSw; (try dsimp only at hSw); go_simp; (try simp only [hwm]); (try go_simp); (try rw [if_pos (by omega : (m : Int) < (m : Int) + 1)]); (try go_simp); try with_reducible rfl)
          (try simp only [Act.put, List.setIfInBounds_toArray, List.set_cons_zero, List.set_cons_succ])
          refine wpAnyH_take (i := 8) (oi := _) (v := ?_) rfl (by kernel_rfl) (by kernel_rfl) (by kernel_rfl) (fun _ _ _ h => h) (Or.inl ⟨by rfl, ?_⟩) (by assumption) ?_
          rotate_left
          · (intro w' hSw; (try dsimp only at hSw); go_simp; (try simp only [hwm]); (try go_simp); (try rw [if_pos (by omega : (m : Int) < (m : Int) + 1)]); (try go_simp); try with_reducible rfl)
          (try simp only [Act.put, List.setIfInBounds_toArray, List.set_cons_zero, List.set_cons_succ])
          refine wpAnyH_take (i := 10) (oi := _) (v := ?_) rfl (by kernel_rfl) (by kernel_rfl) (by kernel_rfl) (fun _ _ _ h => h) (Or.inl ⟨by rfl, ?_⟩) (by assumption) ?_
          rotate_left
          · (intro w' hSw; (try dsimp only at hSw); go_simp; (try simp only [hwm]); (try go_simp); (try rw [if_pos (by omega : (m : Int) < (m : Int) + 1)]); (try go_simp); try with_reducible rfl)
          (try simp only [Act.put, List.setIfInBounds_toArray, List.set_cons_zero, List.set_cons_succ])
          refine wpAnyH_done (by kernel_rfl) (NoPanic.normal ?_) _
          have HB7d := mkHid hc7
          have hwd : w7.heap.size ≤ w7.drew.heap.size := Nat.le_refl _
          clear hSd hcd hc7
          generalize w7.drew = w8 at *
          have hw2 := rowTwo w8 (HRA.out.below HB7d.out) (HRB.out.below HB7d.out)
          have hn2 := (Below.refl w8.heap.size w8).new (.cells #[.slice aa x.flat.length ca, .slice ab y.flat.length cb] 22)
          have HM2 := mkHid (umk ⟨#[43]⟩ [x, y] 2 rfl (by omega) ⟨HXO.out.1, HYO.out.1, trivial⟩ (by decide +kernel) (by decide) (by have := HXO.out.2; have := HYO.out.2; simp only [flats, List.length_append, List.length_nil]; omega) _ _ _ hw2)
          have HN2 := mkHid hn2
          have y1 : ¬ 9223372036854775807 < 1 + u.size := by omega
          have y2 : ¬ 9223372036854775807 < 1 + u.size + 3 := by omega
          have y3 : ¬ 9223372036854775807 < 1 + u.size + 3 + v.size := by omega
          have y4 : ¬ 9223372036854775807 < 1 + u.size + 3 + v.size + 1 := by omega
          have y5 : ¬ 9223372036854775807 < 2 + u.size := by omega
          have y6 : ¬ 9223372036854775807 < 2 + u.size + 1 := by omega
          clear hw2 hn2
          go_wp2_with fail
          refine HM2.out.mono ?_
          clear HM2
          rintro e w9 ⟨a9, c9, rfl, hr9, ho9, hb9⟩
          have hb89 := HB7d.out.then (HN2.out.then hb9)
          have HPT := mkHid (pterm_any _ ho9 (by have := HXO.out.2; have := HYO.out.2; rw [flat_args]; simp only [Tm.args, flats, List.length_append, List.length_nil]; omega) a9 c9 w9 (by omega) (HPW.out _ hb89) hr9)
          rw [← HPL.out] at HPT
          have HB9 := mkHid hb89
          clear hr9 ho9 hb9 hb89
          go_wp2_with fail
          refine HPT.out.mono ?_
          clear HPT
          rintro e w10 ⟨rfl, hb10⟩
          have HB10 := mkHid (HB9.out.then hb10)
          clear hb10
          go_wp2_with fail
          refine (HPX.out _ HB10.out).mono ?_
          rintro e w11 ⟨rfl, hb11⟩
          have HB11 := mkHid (HB10.out.then hb11)
          clear hb11
          go_wp2_with fail
          refine (HPY.out _ HB11.out).mono ?_
          rintro e w12 ⟨rfl, hb12⟩
          have HB12 := mkHid (HB11.out.then hb12)
          have hw1 := rowOne w12 (HRA.out.below HB12.out)
          have hn1 := (Below.refl w12.heap.size w12).new (.cells #[.slice aa x.flat.length ca] 22)
          have HM1 := mkHid (umk ⟨#[45]⟩ [x] 1 rfl (by omega) ⟨HXO.out.1, trivial⟩ (by decide +kernel) (by decide) (by have := HXO.out.2; simp only [flats, List.length_append, List.length_nil]; omega) _ _ _ hw1)
          have HN1 := mkHid hn1
          clear hb12 hw1 hn1
          go_wp2_with fail
          refine HM1.out.mono ?_
          clear HM1
          rintro e w13 ⟨a13, c13, rfl, hr13, ho13, hb13⟩
          have hb113 := HB12.out.then (HN1.out.then hb13)
          have HPT := mkHid (pterm_any _ ho13 (by have := HXO.out.2; rw [flat_args]; simp only [Tm.args, flats, List.length_append, List.length_nil]; omega) a13 c13 w13 (by omega) (HPW.out _ hb113) hr13)
          rw [← HMI.out] at HPT
          have HB13 := mkHid hb113
          clear hr13 ho13 hb13 hb113
          go_wp2_with fail
          refine HPT.out.mono ?_
          clear HPT
          rintro e w14 ⟨rfl, hb14⟩
          have HB14 := mkHid (HB13.out.then hb14)
          clear hb14
          go_wp2_with fail
          refine (HPX.out _ HB14.out).mono ?_
          rintro e w15 ⟨rfl, hb15⟩
          have HB15 := mkHid (HB14.out.then hb15)
          clear hb15
          go_wp2_with fail
          go_ret
          exact ⟨rfl, HBW.out.then HB15.out⟩
    · obtain ⟨at9, ct9, rfl, hT⟩ := HACC.out.row
      rw [List.length_map]
      have HBR := mkHid hb
      have hbw : Below w.heap.size w wr := HB2.out.trans (hb.mono HB2.out.size)
      have HBW := mkHid hbw
      have hpw : ∀ W, Below wr.heap.size wr W → Pow W := fun W h => Hp.pow_then HP.out (hbw.then h)
      have HPW := mkHid hpw
      have HT := mkHid hT
      have hmx := hT.max
      have hle := hT.le
      rw [List.length_map] at hle
      have hfn : (Tx.fName bb).size = 2 := rfl
      have HFO := mkHid (Tx.fName_ok HOKB.out)
      have hnlen := nameL_len (Tx.fName bb).data.toList
      have hnlen2 : (Tx.fName bb).data.toList.length = 2 := rfl
      clear hT hb hbw hpw
      by_cases hz : ts.length = 0
      · have hts : ts = [] := List.eq_nil_of_length_eq_zero hz
        have hlz : ((ts.length : Int) == 0) = true := by rw [beq_iff_eq]; omega
        have HMK := mkHid (umk (Tx.fName bb) [] 0 rfl (by omega) trivial HFO.out (by rw [hfn]; omega) (by simp [flats]) none 0 wr (Row.empty _ none 0 (by omega) (fun _ => rfl)))
        clear hts hz
        go_wp2_with fail
        refine HMK.out.mono ?_
        rintro e w5 ⟨a5, c5, rfl, hr5, ho5, hb5⟩
        have htx : textT (.mk ⟨3, Tx.fName bb, (0 : Nat)⟩ []) = nameL (Tx.fName bb).data.toList := by rw [Tx.f_text]; simp
        have HPT := mkHid (pterm_any _ ho5 (by rw [flat_args]; simp [Tm.args, flats]) a5 c5 w5 (by rw [htx]; omega) (HPW.out _ hb5) hr5)
        rw [htx] at HPT
        have HB5 := mkHid hb5
        clear hr5 ho5 hb5 htx
        go_wp2_with fail
        refine HPT.out.mono ?_
        rintro e w6 ⟨rfl, hb6⟩
        have HB6 := mkHid (HB5.out.then hb6)
        clear hb6
        go_wp2_with fail
        refine (quote_any (Tx.fName bb) w6 (by rw [hfn]; omega)).mono ?_
        rintro e w7 ⟨rfl, hb7⟩
        have HB7 := mkHid (HB6.out.then hb7)
        clear hb7
        have e9 : (⟨(nameL (Tx.fName bb).data.toList).toArray⟩ : ByteArray) = tx (nameL (Tx.fName bb).data.toList) := rfl
        rw [e9]
        clear e9
        generalize tx (nameL (Tx.fName bb).data.toList) = q1
        go_wp2_with fail
        go_ret
        exact ⟨rfl, HBW.out.then HB7.out⟩
      · obtain ⟨m, hm⟩ : ∃ m, ts.length = m + 1 := ⟨ts.length - 1, by omega⟩
        have hlz : (((m + 1 : Nat) : Int) == 0) = false := by rw [beq_eq_false_iff_ne]; omega
        have hfl := Tx.flats_len (fun t ht => (HTS.out t ht).2)
        have hf6 : ts.length * 15 ≤ 6 * 15 := Nat.mul_le_mul (by omega) (by omega)
        have hoks : oks ts := by
          have : ∀ l : List Tm, (∀ t ∈ l, t.ok) → oks l := by
            intro l hl
            induction l with
            | nil => trivial
            | cons t l ih => exact ⟨hl t List.mem_cons_self, ih fun u hu => hl u (List.mem_cons_of_mem _ hu)⟩
          exact this ts fun t ht => (HTS.out t ht).1
        have HMK := mkHid (umk (Tx.fName bb) ts (m + 1) hm (by omega) hoks HFO.out (by rw [hfn]; omega) (by omega) at9 ct9 wr HT.out)
        obtain ⟨bt, ot, hbt, hbtl, hatT⟩ := HT.out.cases.resolve_left (fun e => by
          have h1 : (ts.map Tm.flat).length = 0 := by rw [e]; rfl
          rw [List.length_map] at h1; omega)
        have hi0 : 0 < (ts.map Tm.flat).length := by rw [List.length_map]; omega
        have hi1 : m < (ts.map Tm.flat).length := by rw [List.length_map]; omega
        obtain ⟨aa, ca, p0, ra⟩ := list_at hatT (Below.refl _ _) hi0
        obtain ⟨ab, cb, p1, rb⟩ := list_at hatT (Below.refl _ _) hi1
        rw [List.getElem_map] at p0 ra p1 rb
        obtain ⟨x, hxe⟩ : ∃ x, x = ts[0] := ⟨_, rfl⟩
        obtain ⟨y, hye⟩ : ∃ y, y = ts[m] := ⟨_, rfl⟩
        rw [← hxe] at p0 ra
        rw [← hye] at p1 rb
        have hxo := HTS.out x (by rw [hxe]; exact List.getElem_mem _)
        have hyo := HTS.out y (by rw [hye]; exact List.getElem_mem _)
        have hxt := text_small hxo.1 (by have := hxo.2; omega)
        have hyt := text_small hyo.1 (by have := hyo.2; omega)
        have hsl := Tx.sep_len HTS.out
        have hsm : ts.length * (40 * 15 + 1) ≤ 6 * 601 := Nat.mul_le_mul (by omega) (by omega)
        have hs1 : s.size = (sepL [44] (textsT ts)).length := by rw [HSK.out, tx_size]
        obtain ⟨q1, hq1⟩ : ∃ q, q = tx (nameL (Tx.fName bb).data.toList) := ⟨_, rfl⟩
        have hq2 : q1.size = (nameL (Tx.fName bb).data.toList).length := by rw [hq1, tx_size]
        have htx : textT (.mk ⟨3, Tx.fName bb, ((m + 1 : Nat) : Int)⟩ ts) = nameL (Tx.fName bb).data.toList ++ (40 :: (sepL [44] (textsT ts) ++ [41])) := by
          rw [Tx.f_text, if_pos (by omega)]
        have HQE : Hid (q1 ++ (⟨#[40]⟩ : ByteArray) ++ s ++ (⟨#[41]⟩ : ByteArray) = tx (textT (.mk ⟨3, Tx.fName bb, ((m + 1 : Nat) : Int)⟩ ts))) := by
          rw [Hid, htx, hq1, HSK.out, show (⟨#[40]⟩ : ByteArray) = tx [40] from rfl, show (⟨#[41]⟩ : ByteArray) = tx [41] from rfl, tx_append, tx_append, tx_append]; simp
        have hszq : q1.size + s.size ≤ 20000 := by rw [hq2, hs1]; omega
        have hlt : (textT (.mk ⟨3, Tx.fName bb, ((m + 1 : Nat) : Int)⟩ ts)).length ≤ 30000 := by
          rw [htx, List.length_append, List.length_cons, List.length_append, List.length_singleton]; omega
        obtain ⟨u, hu⟩ : ∃ u, u = tx (textT x) := ⟨_, rfl⟩
        obtain ⟨v, hv⟩ : ∃ v, v = tx (textT y) := ⟨_, rfl⟩
        have hu1 : u.size = (textT x).length := by rw [hu, tx_size]
        have hv1 : v.size = (textT y).length := by rw [hv, tx_size]
        have HPX : Hid (∀ W, Below wr.heap.size wr W → Calls Tryd.prog 16 #[.slice aa x.flat.length ca] W fun e w' => e = .returned (.string u) ∧ Below W.heap.size W w') := fun W h => by
          rw [hu]; exact pterm_any x hxo.1 (by have := hxo.2; omega) aa ca W (by omega) (HPW.out W h) (ra.below h)
        have HPY : Hid (∀ W, Below wr.heap.size wr W → Calls Tryd.prog 16 #[.slice ab y.flat.length cb] W fun e w' => e = .returned (.string v) ∧ Below W.heap.size W w') := fun W h => by
          rw [hv]; exact pterm_any y hyo.1 (by have := hyo.2; omega) ab cb W (by omega) (HPW.out W h) (rb.below h)
        have HPL : Hid ((⟨#[40]⟩ : ByteArray) ++ u ++ (⟨#[32, 43, 32]⟩ : ByteArray) ++ v ++ (⟨#[41]⟩ : ByteArray) = tx (textT (.mk ⟨3, ⟨#[43]⟩, ((2 : Nat) : Int)⟩ [x, y]))) := by
          have e2 : textT (.mk ⟨3, ⟨#[43]⟩, ((2 : Nat) : Int)⟩ [x, y]) = [40] ++ (textT x ++ ([32, 43, 32] ++ (textT y ++ [41]))) := Tx.plus_text x y
          rw [Hid, e2, hu, hv, show (⟨#[40]⟩ : ByteArray) = tx [40] from rfl, show (⟨#[41]⟩ : ByteArray) = tx [41] from rfl, show (⟨#[32, 43, 32]⟩ : ByteArray) = tx [32, 43, 32] from rfl]
          simp only [tx_append]; simp
        have HMI : Hid ((⟨#[45, 40]⟩ : ByteArray) ++ u ++ (⟨#[41]⟩ : ByteArray) = tx (textT (.mk ⟨3, ⟨#[45]⟩, ((1 : Nat) : Int)⟩ [x]))) := by
          have e2 : textT (.mk ⟨3, ⟨#[45]⟩, ((1 : Nat) : Int)⟩ [x]) = [45, 40] ++ (textT x ++ [41]) := Tx.minus_text x
          rw [Hid, e2, hu, show (⟨#[45, 40]⟩ : ByteArray) = tx [45, 40] from rfl, show (⟨#[41]⟩ : ByteArray) = tx [41] from rfl]
          simp only [tx_append]; simp
        have hlp : (textT (.mk ⟨3, ⟨#[43]⟩, ((2 : Nat) : Int)⟩ [x, y])).length ≤ 30000 := by
          have e2 : textT (.mk ⟨3, ⟨#[43]⟩, ((2 : Nat) : Int)⟩ [x, y]) = [40] ++ (textT x ++ ([32, 43, 32] ++ (textT y ++ [41]))) := Tx.plus_text x y
          rw [e2]; simp; omega
        have hlm : (textT (.mk ⟨3, ⟨#[45]⟩, ((1 : Nat) : Int)⟩ [x])).length ≤ 30000 := by
          have e2 : textT (.mk ⟨3, ⟨#[45]⟩, ((1 : Nat) : Int)⟩ [x]) = [45, 40] ++ (textT x ++ [41]) := Tx.minus_text x
          rw [e2]; simp; omega
        have huv : u.size + v.size ≤ 16000 := by rw [hu1, hv1]; omega
        have HRA := mkHid ra
        have HRB := mkHid rb
        have HXO := mkHid hxo
        have HYO := mkHid hyo
        have HCE : Hid (∀ W', Below wr.heap.size wr W' → W'.cell? ⟨bt, ot, none⟩ = some (.slice aa x.flat.length ca) ∧ W'.cell? ⟨bt, ot + m, none⟩ = some (.slice ab y.flat.length cb)) := fun W' h => ⟨keep (by simpa using p0) h, keep p1 h⟩
        have HQ1 := mkHid hq1
        rw [hm]
        subst hbt
        have hm5 : m ≤ 5 := by omega
        have hwm : IntKind.i64.wrap (m : Int) = (m : Int) := by rw [IntKind.wrap_i64]; omega
        have hf7 : (flats ts).length ≤ 90 := by omega
        clear hfl hf6 hoks hatT hi0 hi1 p0 p1 ra rb hxe hye hsl hsm hs1 hq1 hq2 htx hu hv hu1 hv1 hxo hyo hxt hyt hm hz hnlen hnlen2 hle hmx
        have z1 : ¬ 9223372036854775807 < q1.size + 1 := by omega
        have z2 : ¬ 9223372036854775807 < q1.size + 1 + s.size := by omega
        have z3 : ¬ 9223372036854775807 < q1.size + 1 + s.size + 1 := by omega
        go_wp2_with fail
        refine HMK.out.mono ?_
        clear HMK
        rintro e w5 ⟨a5, c5, rfl, hr5, ho5, hb5⟩
        have HPT := mkHid (pterm_any _ ho5 (by rw [flat_args]; simp only [Tm.args]; omega) a5 c5 w5 (by omega) (HPW.out _ hb5) hr5)
        rw [← HQE.out] at HPT
        have HB5 := mkHid hb5
        clear hr5 ho5 hb5
        go_wp2_with fail
        refine HPT.out.mono ?_
        clear HPT
        rintro e w6 ⟨rfl, hb6⟩
        have HB6 := mkHid (HB5.out.then hb6)
        clear hb6
        have HQT := mkHid (quote_any (Tx.fName bb) w6 (by rw [hfn]; omega))
        rw [show (⟨(nameL (Tx.fName bb).data.toList).toArray⟩ : ByteArray) = q1 from HQ1.out.symm] at HQT
        go_wp2_with fail
        refine HQT.out.mono ?_
        clear HQT
        rintro e w7 ⟨rfl, hb7⟩
        have HB7 := mkHid (HB6.out.then hb7)
        clear hb7
        go_wp2_with fail
        have hcd := (Below.refl w7.heap.size w7).drew
        have hc7 := HB7.out.then hcd
        refine wp_region_noPanic ?_
        refine wp_region_held_drew (S := (fun w' : World => w'.cell? ⟨bt, ot, none⟩ = some (.slice aa x.flat.length ca) ∧ w'.cell? ⟨bt, ot + m, none⟩ = some (.slice ab y.flat.length cb))) (by kernel_rfl) (HCE.out _ hc7) (fun hSd => ?_)
        refine wpAnyH_take (i := 0) (oi := _) (v := ?_) rfl (by kernel_rfl) (by kernel_rfl) (by kernel_rfl) (fun _ _ _ h => h) (Or.inl ⟨by rfl, ?_⟩) (by assumption) ?_
        rotate_left
        · (intro w' hSw; (try dsimp only at hSw); go_simp; (try simp only [hwm]); (try go_simp); (try rw [if_pos (by omega : (m : Int) < (m : Int) + 1)]); (try go_simp); try with_reducible rfl)
        (try simp only [Act.put, List.setIfInBounds_toArray, List.set_cons_zero, List.set_cons_succ])
        refine wpAnyH_take (i := 1) (oi := _) (v := ?_) rfl (by kernel_rfl) (by kernel_rfl) (by kernel_rfl) (fun _ _ _ h => h) (Or.inl ⟨by rfl, ?_⟩) (by assumption) ?_
        rotate_left
        · (intro w' hSw; (try dsimp only at hSw); go_simp; (try simp only [hwm]); (try go_simp); (try rw [if_pos (by omega : (m : Int) < (m : Int) + 1)]); (try go_simp); try with_reducible rfl)
        (try simp only [Act.put, List.setIfInBounds_toArray, List.set_cons_zero, List.set_cons_succ])
        refine wpAnyH_take (i := 2) (oi := _) (v := ?_) rfl (by kernel_rfl) (by kernel_rfl) (by kernel_rfl) (fun _ _ _ h => h) (Or.inl ⟨by rfl, ?_⟩) (by assumption) ?_
        rotate_left
        · (intro w' hSw; (try dsimp only at hSw); go_simp; (try simp only [hwm]); (try go_simp); (try rw [if_pos (by omega : (m : Int) < (m : Int) + 1)]); (try go_simp); try with_reducible rfl)
        (try simp only [Act.put, List.setIfInBounds_toArray, List.set_cons_zero, List.set_cons_succ])
        refine wpAnyH_take (i := 4) (oi := _) (v := ?_) rfl (by kernel_rfl) (by kernel_rfl) (by kernel_rfl) (fun _ _ _ h => h) (Or.inl ⟨by rfl, ?_⟩) (by assumption) ?_
        rotate_left
        · (intro w' hSw; (try dsimp only at hSw); go_simp; (try simp only [hwm]); (try go_simp); (try rw [if_pos (by omega : (m : Int) < (m : Int) + 1)]); (try go_simp); try with_reducible rfl)
        (try simp only [Act.put, List.setIfInBounds_toArray, List.set_cons_zero, List.set_cons_succ])
        refine wpAnyH_take (i := 5) (oi := _) (v := ?_) rfl (by kernel_rfl) (by kernel_rfl) (by kernel_rfl) (fun _ _ _ h => h) (Or.inl ⟨by rfl, ?_⟩) (by assumption) ?_
        rotate_left
        · (intro w' hSw; (try dsimp only at hSw); go_simp; (try simp only [hwm]); (try go_simp); (try rw [if_pos (by omega : (m : Int) < (m : Int) + 1)]); (try go_simp); try with_reducible rfl)
        (try simp only [Act.put, List.setIfInBounds_toArray, List.set_cons_zero, List.set_cons_succ])
        refine wpAnyH_take (i := 9) (oi := _) (v := ?_) rfl (by kernel_rfl) (by kernel_rfl) (by kernel_rfl) (fun _ _ _ h => h) (Or.inl ⟨by rfl, ?_⟩) (by assumption) ?_
        rotate_left
        · (intro w' hSw; (try dsimp only at hSw); go_simp; (try simp only [hwm]); (try go_simp); (try rw [if_pos (by omega : (m : Int) < (m : Int) + 1)]); (try go_simp); try with_reducible rfl)
        (try simp only [Act.put, List.setIfInBounds_toArray, List.set_cons_zero, List.set_cons_succ])
        refine wpAnyH_take (i := 3) (oi := _) (v := ?_) rfl (by kernel_rfl) (by kernel_rfl) (by kernel_rfl) (fun _ _ _ h => h) (Or.inl ⟨by rfl, ?_⟩) (by assumption) ?_
        rotate_left
        · (intro w' hSw; (try dsimp only at hSw); go_simp; (try simp only [hwm]); (try go_simp); (try rw [if_pos (by omega : (m : Int) < (m : Int) + 1)]); (try go_simp); try with_reducible rfl)
        (try simp only [Act.put, List.setIfInBounds_toArray, List.set_cons_zero, List.set_cons_succ])
        refine wpAnyH_take (i := 6) (oi := _) (v := ?_) rfl (by kernel_rfl) (by kernel_rfl) (by kernel_rfl) (fun _ _ _ h => h) (Or.inl ⟨by rfl, ?_⟩) (by assumption) ?_
        rotate_left
        · (intro w' hSw; (try dsimp only at hSw); go_simp; (try simp only [hwm]); (try go_simp); (try rw [if_pos (by omega : (m : Int) < (m : Int) + 1)]); (try go_simp); try with_reducible rfl)
        (try simp only [Act.put, List.setIfInBounds_toArray, List.set_cons_zero, List.set_cons_succ])
        refine wpAnyH_take (i := 7) (oi := _) (v := ?_) rfl (by kernel_rfl) (by kernel_rfl) (by kernel_rfl) (fun _ _ _ h => h) (Or.inl ⟨by rfl, ?_⟩) (by assumption) ?_
        rotate_left
        · (intro w' hSw; (try dsimp only at hSw); go_simp; (try simp only [hwm]); (try go_simp); (try rw [if_pos (by omega : (m : Int) < (m : Int) + 1)]); (try go_simp); try with_reducible rfl)
        (try simp only [Act.put, List.setIfInBounds_toArray, List.set_cons_zero, List.set_cons_succ])
        refine wpAnyH_take (i := 8) (oi := _) (v := ?_) rfl (by kernel_rfl) (by kernel_rfl) (by kernel_rfl) (fun _ _ _ h => h) (Or.inl ⟨by rfl, ?_⟩) (by assumption) ?_
        rotate_left
        · (intro w' hSw; (try dsimp only at hSw); go_simp; (try simp only [hwm]); (try go_simp); (try rw [if_pos (by omega : (m : Int) < (m : Int) + 1)]); (try go_simp); try with_reducible rfl)
        (try simp only [Act.put, List.setIfInBounds_toArray, List.set_cons_zero, List.set_cons_succ])
        refine wpAnyH_take (i := 10) (oi := _) (v := ?_) rfl (by kernel_rfl) (by kernel_rfl) (by kernel_rfl) (fun _ _ _ h => h) (Or.inl ⟨by rfl, ?_⟩) (by assumption) ?_
        rotate_left
        · (intro w' hSw; (try dsimp only at hSw); go_simp; (try simp only [hwm]); (try go_simp); (try rw [if_pos (by omega : (m : Int) < (m : Int) + 1)]); (try go_simp); try with_reducible rfl)
        (try simp only [Act.put, List.setIfInBounds_toArray, List.set_cons_zero, List.set_cons_succ])
        refine wpAnyH_done (by kernel_rfl) (NoPanic.normal ?_) _
        have HB7d := mkHid hc7
        have hwd : w7.heap.size ≤ w7.drew.heap.size := Nat.le_refl _
        clear hSd hcd hc7
        generalize w7.drew = w8 at *
        have hw2 := rowTwo w8 (HRA.out.below HB7d.out) (HRB.out.below HB7d.out)
        have hn2 := (Below.refl w8.heap.size w8).new (.cells #[.slice aa x.flat.length ca, .slice ab y.flat.length cb] 22)
        have HM2 := mkHid (umk ⟨#[43]⟩ [x, y] 2 rfl (by omega) ⟨HXO.out.1, HYO.out.1, trivial⟩ (by decide +kernel) (by decide) (by have := HXO.out.2; have := HYO.out.2; simp only [flats, List.length_append, List.length_nil]; omega) _ _ _ hw2)
        have HN2 := mkHid hn2
        have y1 : ¬ 9223372036854775807 < 1 + u.size := by omega
        have y2 : ¬ 9223372036854775807 < 1 + u.size + 3 := by omega
        have y3 : ¬ 9223372036854775807 < 1 + u.size + 3 + v.size := by omega
        have y4 : ¬ 9223372036854775807 < 1 + u.size + 3 + v.size + 1 := by omega
        have y5 : ¬ 9223372036854775807 < 2 + u.size := by omega
        have y6 : ¬ 9223372036854775807 < 2 + u.size + 1 := by omega
        clear hw2 hn2
        go_wp2_with fail
        refine HM2.out.mono ?_
        clear HM2
        rintro e w9 ⟨a9, c9, rfl, hr9, ho9, hb9⟩
        have hb89 := HB7d.out.then (HN2.out.then hb9)
        have HPT := mkHid (pterm_any _ ho9 (by have := HXO.out.2; have := HYO.out.2; rw [flat_args]; simp only [Tm.args, flats, List.length_append, List.length_nil]; omega) a9 c9 w9 (by omega) (HPW.out _ hb89) hr9)
        rw [← HPL.out] at HPT
        have HB9 := mkHid hb89
        clear hr9 ho9 hb9 hb89
        go_wp2_with fail
        refine HPT.out.mono ?_
        clear HPT
        rintro e w10 ⟨rfl, hb10⟩
        have HB10 := mkHid (HB9.out.then hb10)
        clear hb10
        go_wp2_with fail
        refine (HPX.out _ HB10.out).mono ?_
        rintro e w11 ⟨rfl, hb11⟩
        have HB11 := mkHid (HB10.out.then hb11)
        clear hb11
        go_wp2_with fail
        refine (HPY.out _ HB11.out).mono ?_
        rintro e w12 ⟨rfl, hb12⟩
        have HB12 := mkHid (HB11.out.then hb12)
        have hw1 := rowOne w12 (HRA.out.below HB12.out)
        have hn1 := (Below.refl w12.heap.size w12).new (.cells #[.slice aa x.flat.length ca] 22)
        have HM1 := mkHid (umk ⟨#[45]⟩ [x] 1 rfl (by omega) ⟨HXO.out.1, trivial⟩ (by decide +kernel) (by decide) (by have := HXO.out.2; simp only [flats, List.length_append, List.length_nil]; omega) _ _ _ hw1)
        have HN1 := mkHid hn1
        clear hb12 hw1 hn1
        go_wp2_with fail
        refine HM1.out.mono ?_
        clear HM1
        rintro e w13 ⟨a13, c13, rfl, hr13, ho13, hb13⟩
        have hb113 := HB12.out.then (HN1.out.then hb13)
        have HPT := mkHid (pterm_any _ ho13 (by have := HXO.out.2; rw [flat_args]; simp only [Tm.args, flats, List.length_append, List.length_nil]; omega) a13 c13 w13 (by omega) (HPW.out _ hb113) hr13)
        rw [← HMI.out] at HPT
        have HB13 := mkHid hb113
        clear hr13 ho13 hb13 hb113
        go_wp2_with fail
        refine HPT.out.mono ?_
        clear HPT
        rintro e w14 ⟨rfl, hb14⟩
        have HB14 := mkHid (HB13.out.then hb14)
        clear hb14
        go_wp2_with fail
        refine (HPX.out _ HB14.out).mono ?_
        rintro e w15 ⟨rfl, hb15⟩
        have HB15 := mkHid (HB14.out.then hb15)
        clear hb15
        go_wp2_with fail
        go_ret
        exact ⟨rfl, HBW.out.then HB15.out⟩
end Go.Proofs.YtabjghmfjoefpaaDoor
namespace Go.Proofs.YtabjghmfjoefpaaDoor
open Go.RowKit Go.ChangeShapes Go.WideShapes Go.Deep Go.ChangeAt

theorem Tryd.own : ownKnob Tryd.prog.godebug = none := by kernel_rfl
theorem Tryd.laidOut : laidOutB Tryd.prog = true := by kernel_rfl
theorem Tryd.cells62 : Tryd.prog.cellsOf 62 = 3 := by kernel_rfl
theorem Tryd.cells22 : Tryd.prog.cellsOf 22 = 1 := by kernel_rfl
theorem Tryd.cells3 : Tryd.prog.cellsOf 3 = 1 := by kernel_rfl
theorem Tryd.cells9 : Tryd.prog.cellsOf 9 = 1 := by kernel_rfl

theorem i64_wf {n : Int} (h : (Lit.int .i64 n).wf = true) : -9223372036854775808 ≤ n ∧ n ≤ 9223372036854775807 := by
  simp [Lit.wf, IntKind.min, IntKind.max, IntKind.signed, IntKind.bits] at h
  omega
theorem add_lit (b o j : Nat) : (Addr.mk b o none).add j = ⟨b, o + j, none⟩ := by unfold Addr.add; split <;> simp_all

section
variable {H : Type} {enc : TypeId × Value → H} {w : World} {spare : Nat → Bool} {held : Bool}
set_option maxRecDepth 100000 in
/-- three cells that read as a cell of a term -/
theorem open_cell {n : Nat} {cs : List Value} {x : DataW H × List MemPlace} (h : DataW.trod enc Tryd.prog w 0 spare held n 62 cs = some x) :
    ∃ c : Cel, cs = [.int .i64 c.k, .string c.s, .int .i64 c.n] ∧ c.fit := by
  obtain ⟨ys, m, _, _, hlen, hyl, hf⟩ := DataW.trod_struct Tryd.underlying62 h
  rw [Tryd.cells62] at hlen
  match cs, hlen with
  | [v0, v1, v2], _ =>
    have h0 : DataW.trod enc Tryd.prog w 0 spare held m 3 (([v0, v1, v2].drop 0).take (Tryd.prog.cellsOf 3)) = ys[0]? := hf 0 _ rfl
    have h1 : DataW.trod enc Tryd.prog w 0 spare held m 9 (([v0, v1, v2].drop 1).take (Tryd.prog.cellsOf 9)) = ys[1]? := hf 1 _ rfl
    have h2 : DataW.trod enc Tryd.prog w 0 spare held m 3 (([v0, v1, v2].drop 2).take (Tryd.prog.cellsOf 3)) = ys[2]? := hf 2 _ rfl
    rw [Tryd.cells3] at h0 h2
    rw [Tryd.cells9] at h1
    have hy : ∀ i : Nat, i < 3 → ∃ y, ys[i]? = some y := fun i hi => ⟨_, List.getElem?_eq_getElem (by rw [hyl]; exact hi)⟩
    obtain ⟨y0, e0⟩ := hy 0 (by omega)
    obtain ⟨y1, e1⟩ := hy 1 (by omega)
    obtain ⟨y2, e2⟩ := hy 2 (by omega)
    rw [e0] at h0
    rw [e1] at h1
    rw [e2] at h2
    obtain ⟨a0, q0, _, f0⟩ := DataW.trod_int Tryd.underlying3 h0
    obtain ⟨a1, q1, _, f1⟩ := DataW.trod_string Tryd.underlying9 h1
    obtain ⟨a2, q2, _, f2⟩ := DataW.trod_int Tryd.underlying3 h2
    simp at q0 q1 q2
    refine ⟨⟨a0, a1, a2⟩, by rw [q0, q1, q2], ⟨(i64_wf f0).1, (i64_wf f0).2, (i64_wf f2).1, (i64_wf f2).2, by unfold maxLen at f1; exact f1⟩⟩

/-- what rows of a kind are made of -/
theorem open_rows {α : Type} [Rep α] {t e : TypeId} (ht : Tryd.prog.underlying t = some (.slice e)) (hC : Tryd.prog.cellsOf e = Rep.sz α)
    (hE : ∀ (n : Nat) (a : Addr) (cs : List Value) (x : DataW H × List MemPlace), w.cells? 0 a (Rep.sz α) = some cs → DataW.trod enc Tryd.prog w 0 (fun _ => true) held n e cs = some x → ∃ (b o : Nat) (y : α), a = ⟨b, o, none⟩ ∧ Rep.E w b o y)
    {fuel : Nat} {a : Option Addr} {len cap : Nat} {x : DataW H × List MemPlace} (h : DataW.trod enc Tryd.prog w 0 (fun _ => true) held fuel t [.slice a len cap] = some x) :
    ∃ xs : List α, xs.length = len ∧ Row w a cap xs := by
  rcases open_slice ht h with ⟨hcs, _⟩ | ⟨ad, l, c, m, n, D, Pl, hcs, _, hl, hm, hmm, _, hi⟩
  · simp at hcs
    obtain ⟨rfl, rfl, rfl⟩ := hcs
    exact ⟨[], rfl, Row.empty _ _ _ (by omega) (fun _ => rfl)⟩
  · simp at hcs
    obtain ⟨rfl, rfl, rfl⟩ := hcs
    simp only [if_true] at hmm
    subst hmm
    have key : ∀ i, i < len → ∃ (b o : Nat) (y : α), ad.add (i * Rep.sz α) = ⟨b, o, none⟩ ∧ Rep.E w b o y := by
      intro i hil
      obtain ⟨cs', hc, ht'⟩ := hi i (by omega)
      rw [hC] at hc
      exact hE n _ cs' _ hc ht'
    have hy : ∀ i : Fin len, ∃ y : α, ∃ b o, ad.add (i.val * Rep.sz α) = ⟨b, o, none⟩ ∧ Rep.E w b o y := fun i => by
      obtain ⟨b, o, y, e1, e2⟩ := key i.val i.isLt
      exact ⟨y, b, o, e1, e2⟩
    let f : Fin len → α := fun i => Classical.choose (hy i)
    have hf : ∀ i : Fin len, ∃ b o, ad.add (i.val * Rep.sz α) = ⟨b, o, none⟩ ∧ Rep.E w b o (f i) := fun i => Classical.choose_spec (hy i)
    refine ⟨List.ofFn f, List.length_ofFn, ⟨by rw [List.length_ofFn]; exact hl, by unfold maxLen at hm; omega, (fun e => by cases e), fun i x hx => ?_⟩⟩
    have hil : i < len := by
      have := (List.getElem?_eq_some_iff.1 hx).1; rwa [List.length_ofFn] at this
    have hx' : f ⟨i, hil⟩ = x := by
      rw [List.getElem?_eq_getElem (by rw [List.length_ofFn]; exact hil), List.getElem_ofFn] at hx
      exact Option.some.inj hx
    obtain ⟨b, o, e1, e2⟩ := hf ⟨i, hil⟩
    obtain ⟨b0, o0, s0⟩ := ad
    have hz := hf ⟨0, by omega⟩
    obtain ⟨b1, o1, e3, _⟩ := hz
    simp only [Nat.zero_mul, Addr.add, if_true] at e3
    injection e3 with e3 e4 e5
    subst e5
    rw [add_lit] at e1
    injection e1 with e1 e6
    subst e1
    refine ⟨b0, o0, rfl, ?_⟩
    rw [hx'] at e2
    rw [← e6] at e2
    exact e2

theorem spot_none {a : Addr} {v : Value} (h : w.cell? a = some v) : ∃ b o, a = ⟨b, o, none⟩ := by
  have := World.cell?_spot h
  obtain ⟨b, o, s⟩ := a
  simp at this
  subst this
  exact ⟨b, o, rfl⟩
theorem E_cell (n : Nat) (a : Addr) (cs : List Value) (x : DataW H × List MemPlace) (hc : w.cells? 0 a 3 = some cs) (h : DataW.trod enc Tryd.prog w 0 spare held n 62 cs = some x) : ∃ (b o : Nat) (y : Cel), a = ⟨b, o, none⟩ ∧ Rep.E w b o y := by
  obtain ⟨c, rfl, hf⟩ := open_cell h
  obtain ⟨_, _, hat⟩ := World.cells?_some hc
  have h0 := hat 0 (by omega)
  obtain ⟨b, o, rfl⟩ : ∃ b o, a = ⟨b, o, none⟩ := spot_none (by simpa [Addr.add] using h0)
  refine ⟨b, o, c, rfl, ?_⟩
  have h1 := hat 1 (by omega)
  have h2 := hat 2 (by omega)
  rw [add_lit] at h0 h1 h2
  exact ⟨h0, h1, h2, hf⟩
/-- []Cell -/
theorem open_cells {fuel : Nat} {a : Option Addr} {len cap : Nat} {x : DataW H × List MemPlace} (h : DataW.trod enc Tryd.prog w 0 (fun _ => true) held fuel 22 [.slice a len cap] = some x) :
    ∃ xs : List Cel, xs.length = len ∧ Row w a cap xs :=
  open_rows Tryd.underlying22 Tryd.cells62 (fun n a cs x h1 h2 => E_cell n a cs x h1 h2) h
theorem E_list {α : Type} [Rep α] {e : TypeId} {el : TypeId} (he : Tryd.prog.underlying e = some (.slice el))
    (hop : ∀ {fuel : Nat} {a : Option Addr} {len cap : Nat} {x : DataW H × List MemPlace}, DataW.trod enc Tryd.prog w 0 (fun _ => true) held fuel e [.slice a len cap] = some x → ∃ xs : List α, xs.length = len ∧ Row w a cap xs)
    (n : Nat) (a : Addr) (cs : List Value) (x : DataW H × List MemPlace) (hc : w.cells? 0 a 1 = some cs) (h : DataW.trod enc Tryd.prog w 0 (fun _ => true) held n e cs = some x) : ∃ (b o : Nat) (y : List α), a = ⟨b, o, none⟩ ∧ Rep.E w b o y := by
  obtain ⟨_, hl, hat⟩ := World.cells?_some hc
  have h0 := hat 0 (by omega)
  match cs, hl with
  | [v], _ =>
    have hv : ∃ a' len cap, v = .slice a' len cap := by
      rcases open_slice he h with ⟨hcs, _⟩ | ⟨ad, l, c, m, n, D, Pl, hcs, _⟩
      · simp at hcs; exact ⟨_, _, _, hcs⟩
      · simp at hcs; exact ⟨_, _, _, hcs⟩
    obtain ⟨a', len, cap, rfl⟩ := hv
    obtain ⟨xs, rfl, hr⟩ := hop h
    obtain ⟨b, o, rfl⟩ : ∃ b o, a = ⟨b, o, none⟩ := spot_none (by simpa [Addr.add] using h0)
    rw [add_lit] at h0
    exact ⟨b, o, xs, rfl, ⟨a', cap, h0, hr⟩⟩
/-- [][]Cell -/
theorem open_cellss {fuel : Nat} {a : Option Addr} {len cap : Nat} {x : DataW H × List MemPlace} (h : DataW.trod enc Tryd.prog w 0 (fun _ => true) held fuel 58 [.slice a len cap] = some x) :
    ∃ xs : List (List Cel), xs.length = len ∧ Row w a cap xs :=
  open_rows Tryd.underlying58 Tryd.cells22 (fun n a cs x h1 h2 => E_list (α := Cel) Tryd.underlying22 open_cells n a cs x h1 h2) h
end
end Go.Proofs.YtabjghmfjoefpaaDoor
namespace Go.Proofs.YtabjghmfjoefpaaDoor
open Go.RowKit Go.ChangeShapes Go.WideShapes Go.Deep Go.ChangeAt

theorem Tryd.cells4 : Tryd.prog.cellsOf 4 = 1 := by kernel_rfl
theorem Tryd.cells49 : Tryd.prog.cellsOf 49 = 2 := by kernel_rfl
theorem Tryd.cells31 : Tryd.prog.cellsOf 31 = 1 := by kernel_rfl
theorem Tryd.cells33 : Tryd.prog.cellsOf 33 = 2 := by kernel_rfl
section
variable {H : Type} {enc : TypeId × Value → H} {w : World} {held : Bool}
theorem open_slv {fuel : Nat} {t e : TypeId} (he : Tryd.prog.underlying t = some (.slice e)) {v : Value} {x : DataW H × List MemPlace} (h : DataW.trod enc Tryd.prog w 0 (fun _ => true) held fuel t [v] = some x) : ∃ a len cap, v = .slice a len cap := by
  rcases open_slice he h with ⟨hcs, _⟩ | ⟨ad, l, c, m, n, D, Pl, hcs, _⟩
  · simp at hcs; exact ⟨_, _, _, hcs⟩
  · simp at hcs; exact ⟨_, _, _, hcs⟩
set_option maxRecDepth 100000 in
theorem open_lit7 {n : Nat} {cs : List Value} {x : DataW H × List MemPlace} (h : DataW.trod enc Tryd.prog w 0 (fun _ => true) held n 49 cs = some x) :
    ∃ (v : Bool) (t : List Cel) (a : Option Addr) (cap : Nat), cs = [.bool v, .slice a t.length cap] ∧ Row w a cap t := by
  obtain ⟨ys, m, _, _, hlen, hyl, hf⟩ := DataW.trod_struct Tryd.underlying49 h
  rw [Tryd.cells49] at hlen
  match cs, hlen with
  | [v0, v1], _ =>
    have h0 : DataW.trod enc Tryd.prog w 0 (fun _ => true) held m 4 (([v0, v1].drop 0).take (Tryd.prog.cellsOf 4)) = ys[0]? := hf 0 _ rfl
    have h1 : DataW.trod enc Tryd.prog w 0 (fun _ => true) held m 22 (([v0, v1].drop 1).take (Tryd.prog.cellsOf 22)) = ys[1]? := hf 1 _ rfl
    rw [Tryd.cells4] at h0
    rw [Tryd.cells22] at h1
    have hy : ∀ i : Nat, i < 2 → ∃ y, ys[i]? = some y := fun i hi => ⟨_, List.getElem?_eq_getElem (by rw [hyl]; exact hi)⟩
    obtain ⟨y0, e0⟩ := hy 0 (by omega)
    obtain ⟨y1, e1⟩ := hy 1 (by omega)
    rw [e0] at h0
    rw [e1] at h1
    obtain ⟨a0, q0, _⟩ := DataW.trod_bool Tryd.underlying4 h0
    simp at q0
    have h1' : DataW.trod enc Tryd.prog w 0 (fun _ => true) held m 22 [v1] = some y1 := by simpa using h1
    obtain ⟨a', len, cap, rfl⟩ := open_slv Tryd.underlying22 h1'
    obtain ⟨xs, rfl, hr⟩ := open_cells h1'
    exact ⟨a0, xs, a', cap, by rw [q0], hr⟩
set_option maxRecDepth 100000 in
theorem E_lit7 (n : Nat) (a : Addr) (cs : List Value) (x : DataW H × List MemPlace) (hc : w.cells? 0 a 2 = some cs) (h : DataW.trod enc Tryd.prog w 0 (fun _ => true) held n 49 cs = some x) : ∃ (b o : Nat) (y : Lt), a = ⟨b, o, none⟩ ∧ Rep.E w b o y := by
  obtain ⟨v, t, a', cap, rfl, hr⟩ := open_lit7 h
  obtain ⟨_, _, hat⟩ := World.cells?_some hc
  have h0 := hat 0 (by omega)
  obtain ⟨b, o, rfl⟩ : ∃ b o, a = ⟨b, o, none⟩ := spot_none (by simpa [Addr.add] using h0)
  refine ⟨b, o, ⟨v, t⟩, rfl, ?_⟩
  have h1 := hat 1 (by omega)
  rw [add_lit] at h0 h1
  exact ⟨a', cap, h0, h1, hr⟩
theorem open_lits7 {fuel : Nat} {a : Option Addr} {len cap : Nat} {x : DataW H × List MemPlace} (h : DataW.trod enc Tryd.prog w 0 (fun _ => true) held fuel 31 [.slice a len cap] = some x) :
    ∃ xs : List Lt, xs.length = len ∧ Row w a cap xs :=
  open_rows Tryd.underlying31 Tryd.cells49 (fun n a cs x h1 h2 => E_lit7 n a cs x h1 h2) h
set_option maxRecDepth 100000 in
theorem open_clause7 {n : Nat} {cs : List Value} {x : DataW H × List MemPlace} (h : DataW.trod enc Tryd.prog w 0 (fun _ => true) held n 33 cs = some x) :
    ∃ (c : Cl) (a : Option Addr) (cap : Nat) (a' : Option Addr) (cap' : Nat), cs = [.slice a c.h.length cap, .slice a' c.b.length cap'] ∧ Row w a cap c.h ∧ Row w a' cap' c.b := by
  obtain ⟨ys, m, _, _, hlen, hyl, hf⟩ := DataW.trod_struct Tryd.underlying33 h
  rw [Tryd.cells33] at hlen
  match cs, hlen with
  | [v0, v1], _ =>
    have h0 : DataW.trod enc Tryd.prog w 0 (fun _ => true) held m 22 (([v0, v1].drop 0).take (Tryd.prog.cellsOf 22)) = ys[0]? := hf 0 _ rfl
    have h1 : DataW.trod enc Tryd.prog w 0 (fun _ => true) held m 31 (([v0, v1].drop 1).take (Tryd.prog.cellsOf 31)) = ys[1]? := hf 1 _ rfl
    rw [Tryd.cells22] at h0
    rw [Tryd.cells31] at h1
    have hy : ∀ i : Nat, i < 2 → ∃ y, ys[i]? = some y := fun i hi => ⟨_, List.getElem?_eq_getElem (by rw [hyl]; exact hi)⟩
    obtain ⟨y0, e0⟩ := hy 0 (by omega)
    obtain ⟨y1, e1⟩ := hy 1 (by omega)
    rw [e0] at h0
    rw [e1] at h1
    have h0' : DataW.trod enc Tryd.prog w 0 (fun _ => true) held m 22 [v0] = some y0 := by simpa using h0
    have h1' : DataW.trod enc Tryd.prog w 0 (fun _ => true) held m 31 [v1] = some y1 := by simpa using h1
    obtain ⟨a, len, cap, rfl⟩ := open_slv Tryd.underlying22 h0'
    obtain ⟨a', len', cap', rfl⟩ := open_slv Tryd.underlying31 h1'
    obtain ⟨xs, rfl, hr⟩ := open_cells h0'
    obtain ⟨ls, rfl, hr'⟩ := open_lits7 h1'
    exact ⟨⟨xs, ls⟩, a, cap, a', cap', rfl, hr, hr'⟩
set_option maxRecDepth 100000 in
theorem E_clause7 (n : Nat) (a : Addr) (cs : List Value) (x : DataW H × List MemPlace) (hc : w.cells? 0 a 2 = some cs) (h : DataW.trod enc Tryd.prog w 0 (fun _ => true) held n 33 cs = some x) : ∃ (b o : Nat) (y : Cl), a = ⟨b, o, none⟩ ∧ Rep.E w b o y := by
  obtain ⟨c, a1, cap, a', cap', rfl, hr, hr'⟩ := open_clause7 h
  obtain ⟨_, _, hat⟩ := World.cells?_some hc
  have h0 := hat 0 (by omega)
  obtain ⟨b, o, rfl⟩ : ∃ b o, a = ⟨b, o, none⟩ := spot_none (by simpa [Addr.add] using h0)
  refine ⟨b, o, c, rfl, ?_⟩
  have h1 := hat 1 (by omega)
  rw [add_lit] at h0 h1
  exact ⟨a1, cap, a', cap', h0, h1, hr, hr'⟩
theorem open_clauses7 {fuel : Nat} {a : Option Addr} {len cap : Nat} {x : DataW H × List MemPlace} (h : DataW.trod enc Tryd.prog w 0 (fun _ => true) held fuel 23 [.slice a len cap] = some x) :
    ∃ xs : List Cl, xs.length = len ∧ Row w a cap xs :=
  open_rows Tryd.underlying23 Tryd.cells33 (fun n a cs x h1 h2 => E_clause7 n a cs x h1 h2) h
/-! ### a name with a number -/
theorem Tryd.cells26 : Tryd.prog.cellsOf 26 = 2 := by kernel_rfl
theorem Tryd.cells24 : Tryd.prog.cellsOf 24 = 1 := by kernel_rfl
theorem u16_wf {n : Int} (h : (Lit.int .u16 n).wf = true) : 0 ≤ n ∧ n < 65536 := by
  simp [Lit.wf, IntKind.min, IntKind.max, IntKind.signed, IntKind.bits] at h; omega
set_option maxRecDepth 100000 in
theorem open_named {n : Nat} {cs : List Value} {x : DataW H × List MemPlace} (h : DataW.trod enc Tryd.prog w 0 (fun _ => true) held n 26 cs = some x) :
    ∃ (s : ByteArray) (m : Nat), cs = [.string s, .int .u16 (m : Int)] ∧ m < 65536 := by
  obtain ⟨ys, m, _, _, hlen, hyl, hf⟩ := DataW.trod_struct Tryd.underlying26 h
  rw [Tryd.cells26] at hlen
  match cs, hlen with
  | [v0, v1], _ =>
    have h0 : DataW.trod enc Tryd.prog w 0 (fun _ => true) held m 9 (([v0, v1].drop 0).take (Tryd.prog.cellsOf 9)) = ys[0]? := hf 0 _ rfl
    have h1 : DataW.trod enc Tryd.prog w 0 (fun _ => true) held m 24 (([v0, v1].drop 1).take (Tryd.prog.cellsOf 24)) = ys[1]? := hf 1 _ rfl
    rw [Tryd.cells9] at h0
    rw [Tryd.cells24] at h1
    have hy : ∀ i : Nat, i < 2 → ∃ y, ys[i]? = some y := fun i hi => ⟨_, List.getElem?_eq_getElem (by rw [hyl]; exact hi)⟩
    obtain ⟨y0, e0⟩ := hy 0 (by omega)
    obtain ⟨y1, e1⟩ := hy 1 (by omega)
    rw [e0] at h0
    rw [e1] at h1
    obtain ⟨a0, q0, _, f0⟩ := DataW.trod_string Tryd.underlying9 h0
    obtain ⟨a1, q1, _, f1⟩ := DataW.trod_int Tryd.underlying24 h1
    simp at q0 q1
    have hw := u16_wf f1
    exact ⟨a0, a1.toNat, by rw [q0, q1, Int.toNat_of_nonneg hw.1], by omega⟩
set_option maxRecDepth 100000 in
theorem agg_named {base : Nat} {v : Value} (hk : Value.okWide Tryd.prog w .any base 26 v) : ∃ cs, v = .agg cs := by
  simp only [Value.okWide, Tryd.underlying26] at hk
  obtain ⟨cs, h1, _⟩ := hk
  exact ⟨cs, h1⟩
end
end Go.Proofs.YtabjghmfjoefpaaDoor
namespace Go.Proofs.YtabjghmfjoefpaaDoor
open Go.RowKit Go.ChangeShapes Go.WideShapes Go.ChangeAt

abbrev laidL : List (String × DataW Unit) := Rows.printTellsRow.laid
/-- the heap that the door's own run leaves meets the condition -/
theorem door_met (os : Os) (args : Array Value) : laidMetH Tryd.prog laidL ((World.doorLaid Tryd.prog 4000 os).forCall (fun _ _ => 0) ⟨#[], args, []⟩).memory :=
  laidMetH_of_parts3 (fuel := 8) (laidMet_of_run' 8 (by kernel_rfl) (by kernel_rfl)) (by kernel_rfl) (by kernel_rfl)
theorem Tryd.gPowT : (Tryd.prog.globals[0]?).map (·.type) = some 136 := by kernel_rfl
theorem pow_of {W : World} (hL : laidMetH Tryd.prog laidL W) : Pow W := by
  rw [MakeChecks.laidMetH_plain _ _ _ (by kernel_rfl)] at hL
  exact Lib.tabIs_of_head pow_g Tryd.gPowT Tryd.underlying136 Tryd.underlying130 (by kernel_rfl) (by kernel_rfl) hL.tail.tail
end Go.Proofs.YtabjghmfjoefpaaDoor
namespace Go.Proofs.YtabjghmfjoefpaaDoor
end Go.Proofs.YtabjghmfjoefpaaDoor
