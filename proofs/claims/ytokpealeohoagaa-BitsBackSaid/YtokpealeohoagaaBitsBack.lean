/-
  BitsBack returns true for every list of numbers and every list of texts, and leaves both as they were: what was written is read again, one behind the other, and nothing is left.
  No condition.
-/
import Derived.Test.YtokpealeohoagaaTexts
import Derived.Deep.RegionWith
import Derived.BigQuiet
import Derived.Deep.QuietTactic
namespace Go.Proofs.Ytokpealeohoagaa
open Go.RowKit Go.Lib

def encIs : List Int → List Int
  | [] => []
  | x :: r => encI x ++ encIs r
theorem encIs_append (a b : List Int) : encIs (a ++ b) = encIs a ++ encIs b := by
  induction a with
  | nil => rfl
  | cons x a ih => simp [encIs, ih]
theorem encIs_succ {zs : List Int} {k : Nat} (hk : k < zs.length) : encIs (zs.take (k + 1)) = encIs (zs.take k) ++ encI zs[k] := by
  rw [List.take_succ_eq_append_getElem hk, encIs_append]
  simp [encIs]
theorem encIs_len (zs : List Int) (h : ∀ z ∈ zs, -9223372036854775808 ≤ z ∧ z ≤ 9223372036854775807) : (encIs zs).length ≤ zs.length * 10 := by
  induction zs with
  | nil => simp [encIs]
  | cons x r ih =>
    rw [encIs, List.length_append, List.length_cons]
    have h1 := encI_len (h x (by simp)).1 (h x (by simp)).2
    have h2 := ih fun z hz => h z (by simp [hz])
    generalize (encI x).length = p at h1 ⊢
    generalize (encIs r).length = q at h2 ⊢
    omega
theorem encIs_bytes (zs : List Int) : IsBytes (encIs zs) := by
  induction zs with
  | nil => exact .nil
  | cons x r ih => exact (encI_bytes x).append ih
theorem encTs_bytes (ss : List ByteArray) : IsBytes (encTs (ss.map bytes)) := by
  induction ss with
  | nil => exact .nil
  | cons s r ih => exact ((encI_bytes _).append (bytes_is s)).append ih

/-- the bytes that BitsBack has laid when the texts ahead of the k-th are written -/
def ty (zs : List Int) (ss : List ByteArray) (k : Nat) : List Int := encIs zs ++ encTs ((ss.take k).map bytes)
theorem ty_succ {zs : List Int} {ss : List ByteArray} {k : Nat} (hk : k < ss.length) : ty zs ss (k + 1) = ty zs ss k ++ encT (bytes ss[k]) := by
  unfold ty
  rw [List.take_succ_eq_append_getElem hk, List.map_append, encTs_append]
  simp [encTs]
theorem ty_zero (zs : List Int) (ss : List ByteArray) : ty zs ss 0 = encIs zs := by simp [ty, encTs]
theorem ty_len {zs : List Int} {ss : List ByteArray} (hz : (encIs zs).length ≤ 5000) : ∀ k, (∀ j (h : j < ss.length), j < k → ss[j].size ≤ 5000) → (ty zs ss k).length ≤ 5000 + k * 5010 := by
  intro k
  induction k with
  | zero => intro _; rw [ty_zero]; exact Nat.le_trans hz (by omega)
  | succ j ih =>
    intro hs
    have hj0 := ih fun i hi hij => hs i hi (by omega)
    rcases Nat.lt_or_ge j ss.length with hj | hj
    · rw [ty_succ hj, List.length_append, encT, List.length_append, bytes_len]
      have h1 := hs j hj (by omega)
      have h2 := encI_nat (m := ss[j].size) (by omega)
      generalize (encI ss[j].size).length = q at h2 ⊢
      generalize (ty zs ss j).length = p at hj0 ⊢
      omega
    · have h3 : ty zs ss (j + 1) = ty zs ss j := by unfold ty; rw [List.take_of_length_le (by omega), List.take_of_length_le (by omega)]
      rw [h3]; exact Nat.le_trans hj0 (by omega)

def B1Rel (zs : List Int) (w : World) (v i : Value) (wr : World) : Prop :=
  ∃ k : Nat, k ≤ zs.length ∧ i = .int .i64 k ∧ wr.ownsRow w.heap.size 5 1 v (encIs (zs.take k)).length (cells (encIs (zs.take k))) ∧ Below w.heap.size w wr
def B2Rel (zs : List Int) (ss : List ByteArray) (w : World) (v i : Value) (wr : World) : Prop :=
  ∃ k : Nat, k ≤ ss.length ∧ i = .int .i64 k ∧ wr.ownsRow w.heap.size 5 1 v (ty zs ss k).length (cells (ty zs ss k)) ∧ Below w.heap.size w wr ∧ ∀ j (h : j < ss.length), j < k → ss[j].size ≤ 5000
/-- the reader at g has still all from the k-th number on -/
def B3Rel (zs R : List Int) (g : Nat) (w : World) (i : Value) (wr : World) : Prop :=
  ∃ k : Nat, k ≤ zs.length ∧ i = .int .i64 k ∧ BR wr g (some (encIs (zs.drop k) ++ R)) ∧ Below w.heap.size w wr
def B4Rel (ss : List ByteArray) (R : List Int) (g : Nat) (w : World) (i : Value) (wr : World) : Prop :=
  ∃ k : Nat, k ≤ ss.length ∧ i = .int .i64 k ∧ BR wr g (some (encTs ((ss.drop k).map bytes) ++ R)) ∧ Below w.heap.size w wr

theorem BR.drew {w : World} {g : Nat} {s : St} (h : BR w g s) : BR w.drew g s := h

theorem grown_drew {w w' : World} {r : Option Nat} (h : w.drew.grownBy w' r) : w.grownBy w' r := ⟨h.os, h.tape, h.output, h.size, h.block⟩

theorem ints_at {zs : List Int} {k : Nat} (hk : k < zs.length) : (zs.map (Value.int .i64))[k]? = some (.int .i64 zs[k]) := by simp [hk]

set_option maxRecDepth 100000 in
set_option maxHeartbeats 6400000 in
theorem bitsBack_walk (A : Option Addr) (n c : Nat) (zs : List Int) (A' : Option Addr) (m c' : Nat) (ss : List ByteArray) (w : World)
    (hr : Rd w w.heap.size A n (zs.map (Value.int .i64))) (hwf : ∀ z ∈ zs, (Lit.int .i64 z).wf = true) (hlen : zs.length = n) (hnc : n ≤ c) (_hcm : c ≤ maxLen)
    (hr' : Rd w w.heap.size A' m (strs ss)) (_hss : ∀ s ∈ ss, s.size ≤ maxLen) (hlen' : ss.length = m) (hnc' : m ≤ c') (_hcm' : c' ≤ maxLen) :
    Calls Try.prog 5 #[.slice A n c, .slice A' m c'] w (Yes w) := by
  subst hlen
  subst hlen'
  unfold maxLen at _hcm _hcm'
  obtain ⟨i0, hi, hz0, hz1, hz2⟩ := info_parts Try.info5
  have hzb : ∀ z ∈ zs, -9223372036854775808 ≤ z ∧ z ≤ 9223372036854775807 := fun z hz => bounds_i64 (hwf z hz)
  clear hwf
  by_cases hn : 500 < zs.length
  · go_enter Try.func5, Try.ntmps5
    go_wp2_with (go_at_call 9; refine (alive_any _).mono ?_; rintro e w1 ⟨rfl, h1⟩)
    go_ret
    exact ⟨rfl, h1⟩
  · by_cases hm : 200 < ss.length
    · go_enter Try.func5, Try.ntmps5
      go_wp2_with (go_at_call 9; refine (alive_any _).mono ?_; rintro e w1 ⟨rfl, h1⟩)
      go_ret
      exact ⟨rfl, h1⟩
    · have HZB := Lib.hid hzb
      have HLZ := Lib.hid (show ∀ k, (encIs (zs.take k)).length ≤ 5000 from fun k => by
        have h := encIs_len (zs.take k) fun z hz => hzb z (List.mem_of_mem_take hz)
        have h2 : (zs.take k).length ≤ 500 := by rw [List.length_take]; omega
        omega)
      clear hzb
      go_enter Try.func5, Try.ntmps5
      go_wp2_with (go_at_call 9; refine (alive_any _).mono ?_; rintro e w1 ⟨rfl, h1⟩)
      have z1 := h1.size
      have HO := Lib.hid (show (w1.alloc (.cells #[] 5)).ownsRow w.heap.size 5 1 (.slice (some ⟨w1.heap.size, 0, none⟩) 0 0) 0 (cells []) from
        World.ownsRow_lit w1 #[] 0 z1 (by simp [maxLen]) (by simp))
      go_loopw [5, 6] (fun v i wr => B1Rel zs w v i wr) (fun _ i _ => zs.length - (intOf i).toNat)
      case atStart => exact ⟨0, by omega, rfl, by simpa [encIs] using HO.out, h1.alloc z1 _⟩
      case round =>
        clear HO
        obtain ⟨k, hk, rfl, hown, hbel⟩ := hrel
        have hbs := hbel.size
        by_cases hlt : k < zs.length
        · obtain ⟨ad, u, rfl, _, hu, hc⟩ := (hr.below hbel (Nat.le_refl _)).at_ hlt
          rw [ints_at hlt] at hu
          obtain rfl := Option.some.inj hu
          clear hu
          have HB := Lib.hid (HZB.out _ (List.getElem_mem hlt))
          have HL := Lib.hid (show (encIs (zs.take k)).length + (encI zs[k]).length ≤ 6000 by
            have h1 := HLZ.out k
            have h2 := encI_len (HZB.out _ (List.getElem_mem hlt)).1 (HZB.out _ (List.getElem_mem hlt)).2
            generalize (encI zs[k]).length = p at h2 ⊢
            generalize (encIs (zs.take k)).length = q at h1 ⊢
            omega)
          clear hr hr'
          go_wp2_with (first | (go_at_call 11; refine (int_any zs[k] _ HB.out.1 HB.out.2).mono ?_; rintro e w2 ⟨v2, rfl, h5, h6⟩; have h7 := own_below hown h6 (Nat.le_refl _); have hsz2 := h6.size; obtain ⟨A2, c2, rfl, _, _⟩ := own_shape h5) | (at_builtin; refine wpList_append_rd _ rfl (.tmp 28) (.tmp 33) 25 rfl w.heap.size 5 i0 (.int .u8 0) 1 Try.underlying25 hi hz0 hz1 hz2 rfl _ _ _ rfl h7 _ A2 _ c2 _ rfl (Rd.of_own h5) (cells_one _) ?c3 ?c4 ?c5 ?_))
          case c3 => have := HL.out; simp [maxLen]; omega
          case c4 => have := HL.out; simp; omega
          case c5 => omega
          intro v' w3 hown3 hgrow
          have hb3 := below_own h7 hgrow (by omega)
          have hfin : B1Rel zs w v' (.int .i64 ((k : Int) + 1)) w3 := ⟨k + 1, by omega, by go_num, by rw [encIs_succ hlt, List.length_append, cells_append]; exact hown3, (hbel.trans (h6.mono hbs)).trans hb3⟩
          have HF := Lib.hid hfin
          clear hfin hown3 hgrow h7 h5 hown
          go_wp2
          go_roundw
          case rel => exact HF.out
          case measure => simp [intOf]; omega
        · have hkn : k = zs.length := by omega
          subst hkn
          rw [List.take_length] at hown
          have HLA := Lib.hid (show (encIs zs).length ≤ 5000 by have h := HLZ.out zs.length; rwa [List.take_length] at h)
          have HO := Lib.hid (show wr.ownsRow w.heap.size 5 1 u5 (ty zs ss 0).length (cells (ty zs ss 0)) by rw [ty_zero]; exact hown)
          clear hown
          go_wp2
          go_loopw [5, 7] (fun v i wr => B2Rel zs ss w v i wr) (fun _ i _ => ss.length - (intOf i).toNat)
          case atStart => exact ⟨0, by omega, rfl, HO.out, hbel, fun j _ h => absurd h (by omega)⟩
          case round =>
            clear HO hbel hbs
            obtain ⟨k, hk, rfl, hown, hbel, hsz⟩ := hrel
            have hbs := hbel.size
            have HZ := Lib.hid hsz
            have HT := Lib.hid (ty_len HLA.out k hsz)
            clear hsz
            by_cases hlt2 : k < ss.length
            · obtain ⟨ad, u, rfl, _, hu, hc⟩ := (hr'.below hbel (Nat.le_refl _)).at_ hlt2
              rw [strs_at hlt2] at hu
              obtain rfl := Option.some.inj hu
              clear hu
              by_cases h50 : 5000 < ss[k].size
              · clear hr hr'
                go_wp2
                go_ret
                exact ⟨rfl, hbel⟩
              · have HL := Lib.hid (show (ty zs ss k).length + (encT (bytes ss[k])).length ≤ 2000000 by
                  rw [encT, List.length_append, bytes_len]
                  have h2 := encI_nat (m := ss[k].size) (by omega)
                  have h3 := HT.out
                  generalize (encI ss[k].size).length = q at h2 ⊢
                  generalize (ty zs ss k).length = p at h3 ⊢
                  omega)
                clear hr hr'
                go_wp2_with (first | (go_at_call 13; refine (text_any ss[k] _ (by omega)).mono ?_; rintro e w2 ⟨v2, rfl, h5, h6⟩; have h7 := own_below hown h6 (Nat.le_refl _); have hsz2 := h6.size; obtain ⟨A2, c2, rfl, _, _⟩ := own_shape h5) | (at_builtin; refine wpList_append_rd _ rfl (.tmp 47) (.tmp 52) 25 rfl w.heap.size 5 i0 (.int .u8 0) 1 Try.underlying25 hi hz0 hz1 hz2 rfl _ _ _ rfl h7 _ A2 _ c2 _ rfl (Rd.of_own h5) (cells_one _) ?d3 ?d4 ?d5 ?_))
                case d3 => have := HL.out; simp [maxLen]; omega
                case d4 => have := HL.out; simp; omega
                case d5 => omega
                intro v' w3 hown3 hgrow
                have hb3 := below_own h7 hgrow (by omega)
                have hfin : B2Rel zs ss w v' (.int .i64 ((k : Int) + 1)) w3 := ⟨k + 1, by omega, by go_num, by rw [ty_succ hlt2, List.length_append, cells_append]; exact hown3, (hbel.trans (h6.mono hbs)).trans hb3, short_succ hlt2 HZ.out h50⟩
                have HF := Lib.hid hfin
                clear hfin hown3 hgrow h7 h5 hown
                go_wp2
                go_roundw
                case rel => exact HF.out
                case measure => simp [intOf]; omega
            · have hkn2 : k = ss.length := by omega
              subst hkn2
              have HS := Lib.hid (short_all HZ.out)
              have hrr := (hr'.below hbel (Nat.le_refl _)).more hbs
              have HX := Lib.hid (show (encTexts (ss.map bytes)).length ≤ 1100000 by have h := tx_len (by omega) HS.out ss.length; rwa [tx_all] at h)
              have HL := Lib.hid (show (ty zs ss ss.length).length ≤ 2000000 from Nat.le_trans HT.out (by omega))
              clear HZ HT
              go_wp2_with (first | (go_at_call 15; refine (texts_any A' _ c' ss _ hrr (by omega) HS.out).mono ?_; rintro e w2 ⟨v2, rfl, h5, h6⟩; have h7 := own_below hown h6 (Nat.le_refl _); have hsz2 := h6.size; obtain ⟨A2, c2, rfl, _, _⟩ := own_shape h5) | (at_builtin; refine wpList_append_rd _ rfl (.tmp 54) (.tmp 56) 25 rfl w.heap.size 5 i0 (.int .u8 0) 1 Try.underlying25 hi hz0 hz1 hz2 rfl _ _ _ rfl h7 _ A2 _ c2 _ rfl (Rd.of_own h5) (cells_one _) ?e3 ?e4 ?e5 ?_))
              case e3 => have := HL.out; have := HX.out; simp [maxLen]; omega
              case e4 => have := HL.out; have := HX.out; simp; omega
              case e5 => omega
              intro v' w3 hown3 hgrow
              have hb3 := (hbel.trans (h6.mono hbs)).trans (below_own h7 hgrow (by omega))
              have z3 := hb3.size
              have hR : ty zs ss ss.length ++ encTexts (ss.map bytes) = encIs (zs.drop 0) ++ (encTs ((ss.drop 0).map bytes) ++ encTexts (ss.map bytes)) := by simp [ty]
              rw [← List.length_append, ← cells_append] at hown3
              have hBl : (ty zs ss ss.length ++ encTexts (ss.map bytes)).length ≤ 8000000000000 := by
                rw [List.length_append]
                have := HL.out
                have := HX.out
                omega
              have hBy : IsBytes (ty zs ss ss.length ++ encTexts (ss.map bytes)) := ((encIs_bytes zs).append (encTs_bytes _)).append ((encI_bytes _).append (encTs_bytes ss))
              rw [hR] at hown3 hBl hBy
              clear hR hgrow h7 h5 h6 hown hbel hbs hrr
              generalize hq : encTs ((ss.drop 0).map bytes) ++ encTexts (ss.map bytes) = R at hown3 hBl hBy
              have HQ := Lib.hid hq
              clear hq
              generalize hL : encIs (zs.drop 0) ++ R = L at hown3 hBl hBy
              have HLR := Lib.hid hL
              clear hL
              obtain ⟨A3, c3, rfl, _, _⟩ := own_shape hown3
              go_wp2_with (go_at_call 18; refine (new_any A3 _ c3 L _ (Rd.of_own hown3) hBy hBl).mono ?_; rintro e w4 ⟨g, rfl, hbr, h8, hg⟩)
              have hb4 := hb3.trans (h8.mono z3)
              have hwg : w.heap.size ≤ g := by omega
              have HBR := Lib.hid (show BR w4 g (some (encIs (zs.drop 0) ++ R)) by rw [HLR.out]; exact hbr)
              clear hown3 hBl hBy hbr h8 hg hb3 z3
              go_loopw [9] (fun i wr => B3Rel zs R g w i wr) (fun i _ => zs.length - (intOf i).toNat)
              case atStart => exact ⟨0, by omega, rfl, HBR.out, hb4⟩
              case round =>
                clear HBR hb4
                obtain ⟨k, hk, rfl, hbr, hbel⟩ := hrel
                have hbs := hbel.size
                by_cases hlt3 : k < zs.length
                · obtain ⟨ad, u, rfl, _, hu, hc⟩ := (hr.below hbel (Nat.le_refl _)).at_ hlt3
                  rw [ints_at hlt3] at hu
                  obtain rfl := Option.some.inj hu
                  clear hu
                  have HB := Lib.hid (HZB.out _ (List.getElem_mem hlt3))
                  have HI := Lib.hid (show rInt (some (encIs (zs.drop k) ++ R)) = (zs[k], some (encIs (zs.drop (k + 1)) ++ R)) by
                    rw [List.drop_eq_getElem_cons hlt3, encIs, List.append_assoc]
                    exact rInt_enc _ _ HB.out.1 HB.out.2)
                  have HN := Lib.hid (show ∀ w5, wr.grownBy w5 (some g) → Below w.heap.size w w5 from fun w5 h => hbel.grown h hbs fun j hj => by injection hj with hj; omega)
                  have HC := Lib.hid (show ∀ w5, Below w.heap.size w w5 → w5.cell? (ad.add k) = some (.int .i64 zs[k]) from fun w5 h => by
                    obtain ⟨ad', u, e, _, hu, hc⟩ := (hr.below h (Nat.le_refl _)).at_ hlt3
                    rw [ints_at hlt3] at hu
                    obtain rfl := Option.some.inj hu
                    obtain rfl := Option.some.inj e
                    exact hc)
                  clear hr hr'
                  go_wp2
                  go_region_with (go_at_call 19; refine (rint_any g _ _ (BR.drew hbr)).mono ?_; rw [HI.out]; rintro e w5 ⟨rfl, h7, h8⟩; have hb5 := HN.out w5 (grown_drew h8); have hc5 := HC.out w5 hb5)
                  all_goals
                    go_wp2
                    go_roundw
                    case rel => exact ⟨k + 1, by omega, by go_num, h7, hb5⟩
                    case measure => simp [intOf]; omega
                · have hkn3 : k = zs.length := by omega
                  subst hkn3
                  rw [List.drop_length] at hbr
                  have HBR := Lib.hid (show BR wr g (some (encTs ((ss.drop 0).map bytes) ++ encTexts (ss.map bytes))) by rw [HQ.out]; exact hbr)
                  clear hbr
                  go_wp2
                  go_loopw [10] (fun i wr => B4Rel ss (encTexts (ss.map bytes)) g w i wr) (fun i _ => ss.length - (intOf i).toNat)
                  case atStart => exact ⟨0, by omega, rfl, HBR.out, hbel⟩
                  case round =>
                    clear HBR hbel hbs
                    obtain ⟨k, hk, rfl, hbr, hbel⟩ := hrel
                    have hbs := hbel.size
                    by_cases hlt4 : k < ss.length
                    · obtain ⟨ad, u, rfl, _, hu, hc⟩ := (hr'.below hbel (Nat.le_refl _)).at_ hlt4
                      rw [strs_at hlt4] at hu
                      obtain rfl := Option.some.inj hu
                      clear hu
                      have HI := Lib.hid (show rText (some (encTs ((ss.drop k).map bytes) ++ encTexts (ss.map bytes))) = (bytes ss[k], some (encTs ((ss.drop (k + 1)).map bytes) ++ encTexts (ss.map bytes))) by
                        rw [List.drop_eq_getElem_cons hlt4, List.map_cons, encTs, List.append_assoc]
                        exact rText_enc _ _ (by rw [bytes_len]; have := HS.out _ (List.getElem_mem hlt4); omega))
                      have HN := Lib.hid (show ∀ w5, wr.grownBy w5 (some g) → Below w.heap.size w w5 from fun w5 h => hbel.grown h hbs fun j hj => by injection hj with hj; omega)
                      have HC := Lib.hid (show ∀ w5, Below w.heap.size w w5 → w5.cell? (ad.add k) = some (.string ss[k]) from fun w5 h => by
                        obtain ⟨ad', u, e, _, hu, hc⟩ := (hr'.below h (Nat.le_refl _)).at_ hlt4
                        rw [strs_at hlt4] at hu
                        obtain rfl := Option.some.inj hu
                        obtain rfl := Option.some.inj e
                        exact hc)
                      clear hr hr'
                      go_wp2
                      go_region_with (go_at_call 21; refine (rtext_any g _ _ (BR.drew hbr)).mono ?_; rw [HI.out, mkStr_bytes]; rintro e w5 ⟨rfl, h7, h8⟩; have hb5 := HN.out w5 (grown_drew h8); have hc5 := HC.out w5 hb5)
                      all_goals
                        go_wp2
                        go_roundw
                        case rel => exact ⟨k + 1, by omega, by go_num, h7, hb5⟩
                        case measure => simp [intOf]; omega
                    · have hkn4 : k = ss.length := by omega
                      subst hkn4
                      rw [List.drop_length] at hbr
                      have hbr2 : BR wr g (some (encTexts (ss.map bytes) ++ [])) := by rw [List.append_nil]; exact hbr
                      have HI := Lib.hid (show rTexts (some (encTexts (ss.map bytes) ++ [])) = (ss.map bytes, some []) from
                        rTexts_enc _ _ (by rw [List.length_map]; omega) (fun t ht => by
                          obtain ⟨s, hs, rfl⟩ := List.mem_map.1 ht
                          rw [bytes_len]
                          have := HS.out s hs
                          omega))
                      have HM := Lib.hid (show ((ss.map bytes).map mkStr) = ss by
                        rw [List.map_map]
                        have : (mkStr ∘ bytes) = id := by funext s; exact mkStr_bytes s
                        rw [this, List.map_id])
                      have HR := Lib.hid (hr'.below hbel (Nat.le_refl _))
                      clear hbr hr hr'
                      go_wp2_with fail
                      refine (rtexts_any g _ _ hbr2).mono ?_
                      rw [HI.out]
                      rintro e w5 ⟨v5, rfl, o5, hbr5, h8⟩
                      rw [HM.out] at o5
                      rw [List.length_map] at o5
                      obtain ⟨A5, c5, rfl, _, _⟩ := own_shape o5
                      have hb5 := hbel.grown h8 hbs fun j hj => by injection hj with hj; omega
                      have hr5 := HR.out.below ((Below.refl w.heap.size wr).grown h8 hbs fun j hj => by injection hj with hj; omega) (Nat.le_refl _)
                      go_wp2_with fail
                      refine (sameTexts_below A5 A' ss.length _ _ ss _ _ _ (Rd.of_own o5) hr5 (by omega)).mono ?_
                      rintro e w6 ⟨rfl, h9⟩
                      have hb6 := hb5.trans (h9.mono hb5.size)
                      have hbr6 := hbr5.below h9 hbr5.lt
                      clear o5 hr5 hbr2 hbr5
                      go_wp2_with fail
                      refine (rdone_any g _ _ hbr6).mono ?_
                      rintro e w7 ⟨rfl, rfl⟩
                      go_wp2_with fail
                      refine (rbad_any g _ _ hbr6).mono ?_
                      rintro e w7 ⟨rfl, rfl⟩
                      go_wp2
                      go_ret
                      exact ⟨rfl, hb6⟩

section
open Go.ChangeShapes Go.WideShapes Go.ChangeAt
open Go.ChangeMaps (open_string shut_string)
set_option linter.unusedVariables false
set_option maxRecDepth 100000 in
theorem bitsBack_lifted (os : Os) (started : os.Started) (H : Type) (enc : TypeId × Value → H) :
    ReturnsInHanded {} Try.checked os 5 .any (Rows.bitsBackSpec.pre6 enc Try.prog Try.f5 Rows.bitsBackRow.domain false) (Rows.bitsBackSpec.post enc Try.prog Try.f5 false true false false) := by
  refine returnsInHanded_of_change (C := Try.checked) own started (by kernel_rfl) Try.func5
    (ChangeSpec.witness6 (enc := enc) (C := Try.checked) false ⟨#[], #[.slice none 0 0, .slice none 0 0], []⟩ 8 (by kernel_rfl) (by kernel_rfl) (by kernel_rfl) (by kernel_rfl)) ?_
  intro W base args ds gs before hval0 hW hcnd _
  have hval : ∀ (j : Nat) t v, Try.f5.params[j]? = some t → args[j]? = some v → Value.okWide Try.prog W .any base t v := hval0
  have hW' := hW
  obtain ⟨p, q, hA0, hV, rfl, hfz, hnd⟩ := hW
  have hA : DataW.TrodAll enc Try.prog W 0 (fun _ => true) true Try.f5.params.toList args.toList ds p := hA0
  rw [Try.params5] at hA hval
  obtain ⟨v0, vs0, d0, ds0, p0, q0, hargs, rfl, rfl, h0, r0⟩ := trodAll_cons hA
  obtain ⟨v1, vs1, d1, ds1, p1, q1, rfl, rfl, rfl, h1, r1⟩ := trodAll_cons r0
  obtain ⟨rfl, rfl, rfl⟩ := trodAll_nil r1
  obtain rfl : args = #[v0, v1] := by cases args; simp_all
  obtain ⟨rfl, rfl⟩ := trodVars_none hV
  have k0 := h0
  have lt0 : ∀ x ∈ p0, x.block < W.heap.size := by obtain ⟨m, hm⟩ := k0; exact DataW.trod_lt m _ _ _ hm
  have k1 := h1
  have lt1 : ∀ x ∈ p1, x.block < W.heap.size := by obtain ⟨m, hm⟩ := k1; exact DataW.trod_lt m _ _ _ hm
  obtain ⟨a0, len0, cap0, rfl⟩ := okWide_slice Try.underlying30 (hval 0 30 v0 rfl rfl)
  obtain ⟨z0, r0x, w0, e0, l0, m0⟩ := rd_of_ints Try.underlying30 Try.underlying3 (by kernel_rfl) h0
  obtain ⟨a1, len1, cap1, rfl⟩ := okWide_slice Try.underlying22 (hval 1 22 v1 rfl rfl)
  obtain ⟨z1, r1x, w1, e1, l1, m1⟩ := rd_of_strs Try.underlying22 Try.underlying9 (by kernel_rfl) h1
  clear hA0 hval0
  refine (bitsBack_walk a0 len0 cap0 z0 a1 len1 cap1 z1 W r0x w0 e0 l0 m0 r1x w1 e1 l1 m1).mono fun e W' ⟨he, bel⟩ => ?_
  subst he
  exact ⟨_, rfl, _, _, _, [], _, [], hW', trodAll_mk1 (shut_bool Try.underlying4 _), (trodAll_cons_mk (Below.trod laidOut (by kernel_rfl) (of_decide_eq_true (by kernel_rfl)) k0 bel lt0) (trodAll_cons_mk (Below.trod laidOut (by kernel_rfl) (of_decide_eq_true (by kernel_rfl)) k1 bel lt1) trodAll_mk0)), rfl, bel.frame _, fun h => by cases h⟩

theorem bitsBack_over : Rows.bitsBackRow.holds Try.pinned (OpenSpec.ofChange Rows.bitsBackSpec) :=
  OpenClaim.holds_of_wide 5 Try.f5 rfl rfl rfl rfl rfl rfl rfl ⟨rfl, rfl, rfl, rfl, rfl⟩ rfl rfl rfl rfl rfl (by kernel_rfl) Try.func5 (by kernel_rfl)
    (of_decide_eq_true (by kernel_rfl)) (by unfold Func.isWrapper; first | (rw [if_pos (by decide +kernel)]; kernel_rfl) | (rw [if_neg (by decide +kernel)]; exact ⟨rfl, rfl⟩))
    (fun os started H enc _ => bitsBack_lifted os started H enc)

theorem bitsBack_holds : Rows.BitsBackSaid := bitsBack_over
end
#print axioms bitsBack_holds
end Go.Proofs.Ytokpealeohoagaa
