/-
  The contract of Encode.
-/
import Derived.Test.YtkdhmbfmjlpfbaaDoorKEncd
namespace Go.Proofs.YtkdhmbfmjlpfbaaDoor
open Go.RowKit Go.Lib

theorem run_strw {P : Program} (w : World) (src dst e : TypeId) (A : Option Addr) (m c B : Nat) (l : List Int) (hs : P.underlying src = some (.slice e)) (he : P.underlying e = some (.int .u8)) (hd : P.underlying dst = some .string)
    (hr : Rd w B A m (cells l)) : (convert src dst (.slice A m c)).run P w = .ok (.string (mkStr l)) w := by
  rw [run_convert_bytes_string w src dst e A m c hs he hd]
  obtain ⟨hl, hc⟩ := hr
  rw [cells_len] at hl
  rcases A with _ | a
  · have hm : m = 0 := by
      rcases Nat.eq_zero_or_pos m with h0 | h0
      · exact h0
      · obtain ⟨_, h, _⟩ := hc h0; cases h
    have hn : l = [] := List.eq_nil_of_length_eq_zero (by omega)
    subst hn
    subst hm
    rfl
  · have hh := run_loadCells_list (P := P) w a (cells l) (fun j v hj => by
      have hj' : j < (cells l).length := (List.getElem?_eq_some_iff.1 hj).1
      rw [cells_len] at hj'
      obtain ⟨ad, e1, _, h2⟩ := hc (by omega)
      obtain rfl := Option.some.inj e1
      exact h2 j v hj)
    rw [cells_len, hl] at hh
    exact run_bytesToString w a m c l hh

def KeRel (vs : List Va) (w : World) (v i : Value) (wr : World) : Prop :=
  ∃ k : Nat, k ≤ vs.length ∧ i = .int .i64 k ∧ wr.ownsRow w.heap.size 5 1 v (keyVs (vs.take k)).length (cells (keyVs (vs.take k))) ∧ Below w.heap.size w wr

/-- a row's key, if it is right -/
def keyS (vs : List Va) : ByteArray := if rightR vs then mkStr (keyVs vs) else ⟨#[]⟩
/-- what Encode hands back -/
def KeyRet (vs : List Va) (w : World) (e : Ending) (w' : World) : Prop :=
  Below w.heap.size w w' ∧ e = .returned (.tuple #[.string (keyS vs), .bool (rightR vs)])
theorem right_all {vs : List Va} (h : rightR vs = true) : vs.length ≤ 8 ∧ ∀ x ∈ vs, rightVa x = true := by
  unfold rightR at h
  simpa using h
theorem right_mk {vs : List Va} (h8 : vs.length ≤ 8) (h : ∀ x ∈ vs, rightVa x = true) : rightR vs = true := by
  unfold rightR
  simpa using ⟨h8, h⟩

set_option maxRecDepth 100000 in
set_option maxHeartbeats 1600000 in
theorem encode_any (A : Option Addr) (c : Nat) (vs : List Va) (w : World) (h : RowIn w w.heap.size A vs) (hm : vs.length ≤ maxLen) (hok : ∀ x ∈ vs, InN x) (hMs : Ms w) :
    Calls Tryd.prog 13 #[.slice A vs.length c] w (KeyRet vs w) := by
  obtain ⟨i0, hi, hz0, hz1, hz2⟩ := info_parts Tryd.info5
  have H := Lib.hid (And.intro h (And.intro hok hMs))
  go_enter Tryd.func13, Tryd.ntmps13
  go_wp2_with fail
  refine (rightRow_any A c vs w h hm).mono ?_
  clear h hok hMs
  rintro e w1 ⟨rfl, hb1⟩
  have HB1 := Lib.hid hb1
  clear hb1
  cases hr : rightR vs with
  | false =>
    have HR := Lib.hid hr
    have HK := Lib.hid (show keyS vs = ⟨#[]⟩ by unfold keyS; rw [hr]; rfl)
    clear hr
    go_wp2
    refine bodyPost_ret (results_tmp2 rfl _ _ _) rfl ?_
    exact ⟨HB1.out, by rw [HK.out, HR.out]; rfl⟩
  | true =>
    have h8 := (right_all hr).1
    have HA := Lib.hid (right_all hr).2
    have HR := Lib.hid hr
    have HK := Lib.hid (show keyS vs = mkStr (keyVs vs) by unfold keyS; rw [hr]; rfl)
    clear hr hm
    go_wp2_with fail
    go_loopw [4, 12] (fun v i wr => KeRel vs w v i wr) (fun _ i _ => vs.length - (Lib.intOf i).toNat)
    case atStart => exact ⟨0, by omega, rfl, by simpa [keyVs, cells] using World.ownsRow_nil _ _ _ _, HB1.out⟩
    case round =>
      obtain ⟨k, hk, rfl, hown, hb⟩ := hrel
      have hk0 : (0 : Int) ≤ (k : Int) := Int.natCast_nonneg _
      by_cases hlt : k < vs.length
      · have hlt1 : (k : Int) < (vs.length : Int) := by omega
        obtain ⟨ad, rfl, _, c0, c1, c2⟩ := (H.out.1.below hb (Nat.le_refl _)).at_ hlt
        obtain ⟨x, hx⟩ : ∃ x, x = vs[k] := ⟨_, rfl⟩
        rw [← hx] at c0 c1 c2
        have hxm : x ∈ vs := by rw [hx]; exact List.getElem_mem _
        have hxo := H.out.2.1 x hxm
        have hxr := HA.out x hxm
        have hnext : keyVs (vs.take (k + 1)) = keyVs (vs.take k) ++ keyV x := by
          rw [List.take_succ_eq_append_getElem hlt, keyVs_append, ← hx]
          simp [keyVs]
        have hlk : (keyVs (vs.take k)).length ≤ 400 := by
          have h2 := keyVs_len (l := vs.take k) (fun y hy => HA.out y (List.mem_of_mem_take hy))
          rw [List.length_take] at h2
          omega
        have hMs := (H.out.2.2.below hb (Nat.le_refl _)).below ((Below.refl wr.heap.size wr).alloc (Nat.le_refl _) (.cells #[.int .i64 x.k, .int .i64 x.n, .string x.s] 43)) (Nat.le_refl _)
        have HQ := Lib.hid (And.intro hown (And.intro hb (And.intro hnext (And.intro hlk (keyV_len hxr)))))
        have hsz := hb.size
        have HMs := Lib.hid hMs
        have HXO := Lib.hid (And.intro hxo hxr)
        clear hown hb hnext hlk hx hMs hxm hxo hxr
        go_wp2_with fail
        refine (encoded_any x _ HXO.out.2 HXO.out.1 HMs.out).mono ?_
        rintro e w4 ⟨v4, rfl, hown4, hb4⟩
        obtain ⟨A4, c4, rfl, _, _⟩ := own_shape hown4
        have HO4 := Lib.hid hown4
        have hb34 := ((Below.refl wr.heap.size wr).alloc (Nat.le_refl _) (.cells #[.int .i64 x.k, .int .i64 x.n, .string x.s] 43)).trans (hb4.mono (by simp))
        have HB4 := Lib.hid hb34
        have hsz4 := hb34.size
        clear hown4 hb4 hb34 c0 c1 c2
        go_wp2_with (at_builtin; refine wpList_append_rd _ rfl (.tmp 16) (.tmp 18) 44 rfl w.heap.size 5 i0 (.int .u8 0) 1 Tryd.underlying44 hi hz0 hz1 hz2 rfl _ _ _ rfl (own_below HQ.out.1 HB4.out (Nat.le_refl _)) w4.heap.size A4 (keyV x).length c4 _ rfl (Rd.of_own HO4.out) (cells_one _) ?c3 ?c4 ?c5 ?_)
        case c3 => have := HQ.out.2.2.2; simp [maxLen] at *; omega
        case c4 => have := HQ.out.2.2.2; omega
        case c5 => omega
        intro v' w5 hown5 hgrow
        have HR' := Lib.hid (show KeRel vs w v' (.int .i64 ((k : Int) + 1)) w5 from ⟨k + 1, by omega, by go_num, by rw [HQ.out.2.2.1, List.length_append, cells_append]; simpa using hown5, (HQ.out.2.1.trans (HB4.out.mono hsz)).trans (below_own (own_below HQ.out.1 HB4.out (Nat.le_refl _)) hgrow (by omega))⟩)
        clear hown5 hgrow
        go_wp2
        go_roundw
        case rel => exact HR'.out
        case measure => simp [Lib.intOf]; omega
      · have hlt1 : ¬ (k : Int) < (vs.length : Int) := by omega
        rw [List.take_of_length_le (by omega)] at hown
        obtain ⟨A2, c2, rfl, _, _⟩ := own_shape hown
        have hst := run_strw (P := Tryd.prog) wr 44 9 5 A2 _ c2 _ (keyVs vs) Tryd.underlying44 Tryd.underlying5 Tryd.underlying9 (Rd.of_own hown)
        have HF := Lib.hid hb
        clear hown hb
        go_wp2
        refine bodyPost_ret (results_tmp2 rfl _ _ _) rfl ?_
        exact ⟨HF.out, by rw [HK.out, HR.out]; rfl⟩
end Go.Proofs.YtkdhmbfmjlpfbaaDoor
