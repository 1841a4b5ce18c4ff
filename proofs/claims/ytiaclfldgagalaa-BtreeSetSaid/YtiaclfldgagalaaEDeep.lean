/-
  BtreeDeep over a contract of the program's tree.
-/
import Derived.Test.YtiaclfldgagalaaM20
namespace Go.Proofs.Ytiaclfldgagalaa
open Go.RowKit Go.Lib

theorem shp_deep {ps : List Tp} : ∀ (d : Nat) {root : Bool} {lo hi : Option En} {at' : Nat} {es : List En} {sz : Nat}, Shp ps d root lo hi at' es sz → d + 1 ≤ sz
  | 0, _, _, _, _, _, _, h => by
    obtain ⟨_, _, _, _, _, _, rfl⟩ := h
    omega
  | d + 1, _, _, _, _, _, _, h => by
    obtain ⟨x, parts, szs, _, _, hkl, hpl, hsl, _, _, rfl, hj⟩ := h
    have h1 := shp_deep d (hj 0 (by omega) (by omega) (by omega)).2
    cases szs with
    | nil => simp at hsl; omega
    | cons a r =>
      simp only [List.getElem_cons_zero] at h1
      simp only [List.sum_cons]
      omega
def DpRel (ps : List Tp) (d : Nat) (dv av : Value) : Prop :=
  ∃ (k e at' : Nat) (root : Bool) (lo hi : Option En) (es : List En) (sz : Nat), dv = .int .i64 e ∧ av = .int .i64 at' ∧ e + k = d ∧ Shp ps k root lo hi at' es sz
theorem shp_at {ps : List Tp} {d : Nat} {root : Bool} {lo hi : Option En} {at' : Nat} {es : List En} {sz : Nat} (h : Shp ps d root lo hi at' es sz) : ∃ x, ps[at']? = some x ∧ (x.leaf = true ↔ d = 0) := by
  cases d with
  | zero => obtain ⟨x, h1, h2, _⟩ := h; exact ⟨x, h1, by simp [h2]⟩
  | succ d => obtain ⟨x, _, _, h1, h2, _⟩ := h; exact ⟨x, h1, by simp [h2]⟩
set_option maxRecDepth 100000 in
set_option maxHeartbeats 12800000 in
theorem bdeep_walk {T : TrP} (I : Impl 1000 T) (A : Option Addr) (c : Nat) (es : List En) (w : World) (hc : RowG En.vs 3 w w.heap.size A es) (hin : ∀ x ∈ es, x.In) (_hl : es.length ≤ c) (_hm : c ≤ maxLen) :
    Calls Try.prog 8 #[.slice A es.length c] w (YesB w) := by
  obtain ⟨n, hn⟩ : ∃ n, n = es.length := ⟨_, rfl⟩
  have H := Lib.hid (And.intro hc (And.intro hin hn))
  rw [← hn]
  have hn0 : (0 : Int) ≤ (n : Int) := Int.natCast_nonneg _
  clear hc hin hn _hl _hm
  go_enter Try.func8, Try.ntmps8
  go_wp2_with fail
  refine (alive8_any I (Nat.le_refl _) w).mono ?_
  rintro e w1 ⟨rfl, h1⟩
  have H1 := Lib.hid h1
  clear h1
  by_cases hbig : 300 < n
  · have hbi : (300 : Int) < (n : Int) := by omega
    go_wp2_with fail
    go_ret
    exact ⟨rfl, H1.out⟩
  have hbi : ¬ (300 : Int) < (n : Int) := by omega
  go_wp2_with fail
  refine (I.new w1 w.heap.size H1.out.size).mono ?_
  rintro e w2 ⟨tb, D, rfl, ht2, _, hb2⟩
  have H2 := Lib.hid (show InRel T w tb n (.int .i64 0) w2 from ⟨0, D, [], Nat.zero_le _, rfl, ⟨ht2, H1.out.trans (hb2.mono H1.out.size)⟩, Sm.nil 0⟩)
  clear ht2 hb2
  go_wp2_with fail
  go_loopw [4] (fun i wr => InRel T w tb n i wr) (fun i _ => n - (intOf i).toNat)
  case atStart => exact H2.out
  case round =>
    obtain ⟨k, D, l, hk, rfl, hT, hS⟩ := hrel
    have hk0 : (0 : Int) ≤ (k : Int) := Int.natCast_nonneg _
    have HR := Lib.hid (And.intro hT hS)
    clear hT hS
    by_cases hlt : k < n
    · have hlt1 : (k : Int) < (n : Int) := by omega
      have hkl : k < es.length := by rw [← H.out.2.2]; exact hlt
      obtain ⟨ad, rfl, _, d0, d1, d2⟩ := (H.out.1.below HR.out.1.low (Nat.le_refl _)).en hkl
      obtain ⟨x, hx⟩ : ∃ x, x = es[k] := ⟨_, rfl⟩
      rw [← hx] at d0 d1 d2
      have HNX := Lib.hid (show NumOk x by rw [hx]; exact (H.out.2.1 _ (List.getElem_mem hkl)).num)
      clear hx
      by_cases hx5 : 500 < x.s.size
      · have hx5i : (500 : Int) < (x.s.size : Int) := by omega
        go_wp2_with fail
        go_ret
        exact ⟨rfl, HR.out.1.low⟩
      have hx5i : ¬ (500 : Int) < (x.s.size : Int) := by omega
      have HIN := Lib.hid (I.ins x HR.out.1.t (HR.out.2.small (by omega)).few HR.out.1.low.size (by omega) HNX.out)
      unfold En.val at HIN
      go_wp2_with fail
      refine HIN.out.mono ?_
      rintro e w5 ⟨rfl, ht5, hc5⟩
      have HF := Lib.hid (show InRel T w tb n (.int .i64 ((k : Int) + 1)) w5 from ⟨k + 1, _, _, by omega, by go_num, HR.out.1.step I ht5 hc5, HR.out.2.ins (by omega)⟩)
      clear ht5 hc5 d0 d1 d2
      go_wp2_with fail
      go_roundw
      case rel => exact HF.out
      case measure => simp [intOf]; omega
    · have hlt1 : ¬ ((k : Int) < (n : Int)) := by omega
      have hsm := HR.out.2.small (by omega)
      have hll : l.length ≤ 300 := by have := HR.out.2.few; omega
      have HPG := Lib.hid (I.pages HR.out.1.t hsm)
      have HS := Lib.hid hsm
      clear hsm
      go_wp2_with fail
      refine HPG.out.mono ?_
      rintro e w5 ⟨A5, n5, c5, ps, rfl, hn5, hin5, hok5, hb5⟩
      obtain ⟨d, hshp⟩ := hok5.shp
      have hsd := shp_deep d hshp
      obtain ⟨r1, _, r3⟩ := shp_root hshp
      have hd300 : d ≤ 301 := by omega
      have hn5b : n5 ≤ 301 := by omega
      have hdn5 : d + 1 ≤ n5 := by omega
      have H5 := Lib.hid (And.intro (HR.out.1.below I hb5) (And.intro hin5 (And.intro hn5 (And.intro r1 r3))))
      have H0 := Lib.hid (show DpRel ps d (.int .i64 0) (.int .i64 0) from ⟨d, 0, 0, true, none, none, l, ps.length, rfl, rfl, by omega, hshp⟩)
      clear hb5 hin5 hok5 hshp hsd r1 r3 hn5 HPG
      go_wp2_with fail
      go_loop [6, 7] (fun dv av => DpRel ps d dv av) (fun dv _ => d - (intOf dv).toNat)
      case atStart => exact H0.out
      case round =>
        obtain ⟨k', e', at', root, lo, hi, es', sz, rfl, rfl, hek, hsh⟩ := hrel
        have he0 : (0 : Int) ≤ (e' : Int) := Int.natCast_nonneg _
        have ha0 : (0 : Int) ≤ (at' : Int) := Int.natCast_nonneg _
        obtain ⟨x, hx, hlf⟩ := shp_at hsh
        have hal : at' < ps.length := (List.getElem?_eq_some_iff.1 hx).1
        have hxe : ps[at'] = x := (List.getElem?_eq_some_iff.1 hx).2
        have hatn : (at' : Int) < (n5 : Int) := by have := H5.out.2.2.1; omega
        have hatd : decide ((at' : Int) < (n5 : Int)) = true := decide_eq_true hatn
        obtain ⟨ad, rfl, _, p0, _, p2⟩ := H5.out.2.1.at_ hal
        rw [hxe] at p0 p2
        have HX := Lib.hid (And.intro hsh (And.intro hx (And.intro hal hxe)))
        have hen : (e' : Int) ≤ (n5 : Int) := by omega
        have hend : decide ((e' : Int) ≤ (n5 : Int)) = true := decide_eq_true hen
        clear hx hxe
        cases k' with
        | succ k' =>
          have hlb : x.leaf = false := by cases hb : x.leaf with
            | false => rfl
            | true => have := hlf.1 hb; omega
          rw [hlb] at p0
          obtain ⟨x', parts, szs, hx', _, hkl, hpl, hsl, _, _, _, hj⟩ := hsh
          have hxx : x' = x := by rw [HX.out.2.1] at hx'; exact (Option.some.inj hx').symm
          subst hxx
          have hk0 : 0 < x'.kids.length := by omega
          obtain ⟨ad', hIA, _, q0⟩ := kid_at (H5.out.2.1.pg x' (List.mem_of_getElem? HX.out.2.1)).kids hk0
          rw [show ad'.add 0 = ad' from rfl] at q0
          obtain ⟨kn, hkn⟩ : ∃ kn, kn = x'.kids.length := ⟨_, rfl⟩
          rw [hIA, ← hkn] at p2
          have hkn1 : ¬ ((kn : Int) = 0) := by omega
          have hkn2 : decide ((kn : Int) = 0) = false := decide_eq_false hkn1
          have hkn3 : (0 : Int) < (kn : Int) := by omega
          obtain ⟨at2, hat2⟩ : ∃ a, a = x'.kids[0] := ⟨_, rfl⟩
          rw [← hat2] at q0
          have HF := Lib.hid (show DpRel ps d (.int .i64 ((e' : Int) + 1)) (.int .i64 at2) from ⟨k', e' + 1, at2, false, _, _, _, _, by go_num, rfl, by omega, by rw [hat2]; exact (hj 0 hk0 (by omega) (by omega)).2⟩)
          have hzz : ((kn : Int) == 0) = false := by simp; omega
          clear hj hat2 hx' hlf hIA hkn
          go_wp2_with fail
          go_round
          case rel => exact HF.out
          case measure => simp [intOf]; omega
        | zero =>
          have hlb : x.leaf = true := hlf.2 rfl
          rw [hlb] at p0
          obtain rfl : d = e' := by omega
          clear hlf hsh
          go_wp2_with fail
          clear p0 p2 HX he0 ha0 hatn hatd hen hend
          have hcnt := fun (v : World) (h : T w.heap.size D v tb l) => count_n I h HS.out rfl
          have HCN := Lib.hid hcnt
          obtain ⟨N, hN⟩ : ∃ N, N = l.length := ⟨_, rfl⟩
          have HN := Lib.hid hN
          clear hcnt hN
          have hpow : ∀ d', d = d' + 1 → 2 * (2 * 3 ^ d') ≤ N := fun d' hd => by rw [HN.out]; exact H5.out.2.2.2.2 d' hd
          have HPW := Lib.hid hpow
          have hN300 : N ≤ 300 := by rw [HN.out]; exact hll
          have hn5N : (n5 : Int) ≤ (N : Int) + 1 := by have h1 := H5.out.2.2.2.1; have h2 := H5.out.2.2.1; have h3 := HN.out; omega
          have hn5d : decide ((n5 : Int) ≤ (N : Int) + 1) = true := decide_eq_true hn5N
          have hN0 : (0 : Int) ≤ (N : Int) := Int.natCast_nonneg _
          have hd0 : (0 : Int) ≤ (d : Int) := Int.natCast_nonneg _
          clear hpow hll
          go_loop [8, 9] (fun lv iv => ∃ j P : Nat, 1 ≤ j ∧ (j ≤ d ∨ j = 1) ∧ iv = .int .i64 j ∧ lv = .int .i64 P ∧ P = 2 * 3 ^ (j - 1)) (fun _ iv => d - (intOf iv).toNat)
          case atStart => exact ⟨1, 2, by omega, .inr rfl, rfl, rfl, rfl⟩
          case round =>
            obtain ⟨j, P, hj1, hjd, rfl, rfl, hP⟩ := hrel
            have hj0 : (1 : Int) ≤ (j : Int) := by omega
            have hP0 : (0 : Int) ≤ (P : Int) := Int.natCast_nonneg _
            have HPP := Lib.hid hP
            by_cases hjl : j < d
            · have hjl1 : (j : Int) < (d : Int) := by omega
              have hpb : P ≤ 300 := by
                have h1 := HPW.out (d - 1) (by omega)
                have h2 : 3 ^ (j - 1) ≤ 3 ^ (d - 1) := Nat.pow_le_pow_right (by omega) (by omega)
                omega
              have HF := Lib.hid (show P * 3 = 2 * 3 ^ (j + 1 - 1) by
                rw [hP, show j + 1 - 1 = (j - 1) + 1 by omega, Nat.pow_succ]; omega)
              clear hP
              go_wp2_with fail
              go_round
              case rel => exact ⟨j + 1, P * 3, by omega, .inl (by omega), by go_num, by go_num, HF.out⟩
              case measure => simp [intOf]; omega
            · have hjl1 : ¬ (j : Int) < (d : Int) := by omega
              have H6 := Lib.hid (HCN.out _ H5.out.1.t)
              rw [← HN.out] at H6
              clear hP
              go_wp2_with fail
              refine H6.out.mono ?_
              rintro e w6 ⟨rfl, hb6⟩
              have H7 := Lib.hid (H5.out.1.below I hb6)
              have H8 := Lib.hid (HCN.out _ H7.out.t)
              rw [← HN.out] at H8
              clear hb6 H6
              by_cases hdz : d = 0
              · have hdz1 : (d : Int) = 0 := by omega
                have hdz2 : ((d : Int) == 0) = true := by simp [hdz]
                have hdz3 : decide ((d : Int) = 0) = true := decide_eq_true hdz1
                have HDZ := Lib.hid hdz
                clear hdz hdz1
                go_wp2_with fail
                go_ret
                exact ⟨rfl, H7.out.low⟩
              · have hdz1 : ¬ (d : Int) = 0 := by omega
                have hdz2 : ((d : Int) == 0) = false := by simp [hdz]
                have hdz3 : decide ((d : Int) = 0) = false := decide_eq_false hdz1
                have hPN : (2 : Int) * (P : Int) ≤ (N : Int) := by
                  have h1 := HPW.out (d - 1) (by omega)
                  have h2 := HPP.out
                  rw [show j = d by omega] at h2
                  omega
                have hPd : decide ((2 : Int) * (P : Int) ≤ (N : Int)) = true := decide_eq_true hPN
                go_wp2_with fail
                refine H8.out.mono ?_
                rintro e w9 ⟨rfl, hb9⟩
                have H9 := Lib.hid (H7.out.below I hb9)
                clear hb9 H8
                go_wp2_with fail
                go_ret
                exact ⟨rfl, H9.out.low⟩
end Go.Proofs.Ytiaclfldgagalaa
