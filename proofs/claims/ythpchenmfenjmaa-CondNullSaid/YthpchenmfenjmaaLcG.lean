/-
  Great: what is looked at.
-/
import Derived.Test.YthpchenmfenjmaaPrE
namespace Go.Proofs.Ythpchenmfenjmaa
open Go.RowKit Go.Lib Go.Shelf

/-- what isn't great -/
structure Looked (l : List Cd) (cols : List Co) (r : List Va) : Prop where
  nl : l.length ≤ 100
  nc : cols.length ≤ 100
  nr : r.length ≤ 100
  tl : ∀ i (hi : i < l.length), l[i].w.s.size ≤ 500 ∧ l[i].col.size ≤ 500
  tc : ∀ i (hi : i < cols.length), cols[i].name.size ≤ 500
  tr : ∀ i (hi : i < r.length), r[i].s.size ≤ 500
def Great12 (l : List Cd) (cols : List Co) (r : List Va) (w : World) (e : Ending) (w' : World) : Prop := w' = w ∧ (e = .returned (.bool true) ∨ e = .returned (.bool false) ∧ Looked l cols r)
set_option maxRecDepth 100000 in
set_option maxHeartbeats 12800000 in
theorem great12_any {w : World} {B : Nat} {A : Option Addr} {n c : Nat} {l : List Cd} {A2 : Option Addr} {n2 c2 : Nat} {cols : List Co} {A3 : Option Addr} {n3 c3 : Nat} {r : List Va} (h1 : RowG cdC 5 w B A l) (e1 : n = l.length) (h2 : RowG coC 3 w B A2 cols) (e2 : n2 = cols.length) (h3 : RowG vcell 3 w B A3 r) (e3 : n3 = r.length) :
    Calls Try.prog 8 #[.slice A n c, .slice A2 n2 c2, .slice A3 n3 c3] w (Great12 l cols r w) := by
  have H1 := Lib.hid h1
  have H2 := Lib.hid h2
  have H3 := Lib.hid h3
  have E1 := Lib.hid e1
  have E2 := Lib.hid e2
  have E3 := Lib.hid e3
  clear h1 h2 h3 e1 e2 e3
  by_cases b1 : 100 < n
  · have b1i : (100 : Int) < (n : Int) := by omega
    go_enter Try.func8, Try.ntmps8
    go_wp2_with fail
    go_ret
    exact ⟨rfl, .inl rfl⟩
  have b1i : ¬ (100 : Int) < (n : Int) := by omega
  have b1d : decide ((100 : Int) < (n : Int)) = false := decide_eq_false b1i
  by_cases b2 : 100 < n2
  · have b2i : (100 : Int) < (n2 : Int) := by omega
    have b2d : decide ((100 : Int) < (n2 : Int)) = true := decide_eq_true b2i
    go_enter Try.func8, Try.ntmps8
    go_wp2_with fail
    go_ret
    exact ⟨rfl, .inl rfl⟩
  have b2i : ¬ (100 : Int) < (n2 : Int) := by omega
  have b2d : decide ((100 : Int) < (n2 : Int)) = false := decide_eq_false b2i
  by_cases b3 : 100 < n3
  · have b3i : (100 : Int) < (n3 : Int) := by omega
    have b3d : decide ((100 : Int) < (n3 : Int)) = true := decide_eq_true b3i
    go_enter Try.func8, Try.ntmps8
    go_wp2_with fail
    go_ret
    exact ⟨rfl, .inl rfl⟩
  have b3i : ¬ (100 : Int) < (n3 : Int) := by omega
  have b3d : decide ((100 : Int) < (n3 : Int)) = false := decide_eq_false b3i
  go_enter Try.func8, Try.ntmps8
  go_wp2_with fail
  go_loop [7] (fun i => ∃ k : Nat, k ≤ n ∧ i = .int .i64 k ∧ ∀ j (hj : j < l.length), j < k → l[j].w.s.size ≤ 500 ∧ l[j].col.size ≤ 500) (fun i => n - (RowKit.intOf i).toNat)
  case atStart => exact ⟨0, by omega, rfl, fun j _ hj => absurd hj (by omega)⟩
  case round =>
    obtain ⟨k, hk, rfl, hno⟩ := hrel
    have hk0 : (0 : Int) ≤ (k : Int) := Int.natCast_nonneg _
    have HN := Lib.hid hno
    clear hno
    by_cases hlt : k < n
    · have hlt1 : (k : Int) < (n : Int) := by omega
      have hkl : k < l.length := by rw [← E1.out]; exact hlt
      obtain ⟨ad, rfl, _, d0, d1, d2, d3, d4⟩ := cd_at H1.out hkl
      obtain ⟨x, hx⟩ : ∃ x, x = l[k] := ⟨_, rfl⟩
      rw [← hx] at d0 d4
      have HX := Lib.hid hx
      clear hx d1 d2 d3
      by_cases g1 : 500 < x.w.s.size
      · have g1i : (500 : Int) < (x.w.s.size : Int) := by omega
        have g1d : decide ((500 : Int) < (x.w.s.size : Int)) = true := decide_eq_true g1i
        go_wp2_with fail
        go_ret
        exact ⟨rfl, .inl rfl⟩
      · have g1i : ¬ (500 : Int) < (x.w.s.size : Int) := by omega
        have g1d : decide ((500 : Int) < (x.w.s.size : Int)) = false := decide_eq_false g1i
        by_cases g2 : 500 < x.col.size
        · have g2i : (500 : Int) < (x.col.size : Int) := by omega
          have g2d : decide ((500 : Int) < (x.col.size : Int)) = true := decide_eq_true g2i
          go_wp2_with fail
          go_ret
          exact ⟨rfl, .inl rfl⟩
        · have g2i : ¬ (500 : Int) < (x.col.size : Int) := by omega
          have g2d : decide ((500 : Int) < (x.col.size : Int)) = false := decide_eq_false g2i
          go_wp2_with fail
          go_round
          case rel =>
            refine ⟨k + 1, by omega, by go_num, fun j hj hjk => ?_⟩
            by_cases e : j = k
            · subst e; rw [← HX.out]; omega
            · exact HN.out j hj (by omega)
          case measure => simp [RowKit.intOf]; omega
    · have hlt1 : ¬ (k : Int) < (n : Int) := by omega
      have HT1 := Lib.hid (fun i (hi : i < l.length) => HN.out i hi (by have := E1.out; omega))
      clear HN hlt
      go_wp2_with fail
      go_loop [8] (fun i => ∃ k : Nat, k ≤ n2 ∧ i = .int .i64 k ∧ ∀ j (hj : j < cols.length), j < k → cols[j].name.size ≤ 500) (fun i => n2 - (RowKit.intOf i).toNat)
      case atStart => exact ⟨0, by omega, rfl, fun j _ hj => absurd hj (by omega)⟩
      case round =>
        clear hlt1 hk hk0
        obtain ⟨k, hk, rfl, hno⟩ := hrel
        have hk0 : (0 : Int) ≤ (k : Int) := Int.natCast_nonneg _
        have HN := Lib.hid hno
        clear hno
        by_cases hlt : k < n2
        · have hlt1 : (k : Int) < (n2 : Int) := by omega
          have hkl : k < cols.length := by rw [← E2.out]; exact hlt
          obtain ⟨ad, rfl, _, d0, d1, d2⟩ := co_at H2.out hkl
          obtain ⟨x, hx⟩ : ∃ x, x = cols[k] := ⟨_, rfl⟩
          rw [← hx] at d0
          have HX := Lib.hid hx
          clear hx d1 d2
          by_cases g1 : 500 < x.name.size
          · have g1i : (500 : Int) < (x.name.size : Int) := by omega
            have g1d : decide ((500 : Int) < (x.name.size : Int)) = true := decide_eq_true g1i
            go_wp2_with fail
            go_ret
            exact ⟨rfl, .inl rfl⟩
          · have g1i : ¬ (500 : Int) < (x.name.size : Int) := by omega
            have g1d : decide ((500 : Int) < (x.name.size : Int)) = false := decide_eq_false g1i
            go_wp2_with fail
            go_round
            case rel =>
              refine ⟨k + 1, by omega, by go_num, fun j hj hjk => ?_⟩
              by_cases e : j = k
              · subst e; rw [← HX.out]; omega
              · exact HN.out j hj (by omega)
            case measure => simp [RowKit.intOf]; omega
        · have hlt1 : ¬ (k : Int) < (n2 : Int) := by omega
          have HT2 := Lib.hid (fun i (hi : i < cols.length) => HN.out i hi (by have := E2.out; omega))
          clear HN hlt
          go_wp2_with fail
          go_loop [9] (fun i => ∃ k : Nat, k ≤ n3 ∧ i = .int .i64 k ∧ ∀ j (hj : j < r.length), j < k → r[j].s.size ≤ 500) (fun i => n3 - (RowKit.intOf i).toNat)
          case atStart => exact ⟨0, by omega, rfl, fun j _ hj => absurd hj (by omega)⟩
          case round =>
            clear hlt1 hk hk0
            obtain ⟨k, hk, rfl, hno⟩ := hrel
            have hk0 : (0 : Int) ≤ (k : Int) := Int.natCast_nonneg _
            have HN := Lib.hid hno
            clear hno
            by_cases hlt : k < n3
            · have hlt1 : (k : Int) < (n3 : Int) := by omega
              have hkl : k < r.length := by rw [← E3.out]; exact hlt
              obtain ⟨ad, rfl, _, d0, d1, d2⟩ := va_at H3.out hkl
              obtain ⟨x, hx⟩ : ∃ x, x = r[k] := ⟨_, rfl⟩
              rw [← hx] at d2
              have HX := Lib.hid hx
              clear hx d0 d1
              by_cases g1 : 500 < x.s.size
              · have g1i : (500 : Int) < (x.s.size : Int) := by omega
                have g1d : decide ((500 : Int) < (x.s.size : Int)) = true := decide_eq_true g1i
                go_wp2_with fail
                go_ret
                exact ⟨rfl, .inl rfl⟩
              · have g1i : ¬ (500 : Int) < (x.s.size : Int) := by omega
                have g1d : decide ((500 : Int) < (x.s.size : Int)) = false := decide_eq_false g1i
                go_wp2_with fail
                go_round
                case rel =>
                  refine ⟨k + 1, by omega, by go_num, fun j hj hjk => ?_⟩
                  by_cases e : j = k
                  · subst e; rw [← HX.out]; omega
                  · exact HN.out j hj (by omega)
                case measure => simp [RowKit.intOf]; omega
            · have hlt1 : ¬ (k : Int) < (n3 : Int) := by omega
              have HF := Lib.hid (show Looked l cols r from ⟨by rw [← E1.out]; omega, by rw [← E2.out]; omega, by rw [← E3.out]; omega, HT1.out, HT2.out, fun i hi => HN.out i hi (by have := E3.out; omega)⟩)
              go_wp2_with fail
              go_ret
              exact ⟨rfl, .inr ⟨rfl, HF.out⟩⟩
end Go.Proofs.Ythpchenmfenjmaa
