/-
  The contracts of SameBytes, SameTexts (of equal lists), CopyBytes, slices.Clone.
-/
import Derived.Test.YtkdcnkadngbccaaGreatDoorEnc
import Derived.Deep.QuietTactic
import Derived.BigQuiet
namespace Go.Proofs.YtkdcnkadngbccaaGreatDoor
open Go.RowKit Go.Lib

def SameRel (w : World) (n : Nat) (i : Value) (wr : World) : Prop := ∃ k d : Nat, k ≤ n ∧ i = .int .i64 k ∧ wr = w.drewN d

/-- true is handed back, and nothing but draws has been made -/
def YesQuiet (w : World) (e : Ending) (w' : World) : Prop := e = .returned (.bool true) ∧ ∃ d, w' = w.drewN d

theorem cells_at {l : List Int} {k : Nat} (hk : k < l.length) : (cells l)[k]? = some (.int .u8 l[k]) := by simp [cells, hk]

set_option maxRecDepth 100000 in
set_option maxHeartbeats 800000 in
theorem sameBytes_yes (A A' : Option Addr) (n c c' : Nat) (l : List Int) (w : World) (B B' : Nat) (hr : Rd w B A n (cells l)) (hr' : Rd w B' A' n (cells l)) (hn : n ≤ 140000000000000) :
    Calls Tryz.prog 17 #[.slice A n c, .slice A' n c'] w (YesQuiet w) := by
  have hlen : l.length = n := by have := hr.len; rwa [cells_len] at this
  subst hlen
  go_enter Tryz.func17, Tryz.ntmps17
  go_wp2
  go_loopw [5] (fun i wr => SameRel w l.length i wr) (fun i _ => l.length - (intOf i).toNat)
  case atStart => exact ⟨0, 0, by omega, rfl, rfl⟩
  case round =>
    obtain ⟨k, d, hk, rfl, hw⟩ := hrel
    have h1 : Rd wr B A l.length (cells l) := by rw [hw]; exact hr.drewN d
    have h2 : Rd wr B' A' l.length (cells l) := by rw [hw]; exact hr'.drewN d
    have HW := Lib.hid hw
    clear hw hr hr'
    by_cases hlt : k < l.length
    · obtain ⟨ad, u, rfl, _, hu, hc⟩ := h1.at_ hlt
      obtain ⟨ad', u', rfl, _, hu', hc'⟩ := h2.at_ hlt
      rw [cells_at hlt] at hu hu'
      obtain rfl := Option.some.inj hu
      obtain rfl := Option.some.inj hu'
      clear hu hu' h1 h2
      go_wp2
      go_quiet (fail)
      go_wp2
      go_roundw
      case rel => exact ⟨k + 1, _, by omega, by go_num, by rw [HW.out]; exact World.drewN_drewN _ _ _⟩
      case measure => simp [intOf]; omega
    · go_wp2
      go_ret
      exact ⟨rfl, d, HW.out⟩

set_option maxRecDepth 100000 in
set_option maxHeartbeats 800000 in
theorem clone_any (A : Option Addr) (n c : Nat) (l : List Int) (w : World) (hr : Rd w w.heap.size A n (cells l)) (hn : n ≤ 140000000000000) :
    Calls Tryz.prog 53 #[.slice A n c] w (OwnRet w.heap.size l w) := by
  obtain ⟨i0, hi, hz0, hz1, hz2⟩ := info_parts Tryz.info5
  have HO := Lib.hid (show (w.alloc (.cells #[] 5)).ownsRow w.heap.size 5 1 (.slice (some ⟨w.heap.size, 0, none⟩) 0 0) 0 (cells []) from
    World.ownsRow_lit w #[] 0 (Nat.le_refl _) (by simp [maxLen]) (by simp))
  rcases A with _ | ad
  · have hfin : OwnRet w.heap.size l w (.returned (.slice none 0 0)) w := by
      have h := hr.len
      rw [cells_len] at h
      have h0 : n = 0 := by
        rcases Nat.eq_zero_or_pos n with h0 | h0
        · exact h0
        · obtain ⟨_, he, _⟩ := hr.2 h0; cases he
      have hl : l = [] := List.eq_nil_of_length_eq_zero (by omega)
      subst hl
      exact ⟨_, rfl, World.ownsRow_nil _ _ _ _, Below.refl _ _⟩
    clear hr
    have hnil := fun w a n c => Lib.run_eql_slice_nil (P := Tryz.prog) w 25 5 a n c 0 0 Tryz.underlying25
    go_enter Tryz.func53, Tryz.ntmps53
    go_wp2
    go_ret
    exact hfin
  · have hnil := fun w a n c => Lib.run_eql_slice_nil (P := Tryz.prog) w 25 5 a n c 0 0 Tryz.underlying25
    go_enter Tryz.func53, Tryz.ntmps53
    go_wp2_with (at_builtin; refine wpList_append_rd _ rfl (.tmp 5) (.tmp 6) 25 rfl w.heap.size 5 i0 (.int .u8 0) 1 Tryz.underlying25 hi hz0 hz1 hz2 rfl _ _ _ rfl HO.out w.heap.size (some ad) n c _ rfl (hr.alloc (Nat.le_refl _) _) (cells_one _) ?c3 ?c4 ?c5 ?_)
    case c3 => simp [maxLen]; omega
    case c4 => omega
    case c5 => simp
    intro v' w3 hown3 hgrow
    have hb3 := ((Below.refl w.heap.size w).alloc (Nat.le_refl _) (.cells #[] 5)).trans (below_own HO.out hgrow (by simp))
    have hfin : OwnRet w.heap.size l w (.returned v') w3 := ⟨v', rfl, by have h := hr.len; rw [cells_len] at h; rw [h]; simpa [cells] using hown3, hb3⟩
    clear hown3 hgrow hr
    go_wp2
    go_ret
    exact hfin

end Go.Proofs.YtkdcnkadngbccaaGreatDoor
