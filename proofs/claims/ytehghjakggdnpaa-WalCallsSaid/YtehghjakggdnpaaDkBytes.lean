/-
  The contracts of SameBytes (of equal lists, and of any two) and CopyBytes.
-/
import Derived.Test.YtehghjakggdnpaaDkChg
import Derived.Test.YtehghjakggdnpaaRows
import Derived.WalkSpells
import Derived.WalkLawsBesides
import Derived.Deep.QuietTactic
import Derived.BigQuiet
namespace Go.Proofs.Ytehghjakggdnpaa
open Go.RowKit Go.Lib

theorem dkret_int {k : IntKind} {a b : Int} (h : a = b) : Ending.returned (.int k a) = .returned (.int k b) := by rw [h]
theorem Try.dkinfo5 : (Try.prog.info? 5).map (fun i => (i.zero, i.size, i.bytes)) = some (some (.int .u8 0), 1, 1) := by kernel_rfl

/-- a slice of bytes of the call's own is handed back; nothing below base has turned -/
def DkOwnRet (base : Nat) (l : List Int) (w : World) (e : Ending) (w' : World) : Prop :=
  ∃ v', e = .returned v' ∧ w'.ownsRow base 5 1 v' l.length (cells l) ∧ Below base w w'

def DkSameRel (w : World) (n : Nat) (i : Value) (wr : World) : Prop := ∃ k d : Nat, k ≤ n ∧ i = .int .i64 k ∧ wr = w.drewN d
/-- true is handed back, and nothing but draws has been made -/
def DkYesQuiet (w : World) (e : Ending) (w' : World) : Prop := e = .returned (.bool true) ∧ ∃ d, w' = w.drewN d
/-- true is handed back; old memory is as it was -/
def DkYesBelow (w : World) (e : Ending) (w' : World) : Prop := e = .returned (.bool true) ∧ Below w.heap.size w w'
theorem dkcells_at {l : List Int} {k : Nat} (hk : k < l.length) : (cells l)[k]? = some (.int .u8 l[k]) := by simp [cells, hk]
theorem below_drewN {B : Nat} {a w : World} (h : Below B a w) (n : Nat) : Below B a (w.drewN n) := ⟨h.os, h.tape, h.output, h.size, h.block⟩

set_option maxRecDepth 100000 in
set_option maxHeartbeats 800000 in
theorem dksameBytes_yes (A A' : Option Addr) (n c c' : Nat) (l : List Int) (w : World) (B B' : Nat) (hr : Rd w B A n (cells l)) (hr' : Rd w B' A' n (cells l)) (hn : n ≤ 140000000000000) :
    Calls Try.prog 17 #[.slice A n c, .slice A' n c'] w (DkYesQuiet w) := by
  have hlen : l.length = n := by have := hr.len; rwa [cells_len] at this
  subst hlen
  go_enter Try.func17, Try.ntmps17
  go_wp2
  go_loopw [5] (fun i wr => DkSameRel w l.length i wr) (fun i _ => l.length - (intOf i).toNat)
  case atStart => exact ⟨0, 0, by omega, rfl, rfl⟩
  case round =>
    obtain ⟨k, d, hk, rfl, hw⟩ := hrel
    have h1 : Rd wr B A l.length (cells l) := by rw [hw]; exact hr.drewN d
    have h2 : Rd wr B' A' l.length (cells l) := by rw [hw]; exact hr'.drewN d
    have HW := Lib.hid hw
    clear hw hr hr'
    by_cases hlt : k < l.length
    · obtain ⟨ad, u, rfl, _, hu, hc⟩ := h1.at_ hlt
      obtain ⟨ad', u', rfl, _, hu', hc'⟩ := h2.at_ hlt
      rw [dkcells_at hlt] at hu hu'
      obtain rfl := Option.some.inj hu
      obtain rfl := Option.some.inj hu'
      clear hu hu' h1 h2
      go_wp2
      go_quiet (fail)
      go_wp2
      go_roundw
      case rel => exact ⟨k + 1, _, by omega, by go_num, by rw [HW.out]; exact World.drewN_drewN _ _ _⟩
      case measure => simp [intOf]; omega
    · go_wp2
      go_ret
      exact ⟨rfl, d, HW.out⟩
theorem dksameBytes_below (A A' : Option Addr) (n c c' : Nat) (l : List Int) (w : World) (B B' : Nat) (hr : Rd w B A n (cells l)) (hr' : Rd w B' A' n (cells l)) (hn : n ≤ 140000000000000) :
    Calls Try.prog 17 #[.slice A n c, .slice A' n c'] w (DkYesBelow w) :=
  (dksameBytes_yes A A' n c c' l w B B' hr hr' hn).mono fun e w' ⟨h1, d, h2⟩ => ⟨h1, by rw [h2]; exact below_drewN (Below.refl _ _) d⟩

set_option maxRecDepth 100000 in
set_option maxHeartbeats 800000 in
theorem dkcopyBytes_any (A : Option Addr) (n c : Nat) (l : List Int) (w : World) (hr : Rd w w.heap.size A n (cells l)) (hn : n ≤ 140000000000000) :
    Calls Try.prog 14 #[.slice A n c] w (DkOwnRet w.heap.size l w) := by
  obtain ⟨i0, hi, hz0, hz1, hz2⟩ := info_parts Try.dkinfo5
  have HO := Lib.hid (show (w.alloc (.cells #[] 5)).ownsRow w.heap.size 5 1 (.slice (some ⟨w.heap.size, 0, none⟩) 0 0) 0 (cells []) from
    World.ownsRow_lit w #[] 0 (Nat.le_refl _) (by simp [maxLen]) (by simp))
  go_enter Try.func14, Try.ntmps14
  go_wp2_with (at_builtin; refine wpList_append_rd _ rfl (.tmp 5) (.tmp 6) 38 rfl w.heap.size 5 i0 (.int .u8 0) 1 Try.underlying38 hi hz0 hz1 hz2 rfl _ _ _ rfl HO.out w.heap.size A n c _ rfl (hr.alloc (Nat.le_refl _) _) (cells_one _) ?c3 ?c4 ?c5 ?_)
  case c3 => simp [maxLen]; omega
  case c4 => omega
  case c5 => simp
  intro v' w3 hown3 hgrow
  have hb3 := ((Below.refl w.heap.size w).alloc (Nat.le_refl _) (.cells #[] 5)).trans (below_own HO.out hgrow (by simp))
  have hfin : DkOwnRet w.heap.size l w (.returned v') w3 := ⟨v', rfl, by have h := hr.len; rw [cells_len] at h; rw [h]; simpa [cells] using hown3, hb3⟩
  clear hown3 hgrow hr
  go_wp2
  go_ret
  exact hfin

end Go.Proofs.Ytehghjakggdnpaa
