/-
  container/heap's way up, over a contract of the interface's methods. @M@: types.size + Made.depth, as a goal at an invoke shows it.
-/
import Derived.Test.YtcjhkafdfeopfaaHpM
import Derived.Test.YtcjhkafdfeopfaaRowR
import Derived.Test.YtcjhkafdfeopfaaRows
import Derived.Test.YtcjhkafdfeopfaaChecked
import Derived.WalkSpells
import Derived.WalkLawsBesides
import Derived.Lib.Hide
import Derived.Laws.StructEq
import Derived.Deep.QuietTactic
import Derived.BigQuiet
namespace Go.Proofs.Ytcjhkafdfeopfaa
open Go.RowKit Go.Lib

/-- told apart by swaps among the first m -/
inductive Sws {α : Type} (m : Nat) (f : Nat → α) : (Nat → α) → Prop
  | refl : Sws m f f
  | step {g : Nat → α} {i j : Nat} : Sws m f g → i < m → j < m → Sws m f (sw g i j)
/-- what a heap's methods do: S w n f: in world w stand n things, f of the index -/
structure HpI {α : Type} (ty : TypeId) (rv : Value) (lt : α → α → Bool) (S : World → Nat → (Nat → α) → Prop) : Prop where
  less : ∀ {w n f i j}, S w n f → i < n → j < n → ∃ F r, (method 183 ty rv "Less").run Try.prog w = .ok (F, r) w ∧ (∀ args w', (callFunc F args).run Try.prog w' = .ok (.enter F args) w') ∧ Calls Try.prog F #[r, .int .i64 i, .int .i64 j] w fun e w' => e = .returned (.bool (lt (f i) (f j))) ∧ S w' n f
  swap : ∀ {w n f i j}, S w n f → i < n → j < n → i ≠ j → ∃ F r, (method 183 ty rv "Swap").run Try.prog w = .ok (F, r) w ∧ (∀ args w', (callFunc F args).run Try.prog w' = .ok (.enter F args) w') ∧ Calls Try.prog F #[r, .int .i64 i, .int .i64 j] w fun e w' => e = .returned (.tuple #[]) ∧ S w' n (sw f i j)
abbrev leB {α : Type} (lt : α → α → Bool) (a b : α) : Prop := lt b a = false

set_option maxRecDepth 100000 in
set_option maxHeartbeats 3200000 in
theorem up_walk {α : Type} {ty : TypeId} {rv : Value} {lt : α → α → Bool} {S : World → Nat → (Nat → α) → Prop} (I : HpI ty rv lt S) (tr : ∀ {a b c : α}, leB lt a b → leB lt b c → leB lt a c) (asy : ∀ {a b : α}, lt a b = true → lt b a = false)
    (j m n : Nat) (f : Nat → α) (w : World) (hm : m ≤ n) (hn : n < 1000000) (hj : j < m) (hS : S w n f) (hU : HpU (leB lt) m f j) :
    Calls Try.prog 25 #[.iface ty rv, .int .i64 j] w (fun e w' => e = .returned (.tuple #[]) ∧ ∃ g, S w' n g ∧ Hp (leB lt) m g ∧ Sws m f g) := by
  have hj0 : (0 : Int) ≤ (j : Int) := Int.natCast_nonneg _
  have H := Lib.hid (And.intro hS hU)
  clear hS hU
  go_enter Try.func25, Try.ntmps25
  go_wp2_with fail
  go_loopw [1] (fun v wx => ∃ (k : Nat) (g : Nat → α), k ≤ j ∧ v = .int .i64 k ∧ S wx n g ∧ HpU (leB lt) m g k ∧ Sws m f g) (fun v _ => (intOf v).toNat)
  case atStart => exact ⟨j, f, Nat.le_refl _, rfl, H.out.1, H.out.2, .refl⟩
  case round =>
    obtain ⟨k, g, hk, rfl, hS, hU, hP⟩ := hrel
    have hk0 : (0 : Int) ≤ (k : Int) := Int.natCast_nonneg _
    have HR := Lib.hid (And.intro hS (And.intro hU hP))
    clear hS hU hP
    by_cases h0 : k = 0
    · have HF := Lib.hid (show Hp (leB lt) m g from HR.out.2.1.done fun h => absurd h (by omega))
      subst h0
      go_wp2_with fail
      go_end0
      exact ⟨rfl, g, HR.out.1, HF.out, HR.out.2.2⟩
    · obtain ⟨p, hp⟩ : ∃ p, p = par k := ⟨_, rfl⟩
      have h1 : IntKind.i64.wrap ((k : Int) - 1) = (k : Int) - 1 := by rw [IntKind.wrap_i64]; omega
      have h2 : Int.tdiv ((k : Int) - 1) 2 = (p : Int) := by
        rw [hp]; unfold par
        rw [Int.tdiv_eq_ediv_of_nonneg (by omega)]; omega
      have hpk : p < k := by rw [hp]; exact par_lt (by omega)
      have h3 : ((p : Int) == (k : Int)) = false := by rw [beq_eq_false_iff_ne]; omega
      have h4 : wrap64 (p : Int) = (p : Int) := by unfold wrap64; omega
      obtain ⟨F, r, hml, hfl, hcl⟩ := I.less HR.out.1 (i := k) (j := p) (by omega) (by omega)
      obtain ⟨b, hb⟩ : ∃ b, b = lt (g k) (g p) := ⟨_, rfl⟩
      rw [← hb] at hcl
      have HP := Lib.hid (And.intro hp (And.intro hcl hb))
      clear hp hcl hb
      go_wp2_with fail
      refine HP.out.2.1.mono ?_
      rintro e w5 ⟨rfl, hS5⟩
      have H5 := Lib.hid hS5
      clear hS5 hml
      cases b with
      | false =>
        go_wp2_with fail
        go_end0
        exact ⟨rfl, g, H5.out, HR.out.2.1.done fun _ _ => by rw [← HP.out.1]; exact HP.out.2.2.symm, HR.out.2.2⟩
      | true =>
        obtain ⟨F2, r2, hms, hfs, hcs⟩ := I.swap H5.out (i := p) (j := k) (by omega) (by omega) (by omega)
        have HS := Lib.hid hcs
        clear hcs
        go_wp2_with fail
        refine HS.out.mono ?_
        rintro e w6 ⟨rfl, hS6⟩
        have H6 := Lib.hid hS6
        clear hS6 hms
        go_wp2_with fail
        go_roundw
        case rel => exact ⟨p, _, by omega, rfl, H6.out, HR.out.2.1.up tr (by omega) (by omega) HP.out.1.symm (asy HP.out.2.2.symm), .step HR.out.2.2 (by omega) (by omega)⟩
        case measure => simp [intOf]; omega
end Go.Proofs.Ytcjhkafdfeopfaa
