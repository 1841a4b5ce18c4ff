/-
  The document's modes: row, right, Conflict, Covers, Join.
-/
import Derived.Test.YtbkffcopahiilaaMoM
import Derived.Test.YtbkffcopahiilaaRowR
import Derived.Test.YtbkffcopahiilaaRows
import Derived.Test.YtbkffcopahiilaaChecked
import Derived.WalkSpells
import Derived.WalkLawsBesides
import Derived.Lib.Hide
import Derived.Laws.StructEq
import Derived.Deep.QuietTactic
import Derived.BigQuiet
namespace Go.Proofs.Ytbkffcopahiilaa
open Go.RowKit Go.Lib

/-- a call that leaves all as it was: what it answers -/
abbrev Says (P : Program) (f : FuncId) (args : Array Value) (w : World) (v : Value) : Prop := Calls P f args w fun e w' => e = .returned v ∧ Below w.heap.size w w'
def RowRet (w : World) (l : List Int) (e : Ending) (w' : World) : Prop := ∃ A n c, e = .returned (.slice A n c) ∧ n = l.length ∧ Rd w' w'.heap.size A n (l.map fun x => .int .i64 x) ∧ Below w.heap.size w w'
theorem rowRet_lit (w : World) (l : List Int) (cs : Array Value) (hcs : cs.toList = l.map fun x => .int .i64 x) (_ : l.length ≤ 8) : RowRet w l (.returned (.slice (some ⟨w.heap.size, 0, none⟩) l.length l.length)) (w.alloc (.cells cs 3)) := by
  refine ⟨_, _, _, rfl, rfl, ⟨by simp, fun _ => ⟨_, rfl, by simp, fun j u hu => ?_⟩⟩, (Below.refl _ w).alloc (Nat.le_refl _) _⟩
  rw [← hcs] at hu
  have h := World.news_of_block (w := w.alloc (.cells cs 3)) (heap_alloc_new w _) j u hu
  exact h
theorem rowRet_nil (w : World) : RowRet w [] (.returned (.slice none 0 0)) w := ⟨_, _, _, rfl, rfl, Rd.empty, Below.refl _ _⟩
set_option maxRecDepth 100000 in
set_option maxHeartbeats 12800000 in
theorem row_any (m : Int) (w : World) : Calls Try.prog 22 #[.int .i64 m] w (RowRet w (rowM m)) := by
  by_cases h1 : m = 1
  · subst h1
    go_enter Try.func22, Try.ntmps22
    go_wp2_with fail
    go_ret
    exact rowRet_lit w [6, 8] _ rfl (by decide)
  by_cases h2 : m = 2
  · subst h2
    go_enter Try.func22, Try.ntmps22
    go_wp2_with fail
    go_ret
    exact rowRet_lit w [3, 5, 6, 8] _ rfl (by decide)
  by_cases h3 : m = 3
  · subst h3
    go_enter Try.func22, Try.ntmps22
    go_wp2_with fail
    go_ret
    exact rowRet_lit w [2, 5, 6, 8] _ rfl (by decide)
  by_cases h4 : m = 4
  · subst h4
    go_enter Try.func22, Try.ntmps22
    go_wp2_with fail
    go_ret
    exact rowRet_lit w [4, 6, 8] _ rfl (by decide)
  by_cases h5 : m = 5
  · subst h5
    go_enter Try.func22, Try.ntmps22
    go_wp2_with fail
    go_ret
    exact rowRet_lit w [2, 3, 5, 6, 8] _ rfl (by decide)
  by_cases h6 : m = 6
  · subst h6
    go_enter Try.func22, Try.ntmps22
    go_wp2_with fail
    go_ret
    exact rowRet_lit w [1, 2, 3, 4, 5, 6, 8] _ rfl (by decide)
  by_cases h7 : m = 7
  · subst h7
    go_enter Try.func22, Try.ntmps22
    go_wp2_with fail
    go_ret
    exact rowRet_lit w [8] _ rfl (by decide)
  by_cases h8 : m = 8
  · subst h8
    go_enter Try.func22, Try.ntmps22
    go_wp2_with fail
    go_ret
    exact rowRet_lit w [1, 2, 3, 4, 5, 6, 7, 8] _ rfl (by decide)
  have hr : rowM m = [] := by
    unfold rowM
    rw [if_neg h1, if_neg h2, if_neg h3, if_neg h4, if_neg h5, if_neg h6, if_neg h7, if_neg h8]
  rw [hr]
  have q1 : (m == 1) = false := by simp [h1]
  have q2 : (m == 2) = false := by simp [h2]
  have q3 : (m == 3) = false := by simp [h3]
  have q4 : (m == 4) = false := by simp [h4]
  have q5 : (m == 5) = false := by simp [h5]
  have q6 : (m == 6) = false := by simp [h6]
  have q7 : (m == 7) = false := by simp [h7]
  have q8 : (m == 8) = false := by simp [h8]
  clear hr
  go_enter Try.func22, Try.ntmps22
  go_wp2_with fail
  go_ret
  exact rowRet_nil w
set_option maxRecDepth 100000 in
set_option maxHeartbeats 3200000 in
theorem rright_any (m : Int) (w : World) : Says Try.prog 23 #[.int .i64 m] w (.bool (rgB m)) := by
  unfold rgB
  by_cases h1 : 1 ≤ m
  · have d1 : decide (1 ≤ m) = true := decide_eq_true h1
    by_cases h2 : m ≤ 8
    · have d2 : decide (m ≤ 8) = true := decide_eq_true h2
      go_enter Try.func23, Try.ntmps23
      go_wp2_with fail
      go_ret
      exact ⟨by first | rfl | (rw [d1, d2]; rfl), Below.refl _ _⟩
    · have d2 : decide (m ≤ 8) = false := decide_eq_false h2
      go_enter Try.func23, Try.ntmps23
      go_wp2_with fail
      go_ret
      exact ⟨by first | rfl | (rw [d1, d2]; rfl), Below.refl _ _⟩
  · have d1 : decide (1 ≤ m) = false := decide_eq_false h1
    go_enter Try.func23, Try.ntmps23
    go_wp2_with fail
    go_ret
    exact ⟨by first | rfl | (rw [d1]; rfl), Below.refl _ _⟩
theorem Says.to {P : Program} {f : FuncId} {args : Array Value} {w : World} {v v' : Value} (h : Says P f args w v) (e : v = v') : Says P f args w v' := e ▸ h
theorem row_len (m : Int) : (rowM m).length ≤ 8 := by
  cases h : rgB m with
  | false => rw [row_out h]; simp
  | true => exact (by decide +kernel : ∀ m ∈ dom, (rowM m).length ≤ 8) m (rg_dom h)
set_option maxRecDepth 100000 in
set_option maxHeartbeats 3200000 in
theorem rconf_any (a b : Int) (w : World) : Says Try.prog 11 #[.int .i64 a, .int .i64 b] w (.bool (cfB a b)) := by
  obtain ⟨l, hl⟩ : ∃ l, l = rowM a := ⟨_, rfl⟩
  obtain ⟨r, hr⟩ : ∃ r, r = cfB a b := ⟨_, rfl⟩
  have hlen : l.length ≤ 8 := by rw [hl]; exact row_len a
  rw [← hr]
  unfold cfB at hr
  rw [← hl] at hr
  have H := Lib.hid (And.intro hr hl)
  clear hr hl
  go_enter Try.func11, Try.ntmps11
  go_wp2_with fail
  refine (row_any a w).mono ?_
  rintro e w1 ⟨A, n, c, rfl, hn, hrd, hb⟩
  rw [← H.out.2] at hn hrd
  have H1 := Lib.hid (And.intro hn (And.intro hrd hb))
  have hn8 : n ≤ 8 := by omega
  have hn0 : (0 : Int) ≤ (n : Int) := Int.natCast_nonneg _
  clear hn hrd hb
  go_wp2_with fail
  go_loop [6] (fun i => ∃ k : Nat, k ≤ n ∧ i = .int .i64 k ∧ (l.drop k).contains b = r) (fun i => n - (intOf i).toNat)
  case atStart => exact ⟨0, Nat.zero_le _, rfl, by rw [List.drop_zero]; exact H.out.1.symm⟩
  case round =>
    obtain ⟨k, hk, rfl, hat⟩ := hrel
    have hk0 : (0 : Int) ≤ (k : Int) := Int.natCast_nonneg _
    have HAT := Lib.hid hat
    clear hat
    by_cases hlt : k < n
    · have hlt1 : (k : Int) < (n : Int) := by omega
      have hkl : k < l.length := by rw [← H1.out.1]; exact hlt
      obtain ⟨ad, rfl, _, hc⟩ := H1.out.2.1.2 (by omega)
      have d0 := hc k (.int .i64 l[k]) (by rw [List.getElem?_map, List.getElem?_eq_getElem hkl]; rfl)
      have hst : (l.drop k).contains b = (b == l[k] || (l.drop (k + 1)).contains b) := by rw [List.drop_eq_getElem_cons hkl, List.contains_cons]
      obtain ⟨x, hx⟩ : ∃ x, x = l[k] := ⟨_, rfl⟩
      rw [← hx] at d0 hst
      have HST := Lib.hid hst
      clear hx hst hc
      by_cases he : x = b
      · have hq : (x == b) = true := by simp [he]
        have HE := Lib.hid he
        clear he
        go_wp2_with fail
        go_ret
        refine ⟨?_, H1.out.2.2⟩
        rw [← HAT.out, HST.out, HE.out]
        simp
      · have hq : (x == b) = false := by simp [he]
        have HE := Lib.hid he
        clear he
        go_wp2_with fail
        go_round
        case rel => exact ⟨k + 1, by omega, by go_num, by rw [← HAT.out, HST.out, show (b == x) = false by simp; exact fun e => HE.out e.symm]; simp⟩
        case measure => simp [intOf]; omega
    · have hlt1 : ¬ (k : Int) < (n : Int) := by omega
      go_wp2_with fail
      go_ret
      refine ⟨?_, H1.out.2.2⟩
      rw [← HAT.out, List.drop_eq_nil_of_le (by rw [← H1.out.1]; omega)]
      rfl
end Go.Proofs.Ytbkffcopahiilaa
