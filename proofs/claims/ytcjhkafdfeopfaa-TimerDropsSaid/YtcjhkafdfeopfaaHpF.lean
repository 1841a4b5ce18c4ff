/-
  container/heap's Fix, Push, Remove over a contract of the interface's methods.
-/
import Derived.Test.YtcjhkafdfeopfaaHpD
namespace Go.Proofs.Ytcjhkafdfeopfaa
open Go.RowKit Go.Lib

theorem Sws.trans {α : Type} {m : Nat} {f g h : Nat → α} (h1 : Sws m f g) (h2 : Sws m g h) : Sws m f h := by
  induction h2 with
  | refl => exact h1
  | step _ hi hj ih => exact .step ih hi hj
theorem Sws.mono {α : Type} {m m' : Nat} {f g : Nat → α} (h : Sws m f g) (hm : m ≤ m') : Sws m' f g := by
  induction h with
  | refl => exact .refl
  | step _ hi hj ih => exact .step ih (by omega) (by omega)
/-- beside HpI: Len, Push, Pop. Pre: a value that may be pushed; Pst: a value that was popped -/
structure HpJ {α : Type} (ty : TypeId) (rv : Value) (lt : α → α → Bool) (S : World → Nat → (Nat → α) → Prop) (Pre : World → Nat → (Nat → α) → Value → α → Prop) (Pst : World → Nat → (Nat → α) → Value → α → Prop) : Prop extends HpI ty rv lt S where
  len : ∀ {w n f}, S w n f → ∃ F r, (method 183 ty rv "Len").run Try.prog w = .ok (F, r) w ∧ (∀ args w', (callFunc F args).run Try.prog w' = .ok (.enter F args) w') ∧ Calls Try.prog F #[r] w fun e w' => e = .returned (.int .i64 n) ∧ S w' n f
  push : ∀ {w n f v x}, Pre w n f v x → ∃ F r, (method 183 ty rv "Push").run Try.prog w = .ok (F, r) w ∧ (∀ args w', (callFunc F args).run Try.prog w' = .ok (.enter F args) w') ∧ Calls Try.prog F #[r, v] w fun e w' => e = .returned (.tuple #[]) ∧ S w' (n + 1) (upd f n x)
  pop : ∀ {w n f}, S w (n + 1) f → ∃ F r, (method 183 ty rv "Pop").run Try.prog w = .ok (F, r) w ∧ (∀ args w', (callFunc F args).run Try.prog w' = .ok (.enter F args) w') ∧ Calls Try.prog F #[r] w fun e w' => ∃ v, e = .returned v ∧ Pst w' n f v (f n)
section
variable {α : Type} {ty : TypeId} {rv : Value} {lt : α → α → Bool} {S : World → Nat → (Nat → α) → Prop} {Pre Pst : World → Nat → (Nat → α) → Value → α → Prop}
set_option maxRecDepth 100000 in
set_option maxHeartbeats 6400000 in
theorem fix_walk (I : HpJ ty rv lt S Pre Pst) (tr : ∀ {a b c : α}, leB lt a b → leB lt b c → leB lt a c) (asy : ∀ {a b : α}, lt a b = true → lt b a = false)
    (i n : Nat) (f : Nat → α) (w : World) (hn : n < 1000000) (hi : i < n) (hS : S w n f) (hU : HpX (leB lt) n f i) :
    Calls Try.prog 21 #[.iface ty rv, .int .i64 i] w (fun e w' => e = .returned (.tuple #[]) ∧ ∃ g, S w' n g ∧ Hp (leB lt) n g ∧ Sws n f g) := by
  obtain ⟨F1, r1, hm1, hf1, hc1⟩ := I.len hS
  have HL := Lib.hid hc1
  have HU := Lib.hid hU
  clear hS hU hc1
  go_enter Try.func21, Try.ntmps21
  go_wp2_with fail
  refine HL.out.mono ?_
  rintro e w2 ⟨rfl, hS2⟩
  have H2 := Lib.hid hS2
  clear hS2 hm1
  go_wp2_with fail
  refine (down_walk I.toHpI tr asy i n n f w2 (Nat.le_refl _) hn (by omega) H2.out HU.out).mono ?_
  rintro e w3 ⟨b, g, rfl, hS3, hP, hT, hF⟩
  have H3 := Lib.hid (And.intro hS3 (And.intro hP (And.intro hT hF)))
  clear hS3 hP hT hF
  cases b with
  | true =>
    go_wp2_with fail
    go_end0
    exact ⟨rfl, g, H3.out.1, H3.out.2.2.1 (by trivial), H3.out.2.1⟩
  | false =>
    obtain ⟨hg, hup⟩ := H3.out.2.2.2 rfl
    subst hg
    have HUP := Lib.hid hup
    clear hup
    go_wp2_with fail
    refine (up_walk I.toHpI tr asy i n n g w3 (Nat.le_refl _) hn hi H3.out.1 HUP.out).mono ?_
    rintro e w4 ⟨rfl, g4, hS4, hH4, hP4⟩
    have H4 := Lib.hid (And.intro hS4 (And.intro hH4 hP4))
    clear hS4 hH4 hP4
    go_wp2_with fail
    go_end0
    exact ⟨rfl, g4, H4.out.1, H4.out.2.1, H4.out.2.2⟩
set_option maxRecDepth 100000 in
set_option maxHeartbeats 6400000 in
theorem push_walk (I : HpJ ty rv lt S Pre Pst) (tr : ∀ {a b c : α}, leB lt a b → leB lt b c → leB lt a c) (asy : ∀ {a b : α}, lt a b = true → lt b a = false)
    (n : Nat) (f : Nat → α) (v : Value) (x : α) (w : World) (hn : n + 1 < 1000000) (hS : Pre w n f v x) (hU : Hp (leB lt) n f) :
    Calls Try.prog 22 #[.iface ty rv, v] w (fun e w' => e = .returned (.tuple #[]) ∧ ∃ g, S w' (n + 1) g ∧ Hp (leB lt) (n + 1) g ∧ Sws (n + 1) (upd f n x) g) := by
  obtain ⟨F1, r1, hm1, hf1, hc1⟩ := I.push hS
  obtain ⟨q, hq⟩ : ∃ q, q = n + 1 := ⟨_, rfl⟩
  have hqn : (q : Int) - 1 = (n : Int) := by omega
  have hn0 : (0 : Int) ≤ (n : Int) := Int.natCast_nonneg _
  have hq0 : (0 : Int) ≤ (q : Int) := Int.natCast_nonneg _
  have hqm : (q : Int) < 1000000 := by omega
  have hwn : wrap64 (n : Int) = (n : Int) := by unfold wrap64; omega
  have HL := Lib.hid hc1
  have HU := Lib.hid (And.intro hU hq)
  clear hS hU hc1
  go_enter Try.func22, Try.ntmps22
  go_wp2_with fail
  refine HL.out.mono ?_
  rintro e w2 ⟨rfl, hS2⟩
  rw [← hq] at hS2
  obtain ⟨F2, r2, hm2, hf2, hc2⟩ := I.len hS2
  have HL2 := Lib.hid hc2
  clear hS2 hm1 hc2 hq
  go_wp2_with fail
  refine HL2.out.mono ?_
  rintro e w3 ⟨rfl, hS3⟩
  have H3 := Lib.hid hS3
  clear hS3 hm2
  go_wp2_with fail
  refine (up_walk I.toHpI tr asy n q q _ w3 (Nat.le_refl _) (by omega) (by omega) H3.out (by rw [HU.out.2]; exact HU.out.1.pushed fun k hk => by unfold upd; rw [if_neg (by omega)])).mono ?_
  rintro e w4 ⟨rfl, g4, hS4, hH4, hP4⟩
  have H4 := Lib.hid (And.intro hS4 (And.intro hH4 hP4))
  clear hS4 hH4 hP4
  go_wp2_with fail
  go_end0
  have h4 := H4.out
  rw [HU.out.2] at h4
  exact ⟨rfl, g4, h4.1, h4.2.1, h4.2.2⟩
theorem Sws.far {α : Type} {m : Nat} {f g : Nat → α} (h : Sws m f g) {k : Nat} (hk : m ≤ k) : g k = f k := by
  induction h with
  | refl => rfl
  | step _ hi hj ih => rw [sw_o (by omega) (by omega)]; exact ih
theorem sw_same {α : Type} (f : Nat → α) (i : Nat) : sw f i i = f := by
  funext k
  unfold sw
  split
  · rename_i h; rw [h]
  · rfl
set_option maxRecDepth 100000 in
set_option maxHeartbeats 6400000 in
theorem remove_walk (I : HpJ ty rv lt S Pre Pst) (tr : ∀ {a b c : α}, leB lt a b → leB lt b c → leB lt a c) (asy : ∀ {a b : α}, lt a b = true → lt b a = false)
    (i n : Nat) (f : Nat → α) (w : World) (hn : n + 1 < 1000000) (hi : i ≤ n) (hS : S w (n + 1) f) (hU : Hp (leB lt) (n + 1) f) :
    Calls Try.prog 23 #[.iface ty rv, .int .i64 i] w (fun e w' => ∃ v g, e = .returned v ∧ Pst w' n g v (f i) ∧ Hp (leB lt) n g ∧ Sws n (sw f i n) g) := by
  obtain ⟨F1, r1, hm1, hf1, hc1⟩ := I.len hS
  obtain ⟨q, hq⟩ : ∃ q, q = n + 1 := ⟨_, rfl⟩
  have hqn : (q : Int) - 1 = (n : Int) := by omega
  have hn0 : (0 : Int) ≤ (n : Int) := Int.natCast_nonneg _
  have hi0 : (0 : Int) ≤ (i : Int) := Int.natCast_nonneg _
  have hq0 : (0 : Int) ≤ (q : Int) := Int.natCast_nonneg _
  have hqm : (q : Int) < 1000000 := by omega
  have hwn : wrap64 (n : Int) = (n : Int) := by unfold wrap64; omega
  rw [← hq] at hc1 hS hU
  have HL := Lib.hid hc1
  have HU := Lib.hid (And.intro hU hq)
  clear hS hU hc1 hq
  by_cases hin : i = n
  · subst hin
    have hne : ((i : Int) != (i : Int)) = false := by simp
    go_enter Try.func23, Try.ntmps23
    go_wp2_with fail
    refine HL.out.mono ?_
    rintro e w2 ⟨rfl, hS2⟩
    rw [HU.out.2] at hS2
    obtain ⟨F5, r5, hm5, hf5, hc5⟩ := I.pop hS2
    have HL5 := Lib.hid hc5
    have HP := Lib.hid (show Hp (leB lt) i f from fun k k0 kn => by have := HU.out.1; rw [HU.out.2] at this; exact this k k0 (by omega))
    clear hS2 hm1 hc5
    go_wp2_with fail
    refine HL5.out.mono ?_
    rintro e w6 ⟨v, rfl, hp⟩
    have H6 := Lib.hid hp
    clear hp hm5
    go_wp2_with fail
    go_ret
    exact ⟨v, f, rfl, H6.out, HP.out, by rw [sw_same]; exact .refl⟩
  · have hne : ((n : Int) != (i : Int)) = true := by simp; omega
    have hne2 : ¬ (n : Int) = (i : Int) := by omega
    go_enter Try.func23, Try.ntmps23
    go_wp2_with fail
    refine HL.out.mono ?_
    rintro e w2 ⟨rfl, hS2⟩
    obtain ⟨F2, r2, hm2, hf2, hc2⟩ := I.swap hS2 (i := i) (j := n) (by have := HU.out.2; omega) (by have := HU.out.2; omega) hin
    have HL2 := Lib.hid hc2
    clear hS2 hm1 hc2
    go_wp2_with fail
    refine HL2.out.mono ?_
    rintro e w3 ⟨rfl, hS3⟩
    have H3 := Lib.hid hS3
    clear hS3 hm2
    have HD := Lib.hid (show HpX (leB lt) n (sw f i n) i from by have := HU.out.1; rw [HU.out.2] at this; exact this.removed tr (by omega))
    go_wp2_with fail
    refine (down_walk I.toHpI tr asy i n q _ w3 (by have := HU.out.2; omega) (by omega) (by omega) H3.out HD.out).mono ?_
    rintro e w4 ⟨b, g, rfl, hS4, hP, hT, hF⟩
    have H4 := Lib.hid (And.intro hS4 (And.intro hP (And.intro hT hF)))
    clear hS4 hP hT hF
    cases b with
    | true =>
      have hS5 := H4.out.1
      rw [HU.out.2] at hS5
      obtain ⟨F5, r5, hm5, hf5, hc5⟩ := I.pop hS5
      have HL5 := Lib.hid hc5
      have HE := Lib.hid (show g n = f i from by rw [H4.out.2.1.far (Nat.le_refl _), sw_r])
      clear hS5 hc5
      go_wp2_with fail
      refine HL5.out.mono ?_
      rintro e w6 ⟨v, rfl, hp⟩
      rw [HE.out] at hp
      have H6 := Lib.hid hp
      clear hp hm5
      go_wp2_with fail
      go_ret
      exact ⟨v, g, rfl, H6.out, H4.out.2.2.1 (by trivial), H4.out.2.1⟩
    | false =>
      obtain ⟨hg, hup⟩ := H4.out.2.2.2 rfl
      have HUP := Lib.hid (show HpU (leB lt) n g i from by rw [hg]; exact hup)
      have HG := Lib.hid hg
      clear hup hg
      go_wp2_with fail
      refine (up_walk I.toHpI tr asy i n q g w4 (by have := HU.out.2; omega) (by omega) (by omega) H4.out.1 HUP.out).mono ?_
      rintro e w5 ⟨rfl, g4, hS5, hH5, hP5⟩
      rw [HU.out.2] at hS5
      obtain ⟨F5, r5, hm5, hf5, hc5⟩ := I.pop hS5
      have HL5 := Lib.hid hc5
      have HE := Lib.hid (show g4 n = f i from by rw [hP5.far (Nat.le_refl _), HG.out, sw_r])
      have H5 := Lib.hid (And.intro hH5 (show Sws n (sw f i n) g4 from by have := hP5; rw [HG.out] at this; exact this))
      clear hS5 hc5 hH5 hP5
      go_wp2_with fail
      refine HL5.out.mono ?_
      rintro e w6 ⟨v, rfl, hp⟩
      rw [HE.out] at hp
      have H6 := Lib.hid hp
      clear hp hm5
      go_wp2_with fail
      go_ret
      exact ⟨v, g4, rfl, H6.out, H5.out.1, H5.out.2⟩
end
end Go.Proofs.Ytcjhkafdfeopfaa
