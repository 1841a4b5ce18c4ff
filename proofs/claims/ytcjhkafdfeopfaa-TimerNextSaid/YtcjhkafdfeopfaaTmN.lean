/-
  TimerNext over a contract of the timers.
-/
import Derived.Test.YtcjhkafdfeopfaaTmA
import Derived.StillTailTactics
namespace Go.Proofs.Ytcjhkafdfeopfaa
open Go.RowKit Go.Lib

/-- a call, as it came in -/
structure C9 where
  what : Int
  id : Int
  at_ : Int
def c9cell (x : C9) : List Value := [.int .i64 x.what, .int .i64 x.id, .int .i64 x.at_]
def C9.In (x : C9) : Prop := NumI x.id ∧ NumI x.at_
theorem RowG.c9 {w : World} {B : Nat} {A : Option Addr} {vs : List C9} (h : RowG c9cell 3 w B A vs) {i : Nat} (hi : i < vs.length) : ∃ ad, A = some ad ∧ ad.block < B ∧ w.cell? (ad.add (i * 3)) = some (.int .i64 vs[i].what) ∧
    w.cell? ⟨(ad.add (i * 3)).block, (ad.add (i * 3)).off + 1, none⟩ = some (.int .i64 vs[i].id) ∧ w.cell? ⟨(ad.add (i * 3)).block, (ad.add (i * 3)).off + 2, none⟩ = some (.int .i64 vs[i].at_) := by
  obtain ⟨ad, rfl, hlt⟩ := h.lo (by omega)
  have get : ∀ j u, (c9cell vs[i])[j]? = some u → w.cell? (ad.add (i * 3 + j)) = some u := fun j u hu => by
    obtain ⟨ad', e, hc⟩ := h.cell i hi j u hu
    obtain rfl := Option.some.inj e
    exact hc
  have addr_field : ∀ (a : Addr) (j : Nat), 0 < j → (⟨a.block, a.off + j, none⟩ : Addr) = a.add j := fun a j hj => by unfold Addr.add; rw [if_neg (by omega)]
  refine ⟨ad, rfl, hlt, get 0 _ rfl, ?_, ?_⟩
  · rw [addr_field _ _ (by omega), addr_add]; exact get 1 _ rfl
  · rw [addr_field _ _ (by omega), addr_add]; exact get 2 _ rfl
/-- ids and times such as Go has -/
def NumL (l : List On) : Prop := ∀ x ∈ l, NumI x.i ∧ NumI x.t
theorem NumL.nil : NumL [] := fun x hx => by cases hx
theorem NumL.set {l : List On} (h : NumL l) (ho : OkO l) {x : On} (hx : NumI x.i ∧ NumI x.t) : NumL (setO x l) := fun y hy => by
  rcases (mem_setO ho).1 hy with h1 | rfl
  · exact h y h1.1
  · exact hx
theorem NumL.rest {l : List On} (h : NumL l) (now : Int) : NumL (restO now l) := fun y hy => h y ((List.dropWhile_sublist _).subset hy)
/-- what is set so far -/
def SetsRel (T : TmP) (w0 : World) (tb n : Nat) (i : Value) (wr : World) : Prop :=
  ∃ (k : Nat) (D : Nat → Prop) (l : List On), k ≤ n ∧ i = .int .i64 k ∧ Tn T w0 wr tb D l ∧ l.length ≤ k ∧ NumL l
/-- nothing is due ahead of the least time -/
theorem due_ahead {a : On} {r : List On} (_ : OkO (a :: r)) : dueO (a.t - 1) (a :: r) = [] ∧ restO (a.t - 1) (a :: r) = a :: r := by
  have h1 : ¬ a.t ≤ a.t - 1 := by omega
  constructor
  · unfold dueO; rw [List.takeWhile_cons, if_neg (by simpa using h1)]
  · unfold restO; rw [List.dropWhile_cons, if_neg (by simpa using h1)]
theorem due_least {a : On} {r : List On} : 0 < (dueO a.t (a :: r)).length ∧ (restO a.t (a :: r)).length + (dueO a.t (a :: r)).length = (a :: r).length := by
  constructor
  · unfold dueO; rw [List.takeWhile_cons, if_pos (by simp)]; simp
  · have h := congrArg List.length (due_rest a.t (a :: r))
    rw [List.length_append] at h
    omega
set_option maxRecDepth 100000 in
set_option maxHeartbeats 12800000 in
theorem tnext_walk {T : TmP} (I : Impl T) (A : Option Addr) (c : Nat) (cl : List C9) (w : World) (hc : RowG c9cell 3 w w.heap.size A cl) (hin : ∀ x ∈ cl, x.In) :
    Calls Try.prog 6 #[.slice A cl.length c] w (YesB w) := by
  obtain ⟨n, hn⟩ : ∃ n, n = cl.length := ⟨_, rfl⟩
  have H := Lib.hid (And.intro hc (And.intro hin hn))
  rw [← hn]
  have hn0 : (0 : Int) ≤ (n : Int) := Int.natCast_nonneg _
  clear hc hin hn
  go_enter Try.func6, Try.ntmps6
  go_wp2_with fail
  refine (alive9_any I w).mono ?_
  rintro e w1 ⟨rfl, h1⟩
  have H1 := Lib.hid h1
  clear h1
  by_cases hg : 200 < n
  · have g1 : (200 : Int) < (n : Int) := by omega
    go_wp2_with fail
    go_ret
    exact ⟨rfl, H1.out⟩
  have g1 : ¬ (200 : Int) < (n : Int) := by omega
  go_wp2_with fail
  refine (I.new w1 w.heap.size H1.out.size).mono ?_
  rintro e w2 ⟨tb, D, rfl, ht2, _, hb2⟩
  have H2 := Lib.hid (show SetsRel T w tb n (.int .i64 0) w2 from ⟨0, D, [], Nat.zero_le _, rfl, ⟨ht2, H1.out.trans (hb2.mono H1.out.size)⟩, Nat.le_refl _, NumL.nil⟩)
  clear ht2 hb2
  go_wp2_with fail
  go_loopw [4] (fun i wr => SetsRel T w tb n i wr) (fun i _ => n - (intOf i).toNat)
  case atStart => exact H2.out
  case round =>
    obtain ⟨k, D, l, hk, rfl, hT, hl, hN⟩ := hrel
    have hk0 : (0 : Int) ≤ (k : Int) := Int.natCast_nonneg _
    have HR := Lib.hid (And.intro hT (And.intro hl hN))
    clear hT hl hN
    by_cases hlt : k < n
    · have hlt1 : (k : Int) < (n : Int) := by omega
      have hkl : k < cl.length := by rw [← H.out.2.2]; exact hlt
      obtain ⟨ad, rfl, _, _, d1, d2⟩ := (H.out.1.below HR.out.1.low (Nat.le_refl _)).c9 hkl
      obtain ⟨x, hx⟩ : ∃ x, x = cl[k] := ⟨_, rfl⟩
      rw [← hx] at d1 d2
      have HX := Lib.hid (show x.In by rw [hx]; exact H.out.2.1 _ (List.getElem_mem hkl))
      have hbd : Below wr.heap.size wr wr.drew := ⟨rfl, rfl, rfl, Nat.le_refl _, fun _ _ => rfl⟩
      have HD := Lib.hid (HR.out.1.below I hbd)
      have HSET := Lib.hid (I.set x.id x.at_ HD.out.t (by have := HR.out.2.1; omega) HD.out.low.size HX.out.1 HX.out.2)
      clear hx hbd
      go_upto_region 9 with fail
      go_still_tail 11, (by kernel_rfl)
      repeat still_step
      change wpList _ _ _ _ _ wr.drew
      clear d1 d2
      go_wp2_with fail
      refine HSET.out.mono ?_
      rintro e w5 ⟨rfl, ht5, hc5⟩
      have HF := Lib.hid (show SetsRel T w tb n (.int .i64 ((k : Int) + 1)) w5 from ⟨k + 1, _, _, by omega, by go_num, HD.out.step I ht5 hc5, by have := setO_len ⟨x.id, x.at_⟩ l; have := HR.out.2.1; omega, HR.out.2.2.set (I.ok HR.out.1.t) HX.out⟩)
      clear ht5 hc5 HSET
      go_wp2_with fail
      go_roundw
      case rel => exact HF.out
      case measure => simp [intOf]; omega
    · have hlt1 : ¬ (k : Int) < (n : Int) := by omega
      go_wp2_with fail
      go_loopw [5] (fun i wr => ∃ (j : Nat) (D : Nat → Prop) (l : List On), j ≤ n + 1 ∧ i = .int .i64 j ∧ Tn T w wr tb D l ∧ l.length + j ≤ n ∧ NumL l) (fun i _ => n + 1 - (intOf i).toNat)
      case atStart => exact ⟨0, D, l, Nat.zero_le _, rfl, HR.out.1, by have := HR.out.2.1; omega, HR.out.2.2⟩
      case round =>
        obtain ⟨j, D, l, hj, rfl, hT, hl, hN⟩ := hrel
        have hj0 : (0 : Int) ≤ (j : Int) := Int.natCast_nonneg _
        have HR := Lib.hid (And.intro hT (And.intro hl hN))
        have hjn : (j : Int) ≤ (n : Int) := by omega
        clear hT hl hN
        have HNX := Lib.hid (I.next HR.out.1.t (by have := HR.out.2.1; omega))
        cases l with
        | nil =>
          rw [show tmRes (nextO []) = .tuple #[.int .i64 0, .bool false] from rfl] at HNX
          go_wp2_with fail
          refine HNX.out.mono ?_
          rintro e w5 ⟨rfl, hb5⟩
          have H5 := Lib.hid (HR.out.1.below I hb5)
          have HCN := Lib.hid (I.count H5.out.t (by simp))
          clear hb5 HNX
          go_wp2_with fail
          refine HCN.out.mono ?_
          rintro e w6 ⟨rfl, hb6⟩
          have H6 := Lib.hid (H5.out.below I hb6)
          clear hb6 HCN
          go_wp2_with fail
          go_ret
          exact ⟨rfl, H6.out.low⟩
        | cons a r =>
          rw [show tmRes (nextO (a :: r)) = .tuple #[.int .i64 a.t, .bool true] from rfl] at HNX
          have hna := (HR.out.2.2 a List.mem_cons_self).2
          have hna1 := hna.1
          have hna2 := hna.2
          have hlen := HR.out.2.1
          have HOK := Lib.hid (I.ok HR.out.1.t)
          go_wp2_with fail
          refine HNX.out.mono ?_
          rintro e w5 ⟨rfl, hb5⟩
          have H5 := Lib.hid (HR.out.1.below I hb5)
          clear hb5 HNX
          go_upto_region 16 with fail
          go_cut [59] (fun v wx => v = .bool false ∧ ∃ D', Tn T w wx tb D' (a :: r))
          case first =>
            by_cases hm : -9223372036854775808 < a.t
            · have hmd : decide (-9223372036854775808 < a.t) = true := decide_eq_true hm
              have hwr : IntKind.i64.wrap (a.t - 1) = a.t - 1 := by rw [IntKind.wrap_i64]; omega
              have HDU := Lib.hid (I.due (a.t - 1) H5.out.t (by omega) H5.out.low.size ⟨by omega, by omega⟩)
              rw [(due_ahead HOK.out).1, (due_ahead HOK.out).2] at HDU
              go_wp2_with fail
              refine HDU.out.mono ?_
              rintro e w6 ⟨A6, n6, c6, rfl, rfl, _, ht6, hc6⟩
              have H6 := Lib.hid (H5.out.step I ht6 hc6)
              clear ht6 hc6 HDU
              go_wp2_with fail
              go_meet
              exact ⟨by first | rfl | simp, _, H6.out⟩
            · have hmd : decide (-9223372036854775808 < a.t) = false := decide_eq_false hm
              go_wp2_with fail
              go_meet
              exact ⟨by first | rfl | simp, _, H5.out⟩
          case rest =>
            obtain ⟨rfl, D6, hT6⟩ := hcut
            have H6 := Lib.hid hT6
            have HCN := Lib.hid (I.count H6.out.t (by omega))
            clear hT6
            obtain ⟨m, hm⟩ : ∃ m, m = (a :: r).length := ⟨_, rfl⟩
            rw [← hm] at HCN hlen
            have HM := Lib.hid hm
            clear hm
            go_wp2_with fail
            refine HCN.out.mono ?_
            rintro e w7 ⟨rfl, hb7⟩
            have H7 := Lib.hid (H6.out.below I hb7)
            have HDU := Lib.hid (I.due a.t H7.out.t (by rw [← HM.out]; omega) H7.out.low.size ⟨hna1, hna2⟩)
            clear hb7 HCN
            go_wp2_with fail
            refine HDU.out.mono ?_
            rintro e w8 ⟨A8, q, c8, rfl, hq, _, ht8, hc8⟩
            have H8 := Lib.hid (H7.out.step I ht8 hc8)
            obtain ⟨hd1, hd2⟩ := due_least (a := a) (r := r)
            rw [← hq, ← HM.out] at hd2
            rw [← hq] at hd1
            obtain ⟨s, hs⟩ : ∃ s, s = (restO a.t (a :: r)).length := ⟨_, rfl⟩
            have HCS := I.count H8.out.t (by rw [← hs]; omega)
            rw [← hs] at hd2 HCS
            have HCO := Lib.hid HCS
            have hqz : ((q : Int) == 0) = false := by rw [beq_eq_false_iff_ne]; omega
            have hsub : (m : Int) - (q : Int) = (s : Int) := by omega
            have hss : ((s : Int) != (s : Int)) = false := by simp
            have hq1 : (1 : Int) ≤ (q : Int) := by omega
            have HS := Lib.hid (And.intro hs hd2)
            clear hq ht8 hc8 HDU hd2 hs HCS
            go_wp2_with fail
            refine HCO.out.mono ?_
            rintro e w9 ⟨rfl, hb9⟩
            have H9 := Lib.hid (H8.out.below I hb9)
            have HF := Lib.hid (show ∃ (j' : Nat) (D : Nat → Prop) (l : List On), j' ≤ n + 1 ∧ Value.int .i64 ((j : Int) + 1) = .int .i64 j' ∧ Tn T w w9 tb D l ∧ l.length + j' ≤ n ∧ NumL l from ⟨j + 1, _, _, by omega, by go_num, H9.out, by rw [← HS.out.1]; have := HS.out.2; omega, HR.out.2.2.rest _⟩)
            clear hb9 HCO
            go_wp2_with fail
            go_roundw
            case rel => exact HF.out
            case measure => simp [intOf]; omega
end Go.Proofs.Ytcjhkafdfeopfaa
