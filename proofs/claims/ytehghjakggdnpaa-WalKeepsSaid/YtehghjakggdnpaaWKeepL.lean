/-
  A log of the call's own, and a row of what was appended to it, in memory.
-/
import Derived.Test.YtehghjakggdnpaaWKeepC
import Derived.Test.YtehghjakggdnpaaWAlive
import Derived.Test.YtehghjakggdnpaaWSameL
namespace Go.Proofs.Ytehghjakggdnpaa
open Go.RowKit Go.Lib

/-- the log g, l has the records R; the row v holds zs, and is no part of the disk -/
def KSt (w wr : World) (g l n1 : Nat) (R : List (List Int)) (v : Value) (zs : List Sl) : Prop :=
  ∃ F, WLive w wr g l F (kS n1 R) 1 0 ((totalM R : Nat) : Int) (((totalM R : Nat) : Int) + 1) ∧ wr.ownsRow w.heap.size 38 1 v zs.length (vals zs) ∧ (∀ b, v.ownBlock = some b → ¬ F b) ∧ totalM R ≤ 149 ∧ n1 ≤ totalM R

section
variable {w wr : World} {g l n1 : Nat} {R : List (List Int)} {v : Value} {zs : List Sl}
theorem KSt.b (h : KSt w wr g l n1 R v zs) : Below w.heap.size w wr := by obtain ⟨F, h, _⟩ := h; exact h.b
theorem KSt.own (h : KSt w wr g l n1 R v zs) : wr.ownsRow w.heap.size 38 1 v zs.length (vals zs) := by obtain ⟨F, _, h, _⟩ := h; exact h
theorem KSt.le (h : KSt w wr g l n1 R v zs) : totalM R ≤ 149 := by obtain ⟨F, _, _, _, h, _⟩ := h; exact h
theorem kst_append (h : KSt w wr g l n1 R v zs) (A : Option Addr) (n c : Nat) (r : List Int) (hr : Rd wr wr.heap.size A n (cells r)) :
    Calls Try.prog 15 #[.pointer (some ⟨l, 0, none⟩), .slice A n c] wr fun e w' => (∃ q : Int, q ≠ 0 ∧ e = .returned (.int .i64 q) ∧ KSt w w' g l n1 R v zs) ∨ (e = .returned (.int .i64 0) ∧ n ≤ 4096 ∧ KSt w w' g l n1 (R ++ [r]) v zs) := by
  obtain ⟨F, hlv, ho, hnb, ht, hn1⟩ := h
  by_cases h1 : 4096 < n
  · refine (append_range A n c h1).mono ?_
    rintro e w' ⟨a, rfl⟩
    exact .inl ⟨41, by omega, a, F, hlv, ho, hnb, ht, hn1⟩
  by_cases h2 : isFull (kS n1 R) (totalM R) n (((totalM R : Nat) : Int) + 1)
  · refine (append_full hlv.d hlv.lg (by rw [kS_len]; omega) (by rw [kS_half]; exact ht) ⟨by omega, by omega⟩ A n c (by omega) h2).mono ?_
    rintro e w' ⟨a, p, rfl⟩
    exact .inl ⟨36, by omega, a, F, hlv.drewN p, ho, hnb, ht, hn1⟩
  · have hnl : r.length = n := by have := hr.len; rwa [cells_len] at this
    refine (append_ok hlv.d hlv.lg hlv.nf (by rw [kS_len]; omega) (.inl rfl) (by rw [kS_half]; exact ht) ⟨by omega, by omega⟩ A n c r hr (by omega) h2 (by rw [kS_wr]; omega)).mono ?_
    rintro e w' ⟨a, hd, hl, hc⟩
    have h6 := hlv.step hd hl hc
    have htt : totalM (R ++ [r]) = totalM R + secsOf n := by rw [total_append]; simp only [totalM]; rw [hnl]; omega
    rw [kS_app hn1, ← htt, show ((totalM R : Nat) : Int) + 1 + ((secsOf n : Nat) : Int) = ((totalM (R ++ [r]) : Nat) : Int) + 1 by omega] at h6
    unfold isFull at h2
    rw [kS_half] at h2
    refine .inr ⟨a, by omega, _, h6, own_chg ho hc (fun k hk hf => hf.elim (hnb k hk) fun e => dkown_ne ho hlv.lg (by decide) (by rw [hk, e])), fun b hb hf => hf.elim (hnb b hb) fun e => ?_, by omega, by omega⟩
    have := (ho.lt b hb).2
    omega
theorem kst_grow (h : KSt w wr g l n1 R v zs) (x : Sl) (o : Obj) {g3 cap : Nat} {w3 : World} (ho : w3.ownsRow w.heap.size 38 1 (.slice (some ⟨g3, 0, none⟩) (zs.length + 1) cap) (zs.length + 1) (vals zs ++ [.slice x.A x.n x.c])) (hg : (wr.alloc o).grownBy w3 v.ownBlock) (hat : v.ownBlock = some g3 ∨ g3 = wr.heap.size + 1) :
    KSt w w3 g l n1 R (.slice (some ⟨g3, 0, none⟩) (zs.length + 1) cap) (zs ++ [x]) := by
  obtain ⟨F, hlv, ho0, hnb, ht, hn1⟩ := h
  have h1 := hlv.alloc o
  have hoa := ho0.alloc o
  have hc : Chg (fun k => v.ownBlock = some k) (wr.alloc o) w3 := (Chg.refl _ _).grown hg (fun k hk _ => hk)
  refine ⟨F, ⟨h1.d.chg hc (fun k hk e => hnb k e hk), h1.lg.chg hc (dkown_ne hoa h1.lg (by decide)), hlv.nf, hlv.lo, hlv.lol, h1.b.trans (below_own hoa hg h1.b.size)⟩, ?_, ?_, ht, hn1⟩
  · rw [List.length_append, List.length_singleton, show vals (zs ++ [x]) = vals zs ++ [.slice x.A x.n x.c] by simp [vals, Sl.val]]
    exact ho
  · intro b hb hf
    obtain rfl : g3 = b := by simpa [Value.ownBlock] using hb
    rcases hat with e | e
    · exact hnb _ e hf
    · have := hlv.d.foot _ hf
      omega
theorem kst_flush (h : KSt w wr g l n1 R v zs) : Calls Try.prog 18 #[.pointer (some ⟨l, 0, none⟩)] wr fun e w' => e = .returned (.tuple #[]) ∧ KSt w w' g l (totalM R) R v zs := by
  obtain ⟨F, hlv, ho, hnb, ht, hn1⟩ := h
  refine (wflush_any hlv.d hlv.lg hlv.nf).mono ?_
  rintro e w' ⟨a, hd, hl, hc⟩
  have h6 := hlv.stepF hd hc
  rw [kS_flush hn1] at h6
  refine ⟨a, _, h6, own_chg ho hc hnb, fun b hb hf => hf.elim (hnb b hb) fun e => ?_, ht, Nat.le_refl _⟩
  have := (ho.lt b hb).2
  omega
/-- behind a crash -/
def KCr (w wr : World) (g n1 : Nat) (R : List (List Int)) (v : Value) (zs : List Sl) : Prop :=
  ∃ F s T, DiskAt wr g F s ∧ Crashed s.cur T R ∧ n1 ≤ T ∧ wr.ownsRow w.heap.size 38 1 v zs.length (vals zs) ∧ Below w.heap.size w wr ∧ totalM R ≤ 149
theorem kst_crash (h : KSt w wr g l n1 R v zs) (hb : ∀ r ∈ R, IsBytes r ∧ r.length ≤ 4096) (keep torn : Int) : Calls Try.prog 24 #[.pointer (some ⟨g, 0, none⟩), .int .i64 keep, .int .i64 torn] wr fun e w' => e = .returned (.tuple #[]) ∧ KCr w w' g n1 R v zs := by
  obtain ⟨F, hlv, ho, hnb, ht, hn1⟩ := h
  obtain ⟨T, hT, hC, _⟩ := crashed_any ht hb hn1 keep torn
  refine (crash_any hlv.d keep torn).mono ?_
  rintro e w' ⟨a, hd, hc⟩
  exact ⟨a, _, _, T, hd, hC, hT, own_chg ho hc hnb, (hlv.stepF hd hc).b, ht⟩
/-- what is opened behind a crash -/
def KOp (w : World) (k : Nat) (R : List (List Int)) (v : Value) (zs : List Sl) (e : Ending) (w' : World) : Prop :=
  ∃ l2 A2 c2 m rs, e = .returned (.tuple #[.pointer (some ⟨l2, 0, none⟩), .slice A2 m c2, .int .i64 0]) ∧ k ≤ m ∧ m ≤ R.length ∧ m = rs.length ∧ Rd w' w'.heap.size A2 m (vals rs) ∧ SlsIn w' w'.heap.size rs ∧ lists rs = R.take m ∧
    w'.ownsRow w.heap.size 38 1 v zs.length (vals zs) ∧ Below w.heap.size w w'
theorem kst_open (h : KCr w wr g n1 R v zs) (hb : ∀ r ∈ R, IsBytes r ∧ r.length ≤ 4096) (k : Nat) (hk : k ≤ R.length) (hkn : totalM (R.take k) ≤ n1) : Calls Try.prog 26 #[.pointer (some ⟨g, 0, none⟩)] wr (KOp w k R v zs) := by
  obtain ⟨F, s, T, hd, hC, hT, ho, hbel, ht⟩ := h
  have hlen : s.last.length = 300 := by rw [← cur_len]; exact hC.len
  have hh : s.half = 149 := by unfold DS.half; rw [hlen]
  obtain ⟨m, hm, he, hall⟩ := hC.recs ht hb
  have ho1 := open_some hd hC.is (by omega) 1 0 1 hC.head (.inl rfl) (by omega) (by omega)
  rw [hh] at ho1
  refine ho1.mono ?_
  rintro e w' ⟨l2, v2, rs, a, hor, hs, hls, _, _, _, hb2⟩
  have hls' : lists rs = R.take m := hls.trans he
  have hrl : rs.length = m := by
    have h1 := congrArg List.length hls'
    simp only [lists, List.length_map, List.length_take] at h1
    omega
  have hkm := hall k hk (by omega)
  obtain ⟨A2, c2, rfl⟩ : ∃ A2 c2, v2 = .slice A2 rs.length c2 := by
    rcases hor.2 with ⟨e1, hz⟩ | ⟨g3, cap, _, e1, _⟩
    · exact ⟨none, 0, by rw [e1, hz]⟩
    · exact ⟨_, _, e1⟩
  refine ⟨l2, A2, c2, m, rs, by rw [a, hrl], hkm, hm, hrl.symm, by rw [← hrl]; exact Rd.of_own hor, hs, hls', own_below ho hb2 (Nat.le_refl _), hbel.trans (hb2.mono hbel.size)⟩
end
end Go.Proofs.Ytehghjakggdnpaa
