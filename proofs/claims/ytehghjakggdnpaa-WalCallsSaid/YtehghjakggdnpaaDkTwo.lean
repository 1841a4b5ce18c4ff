/-
  Both disks, apart; reads and writes of whatever.
-/
import Derived.Test.YtehghjakggdnpaaDkRefCrash
namespace Go.Proofs.Ytehghjakggdnpaa
open Go.RowKit Go.Lib

theorem RefAt.same_ext {w : World} {g : Nat} {G : Nat → Prop} {s : DS} (h : RefAt w g G s) : RefAt w g (Ext G w w) s := by
  obtain ⟨L, W, lv, wv, h1, h2, h3, h4, h5, f1, f2, f3, f4, h6⟩ := h
  exact ⟨L, W, lv, wv, h1, h2, h3.mono fun _ hk => .inl hk, h4, h5.mono fun _ hk => .inl hk, .inl f1, fun k hk => .inl (f2 k hk), fun k hk => .inl (f3 k hk), fun k hk => hk.elim (f4 k) fun h => h.2, h6⟩
theorem refWrite_any {w : World} {g : Nat} {G : Nat → Prop} {s : DS} (h : RefAt w g G s) (k : Int) (A : Option Addr) (n c : Nat) (b : List Int) (hr : Rd w w.heap.size A n (cells b)) (few : s.wr.length < 1000000) :
    Calls Try.prog 63 #[.pointer (some ⟨g, 0, none⟩), .int .i64 k, .slice A n c] w (RefRet g G (s.tryWrite k b).2 (.int .i64 (s.tryWrite k b).1) w) := by
  have hn : b.length = n := by have := hr.len; rwa [cells_len] at this
  have hse : RefAt w g (Ext G w w) s := h.same_ext
  unfold DS.tryWrite
  by_cases h1 : 0 ≤ k ∧ k < s.last.length
  · rw [if_pos h1]
    obtain ⟨k', rfl⟩ : ∃ k' : Nat, k = k' := ⟨k.toNat, by omega⟩
    by_cases h2 : b.length = 64
    · rw [if_pos h2]
      obtain rfl : n = 64 := by omega
      exact refWrite_yes h k' (by omega) A c b hr few
    · rw [if_neg h2]
      exact (refWrite_len h k' (by omega) A n c (by omega)).mono fun e w' ⟨h1, h2⟩ => by subst h2; exact ⟨h1, hse, Chg.refl _ _⟩
  · rw [if_neg h1]
    exact (refWrite_no h k h1 A n c).mono fun e w' ⟨h1, h2⟩ => by subst h2; exact ⟨h1, hse, Chg.refl _ _⟩

/-- both disks, apart: the one is s, the document's is t -/
structure Two (w0 w : World) (g gr : Nat) (F G : Nat → Prop) (s t : DS) : Prop where
  d : DiskAt w g F s
  r : RefAt w gr G t
  dis : ∀ k, F k → ¬ G k
  lof : ∀ k, F k → w0.heap.size ≤ k
  lor : ∀ k, G k → w0.heap.size ≤ k
  b : Below w0.heap.size w0 w
section
variable {w0 w w' : World} {g gr : Nat} {F G : Nat → Prop} {s t s' : DS}
theorem Two.below (h : Two w0 w g gr F G s t) (hb : Below w.heap.size w w') : Two w0 w' g gr F G s t :=
  ⟨h.d.below hb, h.r.below hb, h.dis, h.lof, h.lor, h.b.trans (hb.mono h.b.size)⟩
theorem Two.drew (h : Two w0 w g gr F G s t) : Two w0 w.drew g gr F G s t := h.below ⟨rfl, rfl, rfl, Nat.le_refl _, fun _ _ => rfl⟩
theorem Two.stepD (h : Two w0 w g gr F G s t) (hd : DiskAt w' g (Ext F w w') s') (hc : Chg F w w') : Two w0 w' g gr (Ext F w w') G s' t :=
  ⟨hd, h.r.chg hc fun k hg hf => h.dis k hf hg, fun k hk hg => hk.elim (fun hf => h.dis k hf hg) fun hf => (by have := h.r.foot k hg; omega), fun k hk => hk.elim (h.lof k) fun hf => Nat.le_trans h.b.size hf.1, h.lor, h.b.trans (hc.below h.lof h.b.size)⟩
theorem Two.stepR (h : Two w0 w g gr F G s t) (hd : RefAt w' gr (Ext G w w') s') (hc : Chg G w w') : Two w0 w' g gr F (Ext G w w') s s' :=
  ⟨h.d.chg hc h.dis, hd, fun k hf hk => hk.elim (fun hg => h.dis k hf hg) fun hg => (by have := h.d.foot k hf; omega), h.lof, fun k hk => hk.elim (h.lor k) fun hf => Nat.le_trans h.b.size hf.1, h.b.trans (hc.below h.lor h.b.size)⟩
end
theorem read_at {w : World} {g : Nat} {F : Nat → Prop} {s : DS} (h : DiskAt w g F s) (k : Int) (hk : 0 ≤ k ∧ k < s.last.length) : Calls Try.prog 71 #[.pointer (some ⟨g, 0, none⟩), .int .i64 k] w (ReadRet (s.read k.toNat) w) := by
  obtain ⟨n, rfl⟩ : ∃ n : Nat, k = n := ⟨k.toNat, by omega⟩
  exact read_any h n (by omega)
theorem refRead_at {w : World} {g : Nat} {G : Nat → Prop} {s : DS} (h : RefAt w g G s) (k : Int) (hk : 0 ≤ k ∧ k < s.last.length) : Calls Try.prog 60 #[.pointer (some ⟨g, 0, none⟩), .int .i64 k] w (SecRet (s.read k.toNat) w) := by
  obtain ⟨n, rfl⟩ : ∃ n : Nat, k = n := ⟨k.toNat, by omega⟩
  exact refRead_any h n (by omega)
theorem write_q {w : World} {g : Nat} {F : Nat → Prop} {s s' : DS} {q : Int} {k : Int} {b : List Int} (hq : s.tryWrite k b = (q, s')) (h : DiskAt w g F s) (A : Option Addr) (n c : Nat) (hr : Rd w w.heap.size A n (cells b)) (few : s.wr.length < 1000000) :
    Calls Try.prog 58 #[.pointer (some ⟨g, 0, none⟩), .int .i64 k, .slice A n c] w fun e w' => e = .returned (.int .i64 q) ∧ DiskAt w' g (Ext F w w') s' ∧ Chg F w w' :=
  (write_any h k A n c b hr few).mono fun e w' h => by unfold TryRet at h; rw [hq] at h; exact h
theorem refWrite_q {w : World} {g : Nat} {G : Nat → Prop} {s s' : DS} {q : Int} {k : Int} {b : List Int} (hq : s.tryWrite k b = (q, s')) (h : RefAt w g G s) (A : Option Addr) (n c : Nat) (hr : Rd w w.heap.size A n (cells b)) (few : s.wr.length < 1000000) :
    Calls Try.prog 63 #[.pointer (some ⟨g, 0, none⟩), .int .i64 k, .slice A n c] w fun e w' => e = .returned (.int .i64 q) ∧ RefAt w' g (Ext G w w') s' ∧ Chg G w w' :=
  (refWrite_any h k A n c b hr few).mono fun e w' h => by unfold RefRet at h; rw [hq] at h; exact h

end Go.Proofs.Ytehghjakggdnpaa
