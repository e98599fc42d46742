/- fraction: divWords. -/
import Derived.Test.YtfnfnagdecpobaaDoorFp
namespace Go.Proofs.YtfnfnagdecpobaaDoor.fq
open Go.RowKit Go.Proofs.YtfnfnagdecpobaaDoor.fm Go.Proofs.YtfnfnagdecpobaaDoor.mem Go.Proofs.YtfnfnagdecpobaaDoor.fa Go.Proofs.YtfnfnagdecpobaaDoor.fb Go.Proofs.YtfnfnagdecpobaaDoor.fc Go.Proofs.YtfnfnagdecpobaaDoor.fd Go.Proofs.YtfnfnagdecpobaaDoor.ff Go.Proofs.YtfnfnagdecpobaaDoor.fh Go.Proofs.YtfnfnagdecpobaaDoor.fi Go.Proofs.YtfnfnagdecpobaaDoor.fl Go.Proofs.YtfnfnagdecpobaaDoor.fo Go.Proofs.YtfnfnagdecpobaaDoor.fp

theorem cmp_lt {m n : Nat} (h : m < n) : cmp m n = -1 := by unfold cmp; rw [if_pos h]
theorem cmp_ge {m n : Nat} (h : n ≤ m) : 0 ≤ cmp m n := by unfold cmp; rw [if_neg (by omega)]; split <;> omega

/-- What a division leaves. -/
def Divided (w : World) (m n : Nat) (e : Ending) (w' : World) : Prop :=
  ∃ q r, e = .returned (.tuple #[q, r]) ∧ Owns w.heap.size w' q (digs (m / n)) ∧ Owns w.heap.size w' r (digs (m % n)) ∧ Below w.heap.size w w'

set_option maxRecDepth 100000 in
set_option maxHeartbeats 1000000 in
theorem div_less (w : World) (A A' : Option Addr) (c c' m n : Nat) (h : Rd w w.heap.size A c (digs m)) (h' : Rd w w.heap.size A' c' (digs n)) (hs : (digs m).length ≤ 1000000) (hs' : (digs n).length ≤ 1000000) (hlt : m < n) :
    Calls Tryd.prog 65 #[.slice A (digs m).length c, .slice A' (digs n).length c'] w (Divided w m n) := by
  have e := cmp_lt hlt
  have hq : m / n = 0 := Nat.div_eq_of_lt hlt
  have hr : m % n = m := Nat.mod_eq_of_lt hlt
  go_enter Tryd.func65, Tryd.ntmps65
  go_wp2_with fail
  refine (cmpWords_any w _ A A' c c' m n h h' (by omega) (by omega)).mono ?_
  rintro _ _ ⟨rfl, k, rfl⟩
  rw [e]
  go_wp2_with fail
  refine (clone_any _ A c (digs m) (h.drewN k) hs).mono ?_
  rintro _ w2 ⟨v, rfl, hown, hbel⟩
  have H := Lib.hid (And.intro hown (And.intro hbel (And.intro hq hr)))
  clear hown hbel hq hr e
  go_wp2
  go_ret2
  refine ⟨_, _, rfl, ?_, ?_, ?_⟩
  · rw [H.out.2.2.1]; exact World.ownsRow_nil _ _ _ _
  · rw [H.out.2.2.2]; exact H.out.1
  · obtain ⟨o1, o2, o3, o4, o5⟩ := H.out.2.1
    exact ⟨o1, o2, o3, o4, o5⟩

set_option maxRecDepth 100000 in
set_option maxHeartbeats 1000000 in
theorem div_one (w : World) (A A' : Option Addr) (c c' m n : Nat) (h : Rd w w.heap.size A c (digs m)) (h' : Rd w w.heap.size A' c' (digs n)) (hs : (digs m).length ≤ 1000000) (hn : (digs n).length = 1) (hle : n ≤ m) :
    Calls Tryd.prog 65 #[.slice A (digs m).length c, .slice A' (digs n).length c'] w (Divided w m n) := by
  have e := cmp_ge hle
  obtain ⟨b, hb⟩ : ∃ b, digs n = [b] := List.length_eq_one_iff.1 hn
  have hbn : b = n := by have := val_digs n; rw [hb] at this; simpa [val] using this
  subst hbn
  have hb2 : b < 4294967296 := by have := ok_digs b; rw [hb] at this; exact this b (by simp)
  have hb1 : 1 ≤ b := by
    rcases Nat.eq_zero_or_pos b with h0 | h0
    · subst h0; simp [digs_zero] at hn
    · exact h0
  obtain ⟨ba, off, rfl, hba, hc⟩ := h'.cells (by omega)
  have c1 := hc 0 (by omega)
  rw [hb] at c1
  simp only [List.getD_cons_zero, Nat.add_zero] at c1
  have i1 : (0 : Int) < ((digs b).length : Int) := by omega
  have z1 : (((digs b).length : Int) == 1) = true := beq_iff_eq.2 (by omega)
  have HN := Lib.hid hn
  clear hc hn hb
  go_enter Tryd.func65, Tryd.ntmps65
  go_wp2_with fail
  refine (cmpWords_any w _ A _ c c' m b h h' (by omega) (by have := HN.out; omega)).mono ?_
  rintro _ _ ⟨rfl, k, rfl⟩
  generalize cmp m b = cv at *
  go_wp2_with fail
  refine (divWord_any _ A c b (digs m) (h.drewN k) hb1 hb2 hs).mono ?_
  rintro _ w2 ⟨v, rfl, hown, hbel⟩
  rw [val_digs] at hown ⊢
  have H := Lib.hid (And.intro hown hbel)
  have hr : m % b < b := Nat.mod_lt _ hb1
  clear hown hbel
  generalize hR : m % b = R at *
  go_wp2_with fail
  have ho : ok [R] := by intro x hx; simp at hx; omega
  have e1 : #[Value.int IntKind.u32 (R : Int)] = (ws [R]).toArray := by simp [ws]
  have hown2 := own_new w2 [R] _ e1 (by simp [maxLen])
  have Hown2 := Lib.hid hown2
  clear hown2 e1
  refine (trim_own _ w2.heap.size w2.heap.size 1 1 [R] R Hown2.out ho (by omega) (by simp [val])).mono ?_
  rintro _ w3 ⟨rfl, ho3, rfl⟩
  have O3 := Lib.hid ho3
  clear ho3
  go_wp2
  go_ret2
  obtain ⟨h1, h2⟩ := H.out
  have hsz : w.heap.size ≤ w2.heap.size := h2.size
  refine ⟨_, _, rfl, ?_, ?_, ?_⟩
  · exact h1.alloc _
  · have h3 := O3.out
    rw [hR]
    refine ⟨h3.1, ?_⟩
    rcases h3.2 with h4 | ⟨g, cap, cur, e1, e2, e3⟩
    · exact .inl h4
    · exact .inr ⟨g, cap, cur, e1, by omega, e3⟩
  · obtain ⟨o1, o2, o3, o4, o5⟩ := h2
    exact (show Below w.heap.size w w2 from ⟨o1, o2, o3, o4, o5⟩).alloc hsz _

end Go.Proofs.YtfnfnagdecpobaaDoor.fq
