/- fraction: divWords by a divisor of at least two words. -/
import Derived.Test.YtbeidpeoichakaaGreatDoorFl
namespace Go.Proofs.YtbeidpeoichakaaGreatDoor.fr
open Go.RowKit Go.Proofs.YtbeidpeoichakaaGreatDoor.fm Go.Proofs.YtbeidpeoichakaaGreatDoor.mem Go.Proofs.YtbeidpeoichakaaGreatDoor.fa Go.Proofs.YtbeidpeoichakaaGreatDoor.fb Go.Proofs.YtbeidpeoichakaaGreatDoor.fc Go.Proofs.YtbeidpeoichakaaGreatDoor.fd Go.Proofs.YtbeidpeoichakaaGreatDoor.ff Go.Proofs.YtbeidpeoichakaaGreatDoor.fh Go.Proofs.YtbeidpeoichakaaGreatDoor.fi Go.Proofs.YtbeidpeoichakaaGreatDoor.fl Go.Proofs.YtbeidpeoichakaaGreatDoor.fo Go.Proofs.YtbeidpeoichakaaGreatDoor.fp Go.Proofs.YtbeidpeoichakaaGreatDoor.fq

theorem Rd_grown {w w' : World} {B : Nat} {A : Option Addr} {c g : Nat} {l : List Nat} (h : Rd w B A c l) (hg : w.grownBy w' (some g)) (hB : B ≤ w.heap.size) (hne : ∀ ad, A = some ad → 0 < l.length → ad.block ≠ g) : Rd w' B A c l :=
  ⟨h.ok, h.fit, fun hn => by
    obtain ⟨b, off, e, hb, hc⟩ := h.cells hn
    exact ⟨b, off, e, hb, fun j hj => (hg.cell_far ⟨b, off + j, none⟩ (by simp; omega) (fun e2 => hne _ e hn (by injection e2))).trans (hc j hj)⟩⟩

theorem own_grown {base : Nat} {w w' : World} {g g' n cap : Nat} {xs : List Value} (h : w.ownsRow base 59 1 (.slice (some ⟨g, 0, none⟩) n cap) n xs) (hg : w.grownBy w' (some g')) (hne : g ≠ g') :
    w'.ownsRow base 59 1 (.slice (some ⟨g, 0, none⟩) n cap) n xs :=
  h.kept hg (.inr (by simp [Value.ownBlock, hne]))

theorem own_below {base B : Nat} {w w' : World} {g n cap : Nat} {xs : List Value} (h : w.ownsRow base 59 1 (.slice (some ⟨g, 0, none⟩) n cap) n xs) (hb : Below B w w') (hg : g < B) :
    w'.ownsRow base 59 1 (.slice (some ⟨g, 0, none⟩) n cap) n xs := by
  refine ⟨h.1, ?_⟩
  rcases h.2 with hv | ⟨g1, cap1, cur, hv, h1, h2, h3⟩
  · exact .inl hv
  · right
    injection hv with e1 e2 e3
    injection e1 with e1
    injection e1 with e4 _ _
    subst e4 e3
    exact ⟨g, cap, cur, rfl, h1, (hb.block g hg).trans h2, h3⟩

/-- What holds at the head of the loop: k words of the quotient are still to come. -/
structure Loop (w wr : World) (gu gv gq N p t cv V Am k : Nat) (X Q : List Nat) : Prop where
  okX : ok X
  okQ : ok Q
  x : wr.ownsRow w.heap.size 59 1 (.slice (some ⟨gu, 0, none⟩) N N) N (ws X)
  q : wr.ownsRow w.heap.size 59 1 (.slice (some ⟨gq, 0, none⟩) (p + 1) (p + 1)) (p + 1) (ws Q)
  v : Rd wr wr.heap.size (some ⟨gv, 0, none⟩) cv (digs V)
  rest : val (X.drop k) < V
  eq : Am = 4294967296 ^ k * (val (Q.drop k) * V) + val X
  bel : Below w.heap.size w wr

theorem Rd_at {w : World} {B b off c : Nat} {l : List Nat} (h : Rd w B (some ⟨b, off, none⟩) c l) (j : Nat) (hj : j < l.length) : w.cell? ⟨b, off + j, none⟩ = some (.int .u32 ((l.getD j 0 : Nat) : Int)) := by
  obtain ⟨b', off', e, _, hc⟩ := h.cells (by omega)
  injection e with e
  injection e with e1 e2 _
  subst e1 e2
  exact hc j hj

theorem quot_done (m n s q x : Nat) (h : m * 2 ^ s = q * (n * 2 ^ s) + x) (hx : x < n * 2 ^ s) : q = m / n ∧ x / 2 ^ s = m % n := by
  have hp : 0 < 2 ^ s := Nat.pow_pos (by decide)
  generalize 2 ^ s = p at *
  rw [← Nat.mul_assoc] at h
  have h1 : q * n ≤ m := Nat.le_of_mul_le_mul_right (by omega : q * n * p ≤ m * p) hp
  obtain ⟨r, rfl⟩ := Nat.exists_eq_add_of_le h1
  rw [Nat.add_mul] at h
  obtain rfl : x = r * p := by omega
  have hr : r < n := Nat.lt_of_mul_lt_mul_right hx
  rw [Nat.mul_div_cancel _ hp, Nat.mul_comm q n, Nat.mul_add_div (by omega), Nat.mul_add_mod, Nat.div_eq_of_lt hr, Nat.mod_eq_of_lt hr]
  exact ⟨rfl, rfl⟩

theorem digit_low (P V d a : Nat) (h : a + d * V = P) (h1 : P < (d + 1) * V) : P = d * V + a ∧ a < V := by
  rw [Nat.add_mul, Nat.one_mul] at h1
  exact ⟨by omega, by omega⟩

theorem digit_back (P V d a b B x2 : Nat) (h : a + d * V = P + B) (ha : a < B) (h2 : b + B * x2 = a + V) (hb : b < B) (h3 : d * V ≤ P + V) (hV : V ≤ B) : ∃ d', d = d' + 1 ∧ P = d' * V + b ∧ b < V := by
  cases d with
  | zero => rw [Nat.zero_mul] at h; omega
  | succ d' =>
    refine ⟨d', rfl, ?_⟩
    rw [Nat.add_mul, Nat.one_mul] at h h3
    have hx : x2 = 1 := by
      rcases x2 with _ | _ | x2
      · omega
      · rfl
      · have : B * 2 ≤ B * (x2 + 1 + 1) := Nat.mul_le_mul_left _ (by omega)
        omega
    subst hx
    exact ⟨by omega, by omega⟩

theorem loop_next {w wr wx : World} {gu gv gq N p t cv V Am j q r k1 : Nat} {X X' Q : List Nat} {v : Int} (L : Loop w wr gu gv gq N p t cv V Am (j + 1) X Q) (hgu : gu < gv) (hgv : gv < gq) (hgq : gq < wr.heap.size) (hw : w.heap.size ≤ gu)
    (hj : j + 1 ≤ p + 1) (hN : N = p + (t + 2) + 1) (own : wx.ownsRow w.heap.size 59 1 (.slice (some ⟨gu, 0, none⟩) N N) N (ws X')) (okX' : ok X') (tk : X'.take j = X.take j)
    (dr : X'.drop (j + (t + 3)) = X.drop (j + (t + 3))) (hr : val ((X'.drop j).take (t + 3)) = r) (hz : val (X.drop (j + (t + 3))) = 0) (hP : val (X.drop j) = q * V + r) (hrV : r < V) (hq : q < 4294967296)
    (gr : (wr.drewN k1).grownBy wx (some gu)) (hv : v = (q : Int)) :
    Loop w (wx.setCell ⟨gq, j, none⟩ (.int .u32 v)) gu gv gq N p t cv V Am j X' (Q.set j q) := by
  have lX := own_len L.x
  have lX' := own_len own
  have lQ := own_len L.q
  have g1 : wr.grownBy wx (some gu) := ⟨gr.os, gr.tape, gr.output, gr.size, gr.block⟩
  have q1 := own_grown L.q g1 (by omega)
  have st := (q1.stored j (.int .u32 v)).2
  obtain ⟨p1, p2⟩ := part_done X X' Q j t V Am q r tk (by omega) (by omega) dr hz hr hP (by omega) L.eq
  have hbs := L.bel.size
  refine ⟨okX', ok_set L.okQ j hq, own_grown own st (by omega), own_set q1 j q v hv, ?_, by rw [p1]; exact hrV, p2, ?_⟩
  · have v1 := Rd_grown L.v g1 (Nat.le_refl _) (fun ad e _ => by injection e with e; subst e; show gv ≠ gu; omega)
    have v2 := Rd_grown (v1.more g1.size) st (Nat.le_refl _) (fun ad e _ => by injection e with e; subst e; show gv ≠ gq; omega)
    exact v2.more st.size
  · exact (L.bel.grown g1 hbs (by simp; omega)).grown st (by have := g1.size; omega) (by simp; omega)

theorem own_base {base base' : Nat} {w : World} {e : TypeId} {v : Value} {n : Nat} {xs : List Value} (h : w.ownsRow base e 1 v n xs) (hb : base' ≤ base) : w.ownsRow base' e 1 v n xs := by
  refine ⟨h.1, ?_⟩
  rcases h.2 with hv | ⟨g, cap, cur, e1, e2, e3⟩
  · exact .inl hv
  · exact .inr ⟨g, cap, cur, e1, Nat.le_trans hb e2, e3⟩

theorem rest_start (m n p t s : Nat) (U0 : List Nat) (hU : val U0 = m * 2 ^ s) (hl : U0.length = p + (t + 2) + 1) (hm : (digs m).length = p + (t + 2)) (hn : (digs n).length = t + 2) : val (U0.drop (p + 1)) < n * 2 ^ s := by
  have e1 : m < 4294967296 ^ (p + (t + 2)) := (lt_len_iff _ _).1 (by omega)
  have e2 : 4294967296 ^ (t + 1) ≤ n := by
    apply Nat.le_of_not_lt
    intro hlt
    have := (lt_len_iff n (t + 1)).2 hlt
    omega
  have e3 : 4294967296 ^ (p + 1) * 4294967296 ^ (t + 1) ≤ 4294967296 ^ (p + 1) * n := Nat.mul_le_mul_left _ e2
  rw [← Nat.pow_add, show p + 1 + (t + 1) = p + (t + 2) by omega] at e3
  have e4 : m * 2 ^ s < 4294967296 ^ (p + 1) * n * 2 ^ s := Nat.mul_lt_mul_of_pos_right (by omega) (Nat.pow_pos (by decide))
  have e5 := val_split U0 (p + 1) (by omega)
  rw [hU] at e5
  rw [Nat.mul_assoc] at e4
  have e6 : 4294967296 ^ (p + 1) * val (U0.drop (p + 1)) < 4294967296 ^ (p + 1) * (n * 2 ^ s) := by
    generalize (4294967296 : Nat) ^ (p + 1) * val (U0.drop (p + 1)) = x at *
    generalize (4294967296 : Nat) ^ (p + 1) * (n * 2 ^ s) = y at *
    omega
  exact Nat.lt_of_mul_lt_mul_left e6

theorem loop_start {w w1 w2 w3 : World} {k0 m n p t s cv cq : Nat} {U0 : List Nat} (okU : ok U0) (vU : val U0 = m * 2 ^ s) (hU : w1.ownsRow w.heap.size 59 1 (.slice (some ⟨w.heap.size, 0, none⟩) (p + (t + 2) + 1) cq) (p + (t + 2) + 1) (ws U0))
    (hcq : cq = p + (t + 2) + 1) (hV : w2.ownsRow w1.heap.size 59 1 (.slice (some ⟨w1.heap.size, 0, none⟩) (t + 2) cv) (t + 2) (ws (digs (n * 2 ^ s)))) (hQ : w3.ownsRow w.heap.size 59 1 (.slice (some ⟨w2.heap.size, 0, none⟩) (p + 1) (p + 1)) (p + 1) (ws (List.replicate (p + 1) 0)))
    (hm : (digs m).length = p + (t + 2)) (hn : (digs n).length = t + 2) (hVl : (digs (n * 2 ^ s)).length = t + 2)
    (b1 : Below w.heap.size (w.drewN k0) w1) (b2 : Below w1.heap.size w1 w2) (g3 : w2.grownBy w3 none) :
    Loop w w3 w.heap.size w1.heap.size w2.heap.size (p + (t + 2) + 1) p t cv (n * 2 ^ s) (m * 2 ^ s) (p + 1) U0 (List.replicate (p + 1) 0) ∧ w.heap.size < w1.heap.size ∧ w1.heap.size < w2.heap.size ∧ w2.heap.size < w3.heap.size := by
  subst hcq
  have l1 : w.heap.size < w1.heap.size := (hU.lt w.heap.size rfl).2
  have l2 : w1.heap.size < w2.heap.size := (hV.lt w1.heap.size rfl).2
  have l3 : w2.heap.size < w3.heap.size := (hQ.lt w2.heap.size rfl).2
  have b3 : Below w2.heap.size w2 w3 := (Below.refl _ _).grown g3 (Nat.le_refl _) (by simp)
  have bel1 : Below w.heap.size w w1 := ⟨b1.os, b1.tape, b1.output, b1.size, b1.block⟩
  refine ⟨⟨okU, ok_replicate _, ?_, hQ, ?_, rest_start m n p t s U0 vU (own_len hU) hm hn, ?_, ?_⟩, l1, l2, l3⟩
  · exact own_below (own_below hU b2 l1) b3 (by omega)
  · obtain ⟨A, c, e, R⟩ := own_rd (base := w1.heap.size) (w := w2) (v := .slice (some ⟨w1.heap.size, 0, none⟩) (t + 2) cv) (l := digs (n * 2 ^ s)) (by show w2.ownsRow _ _ 1 _ (digs (n * 2 ^ s)).length _; rw [hVl]; exact hV) (ok_digs _)
    injection e with e1 e2 e3
    subst e1 e3
    exact (R.below b3).more (by omega)
  · rw [List.drop_of_length_le (by simp)]
    simp [val, vU]
  · exact (bel1.trans (b2.mono (by omega))).trans (b3.mono (by omega))

set_option maxRecDepth 100000 in
set_option maxHeartbeats 4000000 in
theorem div_many (w : World) (A A' : Option Addr) (c c' m n t : Nat) (h : Rd w w.heap.size A c (digs m)) (h' : Rd w w.heap.size A' c' (digs n)) (hs : (digs m).length ≤ 1000000) (hn : (digs n).length = t + 2) (hle : n ≤ m) :
    Calls Tryz.prog 59 #[.slice A (digs m).length c, .slice A' (digs n).length c'] w (Divided w m n) := by
  have e := cmp_ge hle
  have hlen := len_mono hle
  obtain ⟨i0, hi, hz0, hz1, hz2⟩ := info_parts info_u32
  obtain ⟨ba, off, rfl, hba, hc⟩ := h'.cells (by omega)
  have c1 := hc (t + 1) (by omega)
  have hx := ok_getD (ok_digs n) (t + 1)
  have htop0 : (digs n).getD (t + 1) 0 ≠ 0 := by
    rcases nrm_digs n with h0 | h0
    · rw [h0] at hn; simp at hn
    · rwa [show (digs n).length - 1 = t + 1 by omega] at h0
  have z1 : (((digs n).length : Int) == 1) = false := beq_eq_false_iff_ne.2 (by omega)
  have i1 : ((digs n).length : Int) - 1 = (t : Int) + 1 := by omega
  have i2 : (t : Int) + 1 < ((digs n).length : Int) := by omega
  have HN := Lib.hid hn
  have HT := Lib.hid htop0
  clear hc hn htop0
  go_enter Tryz.func59, Tryz.ntmps59
  go_wp2_with fail
  refine (cmpWords_any w _ A _ c c' m n h h' (by omega) (by omega)).mono ?_
  rintro _ _ ⟨rfl, k0, rfl⟩
  generalize cmp m n = cv at *
  generalize hxt : (digs n).getD (t + 1) 0 = xt at *
  have HX := Lib.hid hxt
  clear hxt
  go_wp2_with fail
  refine (lz32 xt hx HT.out _).mono ?_
  rintro _ _ ⟨s, rfl, ⟨hs32, hs1, hs2⟩, rfl⟩
  go_wp2_with fail
  refine (shiftLeft_any _ A c s (digs m) (h.drewN k0) hs hs32).mono ?_
  rintro _ w1 ⟨U0, rfl, hU, okU, vU, bel1⟩
  have R1 := (h'.drewN k0).below bel1
  have HU := Lib.hid (And.intro hU (And.intro okU vU))
  have HB1 := Lib.hid bel1
  clear hU okU vU bel1
  go_wp2_with fail
  refine (shiftLeft_any _ (some ⟨ba, off, none⟩) c' s (digs n) (R1.more HB1.out.size) (by omega) hs32).mono ?_
  rintro _ w2 ⟨V0, rfl, hV, okV, vV, bel2⟩
  rw [val_digs] at vV
  have HV := Lib.hid (And.intro hV (And.intro okV vV))
  have HB2 := Lib.hid bel2
  clear hV okV vV bel2 R1
  go_wp2_with fail
  refine (trim_own w2 w1.heap.size w1.heap.size _ _ V0 _ HV.out.1 HV.out.2.1 (by omega) HV.out.2.2).mono ?_
  rintro _ _ ⟨rfl, hV2, rfl⟩
  obtain ⟨s1, s2, s3, s4⟩ := shifted n t s HN.out hs32 (by rw [HX.out]; exact hs1) (by rw [HX.out]; exact hs2)
  rw [s1] at hV2 ⊢
  obtain ⟨p, hp⟩ : ∃ p, (digs m).length = p + (digs n).length := ⟨(digs m).length - (digs n).length, by omega⟩
  have hp1 : ((digs m).length : Int) - ((digs n).length : Int) = (p : Int) := by omega
  have HP := Lib.hid (And.intro hp hp1)
  have HV2 := Lib.hid (And.intro hV2 (And.intro s2 (And.intro s3 s4)))
  have S1 := Lib.hid s1
  have hpb : p ≤ 1000000 := by omega
  clear hp hV2 s1 s2 s3 s4 HV
  go_wp2_with (refine wpList_make_full _ rfl _ _ 26 rfl w.heap.size 59 i0 _ 1 Tryz.underlying26 hi hz0 hz1 .i64 .i64 _ _ (p + 1) rfl rfl (by omega) (by omega) (by rw [hz2]; omega) (by unfold maxLen; omega) (by have := HB1.out.size; have := HB2.out.size; simp at *; omega) ?_; intro w3 hown hgrow)
  rw [zeros_made] at hown
  have hN : (digs m).length + 1 = p + (t + 2) + 1 := by have := HP.out.1; have := HN.out; omega
  obtain ⟨L0, l1, l2, l3⟩ := loop_start (w := w) (k0 := k0) (s := s) HU.out.2.1 (by rw [HU.out.2.2, val_digs]) (by rw [← hN]; exact HU.out.1) rfl HV2.out.1 hown (by have := HP.out.1; have := HN.out; omega) HN.out S1.out HB1.out HB2.out hgrow
  have Hst := Lib.hid L0
  have H3 := Lib.hid (And.intro l1 (And.intro l2 l3))
  clear L0 hown hgrow HU HB1 HB2 hx c1 l1 l2 l3 z1 i1 i2
  have HhN := Lib.hid hN
  clear hN
  rw [HhN.out]
  go_loopw [11] (fun i wr => ∃ (k : Nat) (z : Int) (X Q : List Nat), k ≤ p + 1 ∧ z = (k : Int) - 1 ∧ i = .int .i64 z ∧ Loop w wr w.heap.size w1.heap.size w2.heap.size (p + (t + 2) + 1) p t ((digs n).length + 1) (n * 2 ^ s) (m * 2 ^ s) k X Q)
      (fun i _ => (intOf i + 1).toNat)
  case atStart => exact ⟨p + 1, p, _, _, Nat.le_refl _, by omega, rfl, Hst.out⟩
  case round =>
    obtain ⟨k, z, X, Q, hk, hz, rfl, L⟩ := hrel
    obtain ⟨hm1, hm2, hm3⟩ := H3.out
    have okX := L.okX
    have okQ := L.okQ
    have hlX := own_len L.x
    have hlQ := own_len L.q
    have hm4 := (L.q.lt w2.heap.size rfl).2
    have hNb : p + (t + 2) + 1 ≤ 2000000 := by have := HhN.out; omega
    obtain ⟨sv2, sv3, sv4⟩ := HV2.out.2
    rcases Nat.eq_zero_or_pos k with h0 | h0
    · subst h0
      obtain rfl : z = -1 := by omega
      have HL := Lib.hid L
      clear L hz
      go_wp2_with fail
      refine (trim_own wr w.heap.size w2.heap.size _ _ Q _ HL.out.q okQ (by omega) rfl).mono ?_
      rintro _ _ ⟨rfl, own1, rfl⟩
      have H1 := Lib.hid own1
      clear own1
      go_wp2_with fail
      refine (trim_own wr w.heap.size w.heap.size _ _ X _ HL.out.x okX (by omega) rfl).mono ?_
      rintro _ _ ⟨rfl, own2, rfl⟩
      have hlen2 : (digs (val X)).length ≤ 1000000 := by
        have h1 := HL.out.rest
        rw [List.drop_zero] at h1
        have h2 := (lt_len_iff (val X) (t + 2)).2 (Nat.lt_trans h1 sv4)
        have := HN.out
        omega
      have H2 := Lib.hid own2
      clear own2
      go_wp2_with fail
      refine (shiftRight_any wr w.heap.size w.heap.size _ _ s (digs (val X)) H2.out (ok_digs _) hlen2 (by omega)).mono ?_
      rintro _ wz ⟨v, rfl, own3, gr3, _⟩
      have e1 := HL.out.eq
      have e2 := HL.out.rest
      have hbel := HL.out.bel.grown gr3 HL.out.bel.size (by simp)
      have own4 := own_grown H1.out gr3 (by omega)
      rw [List.drop_zero] at e2
      rw [List.drop_zero, Nat.pow_zero, Nat.one_mul] at e1
      obtain ⟨e3, e4⟩ := quot_done _ _ _ _ _ e1 e2
      rw [val_digs, e4] at own3
      rw [e3] at own4 ⊢
      have H4 := Lib.hid (And.intro own3 (And.intro own4 hbel))
      clear own3 own4 hbel e1 e2 e3 e4 gr3
      go_wp2_with fail
      go_ret2
      exact ⟨_, _, rfl, H4.out.2.1, H4.out.1, H4.out.2.2⟩
    · obtain ⟨j, rfl⟩ : ∃ j, k = j + 1 := ⟨k - 1, by omega⟩
      obtain rfl : z = (j : Int) := by omega
      obtain ⟨pv1, pv2, pv3⟩ := part_val X j t (n * 2 ^ s) okX (by omega) sv4 L.rest
      have HL := Lib.hid L
      have HPV := Lib.hid (And.intro pv1 (And.intro pv2 pv3))
      have HSV := Lib.hid (And.intro sv2 (And.intro sv3 sv4))
      clear L pv1 pv2 pv3 sv2 sv3 sv4 hz
      have htb : t ≤ 1000000 := by have := HN.out; omega
      have i4 : j + (t + 2) + 1 - j = t + 3 := by omega
      have i1 : (j : Int) ≤ (j : Int) + ((t : Int) + 2) + 1 := by omega
      have i2 : (j : Int) + ((t : Int) + 2) + 1 ≤ (p : Int) + ((t : Int) + 2) + 1 := by omega
      go_wp2_with fail
      refine (guess_any wr w.heap.size j _ w1.heap.size 0 _ t ((X.drop j).take (t + 3)) (digs (n * 2 ^ s)) (by simp; omega) S1.out (ok_take (ok_drop okX j) _) (ok_digs _) htb ?_ ?_ HSV.out.1 ?_).mono ?_
      · intro t' ht'
        rw [own_cell HL.out.x (j + t') (by omega), List.getD_eq_getElem?_getD, List.getD_eq_getElem?_getD, List.getElem?_take, if_pos (by omega), List.getElem?_drop]
      · intro t' ht'
        exact Rd_at HL.out.v t' (by rw [S1.out]; exact ht')
      · rw [HPV.out.1, val_digs]; exact HPV.out.2.1
      rintro _ _ ⟨d, rfl, ⟨d1, d2, d3⟩, k1, rfl⟩
      have HD := Lib.hid (And.intro d2 d3)
      clear d2 d3
      have i5 : j + (t + 3) = j + (t + 2) + 1 := by omega
      go_wp2_with fail
      refine (subtractProduct_any (wr.drewN k1) w.heap.size w.heap.size _ _ j (t + 2) _ d _ _ X (digs (n * 2 ^ s)) HL.out.x okX ((HL.out.v).drewN k1) (fun ad e _ => by injection e with e; subst e; show w1.heap.size ≠ w.heap.size; omega) S1.out (by omega) (by omega) d1).mono ?_
      rintro _ wx ⟨X', x, rfl, hx1, own1, okX', tk1, dr1, vv1, gr1⟩
      have hX' := own_len own1
      have hlt1 : val ((X'.drop j).take (t + 3)) < 4294967296 ^ (t + 3) := by
        have := val_lt (ok_take (ok_drop okX' j) (t + 3))
        rwa [show ((X'.drop j).take (t + 3)).length = t + 3 by simp; omega] at this
      rw [val_digs, HPV.out.1] at vv1
      rw [HPV.out.1, val_digs] at HD
      obtain rfl | rfl : x = 0 ∨ x = 1 := by omega
      · rw [Nat.mul_zero, Nat.add_zero] at vv1
        obtain ⟨dl1, dl2⟩ := digit_low _ _ _ _ vv1 HD.out.1
        have L' := loop_next (v := (d : Int)) HL.out hm1 hm2 hm4 (Nat.le_refl _) hk rfl own1 okX' tk1 dr1 rfl HPV.out.2.2 dl1 dl2 d1 gr1 rfl
        have HL' := Lib.hid L'
        have q1 := own_grown HL.out.q (show wr.grownBy wx _ from ⟨gr1.os, gr1.tape, gr1.output, gr1.size, gr1.block⟩) (by omega)
        have c1 := q1.frozenAt j
        have c2 := own_cell q1 j (by omega)
        clear L' dl1 dl2 own1 okX' tk1 dr1 vv1 gr1 hX' hlt1 q1
        go_wp2_with fail
        exact ⟨⟨j, _, _, _, by omega, rfl, rfl, HL'.out⟩, by simp [intOf] <;> omega⟩
      · rw [Nat.mul_one] at vv1
        obtain ⟨d', rfl⟩ : ∃ d', d = d' + 1 := ⟨d - 1, by
          have hne : d ≠ 0 := by
            rintro rfl
            rw [Nat.zero_mul, Nat.add_zero] at vv1
            exact absurd hlt1 (by rw [vv1]; exact Nat.not_lt.2 (Nat.le_add_left _ _))
          omega⟩
        have VV := Lib.hid (And.intro vv1 hlt1)
        clear vv1 hlt1
        have gr1' : wr.grownBy wx (some w.heap.size) := ⟨gr1.os, gr1.tape, gr1.output, gr1.size, gr1.block⟩
        have v2 := (Rd_grown HL.out.v gr1' (Nat.le_refl _) (fun ad e _ => by injection e with e; subst e; show w1.heap.size ≠ w.heap.size; omega)).more gr1'.size
        have G1 := Lib.hid (And.intro tk1 (And.intro dr1 (And.intro gr1 gr1')))
        have i6 : ((d' + 1 : Nat) : Int) - 1 = (d' : Int) := by omega
        have i7 : IntKind.u64.wrap (((d' + 1 : Nat) : Int) - 1) = (d' : Int) := by rw [i6]; show (d' : Int) % 18446744073709551616 = _; omega
        clear tk1 dr1 gr1 gr1'
        go_wp2_with fail
        refine (addBack_any wx w.heap.size w.heap.size _ _ j (t + 2) _ _ _ X' (digs (n * 2 ^ s)) own1 okX' v2 (fun ad e _ => by injection e with e; subst e; show w1.heap.size ≠ w.heap.size; omega) S1.out (by omega) (by omega)).mono ?_
        rintro _ wy ⟨X2, x2, rfl, own2, okX2, tk2, dr2, vv2, gr2⟩
        have hX2 := own_len own2
        have hlt2 : val ((X2.drop j).take (t + 3)) < 4294967296 ^ (t + 3) := by
          have := val_lt (ok_take (ok_drop okX2 j) (t + 3))
          rwa [show ((X2.drop j).take (t + 3)).length = t + 3 by simp; omega] at this
        rw [val_digs] at vv2
        obtain ⟨d3, e3, dl1, dl2⟩ := digit_back _ _ _ _ _ _ _ VV.out.1 VV.out.2 vv2 hlt2 HD.out.2 (Nat.le_trans (Nat.le_of_lt HSV.out.2.2) (Nat.pow_le_pow_right (by decide) (by omega)))
        obtain rfl : d3 = d' := by omega
        have gr3 : (wr.drewN k1).grownBy wy (some w.heap.size) := G1.out.2.2.1.trans gr2
        have L' := loop_next (v := (d3 : Int)) HL.out hm1 hm2 hm4 (Nat.le_refl _) hk rfl own2 okX2 (tk2.trans G1.out.1) (dr2.trans G1.out.2.1) rfl HPV.out.2.2 dl1 dl2 (by omega) gr3 rfl
        have HL' := Lib.hid L'
        have q1 := own_grown HL.out.q (show wr.grownBy wy _ from ⟨gr3.os, gr3.tape, gr3.output, gr3.size, gr3.block⟩) (by omega)
        have c1 := q1.frozenAt j
        have c2 := own_cell q1 j (by omega)
        have d4 : d3 < 4294967296 := by omega
        clear L' dl1 dl2 own1 own2 okX' okX2 tk2 dr2 vv2 gr2 gr3 hX' hX2 hlt2 q1 v2 e3
        go_wp2_with fail
        exact ⟨⟨j, _, _, _, by omega, rfl, rfl, HL'.out⟩, by simp [intOf] <;> omega⟩

/-- divWords divides. -/
theorem divWords_any (w : World) (A A' : Option Addr) (c c' m n : Nat) (h : Rd w w.heap.size A c (digs m)) (h' : Rd w w.heap.size A' c' (digs n)) (hs : (digs m).length ≤ 1000000) (hs' : (digs n).length ≤ 1000000) (h0 : n ≠ 0) :
    Calls Tryz.prog 59 #[.slice A (digs m).length c, .slice A' (digs n).length c'] w (Divided w m n) := by
  by_cases hlt : m < n
  · exact div_less w A A' c c' m n h h' hs hs' hlt
  · by_cases h1 : (digs n).length = 1
    · exact div_one w A A' c c' m n h h' hs h1 (by omega)
    · have h2 : (digs n).length ≠ 0 := fun e => h0 (digs_len_zero.1 e)
      exact div_many w A A' c c' m n ((digs n).length - 2) h h' hs (by omega) (by omega)

end Go.Proofs.YtbeidpeoichakaaGreatDoor.fr
