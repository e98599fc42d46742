/- Which texts are decimals, and their values: there is one answer, and it is small. -/
import Derived.Test.YtfnfnagdecpobaaDoorPg
import Derived.Test.YtfnfnagdecpobaaDoorQa
set_option linter.unusedSimpArgs false
namespace Go.Proofs.YtfnfnagdecpobaaDoor.qb
open Go.RowKit Go.Proofs.YtfnfnagdecpobaaDoor.fm Go.Proofs.YtfnfnagdecpobaaDoor.mem Go.Proofs.YtfnfnagdecpobaaDoor.fu Go.Proofs.YtfnfnagdecpobaaDoor.fv Go.Proofs.YtfnfnagdecpobaaDoor.fw Go.Proofs.YtfnfnagdecpobaaDoor.fy Go.Proofs.YtfnfnagdecpobaaDoor.fz Go.Proofs.YtfnfnagdecpobaaDoor.gb Go.Proofs.YtfnfnagdecpobaaDoor.gc Go.Proofs.YtfnfnagdecpobaaDoor.ge Go.Proofs.YtfnfnagdecpobaaDoor.he Go.Proofs.YtfnfnagdecpobaaDoor.jh Go.Proofs.YtfnfnagdecpobaaDoor.pd Go.Proofs.YtfnfnagdecpobaaDoor.pf Go.Proofs.YtfnfnagdecpobaaDoor.pg

theorem first_unique {l : List UInt8} {k j : Nat} (hk : l[k]? = some 46) (nk : (46 : UInt8) ∉ l.take k) (hj : l[j]? = some 46) (nj : (46 : UInt8) ∉ l.take j) : k = j := by
  rcases Nat.lt_trichotomy k j with h | h | h
  · exact absurd (List.mem_of_getElem? (i := k) (by rw [List.getElem?_take, if_pos h]; exact hk)) nj
  · exact h
  · exact absurd (List.mem_of_getElem? (i := j) (by rw [List.getElem?_take, if_pos h]; exact hj)) nk

theorem cut_unique {s f b f' b' : ByteArray} {p p' : Bool} (h : CutAns s f b p) (h' : CutAns s f' b' p') : f = f' ∧ b = b' ∧ p = p' := by
  rcases h with ⟨rfl, rfl, rfl, hn⟩ | ⟨rfl, k, hk, h1, h2, rfl, rfl⟩
  · rcases h' with ⟨rfl, rfl, rfl, _⟩ | ⟨_, j, _, g1, _, _, _⟩
    · exact ⟨rfl, rfl, rfl⟩
    · exact absurd (List.mem_of_getElem? g1) hn
  · rcases h' with ⟨_, _, _, hn⟩ | ⟨rfl, j, hj, g1, g2, rfl, rfl⟩
    · exact absurd (List.mem_of_getElem? h1) hn
    · obtain rfl := first_unique h1 h2 g1 g2
      exact ⟨rfl, rfl, rfl⟩

theorem dec_unique {s : ByteArray} {o o' : Bool} {z z' : Int} {d d' : Nat} (h : DecIs s o z d) (h' : DecIs s o' z' d') : o = o' ∧ z = z' ∧ d = d' := by
  rcases h with ⟨hs, rfl, rfl, rfl⟩ | ⟨hs, f, b, p, hc, ho, h0, h1⟩
  · rcases h' with ⟨_, rfl, rfl, rfl⟩ | ⟨hs', _⟩
    · exact ⟨rfl, rfl, rfl⟩
    · omega
  · rcases h' with ⟨hs', _⟩ | ⟨_, f', b', p', hc', ho', h0', h1'⟩
    · omega
    · obtain ⟨rfl, rfl, rfl⟩ := cut_unique hc hc'
      have e : o = o' := ho.trans ho'.symm
      subst e
      cases o with
      | false => exact ⟨rfl, (h0 rfl).1.trans (h0' rfl).1.symm, (h0 rfl).2.trans (h0' rfl).2.symm⟩
      | true => exact ⟨rfl, (h1 rfl).1.trans (h1' rfl).1.symm, (h1 rfl).2.trans (h1' rfl).2.symm⟩

theorem nat_small {n m : Nat} (hm : m < 10000000000000000000000000) (h : n ≤ m) : (digs n).length ≤ 10 := Nat.le_trans (len_small (Nat.lt_of_le_of_lt h hm)) (by decide)

theorem sgnd_div_abs (n : Bool) (V g : Nat) : ((sgnd n V).tdiv (g : Int)).natAbs ≤ V := by
  rw [sgnd_tdiv, sgnd_nabs]
  exact Nat.div_le_self _ _

theorem dec_little {s : ByteArray} {o : Bool} {z : Int} {d : Nat} (h : DecIs s o z d) : (digs z.natAbs).length ≤ 10 ∧ (digs d).length ≤ 10 := by
  have hz : (digs 0).length ≤ 10 := by rw [digs_zero]; decide
  rcases h with ⟨_, _, rfl, rfl⟩ | ⟨_, f, b, p, hc, ho, h0, h1⟩
  · exact ⟨hz, hz⟩
  · cases o with
    | false =>
      obtain ⟨rfl, rfl⟩ := h0 rfl
      exact ⟨hz, hz⟩
    | true =>
      have hb : isNum f 15 = true ∧ (p = true → isNum b 9 = true) := by
        have h2 := ho.symm
        rw [Bool.and_eq_true] at h2
        refine ⟨h2.1, fun hp => ?_⟩
        have h3 := h2.2
        rw [hp] at h3
        simpa using h3
      obtain ⟨f1, f2⟩ := num_all hb.1
      have hbb : b.data.toList.all dig = true ∧ b.size ≤ 9 := by
        rcases hc with ⟨_, _, rfl, _⟩ | ⟨hp, _⟩
        · exact ⟨rfl, by decide⟩
        · exact num_all (hb.2 hp)
      have e1 : dval f.data.toList < 10 ^ 15 := Nat.lt_of_lt_of_le (dval_lt _ f1) (Nat.pow_le_pow_right (by decide) (by rw [data_len]; exact f2))
      have e2 : dval b.data.toList < 10 ^ 9 := Nat.lt_of_lt_of_le (dval_lt _ hbb.1) (Nat.pow_le_pow_right (by decide) (by rw [data_len]; exact hbb.2))
      have e3 : 10 ^ b.size ≤ 10 ^ 9 := Nat.pow_le_pow_right (by decide) hbb.2
      obtain ⟨rfl, rfl⟩ := h1 rfl
      have e4 : dval f.data.toList * 10 ^ b.size ≤ 10 ^ 15 * 10 ^ 9 := Nat.mul_le_mul (Nat.le_of_lt e1) e3
      refine ⟨nat_small ?_ (sgnd_div_abs _ _ _), nat_small ?_ (Nat.div_le_self _ _)⟩
      · generalize dval f.data.toList * 10 ^ b.size = A at *
        omega
      · omega

end Go.Proofs.YtfnfnagdecpobaaDoor.qb
