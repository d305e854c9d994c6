/-
  Parts of windows that are made of others.
-/
import Derived.Test.YtlnpnfjdcnijhaaBp
namespace Go.Proofs.Ytlnpnfjdcnijhaa
set_option linter.unusedVariables false
set_option linter.unusedSimpArgs false
namespace M
theorem len_not {x z : Wn} (h : winB x 60 = true) (hz : NotIs x z) {p : Nat} (hp : x.p = (p : Int)) : z.hs.length + x.hs.length = p := by
  obtain ⟨p', hp', h1, h2, hg⟩ := win_nat h
  have e : p' = p := by rw [hp] at hp'; omega
  subst e
  have e2 := notR_eq (win_more h (by omega)) hp
  rw [hz.ret] at e2
  injection e2 with e2 _
  have := cnt_not (fun j => opB x (j : Nat)) p'
  rw [hrsL_self hp h1 hg] at this
  rw [e2]; exact this
theorem len_both {x y z1 z2 : Wn} (h : winB x 60 = true) (h' : winB y 60 = true) (hz1 : BothIs x y z1) (hz2 : EithIs x y z2) {p q : Nat} (hp : x.p = (p : Int)) (hq : y.p = (q : Int)) :
    ∃ s t : Nat, mulN p q = s * p ∧ mulN p q = t * q ∧ z1.p = ((mulN p q : Nat) : Int) ∧ z2.p = ((mulN p q : Nat) : Int) ∧ z1.hs.length + z2.hs.length = s * x.hs.length + t * y.hs.length ∧ (Nat.gcd p q = 1 → mulN p q = p * q ∧ z1.hs.length = x.hs.length * y.hs.length) := by
  obtain ⟨p', hp', h1, h2, hg⟩ := win_nat h
  have e : p' = p := by rw [hp] at hp'; omega
  subst e
  obtain ⟨q', hq', h3, h4, hg'⟩ := win_nat h'
  have e : q' = q := by rw [hq] at hq'; omega
  subst e
  obtain ⟨s, hs⟩ := dvd_mulN_left p' q'
  obtain ⟨t, ht⟩ := dvd_mulN_right p' q'
  have e1 := bothR_eq h h' hp hq
  rw [hz1.ret] at e1
  injection e1 with e1 _
  have e2 := eithR_eq h h' hp hq
  rw [hz2.ret] at e2
  injection e2 with e2 _
  refine ⟨s, t, by rw [hs, Nat.mul_comm], by rw [ht, Nat.mul_comm], by rw [e1], by rw [e2], ?_, fun hgc => ?_⟩
  · have a := cnt_or (fun j => opB x (j : Nat)) (fun j => opB y (j : Nat)) (mulN p' q')
    have b := cnt_per (opB_perM hp) s
    have c := cnt_per (opB_perM hq) t
    rw [hrsL_self hp h1 hg] at b
    rw [hrsL_self hq h3 hg'] at c
    rw [show s * p' = mulN p' q' by rw [hs, Nat.mul_comm]] at b
    rw [show t * q' = mulN p' q' by rw [ht, Nat.mul_comm]] at c
    rw [e1, e2]
    simp only [] at a ⊢
    omega
  · have hm : mulN p' q' = p' * q' := by unfold mulN; rw [hgc, Nat.div_one]
    refine ⟨hm, ?_⟩
    have a := cnt_both (opB_perM hp) (opB_perM hq) h3 hgc
    rw [hrsL_self hp h1 hg, hrsL_self hq h3 hg'] at a
    rw [e1, hm]; exact a
/-- What the law asks of the parts. -/
structure Prts (aN aD bN bD cN cD dN dD xN xD p q : Nat) : Prop where
  one : aN * cD + cN * aD = aD * cD
  two : (dN * xD + xN * dD) * aD * bD = (aN * bD + bN * aD) * dD * xD
  co : Nat.gcd p q = 1 → dN * aD * bD = aN * bN * dD
theorem prts {x y z1 z2 n1 : Wn} {aN aD bN bD cN cD dN dD xN xD p q : Nat} (h : winB x 60 = true) (h' : winB y 60 = true) (hz1 : BothIs x y z1) (hz2 : EithIs x y z2) (hn : NotIs x n1) (hp : x.p = (p : Int)) (hq : y.p = (q : Int))
    (ha : PartIs x aN aD) (hb : PartIs y bN bD) (hc : PartIs n1 cN cD) (hd : PartIs z1 dN dD) (hx : PartIs z2 xN xD) : Prts aN aD bN bD cN cD dN dD xN xD p q := by
  obtain ⟨s, t, m1, m2, k1, k2, k3, k4⟩ := len_both h h' hz1 hz2 hp hq
  have ln := len_not h hn hp
  have a := ha.eq p hp
  have b := hb.eq q hq
  have c := hc.eq p (by rw [hn.p, hp])
  have d := hd.eq _ k1
  have e := hx.eq _ k2
  obtain ⟨⟨h1, _⟩, _⟩ := winB_iff.1 h
  obtain ⟨⟨h2, _⟩, _⟩ := winB_iff.1 h'
  have hp1 : 0 < p := by omega
  have hq1 : 0 < q := by omega
  have hm1 : 0 < mulN p q := by have := mulN_pos (show 1 ≤ p by omega) (show 1 ≤ q by omega); omega
  generalize mulN p q = m at *
  generalize x.hs.length = lx at *
  generalize y.hs.length = ly at *
  generalize z1.hs.length = l1 at *
  generalize z2.hs.length = l2 at *
  generalize n1.hs.length = lc at *
  refine ⟨?_, ?_, fun hgc => ?_⟩
  · refine Nat.eq_of_mul_eq_mul_left hp1 ?_
    have : p * (aN * cD + cN * aD) = (aN * p) * cD + (cN * p) * aD := by grind
    rw [this, a, c, ← ln]; grind
  · refine Nat.eq_of_mul_eq_mul_left hm1 ?_
    have e1 : m * ((dN * xD + xN * dD) * aD * bD) = ((dN * m) * xD + (xN * m) * dD) * aD * bD := by grind
    have e2 : m * ((aN * bD + bN * aD) * dD * xD) = (aN * m * bD + bN * m * aD) * dD * xD := by grind
    have e3 : aN * m = s * (aN * p) := by rw [m1]; grind
    have e4 : bN * m = t * (bN * q) := by rw [m2]; grind
    rw [e1, e2, d, e, e3, e4, a, b]
    have e5 : (dD * l1 * xD + xD * l2 * dD) * aD * bD = dD * xD * aD * bD * (l1 + l2) := by grind
    rw [e5, k3]; grind
  · obtain ⟨k5, k6⟩ := k4 hgc
    refine Nat.eq_of_mul_eq_mul_left hm1 ?_
    have e1 : m * (dN * aD * bD) = (dN * m) * aD * bD := by grind
    have e2 : m * (aN * bN * dD) = (aN * p) * (bN * q) * dD := by rw [k5]; grind
    rw [e1, e2, d, a, b, k6]; grind
/-- No number up to 60 divides both periods. -/
theorem cop_of {p q : Nat} (hp : 1 ≤ p ∧ p ≤ 60) (h : ∀ j, 2 ≤ j → j < 61 → ¬ (p % j = 0 ∧ q % j = 0)) : Nat.gcd p q = 1 := by
  have h1 : 1 ≤ Nat.gcd p q := Nat.gcd_pos_of_pos_left _ (by omega)
  have h2 : Nat.gcd p q ≤ p := Nat.gcd_le_left _ (by omega)
  rcases Nat.lt_or_ge (Nat.gcd p q) 2 with h3 | h3
  · omega
  · exact absurd ⟨Nat.mod_eq_zero_of_dvd (Nat.gcd_dvd_left p q), Nat.mod_eq_zero_of_dvd (Nat.gcd_dvd_right p q)⟩ (h _ h3 (by omega))
end M
end Go.Proofs.Ytlnpnfjdcnijhaa
