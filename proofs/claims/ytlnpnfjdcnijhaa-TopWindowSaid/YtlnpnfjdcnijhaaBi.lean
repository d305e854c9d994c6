/-
  What windows that are made of others are: when they are open, that they are valid; a window in a variable.
-/
import Derived.Test.YtlnpnfjdcnijhaaBh
import Derived.Test.YtlnpnfjdcnijhaaU
namespace Go.Proofs.Ytlnpnfjdcnijhaa
open Go.RowKit Go.Deep M
set_option linter.unusedVariables false
set_option linter.unusedSimpArgs false
namespace M
theorem win_nat {x : Wn} {most : Int} (h : winB x most = true) : ∃ p : Nat, x.p = (p : Int) ∧ 1 ≤ p ∧ (p : Int) ≤ most ∧ Gds x x.hs.length := by
  obtain ⟨⟨h1, h2⟩, h3⟩ := winB_iff.1 h
  obtain ⟨p, hp⟩ := Int.eq_ofNat_of_zero_le (show 0 ≤ x.p by omega)
  exact ⟨p, hp, by omega, by omega, h3⟩
theorem win_len {x : Wn} {most : Int} (h : winB x most = true) (hm : most ≤ 4000) : x.hs.length ≤ 4000 := by
  obtain ⟨p, h1, h2, h3, h4⟩ := win_nat h
  have := len_le h1 h4
  omega
theorem notR_eq {x : Wn} (h : winB x 3600 = true) {p : Nat} (hp : x.p = (p : Int)) : notR x = (⟨(p : Nat), hrsL (fun j => !opB x (j : Nat)) p⟩, 0) := by
  unfold notR; rw [if_pos h, hp, Int.toNat_natCast]
theorem bothR_eq {x y : Wn} (h : winB x 60 = true) (h' : winB y 60 = true) {p q : Nat} (hp : x.p = (p : Int)) (hq : y.p = (q : Int)) : bothR x y = (⟨(mulN p q : Nat), hrsL (fun j => opB x (j : Nat) && opB y (j : Nat)) (mulN p q)⟩, 0) := by
  unfold bothR; rw [h, h', hp, hq, Int.toNat_natCast, Int.toNat_natCast]; simp
theorem eithR_eq {x y : Wn} (h : winB x 60 = true) (h' : winB y 60 = true) {p q : Nat} (hp : x.p = (p : Int)) (hq : y.p = (q : Int)) : eithR x y = (⟨(mulN p q : Nat), hrsL (fun j => opB x (j : Nat) || opB y (j : Nat)) (mulN p q)⟩, 0) := by
  unfold eithR; rw [h, h', hp, hq, Int.toNat_natCast, Int.toNat_natCast]; simp
theorem mul_60 {x y : Wn} (h : winB x 60 = true) (h' : winB y 60 = true) {p q : Nat} (hp : x.p = (p : Int)) (hq : y.p = (q : Int)) : 1 ≤ mulN p q ∧ mulN p q ≤ 3600 := by
  obtain ⟨⟨h1, h2⟩, _⟩ := winB_iff.1 h
  obtain ⟨⟨h3, h4⟩, _⟩ := winB_iff.1 h'
  have a1 := mulN_pos (show 1 ≤ p by omega) (show 1 ≤ q by omega)
  have a2 := mulN_le p q
  have a3 : p * q ≤ 60 * 60 := Nat.mul_le_mul (by omega) (by omega)
  omega
/-- The window that is open when another one is not. -/
structure NotIs (x z : Wn) : Prop where
  ret : notR x = (z, 0)
  p : z.p = x.p
  op : opB z = fun h => !opB x h
  win : ∀ most, winB x most = true → winB z most = true
theorem notIs {x : Wn} (h : winB x 3600 = true) : NotIs x (notR x).1 := by
  obtain ⟨p, hp, h1, h2, hg⟩ := win_nat h
  have e := notR_eq h hp
  refine ⟨by rw [e], by rw [e, hp], ?_, fun most hm => ?_⟩
  · rw [e]
    funext z
    exact hrsL_op (f := fun z => !opB x z) h1 (opB_perM hp).not z
  · rw [e]
    obtain ⟨⟨_, h4⟩, _⟩ := winB_iff.1 hm
    exact hrsL_win h1 (by omega)
structure BothIs (x y z : Wn) : Prop where
  ret : bothR x y = (z, 0)
  op : opB z = fun h => opB x h && opB y h
  win : winB z 3600 = true
theorem bothIs {x y : Wn} (h : winB x 60 = true) (h' : winB y 60 = true) : BothIs x y (bothR x y).1 := by
  obtain ⟨p, hp, h1, h2, hg⟩ := win_nat h
  obtain ⟨q, hq, h3, h4, hg'⟩ := win_nat h'
  have e := bothR_eq h h' hp hq
  obtain ⟨m1, m2⟩ := mul_60 h h' hp hq
  refine ⟨by rw [e], ?_, ?_⟩
  · rw [e]
    funext z
    exact hrsL_op (f := fun z => opB x z && opB y z) m1 (((opB_perM hp).dvd (dvd_mulN_left p q)).and ((opB_perM hq).dvd (dvd_mulN_right p q))) z
  · rw [e]; exact hrsL_win m1 (by omega)
structure EithIs (x y z : Wn) : Prop where
  ret : eithR x y = (z, 0)
  op : opB z = fun h => opB x h || opB y h
  win : winB z 3600 = true
theorem eithIs {x y : Wn} (h : winB x 60 = true) (h' : winB y 60 = true) : EithIs x y (eithR x y).1 := by
  obtain ⟨p, hp, h1, h2, hg⟩ := win_nat h
  obtain ⟨q, hq, h3, h4, hg'⟩ := win_nat h'
  have e := eithR_eq h h' hp hq
  obtain ⟨m1, m2⟩ := mul_60 h h' hp hq
  refine ⟨by rw [e], ?_, ?_⟩
  · rw [e]
    funext z
    exact hrsL_op (f := fun z => opB x z || opB y z) m1 (((opB_perM hp).dvd (dvd_mulN_left p q)).or ((opB_perM hq).dvd (dvd_mulN_right p q))) z
  · rw [e]; exact hrsL_win m1 (by omega)
/-- Not of not is the window. -/
theorem not_not {x z : Wn} (h : winB x 3600 = true) (hz : NotIs x z) : (notR z).1 = x := by
  obtain ⟨p, hp, h1, h2, hg⟩ := win_nat h
  have hzw := hz.win 3600 h
  have hzp : z.p = (p : Int) := by rw [hz.p, hp]
  rw [notR_eq hzw hzp]
  have : hrsL (fun j => !opB z (j : Nat)) p = x.hs := by
    rw [← hrsL_self hp h1 hg]
    exact hrsL_congr fun j _ => by rw [hz.op]; simp
  rw [this, ← hp]
/-- Not of one of two is both of not. -/
theorem neither {x y z n1 n2 : Wn} (h : winB x 60 = true) (h' : winB y 60 = true) (hz : EithIs x y z) (hn1 : NotIs x n1) (hn2 : NotIs y n2) : (notR z).1 = (bothR n1 n2).1 := by
  obtain ⟨p, hp, h1, h2, hg⟩ := win_nat h
  obtain ⟨q, hq, h3, h4, hg'⟩ := win_nat h'
  have e := eithR_eq h h' hp hq
  rw [hz.ret] at e
  injection e with e _
  have hzp : z.p = ((mulN p q : Nat) : Int) := by rw [e]
  rw [notR_eq hz.win hzp, bothR_eq (hn1.win 60 h) (hn2.win 60 h') (show n1.p = (p : Int) by rw [hn1.p, hp]) (show n2.p = (q : Int) by rw [hn2.p, hq])]
  have : hrsL (fun j => !opB z (j : Nat)) (mulN p q) = hrsL (fun j => opB n1 (j : Nat) && opB n2 (j : Nat)) (mulN p q) := hrsL_congr fun j _ => by
    rw [hz.op, hn1.op, hn2.op]; simp
  rw [this]
theorem eqW_self (z : Wn) : eqW z.p z.hs z.p z.hs = true := by unfold eqW; simp
theorem same_self {z : Wn} (h : winB z 3600 = true) : sameR z z = (true, 0) := by unfold sameR; rw [h]; simp [eqW_self]
end M

/-- A window in a variable. -/
def Bw (X : World) (b : Nat) (x : Wn) (A : Option Addr) (c : Nat) : Prop := BxW X b x.p A x.hs.length c ∧ Row X X.heap.size A x.hs
theorem Bw.up {X Y : World} {b : Nat} {x : Wn} {A : Option Addr} {c : Nat} (h : Bw X b x A c) (hb : Below X.heap.size X Y) : Bw Y b x A c := ⟨h.1.up hb, h.2.up hb⟩
theorem Bw.new {X : World} {x : Wn} {A : Option Addr} (c : Nat) (h : Row X X.heap.size A x.hs) : Bw (X.alloc (.cells #[.int .i64 x.p, .slice A x.hs.length c] 24)) X.heap.size x A c := ⟨BxW.new X x.p A x.hs.length c, h.up (ba1 _ _)⟩
theorem Bw.c0 {X : World} {b : Nat} {x : Wn} {A : Option Addr} {c : Nat} (h : Bw X b x A c) : X.cell? ⟨b, 0, none⟩ = some (.int .i64 x.p) := h.1.c0
theorem Bw.c1 {X : World} {b : Nat} {x : Wn} {A : Option Addr} {c : Nat} (h : Bw X b x A c) : X.cell? ⟨b, 1, none⟩ = some (.slice A x.hs.length c) := h.1.c1
/-- What was called behind what was there. -/
theorem bel_trans {w X Y : World} (h : Below w.heap.size w X) (hb : Below X.heap.size X Y) : Below w.heap.size w Y := h.trans (hb.mono h.size)

/-- What a call that hands back a window leaves. -/
def Got (X : World) (z : Wn) (e : Ending) (Y : World) : Prop := ∃ A c, e = .returned (.tuple #[.agg #[.int .i64 z.p, .slice A z.hs.length c], .int .i64 0]) ∧ Below X.heap.size X Y ∧ Row Y Y.heap.size A z.hs
theorem not_call {X : World} {b c : Nat} {x z : Wn} {A : Option Addr} (h : Bw X b x A c) (hz : NotIs x z) : Calls Try.prog 33 #[.agg #[.int .i64 x.p, .slice A x.hs.length c]] X (Got X z) := by
  have := Not_any X.heap.size A c x X h.2 (Nat.le_refl _)
  rw [hz.ret] at this
  exact this.mono fun e Y ⟨A, c, he, hb, hr, _⟩ => ⟨A, c, he, hb, hr⟩
theorem both_call {X : World} {b c b' c' : Nat} {x y z : Wn} {A A' : Option Addr} (h : Bw X b x A c) (h' : Bw X b' y A' c') (hz : BothIs x y z) : Calls Try.prog 28 #[.agg #[.int .i64 x.p, .slice A x.hs.length c], .agg #[.int .i64 y.p, .slice A' y.hs.length c']] X (Got X z) := by
  have := Both_any X.heap.size A A' c c' x y X h.2 h'.2 (Nat.le_refl _)
  rw [hz.ret] at this
  exact this.mono fun e Y ⟨A, c, he, hb, hr, _⟩ => ⟨A, c, he, hb, hr⟩
theorem eith_call {X : World} {b c b' c' : Nat} {x y z : Wn} {A A' : Option Addr} (h : Bw X b x A c) (h' : Bw X b' y A' c') (hz : EithIs x y z) : Calls Try.prog 30 #[.agg #[.int .i64 x.p, .slice A x.hs.length c], .agg #[.int .i64 y.p, .slice A' y.hs.length c']] X (Got X z) := by
  have := Either_any X.heap.size A A' c c' x y X h.2 h'.2 (Nat.le_refl _)
  rw [hz.ret] at this
  exact this.mono fun e Y ⟨A, c, he, hb, hr, _⟩ => ⟨A, c, he, hb, hr⟩
theorem plain_call {X : World} {b c : Nat} {x : Wn} {A : Option Addr} (h : Bw X b x A c) (hv : winB x 3600 = true) : Calls Try.prog 37 #[.agg #[.int .i64 x.p, .slice A x.hs.length c]] X (Got X (plW x)) := by
  have := Plain_any X.heap.size A c x X h.2 (Nat.le_refl _)
  unfold plainR at this
  rw [if_pos hv] at this
  exact this.mono fun e Y ⟨A, c, he, hb, hr, _⟩ => ⟨A, c, he, hb, hr⟩
theorem same_call {X : World} {b c b' c' : Nat} {x y : Wn} {A A' : Option Addr} (h : Bw X b x A c) (h' : Bw X b' y A' c') {r : Bool} (hr : sameR x y = (r, 0)) : Calls Try.prog 39 #[.agg #[.int .i64 x.p, .slice A x.hs.length c], .agg #[.int .i64 y.p, .slice A' y.hs.length c']] X fun e Y => e = .returned (.tuple #[.bool r, .int .i64 0]) ∧ Below X.heap.size X Y := by
  have := Same_any X.heap.size A A' c c' x y X h.2 h'.2 (Nat.le_refl _)
  rw [hr] at this
  exact this
theorem equal_call {X : World} {b c b' c' : Nat} {x y : Wn} {A A' : Option Addr} (h : Bw X b x A c) (h' : Bw X b' y A' c') : Calls Try.prog 32 #[.agg #[.int .i64 x.p, .slice A x.hs.length c], .agg #[.int .i64 y.p, .slice A' y.hs.length c']] X fun e Y => e = .returned (.bool (eqW x.p x.hs y.p y.hs)) ∧ Below X.heap.size X Y :=
  Equal_gen X.heap.size A A' c c' x.p y.p x.hs y.hs X h.2 h'.2 (Nat.le_refl _)
theorem opens_call {X : World} {b c : Nat} {x : Wn} {A : Option Addr} {hour : Int} (h : Bw X b x A c) (hv : winB x 3600 = true) (h0 : 0 ≤ hour) (h9 : hour ≤ 1000000000) {q : Bool} (hq : opB x hour = q) : Calls Try.prog 57 #[.agg #[.int .i64 x.p, .slice A x.hs.length c], .int .i64 hour] X fun e Y => e = .returned (.tuple #[.bool q, .bool true]) ∧ Below X.heap.size X Y := by
  have := opens_any X.heap.size A c x hour X h.2 (Nat.le_refl _)
  rw [open_true hv h0 h9, hq] at this
  exact this
theorem widelaw_call {X : World} {b c : Nat} {x : Wn} {A : Option Addr} (h : Bw X b x A c) (hl : x.hs.length ≤ 4000) : Calls Try.prog 18 #[.agg #[.int .i64 x.p, .slice A x.hs.length c]] X fun e Y => e = .returned (.bool false) ∧ Below X.heap.size X Y := by
  have := wide_law A c x.hs.length x.p X h.2.1
  rw [decide_eq_false (show ¬ 4000 < x.hs.length by omega)] at this
  exact this
theorem valid_call {X : World} {b c : Nat} {x : Wn} {A : Option Addr} (h : Bw X b x A c) : Calls Try.prog 25 #[.agg #[.int .i64 x.p, .slice A x.hs.length c]] X fun e Y => e = .returned (.bool (winB x 60)) ∧ Below X.heap.size X Y :=
  Valid_ref X.heap.size A c x X h.2 (Nat.le_refl _)
theorem wideref_call {X : World} {b c : Nat} {x : Wn} {A : Option Addr} (h : Bw X b x A c) : Calls Try.prog 58 #[.agg #[.int .i64 x.p, .slice A x.hs.length c]] X fun e Y => e = .returned (.bool (winB x 3600)) ∧ Below X.heap.size X Y :=
  Wide_ref X.heap.size A c x X h.2 (Nat.le_refl _)
end Go.Proofs.Ytlnpnfjdcnijhaa
