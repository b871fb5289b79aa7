import PyProof.Rows.All
import Wide.All
import OpenK.AllK
import Wide.FinOn
import PySem.Challenge.RW_poolmarks_k03_whole_fraction_arithmetic
import HandS.ForMost
import HandS.Wide
import HandS.NoneIn
import HandS.Style
set_option Elab.async false
set_option linter.all false
set_option maxRecDepth 100000
namespace Fr
/-! fractions as pairs of ints in lowest terms; their values as rationals -/
def IsF (x : Int × Int) : Prop := 0 < x.2 ∧ Int.gcd x.1 x.2 = 1
def val (x : Int × Int) : Rat := (x.1 : Rat) / (x.2 : Rat)
def red (n d : Int) : Int × Int := (n / (Int.gcd n d : Int), d / (Int.gcd n d : Int))
theorem gcd_pos {n d : Int} (hd : d ≠ 0) : 0 < (Int.gcd n d : Int) := by
  have := Int.gcd_pos_of_ne_zero_right n hd
  omega
theorem red_isF {n d : Int} (hd : 0 < d) : IsF (red n d) := by
  have hg := Int.gcd_pos_of_ne_zero_right n (show d ≠ 0 by omega)
  refine ⟨?_, ?_⟩
  · exact Int.ediv_pos_of_pos_of_dvd hd (by omega) (Int.gcd_dvd_right _ _)
  · show Int.gcd (n / (Int.gcd n d : Int)) (d / (Int.gcd n d : Int)) = 1
    have e := Int.gcd_ediv (a := n) (b := d) (c := (Int.gcd n d : Int)) (Int.gcd_dvd_left _ _) (Int.gcd_dvd_right _ _)
    rw [e, Int.natAbs_natCast]
    exact Nat.div_self hg
theorem cast_ne {d : Int} (h : d ≠ 0) : (d : Rat) ≠ 0 := fun e => h (Rat.intCast_inj.mp (by rw [e]; rfl))
theorem cast_pos {d : Int} (h : 0 < d) : (0 : Rat) < (d : Rat) := Rat.intCast_lt_intCast.mpr h
theorem red_mul1 (n d : Int) : (red n d).1 * (Int.gcd n d : Int) = n := Int.ediv_mul_cancel (Int.gcd_dvd_left _ _)
theorem red_mul2 (n d : Int) : (red n d).2 * (Int.gcd n d : Int) = d := Int.ediv_mul_cancel (Int.gcd_dvd_right _ _)
theorem div_cancel {a b c : Rat} (hb : b ≠ 0) (hc : c ≠ 0) : (a * c) / (b * c) = a / b := by grind
theorem red_val {n d : Int} (hd : d ≠ 0) : val (red n d) = (n : Rat) / (d : Rat) := by
  have g0 : (Int.gcd n d : Int) ≠ 0 := by have := gcd_pos (n := n) hd; omega
  have e1 := red_mul1 n d
  have e2 := red_mul2 n d
  have h2 : (red n d).2 ≠ 0 := fun e => by rw [e, Int.zero_mul] at e2; exact hd e2.symm
  have c1 : ((red n d).1 : Rat) * ((Int.gcd n d : Int) : Rat) = (n : Rat) := by rw [← Rat.intCast_mul, e1]
  have c2 : ((red n d).2 : Rat) * ((Int.gcd n d : Int) : Rat) = (d : Rat) := by rw [← Rat.intCast_mul, e2]
  rw [← c1, ← c2, div_cancel (cast_ne h2) (cast_ne g0)]
  rfl
theorem cross {x y : Int × Int} (hx : x.2 ≠ 0) (hy : y.2 ≠ 0) : val x = val y ↔ x.1 * y.2 = y.1 * x.2 := by
  have a := cast_ne hx
  have b := cast_ne hy
  unfold val
  constructor
  · intro h
    refine Rat.intCast_inj.mp ?_
    rw [Rat.intCast_mul, Rat.intCast_mul]
    grind
  · intro h
    have h := Rat.intCast_inj.mpr h
    rw [Rat.intCast_mul, Rat.intCast_mul] at h
    grind
theorem dvd_cop {k m n : Int} (h : Int.gcd k m = 1) (d : k ∣ m * n) : k ∣ n := by
  have d' := Int.natAbs_dvd_natAbs.mpr d
  rw [Int.natAbs_mul] at d'
  exact Int.natAbs_dvd_natAbs.mp (Nat.Coprime.dvd_of_dvd_mul_left h d')
theorem val_inj {x y : Int × Int} (hx : IsF x) (hy : IsF y) (h : val x = val y) : x = y := by
  obtain ⟨x1, x2⟩ := x
  obtain ⟨y1, y2⟩ := y
  obtain ⟨px, gx⟩ := hx
  obtain ⟨py, gy⟩ := hy
  simp only at px gx py gy
  have h := (cross (x := (x1, x2)) (y := (y1, y2)) (by show x2 ≠ 0; omega) (by show y2 ≠ 0; omega)).mp h
  simp only at h
  have d1 : x2 ∣ x1 * y2 := ⟨y1, by rw [h, Int.mul_comm]⟩
  have d2 : y2 ∣ y1 * x2 := ⟨x1, by rw [← h, Int.mul_comm]⟩
  have e1 : x2 ∣ y2 := dvd_cop (by rw [Int.gcd_comm]; exact gx) d1
  have e2 : y2 ∣ x2 := dvd_cop (by rw [Int.gcd_comm]; exact gy) d2
  have e : x2 = y2 := Int.dvd_antisymm (by omega) (by omega) e1 e2
  subst e
  have e3 : x1 = y1 := Int.eq_of_mul_eq_mul_right (show x2 ≠ 0 by omega) h
  rw [e3]
theorem red_self {x : Int × Int} (hx : IsF x) : red x.1 x.2 = x := by
  unfold red
  rw [hx.2]
  simp
theorem red_eq {n d n' d' : Int} (hd : 0 < d) (hd' : 0 < d') : red n d = red n' d' ↔ n * d' = n' * d := by
  have c := cross (x := (n, d)) (y := (n', d')) (by show d ≠ 0; omega) (by show d' ≠ 0; omega)
  have v1 := red_val (n := n) (d := d) (by omega)
  have v2 := red_val (n := n') (d := d') (by omega)
  constructor
  · intro h
    refine c.mp ?_
    show (n : Rat) / (d : Rat) = (n' : Rat) / (d' : Rat)
    rw [← v1, ← v2, h]
  · intro h
    refine val_inj (red_isF hd) (red_isF hd') ?_
    rw [v1, v2]
    exact c.mpr h
def add (x y : Int × Int) : Int × Int := red (x.1 * y.2 + y.1 * x.2) (x.2 * y.2)
def sub (x y : Int × Int) : Int × Int := red (x.1 * y.2 - y.1 * x.2) (x.2 * y.2)
def mul (x y : Int × Int) : Int × Int := red (x.1 * y.1) (x.2 * y.2)
def cmp (x y : Int × Int) : Int := if x.1 * y.2 < y.1 * x.2 then -1 else if y.1 * x.2 < x.1 * y.2 then 1 else 0
theorem add_isF {x y : Int × Int} (hx : IsF x) (hy : IsF y) : IsF (add x y) := red_isF (Int.mul_pos hx.1 hy.1)
theorem sub_isF {x y : Int × Int} (hx : IsF x) (hy : IsF y) : IsF (sub x y) := red_isF (Int.mul_pos hx.1 hy.1)
theorem mul_isF {x y : Int × Int} (hx : IsF x) (hy : IsF y) : IsF (mul x y) := red_isF (Int.mul_pos hx.1 hy.1)
theorem IsF.ne {x : Int × Int} (hx : IsF x) : (x.2 : Rat) ≠ 0 := cast_ne (by have := hx.1; omega)
theorem add_val {x y : Int × Int} (hx : IsF x) (hy : IsF y) : val (add x y) = val x + val y := by
  have a := hx.ne
  have b := hy.ne
  have p := Int.mul_pos hx.1 hy.1
  unfold add
  rw [red_val (by omega)]
  unfold val
  simp only [Rat.intCast_mul, Rat.intCast_add]
  grind
theorem sub_val {x y : Int × Int} (hx : IsF x) (hy : IsF y) : val (sub x y) = val x - val y := by
  have a := hx.ne
  have b := hy.ne
  have p := Int.mul_pos hx.1 hy.1
  unfold sub
  rw [red_val (by omega)]
  unfold val
  simp only [Rat.intCast_mul, Rat.intCast_sub]
  grind
theorem mul_val {x y : Int × Int} (hx : IsF x) (hy : IsF y) : val (mul x y) = val x * val y := by
  have a := hx.ne
  have b := hy.ne
  have p := Int.mul_pos hx.1 hy.1
  unfold mul
  rw [red_val (by omega)]
  unfold val
  simp only [Rat.intCast_mul]
  grind
theorem lt_iff {x y : Int × Int} (hx : 0 < x.2) (hy : 0 < y.2) : x.1 * y.2 < y.1 * x.2 ↔ val x < val y := by
  have a := cast_pos hx
  have b := cast_pos hy
  have a' : (x.2 : Rat) ≠ 0 := by grind
  have b' : (y.2 : Rat) ≠ 0 := by grind
  unfold val
  rw [Rat.lt_div_iff b]
  have e : (x.1 : Rat) / (x.2 : Rat) * (y.2 : Rat) = ((x.1 * y.2 : Int) : Rat) / (x.2 : Rat) := by
    rw [Rat.intCast_mul]
    grind
  rw [e, Rat.div_lt_iff a, ← Rat.intCast_mul, Rat.intCast_lt_intCast]
def sgn (r : Rat) : Int := if r < 0 then -1 else if 0 < r then 1 else 0
theorem sgn_neg {r : Rat} (h : r < 0) : sgn r = -1 := if_pos h
theorem sgn_pos {r : Rat} (h : 0 < r) : sgn r = 1 := by
  unfold sgn
  rw [if_neg (by grind), if_pos h]
theorem sgn_zero : sgn 0 = 0 := by decide
theorem cmp_val {x y : Int × Int} (hx : IsF x) (hy : IsF y) : cmp x y = sgn (val x - val y) := by
  have l1 := lt_iff hx.1 hy.1
  have l2 := lt_iff hy.1 hx.1
  unfold cmp
  by_cases h1 : x.1 * y.2 < y.1 * x.2
  · have h := l1.mp h1
    rw [if_pos h1, sgn_neg (by grind)]
  · rw [if_neg h1]
    have n1 : ¬ val x < val y := fun h => h1 (l1.mpr h)
    by_cases h2 : y.1 * x.2 < x.1 * y.2
    · have h := l2.mp h2
      rw [if_pos h2, sgn_pos (by grind)]
    · have n2 : ¬ val y < val x := fun h => h2 (l2.mpr h)
      rw [if_neg h2]
      have e : val x - val y = 0 := by grind
      rw [e, sgn_zero]
/-! sizes -/
def Sz (b : Nat) (x : Int × Int) : Prop := x.1.natAbs < 2 ^ b ∧ x.2.natAbs < 2 ^ b
theorem Sz.mono {b c : Nat} {x : Int × Int} (h : Sz b x) (hc : b ≤ c) : Sz c x :=
  ⟨Nat.lt_of_lt_of_le h.1 (Nat.pow_le_pow_right (by decide) hc), Nat.lt_of_lt_of_le h.2 (Nat.pow_le_pow_right (by decide) hc)⟩
theorem red_sz {n d : Int} {b : Nat} (hn : n.natAbs < 2 ^ b) (hd : d.natAbs < 2 ^ b) : Sz b (red n d) := by
  refine ⟨Nat.lt_of_le_of_lt ?_ hn, Nat.lt_of_le_of_lt ?_ hd⟩
  · show (n / ((Int.gcd n d : Nat) : Int)).natAbs ≤ n.natAbs
    rw [Int.natAbs_ediv_of_dvd (Int.gcd_dvd_left _ _)]
    exact Nat.div_le_self _ _
  · show (d / ((Int.gcd n d : Nat) : Int)).natAbs ≤ d.natAbs
    rw [Int.natAbs_ediv_of_dvd (Int.gcd_dvd_right _ _)]
    exact Nat.div_le_self _ _
theorem mul_lt2 {i j : Int} {a b : Nat} (ha : i.natAbs < 2 ^ a) (hb : j.natAbs < 2 ^ b) : (i * j).natAbs < 2 ^ (a + b) := by
  rw [Int.natAbs_mul, Nat.pow_add]
  exact Nat.mul_lt_mul'' ha hb
theorem add_lt2 {i j : Int} {a : Nat} (ha : i.natAbs < 2 ^ a) (hb : j.natAbs < 2 ^ a) : (i + j).natAbs < 2 ^ (a + 1) := by
  rw [Nat.pow_succ]
  omega
theorem sub_lt2 {i j : Int} {a : Nat} (ha : i.natAbs < 2 ^ a) (hb : j.natAbs < 2 ^ a) : (i - j).natAbs < 2 ^ (a + 1) := by
  rw [Nat.pow_succ]
  omega
theorem lt_up {i : Int} {a b : Nat} (h : i.natAbs < 2 ^ a) (hb : a ≤ b) : i.natAbs < 2 ^ b := Nat.lt_of_lt_of_le h (Nat.pow_le_pow_right (by decide) hb)
theorem add_sz {x y : Int × Int} {a b : Nat} (hx : Sz a x) (hy : Sz b y) : Sz (a + b + 1) (add x y) :=
  red_sz (add_lt2 (mul_lt2 hx.1 hy.2) (lt_up (mul_lt2 hy.1 hx.2) (by omega))) (lt_up (mul_lt2 hx.2 hy.2) (by omega))
theorem sub_sz {x y : Int × Int} {a b : Nat} (hx : Sz a x) (hy : Sz b y) : Sz (a + b + 1) (sub x y) :=
  red_sz (sub_lt2 (mul_lt2 hx.1 hy.2) (lt_up (mul_lt2 hy.1 hx.2) (by omega))) (lt_up (mul_lt2 hx.2 hy.2) (by omega))
theorem mul_sz {x y : Int × Int} {a b : Nat} (hx : Sz a x) (hy : Sz b y) : Sz (a + b) (mul x y) :=
  red_sz (mul_lt2 hx.1 hy.1) (mul_lt2 hx.2 hy.2)
/-! Euclid's loop over ints -/
theorem gcd_step {a b : Int} (ha : 0 ≤ a) (hb : 0 ≤ b) : Int.gcd b (a % b) = Int.gcd a b := by
  obtain ⟨m, rfl⟩ := Int.eq_ofNat_of_zero_le ha
  obtain ⟨n, rfl⟩ := Int.eq_ofNat_of_zero_le hb
  rw [← Int.natCast_emod]
  show Nat.gcd n (m % n) = Nat.gcd m n
  rw [Nat.gcd_comm m n, Nat.gcd_comm n (m % n), ← Nat.gcd_rec]
theorem gcd_zero {a : Int} (ha : 0 ≤ a) : (Int.gcd a 0 : Int) = a := by
  rw [Int.gcd_zero_right]
  omega
/-! the order and sums of fractions by their values -/
theorem sgn_sub (r : Rat) : sgn (-r) = - sgn r := by
  unfold sgn
  by_cases h1 : r < 0
  · rw [if_pos h1, if_neg (by grind), if_pos (by grind)]
    rfl
  · rw [if_neg h1]
    by_cases h2 : 0 < r
    · rw [if_pos h2, if_pos (by grind)]
    · rw [if_neg h2, if_neg (by grind), if_neg (by grind)]
      rfl
theorem sgn_eq0 {r : Rat} : sgn r = 0 ↔ r = 0 := by
  unfold sgn
  by_cases h1 : r < 0
  · rw [if_pos h1]
    constructor
    · intro h; omega
    · intro h; grind
  · rw [if_neg h1]
    by_cases h2 : 0 < r
    · rw [if_pos h2]
      constructor
      · intro h; omega
      · intro h; grind
    · rw [if_neg h2]
      constructor
      · intro h; grind
      · intro h; rfl
theorem sgn_le {r : Rat} : sgn r ≤ 0 ↔ r ≤ 0 := by
  unfold sgn
  by_cases h1 : r < 0
  · rw [if_pos h1]
    constructor
    · intro h; grind
    · intro h; omega
  · rw [if_neg h1]
    by_cases h2 : 0 < r
    · rw [if_pos h2]
      constructor
      · intro h; omega
      · intro h; grind
    · rw [if_neg h2]
      constructor
      · intro h; grind
      · intro h; omega
theorem sgn_mul (r s : Rat) : sgn (r * s) = sgn r * sgn s := by
  have key : ∀ a b : Rat, 0 < a → 0 < b → 0 < a * b := fun a b ha hb => Rat.mul_pos ha hb
  by_cases r1 : r < 0
  · rw [sgn_neg r1]
    by_cases s1 : s < 0
    · rw [sgn_neg s1, sgn_pos (by have := key (-r) (-s) (by grind) (by grind); grind)]
      rfl
    · by_cases s2 : 0 < s
      · rw [sgn_pos s2, sgn_neg (by have := key (-r) s (by grind) s2; grind)]
        rfl
      · have e : s = 0 := by grind
        rw [e, Rat.mul_zero, sgn_zero]
        rfl
  · by_cases r2 : 0 < r
    · rw [sgn_pos r2]
      by_cases s1 : s < 0
      · rw [sgn_neg s1, sgn_neg (by have := key r (-s) r2 (by grind); grind)]
        rfl
      · by_cases s2 : 0 < s
        · rw [sgn_pos s2, sgn_pos (key r s r2 s2)]
          rfl
        · have e : s = 0 := by grind
          rw [e, Rat.mul_zero, sgn_zero]
          rfl
    · have e : r = 0 := by grind
      rw [e, Rat.zero_mul, sgn_zero]
      omega
/-! what the laws of fractions ask -/
theorem m_comm {x y : Int × Int} (hx : IsF x) (hy : IsF y) : add y x = add x y := val_inj (add_isF hy hx) (add_isF hx hy) (by rw [add_val hy hx, add_val hx hy]; grind)
theorem m_back {x y : Int × Int} (hx : IsF x) (hy : IsF y) : sub (add x y) y = x := val_inj (sub_isF (add_isF hx hy) hy) hx (by rw [sub_val (add_isF hx hy) hy, add_val hx hy]; grind)
theorem m_assoc {x y z : Int × Int} (hx : IsF x) (hy : IsF y) (hz : IsF z) : add (add x y) z = add x (add y z) :=
  val_inj (add_isF (add_isF hx hy) hz) (add_isF hx (add_isF hy hz)) (by rw [add_val (add_isF hx hy) hz, add_val hx hy, add_val hx (add_isF hy hz), add_val hy hz]; grind)
theorem p_comm {x y : Int × Int} (hx : IsF x) (hy : IsF y) : mul y x = mul x y := val_inj (mul_isF hy hx) (mul_isF hx hy) (by rw [mul_val hy hx, mul_val hx hy]; grind)
theorem p_assoc {x y z : Int × Int} (hx : IsF x) (hy : IsF y) (hz : IsF z) : mul (mul x y) z = mul x (mul y z) :=
  val_inj (mul_isF (mul_isF hx hy) hz) (mul_isF hx (mul_isF hy hz)) (by rw [mul_val (mul_isF hx hy) hz, mul_val hx hy, mul_val hx (mul_isF hy hz), mul_val hy hz]; grind)
theorem p_dist {x y z : Int × Int} (hx : IsF x) (hy : IsF y) (hz : IsF z) : mul (add x y) z = add (mul x z) (mul y z) :=
  val_inj (mul_isF (add_isF hx hy) hz) (add_isF (mul_isF hx hz) (mul_isF hy hz)) (by rw [mul_val (add_isF hx hy) hz, add_val hx hy, add_val (mul_isF hx hz) (mul_isF hy hz), mul_val hx hz, mul_val hy hz]; grind)
theorem c_opp {x y : Int × Int} (hx : IsF x) (hy : IsF y) : cmp y x = 0 - cmp x y := by
  rw [cmp_val hy hx, cmp_val hx hy, show val y - val x = -(val x - val y) by grind, sgn_sub]
  omega
theorem c_zero {x y : Int × Int} (hx : IsF x) (hy : IsF y) : cmp x y = 0 ↔ x = y := by
  rw [cmp_val hx hy, sgn_eq0]
  constructor
  · intro h
    exact val_inj hx hy (by grind)
  · intro h
    rw [h]
    grind
theorem c_add {x y z : Int × Int} (hx : IsF x) (hy : IsF y) (hz : IsF z) : cmp (add x z) (add y z) = cmp x y := by
  rw [cmp_val (add_isF hx hz) (add_isF hy hz), cmp_val hx hy, add_val hx hz, add_val hy hz, show val x + val z - (val y + val z) = val x - val y by grind]
theorem zero_isF : IsF (0, 1) := ⟨by decide, by decide⟩
theorem zero_val : val (0, 1) = 0 := by
  unfold val
  show ((0 : Int) : Rat) / ((1 : Int) : Rat) = 0
  grind
theorem c_mul {x y z : Int × Int} (hx : IsF x) (hy : IsF y) (hz : IsF z) : cmp (mul x z) (mul y z) = cmp x y * cmp z (0, 1) := by
  rw [cmp_val (mul_isF hx hz) (mul_isF hy hz), cmp_val hx hy, cmp_val hz zero_isF, mul_val hx hz, mul_val hy hz, zero_val, ← sgn_mul, show (val x - val y) * (val z - 0) = val x * val z - val y * val z by grind]
theorem c_trans {x y z : Int × Int} (hx : IsF x) (hy : IsF y) (hz : IsF z) (h1 : cmp x y ≤ 0) (h2 : cmp y z ≤ 0) : cmp x z ≤ 0 := by
  rw [cmp_val hx hy, sgn_le] at h1
  rw [cmp_val hy hz, sgn_le] at h2
  rw [cmp_val hx hz, sgn_le]
  grind
theorem c_bound (x y : Int × Int) : -1 ≤ cmp x y ∧ cmp x y ≤ 1 := by
  unfold cmp
  split
  · omega
  · split <;> omega
end Fr

namespace PM
open PySem PySem.Spec PyProof.Rows L2
/-! ### heaps -/
theorem same_upd {Hh : Hp} {new : Addr} {ob : HO} (hnew : Hh new = none) : Same Hh (upd Hh new ob) := fun b x hx => by
  rw [upd_ne (ne_of_none hx hnew)]
  exact hx
/-- what stood stands, but at a and r -/
def Keep (a r : Addr) (H H' : Hp) : Prop := ∀ b o, b ≠ a → b ≠ r → H b = some o → H' b = some o
theorem Keep.refl (a r : Addr) (H : Hp) : Keep a r H H := fun _ _ _ _ h => h
theorem Keep.trans {a r : Addr} {H H1 H2 : Hp} (x : Keep a r H H1) (y : Keep a r H1 H2) : Keep a r H H2 := fun b o h1 h2 h => y b o h1 h2 (x b o h1 h2 h)
theorem Keep.same {a r : Addr} {H H' : Hp} (h : Same H H') : Keep a r H H' := fun b o _ _ e => h b o e
theorem seqT {K : PySem.W.Frag} {H H' : Hp} {a : Addr} {xs : List V} (e : Same H H') (h : H a = some (.tup xs)) : SqT K H' a xs := .inl (.inl (e _ _ h))
/-! ### the drawn numbers: a the list, c its cells, r its rests; at most n turns so far -/
structure Drw (H : Hp) (a c r : Addr) (n : Nat) : Prop where
  ex : ∃ (cells rests : List Int) (t : Int), H a = some (.lst [.ref c, .int t, .ref r]) ∧ H c = some (.lst (cells.map V.int)) ∧ H r = some (.lst (rests.map V.int)) ∧
    rests.length = cells.length ∧ 0 < cells.length ∧ cells.length ≤ 64 ∧ 0 ≤ t ∧ t ≤ n
  ac : a ≠ c
  ar : a ≠ r
  cr : c ≠ r
theorem Drw.same {H H' : Hp} {a c r : Addr} {n : Nat} (h : Drw H a c r n) (s : Same H H') : Drw H' a c r n := by
  obtain ⟨⟨cells, rests, t, h1, h2, h3, q⟩, x, y, z⟩ := h
  exact ⟨⟨cells, rests, t, s _ _ h1, s _ _ h2, s _ _ h3, q⟩, x, y, z⟩
theorem Drw.new {H : Hp} {a c r p : Addr} {n : Nat} {o : HO} (h : Drw H a c r n) (e : H p = none) : Drw (L2.upd H p o) a c r n := h.same (same_upd e)
theorem Drw.ne_tup {H : Hp} {a c r p : Addr} {n : Nat} {xs : List V} (h : Drw H a c r n) (e : H p = some (.tup xs)) : p ≠ a ∧ p ≠ r := by
  obtain ⟨⟨cells, rests, t, h1, h2, h3, _⟩, _⟩ := h
  exact ⟨fun z => (by rw [z, h1] at e; cases e), fun z => (by rw [z, h3] at e; cases e)⟩
theorem Drw.ne_new {H : Hp} {a c r p : Addr} {n : Nat} (h : Drw H a c r n) (e : H p = none) : p ≠ a ∧ p ≠ c ∧ p ≠ r := by
  obtain ⟨⟨cells, rests, t, h1, h2, h3, _⟩, _⟩ := h
  exact ⟨fun z => (by rw [z, h1] at e; cases e), fun z => (by rw [z, h2] at e; cases e), fun z => (by rw [z, h3] at e; cases e)⟩
theorem Keep.tup {H H' : Hp} {a c r p : Addr} {n : Nat} {xs : List V} (k : Keep a r H H') (d : Drw H a c r n) (e : H p = some (.tup xs)) : H' p = some (.tup xs) :=
  k _ _ (d.ne_tup e).1 (d.ne_tup e).2 e
/-! ### defs -/
structure Def1 (K : PySem.W.Frag) (mg : Str → Option Value) (x : Str) (st : Stmt) (ps : List Str) (f : Addr) (fd : FuncData) : Prop where
  F : Fun K x x st f fd
  b : Binds K fd ps []
  g : mg x = some (.ref f)
def IsDef (K : PySem.W.Frag) (mg : Str → Option Value) (x : Str) (st : Stmt) (ps : List Str) : Prop := ∃ f fd, Def1 K mg x st ps f fd
def Ok (P : Program) (w : World) (K : PySem.W.Frag) (mg : Str → Option Value) (base : Heap) (k : Nat) (x : Str) (st : Stmt) (ps : List Str) (sp : Sp) : Prop :=
  ∃ f fd, Def1 K mg x st ps f fd ∧ FnOk P w K mg base CX0 k f fd ps sp
section
variable {X : Cx}
theorem op_fdivZ : OpR X (binaryOp .FloorDiv) (rI (fun _ j => j ≠ 0 ∧ j.natAbs.log2 < 9000) fun i j => .int (i.fdiv j)) :=
  opI fun i j _ _ _ _ _ hc q => floordiv_int hc.1 q (.inl (PyProof.noPylong_of_log2 hc.2))
end
theorem place_ok {len at_ : Nat} (h : at_ < len) : ixN len (at_ : Int) = some at_ := by
  unfold ixN
  rw [if_pos (by omega), if_pos (by omega), Int.toNat_natCast]
theorem toks {n : Nat} (h : n ≤ 1000) : n ≤ sizeLine := Nat.le_of_lt (small1000 h)
theorem cut63 {xs : List V} (h : xs.length ≤ 63) : cutV xs none (some 63) = xs := by
  unfold cutV
  rw [show HT.sIx xs.length xs.length (some 63) = min 63 xs.length from HT.sIx_nat xs.length xs.length 63, HT.sIx_none, Nat.min_eq_right h]
  show List.take (xs.length - 0) (List.drop 0 xs) = xs
  rw [Nat.sub_zero, List.drop_zero, List.take_length]
/-- a fraction that stands at p -/
def FrAt (H : Hp) (p : Addr) (x : Int × Int) : Prop := H p = some (.tup [.int x.1, .int x.2])
theorem FrAt.same {H H' : Hp} {p : Addr} {x : Int × Int} (h : FrAt H p x) (s : Same H H') : FrAt H' p x := s _ _ h
theorem FrAt.keep {H H' : Hp} {a c r p : Addr} {n : Nat} {x : Int × Int} (h : FrAt H p x) (d : Drw H a c r n) (k : Keep a r H H') : FrAt H' p x := k.tup d h
/-- a fraction as data -/
abbrev fd (x : Int × Int) : PyData := .tuple [.int x.1, .int x.2]
theorem frD {K : PySem.W.Frag} {H : Hp} {p : Addr} {x : Int × Int} (h : FrAt H p x) : Dp K H (.ref p) (fd x) := .tup (.inl (.inl h)) (.cons (.int _) (.cons (.int _) .nil))
theorem eqv_fd (x y : Int × Int) : PyData.eqv (fd x) (fd y) = decide (x = y) := by
  have e : PyData.eqv (fd x) (fd y) = ((x.1 == y.1) && ((x.2 == y.2) && true)) := by
    simp only [PyData.eqv, PyData.eqvAll]
  rw [e]
  by_cases h : x = y
  · subst h
    simp
  · rw [decide_eq_false h]
    have : ¬ (x.1 = y.1 ∧ x.2 = y.2) := fun z => h (Prod.ext z.1 z.2)
    by_cases h1 : x.1 = y.1
    · have h2 : x.2 ≠ y.2 := fun z => this ⟨h1, z⟩
      simp [h2]
    · simp [h1]
theorem eqT {x y : Int × Int} (h : x = y) : PyData.eqv (fd x) (fd y) = true := by rw [eqv_fd, decide_eq_true h]
theorem neF {x y : Int × Int} {A B : Prop} (h : x = y) (k : B) : if (!PyData.eqv (fd x) (fd y)) = true then A else B := by
  rw [eqT h]
  exact k
theorem neI {i j : Int} {A B : Prop} (h : i = j) (k : B) : if (!decide (V.int i = V.int j)) = true then A else B := by
  rw [h, decide_eq_true rfl]
  exact k
theorem Drw.mono {H : Hp} {a c r : Addr} {n m : Nat} (h : Drw H a c r n) (e : n ≤ m) : Drw H a c r m := by
  obtain ⟨⟨cells, rests, t, h1, h2, h3, e1, e2, e3, e4, e5⟩, x, y, z⟩ := h
  exact ⟨⟨cells, rests, t, h1, h2, h3, e1, e2, e3, e4, by omega⟩, x, y, z⟩
theorem Drw.off {H : Hp} {a c r p : Addr} {n : Nat} {o : HO} (h : Drw H a c r n) (e : p ≠ a ∧ p ≠ c ∧ p ≠ r) : Drw (L2.upd H p o) a c r n := by
  obtain ⟨⟨cells, rests, t, h1, h2, h3, q⟩, x, y, z⟩ := h
  refine ⟨⟨cells, rests, t, ?_, ?_, ?_, q⟩, x, y, z⟩
  · rw [L2.upd_ne (Ne.symm e.1)]
    exact h1
  · rw [L2.upd_ne (Ne.symm e.2.1)]
    exact h2
  · rw [L2.upd_ne (Ne.symm e.2.2)]
    exact h3
theorem FrAt.upd_lst {H : Hp} {p D : Addr} {x : Int × Int} {xs ys : List V} (h : FrAt H p x) (e : H D = some (.lst xs)) : FrAt (upd H D (.lst ys)) p x := by
  show (upd H D (.lst ys)) p = _
  rw [L2.upd_ne (show p ≠ D from fun z => by rw [z] at h; rw [show H D = _ from h] at e; cases e)]
  exact h
end PM

namespace PM
open PySem PySem.Spec PyProof.Rows L2
def topS (i : Nat) : Stmt := PySem.Challenge.pw_poolmarks_k03_whole_fraction_arithmetic.main.body.getD i (.Pass ⟨0, 0, 0, 0⟩)
section
variable {P : Program} {w : World} {K : PySem.W.Frag} {mg : Str → Option Value} {base : Heap}
/-! ### the next drawn number -/
abbrev s__law_next : Stmt := topS 12
abbrev N__law_next : List Str := ["_law_drawn", "_law_many", "_law_cells", "_law_turn", "_law_rests", "_law_spot", "_law_digit", "_law_mixed", "_law_again"]
abbrev P__law_next : List Str := ["_law_drawn", "_law_many"]
theorem sc__law_next : FnScope N__law_next P__law_next (defScope s__law_next) := ⟨rfl, rfl, rfl, by decide +kernel, rfl, by decide +kernel, by decide +kernel⟩
def sp__law_next : Sp := fun vs H Q _ => ∃ (a c r : Addr) (n : Nat) (m : Int), vs = [.ref a, .int m] ∧ Drw H a c r n ∧ n < 1000000 ∧ 0 < m ∧ m.natAbs.log2 < 9000 ∧
  ∀ (v : Int) H', 0 ≤ v → v < m → Drw H' a c r (n + 1) → Keep a r H H' → Q (.int v) H'
theorem ok__law_next {k : Nat} (d : IsDef K mg "_law_next" s__law_next P__law_next) (m_len : mg "len" = none) : Ok P w K mg base (k + 1) "_law_next" s__law_next P__law_next sp__law_next := by
  obtain ⟨f, fd, D⟩ := d
  refine ⟨f, fd, D, D.F.ok sc__law_next (fun vs H Q E h => ?_) (fun cdv A outer s H vs Q E hr h => ?_)⟩
  · obtain ⟨a, c, r, n, m, rfl, _⟩ := h
    rfl
  · obtain ⟨a, c, r, n, m, rfl, dr, hn, hm, hb, q⟩ := h
    obtain ⟨⟨cells, rests, t, hA, hC, hR, e1, e2, e3, t0, tn⟩, ac, ar, cr⟩ := id dr
    refine ⟨_, (pss_cons (ps_asg (pv 0) (pg_unl (by rfl) (pgs_cons (pg_name (i := 2) sc__law_next.nd rfl (.inl rfl)) (pgs_cons (pg_name (i := 3) sc__law_next.nd rfl (.inl rfl)) (pgs_cons (pg_name (i := 4) sc__law_next.nd rfl (.inl rfl)) pgs_nil)))))
      (pss_cons (ps_set (i := 5) sc__law_next.nd rfl (.inl rfl) (pe_op op_mod (pv 3) (pe_callB call_len_seq (by rfl) m_len (by decide +kernel) (pa_cons (pv 2) pa_nil))))
      (pss_cons (ps_asg (pe_op op_add (pv 3) pe_int) (pg_sub (pv 0) pe_int set_list))
      (pss_cons (ps_if (pt_cmpR op_gt (pe_ix ix_list (pv 4) (pv 5) (fun _ _ => rfl)) pe_int (nomark _)) (pss_cons (ps_set (i := 6) sc__law_next.nd rfl (.inl rfl) (pe_op op_mod (pe_ix ix_list (pv 4) (pv 5) (fun _ _ => rfl)) (pv 1))) (pss_cons (ps_asg (pe_op op_fdivW (pe_ix ix_list (pv 4) (pv 5) (fun _ _ => rfl)) (pv 1)) (pg_sub (pv 4) (pv 5) set_list)) (pss_one (ps_ret (pv 6))))) pss_nil)
      (pss_cons (ps_set (i := 7) sc__law_next.nd rfl (.inl rfl) (pe_op op_mod (pe_op op_pow (pe_op op_add (pe_op op_add (pe_op op_mod (pe_ix ix_list (pv 2) (pv 5) (fun _ _ => rfl)) pe_int) (pe_op op_mul pe_int (pv 3))) pe_int) pe_int) pe_int))
      (pss_cons (ps_set (i := 8) sc__law_next.nd rfl (.inl rfl) (pe_op op_mod (pe_op op_pow (pe_op op_add (pe_op op_add (pv 7) (pe_op op_mul (pe_op op_mul pe_int (pv 3)) (pv 3))) pe_int) pe_int) pe_int))
      (pss_one (ps_ret (pe_op op_mod (pe_op op_mod (pe_op op_add (pe_op op_mul (pv 8) pe_int) (pv 7)) pe_int) (pv 1)))))))))), ?_⟩
    refine ⟨.ref a, rfl, a, _, rfl, .inl (.inl hA), rfl, _, _, rfl, _, _, rfl, _, _, rfl, rfl, ?_⟩
    -- spot
    refine ⟨.int t, rfl, .ref c, rfl, c, _, rfl, .inl (.inl (.inl hC)), _, _, rfl, rfl, ?_, ?_⟩
    · show (0 : Int) < _
      rw [List.length_map]
      omega
    rw [List.length_map]
    obtain ⟨j, ej⟩ : ∃ j : Nat, t % (cells.length : Int) = (j : Int) := ⟨(t % (cells.length : Int)).toNat, by
      have := Int.emod_nonneg t (show (cells.length : Int) ≠ 0 by omega)
      omega⟩
    have hj : j < cells.length := by
      have := Int.emod_lt_of_pos t (show (0 : Int) < (cells.length : Int) by omega)
      omega
    have hj' : j < rests.length := by omega
    dsimp only
    rw [ej]
    -- drawn[1] = turn + 1
    refine ⟨.int t, rfl, _, _, rfl, rfl, .ref a, rfl, a, _, _, 1, rfl, rfl, hA, rfl, ?_⟩
    have hC1 : (upd H a (.lst (List.set [.ref c, .int t, .ref r] 1 (.int (t + 1))))) c = some (.lst (cells.map V.int)) := by
      rw [upd_ne (Ne.symm ac)]
      exact hC
    have hR1 : (upd H a (.lst (List.set [.ref c, .int t, .ref r] 1 (.int (t + 1))))) r = some (.lst (rests.map V.int)) := by
      rw [upd_ne (Ne.symm ar)]
      exact hR
    have gc : atI (cells.map V.int) (j : Int) = some (.int cells[j]) := atI_nat (by rw [List.getElem?_map, List.getElem?_eq_getElem hj]; rfl)
    have gr : atI (rests.map V.int) (j : Int) = some (.int rests[j]) := atI_nat (by rw [List.getElem?_map, List.getElem?_eq_getElem hj']; rfl)
    refine ⟨.ref r, rfl, .int j, rfl, r, _, _, _, rfl, rfl, .inl (.inl hR1), gr, _, _, rfl, rfl, _, rfl, ite2 (fun e => ?_) (fun e => ?_)⟩
    · -- a digit of a great number
      refine ⟨.ref r, rfl, .int j, rfl, r, _, _, _, rfl, rfl, .inl (.inl hR1), gr, .int m, rfl, _, _, rfl, rfl, hm, ?_⟩
      refine ⟨.ref r, rfl, .int j, rfl, r, _, _, _, rfl, rfl, .inl (.inl hR1), gr, .int m, rfl, _, _, rfl, rfl, ⟨hm, hb⟩, .ref r, rfl, .int j, rfl, r, _, _, j, rfl, rfl, hR1, ?_, ?_⟩
      · rw [List.length_map]
        exact place_ok hj'
      refine ⟨_, rfl, q _ _ (Int.emod_nonneg _ (by omega)) (Int.emod_lt_of_pos _ hm) ?_ ?_⟩
      · refine ⟨⟨cells, rests.set j (rests[j] / m), t + 1, ?_, ?_, ?_, ?_, e2, e3, by omega, by omega⟩, ac, ar, cr⟩
        · rw [upd_ne ar, upd_same]
          rfl
        · rw [upd_ne cr]
          exact hC1
        · rw [upd_same, List.map_set]
        · rw [List.length_set]
          exact e1
      · intro b o ba br hb
        rw [upd_ne br, upd_ne ba]
        exact hb
    · -- a mixed number
      have gp : ∀ x y : Int, 0 < y → 0 ≤ x % y ∧ x % y < y := fun x y h => ⟨Int.emod_nonneg _ (by omega), Int.emod_lt_of_pos _ h⟩
      have t1 : t < 1000000 := by omega
      have b1 := gp cells[j] 2147483629 (by decide)
      refine ⟨.ref c, rfl, .int j, rfl, c, _, _, _, rfl, rfl, .inl (.inl hC1), gc, _, _, rfl, rfl, (by show (0 : Int) < 2147483629; decide), .int t, rfl, _, _, rfl, rfl, .inl ⟨by decide, by decide⟩, _, _, rfl, rfl, _, _, rfl, rfl, _, _, rfl, rfl, ⟨by decide, by decide, ?_⟩, _, _, rfl, rfl, (by show (0 : Int) < 2147483587; decide), ?_⟩
      · omega
      obtain ⟨x, hx, x0, x1⟩ : ∃ x : Int, (cells[j] % 2147483629 + 39119 * t + 9901) ^ Int.toNat 3 % 2147483587 = x ∧ 0 ≤ x ∧ x < 2147483587 := ⟨_, rfl, gp _ _ (by decide)⟩
      change gName 7 (.int ((cells[j] % 2147483629 + 39119 * t + 9901) ^ Int.toNat 3 % 2147483587)) _ _ _
      rw [hx]
      have tt : 0 ≤ 7001 * t * t ∧ 7001 * t * t < 7001 * 1000000 * 1000000 := by
        have h1 : 0 ≤ t * t := Int.mul_nonneg t0 t0
        have h2 : t * t ≤ 1000000 * 1000000 - 1 := by
          have := Int.mul_le_mul (show t ≤ 999999 by omega) (show t ≤ 999999 by omega) t0 (by omega)
          omega
        rw [Int.mul_assoc]
        omega
      refine ⟨.int x, rfl, .int t, rfl, _, _, rfl, rfl, .inl ⟨by decide, by decide⟩, .int t, rfl, _, _, rfl, rfl, .inl ⟨?_, ?_⟩, _, _, rfl, rfl, _, _, rfl, rfl, _, _, rfl, rfl, ⟨by decide, by decide, ?_⟩, _, _, rfl, rfl, (by show (0 : Int) < 2147483563; decide), ?_⟩
      · omega
      · omega
      · omega
      obtain ⟨y, hy, y0, y1⟩ : ∃ y : Int, (x + 7001 * t * t + 41) ^ Int.toNat 3 % 2147483563 = y ∧ 0 ≤ y ∧ y < 2147483563 := ⟨_, rfl, gp _ _ (by decide)⟩
      change gName 8 (.int ((x + 7001 * t * t + 41) ^ Int.toNat 3 % 2147483563)) _ _ _
      rw [hy]
      refine ⟨.int y, rfl, _, _, rfl, rfl, .inl ⟨by omega, by omega⟩, .int x, rfl, _, _, rfl, rfl, _, _, rfl, rfl, (by show (0 : Int) < 4611686018427387847; decide), .int m, rfl, _, _, rfl, rfl, hm, ?_⟩
      refine q _ _ (Int.emod_nonneg _ (by omega)) (Int.emod_lt_of_pos _ hm) ?_ ?_
      · refine ⟨⟨cells, rests, t + 1, ?_, hC1, hR1, e1, e2, e3, by omega, by omega⟩, ac, ar, cr⟩
        rw [upd_same]
        rfl
      · intro b o ba br hb
        rw [upd_ne ba]
        exact hb
/-! ### the drawn numbers are laid -/
abbrev s__law_draws : Stmt := topS 11
abbrev N__law_draws : List Str := ["_law_script", "_law_cells", "_law_cell"]
abbrev P__law_draws : List Str := ["_law_script"]
theorem sc__law_draws : FnScope N__law_draws P__law_draws (defScope s__law_draws) := ⟨rfl, rfl, rfl, by decide +kernel, rfl, by decide +kernel, by decide +kernel⟩
def sp__law_draws (K : PySem.W.Frag) : Sp := fun vs H Q _ => ∃ (a : Addr) (ns : List Int), vs = [.ref a] ∧ SqL K H a (ns.map V.int) ∧ ns.length ≤ 63 ∧
  ∀ H' p c r, Same H H' → H p = none → H c = none → H r = none → Drw H' p c r 0 → Q (.ref p) H'
theorem ok__law_draws {k : Nat} (d : IsDef K mg "_law_draws" s__law_draws P__law_draws) (m_len : mg "len" = none) (m_int : mg "int" = none) (m_list : mg "list" = none) : Ok P w K mg base (k + 1) "_law_draws" s__law_draws P__law_draws (sp__law_draws K) := by
  obtain ⟨f, fd, D⟩ := d
  refine ⟨f, fd, D, D.F.ok sc__law_draws (fun vs H Q E h => ?_) (fun cdv A outer s H vs Q E hr h => ?_)⟩
  · obtain ⟨a, ns, rfl, _⟩ := h
    rfl
  · obtain ⟨a, ns, rfl, hS, hlen, q⟩ := h
    refine ⟨_, (pss_cons (ps_set (i := 1) sc__law_draws.nd rfl (.inl rfl) (pe_op op_cat (pe_callTy call_list_of (by rfl) m_list (by decide +kernel) (pa_cons (pe_slice sl_list (pv 0) po_none (po_some pe_int)) pa_nil)) (pe_op op_rep (pe_lst (pa_cons pe_int pa_nil)) (pe_callTy call_int1 (by rfl) m_int (by decide +kernel) (pa_cons (pe_cmpR op_eq (pe_callB call_len_seq (by rfl) m_len (by decide +kernel) (pa_cons (pv 0) pa_nil)) pe_int (nomark _)) pa_nil)))))
      (pss_one (ps_ret (pe_lst (pa_cons (pv 1) (pa_cons pe_int (pa_cons (pe_lc (own := [("_law_cell", 2)]) (g := gName 2) (by rfl) sc__law_draws.nd (pi_list (pv 1)) (blkOk_by (own := [("_law_cell", 2)]) (N := N__law_draws) (sc := defScope s__law_draws) (by decide +kernel)) (fun _ _ _ _ _ => (pg_name (i := 2) sc__law_draws.nd rfl (.inl rfl))) (fun _ _ _ _ _ => pts_nil) (fun _ _ _ _ _ => (pe_op op_mul (pv 2) (pe_callTy call_int1 (by rfl) m_int (by decide +kernel) (pa_cons (pe_cmpR op_ge (pv 2) (pe_op op_pow pe_int pe_int) (nomark _)) pa_nil))))) pa_nil))))))), ?_⟩
    refine ⟨.ref a, rfl, 63, rfl, a, _, rfl, hS, fun p1 n1 => ?_⟩
    rw [cut63 (by rw [List.length_map]; exact hlen)]
    have s1 := same_upd (ob := .lst (ns.map V.int)) n1
    refine ⟨p1, _, rfl, .inl (.inl (.inl upd_same)), fun p2 n2 => ?_⟩
    have s2 := s1.trans (same_upd (ob := .lst (ns.map V.int)) n2)
    refine ⟨toks (by decide), fun p3 n3 => ?_⟩
    have s3 := s2.trans (same_upd (ob := .lst [.int 0]) n3)
    have z2 := same_upd (ob := .lst [.int 0]) n3
    refine ⟨.ref a, rfl, a, _, rfl, .inl (s3.seq hS), rfl, .inr ⟨_, rfl, ?_⟩⟩
    obtain ⟨zs, hz, lz, ez⟩ : ∃ zs : List Int, zs.length ≤ 1 ∧ 0 < (ns ++ zs).length ∧ (List.replicate (if decide (V.int ((ns.map V.int).length : Int) = V.int 0) = true then (1 : Int) else 0).toNat [V.int 0]).flatten = zs.map V.int := by
      cases ns with
      | nil => exact ⟨[0], by decide, by decide, rfl⟩
      | cons x l =>
        refine ⟨[], by decide, by simp, ?_⟩
        rw [if_neg]
        · rfl
        · intro e
          have e := V.int.inj (of_decide_eq_true e)
          rw [List.length_map, List.length_cons] at e
          omega
    refine ⟨p3, _, [.int 0], rfl, rfl, upd_same, ?_, ?_, ?_, fun p4 n4 => ?_⟩
    · split <;> omega
    · split <;> omega
    · split <;> exact toks (by decide)
    rw [ez]
    have s4 := s3.trans (same_upd (ob := .lst (zs.map V.int)) n4)
    have z3 := z2.trans (same_upd (ob := .lst (zs.map V.int)) n4)
    refine ⟨p2, p4, _, _, rfl, rfl, z3 _ _ upd_same, upd_same, ?_, fun p5 n5 => ?_⟩
    · rw [List.length_map, List.length_map]
      exact toks (by omega)
    rw [← List.map_append]
    have s5 := s4.trans (same_upd (ob := .lst ((ns ++ zs).map V.int)) n5)
    have hlc : (ns ++ zs).length ≤ 64 := by
      rw [List.length_append]
      omega
    generalize hcells : ns ++ zs = cells at *
    generalize hH5 : upd _ p5 (HO.lst (cells.map V.int)) = H5 at *
    have h5 : H5 p5 = some (.lst (cells.map V.int)) := by
      rw [← hH5, upd_same]
    have np5 := s4.free n5
    refine ⟨.ref p5, rfl, .ref p5, rfl, p5, rfl, ⟨_, .inl (.inl h5)⟩, fun D nD => ?_⟩
    have dp : D ≠ p5 := fun e => by
      rw [e, h5] at nD
      cases nD
    refine lc_list (K := K) (xs := cells.map V.int) (fun i H' => Same H5 H' ∧ H' D = some (.lst (((cells.take i).map fun c => c * (if decide ((10 : Int) ^ Int.toNat 18 ≤ c) = true then 1 else 0)).map V.int))) ⟨same_upd nD, upd_same⟩ (fun i H' _ p => .inl (.inl (p.1 _ _ h5))) (fun i x H' hx p => ?_) (fun H' p => ?_)
    · rw [List.getElem?_map] at hx
      cases hc : cells[i]? with
      | none =>
        rw [hc] at hx
        cases hx
      | some y =>
        rw [hc] at hx
        have hx : x = .int y := (Option.some.inj hx).symm
        subst hx
        refine ⟨rfl, ?_⟩
        refine ⟨.int y, rfl, .int y, rfl, _, _, rfl, rfl, ⟨by decide, by decide, by decide⟩, _, _, rfl, rfl, .inr ⟨_, rfl, _, _, rfl, rfl, .inr ?_, _, p.2, ?_, ?_, ?_⟩⟩
        · split <;> decide
        · rw [List.length_map, List.length_map, List.length_take]
          exact small1000 (by omega)
        · intro b o e
          rw [upd_ne (show b ≠ D from fun z => by rw [z, nD] at e; cases e)]
          exact p.1 _ _ e
        · rw [upd_same, List.take_add_one, hc, List.map_append, List.map_append]
          rfl
    · obtain ⟨p1, p2⟩ := p
      rw [List.length_map, List.take_length] at p2
      obtain ⟨rests, hrs, lrs⟩ : ∃ rests : List Int, (cells.map fun c => c * (if decide ((10 : Int) ^ Int.toNat 18 ≤ c) = true then 1 else 0)) = rests ∧ rests.length = cells.length := ⟨_, rfl, by rw [List.length_map]⟩
      rw [hrs] at p2
      refine ⟨toks (by show 3 ≤ 1000; decide), fun pa na => ?_⟩
      have nD1 : H D = none := s5.free nD
      have na1 : H5 pa = none := p1.free na
      refine q _ pa p5 D ((s5.trans p1).trans (same_upd na)) (s5.free na1) np5 nD1 ⟨⟨cells, rests, 0, upd_same, ?_, ?_, lrs, lz, hlc, by decide, by decide⟩, ?_, ?_, Ne.symm dp⟩
      · rw [upd_ne (ne_of_none (p1 _ _ h5) na)]
        exact p1 _ _ h5
      · rw [upd_ne (ne_of_none p2 na)]
        exact p2
      · exact Ne.symm (ne_of_none (p1 _ _ h5) na)
      · exact Ne.symm (ne_of_none p2 na)
/-! ### lowest terms, as the law finds them -/
abbrev s__law_lowest : Stmt := topS 13
abbrev N__law_lowest : List Str := ["_law_numerator", "_law_denominator", "_law_one", "_law_other"]
abbrev P__law_lowest : List Str := ["_law_numerator", "_law_denominator"]
theorem sc__law_lowest : FnScope N__law_lowest P__law_lowest (defScope s__law_lowest) := ⟨rfl, rfl, rfl, by decide +kernel, rfl, by decide +kernel, by decide +kernel⟩
def sp__law_lowest : Sp := fun vs H Q _ => ∃ (n d : Int) (b : Nat), vs = [.int n, .int d] ∧ 0 < d ∧ d.natAbs < 2 ^ b ∧ 0 < b ∧ b ≤ 9000 ∧
  ∀ t, H t = none → Q (.ref t) (upd H t (.tup [.int (Fr.red n d).1, .int (Fr.red n d).2]))
theorem ok__law_lowest {k : Nat} (d : IsDef K mg "_law_lowest" s__law_lowest P__law_lowest) (m_abs : mg "abs" = none) : Ok P w K mg base (k + 1) "_law_lowest" s__law_lowest P__law_lowest sp__law_lowest := by
  obtain ⟨f, fd, D⟩ := d
  refine ⟨f, fd, D, D.F.ok sc__law_lowest (fun vs H Q E h => ?_) (fun cdv A outer s H vs Q E hr h => ?_)⟩
  · obtain ⟨n, d, b, rfl, _⟩ := h
    rfl
  · obtain ⟨n, d, b, rfl, d0, db, b0, b9, q⟩ := h
    refine ⟨_, (pss_cons (ps_par (i := 2) (j := 3) (by rfl) sc__law_lowest.nd rfl rfl (by decide) rfl rfl (pa_cons (pe_callB call_abs (by rfl) m_abs (by decide +kernel) (pa_cons (pv 0) pa_nil)) (pa_cons (pv 1) pa_nil)) (by rfl))
      (pss_cons (ps_while PassesOwn.never (pt_cmpR op_gt (pv 3) pe_int (nomark _)) (pss_one (ps_par (i := 2) (j := 3) (by rfl) sc__law_lowest.nd rfl rfl (by decide) rfl rfl (pa_cons (pv 3) (pa_cons (pe_op op_mod (pv 2) (pv 3)) pa_nil)) (by rfl))))
      (pss_one (ps_ret (pe_tup (pa_cons (pe_op op_fdivW (pv 0) (pv 2)) (pa_cons (pe_op op_fdivW (pv 1) (pv 2)) pa_nil))))))), ?_⟩
    refine ⟨.int n, rfl, n, rfl, .int d, rfl, _, _, rfl, ?_⟩
    refine ⟨fun m σ H' => H' = H ∧ ∃ x y : Int, 0 ≤ x ∧ 0 ≤ y ∧ m = y.toNat ∧ σ = [some (.int n), some (.int d), some (.int x), some (.int y)] ∧ Int.gcd x y = Int.gcd n d,
      ⟨d.toNat, rfl, (if n < 0 then -n else n), d, by split <;> omega, by omega, rfl, rfl, ?_⟩, fun m σ H' hW => ?_⟩
    · split
      · rw [Int.neg_gcd]
      · rfl
    · obtain ⟨rfl, x, y, x0, y0, rfl, rfl, hg⟩ := hW
      refine ⟨.int y, rfl, _, _, rfl, rfl, _, rfl, ite2 (fun e => ?_) (fun e => ?_)⟩
      · have yp : 0 < y := of_decide_eq_true e
        refine ⟨fun σ' H'' => H'' = H' ∧ σ' = [some (.int n), some (.int d), some (.int y), some (.int (x % y))], fun σ' H'' hN => ?_, ?_⟩
        · obtain ⟨rfl, rfl⟩ := hN
          have l1 := Int.emod_nonneg x (show y ≠ 0 by omega)
          have l2 := Int.emod_lt_of_pos x yp
          exact ⟨(x % y).toNat, by omega, rfl, y, x % y, by omega, l1, rfl, rfl, by rw [Fr.gcd_step x0 y0]; exact hg⟩
        · exact ⟨.int y, rfl, .int x, rfl, .int y, rfl, _, _, rfl, rfl, yp, _, _, rfl, rfl, rfl⟩
      · have y00 : y = 0 := by
          have h : ¬ 0 < y := fun z => e (decide_eq_true z)
          omega
        subst y00
        have ex : x = (Int.gcd n d : Int) := by rw [← hg, Fr.gcd_zero x0]
        have xp : 0 < x := by
          rw [ex]
          exact Fr.gcd_pos (by omega)
        have xd : x.natAbs < 2 ^ b := by
          refine Nat.lt_of_le_of_lt ?_ db
          rw [ex, Int.natAbs_natCast]
          exact Nat.le_of_dvd (by omega) (Nat.gcd_dvd_right _ _)
        have C : ∀ i : Int, CDivW i x := fun i => wide_div xp xd b0 b9
        refine ⟨.int n, rfl, .int x, rfl, _, _, rfl, rfl, C n, .int d, rfl, .int x, rfl, _, _, rfl, rfl, C d, toks (by show 2 ≤ 1000; decide), fun t nt => ?_⟩
        have := q t nt
        unfold Fr.red at this
        rw [← ex] at this
        exact this
/-! ### the greatest common divisor -/
abbrev s_common_divisor : Stmt := topS 4
abbrev N_common_divisor : List Str := ["one", "other"]
abbrev P_common_divisor : List Str := ["one", "other"]
theorem sc_common_divisor : FnScope N_common_divisor P_common_divisor (defScope s_common_divisor) := ⟨rfl, rfl, rfl, by decide +kernel, rfl, by decide +kernel, by decide +kernel⟩
def sp_common_divisor : Sp := fun vs H Q _ => ∃ (n d : Int), vs = [.int n, .int d] ∧ Q (.int (Int.gcd n d : Int)) H
theorem ok_common_divisor {k : Nat} (d : IsDef K mg "common_divisor" s_common_divisor P_common_divisor) (m_abs : mg "abs" = none) : Ok P w K mg base (k + 1) "common_divisor" s_common_divisor P_common_divisor sp_common_divisor := by
  obtain ⟨f, fd, D⟩ := d
  refine ⟨f, fd, D, D.F.ok sc_common_divisor (fun vs H Q E h => ?_) (fun cdv A outer s H vs Q E hr h => ?_)⟩
  · obtain ⟨n, d, rfl, _⟩ := h
    rfl
  · obtain ⟨n, d, rfl, q⟩ := h
    refine ⟨_, (pss_cons (ps_par (i := 0) (j := 1) (by rfl) sc_common_divisor.nd rfl rfl (by decide) rfl rfl (pa_cons (pe_callB call_abs (by rfl) m_abs (by decide +kernel) (pa_cons (pv 0) pa_nil)) (pa_cons (pe_callB call_abs (by rfl) m_abs (by decide +kernel) (pa_cons (pv 1) pa_nil)) pa_nil)) (by rfl))
      (pss_cons (ps_while PassesOwn.never (pt_cmpR op_ne (pv 1) pe_int (nomark _)) (pss_one (ps_par (i := 0) (j := 1) (by rfl) sc_common_divisor.nd rfl rfl (by decide) rfl rfl (pa_cons (pv 1) (pa_cons (pe_op op_mod (pv 0) (pv 1)) pa_nil)) (by rfl))))
      (pss_one (ps_ret (pv 0))))), ?_⟩
    refine ⟨.int n, rfl, n, rfl, .int d, rfl, d, rfl, _, _, rfl, ?_⟩
    refine ⟨fun m σ H' => H' = H ∧ ∃ x y : Int, 0 ≤ x ∧ 0 ≤ y ∧ m = y.toNat ∧ σ = [some (.int x), some (.int y)] ∧ Int.gcd x y = Int.gcd n d,
      ⟨_, rfl, (if n < 0 then -n else n), (if d < 0 then -d else d), by split <;> omega, by split <;> omega, rfl, rfl, ?_⟩, fun m σ H' hW => ?_⟩
    · split <;> split <;> simp
    · obtain ⟨rfl, x, y, x0, y0, rfl, rfl, hg⟩ := hW
      refine ⟨.int y, rfl, rfl, _, rfl, ite2 (fun e => ?_) (fun e => ?_)⟩
      · have yp : 0 < y := by
          have : y ≠ 0 := fun z => by rw [z] at e; exact absurd e (by decide)
          omega
        refine ⟨fun σ' H'' => H'' = H' ∧ σ' = [some (.int y), some (.int (x % y))], fun σ' H'' hN => ?_, ?_⟩
        · obtain ⟨rfl, rfl⟩ := hN
          have l1 := Int.emod_nonneg x (show y ≠ 0 by omega)
          have l2 := Int.emod_lt_of_pos x yp
          exact ⟨(x % y).toNat, by omega, rfl, y, x % y, by omega, l1, rfl, rfl, by rw [Fr.gcd_step x0 y0]; exact hg⟩
        · exact ⟨.int y, rfl, .int x, rfl, .int y, rfl, _, _, rfl, rfl, yp, _, _, rfl, rfl, rfl⟩
      · have y00 : y = 0 := by
          refine Decidable.byContradiction fun z => e ?_
          rw [decide_eq_false (fun w => z (V.int.inj w))]
          rfl
        subst y00
        have ex : x = (Int.gcd n d : Int) := by rw [← hg, Fr.gcd_zero x0]
        refine ⟨_, rfl, ?_⟩
        rw [ex]
        exact q
/-! ### make_fraction, the denominator positive -/
abbrev s_make_fraction : Stmt := topS 5
abbrev N_make_fraction : List Str := ["numerator", "denominator", "divisor"]
abbrev P_make_fraction : List Str := ["numerator", "denominator"]
theorem sc_make_fraction : FnScope N_make_fraction P_make_fraction (defScope s_make_fraction) := ⟨rfl, rfl, rfl, by decide +kernel, rfl, by decide +kernel, by decide +kernel⟩
def sp_make_fraction : Sp := fun vs H Q _ => ∃ (n d : Int) (b : Nat), vs = [.int n, .int d] ∧ 0 < d ∧ d.natAbs < 2 ^ b ∧ 0 < b ∧ b ≤ 9000 ∧
  ∀ t, H t = none → Q (.ref t) (upd H t (.tup [.int (Fr.red n d).1, .int (Fr.red n d).2]))
theorem ok_make_fraction (d : IsDef K mg "make_fraction" s_make_fraction P_make_fraction) (h_common_divisor : Ok P w K mg base 1 "common_divisor" s_common_divisor P_common_divisor sp_common_divisor) : Ok P w K mg base 2 "make_fraction" s_make_fraction P_make_fraction sp_make_fraction := by
  obtain ⟨f, fd, D⟩ := d
  obtain ⟨f_common_divisor, fd_common_divisor, ⟨F_common_divisor, b_common_divisor, g_common_divisor⟩, G_common_divisor⟩ := h_common_divisor
  refine ⟨f, fd, D, D.F.ok sc_make_fraction (fun vs H Q E h => ?_) (fun cdv A outer s H vs Q E hr h => ?_)⟩
  · obtain ⟨n, d, b, rfl, _⟩ := h
    rfl
  · obtain ⟨n, d, b, rfl, d0, db, b0, b9, q⟩ := h
    refine ⟨_, (pss_cons (ps_if (pt_cmpR op_eq (pv 1) pe_int (nomark _)) (pss_one ps_never) pss_nil)
      (pss_cons (ps_set (i := 2) sc_make_fraction.nd rfl (.inl rfl) (pe_call G_common_divisor (hr.mono (by decide)) (by rfl) g_common_divisor F_common_divisor.kp b_common_divisor .nil pass0 (pa_cons (pv 0) (pa_cons (pv 1) pa_nil))))
      (pss_cons (ps_if (pt_cmpR op_lt (pv 1) pe_int (nomark _)) (pss_one (ps_set (i := 2) sc_make_fraction.nd rfl (.inl rfl) (pe_un un_neg (pv 2)))) pss_nil)
      (pss_one (ps_ret (pe_tup (pa_cons (pe_op op_fdivW (pv 0) (pv 2)) (pa_cons (pe_op op_fdivW (pv 1) (pv 2)) pa_nil)))))))), ?_⟩
    refine ⟨.int d, rfl, rfl, _, rfl, ite2 (fun e => ?_) (fun _ => ?_)⟩
    · have z := V.int.inj (of_decide_eq_true e)
      omega
    refine ⟨.int n, rfl, .int d, rfl, n, d, rfl, ?_⟩
    refine ⟨.int d, rfl, _, _, rfl, rfl, _, rfl, ite2 (fun e => ?_) (fun _ => ?_)⟩
    · have z : d < 0 := of_decide_eq_true e
      omega
    have xp : 0 < (Int.gcd n d : Int) := Fr.gcd_pos (by omega)
    have xd : (Int.gcd n d : Int).natAbs < 2 ^ b := by
      refine Nat.lt_of_le_of_lt ?_ db
      rw [Int.natAbs_natCast]
      exact Nat.le_of_dvd (by omega) (Nat.gcd_dvd_right _ _)
    have C : ∀ i : Int, CDivW i (Int.gcd n d : Int) := fun i => wide_div xp xd b0 b9
    exact ⟨.int n, rfl, .int (Int.gcd n d : Int), rfl, _, _, rfl, rfl, C n, .int d, rfl, .int (Int.gcd n d : Int), rfl, _, _, rfl, rfl, C d, toks (by show 2 ≤ 1000; decide), q⟩

/-! ### add_fractions -/
abbrev s_add_fractions : Stmt := topS 6
abbrev N_add_fractions : List Str := ["one", "other"]
abbrev P_add_fractions : List Str := ["one", "other"]
theorem sc_add_fractions : FnScope N_add_fractions P_add_fractions (defScope s_add_fractions) := ⟨rfl, rfl, rfl, by decide +kernel, rfl, by decide +kernel, by decide +kernel⟩
def sp_add_fractions : Sp := fun vs H Q _ => ∃ (p q : Addr) (x y : Int × Int) (a b : Nat), vs = [.ref p, .ref q] ∧ FrAt H p x ∧ FrAt H q y ∧ 0 < x.2 ∧ 0 < y.2 ∧ Fr.Sz a x ∧ Fr.Sz b y ∧ 0 < a ∧ 0 < b ∧ a + b ≤ 8000 ∧
  ∀ H' t, Same H H' → FrAt H' t (Fr.add x y) → Q (.ref t) H'
theorem ok_add_fractions (d : IsDef K mg "add_fractions" s_add_fractions P_add_fractions) (h_make_fraction : Ok P w K mg base 2 "make_fraction" s_make_fraction P_make_fraction sp_make_fraction) : Ok P w K mg base 3 "add_fractions" s_add_fractions P_add_fractions sp_add_fractions := by
  obtain ⟨f, fd, D⟩ := d
  obtain ⟨f_make_fraction, fd_make_fraction, ⟨F_make_fraction, b_make_fraction, g_make_fraction⟩, G_make_fraction⟩ := h_make_fraction
  refine ⟨f, fd, D, D.F.ok sc_add_fractions (fun vs H Q E h => ?_) (fun cdv A outer s H vs Q E hr h => ?_)⟩
  · obtain ⟨p, q, x, y, a, b, rfl, _⟩ := h
    rfl
  · obtain ⟨p, q, x, y, a, b, rfl, hp, hq, px, py, sx, sy, a0, b0, ab, k⟩ := h
    refine ⟨_, (pss_one (ps_ret (pe_call G_make_fraction (hr.mono (by decide)) (by rfl) g_make_fraction F_make_fraction.kp b_make_fraction .nil pass0 (pa_cons (pe_op op_add (pe_op op_mulW (pe_ix ix_tup (pv 0) pe_int (fun _ _ => rfl)) (pe_ix ix_tup (pv 1) pe_int (fun _ _ => rfl))) (pe_op op_mulW (pe_ix ix_tup (pv 1) pe_int (fun _ _ => rfl)) (pe_ix ix_tup (pv 0) pe_int (fun _ _ => rfl)))) (pa_cons (pe_op op_mulW (pe_ix ix_tup (pv 0) pe_int (fun _ _ => rfl)) (pe_ix ix_tup (pv 1) pe_int (fun _ _ => rfl))) pa_nil))))), ?_⟩
    refine ⟨.ref p, rfl, p, _, _, _, rfl, rfl, .inl (.inl hp), rfl, .ref q, rfl, q, _, _, _, rfl, rfl, .inl (.inl hq), rfl, _, _, rfl, rfl, wide_mul sx.1 sy.2 a0 b0 (by omega), .ref q, rfl, q, _, _, _, rfl, rfl, .inl (.inl hq), rfl, .ref p, rfl, p, _, _, _, rfl, rfl, .inl (.inl hp), rfl, _, _, rfl, rfl, wide_mul sy.1 sx.2 b0 a0 (by omega), _, _, rfl, rfl, .ref p, rfl, p, _, _, _, rfl, rfl, .inl (.inl hp), rfl, .ref q, rfl, q, _, _, _, rfl, rfl, .inl (.inl hq), rfl, _, _, rfl, rfl, wide_mul sx.2 sy.2 a0 b0 (by omega), ?_⟩
    exact ⟨_, _, a + b, rfl, Int.mul_pos px py, Fr.mul_lt2 sx.2 sy.2, by omega, by omega, fun t nt => k _ t (same_upd nt) upd_same⟩

/-! ### subtract_fractions -/
abbrev s_subtract_fractions : Stmt := topS 7
abbrev N_subtract_fractions : List Str := ["one", "other"]
abbrev P_subtract_fractions : List Str := ["one", "other"]
theorem sc_subtract_fractions : FnScope N_subtract_fractions P_subtract_fractions (defScope s_subtract_fractions) := ⟨rfl, rfl, rfl, by decide +kernel, rfl, by decide +kernel, by decide +kernel⟩
def sp_subtract_fractions : Sp := fun vs H Q _ => ∃ (p q : Addr) (x y : Int × Int) (a b : Nat), vs = [.ref p, .ref q] ∧ FrAt H p x ∧ FrAt H q y ∧ 0 < x.2 ∧ 0 < y.2 ∧ Fr.Sz a x ∧ Fr.Sz b y ∧ 0 < a ∧ 0 < b ∧ a + b ≤ 8000 ∧
  ∀ H' t, Same H H' → FrAt H' t (Fr.sub x y) → Q (.ref t) H'
theorem ok_subtract_fractions (d : IsDef K mg "subtract_fractions" s_subtract_fractions P_subtract_fractions) (h_make_fraction : Ok P w K mg base 2 "make_fraction" s_make_fraction P_make_fraction sp_make_fraction) : Ok P w K mg base 3 "subtract_fractions" s_subtract_fractions P_subtract_fractions sp_subtract_fractions := by
  obtain ⟨f, fd, D⟩ := d
  obtain ⟨f_make_fraction, fd_make_fraction, ⟨F_make_fraction, b_make_fraction, g_make_fraction⟩, G_make_fraction⟩ := h_make_fraction
  refine ⟨f, fd, D, D.F.ok sc_subtract_fractions (fun vs H Q E h => ?_) (fun cdv A outer s H vs Q E hr h => ?_)⟩
  · obtain ⟨p, q, x, y, a, b, rfl, _⟩ := h
    rfl
  · obtain ⟨p, q, x, y, a, b, rfl, hp, hq, px, py, sx, sy, a0, b0, ab, k⟩ := h
    refine ⟨_, (pss_one (ps_ret (pe_call G_make_fraction (hr.mono (by decide)) (by rfl) g_make_fraction F_make_fraction.kp b_make_fraction .nil pass0 (pa_cons (pe_op op_sub (pe_op op_mulW (pe_ix ix_tup (pv 0) pe_int (fun _ _ => rfl)) (pe_ix ix_tup (pv 1) pe_int (fun _ _ => rfl))) (pe_op op_mulW (pe_ix ix_tup (pv 1) pe_int (fun _ _ => rfl)) (pe_ix ix_tup (pv 0) pe_int (fun _ _ => rfl)))) (pa_cons (pe_op op_mulW (pe_ix ix_tup (pv 0) pe_int (fun _ _ => rfl)) (pe_ix ix_tup (pv 1) pe_int (fun _ _ => rfl))) pa_nil))))), ?_⟩
    refine ⟨.ref p, rfl, p, _, _, _, rfl, rfl, .inl (.inl hp), rfl, .ref q, rfl, q, _, _, _, rfl, rfl, .inl (.inl hq), rfl, _, _, rfl, rfl, wide_mul sx.1 sy.2 a0 b0 (by omega), .ref q, rfl, q, _, _, _, rfl, rfl, .inl (.inl hq), rfl, .ref p, rfl, p, _, _, _, rfl, rfl, .inl (.inl hp), rfl, _, _, rfl, rfl, wide_mul sy.1 sx.2 b0 a0 (by omega), _, _, rfl, rfl, .ref p, rfl, p, _, _, _, rfl, rfl, .inl (.inl hp), rfl, .ref q, rfl, q, _, _, _, rfl, rfl, .inl (.inl hq), rfl, _, _, rfl, rfl, wide_mul sx.2 sy.2 a0 b0 (by omega), ?_⟩
    exact ⟨_, _, a + b, rfl, Int.mul_pos px py, Fr.mul_lt2 sx.2 sy.2, by omega, by omega, fun t nt => k _ t (same_upd nt) upd_same⟩

/-! ### multiply_fractions -/
abbrev s_multiply_fractions : Stmt := topS 8
abbrev N_multiply_fractions : List Str := ["one", "other"]
abbrev P_multiply_fractions : List Str := ["one", "other"]
theorem sc_multiply_fractions : FnScope N_multiply_fractions P_multiply_fractions (defScope s_multiply_fractions) := ⟨rfl, rfl, rfl, by decide +kernel, rfl, by decide +kernel, by decide +kernel⟩
def sp_multiply_fractions : Sp := fun vs H Q _ => ∃ (p q : Addr) (x y : Int × Int) (a b : Nat), vs = [.ref p, .ref q] ∧ FrAt H p x ∧ FrAt H q y ∧ 0 < x.2 ∧ 0 < y.2 ∧ Fr.Sz a x ∧ Fr.Sz b y ∧ 0 < a ∧ 0 < b ∧ a + b ≤ 8000 ∧
  ∀ H' t, Same H H' → FrAt H' t (Fr.mul x y) → Q (.ref t) H'
theorem ok_multiply_fractions (d : IsDef K mg "multiply_fractions" s_multiply_fractions P_multiply_fractions) (h_make_fraction : Ok P w K mg base 2 "make_fraction" s_make_fraction P_make_fraction sp_make_fraction) : Ok P w K mg base 3 "multiply_fractions" s_multiply_fractions P_multiply_fractions sp_multiply_fractions := by
  obtain ⟨f, fd, D⟩ := d
  obtain ⟨f_make_fraction, fd_make_fraction, ⟨F_make_fraction, b_make_fraction, g_make_fraction⟩, G_make_fraction⟩ := h_make_fraction
  refine ⟨f, fd, D, D.F.ok sc_multiply_fractions (fun vs H Q E h => ?_) (fun cdv A outer s H vs Q E hr h => ?_)⟩
  · obtain ⟨p, q, x, y, a, b, rfl, _⟩ := h
    rfl
  · obtain ⟨p, q, x, y, a, b, rfl, hp, hq, px, py, sx, sy, a0, b0, ab, k⟩ := h
    refine ⟨_, (pss_one (ps_ret (pe_call G_make_fraction (hr.mono (by decide)) (by rfl) g_make_fraction F_make_fraction.kp b_make_fraction .nil pass0 (pa_cons (pe_op op_mulW (pe_ix ix_tup (pv 0) pe_int (fun _ _ => rfl)) (pe_ix ix_tup (pv 1) pe_int (fun _ _ => rfl))) (pa_cons (pe_op op_mulW (pe_ix ix_tup (pv 0) pe_int (fun _ _ => rfl)) (pe_ix ix_tup (pv 1) pe_int (fun _ _ => rfl))) pa_nil))))), ?_⟩
    refine ⟨.ref p, rfl, p, _, _, _, rfl, rfl, .inl (.inl hp), rfl, .ref q, rfl, q, _, _, _, rfl, rfl, .inl (.inl hq), rfl, _, _, rfl, rfl, wide_mul sx.1 sy.1 a0 b0 (by omega), .ref p, rfl, p, _, _, _, rfl, rfl, .inl (.inl hp), rfl, .ref q, rfl, q, _, _, _, rfl, rfl, .inl (.inl hq), rfl, _, _, rfl, rfl, wide_mul sx.2 sy.2 a0 b0 (by omega), ?_⟩
    exact ⟨_, _, a + b, rfl, Int.mul_pos px py, Fr.mul_lt2 sx.2 sy.2, by omega, by omega, fun t nt => k _ t (same_upd nt) upd_same⟩

/-! ### compare_fractions -/
abbrev s_compare_fractions : Stmt := topS 9
abbrev N_compare_fractions : List Str := ["one", "other", "left", "right"]
abbrev P_compare_fractions : List Str := ["one", "other"]
theorem sc_compare_fractions : FnScope N_compare_fractions P_compare_fractions (defScope s_compare_fractions) := ⟨rfl, rfl, rfl, by decide +kernel, rfl, by decide +kernel, by decide +kernel⟩
def sp_compare_fractions : Sp := fun vs H Q _ => ∃ (p q : Addr) (x y : Int × Int) (a b : Nat), vs = [.ref p, .ref q] ∧ FrAt H p x ∧ FrAt H q y ∧ Fr.Sz a x ∧ Fr.Sz b y ∧ 0 < a ∧ 0 < b ∧ a + b ≤ 8000 ∧
  Q (.int (Fr.cmp x y)) H
theorem ok_compare_fractions (d : IsDef K mg "compare_fractions" s_compare_fractions P_compare_fractions) : Ok P w K mg base 1 "compare_fractions" s_compare_fractions P_compare_fractions sp_compare_fractions := by
  obtain ⟨f, fd, D⟩ := d
  refine ⟨f, fd, D, D.F.ok sc_compare_fractions (fun vs H Q E h => ?_) (fun cdv A outer s H vs Q E hr h => ?_)⟩
  · obtain ⟨p, q, x, y, a, b, rfl, _⟩ := h
    rfl
  · obtain ⟨p, q, x, y, a, b, rfl, hp, hq, sx, sy, a0, b0, ab, k⟩ := h
    refine ⟨_, (pss_cons (ps_set (i := 2) sc_compare_fractions.nd rfl (.inl rfl) (pe_op op_mulW (pe_ix ix_tup (pv 0) pe_int (fun _ _ => rfl)) (pe_ix ix_tup (pv 1) pe_int (fun _ _ => rfl))))
      (pss_cons (ps_set (i := 3) sc_compare_fractions.nd rfl (.inl rfl) (pe_op op_mulW (pe_ix ix_tup (pv 1) pe_int (fun _ _ => rfl)) (pe_ix ix_tup (pv 0) pe_int (fun _ _ => rfl))))
      (pss_cons (ps_if (pt_cmpR op_lt (pv 2) (pv 3) (nomark _)) (pss_one (ps_ret (pe_un un_neg pe_int))) pss_nil)
      (pss_cons (ps_if (pt_cmpR op_gt (pv 2) (pv 3) (nomark _)) (pss_one (ps_ret pe_int)) pss_nil)
      (pss_one (ps_ret pe_int)))))), ?_⟩
    refine ⟨.ref p, rfl, p, _, _, _, rfl, rfl, .inl (.inl hp), rfl, .ref q, rfl, q, _, _, _, rfl, rfl, .inl (.inl hq), rfl, _, _, rfl, rfl, wide_mul sx.1 sy.2 a0 b0 (by omega), .ref q, rfl, q, _, _, _, rfl, rfl, .inl (.inl hq), rfl, .ref p, rfl, p, _, _, _, rfl, rfl, .inl (.inl hp), rfl, _, _, rfl, rfl, wide_mul sy.1 sx.2 b0 a0 (by omega), ?_⟩
    unfold Fr.cmp at k
    refine ⟨.int (x.1 * y.2), rfl, .int (y.1 * x.2), rfl, _, _, rfl, rfl, _, rfl, ite2 (fun e => ?_) (fun e => ?_)⟩
    · rw [if_pos (of_decide_eq_true e)] at k
      exact ⟨_, rfl, k⟩
    · rw [if_neg (fun z => e (decide_eq_true z))] at k
      refine ⟨.int (x.1 * y.2), rfl, .int (y.1 * x.2), rfl, _, _, rfl, rfl, _, rfl, ite2 (fun e => ?_) (fun e => ?_)⟩
      · rw [if_pos (of_decide_eq_true e)] at k
        exact k
      · rw [if_neg (fun z => e (decide_eq_true z))] at k
        exact k
end
end PM

namespace PM
open PySem PySem.Spec PyProof.Rows L2
section
variable {P : Program} {w : World} {K : PySem.W.Frag} {mg : Str → Option Value} {base : Heap}
/-! ### a drawn fraction -/
abbrev s__law_fraction : Stmt := topS 14
abbrev N__law_fraction : List Str := ["_law_drawn", "_law_great"]
abbrev P__law_fraction : List Str := ["_law_drawn"]
theorem sc__law_fraction : FnScope N__law_fraction P__law_fraction (defScope s__law_fraction) := ⟨rfl, rfl, rfl, by decide +kernel, rfl, by decide +kernel, by decide +kernel⟩
def sp__law_fraction : Sp := fun vs H Q _ => ∃ (a c r : Addr) (n : Nat), vs = [.ref a] ∧ Drw H a c r n ∧ n < 900000 ∧
  ∀ H' t x, Fr.IsF x → Fr.Sz 100 x → Drw H' a c r (n + 3) → Keep a r H H' → H t = none → FrAt H' t x → Q (.ref t) H'
theorem ok__law_fraction (d : IsDef K mg "_law_fraction" s__law_fraction P__law_fraction) (h__law_next : Ok P w K mg base 1 "_law_next" s__law_next P__law_next sp__law_next) (h__law_lowest : Ok P w K mg base 1 "_law_lowest" s__law_lowest P__law_lowest sp__law_lowest) : Ok P w K mg base 2 "_law_fraction" s__law_fraction P__law_fraction sp__law_fraction := by
  obtain ⟨f, fd, D⟩ := d
  obtain ⟨f__law_next, fd__law_next, ⟨F__law_next, b__law_next, g__law_next⟩, G__law_next⟩ := h__law_next
  obtain ⟨f__law_lowest, fd__law_lowest, ⟨F__law_lowest, b__law_lowest, g__law_lowest⟩, G__law_lowest⟩ := h__law_lowest
  refine ⟨f, fd, D, D.F.ok sc__law_fraction (fun vs H Q E h => ?_) (fun cdv A outer s H vs Q E hr h => ?_)⟩
  · obtain ⟨a, c, r, n, rfl, _⟩ := h
    rfl
  · obtain ⟨a, c, r, n, rfl, dr, hn, q⟩ := h
    refine ⟨_, (pss_cons (ps_set (i := 1) sc__law_fraction.nd rfl (.inl rfl) (pe_ix ix_list (pe_lst (pa_cons pe_int (pa_cons pe_int (pa_cons (pe_op op_pow pe_int pe_int) (pa_cons (pe_op op_pow pe_int pe_int) pa_nil))))) (pe_call G__law_next (hr.mono (by decide)) (by rfl) g__law_next F__law_next.kp b__law_next .nil pass0 (pa_cons (pv 0) (pa_cons pe_int pa_nil))) (fun _ _ => rfl)))
      (pss_one (ps_ret (pe_call G__law_lowest (hr.mono (by decide)) (by rfl) g__law_lowest F__law_lowest.kp b__law_lowest .nil pass0 (pa_cons (pe_op op_sub (pe_call G__law_next (hr.mono (by decide)) (by rfl) g__law_next F__law_next.kp b__law_next .nil pass0 (pa_cons (pv 0) (pa_cons (pe_op op_add (pe_op op_mulW pe_int (pv 1)) pe_int) pa_nil))) (pv 1)) (pa_cons (pe_op op_add pe_int (pe_call G__law_next (hr.mono (by decide)) (by rfl) g__law_next F__law_next.kp b__law_next .nil pass0 (pa_cons (pv 0) (pa_cons (pv 1) pa_nil)))) pa_nil)))))), ?_⟩
    refine ⟨_, _, rfl, rfl, ⟨by decide, by decide, by decide⟩, _, _, rfl, rfl, ⟨by decide, by decide, by decide⟩, toks (by show 4 ≤ 1000; decide), fun p1 n1 => ?_⟩
    have k1 : Keep a r H (upd H p1 (.lst [.int 3, .int 9, .int ((10 : Int) ^ Int.toNat 6), .int ((10 : Int) ^ Int.toNat 29)])) := .same (same_upd n1)
    have d1 := dr.new (o := .lst [.int 3, .int 9, .int ((10 : Int) ^ Int.toNat 6), .int ((10 : Int) ^ Int.toNat 29)]) n1
    refine ⟨.ref a, rfl, a, c, r, n, 4, rfl, d1, by omega, by decide, by decide, fun v H1 v0 v4 d2 k2 => ?_⟩
    have hp1 : H1 p1 = some (.lst [.int 3, .int 9, .int ((10 : Int) ^ Int.toNat 6), .int ((10 : Int) ^ Int.toNat 29)]) := k2 _ _ (dr.ne_new n1).1 (dr.ne_new n1).2.2 upd_same
    obtain ⟨g, hg, g0, g1⟩ : ∃ g : Int, atI [V.int 3, V.int 9, V.int ((10 : Int) ^ Int.toNat 6), V.int ((10 : Int) ^ Int.toNat 29)] v = some (V.int g) ∧ 1 ≤ g ∧ g ≤ 10 ^ 29 := by
      have e : v = 0 ∨ v = 1 ∨ v = 2 ∨ v = 3 := by omega
      rcases e with e | e | e | e
      · subst e
        exact ⟨3, rfl, by decide, by decide⟩
      · subst e
        exact ⟨9, rfl, by decide, by decide⟩
      · subst e
        exact ⟨(10 : Int) ^ Int.toNat 6, rfl, by decide, by decide⟩
      · subst e
        exact ⟨(10 : Int) ^ Int.toNat 29, rfl, by decide, by decide⟩
    refine ⟨p1, _, v, _, rfl, rfl, .inl (.inl hp1), hg, ?_⟩
    have gb : g.natAbs < 2 ^ 97 := by omega
    refine ⟨.ref a, rfl, .int g, rfl, _, _, rfl, rfl, wide_mul (a := 2) (b := 97) (by decide) gb (by decide) (by decide) (by decide), _, _, rfl, rfl, a, c, r, n + 1, _, rfl, d2, by omega, ?_, ?_, fun u H2 u0 u1 d3 k3 => ?_⟩
    · show 0 < 2 * g + 1
      omega
    · refine Nat.lt_of_lt_of_le (PySem.Flt.log2_lt_of (show 0 < 100 by decide) ?_) (by decide : 100 ≤ 9000)
      show (2 * g + 1).natAbs < 2 ^ 100
      omega
    refine ⟨.int g, rfl, _, _, rfl, rfl, .ref a, rfl, .int g, rfl, a, c, r, n + 2, _, rfl, d3, by omega, by omega, ?_, fun y H3 y0 y1 d4 k4 => ?_⟩
    · refine Nat.lt_of_lt_of_le (PySem.Flt.log2_lt_of (show 0 < 100 by decide) ?_) (by decide : 100 ≤ 9000)
      omega
    refine ⟨_, _, rfl, rfl, u - g, 1 + y, 100, rfl, by omega, by omega, by decide, by decide, fun t nt => ?_⟩
    have kk : Keep a r H H3 := ((k1.trans k2).trans k3).trans k4
    refine q _ t (Fr.red (u - g) (1 + y)) (Fr.red_isF (by omega)) (Fr.red_sz (by show (u - g).natAbs < 2 ^ 100; replace u1 : u < 2 * g + 1 := u1; omega) (by omega)) (d4.new nt) (kk.trans (.same (same_upd nt))) ?_ upd_same
    cases e : H t with
    | none => rfl
    | some o =>
      have ne : t ≠ a ∧ t ≠ c ∧ t ≠ r := d4.ne_new nt
      rw [kk t o ne.1 ne.2.2 e] at nt
      cases nt
/-! ### _law_sums_right -/
abbrev s__law_sums_right : Stmt := topS 15
abbrev N__law_sums_right : List Str := ["_law_one", "_law_other", "_law_third", "_law_total", "_law_product", "_law_parts"]
abbrev P__law_sums_right : List Str := ["_law_one", "_law_other", "_law_third"]
theorem sc__law_sums_right : FnScope N__law_sums_right P__law_sums_right (defScope s__law_sums_right) := ⟨rfl, rfl, rfl, by decide +kernel, rfl, by decide +kernel, by decide +kernel⟩
def sp__law_sums_right : Sp := fun vs H Q _ => ∃ (p q r : Addr) (x y z : Int × Int), vs = [.ref p, .ref q, .ref r] ∧ FrAt H p x ∧ FrAt H q y ∧ FrAt H r z ∧ Fr.IsF x ∧ Fr.IsF y ∧ Fr.IsF z ∧ Fr.Sz 100 x ∧ Fr.Sz 100 y ∧ Fr.Sz 100 z ∧
  ∀ H', Same H H' → Q (.bl true) H'
theorem ok__law_sums_right (d : IsDef K mg "_law_sums_right" s__law_sums_right P__law_sums_right) (h_add_fractions : Ok P w K mg base 3 "add_fractions" s_add_fractions P_add_fractions sp_add_fractions) (h_subtract_fractions : Ok P w K mg base 3 "subtract_fractions" s_subtract_fractions P_subtract_fractions sp_subtract_fractions) (h_multiply_fractions : Ok P w K mg base 3 "multiply_fractions" s_multiply_fractions P_multiply_fractions sp_multiply_fractions) : Ok P w K mg base 4 "_law_sums_right" s__law_sums_right P__law_sums_right sp__law_sums_right := by
  obtain ⟨f, fd, D⟩ := d
  obtain ⟨f_add_fractions, fd_add_fractions, ⟨F_add_fractions, b_add_fractions, g_add_fractions⟩, G_add_fractions⟩ := h_add_fractions
  obtain ⟨f_subtract_fractions, fd_subtract_fractions, ⟨F_subtract_fractions, b_subtract_fractions, g_subtract_fractions⟩, G_subtract_fractions⟩ := h_subtract_fractions
  obtain ⟨f_multiply_fractions, fd_multiply_fractions, ⟨F_multiply_fractions, b_multiply_fractions, g_multiply_fractions⟩, G_multiply_fractions⟩ := h_multiply_fractions
  refine ⟨f, fd, D, D.F.ok sc__law_sums_right (fun vs H Q E h => ?_) (fun cdv A outer s H vs Q E hr h => ?_)⟩
  · obtain ⟨p, q, r, x, y, z, rfl, _⟩ := h
    rfl
  · obtain ⟨p, q, r, x, y, z, rfl, hp, hq, hz, ix, iy, iz, zx, zy, zz, k⟩ := h
    refine ⟨_, (pss_cons (ps_set (i := 3) sc__law_sums_right.nd rfl (.inl rfl) (pe_call G_add_fractions (hr.mono (by decide)) (by rfl) g_add_fractions F_add_fractions.kp b_add_fractions .nil pass0 (pa_cons (pv 0) (pa_cons (pv 1) pa_nil))))
      (pss_cons (ps_if (PW.pt (pw_or (pt_cmpR (op_neD hr.units) (pe_call G_add_fractions (hr.mono (by decide)) (by rfl) g_add_fractions F_add_fractions.kp b_add_fractions .nil pass0 (pa_cons (pv 1) (pa_cons (pv 0) pa_nil))) (pv 3) (nomark _)) (pw_or1 (pt_cmpR (op_neD hr.units) (pe_call G_subtract_fractions (hr.mono (by decide)) (by rfl) g_subtract_fractions F_subtract_fractions.kp b_subtract_fractions .nil pass0 (pa_cons (pv 3) (pa_cons (pv 1) pa_nil))) (pv 0) (nomark _))))) (pss_one (ps_ret pe_bl)) pss_nil)
      (pss_cons (ps_if (pt_cmpR (op_neD hr.units) (pe_call G_add_fractions (hr.mono (by decide)) (by rfl) g_add_fractions F_add_fractions.kp b_add_fractions .nil pass0 (pa_cons (pv 3) (pa_cons (pv 2) pa_nil))) (pe_call G_add_fractions (hr.mono (by decide)) (by rfl) g_add_fractions F_add_fractions.kp b_add_fractions .nil pass0 (pa_cons (pv 0) (pa_cons (pe_call G_add_fractions (hr.mono (by decide)) (by rfl) g_add_fractions F_add_fractions.kp b_add_fractions .nil pass0 (pa_cons (pv 1) (pa_cons (pv 2) pa_nil))) pa_nil))) (nomark _)) (pss_one (ps_ret pe_bl)) pss_nil)
      (pss_cons (ps_set (i := 4) sc__law_sums_right.nd rfl (.inl rfl) (pe_call G_multiply_fractions (hr.mono (by decide)) (by rfl) g_multiply_fractions F_multiply_fractions.kp b_multiply_fractions .nil pass0 (pa_cons (pv 0) (pa_cons (pv 1) pa_nil))))
      (pss_cons (ps_if (pt_cmpR (op_neD hr.units) (pe_call G_multiply_fractions (hr.mono (by decide)) (by rfl) g_multiply_fractions F_multiply_fractions.kp b_multiply_fractions .nil pass0 (pa_cons (pv 1) (pa_cons (pv 0) pa_nil))) (pv 4) (nomark _)) (pss_one (ps_ret pe_bl)) pss_nil)
      (pss_cons (ps_if (pt_cmpR (op_neD hr.units) (pe_call G_multiply_fractions (hr.mono (by decide)) (by rfl) g_multiply_fractions F_multiply_fractions.kp b_multiply_fractions .nil pass0 (pa_cons (pv 4) (pa_cons (pv 2) pa_nil))) (pe_call G_multiply_fractions (hr.mono (by decide)) (by rfl) g_multiply_fractions F_multiply_fractions.kp b_multiply_fractions .nil pass0 (pa_cons (pv 0) (pa_cons (pe_call G_multiply_fractions (hr.mono (by decide)) (by rfl) g_multiply_fractions F_multiply_fractions.kp b_multiply_fractions .nil pass0 (pa_cons (pv 1) (pa_cons (pv 2) pa_nil))) pa_nil))) (nomark _)) (pss_one (ps_ret pe_bl)) pss_nil)
      (pss_cons (ps_set (i := 5) sc__law_sums_right.nd rfl (.inl rfl) (pe_call G_add_fractions (hr.mono (by decide)) (by rfl) g_add_fractions F_add_fractions.kp b_add_fractions .nil pass0 (pa_cons (pe_call G_multiply_fractions (hr.mono (by decide)) (by rfl) g_multiply_fractions F_multiply_fractions.kp b_multiply_fractions .nil pass0 (pa_cons (pv 0) (pa_cons (pv 2) pa_nil))) (pa_cons (pe_call G_multiply_fractions (hr.mono (by decide)) (by rfl) g_multiply_fractions F_multiply_fractions.kp b_multiply_fractions .nil pass0 (pa_cons (pv 1) (pa_cons (pv 2) pa_nil))) pa_nil))))
      (pss_one (ps_ret (pe_cmpR (op_eqD hr.units) (pe_call G_multiply_fractions (hr.mono (by decide)) (by rfl) g_multiply_fractions F_multiply_fractions.kp b_multiply_fractions .nil pass0 (pa_cons (pv 3) (pa_cons (pv 2) pa_nil))) (pv 5) (nomark _))))))))))), ?_⟩
    refine ⟨.ref p, rfl, .ref q, rfl, p, q, x, y, 100, 100, rfl, hp, hq, ix.1, iy.1, zx, zy, by decide, by decide, by decide, fun H1 t1 s1 f1 => ?_⟩
    replace hp := hp.same s1
    replace hq := hq.same s1
    replace hz := hz.same s1
    refine ⟨.ref q, rfl, .ref p, rfl, q, p, y, x, 100, 100, rfl, hq, hp, iy.1, ix.1, zy, zx, by decide, by decide, by decide, fun H2 t2 s2 f2 => ?_⟩
    replace hp := hp.same s2
    replace hq := hq.same s2
    replace hz := hz.same s2
    replace f1 := f1.same s2
    refine ⟨.ref t1, rfl, _, _, frD f2, frD f1, rfl, rfl, _, rfl, neF (Fr.m_comm ix iy) ?_⟩
    refine ⟨.ref t1, rfl, .ref q, rfl, t1, q, (Fr.add x y), y, 201, 100, rfl, f1, hq, (Fr.add_isF ix iy).1, iy.1, (Fr.add_sz zx zy), zy, by decide, by decide, by decide, fun H3 t3 s3 f3 => ?_⟩
    replace hp := hp.same s3
    replace hq := hq.same s3
    replace hz := hz.same s3
    replace f1 := f1.same s3
    replace f2 := f2.same s3
    refine ⟨.ref p, rfl, _, _, frD f3, frD hp, rfl, rfl, _, rfl, neF (Fr.m_back ix iy) ?_⟩
    refine ⟨.ref t1, rfl, .ref r, rfl, t1, r, (Fr.add x y), z, 201, 100, rfl, f1, hz, (Fr.add_isF ix iy).1, iz.1, (Fr.add_sz zx zy), zz, by decide, by decide, by decide, fun H4 t4 s4 f4 => ?_⟩
    replace hp := hp.same s4
    replace hq := hq.same s4
    replace hz := hz.same s4
    replace f1 := f1.same s4
    replace f2 := f2.same s4
    replace f3 := f3.same s4
    refine ⟨.ref p, rfl, .ref q, rfl, .ref r, rfl, q, r, y, z, 100, 100, rfl, hq, hz, iy.1, iz.1, zy, zz, by decide, by decide, by decide, fun H5 t5 s5 f5 => ?_⟩
    replace hp := hp.same s5
    replace hq := hq.same s5
    replace hz := hz.same s5
    replace f1 := f1.same s5
    replace f2 := f2.same s5
    replace f3 := f3.same s5
    replace f4 := f4.same s5
    refine ⟨p, t5, x, (Fr.add y z), 100, 201, rfl, hp, f5, ix.1, (Fr.add_isF iy iz).1, zx, (Fr.add_sz zy zz), by decide, by decide, by decide, fun H6 t6 s6 f6 => ?_⟩
    replace hp := hp.same s6
    replace hq := hq.same s6
    replace hz := hz.same s6
    replace f1 := f1.same s6
    replace f2 := f2.same s6
    replace f3 := f3.same s6
    replace f4 := f4.same s6
    replace f5 := f5.same s6
    refine ⟨_, _, frD f4, frD f6, rfl, rfl, _, rfl, neF (Fr.m_assoc ix iy iz) ?_⟩
    refine ⟨.ref p, rfl, .ref q, rfl, p, q, x, y, 100, 100, rfl, hp, hq, ix.1, iy.1, zx, zy, by decide, by decide, by decide, fun H7 t7 s7 f7 => ?_⟩
    replace hp := hp.same s7
    replace hq := hq.same s7
    replace hz := hz.same s7
    replace f1 := f1.same s7
    replace f2 := f2.same s7
    replace f3 := f3.same s7
    replace f4 := f4.same s7
    replace f5 := f5.same s7
    replace f6 := f6.same s7
    refine ⟨.ref q, rfl, .ref p, rfl, q, p, y, x, 100, 100, rfl, hq, hp, iy.1, ix.1, zy, zx, by decide, by decide, by decide, fun H8 t8 s8 f8 => ?_⟩
    replace hp := hp.same s8
    replace hq := hq.same s8
    replace hz := hz.same s8
    replace f1 := f1.same s8
    replace f2 := f2.same s8
    replace f3 := f3.same s8
    replace f4 := f4.same s8
    replace f5 := f5.same s8
    replace f6 := f6.same s8
    replace f7 := f7.same s8
    refine ⟨.ref t7, rfl, _, _, frD f8, frD f7, rfl, rfl, _, rfl, neF (Fr.p_comm ix iy) ?_⟩
    refine ⟨.ref t7, rfl, .ref r, rfl, t7, r, (Fr.mul x y), z, 200, 100, rfl, f7, hz, (Fr.mul_isF ix iy).1, iz.1, (Fr.mul_sz zx zy), zz, by decide, by decide, by decide, fun H9 t9 s9 f9 => ?_⟩
    replace hp := hp.same s9
    replace hq := hq.same s9
    replace hz := hz.same s9
    replace f1 := f1.same s9
    replace f2 := f2.same s9
    replace f3 := f3.same s9
    replace f4 := f4.same s9
    replace f5 := f5.same s9
    replace f6 := f6.same s9
    replace f7 := f7.same s9
    replace f8 := f8.same s9
    refine ⟨.ref p, rfl, .ref q, rfl, .ref r, rfl, q, r, y, z, 100, 100, rfl, hq, hz, iy.1, iz.1, zy, zz, by decide, by decide, by decide, fun H10 t10 s10 f10 => ?_⟩
    replace hp := hp.same s10
    replace hq := hq.same s10
    replace hz := hz.same s10
    replace f1 := f1.same s10
    replace f2 := f2.same s10
    replace f3 := f3.same s10
    replace f4 := f4.same s10
    replace f5 := f5.same s10
    replace f6 := f6.same s10
    replace f7 := f7.same s10
    replace f8 := f8.same s10
    replace f9 := f9.same s10
    refine ⟨p, t10, x, (Fr.mul y z), 100, 200, rfl, hp, f10, ix.1, (Fr.mul_isF iy iz).1, zx, (Fr.mul_sz zy zz), by decide, by decide, by decide, fun H11 t11 s11 f11 => ?_⟩
    replace hp := hp.same s11
    replace hq := hq.same s11
    replace hz := hz.same s11
    replace f1 := f1.same s11
    replace f2 := f2.same s11
    replace f3 := f3.same s11
    replace f4 := f4.same s11
    replace f5 := f5.same s11
    replace f6 := f6.same s11
    replace f7 := f7.same s11
    replace f8 := f8.same s11
    replace f9 := f9.same s11
    replace f10 := f10.same s11
    refine ⟨_, _, frD f9, frD f11, rfl, rfl, _, rfl, neF (Fr.p_assoc ix iy iz) ?_⟩
    refine ⟨.ref p, rfl, .ref r, rfl, p, r, x, z, 100, 100, rfl, hp, hz, ix.1, iz.1, zx, zz, by decide, by decide, by decide, fun H12 t12 s12 f12 => ?_⟩
    replace hp := hp.same s12
    replace hq := hq.same s12
    replace hz := hz.same s12
    replace f1 := f1.same s12
    replace f2 := f2.same s12
    replace f3 := f3.same s12
    replace f4 := f4.same s12
    replace f5 := f5.same s12
    replace f6 := f6.same s12
    replace f7 := f7.same s12
    replace f8 := f8.same s12
    replace f9 := f9.same s12
    replace f10 := f10.same s12
    replace f11 := f11.same s12
    refine ⟨.ref q, rfl, .ref r, rfl, q, r, y, z, 100, 100, rfl, hq, hz, iy.1, iz.1, zy, zz, by decide, by decide, by decide, fun H13 t13 s13 f13 => ?_⟩
    replace hp := hp.same s13
    replace hq := hq.same s13
    replace hz := hz.same s13
    replace f1 := f1.same s13
    replace f2 := f2.same s13
    replace f3 := f3.same s13
    replace f4 := f4.same s13
    replace f5 := f5.same s13
    replace f6 := f6.same s13
    replace f7 := f7.same s13
    replace f8 := f8.same s13
    replace f9 := f9.same s13
    replace f10 := f10.same s13
    replace f11 := f11.same s13
    replace f12 := f12.same s13
    refine ⟨t12, t13, (Fr.mul x z), (Fr.mul y z), 200, 200, rfl, f12, f13, (Fr.mul_isF ix iz).1, (Fr.mul_isF iy iz).1, (Fr.mul_sz zx zz), (Fr.mul_sz zy zz), by decide, by decide, by decide, fun H14 t14 s14 f14 => ?_⟩
    replace hp := hp.same s14
    replace hq := hq.same s14
    replace hz := hz.same s14
    replace f1 := f1.same s14
    replace f2 := f2.same s14
    replace f3 := f3.same s14
    replace f4 := f4.same s14
    replace f5 := f5.same s14
    replace f6 := f6.same s14
    replace f7 := f7.same s14
    replace f8 := f8.same s14
    replace f9 := f9.same s14
    replace f10 := f10.same s14
    replace f11 := f11.same s14
    replace f12 := f12.same s14
    replace f13 := f13.same s14
    refine ⟨.ref t1, rfl, .ref r, rfl, t1, r, (Fr.add x y), z, 201, 100, rfl, f1, hz, (Fr.add_isF ix iy).1, iz.1, (Fr.add_sz zx zy), zz, by decide, by decide, by decide, fun H15 t15 s15 f15 => ?_⟩
    replace hp := hp.same s15
    replace hq := hq.same s15
    replace hz := hz.same s15
    replace f1 := f1.same s15
    replace f2 := f2.same s15
    replace f3 := f3.same s15
    replace f4 := f4.same s15
    replace f5 := f5.same s15
    replace f6 := f6.same s15
    replace f7 := f7.same s15
    replace f8 := f8.same s15
    replace f9 := f9.same s15
    replace f10 := f10.same s15
    replace f11 := f11.same s15
    replace f12 := f12.same s15
    replace f13 := f13.same s15
    replace f14 := f14.same s15
    refine ⟨.ref t14, rfl, _, _, frD f15, frD f14, rfl, rfl, ?_⟩
    rw [eqT (Fr.p_dist ix iy iz)]
    exact k _ (Same.trans (Same.trans (Same.trans (Same.trans (Same.trans (Same.trans (Same.trans (Same.trans (Same.trans (Same.trans (Same.trans (Same.trans (Same.trans (Same.trans s1 s2) s3) s4) s5) s6) s7) s8) s9) s10) s11) s12) s13) s14) s15)
/-! ### _law_order_right -/
abbrev s__law_order_right : Stmt := topS 16
abbrev N__law_order_right : List Str := ["_law_one", "_law_other", "_law_third", "_law_found", "_law_sign"]
abbrev P__law_order_right : List Str := ["_law_one", "_law_other", "_law_third"]
theorem sc__law_order_right : FnScope N__law_order_right P__law_order_right (defScope s__law_order_right) := ⟨rfl, rfl, rfl, by decide +kernel, rfl, by decide +kernel, by decide +kernel⟩
def sp__law_order_right : Sp := fun vs H Q _ => ∃ (p q r : Addr) (x y z : Int × Int), vs = [.ref p, .ref q, .ref r] ∧ FrAt H p x ∧ FrAt H q y ∧ FrAt H r z ∧ Fr.IsF x ∧ Fr.IsF y ∧ Fr.IsF z ∧ Fr.Sz 100 x ∧ Fr.Sz 100 y ∧ Fr.Sz 100 z ∧
  ∀ H', Same H H' → Q (.bl true) H'
theorem ok__law_order_right (d : IsDef K mg "_law_order_right" s__law_order_right P__law_order_right) (h_add_fractions : Ok P w K mg base 3 "add_fractions" s_add_fractions P_add_fractions sp_add_fractions) (h_compare_fractions : Ok P w K mg base 1 "compare_fractions" s_compare_fractions P_compare_fractions sp_compare_fractions) (h_multiply_fractions : Ok P w K mg base 3 "multiply_fractions" s_multiply_fractions P_multiply_fractions sp_multiply_fractions) : Ok P w K mg base 4 "_law_order_right" s__law_order_right P__law_order_right sp__law_order_right := by
  obtain ⟨f, fd, D⟩ := d
  obtain ⟨f_add_fractions, fd_add_fractions, ⟨F_add_fractions, b_add_fractions, g_add_fractions⟩, G_add_fractions⟩ := h_add_fractions
  obtain ⟨f_compare_fractions, fd_compare_fractions, ⟨F_compare_fractions, b_compare_fractions, g_compare_fractions⟩, G_compare_fractions⟩ := h_compare_fractions
  obtain ⟨f_multiply_fractions, fd_multiply_fractions, ⟨F_multiply_fractions, b_multiply_fractions, g_multiply_fractions⟩, G_multiply_fractions⟩ := h_multiply_fractions
  refine ⟨f, fd, D, D.F.ok sc__law_order_right (fun vs H Q E h => ?_) (fun cdv A outer s H vs Q E hr h => ?_)⟩
  · obtain ⟨p, q, r, x, y, z, rfl, _⟩ := h
    rfl
  · obtain ⟨p, q, r, x, y, z, rfl, hp, hq, hz, ix, iy, iz, zx, zy, zz, k⟩ := h
    refine ⟨_, (pss_cons (ps_set (i := 3) sc__law_order_right.nd rfl (.inl rfl) (pe_call G_compare_fractions (hr.mono (by decide)) (by rfl) g_compare_fractions F_compare_fractions.kp b_compare_fractions .nil pass0 (pa_cons (pv 0) (pa_cons (pv 1) pa_nil))))
      (pss_cons (ps_if (PW.pt (pw_or (pt_cmpR op_ne (pe_call G_compare_fractions (hr.mono (by decide)) (by rfl) g_compare_fractions F_compare_fractions.kp b_compare_fractions .nil pass0 (pa_cons (pv 1) (pa_cons (pv 0) pa_nil))) (pe_op op_sub pe_int (pv 3)) (nomark _)) (pw_or1 (pt_cmpR op_ne (pe_cmpR op_eq (pv 3) pe_int (nomark _)) (pe_cmpR (op_eqD hr.units) (pv 0) (pv 1) (nomark _)) (nomark _))))) (pss_one (ps_ret pe_bl)) pss_nil)
      (pss_cons (ps_if (pt_cmpR op_ne (pe_call G_compare_fractions (hr.mono (by decide)) (by rfl) g_compare_fractions F_compare_fractions.kp b_compare_fractions .nil pass0 (pa_cons (pe_call G_add_fractions (hr.mono (by decide)) (by rfl) g_add_fractions F_add_fractions.kp b_add_fractions .nil pass0 (pa_cons (pv 0) (pa_cons (pv 2) pa_nil))) (pa_cons (pe_call G_add_fractions (hr.mono (by decide)) (by rfl) g_add_fractions F_add_fractions.kp b_add_fractions .nil pass0 (pa_cons (pv 1) (pa_cons (pv 2) pa_nil))) pa_nil))) (pv 3) (nomark _)) (pss_one (ps_ret pe_bl)) pss_nil)
      (pss_cons (ps_set (i := 4) sc__law_order_right.nd rfl (.inl rfl) (pe_call G_compare_fractions (hr.mono (by decide)) (by rfl) g_compare_fractions F_compare_fractions.kp b_compare_fractions .nil pass0 (pa_cons (pv 2) (pa_cons (pe_tup (pa_cons pe_int (pa_cons pe_int pa_nil))) pa_nil))))
      (pss_cons (ps_if (pt_cmpR op_ne (pe_call G_compare_fractions (hr.mono (by decide)) (by rfl) g_compare_fractions F_compare_fractions.kp b_compare_fractions .nil pass0 (pa_cons (pe_call G_multiply_fractions (hr.mono (by decide)) (by rfl) g_multiply_fractions F_multiply_fractions.kp b_multiply_fractions .nil pass0 (pa_cons (pv 0) (pa_cons (pv 2) pa_nil))) (pa_cons (pe_call G_multiply_fractions (hr.mono (by decide)) (by rfl) g_multiply_fractions F_multiply_fractions.kp b_multiply_fractions .nil pass0 (pa_cons (pv 1) (pa_cons (pv 2) pa_nil))) pa_nil))) (pe_op op_mul (pv 3) (pv 4)) (nomark _)) (pss_one (ps_ret pe_bl)) pss_nil)
      (pss_cons (ps_if (PW.pt (pw_and (pt_cmpR op_le (pv 3) pe_int (nomark _)) (pw_and1 (pt_cmpR op_le (pe_call G_compare_fractions (hr.mono (by decide)) (by rfl) g_compare_fractions F_compare_fractions.kp b_compare_fractions .nil pass0 (pa_cons (pv 1) (pa_cons (pv 2) pa_nil))) pe_int (nomark _))))) (pss_one (ps_ret (pe_cmpR op_le (pe_call G_compare_fractions (hr.mono (by decide)) (by rfl) g_compare_fractions F_compare_fractions.kp b_compare_fractions .nil pass0 (pa_cons (pv 0) (pa_cons (pv 2) pa_nil))) pe_int (nomark _)))) pss_nil)
      (pss_one (ps_ret pe_bl)))))))), ?_⟩
    refine ⟨.ref p, rfl, .ref q, rfl, p, q, x, y, 100, 100, rfl, hp, hq, zx, zy, by decide, by decide, by decide, ?_⟩
    refine ⟨.ref q, rfl, .ref p, rfl, q, p, y, x, 100, 100, rfl, hq, hp, zy, zx, by decide, by decide, by decide, .int (Fr.cmp x y), rfl, _, _, rfl, rfl, rfl, _, rfl, neI (Fr.c_opp ix iy) ?_⟩
    refine ⟨.int (Fr.cmp x y), rfl, rfl, .ref p, rfl, .ref q, rfl, _, _, frD hp, frD hq, rfl, rfl, rfl, _, rfl, ?_⟩
    rw [eqv_fd, show decide (V.int (Fr.cmp x y) = V.int 0) = decide (x = y) from by
      by_cases e : x = y
      · rw [decide_eq_true e, (Fr.c_zero ix iy).mpr e]
        rfl
      · rw [decide_eq_false e, decide_eq_false (fun z => e ((Fr.c_zero ix iy).mp (V.int.inj z)))], decide_eq_true rfl]
    refine ⟨.ref p, rfl, .ref r, rfl, p, r, x, z, 100, 100, rfl, hp, hz, ix.1, iz.1, zx, zz, by decide, by decide, by decide, fun H1 t1 s1 f1 => ?_⟩
    replace hp := hp.same s1
    replace hq := hq.same s1
    replace hz := hz.same s1
    refine ⟨.ref q, rfl, .ref r, rfl, q, r, y, z, 100, 100, rfl, hq, hz, iy.1, iz.1, zy, zz, by decide, by decide, by decide, fun H2 t2 s2 f2 => ?_⟩
    replace hp := hp.same s2
    replace hq := hq.same s2
    replace hz := hz.same s2
    replace f1 := f1.same s2
    refine ⟨t1, t2, (Fr.add x z), (Fr.add y z), 201, 201, rfl, f1, f2, (Fr.add_sz zx zz), (Fr.add_sz zy zz), by decide, by decide, by decide, .int (Fr.cmp x y), rfl, rfl, _, rfl, neI (Fr.c_add ix iy iz) ?_⟩
    refine ⟨.ref r, rfl, toks (by show 2 ≤ 1000; decide), fun t0 n0 => ?_⟩
    have s0 := same_upd (ob := .tup [.int 0, .int 1]) n0
    replace hp := hp.same s0
    replace hq := hq.same s0
    replace hz := hz.same s0
    replace f1 := f1.same s0
    replace f2 := f2.same s0
    refine ⟨r, t0, z, (0, 1), 100, 100, rfl, hz, upd_same, zz, ⟨by decide, by decide⟩, by decide, by decide, by decide, ?_⟩
    refine ⟨.ref p, rfl, .ref r, rfl, p, r, x, z, 100, 100, rfl, hp, hz, ix.1, iz.1, zx, zz, by decide, by decide, by decide, fun H3 t3 s3 f3 => ?_⟩
    replace hp := hp.same s3
    replace hq := hq.same s3
    replace hz := hz.same s3
    replace f1 := f1.same s3
    replace f2 := f2.same s3
    refine ⟨.ref q, rfl, .ref r, rfl, q, r, y, z, 100, 100, rfl, hq, hz, iy.1, iz.1, zy, zz, by decide, by decide, by decide, fun H4 t4 s4 f4 => ?_⟩
    replace hp := hp.same s4
    replace hq := hq.same s4
    replace hz := hz.same s4
    replace f1 := f1.same s4
    replace f2 := f2.same s4
    replace f3 := f3.same s4
    refine ⟨t3, t4, (Fr.mul x z), (Fr.mul y z), 200, 200, rfl, f3, f4, (Fr.mul_sz zx zz), (Fr.mul_sz zy zz), by decide, by decide, by decide, .int (Fr.cmp x y), rfl, .int (Fr.cmp z (0, 1)), rfl, _, _, rfl, rfl, ?_, rfl, _, rfl, neI (Fr.c_mul ix iy iz) ?_⟩
    · have := Fr.c_bound x y
      exact .inl ⟨by omega, by omega⟩
    have sA := (Same.trans (Same.trans (Same.trans (Same.trans s1 s2) s0) s3) s4)
    refine ⟨.int (Fr.cmp x y), rfl, _, _, rfl, rfl, _, rfl, ite2 (fun e1 => ?_) (fun e1 => ?_)⟩
    · have e1 : Fr.cmp x y ≤ 0 := of_decide_eq_true e1
    
      refine ⟨.ref q, rfl, .ref r, rfl, q, r, y, z, 100, 100, rfl, hq, hz, zy, zz, by decide, by decide, by decide, _, _, rfl, rfl, _, rfl, ite2 (fun e2 => ?_) (fun e2 => ?_)⟩
      · have e2 : Fr.cmp y z ≤ 0 := of_decide_eq_true e2
        refine ⟨.ref p, rfl, .ref r, rfl, p, r, x, z, 100, 100, rfl, hp, hz, zx, zz, by decide, by decide, by decide, _, _, rfl, rfl, ?_⟩
        dsimp only
        rw [decide_eq_true (Fr.c_trans ix iy iz e1 e2)]
        exact k _ sA
      · exact k _ sA
    · exact k _ sA
/-! ### the law -/
structure Some3 (H : Hp) (D p0 p1 p2 : Addr) (x0 x1 x2 : Int × Int) : Prop where
  l : H D = some (.lst [.ref p0, .ref p1, .ref p2])
  f0 : FrAt H p0 x0
  f1 : FrAt H p1 x1
  f2 : FrAt H p2 x2
  i0 : Fr.IsF x0
  i1 : Fr.IsF x1
  i2 : Fr.IsF x2
  z0 : Fr.Sz 100 x0
  z1 : Fr.Sz 100 x1
  z2 : Fr.Sz 100 x2
theorem Some3.same {H H' : Hp} {D p0 p1 p2 : Addr} {x0 x1 x2 : Int × Int} (h : Some3 H D p0 p1 p2 x0 x1 x2) (s : Same H H') : Some3 H' D p0 p1 p2 x0 x1 x2 :=
  ⟨s _ _ h.l, h.f0.same s, h.f1.same s, h.f2.same s, h.i0, h.i1, h.i2, h.z0, h.z1, h.z2⟩
abbrev s_law : Stmt := topS 17
abbrev N_law : List Str := ["_law_script", "_law_drawn", "_law_turn", "_law_some", "_law_k"]
abbrev P_law : List Str := ["_law_script"]
theorem sc_law : FnScope N_law P_law (defScope s_law) := ⟨rfl, rfl, rfl, by decide +kernel, rfl, by decide +kernel, by decide +kernel⟩
def sp_law (K : PySem.W.Frag) : Sp := fun vs H Q _ => ∃ (a : Addr) (ns : List Int), vs = [.ref a] ∧ SqL K H a (ns.map V.int) ∧ ns.length ≤ 63 ∧ ∀ H', Q (.bl true) H'
theorem ok_law {fa : Addr} {fdl : FuncData} (Fl : Fun K "law" "law" s_law fa fdl) (gl : mg "law" = some (.ref fa)) (h__law_draws : Ok P w K mg base 1 "_law_draws" s__law_draws P__law_draws (sp__law_draws K)) (h__law_next : Ok P w K mg base 1 "_law_next" s__law_next P__law_next sp__law_next) (h__law_fraction : Ok P w K mg base 2 "_law_fraction" s__law_fraction P__law_fraction sp__law_fraction) (h__law_sums_right : Ok P w K mg base 4 "_law_sums_right" s__law_sums_right P__law_sums_right sp__law_sums_right) (h__law_order_right : Ok P w K mg base 4 "_law_order_right" s__law_order_right P__law_order_right sp__law_order_right) (h_make_fraction : Ok P w K mg base 2 "make_fraction" s_make_fraction P_make_fraction sp_make_fraction) (m_range : mg "range" = none) :
    FnOk P w K mg base CX0 5 fa fdl P_law (sp_law K) := by
  obtain ⟨f__law_draws, fd__law_draws, ⟨F__law_draws, b__law_draws, g__law_draws⟩, G__law_draws⟩ := h__law_draws
  obtain ⟨f__law_next, fd__law_next, ⟨F__law_next, b__law_next, g__law_next⟩, G__law_next⟩ := h__law_next
  obtain ⟨f__law_fraction, fd__law_fraction, ⟨F__law_fraction, b__law_fraction, g__law_fraction⟩, G__law_fraction⟩ := h__law_fraction
  obtain ⟨f__law_sums_right, fd__law_sums_right, ⟨F__law_sums_right, b__law_sums_right, g__law_sums_right⟩, G__law_sums_right⟩ := h__law_sums_right
  obtain ⟨f__law_order_right, fd__law_order_right, ⟨F__law_order_right, b__law_order_right, g__law_order_right⟩, G__law_order_right⟩ := h__law_order_right
  obtain ⟨f_make_fraction, fd_make_fraction, ⟨F_make_fraction, b_make_fraction, g_make_fraction⟩, G_make_fraction⟩ := h_make_fraction
  refine Fl.ok sc_law (fun vs H Q E h => ?_) (fun cdv A outer s H vs Q E hr h => ?_)
  · obtain ⟨a, ns, rfl, _⟩ := h
    rfl
  · obtain ⟨a, ns, rfl, hS, hl, k⟩ := h
    refine ⟨_, (pss_cons (ps_set (i := 1) sc_law.nd rfl (.inr rfl) (pe_call G__law_draws (hr.mono (by decide)) (by rfl) g__law_draws F__law_draws.kp b__law_draws .nil pass0 (pa_cons (pv 0) pa_nil)))
      (pss_cons (ps_for PassesOwn.never rfl (pi_range1 (by rfl) m_range (pa_cons pe_int pa_nil)) (pg_name (i := 2) sc_law.nd rfl (.inl rfl)) (pss_cons (ps_setLc (i := 3) (own := [("_law_k", 4)]) (g := gName 4) (by rfl) sc_law.nd rfl rfl (sw_true rfl rfl rfl (by decide +kernel)) (pi_range1 (by rfl) m_range (pa_cons pe_int pa_nil)) (blkOk_by (own := [("_law_k", 4)]) (N := N_law) (sc := defScope s_law) (by decide +kernel)) (fun _ _ _ _ _ => (pg_name (i := 4) sc_law.nd rfl (.inl rfl))) (fun _ _ _ _ _ => pts_nil) (fun _ _ _ _ _ => (pe_call G__law_fraction (hr.mono (by decide)) (by rfl) g__law_fraction F__law_fraction.kp b__law_fraction .nil pass0 (pa_cons (pv 1) pa_nil)))) (pss_cons (ps_if (pt_cmpR op_eq (pe_call G__law_next (hr.mono (by decide)) (by rfl) g__law_next F__law_next.kp b__law_next .nil pass0 (pa_cons (pv 1) (pa_cons pe_int pa_nil))) pe_int (nomark _)) (pss_one (ps_asg (pe_ix ix_list (pv 3) pe_int (fun _ _ => rfl)) (pg_sub (pv 3) pe_int set_list))) pss_nil) (pss_cons (ps_if (PW.pt (pw_or (pt_not (pt_val (pe_call G__law_sums_right (hr.mono (by decide)) (by rfl) g__law_sums_right F__law_sums_right.kp b__law_sums_right .nil pass0 (pa_cons (pe_ix ix_list (pv 3) pe_int (fun _ _ => rfl)) (pa_cons (pe_ix ix_list (pv 3) pe_int (fun _ _ => rfl)) (pa_cons (pe_ix ix_list (pv 3) pe_int (fun _ _ => rfl)) pa_nil)))))) (pw_or1 (pt_not (pt_val (pe_call G__law_order_right (hr.mono (by decide)) (by rfl) g__law_order_right F__law_order_right.kp b__law_order_right .nil pass0 (pa_cons (pe_ix ix_list (pv 3) pe_int (fun _ _ => rfl)) (pa_cons (pe_ix ix_list (pv 3) pe_int (fun _ _ => rfl)) (pa_cons (pe_ix ix_list (pv 3) pe_int (fun _ _ => rfl)) pa_nil))))))))) (pss_one (ps_ret pe_bl)) pss_nil) (pss_one (ps_if (pt_cmpR (op_neD hr.units) (pe_call G_make_fraction (hr.mono (by decide)) (by rfl) g_make_fraction F_make_fraction.kp b_make_fraction .nil pass0 (pa_cons (pe_ix ix_tup (pe_ix ix_list (pv 3) pe_int (fun _ _ => rfl)) pe_int (fun _ _ => rfl)) (pa_cons (pe_ix ix_tup (pe_ix ix_list (pv 3) pe_int (fun _ _ => rfl)) pe_int (fun _ _ => rfl)) pa_nil))) (pe_ix ix_list (pv 3) pe_int (fun _ _ => rfl)) (nomark _)) (pss_one (ps_ret pe_bl)) pss_nil))))))
      (pss_one (ps_ret pe_bl)))), ?_⟩
    refine ⟨.ref a, rfl, a, ns, rfl, hS, hl, fun H1 pa c r s1 _ _ _ dr => ?_⟩
    refine ⟨20, rfl, by decide, by decide, for_range (lo := 0) (n := 20) (fun i σ H' => Drw H' pa c r (i * 100) ∧ ∃ y2 y3 y4, σ = [some (.ref a), some (.ref pa), y2, y3, y4]) ⟨dr, none, none, none, rfl⟩ (fun i σ H2 hi hI => ?_) (fun σ H2 hI => k _)⟩
    obtain ⟨dr, y2, y3, y4, rfl⟩ := hI
    refine ⟨3, rfl, by decide, by decide, fun D nD => ?_⟩
    have nDd := dr.ne_new nD
    refine lc_range (lo := 0) (n := 3) (fun j H3 => Drw H3 pa c r (i * 100 + 3 * j) ∧ ∃ ps : List (Addr × (Int × Int)), ps.length = j ∧ H3 D = some (.lst (ps.map fun e => V.ref e.1)) ∧ ∀ e ∈ ps, FrAt H3 e.1 e.2 ∧ Fr.IsF e.2 ∧ Fr.Sz 100 e.2)
      ⟨dr.new nD, [], rfl, upd_same, fun e he => nomatch he⟩ (fun j H3 hj hP => ?_) (fun H3 hP => ?_)
    · obtain ⟨d3, ps, hlen, hD, hps⟩ := hP
      refine ⟨rfl, ?_⟩
      refine ⟨.ref pa, rfl, pa, c, r, i * 100 + 3 * j, rfl, d3, by omega, fun H4 t x ix zx d4 k4 nt ft => ?_⟩
      have hD4 := k4 _ _ nDd.1 nDd.2.2 hD
      refine ⟨_, hD4, ?_, ?_, ps ++ [(t, x)], ?_, ?_, ?_⟩
      · rw [List.length_map, hlen]
        exact small1000 (by omega)
      · exact (d4.off nDd).mono (by omega)
      · rw [List.length_append, hlen]
        rfl
      · rw [upd_same, List.map_append]
        rfl
      · intro e he
        rcases List.mem_append.mp he with he | he
        · obtain ⟨g1, g2, g3⟩ := hps e he
          exact ⟨(g1.keep d3 k4).upd_lst hD4, g2, g3⟩
        · rcases List.mem_cons.mp he with he | he
          · subst he
            exact ⟨ft.upd_lst hD4, ix, zx⟩
          · cases he
    · obtain ⟨d3, ps, hlen, hD, hps⟩ := hP
      obtain ⟨p0, p1, p2, x0, x1, x2, S⟩ : ∃ p0 p1 p2 x0 x1 x2, Some3 H3 D p0 p1 p2 x0 x1 x2 := by
        match ps, hlen, hD, hps with
        | [e0, e1, e2], _, hD, hps =>
          have g0 := hps e0 (by simp)
          have g1 := hps e1 (by simp)
          have g2 := hps e2 (by simp)
          exact ⟨_, _, _, e0.2, e1.2, e2.2, hD, g0.1, g1.1, g2.1, g0.2.1, g1.2.1, g2.2.1, g0.2.2, g1.2.2, g2.2.2⟩
      refine ⟨.ref pa, rfl, pa, c, r, i * 100 + 9, 5, rfl, d3, by omega, by decide, by decide, fun v H4 _ _ d4 k4 => ?_⟩
      have S4 : Some3 H4 D p0 p1 p2 x0 x1 x2 := ⟨k4 _ _ nDd.1 nDd.2.2 S.l, S.f0.keep d3 k4, S.f1.keep d3 k4, S.f2.keep d3 k4, S.i0, S.i1, S.i2, S.z0, S.z1, S.z2⟩
      refine ⟨rfl, _, rfl, ite2 (fun _ => ?A) (fun _ => ?B)⟩
      case' A =>
        refine ⟨.ref D, rfl, D, _, 0, _, rfl, rfl, .inl (.inl S4.l), rfl, .ref D, rfl, D, _, _, 1, rfl, rfl, S4.l, rfl, ?_⟩
        generalize hH5 : upd H4 D (HO.lst _) = H5
        obtain ⟨q1, w1, T⟩ : ∃ q1 w1, Some3 H5 D p0 q1 p2 x0 w1 x2 :=
          ⟨p0, x0, by rw [← hH5, upd_same]; rfl, hH5 ▸ S4.f0.upd_lst S4.l, hH5 ▸ S4.f0.upd_lst S4.l, hH5 ▸ S4.f2.upd_lst S4.l, S.i0, S.i0, S.i2, S.z0, S.z0, S.z2⟩
        have d5 : Drw H5 pa c r (i * 100 + 10) := hH5 ▸ d4.off nDd
      case' B =>
        rename Hp => H5
        obtain ⟨q1, w1, T⟩ : ∃ q1 w1, Some3 H5 D p0 q1 p2 x0 w1 x2 := ⟨p1, x1, S4⟩
        have d5 : Drw H5 pa c r (i * 100 + 10) := d4
      all_goals
        refine ⟨.ref D, rfl, D, _, _, _, rfl, rfl, .inl (.inl T.l), rfl, .ref D, rfl, D, _, _, _, rfl, rfl, .inl (.inl T.l), rfl, .ref D, rfl, D, _, _, _, rfl, rfl, .inl (.inl T.l), rfl, p0, q1, p2, x0, w1, x2, rfl, T.f0, T.f1, T.f2, T.i0, T.i1, T.i2, T.z0, T.z1, T.z2, fun H6 s6 => ?_⟩
        replace T := T.same s6
        refine ⟨true, rfl, ?_⟩
        refine ⟨.ref D, rfl, D, _, _, _, rfl, rfl, .inl (.inl T.l), rfl, .ref D, rfl, D, _, _, _, rfl, rfl, .inl (.inl T.l), rfl, .ref D, rfl, D, _, _, _, rfl, rfl, .inl (.inl T.l), rfl, p0, q1, p2, x0, w1, x2, rfl, T.f0, T.f1, T.f2, T.i0, T.i1, T.i2, T.z0, T.z1, T.z2, fun H7 s7 => ?_⟩
        replace T := T.same s7
        refine ⟨true, rfl, ?_⟩
        refine ⟨.ref D, rfl, D, _, _, _, rfl, rfl, .inl (.inl T.l), rfl, p0, _, _, _, rfl, rfl, .inl (.inl T.f0), rfl, .ref D, rfl, D, _, _, _, rfl, rfl, .inl (.inl T.l), rfl, p0, _, _, _, rfl, rfl, .inl (.inl T.f0), rfl, x0.1, x0.2, 100, rfl, T.i0.1, T.z0.2, by decide, by decide, fun t nt => ?_⟩
        have s8 := same_upd (ob := .tup [.int (Fr.red x0.1 x0.2).1, .int (Fr.red x0.1 x0.2).2]) nt
        replace T := T.same s8
        refine ⟨.ref D, rfl, D, _, _, _, rfl, rfl, .inl (.inl T.l), rfl, PM.fd (Fr.red x0.1 x0.2), PM.fd x0, frD upd_same, frD T.f0, rfl, rfl, _, rfl, neF (Fr.red_self T.i0) ?_⟩
        exact ⟨(((d5.same s6).same s7).same s8).mono (by omega), _, _, _, rfl⟩
end
/-! ### what the top has written -/
theorem all_mk {l : PySem.W.OpenLaw} {w : World} {K : PySem.W.Frag} {h : Heap} {mg : Str → Option Value} {fa : Addr} {f0 f1 f2 f3 f4 f5 f6 f7 f8 f9 f10 f11 f12 : Addr} (X : K.In h) (G : h.Ns mainGlobals mg) (hfa : mg "law" = some (.ref fa))
    {od0 an0 : Option Addr} {sl0 : Array (Option Value)} {oc0 kV0 dc0 pm0 cd0 ct0 : Value} (a0 : PySem.W.nsIn K mainGlobals "common_divisor" = some (some (.ref f0))) (l0 : K.lookup f0 = some ⟨oc0, od0, .func (PySem.W.fnOf "common_divisor" "common_divisor" (defArgs s_common_divisor) (defBody s_common_divisor) (defScope s_common_divisor) .none kV0 dc0 pm0 an0 cd0 ct0), sl0⟩) (c0 : PySem.W.codeIn K cd0 "common_divisor" = true) (k0 : PySem.W.keepIn K (.ref f0) = true)
    {od1 an1 : Option Addr} {sl1 : Array (Option Value)} {oc1 kV1 dc1 pm1 cd1 ct1 : Value} (a1 : PySem.W.nsIn K mainGlobals "make_fraction" = some (some (.ref f1))) (l1 : K.lookup f1 = some ⟨oc1, od1, .func (PySem.W.fnOf "make_fraction" "make_fraction" (defArgs s_make_fraction) (defBody s_make_fraction) (defScope s_make_fraction) .none kV1 dc1 pm1 an1 cd1 ct1), sl1⟩) (c1 : PySem.W.codeIn K cd1 "make_fraction" = true) (k1 : PySem.W.keepIn K (.ref f1) = true)
    {od2 an2 : Option Addr} {sl2 : Array (Option Value)} {oc2 kV2 dc2 pm2 cd2 ct2 : Value} (a2 : PySem.W.nsIn K mainGlobals "add_fractions" = some (some (.ref f2))) (l2 : K.lookup f2 = some ⟨oc2, od2, .func (PySem.W.fnOf "add_fractions" "add_fractions" (defArgs s_add_fractions) (defBody s_add_fractions) (defScope s_add_fractions) .none kV2 dc2 pm2 an2 cd2 ct2), sl2⟩) (c2 : PySem.W.codeIn K cd2 "add_fractions" = true) (k2 : PySem.W.keepIn K (.ref f2) = true)
    {od3 an3 : Option Addr} {sl3 : Array (Option Value)} {oc3 kV3 dc3 pm3 cd3 ct3 : Value} (a3 : PySem.W.nsIn K mainGlobals "subtract_fractions" = some (some (.ref f3))) (l3 : K.lookup f3 = some ⟨oc3, od3, .func (PySem.W.fnOf "subtract_fractions" "subtract_fractions" (defArgs s_subtract_fractions) (defBody s_subtract_fractions) (defScope s_subtract_fractions) .none kV3 dc3 pm3 an3 cd3 ct3), sl3⟩) (c3 : PySem.W.codeIn K cd3 "subtract_fractions" = true) (k3 : PySem.W.keepIn K (.ref f3) = true)
    {od4 an4 : Option Addr} {sl4 : Array (Option Value)} {oc4 kV4 dc4 pm4 cd4 ct4 : Value} (a4 : PySem.W.nsIn K mainGlobals "multiply_fractions" = some (some (.ref f4))) (l4 : K.lookup f4 = some ⟨oc4, od4, .func (PySem.W.fnOf "multiply_fractions" "multiply_fractions" (defArgs s_multiply_fractions) (defBody s_multiply_fractions) (defScope s_multiply_fractions) .none kV4 dc4 pm4 an4 cd4 ct4), sl4⟩) (c4 : PySem.W.codeIn K cd4 "multiply_fractions" = true) (k4 : PySem.W.keepIn K (.ref f4) = true)
    {od5 an5 : Option Addr} {sl5 : Array (Option Value)} {oc5 kV5 dc5 pm5 cd5 ct5 : Value} (a5 : PySem.W.nsIn K mainGlobals "compare_fractions" = some (some (.ref f5))) (l5 : K.lookup f5 = some ⟨oc5, od5, .func (PySem.W.fnOf "compare_fractions" "compare_fractions" (defArgs s_compare_fractions) (defBody s_compare_fractions) (defScope s_compare_fractions) .none kV5 dc5 pm5 an5 cd5 ct5), sl5⟩) (c5 : PySem.W.codeIn K cd5 "compare_fractions" = true) (k5 : PySem.W.keepIn K (.ref f5) = true)
    {od6 an6 : Option Addr} {sl6 : Array (Option Value)} {oc6 kV6 dc6 pm6 cd6 ct6 : Value} (a6 : PySem.W.nsIn K mainGlobals "_law_draws" = some (some (.ref f6))) (l6 : K.lookup f6 = some ⟨oc6, od6, .func (PySem.W.fnOf "_law_draws" "_law_draws" (defArgs s__law_draws) (defBody s__law_draws) (defScope s__law_draws) .none kV6 dc6 pm6 an6 cd6 ct6), sl6⟩) (c6 : PySem.W.codeIn K cd6 "_law_draws" = true) (k6 : PySem.W.keepIn K (.ref f6) = true)
    {od7 an7 : Option Addr} {sl7 : Array (Option Value)} {oc7 kV7 dc7 pm7 cd7 ct7 : Value} (a7 : PySem.W.nsIn K mainGlobals "_law_next" = some (some (.ref f7))) (l7 : K.lookup f7 = some ⟨oc7, od7, .func (PySem.W.fnOf "_law_next" "_law_next" (defArgs s__law_next) (defBody s__law_next) (defScope s__law_next) .none kV7 dc7 pm7 an7 cd7 ct7), sl7⟩) (c7 : PySem.W.codeIn K cd7 "_law_next" = true) (k7 : PySem.W.keepIn K (.ref f7) = true)
    {od8 an8 : Option Addr} {sl8 : Array (Option Value)} {oc8 kV8 dc8 pm8 cd8 ct8 : Value} (a8 : PySem.W.nsIn K mainGlobals "_law_lowest" = some (some (.ref f8))) (l8 : K.lookup f8 = some ⟨oc8, od8, .func (PySem.W.fnOf "_law_lowest" "_law_lowest" (defArgs s__law_lowest) (defBody s__law_lowest) (defScope s__law_lowest) .none kV8 dc8 pm8 an8 cd8 ct8), sl8⟩) (c8 : PySem.W.codeIn K cd8 "_law_lowest" = true) (k8 : PySem.W.keepIn K (.ref f8) = true)
    {od9 an9 : Option Addr} {sl9 : Array (Option Value)} {oc9 kV9 dc9 pm9 cd9 ct9 : Value} (a9 : PySem.W.nsIn K mainGlobals "_law_fraction" = some (some (.ref f9))) (l9 : K.lookup f9 = some ⟨oc9, od9, .func (PySem.W.fnOf "_law_fraction" "_law_fraction" (defArgs s__law_fraction) (defBody s__law_fraction) (defScope s__law_fraction) .none kV9 dc9 pm9 an9 cd9 ct9), sl9⟩) (c9 : PySem.W.codeIn K cd9 "_law_fraction" = true) (k9 : PySem.W.keepIn K (.ref f9) = true)
    {od10 an10 : Option Addr} {sl10 : Array (Option Value)} {oc10 kV10 dc10 pm10 cd10 ct10 : Value} (a10 : PySem.W.nsIn K mainGlobals "_law_sums_right" = some (some (.ref f10))) (l10 : K.lookup f10 = some ⟨oc10, od10, .func (PySem.W.fnOf "_law_sums_right" "_law_sums_right" (defArgs s__law_sums_right) (defBody s__law_sums_right) (defScope s__law_sums_right) .none kV10 dc10 pm10 an10 cd10 ct10), sl10⟩) (c10 : PySem.W.codeIn K cd10 "_law_sums_right" = true) (k10 : PySem.W.keepIn K (.ref f10) = true)
    {od11 an11 : Option Addr} {sl11 : Array (Option Value)} {oc11 kV11 dc11 pm11 cd11 ct11 : Value} (a11 : PySem.W.nsIn K mainGlobals "_law_order_right" = some (some (.ref f11))) (l11 : K.lookup f11 = some ⟨oc11, od11, .func (PySem.W.fnOf "_law_order_right" "_law_order_right" (defArgs s__law_order_right) (defBody s__law_order_right) (defScope s__law_order_right) .none kV11 dc11 pm11 an11 cd11 ct11), sl11⟩) (c11 : PySem.W.codeIn K cd11 "_law_order_right" = true) (k11 : PySem.W.keepIn K (.ref f11) = true)
    {od12 an12 : Option Addr} {sl12 : Array (Option Value)} {oc12 kV12 dc12 pm12 cd12 ct12 : Value} (a12 : PySem.W.nsIn K mainGlobals "law" = some (some (.ref f12))) (l12 : K.lookup f12 = some ⟨oc12, od12, .func (PySem.W.fnOf "law" "law" (defArgs s_law) (defBody s_law) (defScope s_law) .none kV12 dc12 pm12 an12 cd12 ct12), sl12⟩) (c12 : PySem.W.codeIn K cd12 "law" = true) (k12 : PySem.W.keepIn K (.ref f12) = true)
    (z0 : PySem.W.nsIn K mainGlobals "abs" = some none)
    (z1 : PySem.W.nsIn K mainGlobals "len" = some none)
    (z2 : PySem.W.nsIn K mainGlobals "int" = some none)
    (z3 : PySem.W.nsIn K mainGlobals "list" = some none)
    (z4 : PySem.W.nsIn K mainGlobals "range" = some none)
    : ∃ fd : FuncData, (∀ (s : Shared) (v : Value), BindsTo s fd ⟨[v], []⟩ [("_law_script", v)]) ∧ ∀ base : Heap, K.In base → base.Ns mainGlobals mg → FnOk l.prog w K mg base CX0 5 fa fd ["_law_script"] (sp_law K) := by
  have F0 := fun_mk (st := s_common_divisor) l0 c0 k0
  have d_common_divisor : IsDef K mg "common_divisor" s_common_divisor P_common_divisor := ⟨_, _, F0, F0.binds (ps := P_common_divisor) (fun _ _ _ _ _ _ us hl => match us, hl with | [_, _], _ => rfl), PySem.W.mg_of X G a0⟩
  have F1 := fun_mk (st := s_make_fraction) l1 c1 k1
  have d_make_fraction : IsDef K mg "make_fraction" s_make_fraction P_make_fraction := ⟨_, _, F1, F1.binds (ps := P_make_fraction) (fun _ _ _ _ _ _ us hl => match us, hl with | [_, _], _ => rfl), PySem.W.mg_of X G a1⟩
  have F2 := fun_mk (st := s_add_fractions) l2 c2 k2
  have d_add_fractions : IsDef K mg "add_fractions" s_add_fractions P_add_fractions := ⟨_, _, F2, F2.binds (ps := P_add_fractions) (fun _ _ _ _ _ _ us hl => match us, hl with | [_, _], _ => rfl), PySem.W.mg_of X G a2⟩
  have F3 := fun_mk (st := s_subtract_fractions) l3 c3 k3
  have d_subtract_fractions : IsDef K mg "subtract_fractions" s_subtract_fractions P_subtract_fractions := ⟨_, _, F3, F3.binds (ps := P_subtract_fractions) (fun _ _ _ _ _ _ us hl => match us, hl with | [_, _], _ => rfl), PySem.W.mg_of X G a3⟩
  have F4 := fun_mk (st := s_multiply_fractions) l4 c4 k4
  have d_multiply_fractions : IsDef K mg "multiply_fractions" s_multiply_fractions P_multiply_fractions := ⟨_, _, F4, F4.binds (ps := P_multiply_fractions) (fun _ _ _ _ _ _ us hl => match us, hl with | [_, _], _ => rfl), PySem.W.mg_of X G a4⟩
  have F5 := fun_mk (st := s_compare_fractions) l5 c5 k5
  have d_compare_fractions : IsDef K mg "compare_fractions" s_compare_fractions P_compare_fractions := ⟨_, _, F5, F5.binds (ps := P_compare_fractions) (fun _ _ _ _ _ _ us hl => match us, hl with | [_, _], _ => rfl), PySem.W.mg_of X G a5⟩
  have F6 := fun_mk (st := s__law_draws) l6 c6 k6
  have d__law_draws : IsDef K mg "_law_draws" s__law_draws P__law_draws := ⟨_, _, F6, F6.binds (ps := P__law_draws) (fun _ _ _ _ _ _ us hl => match us, hl with | [_], _ => rfl), PySem.W.mg_of X G a6⟩
  have F7 := fun_mk (st := s__law_next) l7 c7 k7
  have d__law_next : IsDef K mg "_law_next" s__law_next P__law_next := ⟨_, _, F7, F7.binds (ps := P__law_next) (fun _ _ _ _ _ _ us hl => match us, hl with | [_, _], _ => rfl), PySem.W.mg_of X G a7⟩
  have F8 := fun_mk (st := s__law_lowest) l8 c8 k8
  have d__law_lowest : IsDef K mg "_law_lowest" s__law_lowest P__law_lowest := ⟨_, _, F8, F8.binds (ps := P__law_lowest) (fun _ _ _ _ _ _ us hl => match us, hl with | [_, _], _ => rfl), PySem.W.mg_of X G a8⟩
  have F9 := fun_mk (st := s__law_fraction) l9 c9 k9
  have d__law_fraction : IsDef K mg "_law_fraction" s__law_fraction P__law_fraction := ⟨_, _, F9, F9.binds (ps := P__law_fraction) (fun _ _ _ _ _ _ us hl => match us, hl with | [_], _ => rfl), PySem.W.mg_of X G a9⟩
  have F10 := fun_mk (st := s__law_sums_right) l10 c10 k10
  have d__law_sums_right : IsDef K mg "_law_sums_right" s__law_sums_right P__law_sums_right := ⟨_, _, F10, F10.binds (ps := P__law_sums_right) (fun _ _ _ _ _ _ us hl => match us, hl with | [_, _, _], _ => rfl), PySem.W.mg_of X G a10⟩
  have F11 := fun_mk (st := s__law_order_right) l11 c11 k11
  have d__law_order_right : IsDef K mg "_law_order_right" s__law_order_right P__law_order_right := ⟨_, _, F11, F11.binds (ps := P__law_order_right) (fun _ _ _ _ _ _ us hl => match us, hl with | [_, _, _], _ => rfl), PySem.W.mg_of X G a11⟩
  have F12 := fun_mk (st := s_law) l12 c12 k12
  have d_law : IsDef K mg "law" s_law P_law := ⟨_, _, F12, F12.binds (ps := P_law) (fun _ _ _ _ _ _ us hl => match us, hl with | [_], _ => rfl), PySem.W.mg_of X G a12⟩
  have m_abs := PySem.W.mg_none_of X G z0
  have m_len := PySem.W.mg_none_of X G z1
  have m_int := PySem.W.mg_none_of X G z2
  have m_list := PySem.W.mg_none_of X G z3
  have m_range := PySem.W.mg_none_of X G z4
  refine ⟨PySem.W.fnOf "law" "law" (defArgs s_law) (defBody s_law) (defScope s_law) .none kV12 dc12 pm12 an12 cd12 ct12, fun s v => .of_eq rfl, fun base _ _ => ?_⟩
  have e := hfa.symm.trans (PySem.W.mg_of X G a12)
  cases e
  exact ok_law (fa := fa) F12 (PySem.W.mg_of X G a12) (ok__law_draws d__law_draws m_len m_int m_list) (ok__law_next d__law_next m_len) (ok__law_fraction d__law_fraction (ok__law_next d__law_next m_len) (ok__law_lowest d__law_lowest m_abs)) (ok__law_sums_right d__law_sums_right (ok_add_fractions d_add_fractions (ok_make_fraction d_make_fraction (ok_common_divisor d_common_divisor m_abs))) (ok_subtract_fractions d_subtract_fractions (ok_make_fraction d_make_fraction (ok_common_divisor d_common_divisor m_abs))) (ok_multiply_fractions d_multiply_fractions (ok_make_fraction d_make_fraction (ok_common_divisor d_common_divisor m_abs)))) (ok__law_order_right d__law_order_right (ok_add_fractions d_add_fractions (ok_make_fraction d_make_fraction (ok_common_divisor d_common_divisor m_abs))) (ok_compare_fractions d_compare_fractions) (ok_multiply_fractions d_multiply_fractions (ok_make_fraction d_make_fraction (ok_common_divisor d_common_divisor m_abs)))) (ok_make_fraction d_make_fraction (ok_common_divisor d_common_divisor m_abs)) m_range
end PM
open PySem PySem.W PyProof.Rows
set_option maxHeartbeats 0 in
theorem PySem.Challenge.cw_poolmarks_k03_whole_fraction_arithmetic_holds : PySem.Challenge.rw_poolmarks_k03_whole_fraction_arithmetic.Holds := by
  w_on; o_law; k_head; (case hw => w_witness2)
  k_fill
  refine L2.walk_of (l := PySem.Challenge.rw_poolmarks_k03_whole_fraction_arithmetic) (n := 63) (k := 5) (x := "_law_script") (CX := fun _ => L2.CX0) (sp := fun w => PM.sp_law _) rfl (by decide) rfl ⟨rfl, by decide, by decide⟩ (fun w h Y => PySem.W.kIn_of Y) ?F (fun _ _ a ns hl _ hS => ⟨a, ns, rfl, hS, hl, fun _ => rfl⟩) (fun _ _ _ _ _ h => h)
  case F =>
    intro w mg fa h KX G hmg
    refine' PM.all_mk KX G hmg ?a0 ?l0 ?c0 ?k0 ?a1 ?l1 ?c1 ?k1 ?a2 ?l2 ?c2 ?k2 ?a3 ?l3 ?c3 ?k3 ?a4 ?l4 ?c4 ?k4 ?a5 ?l5 ?c5 ?k5 ?a6 ?l6 ?c6 ?k6 ?a7 ?l7 ?c7 ?k7 ?a8 ?l8 ?c8 ?k8 ?a9 ?l9 ?c9 ?k9 ?a10 ?l10 ?c10 ?k10 ?a11 ?l11 ?c11 ?k11 ?a12 ?l12 ?c12 ?k12 ?z0 ?z1 ?z2 ?z3 ?z4
    (case a0 => k_is)
    (case l0 => k_is)
    (case c0 => k_is)
    (case k0 => k_is)
    (case a1 => k_is)
    (case l1 => k_is)
    (case c1 => k_is)
    (case k1 => k_is)
    (case a2 => k_is)
    (case l2 => k_is)
    (case c2 => k_is)
    (case k2 => k_is)
    (case a3 => k_is)
    (case l3 => k_is)
    (case c3 => k_is)
    (case k3 => k_is)
    (case a4 => k_is)
    (case l4 => k_is)
    (case c4 => k_is)
    (case k4 => k_is)
    (case a5 => k_is)
    (case l5 => k_is)
    (case c5 => k_is)
    (case k5 => k_is)
    (case a6 => k_is)
    (case l6 => k_is)
    (case c6 => k_is)
    (case k6 => k_is)
    (case a7 => k_is)
    (case l7 => k_is)
    (case c7 => k_is)
    (case k7 => k_is)
    (case a8 => k_is)
    (case l8 => k_is)
    (case c8 => k_is)
    (case k8 => k_is)
    (case a9 => k_is)
    (case l9 => k_is)
    (case c9 => k_is)
    (case k9 => k_is)
    (case a10 => k_is)
    (case l10 => k_is)
    (case c10 => k_is)
    (case k10 => k_is)
    (case a11 => k_is)
    (case l11 => k_is)
    (case c11 => k_is)
    (case k11 => k_is)
    (case a12 => k_is)
    (case l12 => k_is)
    (case c12 => k_is)
    (case k12 => k_is)
    (case z0 => k_is)
    (case z1 => k_is)
    (case z2 => k_is)
    (case z3 => k_is)
    (case z4 => k_is)
