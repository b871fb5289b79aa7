import PyProof.Rows.All
import Wide.All
import OpenK.AllK
import Wide.FinOn
import PySem.Challenge.RW_poolmarks_k02_sums_products_and_order
import HandS.ForMost
import HandS.Wide
import HandS.NoneIn
import HandS.Style
import HandS.IsInst
import HandS.Zip
import HandS.Walk
import PyProof.ReprLen
import PyProof.ReprRoads
import PyProof.Rows.RegStrFacts
set_option Elab.async false
set_option linter.all false
set_option maxRecDepth 100000
namespace Fr
/-! fractions as pairs of ints in lowest terms; their values as rationals -/
def IsF (x : Int × Int) : Prop := 0 < x.2 ∧ Int.gcd x.1 x.2 = 1
def val (x : Int × Int) : Rat := (x.1 : Rat) / (x.2 : Rat)
def red (n d : Int) : Int × Int := (n / (Int.gcd n d : Int), d / (Int.gcd n d : Int))
theorem gcd_pos {n d : Int} (hd : d ≠ 0) : 0 < (Int.gcd n d : Int) := by
  have := Int.gcd_pos_of_ne_zero_right n hd
  omega
theorem red_isF {n d : Int} (hd : 0 < d) : IsF (red n d) := by
  have hg := Int.gcd_pos_of_ne_zero_right n (show d ≠ 0 by omega)
  refine ⟨?_, ?_⟩
  · exact Int.ediv_pos_of_pos_of_dvd hd (by omega) (Int.gcd_dvd_right _ _)
  · show Int.gcd (n / (Int.gcd n d : Int)) (d / (Int.gcd n d : Int)) = 1
    have e := Int.gcd_ediv (a := n) (b := d) (c := (Int.gcd n d : Int)) (Int.gcd_dvd_left _ _) (Int.gcd_dvd_right _ _)
    rw [e, Int.natAbs_natCast]
    exact Nat.div_self hg
theorem cast_ne {d : Int} (h : d ≠ 0) : (d : Rat) ≠ 0 := fun e => h (Rat.intCast_inj.mp (by rw [e]; rfl))
theorem cast_pos {d : Int} (h : 0 < d) : (0 : Rat) < (d : Rat) := Rat.intCast_lt_intCast.mpr h
theorem red_mul1 (n d : Int) : (red n d).1 * (Int.gcd n d : Int) = n := Int.ediv_mul_cancel (Int.gcd_dvd_left _ _)
theorem red_mul2 (n d : Int) : (red n d).2 * (Int.gcd n d : Int) = d := Int.ediv_mul_cancel (Int.gcd_dvd_right _ _)
theorem div_cancel {a b c : Rat} (hb : b ≠ 0) (hc : c ≠ 0) : (a * c) / (b * c) = a / b := by grind
theorem red_val {n d : Int} (hd : d ≠ 0) : val (red n d) = (n : Rat) / (d : Rat) := by
  have g0 : (Int.gcd n d : Int) ≠ 0 := by have := gcd_pos (n := n) hd; omega
  have e1 := red_mul1 n d
  have e2 := red_mul2 n d
  have h2 : (red n d).2 ≠ 0 := fun e => by rw [e, Int.zero_mul] at e2; exact hd e2.symm
  have c1 : ((red n d).1 : Rat) * ((Int.gcd n d : Int) : Rat) = (n : Rat) := by rw [← Rat.intCast_mul, e1]
  have c2 : ((red n d).2 : Rat) * ((Int.gcd n d : Int) : Rat) = (d : Rat) := by rw [← Rat.intCast_mul, e2]
  rw [← c1, ← c2, div_cancel (cast_ne h2) (cast_ne g0)]
  rfl
theorem cross {x y : Int × Int} (hx : x.2 ≠ 0) (hy : y.2 ≠ 0) : val x = val y ↔ x.1 * y.2 = y.1 * x.2 := by
  have a := cast_ne hx
  have b := cast_ne hy
  unfold val
  constructor
  · intro h
    refine Rat.intCast_inj.mp ?_
    rw [Rat.intCast_mul, Rat.intCast_mul]
    grind
  · intro h
    have h := Rat.intCast_inj.mpr h
    rw [Rat.intCast_mul, Rat.intCast_mul] at h
    grind
theorem dvd_cop {k m n : Int} (h : Int.gcd k m = 1) (d : k ∣ m * n) : k ∣ n := by
  have d' := Int.natAbs_dvd_natAbs.mpr d
  rw [Int.natAbs_mul] at d'
  exact Int.natAbs_dvd_natAbs.mp (Nat.Coprime.dvd_of_dvd_mul_left h d')
theorem val_inj {x y : Int × Int} (hx : IsF x) (hy : IsF y) (h : val x = val y) : x = y := by
  obtain ⟨x1, x2⟩ := x
  obtain ⟨y1, y2⟩ := y
  obtain ⟨px, gx⟩ := hx
  obtain ⟨py, gy⟩ := hy
  simp only at px gx py gy
  have h := (cross (x := (x1, x2)) (y := (y1, y2)) (by show x2 ≠ 0; omega) (by show y2 ≠ 0; omega)).mp h
  simp only at h
  have d1 : x2 ∣ x1 * y2 := ⟨y1, by rw [h, Int.mul_comm]⟩
  have d2 : y2 ∣ y1 * x2 := ⟨x1, by rw [← h, Int.mul_comm]⟩
  have e1 : x2 ∣ y2 := dvd_cop (by rw [Int.gcd_comm]; exact gx) d1
  have e2 : y2 ∣ x2 := dvd_cop (by rw [Int.gcd_comm]; exact gy) d2
  have e : x2 = y2 := Int.dvd_antisymm (by omega) (by omega) e1 e2
  subst e
  have e3 : x1 = y1 := Int.eq_of_mul_eq_mul_right (show x2 ≠ 0 by omega) h
  rw [e3]
theorem red_self {x : Int × Int} (hx : IsF x) : red x.1 x.2 = x := by
  unfold red
  rw [hx.2]
  simp
theorem red_eq {n d n' d' : Int} (hd : 0 < d) (hd' : 0 < d') : red n d = red n' d' ↔ n * d' = n' * d := by
  have c := cross (x := (n, d)) (y := (n', d')) (by show d ≠ 0; omega) (by show d' ≠ 0; omega)
  have v1 := red_val (n := n) (d := d) (by omega)
  have v2 := red_val (n := n') (d := d') (by omega)
  constructor
  · intro h
    refine c.mp ?_
    show (n : Rat) / (d : Rat) = (n' : Rat) / (d' : Rat)
    rw [← v1, ← v2, h]
  · intro h
    refine val_inj (red_isF hd) (red_isF hd') ?_
    rw [v1, v2]
    exact c.mpr h
def add (x y : Int × Int) : Int × Int := red (x.1 * y.2 + y.1 * x.2) (x.2 * y.2)
def sub (x y : Int × Int) : Int × Int := red (x.1 * y.2 - y.1 * x.2) (x.2 * y.2)
def mul (x y : Int × Int) : Int × Int := red (x.1 * y.1) (x.2 * y.2)
def cmp (x y : Int × Int) : Int := if x.1 * y.2 < y.1 * x.2 then -1 else if y.1 * x.2 < x.1 * y.2 then 1 else 0
theorem add_isF {x y : Int × Int} (hx : IsF x) (hy : IsF y) : IsF (add x y) := red_isF (Int.mul_pos hx.1 hy.1)
theorem sub_isF {x y : Int × Int} (hx : IsF x) (hy : IsF y) : IsF (sub x y) := red_isF (Int.mul_pos hx.1 hy.1)
theorem mul_isF {x y : Int × Int} (hx : IsF x) (hy : IsF y) : IsF (mul x y) := red_isF (Int.mul_pos hx.1 hy.1)
theorem IsF.ne {x : Int × Int} (hx : IsF x) : (x.2 : Rat) ≠ 0 := cast_ne (by have := hx.1; omega)
theorem add_val {x y : Int × Int} (hx : IsF x) (hy : IsF y) : val (add x y) = val x + val y := by
  have a := hx.ne
  have b := hy.ne
  have p := Int.mul_pos hx.1 hy.1
  unfold add
  rw [red_val (by omega)]
  unfold val
  simp only [Rat.intCast_mul, Rat.intCast_add]
  grind
theorem sub_val {x y : Int × Int} (hx : IsF x) (hy : IsF y) : val (sub x y) = val x - val y := by
  have a := hx.ne
  have b := hy.ne
  have p := Int.mul_pos hx.1 hy.1
  unfold sub
  rw [red_val (by omega)]
  unfold val
  simp only [Rat.intCast_mul, Rat.intCast_sub]
  grind
theorem mul_val {x y : Int × Int} (hx : IsF x) (hy : IsF y) : val (mul x y) = val x * val y := by
  have a := hx.ne
  have b := hy.ne
  have p := Int.mul_pos hx.1 hy.1
  unfold mul
  rw [red_val (by omega)]
  unfold val
  simp only [Rat.intCast_mul]
  grind
theorem lt_iff {x y : Int × Int} (hx : 0 < x.2) (hy : 0 < y.2) : x.1 * y.2 < y.1 * x.2 ↔ val x < val y := by
  have a := cast_pos hx
  have b := cast_pos hy
  have a' : (x.2 : Rat) ≠ 0 := by grind
  have b' : (y.2 : Rat) ≠ 0 := by grind
  unfold val
  rw [Rat.lt_div_iff b]
  have e : (x.1 : Rat) / (x.2 : Rat) * (y.2 : Rat) = ((x.1 * y.2 : Int) : Rat) / (x.2 : Rat) := by
    rw [Rat.intCast_mul]
    grind
  rw [e, Rat.div_lt_iff a, ← Rat.intCast_mul, Rat.intCast_lt_intCast]
def sgn (r : Rat) : Int := if r < 0 then -1 else if 0 < r then 1 else 0
theorem sgn_neg {r : Rat} (h : r < 0) : sgn r = -1 := if_pos h
theorem sgn_pos {r : Rat} (h : 0 < r) : sgn r = 1 := by
  unfold sgn
  rw [if_neg (by grind), if_pos h]
theorem sgn_zero : sgn 0 = 0 := by decide
theorem cmp_val {x y : Int × Int} (hx : IsF x) (hy : IsF y) : cmp x y = sgn (val x - val y) := by
  have l1 := lt_iff hx.1 hy.1
  have l2 := lt_iff hy.1 hx.1
  unfold cmp
  by_cases h1 : x.1 * y.2 < y.1 * x.2
  · have h := l1.mp h1
    rw [if_pos h1, sgn_neg (by grind)]
  · rw [if_neg h1]
    have n1 : ¬ val x < val y := fun h => h1 (l1.mpr h)
    by_cases h2 : y.1 * x.2 < x.1 * y.2
    · have h := l2.mp h2
      rw [if_pos h2, sgn_pos (by grind)]
    · have n2 : ¬ val y < val x := fun h => h2 (l2.mpr h)
      rw [if_neg h2]
      have e : val x - val y = 0 := by grind
      rw [e, sgn_zero]
/-! sizes -/
def Sz (b : Nat) (x : Int × Int) : Prop := x.1.natAbs < 2 ^ b ∧ x.2.natAbs < 2 ^ b
theorem Sz.mono {b c : Nat} {x : Int × Int} (h : Sz b x) (hc : b ≤ c) : Sz c x :=
  ⟨Nat.lt_of_lt_of_le h.1 (Nat.pow_le_pow_right (by decide) hc), Nat.lt_of_lt_of_le h.2 (Nat.pow_le_pow_right (by decide) hc)⟩
theorem red_sz {n d : Int} {b : Nat} (hn : n.natAbs < 2 ^ b) (hd : d.natAbs < 2 ^ b) : Sz b (red n d) := by
  refine ⟨Nat.lt_of_le_of_lt ?_ hn, Nat.lt_of_le_of_lt ?_ hd⟩
  · show (n / ((Int.gcd n d : Nat) : Int)).natAbs ≤ n.natAbs
    rw [Int.natAbs_ediv_of_dvd (Int.gcd_dvd_left _ _)]
    exact Nat.div_le_self _ _
  · show (d / ((Int.gcd n d : Nat) : Int)).natAbs ≤ d.natAbs
    rw [Int.natAbs_ediv_of_dvd (Int.gcd_dvd_right _ _)]
    exact Nat.div_le_self _ _
theorem mul_lt2 {i j : Int} {a b : Nat} (ha : i.natAbs < 2 ^ a) (hb : j.natAbs < 2 ^ b) : (i * j).natAbs < 2 ^ (a + b) := by
  rw [Int.natAbs_mul, Nat.pow_add]
  exact Nat.mul_lt_mul'' ha hb
theorem add_lt2 {i j : Int} {a : Nat} (ha : i.natAbs < 2 ^ a) (hb : j.natAbs < 2 ^ a) : (i + j).natAbs < 2 ^ (a + 1) := by
  rw [Nat.pow_succ]
  omega
theorem sub_lt2 {i j : Int} {a : Nat} (ha : i.natAbs < 2 ^ a) (hb : j.natAbs < 2 ^ a) : (i - j).natAbs < 2 ^ (a + 1) := by
  rw [Nat.pow_succ]
  omega
theorem lt_up {i : Int} {a b : Nat} (h : i.natAbs < 2 ^ a) (hb : a ≤ b) : i.natAbs < 2 ^ b := Nat.lt_of_lt_of_le h (Nat.pow_le_pow_right (by decide) hb)
theorem add_sz {x y : Int × Int} {a b : Nat} (hx : Sz a x) (hy : Sz b y) : Sz (a + b + 1) (add x y) :=
  red_sz (add_lt2 (mul_lt2 hx.1 hy.2) (lt_up (mul_lt2 hy.1 hx.2) (by omega))) (lt_up (mul_lt2 hx.2 hy.2) (by omega))
theorem sub_sz {x y : Int × Int} {a b : Nat} (hx : Sz a x) (hy : Sz b y) : Sz (a + b + 1) (sub x y) :=
  red_sz (sub_lt2 (mul_lt2 hx.1 hy.2) (lt_up (mul_lt2 hy.1 hx.2) (by omega))) (lt_up (mul_lt2 hx.2 hy.2) (by omega))
theorem mul_sz {x y : Int × Int} {a b : Nat} (hx : Sz a x) (hy : Sz b y) : Sz (a + b) (mul x y) :=
  red_sz (mul_lt2 hx.1 hy.1) (mul_lt2 hx.2 hy.2)
/-! Euclid's loop over ints -/
theorem gcd_step {a b : Int} (ha : 0 ≤ a) (hb : 0 ≤ b) : Int.gcd b (a % b) = Int.gcd a b := by
  obtain ⟨m, rfl⟩ := Int.eq_ofNat_of_zero_le ha
  obtain ⟨n, rfl⟩ := Int.eq_ofNat_of_zero_le hb
  rw [← Int.natCast_emod]
  show Nat.gcd n (m % n) = Nat.gcd m n
  rw [Nat.gcd_comm m n, Nat.gcd_comm n (m % n), ← Nat.gcd_rec]
theorem gcd_zero {a : Int} (ha : 0 ≤ a) : (Int.gcd a 0 : Int) = a := by
  rw [Int.gcd_zero_right]
  omega
/-! the order and sums of fractions by their values -/
theorem sgn_sub (r : Rat) : sgn (-r) = - sgn r := by
  unfold sgn
  by_cases h1 : r < 0
  · rw [if_pos h1, if_neg (by grind), if_pos (by grind)]
    rfl
  · rw [if_neg h1]
    by_cases h2 : 0 < r
    · rw [if_pos h2, if_pos (by grind)]
    · rw [if_neg h2, if_neg (by grind), if_neg (by grind)]
      rfl
theorem sgn_eq0 {r : Rat} : sgn r = 0 ↔ r = 0 := by
  unfold sgn
  by_cases h1 : r < 0
  · rw [if_pos h1]
    constructor
    · intro h; omega
    · intro h; grind
  · rw [if_neg h1]
    by_cases h2 : 0 < r
    · rw [if_pos h2]
      constructor
      · intro h; omega
      · intro h; grind
    · rw [if_neg h2]
      constructor
      · intro h; grind
      · intro h; rfl
theorem sgn_le {r : Rat} : sgn r ≤ 0 ↔ r ≤ 0 := by
  unfold sgn
  by_cases h1 : r < 0
  · rw [if_pos h1]
    constructor
    · intro h; grind
    · intro h; omega
  · rw [if_neg h1]
    by_cases h2 : 0 < r
    · rw [if_pos h2]
      constructor
      · intro h; omega
      · intro h; grind
    · rw [if_neg h2]
      constructor
      · intro h; grind
      · intro h; omega
theorem sgn_mul (r s : Rat) : sgn (r * s) = sgn r * sgn s := by
  have key : ∀ a b : Rat, 0 < a → 0 < b → 0 < a * b := fun a b ha hb => Rat.mul_pos ha hb
  by_cases r1 : r < 0
  · rw [sgn_neg r1]
    by_cases s1 : s < 0
    · rw [sgn_neg s1, sgn_pos (by have := key (-r) (-s) (by grind) (by grind); grind)]
      rfl
    · by_cases s2 : 0 < s
      · rw [sgn_pos s2, sgn_neg (by have := key (-r) s (by grind) s2; grind)]
        rfl
      · have e : s = 0 := by grind
        rw [e, Rat.mul_zero, sgn_zero]
        rfl
  · by_cases r2 : 0 < r
    · rw [sgn_pos r2]
      by_cases s1 : s < 0
      · rw [sgn_neg s1, sgn_neg (by have := key r (-s) r2 (by grind); grind)]
        rfl
      · by_cases s2 : 0 < s
        · rw [sgn_pos s2, sgn_pos (key r s r2 s2)]
          rfl
        · have e : s = 0 := by grind
          rw [e, Rat.mul_zero, sgn_zero]
          rfl
    · have e : r = 0 := by grind
      rw [e, Rat.zero_mul, sgn_zero]
      omega
/-! what the laws of fractions ask -/
theorem m_comm {x y : Int × Int} (hx : IsF x) (hy : IsF y) : add y x = add x y := val_inj (add_isF hy hx) (add_isF hx hy) (by rw [add_val hy hx, add_val hx hy]; grind)
theorem m_back {x y : Int × Int} (hx : IsF x) (hy : IsF y) : sub (add x y) y = x := val_inj (sub_isF (add_isF hx hy) hy) hx (by rw [sub_val (add_isF hx hy) hy, add_val hx hy]; grind)
theorem m_assoc {x y z : Int × Int} (hx : IsF x) (hy : IsF y) (hz : IsF z) : add (add x y) z = add x (add y z) :=
  val_inj (add_isF (add_isF hx hy) hz) (add_isF hx (add_isF hy hz)) (by rw [add_val (add_isF hx hy) hz, add_val hx hy, add_val hx (add_isF hy hz), add_val hy hz]; grind)
theorem p_comm {x y : Int × Int} (hx : IsF x) (hy : IsF y) : mul y x = mul x y := val_inj (mul_isF hy hx) (mul_isF hx hy) (by rw [mul_val hy hx, mul_val hx hy]; grind)
theorem p_assoc {x y z : Int × Int} (hx : IsF x) (hy : IsF y) (hz : IsF z) : mul (mul x y) z = mul x (mul y z) :=
  val_inj (mul_isF (mul_isF hx hy) hz) (mul_isF hx (mul_isF hy hz)) (by rw [mul_val (mul_isF hx hy) hz, mul_val hx hy, mul_val hx (mul_isF hy hz), mul_val hy hz]; grind)
theorem p_dist {x y z : Int × Int} (hx : IsF x) (hy : IsF y) (hz : IsF z) : mul (add x y) z = add (mul x z) (mul y z) :=
  val_inj (mul_isF (add_isF hx hy) hz) (add_isF (mul_isF hx hz) (mul_isF hy hz)) (by rw [mul_val (add_isF hx hy) hz, add_val hx hy, add_val (mul_isF hx hz) (mul_isF hy hz), mul_val hx hz, mul_val hy hz]; grind)
theorem c_opp {x y : Int × Int} (hx : IsF x) (hy : IsF y) : cmp y x = 0 - cmp x y := by
  rw [cmp_val hy hx, cmp_val hx hy, show val y - val x = -(val x - val y) by grind, sgn_sub]
  omega
theorem c_zero {x y : Int × Int} (hx : IsF x) (hy : IsF y) : cmp x y = 0 ↔ x = y := by
  rw [cmp_val hx hy, sgn_eq0]
  constructor
  · intro h
    exact val_inj hx hy (by grind)
  · intro h
    rw [h]
    grind
theorem c_add {x y z : Int × Int} (hx : IsF x) (hy : IsF y) (hz : IsF z) : cmp (add x z) (add y z) = cmp x y := by
  rw [cmp_val (add_isF hx hz) (add_isF hy hz), cmp_val hx hy, add_val hx hz, add_val hy hz, show val x + val z - (val y + val z) = val x - val y by grind]
theorem zero_isF : IsF (0, 1) := ⟨by decide, by decide⟩
theorem zero_val : val (0, 1) = 0 := by
  unfold val
  show ((0 : Int) : Rat) / ((1 : Int) : Rat) = 0
  grind
theorem c_mul {x y z : Int × Int} (hx : IsF x) (hy : IsF y) (hz : IsF z) : cmp (mul x z) (mul y z) = cmp x y * cmp z (0, 1) := by
  rw [cmp_val (mul_isF hx hz) (mul_isF hy hz), cmp_val hx hy, cmp_val hz zero_isF, mul_val hx hz, mul_val hy hz, zero_val, ← sgn_mul, show (val x - val y) * (val z - 0) = val x * val z - val y * val z by grind]
theorem c_trans {x y z : Int × Int} (hx : IsF x) (hy : IsF y) (hz : IsF z) (h1 : cmp x y ≤ 0) (h2 : cmp y z ≤ 0) : cmp x z ≤ 0 := by
  rw [cmp_val hx hy, sgn_le] at h1
  rw [cmp_val hy hz, sgn_le] at h2
  rw [cmp_val hx hz, sgn_le]
  grind
theorem c_bound (x y : Int × Int) : -1 ≤ cmp x y ∧ cmp x y ≤ 1 := by
  unfold cmp
  split
  · omega
  · split <;> omega
/-! any denominator but 0 -/
def mk (n d : Int) : Int × Int := if d < 0 then red (-n) (-d) else red n d
theorem mk_isF {n d : Int} (h : d ≠ 0) : IsF (mk n d) := by
  unfold mk
  split
  · exact red_isF (by omega)
  · exact red_isF (by omega)
theorem mk_val {n d : Int} (h : d ≠ 0) : val (mk n d) = (n : Rat) / (d : Rat) := by
  have hd := cast_ne h
  unfold mk
  split
  · rw [red_val (by omega), Rat.intCast_neg, Rat.intCast_neg]
    grind
  · exact red_val h
theorem mk_cross {n d : Int} (h : d ≠ 0) : (mk n d).1 * d = n * (mk n d).2 :=
  (cross (x := mk n d) (y := (n, d)) (by have := (mk_isF (n := n) h).1; omega) h).mp (mk_val h)
theorem mk_many {n d m : Int} (h : d ≠ 0) (hm : m ≠ 0) : mk (n * m) (d * m) = mk n d := by
  have h2 : d * m ≠ 0 := Int.mul_ne_zero h hm
  have a := cast_ne h
  have b := cast_ne hm
  refine val_inj (mk_isF h2) (mk_isF h) ?_
  rw [mk_val h2, mk_val h, Rat.intCast_mul, Rat.intCast_mul, div_cancel a b]
theorem mk_neg {n d : Int} (h : d ≠ 0) : mk (0 - n) (0 - d) = mk n d := by
  have := mk_many (n := n) (m := -1) h (by decide)
  rw [show 0 - n = n * -1 by omega, show 0 - d = d * -1 by omega]
  exact this
theorem mk_sz {n d : Int} {b : Nat} (hn : n.natAbs < 2 ^ b) (hd : d.natAbs < 2 ^ b) : Sz b (mk n d) := by
  unfold mk
  split
  · exact red_sz (by omega) (by omega)
  · exact red_sz hn hd
/-- the floor division by the divisor with its sign -/
theorem mk_fdiv {n d : Int} (h : d ≠ 0) : mk n d = (n.fdiv (if d < 0 then -(Int.gcd n d : Int) else (Int.gcd n d : Int)), d.fdiv (if d < 0 then -(Int.gcd n d : Int) else (Int.gcd n d : Int))) := by
  have g := gcd_pos (n := n) h
  unfold mk red
  split
  · rename_i hd
    rw [Int.neg_gcd, Int.gcd_neg]
    have key : ∀ i : Int, i.fdiv (-(Int.gcd n d : Int)) = -i / (Int.gcd n d : Int) := fun i => by
      rw [← Int.neg_neg i, Int.neg_fdiv_neg, Int.neg_neg, Int.fdiv_eq_ediv_of_nonneg _ (by omega)]
    rw [key, key]
  · rw [Int.fdiv_eq_ediv_of_nonneg _ (by omega), Int.fdiv_eq_ediv_of_nonneg _ (by omega)]
end Fr

namespace PM
open PySem PySem.Spec PyProof.Rows L2
/-! ### heaps -/
theorem same_upd {Hh : Hp} {new : Addr} {ob : HO} (hnew : Hh new = none) : Same Hh (upd Hh new ob) := fun b x hx => by
  rw [upd_ne (ne_of_none hx hnew)]
  exact hx
/-- what stood stands, but at a and r -/
def Keep (a r : Addr) (H H' : Hp) : Prop := ∀ b o, b ≠ a → b ≠ r → H b = some o → H' b = some o
theorem Keep.refl (a r : Addr) (H : Hp) : Keep a r H H := fun _ _ _ _ h => h
theorem Keep.trans {a r : Addr} {H H1 H2 : Hp} (x : Keep a r H H1) (y : Keep a r H1 H2) : Keep a r H H2 := fun b o h1 h2 h => y b o h1 h2 (x b o h1 h2 h)
theorem Keep.same {a r : Addr} {H H' : Hp} (h : Same H H') : Keep a r H H' := fun b o _ _ e => h b o e
theorem seqT {K : PySem.W.Frag} {H H' : Hp} {a : Addr} {xs : List V} (e : Same H H') (h : H a = some (.tup xs)) : SqT K H' a xs := .inl (.inl (e _ _ h))
/-! ### the drawn numbers: a the list, c its cells, r its rests; at most n turns so far -/
structure Drw (H : Hp) (a c r : Addr) (n : Nat) : Prop where
  ex : ∃ (cells rests : List Int) (t : Int), H a = some (.lst [.ref c, .int t, .ref r]) ∧ H c = some (.lst (cells.map V.int)) ∧ H r = some (.lst (rests.map V.int)) ∧
    rests.length = cells.length ∧ 0 < cells.length ∧ cells.length ≤ 64 ∧ 0 ≤ t ∧ t ≤ n
  ac : a ≠ c
  ar : a ≠ r
  cr : c ≠ r
theorem Drw.same {H H' : Hp} {a c r : Addr} {n : Nat} (h : Drw H a c r n) (s : Same H H') : Drw H' a c r n := by
  obtain ⟨⟨cells, rests, t, h1, h2, h3, q⟩, x, y, z⟩ := h
  exact ⟨⟨cells, rests, t, s _ _ h1, s _ _ h2, s _ _ h3, q⟩, x, y, z⟩
theorem Drw.new {H : Hp} {a c r p : Addr} {n : Nat} {o : HO} (h : Drw H a c r n) (e : H p = none) : Drw (L2.upd H p o) a c r n := h.same (same_upd e)
theorem Drw.ne_tup {H : Hp} {a c r p : Addr} {n : Nat} {xs : List V} (h : Drw H a c r n) (e : H p = some (.tup xs)) : p ≠ a ∧ p ≠ r := by
  obtain ⟨⟨cells, rests, t, h1, h2, h3, _⟩, _⟩ := h
  exact ⟨fun z => (by rw [z, h1] at e; cases e), fun z => (by rw [z, h3] at e; cases e)⟩
theorem Drw.ne_new {H : Hp} {a c r p : Addr} {n : Nat} (h : Drw H a c r n) (e : H p = none) : p ≠ a ∧ p ≠ c ∧ p ≠ r := by
  obtain ⟨⟨cells, rests, t, h1, h2, h3, _⟩, _⟩ := h
  exact ⟨fun z => (by rw [z, h1] at e; cases e), fun z => (by rw [z, h2] at e; cases e), fun z => (by rw [z, h3] at e; cases e)⟩
theorem Keep.tup {H H' : Hp} {a c r p : Addr} {n : Nat} {xs : List V} (k : Keep a r H H') (d : Drw H a c r n) (e : H p = some (.tup xs)) : H' p = some (.tup xs) :=
  k _ _ (d.ne_tup e).1 (d.ne_tup e).2 e
/-! ### defs -/
structure Def1 (K : PySem.W.Frag) (mg : Str → Option Value) (x : Str) (st : Stmt) (ps : List Str) (f : Addr) (fd : FuncData) : Prop where
  F : Fun K x x st f fd
  b : Binds K fd ps []
  g : mg x = some (.ref f)
def IsDef (K : PySem.W.Frag) (mg : Str → Option Value) (x : Str) (st : Stmt) (ps : List Str) : Prop := ∃ f fd, Def1 K mg x st ps f fd
def Ok (P : Program) (w : World) (K : PySem.W.Frag) (mg : Str → Option Value) (base : Heap) (k : Nat) (x : Str) (st : Stmt) (ps : List Str) (sp : Sp) : Prop :=
  ∃ f fd, Def1 K mg x st ps f fd ∧ FnOk P w K mg base CX0 k f fd ps sp
section
variable {X : Cx}
theorem op_fdivZ : OpR X (binaryOp .FloorDiv) (rI (fun _ j => j ≠ 0 ∧ j.natAbs.log2 < 9000) fun i j => .int (i.fdiv j)) :=
  opI fun i j _ _ _ _ _ hc q => floordiv_int hc.1 q (.inl (PyProof.noPylong_of_log2 hc.2))
end
theorem place_ok {len at_ : Nat} (h : at_ < len) : ixN len (at_ : Int) = some at_ := by
  unfold ixN
  rw [if_pos (by omega), if_pos (by omega), Int.toNat_natCast]
theorem toks {n : Nat} (h : n ≤ 1000) : n ≤ sizeLine := Nat.le_of_lt (small1000 h)
theorem cut63 {xs : List V} (h : xs.length ≤ 63) : cutV xs none (some 63) = xs := by
  unfold cutV
  rw [show HT.sIx xs.length xs.length (some 63) = min 63 xs.length from HT.sIx_nat xs.length xs.length 63, HT.sIx_none, Nat.min_eq_right h]
  show List.take (xs.length - 0) (List.drop 0 xs) = xs
  rw [Nat.sub_zero, List.drop_zero, List.take_length]
/-- a fraction that stands at p -/
def FrAt (H : Hp) (p : Addr) (x : Int × Int) : Prop := H p = some (.tup [.int x.1, .int x.2])
theorem FrAt.same {H H' : Hp} {p : Addr} {x : Int × Int} (h : FrAt H p x) (s : Same H H') : FrAt H' p x := s _ _ h
theorem FrAt.keep {H H' : Hp} {a c r p : Addr} {n : Nat} {x : Int × Int} (h : FrAt H p x) (d : Drw H a c r n) (k : Keep a r H H') : FrAt H' p x := k.tup d h
/-- a fraction as data -/
abbrev fd (x : Int × Int) : PyData := .tuple [.int x.1, .int x.2]
theorem frD {K : PySem.W.Frag} {H : Hp} {p : Addr} {x : Int × Int} (h : FrAt H p x) : Dp K H (.ref p) (fd x) := .tup (.inl (.inl h)) (.cons (.int _) (.cons (.int _) .nil))
theorem eqv_fd (x y : Int × Int) : PyData.eqv (fd x) (fd y) = decide (x = y) := by
  have e : PyData.eqv (fd x) (fd y) = ((x.1 == y.1) && ((x.2 == y.2) && true)) := by
    simp only [PyData.eqv, PyData.eqvAll]
  rw [e]
  by_cases h : x = y
  · subst h
    simp
  · rw [decide_eq_false h]
    have : ¬ (x.1 = y.1 ∧ x.2 = y.2) := fun z => h (Prod.ext z.1 z.2)
    by_cases h1 : x.1 = y.1
    · have h2 : x.2 ≠ y.2 := fun z => this ⟨h1, z⟩
      simp [h2]
    · simp [h1]
theorem eqT {x y : Int × Int} (h : x = y) : PyData.eqv (fd x) (fd y) = true := by rw [eqv_fd, decide_eq_true h]
theorem neF {x y : Int × Int} {A B : Prop} (h : x = y) (k : B) : if (!PyData.eqv (fd x) (fd y)) = true then A else B := by
  rw [eqT h]
  exact k
theorem neI {i j : Int} {A B : Prop} (h : i = j) (k : B) : if (!decide (V.int i = V.int j)) = true then A else B := by
  rw [h, decide_eq_true rfl]
  exact k
theorem Drw.mono {H : Hp} {a c r : Addr} {n m : Nat} (h : Drw H a c r n) (e : n ≤ m) : Drw H a c r m := by
  obtain ⟨⟨cells, rests, t, h1, h2, h3, e1, e2, e3, e4, e5⟩, x, y, z⟩ := h
  exact ⟨⟨cells, rests, t, h1, h2, h3, e1, e2, e3, e4, by omega⟩, x, y, z⟩
theorem Drw.off {H : Hp} {a c r p : Addr} {n : Nat} {o : HO} (h : Drw H a c r n) (e : p ≠ a ∧ p ≠ c ∧ p ≠ r) : Drw (L2.upd H p o) a c r n := by
  obtain ⟨⟨cells, rests, t, h1, h2, h3, q⟩, x, y, z⟩ := h
  refine ⟨⟨cells, rests, t, ?_, ?_, ?_, q⟩, x, y, z⟩
  · rw [L2.upd_ne (Ne.symm e.1)]
    exact h1
  · rw [L2.upd_ne (Ne.symm e.2.1)]
    exact h2
  · rw [L2.upd_ne (Ne.symm e.2.2)]
    exact h3
theorem FrAt.upd_lst {H : Hp} {p D : Addr} {x : Int × Int} {xs ys : List V} (h : FrAt H p x) (e : H D = some (.lst xs)) : FrAt (upd H D (.lst ys)) p x := by
  show (upd H D (.lst ys)) p = _
  rw [L2.upd_ne (show p ≠ D from fun z => by rw [z] at h; rw [show H D = _ from h] at e; cases e)]
  exact h
end PM

namespace PM
open PySem PySem.Spec PyProof.Rows L2 RZ
/-! ### data that stands in the heap -/
mutual
inductive Da (H : Hp) : V → PyData → Prop
  | non : Da H .non .none
  | bl (b : Bool) : Da H (.bl b) (.bool b)
  | int (i : Int) : Da H (.int i) (.int i)
  | str (x : Str) : Da H (.str x) (.str x)
  | lst {a : Addr} {xs : List V} {ds : List PyData} : H a = some (.lst xs) → DaL H xs ds → Da H (.ref a) (.list ds)
  | tup {a : Addr} {xs : List V} {ds : List PyData} : H a = some (.tup xs) → DaL H xs ds → Da H (.ref a) (.tuple ds)
inductive DaL (H : Hp) : List V → List PyData → Prop
  | nil : DaL H [] []
  | cons {v : V} {vs : List V} {d : PyData} {ds : List PyData} : Da H v d → DaL H vs ds → DaL H (v :: vs) (d :: ds)
end
mutual
theorem Da.same {H H' : Hp} (s : Same H H') : ∀ {v : V} {d : PyData}, Da H v d → Da H' v d
  | _, _, .non => .non
  | _, _, .bl b => .bl b
  | _, _, .int i => .int i
  | _, _, .str x => .str x
  | _, _, .lst e h => .lst (s _ _ e) (DaL.same s h)
  | _, _, .tup e h => .tup (s _ _ e) (DaL.same s h)
theorem DaL.same {H H' : Hp} (s : Same H H') : ∀ {vs : List V} {ds : List PyData}, DaL H vs ds → DaL H' vs ds
  | _, _, .nil => .nil
  | _, _, .cons h t => .cons (Da.same s h) (DaL.same s t)
end
mutual
theorem Da.dp {K : PySem.W.Frag} {H : Hp} : ∀ {v : V} {d : PyData}, Da H v d → Dp K H v d
  | _, _, .non => .non
  | _, _, .bl b => .bl b
  | _, _, .int i => .int i
  | _, _, .str x => .str x
  | _, _, .lst e h => .lst (.inl (.inl e)) (DaL.dp h)
  | _, _, .tup e h => .tup (.inl (.inl e)) (DaL.dp h)
theorem DaL.dp {K : PySem.W.Frag} {H : Hp} : ∀ {vs : List V} {ds : List PyData}, DaL H vs ds → DpAll K H vs ds
  | _, _, .nil => .nil
  | _, _, .cons h t => .cons (Da.dp h) (DaL.dp t)
end
theorem DaL.length {H : Hp} : ∀ {vs : List V} {ds : List PyData}, DaL H vs ds → vs.length = ds.length
  | _, _, .nil => rfl
  | _, _, .cons _ t => by
    rw [List.length_cons, List.length_cons, DaL.length t]
theorem DaL.get {H : Hp} : ∀ {vs : List V} {ds : List PyData} (i : Nat) {v : V}, DaL H vs ds → vs[i]? = some v → ∃ d, ds[i]? = some d ∧ Da H v d
  | _, _, i, _, .nil, e => by simp at e
  | _, _, 0, _, .cons h t, e => by
    have e := Option.some.inj e
    subst e
    exact ⟨_, rfl, h⟩
  | _, _, i + 1, _, .cons h t, e => DaL.get i t e
/-- equal as values of the same kinds: None, bools, ints, texts, tuples of these -/
def plainD : PyData → Bool
  | .none | .bool _ | .int _ => true
  | .str x => PyData.strOk x
  | .tuple ds => decide (ds.length ≤ 1000) && plainL ds
  | _ => false
where plainL : List PyData → Bool
  | [] => true
  | d :: ds => plainD d && plainL ds
def deq : PyData → PyData → Bool
  | .none, .none => true
  | .bool a, .bool b => a == b
  | .int i, .int j => i == j
  | .str x, .str y => x == y
  | .tuple xs, .tuple ys => deqL xs ys
  | _, _ => false
where deqL : List PyData → List PyData → Bool
  | [], [] => true
  | x :: xs, y :: ys => deq x y && deqL xs ys
  | _, _ => false
def dep : PyData → Nat
  | .tuple ds => depL ds + 1
  | .list ds => depL ds + 1
  | _ => 0
where depL : List PyData → Nat
  | [] => 0
  | d :: ds => max (dep d) (depL ds)
theorem plain_get : ∀ {ds : List PyData} {i : Nat} {d : PyData}, plainD.plainL ds = true → ds[i]? = some d → plainD d = true
  | [], i, d, _, e => by simp at e
  | x :: xs, 0, d, h, e => by
    have e := Option.some.inj e
    subst e
    unfold plainD.plainL at h
    exact (Bool.and_eq_true_iff.mp h).1
  | x :: xs, i + 1, d, h, e => by
    unfold plainD.plainL at h
    exact plain_get (Bool.and_eq_true_iff.mp h).2 e
theorem plain_tup {ds : List PyData} (h : plainD (.tuple ds) = true) : ds.length ≤ 1000 ∧ plainD.plainL ds = true := by
  unfold plainD at h
  have h := Bool.and_eq_true_iff.mp h
  exact ⟨of_decide_eq_true h.1, h.2⟩
theorem dep_get : ∀ {ds : List PyData} {i : Nat} {d : PyData}, ds[i]? = some d → dep d ≤ dep.depL ds
  | [], i, d, e => by simp at e
  | x :: xs, 0, d, e => by
    have e := Option.some.inj e
    subst e
    unfold dep.depL
    exact Nat.le_max_left _ _
  | x :: xs, i + 1, d, e => by
    unfold dep.depL
    exact Nat.le_trans (dep_get (i := i) e) (Nat.le_max_right _ _)
theorem deqL_len : ∀ {xs ys : List PyData}, xs.length ≠ ys.length → deq.deqL xs ys = false
  | [], [], h => absurd rfl h
  | [], _ :: _, _ => rfl
  | _ :: _, [], _ => rfl
  | x :: xs, y :: ys, h => by
    unfold deq.deqL
    rw [deqL_len (xs := xs) (ys := ys) (fun e => h (by rw [List.length_cons, List.length_cons, e])), Bool.and_false]
theorem deqL_all : ∀ {xs ys : List PyData}, xs.length = ys.length → deq.deqL xs ys = (((List.zip xs ys).map fun p => deq p.1 p.2).all id)
  | [], [], _ => rfl
  | [], _ :: _, h => by simp at h
  | _ :: _, [], h => by simp at h
  | x :: xs, y :: ys, h => by
    have ih := deqL_all (xs := xs) (ys := ys) (by simpa using h)
    unfold deq.deqL
    rw [ih]
    rfl
/-- a kind's name -/
def tn : PyData → String
  | .none => "NoneType"
  | .bool _ => "bool"
  | .int _ => "int"
  | .str _ => "str"
  | .list _ => "list"
  | .tuple _ => "tuple"
  | .dict _ => "dict"
theorem Da.ty {K : PySem.W.Frag} {H : Hp} : ∀ {v : V} {d : PyData}, Da H v d → TyX K H v (.type (tn d))
  | _, _, .non => .base .non
  | _, _, .bl b => .base (.bl b)
  | _, _, .int i => .base (.int i)
  | _, _, .str x => .base (.str x)
  | _, _, .lst e h => .base (.lst e)
  | _, _, .tup e h => .base (.tup e)
def isT : PyData → Bool | .tuple _ => true | _ => false
def isB : PyData → Bool | .bool _ => true | _ => false
def isI : PyData → Bool | .bool _ => true | .int _ => true | _ => false
def isS : PyData → Bool | .str _ => true | _ => false
def isL : PyData → Bool | .list _ => true | _ => false
theorem kitT {K : PySem.W.Frag} {H : Hp} {v : V} {d : PyData} (h : Da H v d) : PySem.W.kitOne K (.type (tn d)) (.type "tuple") = some (isT d) := by
  cases h <;> first | exact kit_ty (show kitB "NoneType" "tuple" = some false by decide +kernel) | exact kit_ty (show kitB "bool" "tuple" = some false by decide +kernel) | exact kit_ty (show kitB "int" "tuple" = some false by decide +kernel) | exact kit_ty (show kitB "str" "tuple" = some false by decide +kernel) | exact kit_ty (show kitB "list" "tuple" = some false by decide +kernel) | exact kit_ty (show kitB "tuple" "tuple" = some true by decide +kernel)
theorem kitBo {K : PySem.W.Frag} {H : Hp} {v : V} {d : PyData} (h : Da H v d) : PySem.W.kitOne K (.type (tn d)) (.type "bool") = some (isB d) := by
  cases h <;> first | exact kit_ty (show kitB "NoneType" "bool" = some false by decide +kernel) | exact kit_ty (show kitB "bool" "bool" = some true by decide +kernel) | exact kit_ty (show kitB "int" "bool" = some false by decide +kernel) | exact kit_ty (show kitB "str" "bool" = some false by decide +kernel) | exact kit_ty (show kitB "list" "bool" = some false by decide +kernel) | exact kit_ty (show kitB "tuple" "bool" = some false by decide +kernel)
theorem kitI {K : PySem.W.Frag} {H : Hp} {v : V} {d : PyData} (h : Da H v d) : PySem.W.kitOne K (.type (tn d)) (.type "int") = some (isI d) := by
  cases h <;> first | exact kit_ty (show kitB "NoneType" "int" = some false by decide +kernel) | exact kit_ty (show kitB "bool" "int" = some true by decide +kernel) | exact kit_ty (show kitB "int" "int" = some true by decide +kernel) | exact kit_ty (show kitB "str" "int" = some false by decide +kernel) | exact kit_ty (show kitB "list" "int" = some false by decide +kernel) | exact kit_ty (show kitB "tuple" "int" = some false by decide +kernel)
theorem kitS {K : PySem.W.Frag} {H : Hp} {v : V} {d : PyData} (h : Da H v d) : PySem.W.kitOne K (.type (tn d)) (.type "str") = some (isS d) := by
  cases h <;> first | exact kit_ty (show kitB "NoneType" "str" = some false by decide +kernel) | exact kit_ty (show kitB "bool" "str" = some false by decide +kernel) | exact kit_ty (show kitB "int" "str" = some false by decide +kernel) | exact kit_ty (show kitB "str" "str" = some true by decide +kernel) | exact kit_ty (show kitB "list" "str" = some false by decide +kernel) | exact kit_ty (show kitB "tuple" "str" = some false by decide +kernel)
theorem shaped_flat {d : PyData} (h : plainD d = true) (t : isT d = false) : SeqAt.shaped d = true := by
  cases d with
  | none => rfl
  | bool b => rfl
  | int i => rfl
  | str x =>
    unfold plainD at h
    unfold SeqAt.shaped PyData.canLay0
    rw [h]
    rfl
  | list ds => cases h
  | tuple ds => cases t
  | dict ds => cases h
theorem deq_bb {d d' : PyData} (h : isB d = true) (h' : isB d' = true) : PyData.eqv d d' = deq d d' := by
  cases d <;> cases h
  cases d' <;> cases h'
  simp only [PyData.eqv, deq]
theorem deq_nb {d d' : PyData} (h : isB d ≠ isB d') : deq d d' = false := by
  cases d <;> cases d' <;> first | rfl | exact absurd rfl h
theorem deq_nt {d d' : PyData} (h : isT d ≠ isT d') : deq d d' = false := by
  cases d <;> cases d' <;> first | rfl | exact absurd rfl h
theorem deq_ni {d d' : PyData} (h : isI d ≠ isI d') : deq d d' = false := by
  cases d <;> cases d' <;> first | rfl | exact absurd rfl h
theorem deq_ns {d d' : PyData} (h : isS d ≠ isS d') : deq d d' = false := by
  cases d <;> cases d' <;> first | rfl | exact absurd rfl h
theorem deq_rest {d d' : PyData} (p : plainD d = true) (p' : plainD d' = true) (b : isB d = false) (b' : isB d' = false) (t : isT d = false) (t' : isT d' = false) (i : isI d = isI d') (s : isS d = isS d') : PyData.eqv d d' = deq d d' := by
  cases d <;> cases d' <;> first | exact absurd p Bool.false_ne_true | exact absurd p' Bool.false_ne_true | exact absurd i Bool.false_ne_true | exact absurd s Bool.false_ne_true | (cases b; done) | (cases b'; done) | (cases t; done) | (cases t'; done) | (cases i; done) | (cases s; done) | simp only [PyData.eqv, deq]
theorem walk_zipT {K : PySem.W.Frag} {a b : Addr} {xs ys : List V} {n : Nat} (hx : n = xs.length) (hy : n = ys.length) : Walk (ItzT K a b) n (fun H => SqT K H a xs ∧ SqT K H b ys) (YPair (fun i => xs[i]?) (fun i => ys[i]?)) where
  goes := fun i H hi g => ⟨xs, ys, _, _, g.1, g.2, List.getElem?_eq_getElem (by omega), List.getElem?_eq_getElem (by omega)⟩
  stops := fun H g => ⟨xs, ys, g.1, g.2, .inl (by omega)⟩
  yields := fun i H x H' hi g y => by
    obtain ⟨T, x', y', e, hT, eH, f1, f2⟩ := y
    exact ⟨T, x', y', e, hT, eH, f1 xs g.1, f2 ys g.2⟩
/-- nothing is promised -/
theorem fn_none {P : Program} {w : World} {K : PySem.W.Frag} {mg : Str → Option Value} {base : Heap} {CX : CXT} {k : Nat} {f : Addr} {fd : FuncData} {ps : List Str} {sp : Sp} (h : ∀ vs H Q E, ¬ sp vs H Q E) : FnOk P w K mg base CX k f fd ps sp :=
  ⟨fun vs H Q E z => absurd z (h vs H Q E), fun A outer s H args us vs Q E _ _ _ _ z => absurd z (h vs H Q E)⟩
end PM

namespace PM
open PySem PySem.Spec PyProof.Rows L2 RZ
/-! ### a def entered from one given place (so that what stands around it is known) -/
section
variable {P : Program} {w : World} {K : PySem.W.Frag} {mg : Str → Option Value} {base : Heap}
theorem enter_at {kk : Nat} {fn : Addr} {nm ql : Str} {pa : Arguments} {bd : List Stmt} {sco : Scope} {v1 v2 v3 v4 cv v5 v6 : Value} {an od : Option Addr} {sl : Array (Option Value)} {N ps : List Str} {Ar : Around} {out : List Env} {sh : Shared} {H : Hp} {args : Args} {us : List Value} {vs : List V} {Q : VK}
    (look : K.lookup fn = some ⟨v6, od, .func (PySem.W.fnOf nm ql pa bd sco v1 v2 v3 v4 an cv v5), sl⟩) (code : PySem.W.codeIn K cv ql = true) (S : FnScope N ps sco) (len : vs.length = ps.length) (room : Room (kk + 1) Ar)
    (env0 : Env0 P w K mg base Ar out sh H) (bnd : BindsTo sh (PySem.W.fnOf nm ql pa bd sco v1 v2 v3 v4 an cv v5) args (ps.zip us)) (vals : Vals vs us)
    (walk : ∃ t, PSs (cxOf CX0 P w K mg base N ql sco fn cv Ar out sh H E0) bd t ∧ t { nx := fun _ H' => Q .non H', rt := Q } (start N vs) H) :
    codeAny (model P w) Ar (.call (.ref fn) args) (CR CX0 out P w H sh Q E0) sh := by
  obtain ⟨t, der, rd⟩ := walk
  have old := fun b o (z : base.get? b = some o) => (env0.bs b o z).1
  have inK : K.In sh.heap := env0.mod.kin.keeps old
  refine codeAny_call_function room.depth (inK _ _ look) rfl S.co S.gen rfl (PySem.W.codeRec_of inK code) (bnd _ _ _ _ ?_)
  refine wpAny_newFunctionEnv_cells S.kind (fun y mem => ?_) fun en same sh1 x => ?_
  · obtain ⟨name, val⟩ := y
    exact (S.par name (List.of_mem_zip mem).1).imp id fun c => ⟨c, PySem.W.cellsFrom_some _ _ _ (.inl c)⟩
  · cases same
    refine ⟨(env0.mod.nolimit.keeps old).keeps x.toInCall.keep, codeAny_func (wpAny_mono (der.run [] sh1 (start N vs) H _ (inv_start S room.hd env0 len vals x) rd) (fun flow sh2 z => ?_) fun _ _ z => z)⟩
    match flow, z with
    | .ret u, ⟨v, _, H2, J, rv, q⟩ => exact ⟨v, H2, J.os, J.bare, J.base, J.hok, rv, q⟩
    | .next, ⟨_, H2, J, q⟩ => exact ⟨V.non, H2, J.os, J.bare, J.base, J.hok, rfl, q⟩
    | .brk, ⟨_, _, _, q⟩ => exact q.elim
    | .cont, ⟨_, _, _, q⟩ => exact q.elim
/-- the tracked part that the law starts with: the script (locked), or nothing where it is one of the written objects -/
structure Lone (K : PySem.W.Frag) (H : Hp) (scr : Addr) : Prop where
  at_ : ∀ b, H b = none ∨ (b = scr ∧ K.lookup scr = none ∧ ∃ o xs, H b = some (.frz o (.lst xs)))
theorem lone_env {mb : Str → Option Value} {H : Hp} {scr : Addr} {sh : Shared} {vs : List Value} (L : Lone K H scr) (inK : K.In sh.heap) (glob : sh.heap.Ns mainGlobals mg) (blt : sh.heap.Ns builtinsNs mb) (boot : ∀ x : Str, x ≠ "__name__" → mb x = bootBuiltins x)
    (lim : sh.heap.NoLimit) (gens : sh.gens = #[]) (obj : sh.heap.get? scr = some { cls := .type "list", data := .seq vs.toArray }) (hok : HOk P w H sh.heap) :
    K.In (hidT sh.heap H) ∧ (hidT sh.heap H).Ns mainGlobals mg ∧ Env0 P w K mg (hidT sh.heap H) callerA [] sh H := by
  have names : ∀ {b : Addr} {m : Str → Option Value}, sh.heap.Ns b m → (hidT sh.heap H).Ns b m := by
    rintro b m ⟨o, es, ep, get, isD, rest⟩
    refine ⟨o, es, ep, hidT_get get ?_, isD, rest⟩
    rcases L.at_ b with z | ⟨rfl, _⟩
    · exact z
    · cases obj.symm.trans get
      cases (show Data.seq vs.toArray _ = Data.dict es ep from isD)
  have inB : K.In (hidT sh.heap H) := by
    intro b o z
    refine hidT_get (inK b o z) ?_
    rcases L.at_ b with y | ⟨rfl, non, _⟩
    · exact y
    · cases non.symm.trans z
  obtain ⟨mc, l1, l2⟩ := lim
  exact ⟨inB, names glob, ⟨rfl, ⟨inB, names glob, ⟨mb, names blt, boot⟩, ⟨mc, names l1, l2⟩⟩, fun b o z => of_hidT z, Nat.le_of_eq (hidT_size _ _), trivial, fun b z => (List.not_mem_nil (show b ∈ ([] : List Addr) from z)).elim, hok, .of_eq gens⟩⟩
theorem lone_law {H : Hp} {scr fn : Addr} {sh : Shared} (L : Lone K H scr) (hok : HOk P w H sh.heap)
    (run : codeAny (model P w) callerA (.call (.ref fn) ⟨[.ref scr], []⟩) (CR CX0 [] P w H sh (fun v _ => v = .bl true) E0) sh) :
    codeAny (model P w) callerA (.call (.ref fn) ⟨[.ref scr], []⟩) (fun r sh' => r = .ok (.ret (.bool true)) ∧ OldK sh.heap sh'.heap ∧ sh'.os = sh.os ∧ AllBare sh'.gens) sh := by
  refine codeAny_mono run fun r sh' z => ?_
  match r, z with
  | .error _, z => exact (show False from z).elim
  | .ok .next, z => exact (show False from z).elim
  | .ok .brk, z => exact (show False from z).elim
  | .ok .cont, z => exact (show False from z).elim
  | .ok (.ret u), ⟨v, H2, hos, bare, un, hok2, rv, (q : v = .bl true)⟩ =>
    subst q
    cases (show u = Value.bool true from rv)
    refine ⟨rfl, OldK.of_keep fun b o get => ?_, hos, bare⟩
    rcases L.at_ b with no | ⟨_, _, ob, xs, is⟩
    · exact un.keep b o get no (fun z => (List.not_mem_nil (show b ∈ ([] : List Addr) from z)).elim) (by simp)
    · obtain ⟨g1, _⟩ := hok b _ is
      obtain ⟨g2, _⟩ := hok2 b _ (un.frzs b ob _ is)
      cases get.symm.trans g1
      exact g2
theorem law_at {mb : Str → Option Value} {fn scr : Addr} {sh : Shared} {vs : List Value} {ns : List Int} (inK : K.In sh.heap) (glob : sh.heap.Ns mainGlobals mg) (blt : sh.heap.Ns builtinsNs mb) (boot : ∀ x : Str, x ≠ "__name__" → mb x = bootBuiltins x)
    (lim : sh.heap.NoLimit) (gens : sh.gens = #[]) (obj : sh.heap.get? scr = some { cls := .type "list", data := .seq vs.toArray }) (areI : IntsAre vs ns) (few : ns.length ≤ sizeLine)
    (run : ∀ (base : Heap) (H : Hp), K.In base → base.Ns mainGlobals mg → SqL K H scr (ns.map V.int) → Env0 P w K mg base callerA [] sh H →
      codeAny (model P w) callerA (.call (.ref fn) ⟨[.ref scr], []⟩) (CR CX0 [] P w H sh (fun v _ => v = .bl true) E0) sh) :
    codeAny (model P w) callerA (.call (.ref fn) ⟨[.ref scr], []⟩) (fun r sh' => r = .ok (.ret (.bool true)) ∧ OldK sh.heap sh'.heap ∧ sh'.os = sh.os ∧ AllBare sh'.gens) sh := by
  have rel : Vals (ns.map V.int) vs := vals_ints areI
  have go : ∀ H : Hp, Lone K H scr → HOk P w H sh.heap → SqL K H scr (ns.map V.int) → codeAny (model P w) callerA (.call (.ref fn) ⟨[.ref scr], []⟩) (fun r sh' => r = .ok (.ret (.bool true)) ∧ OldK sh.heap sh'.heap ∧ sh'.os = sh.os ∧ AllBare sh'.gens) sh :=
    fun H L hok seq => by
      obtain ⟨h1, h2, h3⟩ := lone_env L inK glob blt boot lim gens obj hok
      exact lone_law L hok (run _ H h1 h2 seq h3)
  cases written : K.lookup scr with
  | some o =>
    cases obj.symm.trans (inK scr o written)
    refine go (fun _ => none) ⟨fun _ => .inl rfl⟩ (fun b u z => nomatch (show (none : Option HO) = some u from z)) (.inr ⟨_, vs.toArray, _, written, rfl, rfl, rfl, ?_, rel⟩)
    rw [List.size_toArray, areI.length]
    exact few
  | none =>
    let H : Hp := fun b => if b = scr then some (.frz { cls := .type "list", data := .seq vs.toArray } (.lst (ns.map V.int))) else none
    have yes : H scr = some (.frz { cls := .type "list", data := .seq vs.toArray } (.lst (ns.map V.int))) := if_pos rfl
    have no : ∀ b, b ≠ scr → H b = none := fun b z => if_neg z
    refine go H ⟨fun b => ?_⟩ (fun b u z => ?_) (.inl (.inr ⟨_, yes⟩))
    · by_cases e : b = scr
      · exact .inr ⟨e, written, _, _, by rw [e]; exact yes⟩
      · exact .inl (no b e)
    · by_cases e : b = scr
      · subst e
        cases yes.symm.trans z
        exact ⟨obj, by rw [List.length_map]; exact few, vs, _, rel, obj⟩
      · cases (no b e).symm.trans z
end
/-- the end of a law whose body leans on what stands around it -/
theorem walk_at {l : PySem.W.OpenLaw} {n : Nat} {q : Program} {loose : List Str} {XP : (Str → Option Value) → Heap → Prop} {YP : World → Heap → Prop} {d : DefRec} {K : Params → PySem.W.Frag}
    (most : l.most = some n) (few : n ≤ sizeLine) (dfl : d.params.defaults = []) (inY : ∀ (w : World) (h : Heap), YP w h → (K w.params).In h)
    (F : ∀ (w : World) (mg : Str → Option Value) (fa : Addr) (h : Heap), (K w.params).In h → h.Ns mainGlobals mg → mg d.name = some (.ref fa) →
      ∀ (base : Heap) (H : Hp) (sh : Shared) (scr : Addr) (ns : List Int), ns.length ≤ n → (K w.params).In base → base.Ns mainGlobals mg → SqL (K w.params) H scr (ns.map V.int) → Env0 l.prog w (K w.params) mg base callerA [] sh H →
        codeAny (model l.prog w) callerA (.call (.ref fa) ⟨[.ref scr], []⟩) (CR CX0 [] l.prog w H sh (fun v _ => v = .bl true) E0) sh) :
    PySem.W.WalkO q loose XP YP l.row.toRowW d [] (fun f vs => PySem.call f vs) := by
  refine Att.attach_call most dfl fun w s0 s1 mg mb fa o pm cd doc a vs ns G Y ho hd hcd hmg hobj hints hlen hg => ?_
  have KX := inY w _ Y
  exact law_at KX G.T.g G.T.b G.T.builtins G.T.nolimit hg hobj hints (Nat.le_trans hlen few) fun base H inB glob seq e0 => F w mg fa _ KX G.T.g hmg base H s1 a ns hlen inB glob seq e0
end PM

namespace PM
open PySem PySem.Spec PyProof.Rows L2 RZ
/-- repr of data, where nothing is being shown around it -/
def rRepr : List V → Hp → VK → Prop := fun xs H Q => ∃ (v : V) (d : PyData), xs = [v] ∧ Da H v d ∧ d.showable = true ∧ d.hasDict = false ∧ d.depth ≤ 60 ∧ d.shown.length ≤ sizeLine ∧ Q (.str d.shown) H
section
variable {X : Cx}
theorem call_repr (quiet : X.A.guards = some []) (hu : X.A.units + 64 < cLine) : CallR X (.builtin "repr") rRepr := by
  intro pins s σ H xs us Q I r h
  obtain ⟨v, d, rfl, hd, sh, nd, dp, sz, q⟩ := h
  cases r with
  | cons r0 rr =>
    cases rr
    rename_i u
    have all : ∀ (a : Addr), u = .ref a → wpAny (model X.prog X.w) X.A (call (.builtin "repr") [u]) (EP X pins σ Q) X.xe s := fun a e => by
      subst e
      obtain ⟨as, rd⟩ := Dp.reads I d v (.ref a) hd.dp r0
      exact repr_of_reads' rd sh (fun z => by rw [nd] at z; cases z) quiet (by omega) (fun _ _ z => z) (fun h' t tk k => ⟨.str d.shown, H, I.kept k, ⟨t, rfl⟩, q⟩) sz
    cases hd with
    | non =>
      cases (show u = Value.none from r0)
      exact PySem.P.repr_of_none ⟨.str _, H, I.tok _, ⟨_, rfl⟩, q⟩
    | bl b =>
      cases (show u = Value.bool b from r0)
      exact PySem.P.repr_of_bool ⟨.str _, H, I.tok _, ⟨_, rfl⟩, by cases b <;> exact q⟩
    | int i =>
      obtain ⟨t, e⟩ := (show ∃ t, u = Value.int i t from r0)
      cases e
      exact PySem.P.repr_of_int (of_decide_eq_true sh) ⟨.str _, H, I.tok _, ⟨_, rfl⟩, q⟩
    | str y =>
      obtain ⟨t, e⟩ := (show ∃ t, u = Value.str y t from r0)
      cases e
      exact PySem.P.repr_of_str ⟨.str _, H, I.tok _, ⟨_, rfl⟩, q⟩ sz
    | lst e h => exact all _ r0
    | tup e h => exact all _ r0
end
/-! ### what is shown, and how long it is -/
structure Shw (d : PyData) (n m : Nat) : Prop where
  sh : d.showable = true
  nd : d.hasDict = false
  dp : d.depth ≤ m
  ln : d.shown.length ≤ n
structure ShwL (ds : List PyData) (n m : Nat) : Prop where
  sh : PyData.showableAll ds = true
  nd : PyData.hasDictAll ds = false
  dp : PyData.depthAll ds ≤ m
  ln : ((PyData.shownAll ds).map (·.length)).sum + 2 * ds.length ≤ n
theorem Shw.non : Shw .none 4 0 := ⟨rfl, rfl, by decide, by decide⟩
theorem Shw.bool (b : Bool) : Shw (.bool b) 5 0 := ⟨rfl, rfl, Nat.le_of_eq rfl, by cases b <;> decide⟩
theorem Shw.int {i : Int} {b : Nat} (h : i.natAbs < 2 ^ b) (h0 : 0 < b) (h9 : b ≤ 1920) : Shw (.int i) 1921 0 := by
  have l := Nat.lt_of_lt_of_le (PySem.Flt.log2_lt_of h0 h) h9
  exact ⟨decide_eq_true l, rfl, Nat.le_of_eq rfl, int_text_len_1921 l⟩
theorem ShwL.nil (m : Nat) : ShwL [] 0 m := ⟨rfl, rfl, Nat.zero_le _, Nat.le_refl _⟩
theorem ShwL.cons {d : PyData} {ds : List PyData} {n k m : Nat} (h : Shw d n m) (t : ShwL ds k m) : ShwL (d :: ds) (n + 2 + k) m := by
  refine ⟨?_, ?_, ?_, ?_⟩
  · unfold PyData.showableAll
    rw [h.sh, t.sh]
    rfl
  · unfold PyData.hasDictAll
    rw [h.nd, t.nd]
    rfl
  · unfold PyData.depthAll
    exact Nat.max_le.mpr ⟨h.dp, t.dp⟩
  · unfold PyData.shownAll
    rw [List.map_cons, List.sum_cons, List.length_cons]
    have := h.ln
    have := t.ln
    omega
theorem Shw.tup {ds : List PyData} {n m : Nat} (h : ShwL ds n m) : Shw (.tuple ds) (n + 3) (m + 1) := by
  refine ⟨h.sh, h.nd, ?_, ?_⟩
  · unfold PyData.depth
    have := h.dp
    omega
  · have a := tupleText_len_le (PyData.shownAll ds)
    have b := PyData.shownAll_length ds
    have c := h.ln
    unfold PyData.shown
    omega
theorem Shw.lst {ds : List PyData} {n m : Nat} (h : ShwL ds n m) : Shw (.list ds) (n + 3) (m + 1) := by
  refine ⟨h.sh, h.nd, ?_, ?_⟩
  · unfold PyData.depth
    have := h.dp
    omega
  · have a := listText_len_le (PyData.shownAll ds)
    have b := PyData.shownAll_length ds
    have c := h.ln
    unfold PyData.shown
    omega
theorem Shw.mono {d : PyData} {n m n' m' : Nat} (h : Shw d n m) (a : n ≤ n') (b : m ≤ m') : Shw d n' m' := ⟨h.sh, h.nd, Nat.le_trans h.dp b, Nat.le_trans h.ln a⟩
theorem Shw.fit {d : PyData} {n m : Nat} (h : Shw d n m) (hn : n ≤ 1000000) : d.shown.length ≤ sizeLine := Nat.le_trans h.ln (Nat.le_trans hn (by rw [sizeLine_eq]; decide))
theorem Shw.deep {d : PyData} {n m : Nat} (h : Shw d n m) (hm : m ≤ 60) : d.depth ≤ 60 := Nat.le_trans h.dp hm
/-- the reading of repr(v) -/
theorem rRepr_of {H : Hp} {v : V} {d : PyData} {n m : Nat} {Q : VK} (h : Da H v d) (s : Shw d n m) (hn : n ≤ 1000000) (hm : m ≤ 60) (q : Q (.str d.shown) H) : rRepr [v] H Q :=
  ⟨v, d, rfl, h, s.sh, s.nd, Nat.le_trans s.dp hm, Nat.le_trans s.ln (Nat.le_trans hn (by rw [sizeLine_eq]; decide)), q⟩
theorem Shw.fd {x : Int × Int} {b : Nat} (h : Fr.Sz b x) (h0 : 0 < b) (h9 : b ≤ 1920) : Shw (fd x) 3849 1 :=
  (Shw.tup (.cons (.int h.1 h0 h9) (.cons (.int h.2 h0 h9) (.nil 0)))).mono (by decide) (by decide)
theorem neS {x : Str} {A B : Prop} (k : B) : if (!decide (V.str x = V.str x)) = true then A else B := by
  rw [decide_eq_true rfl]
  exact k
mutual
theorem deq_refl : ∀ {d : PyData}, plainD d = true → deq d d = true
  | .none, _ => rfl
  | .bool b, _ => by simp [deq]
  | .int i, _ => by simp [deq]
  | .str x, _ => by simp [deq]
  | .tuple ds, h => deqL_refl (plain_tup h).2
  | .list _, h => by cases h
  | .dict _, h => by cases h
theorem deqL_refl : ∀ {ds : List PyData}, plainD.plainL ds = true → deq.deqL ds ds = true
  | [], _ => rfl
  | d :: ds, h => by
    unfold plainD.plainL at h
    unfold deq.deqL
    rw [deq_refl (Bool.and_eq_true_iff.mp h).1, deqL_refl (Bool.and_eq_true_iff.mp h).2]
    rfl
end
end PM

namespace PM
open PySem PySem.Spec PyProof.Rows L2
def topS (i : Nat) : Stmt := PySem.Challenge.pw_poolmarks_k02_sums_products_and_order.main.body.getD i (.Pass ⟨0, 0, 0, 0⟩)
section
variable {P : Program} {w : World} {K : PySem.W.Frag} {mg : Str → Option Value} {base : Heap}
/-! ### the next drawn number -/
abbrev s__law_next : Stmt := topS 12
abbrev N__law_next : List Str := ["_law_drawn", "_law_many", "_law_cells", "_law_turn", "_law_rests", "_law_spot", "_law_digit", "_law_mixed", "_law_again"]
abbrev P__law_next : List Str := ["_law_drawn", "_law_many"]
theorem sc__law_next : FnScope N__law_next P__law_next (defScope s__law_next) := ⟨rfl, rfl, rfl, by decide +kernel, rfl, by decide +kernel, by decide +kernel⟩
def sp__law_next : Sp := fun vs H Q _ => ∃ (a c r : Addr) (n : Nat) (m : Int), vs = [.ref a, .int m] ∧ Drw H a c r n ∧ n < 1000000 ∧ 0 < m ∧ m.natAbs.log2 < 9000 ∧
  ∀ (v : Int) H', 0 ≤ v → v < m → Drw H' a c r (n + 1) → Keep a r H H' → Q (.int v) H'
theorem ok__law_next {k : Nat} (d : IsDef K mg "_law_next" s__law_next P__law_next) (m_len : mg "len" = none) : Ok P w K mg base (k + 1) "_law_next" s__law_next P__law_next sp__law_next := by
  obtain ⟨f, fd, D⟩ := d
  refine ⟨f, fd, D, D.F.ok sc__law_next (fun vs H Q E h => ?_) (fun cdv A outer s H vs Q E hr h => ?_)⟩
  · obtain ⟨a, c, r, n, m, rfl, _⟩ := h
    rfl
  · obtain ⟨a, c, r, n, m, rfl, dr, hn, hm, hb, q⟩ := h
    obtain ⟨⟨cells, rests, t, hA, hC, hR, e1, e2, e3, t0, tn⟩, ac, ar, cr⟩ := id dr
    refine ⟨_, (pss_cons (ps_asg (pv 0) (pg_unl (by rfl) (pgs_cons (pg_name (i := 2) sc__law_next.nd rfl (.inl rfl)) (pgs_cons (pg_name (i := 3) sc__law_next.nd rfl (.inl rfl)) (pgs_cons (pg_name (i := 4) sc__law_next.nd rfl (.inl rfl)) pgs_nil)))))
      (pss_cons (ps_set (i := 5) sc__law_next.nd rfl (.inl rfl) (pe_op op_mod (pv 3) (pe_callB call_len_seq (by rfl) m_len (by decide +kernel) (pa_cons (pv 2) pa_nil))))
      (pss_cons (ps_asg (pe_op op_add (pv 3) pe_int) (pg_sub (pv 0) pe_int set_list))
      (pss_cons (ps_if (pt_cmpR op_gt (pe_ix ix_list (pv 4) (pv 5) (fun _ _ => rfl)) pe_int (nomark _)) (pss_cons (ps_set (i := 6) sc__law_next.nd rfl (.inl rfl) (pe_op op_mod (pe_ix ix_list (pv 4) (pv 5) (fun _ _ => rfl)) (pv 1))) (pss_cons (ps_asg (pe_op op_fdivW (pe_ix ix_list (pv 4) (pv 5) (fun _ _ => rfl)) (pv 1)) (pg_sub (pv 4) (pv 5) set_list)) (pss_one (ps_ret (pv 6))))) pss_nil)
      (pss_cons (ps_set (i := 7) sc__law_next.nd rfl (.inl rfl) (pe_op op_mod (pe_op op_pow (pe_op op_add (pe_op op_add (pe_op op_mod (pe_ix ix_list (pv 2) (pv 5) (fun _ _ => rfl)) pe_int) (pe_op op_mul pe_int (pv 3))) pe_int) pe_int) pe_int))
      (pss_cons (ps_set (i := 8) sc__law_next.nd rfl (.inl rfl) (pe_op op_mod (pe_op op_pow (pe_op op_add (pe_op op_add (pv 7) (pe_op op_mul (pe_op op_mul pe_int (pv 3)) (pv 3))) pe_int) pe_int) pe_int))
      (pss_one (ps_ret (pe_op op_mod (pe_op op_mod (pe_op op_add (pe_op op_mul (pv 8) pe_int) (pv 7)) pe_int) (pv 1)))))))))), ?_⟩
    refine ⟨.ref a, rfl, a, _, rfl, .inl (.inl hA), rfl, _, _, rfl, _, _, rfl, _, _, rfl, rfl, ?_⟩
    -- spot
    refine ⟨.int t, rfl, .ref c, rfl, c, _, rfl, .inl (.inl (.inl hC)), _, _, rfl, rfl, ?_, ?_⟩
    · show (0 : Int) < _
      rw [List.length_map]
      omega
    rw [List.length_map]
    obtain ⟨j, ej⟩ : ∃ j : Nat, t % (cells.length : Int) = (j : Int) := ⟨(t % (cells.length : Int)).toNat, by
      have := Int.emod_nonneg t (show (cells.length : Int) ≠ 0 by omega)
      omega⟩
    have hj : j < cells.length := by
      have := Int.emod_lt_of_pos t (show (0 : Int) < (cells.length : Int) by omega)
      omega
    have hj' : j < rests.length := by omega
    dsimp only
    rw [ej]
    -- drawn[1] = turn + 1
    refine ⟨.int t, rfl, _, _, rfl, rfl, .ref a, rfl, a, _, _, 1, rfl, rfl, hA, rfl, ?_⟩
    have hC1 : (upd H a (.lst (List.set [.ref c, .int t, .ref r] 1 (.int (t + 1))))) c = some (.lst (cells.map V.int)) := by
      rw [upd_ne (Ne.symm ac)]
      exact hC
    have hR1 : (upd H a (.lst (List.set [.ref c, .int t, .ref r] 1 (.int (t + 1))))) r = some (.lst (rests.map V.int)) := by
      rw [upd_ne (Ne.symm ar)]
      exact hR
    have gc : atI (cells.map V.int) (j : Int) = some (.int cells[j]) := atI_nat (by rw [List.getElem?_map, List.getElem?_eq_getElem hj]; rfl)
    have gr : atI (rests.map V.int) (j : Int) = some (.int rests[j]) := atI_nat (by rw [List.getElem?_map, List.getElem?_eq_getElem hj']; rfl)
    refine ⟨.ref r, rfl, .int j, rfl, r, _, _, _, rfl, rfl, .inl (.inl hR1), gr, _, _, rfl, rfl, _, rfl, ite2 (fun e => ?_) (fun e => ?_)⟩
    · -- a digit of a great number
      refine ⟨.ref r, rfl, .int j, rfl, r, _, _, _, rfl, rfl, .inl (.inl hR1), gr, .int m, rfl, _, _, rfl, rfl, hm, ?_⟩
      refine ⟨.ref r, rfl, .int j, rfl, r, _, _, _, rfl, rfl, .inl (.inl hR1), gr, .int m, rfl, _, _, rfl, rfl, ⟨hm, hb⟩, .ref r, rfl, .int j, rfl, r, _, _, j, rfl, rfl, hR1, ?_, ?_⟩
      · rw [List.length_map]
        exact place_ok hj'
      refine ⟨_, rfl, q _ _ (Int.emod_nonneg _ (by omega)) (Int.emod_lt_of_pos _ hm) ?_ ?_⟩
      · refine ⟨⟨cells, rests.set j (rests[j] / m), t + 1, ?_, ?_, ?_, ?_, e2, e3, by omega, by omega⟩, ac, ar, cr⟩
        · rw [upd_ne ar, upd_same]
          rfl
        · rw [upd_ne cr]
          exact hC1
        · rw [upd_same, List.map_set]
        · rw [List.length_set]
          exact e1
      · intro b o ba br hb
        rw [upd_ne br, upd_ne ba]
        exact hb
    · -- a mixed number
      have gp : ∀ x y : Int, 0 < y → 0 ≤ x % y ∧ x % y < y := fun x y h => ⟨Int.emod_nonneg _ (by omega), Int.emod_lt_of_pos _ h⟩
      have t1 : t < 1000000 := by omega
      have b1 := gp cells[j] 2147483629 (by decide)
      refine ⟨.ref c, rfl, .int j, rfl, c, _, _, _, rfl, rfl, .inl (.inl hC1), gc, _, _, rfl, rfl, (by show (0 : Int) < 2147483629; decide), .int t, rfl, _, _, rfl, rfl, .inl ⟨by decide, by decide⟩, _, _, rfl, rfl, _, _, rfl, rfl, _, _, rfl, rfl, ⟨by decide, by decide, ?_⟩, _, _, rfl, rfl, (by show (0 : Int) < 2147483587; decide), ?_⟩
      · omega
      obtain ⟨x, hx, x0, x1⟩ : ∃ x : Int, (cells[j] % 2147483629 + 39119 * t + 9901) ^ Int.toNat 3 % 2147483587 = x ∧ 0 ≤ x ∧ x < 2147483587 := ⟨_, rfl, gp _ _ (by decide)⟩
      change gName 7 (.int ((cells[j] % 2147483629 + 39119 * t + 9901) ^ Int.toNat 3 % 2147483587)) _ _ _
      rw [hx]
      have tt : 0 ≤ 7001 * t * t ∧ 7001 * t * t < 7001 * 1000000 * 1000000 := by
        have h1 : 0 ≤ t * t := Int.mul_nonneg t0 t0
        have h2 : t * t ≤ 1000000 * 1000000 - 1 := by
          have := Int.mul_le_mul (show t ≤ 999999 by omega) (show t ≤ 999999 by omega) t0 (by omega)
          omega
        rw [Int.mul_assoc]
        omega
      refine ⟨.int x, rfl, .int t, rfl, _, _, rfl, rfl, .inl ⟨by decide, by decide⟩, .int t, rfl, _, _, rfl, rfl, .inl ⟨?_, ?_⟩, _, _, rfl, rfl, _, _, rfl, rfl, _, _, rfl, rfl, ⟨by decide, by decide, ?_⟩, _, _, rfl, rfl, (by show (0 : Int) < 2147483563; decide), ?_⟩
      · omega
      · omega
      · omega
      obtain ⟨y, hy, y0, y1⟩ : ∃ y : Int, (x + 7001 * t * t + 41) ^ Int.toNat 3 % 2147483563 = y ∧ 0 ≤ y ∧ y < 2147483563 := ⟨_, rfl, gp _ _ (by decide)⟩
      change gName 8 (.int ((x + 7001 * t * t + 41) ^ Int.toNat 3 % 2147483563)) _ _ _
      rw [hy]
      refine ⟨.int y, rfl, _, _, rfl, rfl, .inl ⟨by omega, by omega⟩, .int x, rfl, _, _, rfl, rfl, _, _, rfl, rfl, (by show (0 : Int) < 4611686018427387847; decide), .int m, rfl, _, _, rfl, rfl, hm, ?_⟩
      refine q _ _ (Int.emod_nonneg _ (by omega)) (Int.emod_lt_of_pos _ hm) ?_ ?_
      · refine ⟨⟨cells, rests, t + 1, ?_, hC1, hR1, e1, e2, e3, by omega, by omega⟩, ac, ar, cr⟩
        rw [upd_same]
        rfl
      · intro b o ba br hb
        rw [upd_ne ba]
        exact hb
/-! ### the drawn numbers are laid -/
abbrev s__law_draws : Stmt := topS 11
abbrev N__law_draws : List Str := ["_law_script", "_law_cells", "_law_cell"]
abbrev P__law_draws : List Str := ["_law_script"]
theorem sc__law_draws : FnScope N__law_draws P__law_draws (defScope s__law_draws) := ⟨rfl, rfl, rfl, by decide +kernel, rfl, by decide +kernel, by decide +kernel⟩
def sp__law_draws (K : PySem.W.Frag) : Sp := fun vs H Q _ => ∃ (a : Addr) (ns : List Int), vs = [.ref a] ∧ SqL K H a (ns.map V.int) ∧ ns.length ≤ 63 ∧
  ∀ H' p c r, Same H H' → H p = none → H c = none → H r = none → Drw H' p c r 0 → Q (.ref p) H'
theorem ok__law_draws {k : Nat} (d : IsDef K mg "_law_draws" s__law_draws P__law_draws) (m_len : mg "len" = none) (m_int : mg "int" = none) (m_list : mg "list" = none) : Ok P w K mg base (k + 1) "_law_draws" s__law_draws P__law_draws (sp__law_draws K) := by
  obtain ⟨f, fd, D⟩ := d
  refine ⟨f, fd, D, D.F.ok sc__law_draws (fun vs H Q E h => ?_) (fun cdv A outer s H vs Q E hr h => ?_)⟩
  · obtain ⟨a, ns, rfl, _⟩ := h
    rfl
  · obtain ⟨a, ns, rfl, hS, hlen, q⟩ := h
    refine ⟨_, (pss_cons (ps_set (i := 1) sc__law_draws.nd rfl (.inl rfl) (pe_op op_cat (pe_callTy call_list_of (by rfl) m_list (by decide +kernel) (pa_cons (pe_slice sl_list (pv 0) po_none (po_some pe_int)) pa_nil)) (pe_op op_rep (pe_lst (pa_cons pe_int pa_nil)) (pe_callTy call_int1 (by rfl) m_int (by decide +kernel) (pa_cons (pe_cmpR op_eq (pe_callB call_len_seq (by rfl) m_len (by decide +kernel) (pa_cons (pv 0) pa_nil)) pe_int (nomark _)) pa_nil)))))
      (pss_one (ps_ret (pe_lst (pa_cons (pv 1) (pa_cons pe_int (pa_cons (pe_lc (own := [("_law_cell", 2)]) (g := gName 2) (by rfl) sc__law_draws.nd (pi_list (pv 1)) (blkOk_by (own := [("_law_cell", 2)]) (N := N__law_draws) (sc := defScope s__law_draws) (by decide +kernel)) (fun _ _ _ _ _ => by exact (pg_name (i := 2) sc__law_draws.nd rfl (.inl rfl))) (fun _ _ _ _ _ => pts_nil) (fun _ _ _ _ _ => by exact (pe_op op_mul (pv 2) (pe_callTy call_int1 (by rfl) m_int (by decide +kernel) (pa_cons (pe_cmpR op_ge (pv 2) (pe_op op_pow pe_int pe_int) (nomark _)) pa_nil))))) pa_nil))))))), ?_⟩
    refine ⟨.ref a, rfl, 63, rfl, a, _, rfl, hS, fun p1 n1 => ?_⟩
    rw [cut63 (by rw [List.length_map]; exact hlen)]
    have s1 := same_upd (ob := .lst (ns.map V.int)) n1
    refine ⟨p1, _, rfl, .inl (.inl (.inl upd_same)), fun p2 n2 => ?_⟩
    have s2 := s1.trans (same_upd (ob := .lst (ns.map V.int)) n2)
    refine ⟨toks (by decide), fun p3 n3 => ?_⟩
    have s3 := s2.trans (same_upd (ob := .lst [.int 0]) n3)
    have z2 := same_upd (ob := .lst [.int 0]) n3
    refine ⟨.ref a, rfl, a, _, rfl, .inl (s3.seq hS), rfl, .inr ⟨_, rfl, ?_⟩⟩
    obtain ⟨zs, hz, lz, ez⟩ : ∃ zs : List Int, zs.length ≤ 1 ∧ 0 < (ns ++ zs).length ∧ (List.replicate (if decide (V.int ((ns.map V.int).length : Int) = V.int 0) = true then (1 : Int) else 0).toNat [V.int 0]).flatten = zs.map V.int := by
      cases ns with
      | nil => exact ⟨[0], by decide, by decide, rfl⟩
      | cons x l =>
        refine ⟨[], by decide, by simp, ?_⟩
        rw [if_neg]
        · rfl
        · intro e
          have e := V.int.inj (of_decide_eq_true e)
          rw [List.length_map, List.length_cons] at e
          omega
    refine ⟨p3, _, [.int 0], rfl, rfl, upd_same, ?_, ?_, ?_, fun p4 n4 => ?_⟩
    · split <;> omega
    · split <;> omega
    · split <;> exact toks (by decide)
    rw [ez]
    have s4 := s3.trans (same_upd (ob := .lst (zs.map V.int)) n4)
    have z3 := z2.trans (same_upd (ob := .lst (zs.map V.int)) n4)
    refine ⟨p2, p4, _, _, rfl, rfl, z3 _ _ upd_same, upd_same, ?_, fun p5 n5 => ?_⟩
    · rw [List.length_map, List.length_map]
      exact toks (by omega)
    rw [← List.map_append]
    have s5 := s4.trans (same_upd (ob := .lst ((ns ++ zs).map V.int)) n5)
    have hlc : (ns ++ zs).length ≤ 64 := by
      rw [List.length_append]
      omega
    generalize hcells : ns ++ zs = cells at *
    generalize hH5 : upd _ p5 (HO.lst (cells.map V.int)) = H5 at *
    have h5 : H5 p5 = some (.lst (cells.map V.int)) := by
      rw [← hH5, upd_same]
    have np5 := s4.free n5
    refine ⟨.ref p5, rfl, .ref p5, rfl, p5, rfl, ⟨_, .inl (.inl h5)⟩, fun D nD => ?_⟩
    have dp : D ≠ p5 := fun e => by
      rw [e, h5] at nD
      cases nD
    refine lc_list (K := K) (xs := cells.map V.int) (fun i H' => Same H5 H' ∧ H' D = some (.lst (((cells.take i).map fun c => c * (if decide ((10 : Int) ^ Int.toNat 18 ≤ c) = true then 1 else 0)).map V.int))) ⟨same_upd nD, upd_same⟩ (fun i H' _ p => .inl (.inl (p.1 _ _ h5))) (fun i x H' hx p => ?_) (fun H' p => ?_)
    · rw [List.getElem?_map] at hx
      cases hc : cells[i]? with
      | none =>
        rw [hc] at hx
        cases hx
      | some y =>
        rw [hc] at hx
        have hx : x = .int y := (Option.some.inj hx).symm
        subst hx
        refine ⟨rfl, ?_⟩
        refine ⟨.int y, rfl, .int y, rfl, _, _, rfl, rfl, ⟨by decide, by decide, by decide⟩, _, _, rfl, rfl, .inr ⟨_, rfl, _, _, rfl, rfl, .inr ?_, _, p.2, ?_, ?_, ?_⟩⟩
        · split <;> decide
        · rw [List.length_map, List.length_map, List.length_take]
          exact small1000 (by omega)
        · intro b o e
          rw [upd_ne (show b ≠ D from fun z => by rw [z, nD] at e; cases e)]
          exact p.1 _ _ e
        · rw [upd_same, List.take_add_one, hc, List.map_append, List.map_append]
          rfl
    · obtain ⟨p1, p2⟩ := p
      rw [List.length_map, List.take_length] at p2
      obtain ⟨rests, hrs, lrs⟩ : ∃ rests : List Int, (cells.map fun c => c * (if decide ((10 : Int) ^ Int.toNat 18 ≤ c) = true then 1 else 0)) = rests ∧ rests.length = cells.length := ⟨_, rfl, by rw [List.length_map]⟩
      rw [hrs] at p2
      refine ⟨toks (by show 3 ≤ 1000; decide), fun pa na => ?_⟩
      have nD1 : H D = none := s5.free nD
      have na1 : H5 pa = none := p1.free na
      refine q _ pa p5 D ((s5.trans p1).trans (same_upd na)) (s5.free na1) np5 nD1 ⟨⟨cells, rests, 0, upd_same, ?_, ?_, lrs, lz, hlc, by decide, by decide⟩, ?_, ?_, Ne.symm dp⟩
      · rw [upd_ne (ne_of_none (p1 _ _ h5) na)]
        exact p1 _ _ h5
      · rw [upd_ne (ne_of_none p2 na)]
        exact p2
      · exact Ne.symm (ne_of_none (p1 _ _ h5) na)
      · exact Ne.symm (ne_of_none p2 na)
/-! ### lowest terms, as the law finds them -/
abbrev s__law_lowest : Stmt := topS 14
abbrev N__law_lowest : List Str := ["_law_numerator", "_law_denominator", "_law_one", "_law_other"]
abbrev P__law_lowest : List Str := ["_law_numerator", "_law_denominator"]
theorem sc__law_lowest : FnScope N__law_lowest P__law_lowest (defScope s__law_lowest) := ⟨rfl, rfl, rfl, by decide +kernel, rfl, by decide +kernel, by decide +kernel⟩
def sp__law_lowest : Sp := fun vs H Q _ => ∃ (n d : Int) (b : Nat), vs = [.int n, .int d] ∧ 0 < d ∧ d.natAbs < 2 ^ b ∧ 0 < b ∧ b ≤ 9000 ∧
  ∀ t, H t = none → Q (.ref t) (upd H t (.tup [.int (Fr.red n d).1, .int (Fr.red n d).2]))
theorem ok__law_lowest {k : Nat} (d : IsDef K mg "_law_lowest" s__law_lowest P__law_lowest) (m_abs : mg "abs" = none) : Ok P w K mg base (k + 1) "_law_lowest" s__law_lowest P__law_lowest sp__law_lowest := by
  obtain ⟨f, fd, D⟩ := d
  refine ⟨f, fd, D, D.F.ok sc__law_lowest (fun vs H Q E h => ?_) (fun cdv A outer s H vs Q E hr h => ?_)⟩
  · obtain ⟨n, d, b, rfl, _⟩ := h
    rfl
  · obtain ⟨n, d, b, rfl, d0, db, b0, b9, q⟩ := h
    refine ⟨_, (pss_cons (ps_par (i := 2) (j := 3) (by rfl) sc__law_lowest.nd rfl rfl (by decide) rfl rfl (pa_cons (pe_callB call_abs (by rfl) m_abs (by decide +kernel) (pa_cons (pv 0) pa_nil)) (pa_cons (pv 1) pa_nil)) (by rfl))
      (pss_cons (ps_while PassesOwn.never (pt_cmpR op_gt (pv 3) pe_int (nomark _)) (pss_one (ps_par (i := 2) (j := 3) (by rfl) sc__law_lowest.nd rfl rfl (by decide) rfl rfl (pa_cons (pv 3) (pa_cons (pe_op op_mod (pv 2) (pv 3)) pa_nil)) (by rfl))))
      (pss_one (ps_ret (pe_tup (pa_cons (pe_op op_fdivW (pv 0) (pv 2)) (pa_cons (pe_op op_fdivW (pv 1) (pv 2)) pa_nil))))))), ?_⟩
    refine ⟨.int n, rfl, n, rfl, .int d, rfl, _, _, rfl, ?_⟩
    refine ⟨fun m σ H' => H' = H ∧ ∃ x y : Int, 0 ≤ x ∧ 0 ≤ y ∧ m = y.toNat ∧ σ = [some (.int n), some (.int d), some (.int x), some (.int y)] ∧ Int.gcd x y = Int.gcd n d,
      ⟨d.toNat, rfl, (if n < 0 then -n else n), d, by split <;> omega, by omega, rfl, rfl, ?_⟩, fun m σ H' hW => ?_⟩
    · split
      · rw [Int.neg_gcd]
      · rfl
    · obtain ⟨rfl, x, y, x0, y0, rfl, rfl, hg⟩ := hW
      refine ⟨.int y, rfl, _, _, rfl, rfl, _, rfl, ite2 (fun e => ?_) (fun e => ?_)⟩
      · have yp : 0 < y := of_decide_eq_true e
        refine ⟨fun σ' H'' => H'' = H' ∧ σ' = [some (.int n), some (.int d), some (.int y), some (.int (x % y))], fun σ' H'' hN => ?_, ?_⟩
        · obtain ⟨rfl, rfl⟩ := hN
          have l1 := Int.emod_nonneg x (show y ≠ 0 by omega)
          have l2 := Int.emod_lt_of_pos x yp
          exact ⟨(x % y).toNat, by omega, rfl, y, x % y, by omega, l1, rfl, rfl, by rw [Fr.gcd_step x0 y0]; exact hg⟩
        · exact ⟨.int y, rfl, .int x, rfl, .int y, rfl, _, _, rfl, rfl, yp, _, _, rfl, rfl, rfl⟩
      · have y00 : y = 0 := by
          have h : ¬ 0 < y := fun z => e (decide_eq_true z)
          omega
        subst y00
        have ex : x = (Int.gcd n d : Int) := by rw [← hg, Fr.gcd_zero x0]
        have xp : 0 < x := by
          rw [ex]
          exact Fr.gcd_pos (by omega)
        have xd : x.natAbs < 2 ^ b := by
          refine Nat.lt_of_le_of_lt ?_ db
          rw [ex, Int.natAbs_natCast]
          exact Nat.le_of_dvd (by omega) (Nat.gcd_dvd_right _ _)
        have C : ∀ i : Int, CDivW i x := fun i => wide_div xp xd b0 b9
        refine ⟨.int n, rfl, .int x, rfl, _, _, rfl, rfl, C n, .int d, rfl, .int x, rfl, _, _, rfl, rfl, C d, toks (by show 2 ≤ 1000; decide), fun t nt => ?_⟩
        have := q t nt
        unfold Fr.red at this
        rw [← ex] at this
        exact this
/-! ### the greatest common divisor -/
abbrev s_common_divisor : Stmt := topS 4
abbrev N_common_divisor : List Str := ["one", "other"]
abbrev P_common_divisor : List Str := ["one", "other"]
theorem sc_common_divisor : FnScope N_common_divisor P_common_divisor (defScope s_common_divisor) := ⟨rfl, rfl, rfl, by decide +kernel, rfl, by decide +kernel, by decide +kernel⟩
def sp_common_divisor : Sp := fun vs H Q _ => ∃ (n d : Int), vs = [.int n, .int d] ∧ Q (.int (Int.gcd n d : Int)) H
theorem ok_common_divisor {k : Nat} (d : IsDef K mg "common_divisor" s_common_divisor P_common_divisor) (m_abs : mg "abs" = none) : Ok P w K mg base (k + 1) "common_divisor" s_common_divisor P_common_divisor sp_common_divisor := by
  obtain ⟨f, fd, D⟩ := d
  refine ⟨f, fd, D, D.F.ok sc_common_divisor (fun vs H Q E h => ?_) (fun cdv A outer s H vs Q E hr h => ?_)⟩
  · obtain ⟨n, d, rfl, _⟩ := h
    rfl
  · obtain ⟨n, d, rfl, q⟩ := h
    refine ⟨_, (pss_cons (ps_par (i := 0) (j := 1) (by rfl) sc_common_divisor.nd rfl rfl (by decide) rfl rfl (pa_cons (pe_callB call_abs (by rfl) m_abs (by decide +kernel) (pa_cons (pv 0) pa_nil)) (pa_cons (pe_callB call_abs (by rfl) m_abs (by decide +kernel) (pa_cons (pv 1) pa_nil)) pa_nil)) (by rfl))
      (pss_cons (ps_while PassesOwn.never (pt_cmpR op_ne (pv 1) pe_int (nomark _)) (pss_one (ps_par (i := 0) (j := 1) (by rfl) sc_common_divisor.nd rfl rfl (by decide) rfl rfl (pa_cons (pv 1) (pa_cons (pe_op op_mod (pv 0) (pv 1)) pa_nil)) (by rfl))))
      (pss_one (ps_ret (pv 0))))), ?_⟩
    refine ⟨.int n, rfl, n, rfl, .int d, rfl, d, rfl, _, _, rfl, ?_⟩
    refine ⟨fun m σ H' => H' = H ∧ ∃ x y : Int, 0 ≤ x ∧ 0 ≤ y ∧ m = y.toNat ∧ σ = [some (.int x), some (.int y)] ∧ Int.gcd x y = Int.gcd n d,
      ⟨_, rfl, (if n < 0 then -n else n), (if d < 0 then -d else d), by split <;> omega, by split <;> omega, rfl, rfl, ?_⟩, fun m σ H' hW => ?_⟩
    · split <;> split <;> simp
    · obtain ⟨rfl, x, y, x0, y0, rfl, rfl, hg⟩ := hW
      refine ⟨.int y, rfl, rfl, _, rfl, ite2 (fun e => ?_) (fun e => ?_)⟩
      · have yp : 0 < y := by
          have : y ≠ 0 := fun z => by rw [z] at e; exact absurd e (by decide)
          omega
        refine ⟨fun σ' H'' => H'' = H' ∧ σ' = [some (.int y), some (.int (x % y))], fun σ' H'' hN => ?_, ?_⟩
        · obtain ⟨rfl, rfl⟩ := hN
          have l1 := Int.emod_nonneg x (show y ≠ 0 by omega)
          have l2 := Int.emod_lt_of_pos x yp
          exact ⟨(x % y).toNat, by omega, rfl, y, x % y, by omega, l1, rfl, rfl, by rw [Fr.gcd_step x0 y0]; exact hg⟩
        · exact ⟨.int y, rfl, .int x, rfl, .int y, rfl, _, _, rfl, rfl, yp, _, _, rfl, rfl, rfl⟩
      · have y00 : y = 0 := by
          refine Decidable.byContradiction fun z => e ?_
          rw [decide_eq_false (fun w => z (V.int.inj w))]
          rfl
        subst y00
        have ex : x = (Int.gcd n d : Int) := by rw [← hg, Fr.gcd_zero x0]
        refine ⟨_, rfl, ?_⟩
        rw [ex]
        exact q
/-! ### make_fraction, the denominator positive -/
abbrev s_make_fraction : Stmt := topS 5
abbrev N_make_fraction : List Str := ["numerator", "denominator", "divisor"]
abbrev P_make_fraction : List Str := ["numerator", "denominator"]
theorem sc_make_fraction : FnScope N_make_fraction P_make_fraction (defScope s_make_fraction) := ⟨rfl, rfl, rfl, by decide +kernel, rfl, by decide +kernel, by decide +kernel⟩
def sp_make_fraction : Sp := fun vs H Q _ => ∃ (n d : Int) (b : Nat), vs = [.int n, .int d] ∧ 0 < d ∧ d.natAbs < 2 ^ b ∧ 0 < b ∧ b ≤ 9000 ∧
  ∀ t, H t = none → Q (.ref t) (upd H t (.tup [.int (Fr.red n d).1, .int (Fr.red n d).2]))
theorem ok_make_fraction (d : IsDef K mg "make_fraction" s_make_fraction P_make_fraction) (h_common_divisor : Ok P w K mg base 1 "common_divisor" s_common_divisor P_common_divisor sp_common_divisor) : Ok P w K mg base 2 "make_fraction" s_make_fraction P_make_fraction sp_make_fraction := by
  obtain ⟨f, fd, D⟩ := d
  obtain ⟨f_common_divisor, fd_common_divisor, ⟨F_common_divisor, b_common_divisor, g_common_divisor⟩, G_common_divisor⟩ := h_common_divisor
  refine ⟨f, fd, D, D.F.ok sc_make_fraction (fun vs H Q E h => ?_) (fun cdv A outer s H vs Q E hr h => ?_)⟩
  · obtain ⟨n, d, b, rfl, _⟩ := h
    rfl
  · obtain ⟨n, d, b, rfl, d0, db, b0, b9, q⟩ := h
    refine ⟨_, (pss_cons (ps_if (pt_cmpR op_eq (pv 1) pe_int (nomark _)) (pss_one ps_never) pss_nil)
      (pss_cons (ps_set (i := 2) sc_make_fraction.nd rfl (.inl rfl) (pe_call G_common_divisor (hr.mono (by omega)) (by rfl) g_common_divisor F_common_divisor.kp b_common_divisor .nil pass0 (pa_cons (pv 0) (pa_cons (pv 1) pa_nil))))
      (pss_cons (ps_if (pt_cmpR op_lt (pv 1) pe_int (nomark _)) (pss_one (ps_set (i := 2) sc_make_fraction.nd rfl (.inl rfl) (pe_un un_neg (pv 2)))) pss_nil)
      (pss_one (ps_ret (pe_tup (pa_cons (pe_op op_fdivW (pv 0) (pv 2)) (pa_cons (pe_op op_fdivW (pv 1) (pv 2)) pa_nil)))))))), ?_⟩
    refine ⟨.int d, rfl, rfl, _, rfl, ite2 (fun e => ?_) (fun _ => ?_)⟩
    · have z := V.int.inj (of_decide_eq_true e)
      omega
    refine ⟨.int n, rfl, .int d, rfl, n, d, rfl, ?_⟩
    refine ⟨.int d, rfl, _, _, rfl, rfl, _, rfl, ite2 (fun e => ?_) (fun _ => ?_)⟩
    · have z : d < 0 := of_decide_eq_true e
      omega
    have xp : 0 < (Int.gcd n d : Int) := Fr.gcd_pos (by omega)
    have xd : (Int.gcd n d : Int).natAbs < 2 ^ b := by
      refine Nat.lt_of_le_of_lt ?_ db
      rw [Int.natAbs_natCast]
      exact Nat.le_of_dvd (by omega) (Nat.gcd_dvd_right _ _)
    have C : ∀ i : Int, CDivW i (Int.gcd n d : Int) := fun i => wide_div xp xd b0 b9
    exact ⟨.int n, rfl, .int (Int.gcd n d : Int), rfl, _, _, rfl, rfl, C n, .int d, rfl, .int (Int.gcd n d : Int), rfl, _, _, rfl, rfl, C d, toks (by show 2 ≤ 1000; decide), q⟩

/-! ### add_fractions -/
abbrev s_add_fractions : Stmt := topS 6
abbrev N_add_fractions : List Str := ["one", "other"]
abbrev P_add_fractions : List Str := ["one", "other"]
theorem sc_add_fractions : FnScope N_add_fractions P_add_fractions (defScope s_add_fractions) := ⟨rfl, rfl, rfl, by decide +kernel, rfl, by decide +kernel, by decide +kernel⟩
def sp_add_fractions : Sp := fun vs H Q _ => ∃ (p q : Addr) (x y : Int × Int) (a b : Nat), vs = [.ref p, .ref q] ∧ FrAt H p x ∧ FrAt H q y ∧ 0 < x.2 ∧ 0 < y.2 ∧ Fr.Sz a x ∧ Fr.Sz b y ∧ 0 < a ∧ 0 < b ∧ a + b ≤ 8000 ∧
  ∀ H' t, Same H H' → FrAt H' t (Fr.add x y) → Q (.ref t) H'
theorem ok_add_fractions (d : IsDef K mg "add_fractions" s_add_fractions P_add_fractions) (h_make_fraction : Ok P w K mg base 2 "make_fraction" s_make_fraction P_make_fraction sp_make_fraction) : Ok P w K mg base 3 "add_fractions" s_add_fractions P_add_fractions sp_add_fractions := by
  obtain ⟨f, fd, D⟩ := d
  obtain ⟨f_make_fraction, fd_make_fraction, ⟨F_make_fraction, b_make_fraction, g_make_fraction⟩, G_make_fraction⟩ := h_make_fraction
  refine ⟨f, fd, D, D.F.ok sc_add_fractions (fun vs H Q E h => ?_) (fun cdv A outer s H vs Q E hr h => ?_)⟩
  · obtain ⟨p, q, x, y, a, b, rfl, _⟩ := h
    rfl
  · obtain ⟨p, q, x, y, a, b, rfl, hp, hq, px, py, sx, sy, a0, b0, ab, k⟩ := h
    refine ⟨_, (pss_one (ps_ret (pe_call G_make_fraction (hr.mono (by omega)) (by rfl) g_make_fraction F_make_fraction.kp b_make_fraction .nil pass0 (pa_cons (pe_op op_add (pe_op op_mulW (pe_ix ix_tup (pv 0) pe_int (fun _ _ => rfl)) (pe_ix ix_tup (pv 1) pe_int (fun _ _ => rfl))) (pe_op op_mulW (pe_ix ix_tup (pv 1) pe_int (fun _ _ => rfl)) (pe_ix ix_tup (pv 0) pe_int (fun _ _ => rfl)))) (pa_cons (pe_op op_mulW (pe_ix ix_tup (pv 0) pe_int (fun _ _ => rfl)) (pe_ix ix_tup (pv 1) pe_int (fun _ _ => rfl))) pa_nil))))), ?_⟩
    refine ⟨.ref p, rfl, p, _, _, _, rfl, rfl, .inl (.inl hp), rfl, .ref q, rfl, q, _, _, _, rfl, rfl, .inl (.inl hq), rfl, _, _, rfl, rfl, wide_mul sx.1 sy.2 a0 b0 (by omega), .ref q, rfl, q, _, _, _, rfl, rfl, .inl (.inl hq), rfl, .ref p, rfl, p, _, _, _, rfl, rfl, .inl (.inl hp), rfl, _, _, rfl, rfl, wide_mul sy.1 sx.2 b0 a0 (by omega), _, _, rfl, rfl, .ref p, rfl, p, _, _, _, rfl, rfl, .inl (.inl hp), rfl, .ref q, rfl, q, _, _, _, rfl, rfl, .inl (.inl hq), rfl, _, _, rfl, rfl, wide_mul sx.2 sy.2 a0 b0 (by omega), ?_⟩
    exact ⟨_, _, a + b, rfl, Int.mul_pos px py, Fr.mul_lt2 sx.2 sy.2, by omega, by omega, fun t nt => k _ t (same_upd nt) upd_same⟩

/-! ### subtract_fractions -/
abbrev s_subtract_fractions : Stmt := topS 7
abbrev N_subtract_fractions : List Str := ["one", "other"]
abbrev P_subtract_fractions : List Str := ["one", "other"]
theorem sc_subtract_fractions : FnScope N_subtract_fractions P_subtract_fractions (defScope s_subtract_fractions) := ⟨rfl, rfl, rfl, by decide +kernel, rfl, by decide +kernel, by decide +kernel⟩
def sp_subtract_fractions : Sp := fun vs H Q _ => ∃ (p q : Addr) (x y : Int × Int) (a b : Nat), vs = [.ref p, .ref q] ∧ FrAt H p x ∧ FrAt H q y ∧ 0 < x.2 ∧ 0 < y.2 ∧ Fr.Sz a x ∧ Fr.Sz b y ∧ 0 < a ∧ 0 < b ∧ a + b ≤ 8000 ∧
  ∀ H' t, Same H H' → FrAt H' t (Fr.sub x y) → Q (.ref t) H'
theorem ok_subtract_fractions (d : IsDef K mg "subtract_fractions" s_subtract_fractions P_subtract_fractions) (h_make_fraction : Ok P w K mg base 2 "make_fraction" s_make_fraction P_make_fraction sp_make_fraction) : Ok P w K mg base 3 "subtract_fractions" s_subtract_fractions P_subtract_fractions sp_subtract_fractions := by
  obtain ⟨f, fd, D⟩ := d
  obtain ⟨f_make_fraction, fd_make_fraction, ⟨F_make_fraction, b_make_fraction, g_make_fraction⟩, G_make_fraction⟩ := h_make_fraction
  refine ⟨f, fd, D, D.F.ok sc_subtract_fractions (fun vs H Q E h => ?_) (fun cdv A outer s H vs Q E hr h => ?_)⟩
  · obtain ⟨p, q, x, y, a, b, rfl, _⟩ := h
    rfl
  · obtain ⟨p, q, x, y, a, b, rfl, hp, hq, px, py, sx, sy, a0, b0, ab, k⟩ := h
    refine ⟨_, (pss_one (ps_ret (pe_call G_make_fraction (hr.mono (by omega)) (by rfl) g_make_fraction F_make_fraction.kp b_make_fraction .nil pass0 (pa_cons (pe_op op_sub (pe_op op_mulW (pe_ix ix_tup (pv 0) pe_int (fun _ _ => rfl)) (pe_ix ix_tup (pv 1) pe_int (fun _ _ => rfl))) (pe_op op_mulW (pe_ix ix_tup (pv 1) pe_int (fun _ _ => rfl)) (pe_ix ix_tup (pv 0) pe_int (fun _ _ => rfl)))) (pa_cons (pe_op op_mulW (pe_ix ix_tup (pv 0) pe_int (fun _ _ => rfl)) (pe_ix ix_tup (pv 1) pe_int (fun _ _ => rfl))) pa_nil))))), ?_⟩
    refine ⟨.ref p, rfl, p, _, _, _, rfl, rfl, .inl (.inl hp), rfl, .ref q, rfl, q, _, _, _, rfl, rfl, .inl (.inl hq), rfl, _, _, rfl, rfl, wide_mul sx.1 sy.2 a0 b0 (by omega), .ref q, rfl, q, _, _, _, rfl, rfl, .inl (.inl hq), rfl, .ref p, rfl, p, _, _, _, rfl, rfl, .inl (.inl hp), rfl, _, _, rfl, rfl, wide_mul sy.1 sx.2 b0 a0 (by omega), _, _, rfl, rfl, .ref p, rfl, p, _, _, _, rfl, rfl, .inl (.inl hp), rfl, .ref q, rfl, q, _, _, _, rfl, rfl, .inl (.inl hq), rfl, _, _, rfl, rfl, wide_mul sx.2 sy.2 a0 b0 (by omega), ?_⟩
    exact ⟨_, _, a + b, rfl, Int.mul_pos px py, Fr.mul_lt2 sx.2 sy.2, by omega, by omega, fun t nt => k _ t (same_upd nt) upd_same⟩

/-! ### multiply_fractions -/
abbrev s_multiply_fractions : Stmt := topS 8
abbrev N_multiply_fractions : List Str := ["one", "other"]
abbrev P_multiply_fractions : List Str := ["one", "other"]
theorem sc_multiply_fractions : FnScope N_multiply_fractions P_multiply_fractions (defScope s_multiply_fractions) := ⟨rfl, rfl, rfl, by decide +kernel, rfl, by decide +kernel, by decide +kernel⟩
def sp_multiply_fractions : Sp := fun vs H Q _ => ∃ (p q : Addr) (x y : Int × Int) (a b : Nat), vs = [.ref p, .ref q] ∧ FrAt H p x ∧ FrAt H q y ∧ 0 < x.2 ∧ 0 < y.2 ∧ Fr.Sz a x ∧ Fr.Sz b y ∧ 0 < a ∧ 0 < b ∧ a + b ≤ 8000 ∧
  ∀ H' t, Same H H' → FrAt H' t (Fr.mul x y) → Q (.ref t) H'
theorem ok_multiply_fractions (d : IsDef K mg "multiply_fractions" s_multiply_fractions P_multiply_fractions) (h_make_fraction : Ok P w K mg base 2 "make_fraction" s_make_fraction P_make_fraction sp_make_fraction) : Ok P w K mg base 3 "multiply_fractions" s_multiply_fractions P_multiply_fractions sp_multiply_fractions := by
  obtain ⟨f, fd, D⟩ := d
  obtain ⟨f_make_fraction, fd_make_fraction, ⟨F_make_fraction, b_make_fraction, g_make_fraction⟩, G_make_fraction⟩ := h_make_fraction
  refine ⟨f, fd, D, D.F.ok sc_multiply_fractions (fun vs H Q E h => ?_) (fun cdv A outer s H vs Q E hr h => ?_)⟩
  · obtain ⟨p, q, x, y, a, b, rfl, _⟩ := h
    rfl
  · obtain ⟨p, q, x, y, a, b, rfl, hp, hq, px, py, sx, sy, a0, b0, ab, k⟩ := h
    refine ⟨_, (pss_one (ps_ret (pe_call G_make_fraction (hr.mono (by omega)) (by rfl) g_make_fraction F_make_fraction.kp b_make_fraction .nil pass0 (pa_cons (pe_op op_mulW (pe_ix ix_tup (pv 0) pe_int (fun _ _ => rfl)) (pe_ix ix_tup (pv 1) pe_int (fun _ _ => rfl))) (pa_cons (pe_op op_mulW (pe_ix ix_tup (pv 0) pe_int (fun _ _ => rfl)) (pe_ix ix_tup (pv 1) pe_int (fun _ _ => rfl))) pa_nil))))), ?_⟩
    refine ⟨.ref p, rfl, p, _, _, _, rfl, rfl, .inl (.inl hp), rfl, .ref q, rfl, q, _, _, _, rfl, rfl, .inl (.inl hq), rfl, _, _, rfl, rfl, wide_mul sx.1 sy.1 a0 b0 (by omega), .ref p, rfl, p, _, _, _, rfl, rfl, .inl (.inl hp), rfl, .ref q, rfl, q, _, _, _, rfl, rfl, .inl (.inl hq), rfl, _, _, rfl, rfl, wide_mul sx.2 sy.2 a0 b0 (by omega), ?_⟩
    exact ⟨_, _, a + b, rfl, Int.mul_pos px py, Fr.mul_lt2 sx.2 sy.2, by omega, by omega, fun t nt => k _ t (same_upd nt) upd_same⟩

/-! ### compare_fractions -/
abbrev s_compare_fractions : Stmt := topS 9
abbrev N_compare_fractions : List Str := ["one", "other", "left", "right"]
abbrev P_compare_fractions : List Str := ["one", "other"]
theorem sc_compare_fractions : FnScope N_compare_fractions P_compare_fractions (defScope s_compare_fractions) := ⟨rfl, rfl, rfl, by decide +kernel, rfl, by decide +kernel, by decide +kernel⟩
def sp_compare_fractions : Sp := fun vs H Q _ => ∃ (p q : Addr) (x y : Int × Int) (a b : Nat), vs = [.ref p, .ref q] ∧ FrAt H p x ∧ FrAt H q y ∧ Fr.Sz a x ∧ Fr.Sz b y ∧ 0 < a ∧ 0 < b ∧ a + b ≤ 8000 ∧
  Q (.int (Fr.cmp x y)) H
theorem ok_compare_fractions (d : IsDef K mg "compare_fractions" s_compare_fractions P_compare_fractions) : Ok P w K mg base 1 "compare_fractions" s_compare_fractions P_compare_fractions sp_compare_fractions := by
  obtain ⟨f, fd, D⟩ := d
  refine ⟨f, fd, D, D.F.ok sc_compare_fractions (fun vs H Q E h => ?_) (fun cdv A outer s H vs Q E hr h => ?_)⟩
  · obtain ⟨p, q, x, y, a, b, rfl, _⟩ := h
    rfl
  · obtain ⟨p, q, x, y, a, b, rfl, hp, hq, sx, sy, a0, b0, ab, k⟩ := h
    refine ⟨_, (pss_cons (ps_set (i := 2) sc_compare_fractions.nd rfl (.inl rfl) (pe_op op_mulW (pe_ix ix_tup (pv 0) pe_int (fun _ _ => rfl)) (pe_ix ix_tup (pv 1) pe_int (fun _ _ => rfl))))
      (pss_cons (ps_set (i := 3) sc_compare_fractions.nd rfl (.inl rfl) (pe_op op_mulW (pe_ix ix_tup (pv 1) pe_int (fun _ _ => rfl)) (pe_ix ix_tup (pv 0) pe_int (fun _ _ => rfl))))
      (pss_cons (ps_if (pt_cmpR op_lt (pv 2) (pv 3) (nomark _)) (pss_one (ps_ret (pe_un un_neg pe_int))) pss_nil)
      (pss_cons (ps_if (pt_cmpR op_gt (pv 2) (pv 3) (nomark _)) (pss_one (ps_ret pe_int)) pss_nil)
      (pss_one (ps_ret pe_int)))))), ?_⟩
    refine ⟨.ref p, rfl, p, _, _, _, rfl, rfl, .inl (.inl hp), rfl, .ref q, rfl, q, _, _, _, rfl, rfl, .inl (.inl hq), rfl, _, _, rfl, rfl, wide_mul sx.1 sy.2 a0 b0 (by omega), .ref q, rfl, q, _, _, _, rfl, rfl, .inl (.inl hq), rfl, .ref p, rfl, p, _, _, _, rfl, rfl, .inl (.inl hp), rfl, _, _, rfl, rfl, wide_mul sy.1 sx.2 b0 a0 (by omega), ?_⟩
    unfold Fr.cmp at k
    refine ⟨.int (x.1 * y.2), rfl, .int (y.1 * x.2), rfl, _, _, rfl, rfl, _, rfl, ite2 (fun e => ?_) (fun e => ?_)⟩
    · rw [if_pos (of_decide_eq_true e)] at k
      exact ⟨_, rfl, k⟩
    · rw [if_neg (fun z => e (decide_eq_true z))] at k
      refine ⟨.int (x.1 * y.2), rfl, .int (y.1 * x.2), rfl, _, _, rfl, rfl, _, rfl, ite2 (fun e => ?_) (fun e => ?_)⟩
      · rw [if_pos (of_decide_eq_true e)] at k
        exact k
      · rw [if_neg (fun z => e (decide_eq_true z))] at k
        exact k
/-! ### a drawn fraction -/
abbrev s__law_fraction : Stmt := topS 15
abbrev N__law_fraction : List Str := ["_law_drawn", "_law_great"]
abbrev P__law_fraction : List Str := ["_law_drawn"]
theorem sc__law_fraction : FnScope N__law_fraction P__law_fraction (defScope s__law_fraction) := ⟨rfl, rfl, rfl, by decide +kernel, rfl, by decide +kernel, by decide +kernel⟩
def sp__law_fraction : Sp := fun vs H Q _ => ∃ (a c r : Addr) (n : Nat), vs = [.ref a] ∧ Drw H a c r n ∧ n < 900000 ∧
  ∀ H' t x, Fr.IsF x → Fr.Sz 100 x → Drw H' a c r (n + 3) → Keep a r H H' → H t = none → FrAt H' t x → Q (.ref t) H'
theorem ok__law_fraction (d : IsDef K mg "_law_fraction" s__law_fraction P__law_fraction) (h__law_next : Ok P w K mg base 1 "_law_next" s__law_next P__law_next sp__law_next) (h__law_lowest : Ok P w K mg base 1 "_law_lowest" s__law_lowest P__law_lowest sp__law_lowest) : Ok P w K mg base 2 "_law_fraction" s__law_fraction P__law_fraction sp__law_fraction := by
  obtain ⟨f, fd, D⟩ := d
  obtain ⟨f__law_next, fd__law_next, ⟨F__law_next, b__law_next, g__law_next⟩, G__law_next⟩ := h__law_next
  obtain ⟨f__law_lowest, fd__law_lowest, ⟨F__law_lowest, b__law_lowest, g__law_lowest⟩, G__law_lowest⟩ := h__law_lowest
  refine ⟨f, fd, D, D.F.ok sc__law_fraction (fun vs H Q E h => ?_) (fun cdv A outer s H vs Q E hr h => ?_)⟩
  · obtain ⟨a, c, r, n, rfl, _⟩ := h
    rfl
  · obtain ⟨a, c, r, n, rfl, dr, hn, q⟩ := h
    refine ⟨_, (pss_cons (ps_set (i := 1) sc__law_fraction.nd rfl (.inl rfl) (pe_ix ix_list (pe_lst (pa_cons pe_int (pa_cons pe_int (pa_cons (pe_op op_pow pe_int pe_int) (pa_cons (pe_op op_pow pe_int pe_int) pa_nil))))) (pe_call G__law_next (hr.mono (by omega)) (by rfl) g__law_next F__law_next.kp b__law_next .nil pass0 (pa_cons (pv 0) (pa_cons pe_int pa_nil))) (fun _ _ => rfl)))
      (pss_one (ps_ret (pe_call G__law_lowest (hr.mono (by omega)) (by rfl) g__law_lowest F__law_lowest.kp b__law_lowest .nil pass0 (pa_cons (pe_op op_sub (pe_call G__law_next (hr.mono (by omega)) (by rfl) g__law_next F__law_next.kp b__law_next .nil pass0 (pa_cons (pv 0) (pa_cons (pe_op op_add (pe_op op_mulW pe_int (pv 1)) pe_int) pa_nil))) (pv 1)) (pa_cons (pe_op op_add pe_int (pe_call G__law_next (hr.mono (by omega)) (by rfl) g__law_next F__law_next.kp b__law_next .nil pass0 (pa_cons (pv 0) (pa_cons (pv 1) pa_nil)))) pa_nil)))))), ?_⟩
    refine ⟨_, _, rfl, rfl, ⟨by decide, by decide, by decide⟩, _, _, rfl, rfl, ⟨by decide, by decide, by decide⟩, toks (by show 4 ≤ 1000; decide), fun p1 n1 => ?_⟩
    have k1 : Keep a r H (upd H p1 (.lst [.int 3, .int 9, .int ((10 : Int) ^ Int.toNat 6), .int ((10 : Int) ^ Int.toNat 29)])) := .same (same_upd n1)
    have d1 := dr.new (o := .lst [.int 3, .int 9, .int ((10 : Int) ^ Int.toNat 6), .int ((10 : Int) ^ Int.toNat 29)]) n1
    refine ⟨.ref a, rfl, a, c, r, n, 4, rfl, d1, by omega, by decide, by decide, fun v H1 v0 v4 d2 k2 => ?_⟩
    have hp1 : H1 p1 = some (.lst [.int 3, .int 9, .int ((10 : Int) ^ Int.toNat 6), .int ((10 : Int) ^ Int.toNat 29)]) := k2 _ _ (dr.ne_new n1).1 (dr.ne_new n1).2.2 upd_same
    obtain ⟨g, hg, g0, g1⟩ : ∃ g : Int, atI [V.int 3, V.int 9, V.int ((10 : Int) ^ Int.toNat 6), V.int ((10 : Int) ^ Int.toNat 29)] v = some (V.int g) ∧ 1 ≤ g ∧ g ≤ 10 ^ 29 := by
      have e : v = 0 ∨ v = 1 ∨ v = 2 ∨ v = 3 := by omega
      rcases e with e | e | e | e
      · subst e
        exact ⟨3, rfl, by decide, by decide⟩
      · subst e
        exact ⟨9, rfl, by decide, by decide⟩
      · subst e
        exact ⟨(10 : Int) ^ Int.toNat 6, rfl, by decide, by decide⟩
      · subst e
        exact ⟨(10 : Int) ^ Int.toNat 29, rfl, by decide, by decide⟩
    refine ⟨p1, _, v, _, rfl, rfl, .inl (.inl hp1), hg, ?_⟩
    have gb : g.natAbs < 2 ^ 97 := by omega
    refine ⟨.ref a, rfl, .int g, rfl, _, _, rfl, rfl, wide_mul (a := 2) (b := 97) (by decide) gb (by decide) (by decide) (by decide), _, _, rfl, rfl, a, c, r, n + 1, _, rfl, d2, by omega, ?_, ?_, fun u H2 u0 u1 d3 k3 => ?_⟩
    · show 0 < 2 * g + 1
      omega
    · refine Nat.lt_of_lt_of_le (PySem.Flt.log2_lt_of (show 0 < 100 by decide) ?_) (by decide : 100 ≤ 9000)
      show (2 * g + 1).natAbs < 2 ^ 100
      omega
    refine ⟨.int g, rfl, _, _, rfl, rfl, .ref a, rfl, .int g, rfl, a, c, r, n + 2, _, rfl, d3, by omega, by omega, ?_, fun y H3 y0 y1 d4 k4 => ?_⟩
    · refine Nat.lt_of_lt_of_le (PySem.Flt.log2_lt_of (show 0 < 100 by decide) ?_) (by decide : 100 ≤ 9000)
      omega
    refine ⟨_, _, rfl, rfl, u - g, 1 + y, 100, rfl, by omega, by omega, by decide, by decide, fun t nt => ?_⟩
    have kk : Keep a r H H3 := ((k1.trans k2).trans k3).trans k4
    refine q _ t (Fr.red (u - g) (1 + y)) (Fr.red_isF (by omega)) (Fr.red_sz (by show (u - g).natAbs < 2 ^ 100; replace u1 : u < 2 * g + 1 := u1; omega) (by omega)) (d4.new nt) (kk.trans (.same (same_upd nt))) ?_ upd_same
    cases e : H t with
    | none => rfl
    | some o =>
      have ne : t ≠ a ∧ t ≠ c ∧ t ≠ r := d4.ne_new nt
      rw [kk t o ne.1 ne.2.2 e] at nt
      cases nt
end
end PM

namespace PM
open PySem PySem.Spec PyProof.Rows L2 RZ
section
variable {P : Program} {w : World} {K : PySem.W.Frag} {mg : Str → Option Value} {base : Heap}
/-! ### equal as values of the same kinds -/
abbrev s__law_equal : Stmt := topS 13
abbrev N__law_equal : List Str := ["_law_one", "_law_other", "_law_a", "_law_b"]
abbrev P__law_equal : List Str := ["_law_one", "_law_other"]
theorem sc__law_equal : FnScope N__law_equal P__law_equal (defScope s__law_equal) := ⟨rfl, rfl, rfl, by decide +kernel, rfl, by decide +kernel, by decide +kernel⟩
def sp__law_equal (n : Nat) : Sp := fun vs H Q _ => ∃ (v v' : V) (d d' : PyData), vs = [v, v'] ∧ Da H v d ∧ Da H v' d' ∧ plainD d = true ∧ plainD d' = true ∧ dep d < n ∧ n ≤ 20 ∧ ∀ H', Same H H' → Q (.bl (deq d d')) H'
theorem ok__law_equal (D : IsDef K mg "_law_equal" s__law_equal P__law_equal) (m_isinstance : mg "isinstance" = none) (m_tuple : mg "tuple" = none) (m_bool : mg "bool" = none) (m_int : mg "int" = none) (m_str : mg "str" = none) (m_len : mg "len" = none) (m_all : mg "all" = none) (m_zip : mg "zip" = none) :
    ∀ n, Ok P w K mg base n "_law_equal" s__law_equal P__law_equal (sp__law_equal n)
  | 0 => by
    obtain ⟨f, fd, D⟩ := D
    exact ⟨f, fd, D, fn_none fun vs H Q E h => by
      obtain ⟨_, _, _, _, _, _, _, _, _, z, _⟩ := h
      omega⟩
  | n + 1 => by
    obtain ⟨f__law_equal, fd__law_equal, ⟨F__law_equal, b__law_equal, g__law_equal⟩, G__law_equal⟩ := ok__law_equal D m_isinstance m_tuple m_bool m_int m_str m_len m_all m_zip n
    refine ⟨_, _, ⟨F__law_equal, b__law_equal, g__law_equal⟩, F__law_equal.ok sc__law_equal (fun vs H Q E h => ?_) (fun cdv A outer s H vs Q E hr h => ?_)⟩
    · obtain ⟨v, v', d, d', rfl, _⟩ := h
      rfl
    · obtain ⟨v, v', d, d', rfl, hv, hv', pd, pd', hd, hn, q⟩ := h
      refine ⟨_, (pss_cons (ps_if (PW.pt (pw_and (pt_val (pe_callB call_isi (by rfl) m_isinstance (by decide +kernel) (pa_cons (pv 0) (pa_cons (pe_bltn (v := .ty "tuple") (by rfl) m_tuple (by decide +kernel) rfl) pa_nil)))) (pw_and1 (pt_val (pe_callB call_isi (by rfl) m_isinstance (by decide +kernel) (pa_cons (pv 1) (pa_cons (pe_bltn (v := .ty "tuple") (by rfl) m_tuple (by decide +kernel) rfl) pa_nil))))))) (pss_one (ps_ret (pe_and (pe_cmpR op_eq (pe_callB call_len_seq (by rfl) m_len (by decide +kernel) (pa_cons (pv 0) pa_nil)) (pe_callB call_len_seq (by rfl) m_len (by decide +kernel) (pa_cons (pv 1) pa_nil)) (nomark _)) (pe_one (pe_callB (cr_all (by rfl)) (by rfl) m_all (by decide +kernel) (pa_cons (pe_lc (own := [("_law_a", 2), ("_law_b", 3)]) (g := gTup _ 2 (gCons (gName 2) (gCons (gName 3) gNil))) (by rfl) sc__law_equal.nd (pi_zipA (by rfl) m_zip (pa_cons (pv 0) (pa_cons (pv 1) pa_nil))) (blkOk_by (own := [("_law_a", 2), ("_law_b", 3)]) (N := N__law_equal) (sc := defScope s__law_equal) (by decide +kernel)) (fun _ _ _ _ _ => by exact (pg_tup (by rfl) (pgs_cons (pg_name (i := 2) sc__law_equal.nd rfl (.inl rfl)) (pgs_cons (pg_name (i := 3) sc__law_equal.nd rfl (.inl rfl)) pgs_nil)))) (fun _ _ _ _ _ => pts_nil) (fun _ _ _ _ _ => by exact (pe_call G__law_equal (hr.mono (by omega)) (by rfl) g__law_equal F__law_equal.kp b__law_equal .nil pass0 (pa_cons (pv 2) (pa_cons (pv 3) pa_nil))))) pa_nil)))))) pss_nil)
      (pss_cons (ps_if (PW.pt (pw_or (pt_val (pe_callB call_isi (by rfl) m_isinstance (by decide +kernel) (pa_cons (pv 0) (pa_cons (pe_bltn (v := .ty "bool") (by rfl) m_bool (by decide +kernel) rfl) pa_nil)))) (pw_or1 (pt_val (pe_callB call_isi (by rfl) m_isinstance (by decide +kernel) (pa_cons (pv 1) (pa_cons (pe_bltn (v := .ty "bool") (by rfl) m_bool (by decide +kernel) rfl) pa_nil))))))) (pss_one (ps_ret (pe_and (pe_callB call_isi (by rfl) m_isinstance (by decide +kernel) (pa_cons (pv 0) (pa_cons (pe_bltn (v := .ty "bool") (by rfl) m_bool (by decide +kernel) rfl) pa_nil))) (pe_and (pe_callB call_isi (by rfl) m_isinstance (by decide +kernel) (pa_cons (pv 1) (pa_cons (pe_bltn (v := .ty "bool") (by rfl) m_bool (by decide +kernel) rfl) pa_nil))) (pe_one (pe_cmpR (op_eqD hr.units) (pv 0) (pv 1) (nomark _))))))) pss_nil)
      (pss_cons (ps_if (pt_cmpR op_ne (pe_callB call_isi (by rfl) m_isinstance (by decide +kernel) (pa_cons (pv 0) (pa_cons (pe_bltn (v := .ty "tuple") (by rfl) m_tuple (by decide +kernel) rfl) pa_nil))) (pe_callB call_isi (by rfl) m_isinstance (by decide +kernel) (pa_cons (pv 1) (pa_cons (pe_bltn (v := .ty "tuple") (by rfl) m_tuple (by decide +kernel) rfl) pa_nil))) (nomark _)) (pss_one (ps_ret pe_bl)) pss_nil)
      (pss_cons (ps_if (pt_cmpR op_ne (pe_callB call_isi (by rfl) m_isinstance (by decide +kernel) (pa_cons (pv 0) (pa_cons (pe_bltn (v := .ty "int") (by rfl) m_int (by decide +kernel) rfl) pa_nil))) (pe_callB call_isi (by rfl) m_isinstance (by decide +kernel) (pa_cons (pv 1) (pa_cons (pe_bltn (v := .ty "int") (by rfl) m_int (by decide +kernel) rfl) pa_nil))) (nomark _)) (pss_one (ps_ret pe_bl)) pss_nil)
      (pss_one (ps_ret (pe_and (pe_cmpR op_eq (pe_callB call_isi (by rfl) m_isinstance (by decide +kernel) (pa_cons (pv 0) (pa_cons (pe_bltn (v := .ty "str") (by rfl) m_str (by decide +kernel) rfl) pa_nil))) (pe_callB call_isi (by rfl) m_isinstance (by decide +kernel) (pa_cons (pv 1) (pa_cons (pe_bltn (v := .ty "str") (by rfl) m_str (by decide +kernel) rfl) pa_nil))) (nomark _)) (pe_one (pe_cmpR (op_eqD hr.units) (pv 0) (pv 1) (nomark _)))))))))), ?_⟩
      -- two tuples
      refine ⟨v, rfl, v, .ty "tuple", _, _, isT d, rfl, .ty "tuple", hv.ty, kitT hv, _, rfl, ite2 (fun e1 => ?A) (fun e1 => ?B)⟩
      case' A =>
        refine ⟨v', rfl, v', .ty "tuple", _, _, isT d', rfl, .ty "tuple", hv'.ty, kitT hv', _, rfl, ite2 (fun e2 => ?C) (fun e2 => ?D)⟩
        case C =>
          cases hv with
          | @tup a xs ds ha hxs =>
            cases hv' with
            | @tup b ys es hb hys =>
              refine ⟨.ref a, rfl, a, _, rfl, .inr (.inl (.inl ha)), .ref b, rfl, b, _, rfl, .inr (.inl (.inl hb)), rfl, _, rfl, ite2 (fun e => ?_) (fun e => ?_)⟩
              · have el : xs.length = ys.length := by
                  have := V.int.inj (of_decide_eq_true e)
                  omega
                have eds : ds.length = es.length := by rw [← hxs.length, ← hys.length, el]
                refine ⟨.ref a, rfl, .ref b, rfl, a, b, xs, ys, rfl, .inr ⟨.inl (.inl ha), .inl (.inl hb), fun D nD => ?_⟩⟩
                have sD := same_upd (ob := .lst []) nD
                refine lc_it (walk_zipT (xs := xs) (ys := ys) rfl el) (fun i H' => Same H H' ∧ H' D = some (.lst ((((List.zip ds es).take i).map fun p => deq p.1 p.2).map V.bl))) ⟨sD, upd_same⟩ (fun i H' _ p => ⟨.inl (.inl (p.1 _ _ ha)), .inl (.inl (p.1 _ _ hb))⟩) (fun i x H1 H2 hi p y => ?_) (fun H1 p => ?_)
                · obtain ⟨T, x1, y1, rfl, nT, rfl, g1, g2⟩ := y
                  obtain ⟨dx, gx, hx⟩ := hxs.get i g1
                  obtain ⟨dy, gy, hy⟩ := hys.get i g2
                  have sT : Same H1 (upd H1 T (.tup [x1, y1])) := same_upd nT
                  have s1 := p.1.trans sT
                  have tD : D ≠ T := ne_of_none p.2 nT
                  refine ⟨T, [x1, y1], rfl, .inl (.inl upd_same), rfl, x1, [y1], rfl, y1, [], rfl, rfl, rfl, ?_⟩
                  refine ⟨x1, rfl, y1, rfl, x1, y1, dx, dy, rfl, hx.same s1, hy.same s1, plain_get (plain_tup pd).2 gx, plain_get (plain_tup pd').2 gy, ?_, by omega, fun H3 s3 => ?_⟩
                  · have h1 := dep_get gx
                    have h2 : dep.depL ds + 1 < n + 1 := hd
                    omega
                  refine ⟨_, s3 _ _ (by rw [upd_ne tD]; exact p.2), ?_, fun c o hc => ?_, ?_⟩
                  · rw [List.length_map, List.length_map, List.length_take]
                    have h1 := (plain_tup pd).1
                    have h2 := hxs.length
                    exact small1000 (by omega)
                  · rw [upd_ne (ne_of_none hc nD)]
                    exact s3 _ _ (s1 _ _ hc)
                  · rw [upd_same, List.take_add_one, List.map_append, List.map_append]
                    have ez : (List.zip ds es)[i]? = some (dx, dy) := by
                      rw [List.getElem?_zip_eq_some]
                      exact ⟨gx, gy⟩
                    rw [ez]
                    rfl
                · have el2 : xs.length = (List.zip ds es).length := by
                    rw [List.length_zip, ← hxs.length, ← hys.length, ← el, Nat.min_self]
                  obtain ⟨s1, hD⟩ := p
                  rw [el2, List.take_length] at hD
                  refine ⟨D, _, rfl, .inl (.inl hD), ?_⟩
                  rw [← deqL_all eds]
                  exact q _ s1
              · have el : ds.length ≠ es.length := fun z => e (by
                  rw [hxs.length, hys.length, z]
                  exact decide_eq_true rfl)
                have := q _ (Same.refl H)
                unfold deq at this
                rw [deqL_len el] at this
                exact this
            | non => cases e2
            | bl => cases e2
            | int => cases e2
            | str => cases e2
            | lst => cases e2
          | non => cases e1
          | bl => cases e1
          | int => cases e1
          | str => cases e1
          | lst => cases e1
        case' D => have e3 : isT d = false ∨ isT d' = false := .inr (by simpa using e2)
      case' B => have e3 : isT d = false ∨ isT d' = false := .inl (by simpa using e1)
      all_goals
        have q0 := q _ (Same.refl H)
        refine ⟨v, rfl, v, .ty "bool", _, _, isB d, rfl, .ty "bool", hv.ty, kitBo hv, _, rfl, ite2 (fun e4 => ?_) (fun e4 => ?_)⟩
        · refine ⟨v, rfl, v, .ty "bool", _, _, isB d, rfl, .ty "bool", hv.ty, kitBo hv, _, rfl, ite2 (fun _ => ?_) (fun e => absurd e4 e)⟩
          refine ⟨v', rfl, v', .ty "bool", _, _, isB d', rfl, .ty "bool", hv'.ty, kitBo hv', _, rfl, ite2 (fun e5 => ?_) (fun e5 => ?_)⟩
          · refine ⟨v, rfl, v', rfl, d, d', hv.dp, hv'.dp, ?_, ?_, ?_⟩
            · cases d <;> first | rfl | cases e4
            · cases d' <;> first | rfl | cases e5
            · rw [deq_bb e4 e5]
              exact q0
          · rw [deq_nb (by rw [e4]; exact fun z => e5 z.symm)] at q0
            exact q0
        · replace e4 : isB d = false := by simpa using e4
          refine ⟨v', rfl, v', .ty "bool", _, _, isB d', rfl, .ty "bool", hv'.ty, kitBo hv', _, rfl, ite2 (fun e5 => ?_) (fun e5 => ?_)⟩
          · refine ⟨v, rfl, v, .ty "bool", _, _, isB d, rfl, .ty "bool", hv.ty, kitBo hv, _, rfl, ite2 (fun e => ?_) (fun _ => ?_)⟩
            · rw [e4] at e
              cases e
            · rw [deq_nb (by rw [e4, e5]; decide)] at q0
              exact q0
          · replace e5 : isB d' = false := by simpa using e5
            refine ⟨v, rfl, v, .ty "tuple", _, _, isT d, rfl, .ty "tuple", hv.ty, kitT hv, v', rfl, v', .ty "tuple", _, _, isT d', rfl, .ty "tuple", hv'.ty, kitT hv', rfl, _, rfl, ite2 (fun e => ?_) (fun e => ?_)⟩
            · rw [deq_nt (fun z => by rw [z, decide_eq_true rfl] at e; cases e)] at q0
              exact q0
            · have et : isT d = isT d' := by
                refine Decidable.byContradiction fun z => e ?_
                rw [decide_eq_false (fun w => z (V.bl.inj w))]
                rfl
              have t1 : isT d = false := by
                rcases e3 with e3 | e3
                · exact e3
                · rw [et, e3]
              have t2 : isT d' = false := by rw [← et, t1]
              refine ⟨v, rfl, v, .ty "int", _, _, isI d, rfl, .ty "int", hv.ty, kitI hv, v', rfl, v', .ty "int", _, _, isI d', rfl, .ty "int", hv'.ty, kitI hv', rfl, _, rfl, ite2 (fun e => ?_) (fun e => ?_)⟩
              · rw [deq_ni (fun z => by rw [z, decide_eq_true rfl] at e; cases e)] at q0
                exact q0
              · have ei : isI d = isI d' := by
                  refine Decidable.byContradiction fun z => e ?_
                  rw [decide_eq_false (fun w => z (V.bl.inj w))]
                  rfl
                refine ⟨v, rfl, v, .ty "str", _, _, isS d, rfl, .ty "str", hv.ty, kitS hv, v', rfl, v', .ty "str", _, _, isS d', rfl, .ty "str", hv'.ty, kitS hv', rfl, _, rfl, ite2 (fun e => ?_) (fun e => ?_)⟩
                · have es : isS d = isS d' := V.bl.inj (of_decide_eq_true e)
                  refine ⟨v, rfl, v', rfl, d, d', hv.dp, hv'.dp, shaped_flat pd t1, shaped_flat pd' t2, ?_⟩
                  rw [deq_rest pd pd' e4 e5 t1 t2 ei es]
                  exact q0
                · rw [deq_ns (fun z => e (by rw [z]; exact decide_eq_true rfl))] at q0
                  exact q0
theorem frDa {H : Hp} {p : Addr} {x : Int × Int} (h : FrAt H p x) : Da H (.ref p) (fd x) := .tup h (.cons (.int _) (.cons (.int _) .nil))
/-- sum, difference, product and order of two fractions -/
abbrev resD (x y : Int × Int) : PyData := .tuple [fd (Fr.add x y), fd (Fr.sub x y), fd (Fr.mul x y), .int (Fr.cmp x y)]
abbrev s__law_results : Stmt := topS 16
abbrev N__law_results : List Str := ["_law_one", "_law_other", "_law_found"]
abbrev P__law_results : List Str := ["_law_one", "_law_other"]
theorem sc__law_results : FnScope N__law_results P__law_results (defScope s__law_results) := ⟨rfl, rfl, rfl, by decide +kernel, rfl, by decide +kernel, by decide +kernel⟩
def sp__law_results : Sp := fun vs H Q _ => ∃ (p q : Addr) (x y : Int × Int), vs = [.ref p, .ref q] ∧ FrAt H p x ∧ FrAt H q y ∧ 0 < x.2 ∧ 0 < y.2 ∧ Fr.Sz 100 x ∧ Fr.Sz 100 y ∧
  ∀ H' t, Same H H' → Da H' (.ref t) (resD x y) → Q (.ref t) H'
theorem ok__law_results (d : IsDef K mg "_law_results" s__law_results P__law_results) (h_add_fractions : Ok P w K mg base 3 "add_fractions" s_add_fractions P_add_fractions sp_add_fractions) (h_subtract_fractions : Ok P w K mg base 3 "subtract_fractions" s_subtract_fractions P_subtract_fractions sp_subtract_fractions) (h_multiply_fractions : Ok P w K mg base 3 "multiply_fractions" s_multiply_fractions P_multiply_fractions sp_multiply_fractions) (h_compare_fractions : Ok P w K mg base 1 "compare_fractions" s_compare_fractions P_compare_fractions sp_compare_fractions) : Ok P w K mg base 4 "_law_results" s__law_results P__law_results sp__law_results := by
  obtain ⟨f, fd, D⟩ := d
  obtain ⟨f_add_fractions, fd_add_fractions, ⟨F_add_fractions, b_add_fractions, g_add_fractions⟩, G_add_fractions⟩ := h_add_fractions
  obtain ⟨f_subtract_fractions, fd_subtract_fractions, ⟨F_subtract_fractions, b_subtract_fractions, g_subtract_fractions⟩, G_subtract_fractions⟩ := h_subtract_fractions
  obtain ⟨f_multiply_fractions, fd_multiply_fractions, ⟨F_multiply_fractions, b_multiply_fractions, g_multiply_fractions⟩, G_multiply_fractions⟩ := h_multiply_fractions
  obtain ⟨f_compare_fractions, fd_compare_fractions, ⟨F_compare_fractions, b_compare_fractions, g_compare_fractions⟩, G_compare_fractions⟩ := h_compare_fractions
  refine ⟨f, fd, D, D.F.ok sc__law_results (fun vs H Q E h => ?_) (fun cdv A outer s H vs Q E hr h => ?_)⟩
  · obtain ⟨p, q, x, y, rfl, _⟩ := h
    rfl
  · obtain ⟨p, q, x, y, rfl, hp, hq, px, py, zx, zy, k⟩ := h
    refine ⟨_, (pss_cons (ps_set (i := 2) sc__law_results.nd rfl (.inl rfl) (pe_tup (pa_cons (pe_call G_add_fractions (hr.mono (by omega)) (by rfl) g_add_fractions F_add_fractions.kp b_add_fractions .nil pass0 (pa_cons (pv 0) (pa_cons (pv 1) pa_nil))) (pa_cons (pe_call G_subtract_fractions (hr.mono (by omega)) (by rfl) g_subtract_fractions F_subtract_fractions.kp b_subtract_fractions .nil pass0 (pa_cons (pv 0) (pa_cons (pv 1) pa_nil))) pa_nil))))
      (pss_one (ps_ret (pe_op op_catT (pv 2) (pe_tup (pa_cons (pe_call G_multiply_fractions (hr.mono (by omega)) (by rfl) g_multiply_fractions F_multiply_fractions.kp b_multiply_fractions .nil pass0 (pa_cons (pv 0) (pa_cons (pv 1) pa_nil))) (pa_cons (pe_call G_compare_fractions (hr.mono (by omega)) (by rfl) g_compare_fractions F_compare_fractions.kp b_compare_fractions .nil pass0 (pa_cons (pv 0) (pa_cons (pv 1) pa_nil))) pa_nil))))))), ?_⟩
    refine ⟨.ref p, rfl, .ref q, rfl, p, q, x, y, 100, 100, rfl, hp, hq, px, py, zx, zy, by decide, by decide, by decide, fun H1 t1 s1 f1 => ?_⟩
    replace hp := hp.same s1
    replace hq := hq.same s1
    refine ⟨.ref p, rfl, .ref q, rfl, p, q, x, y, 100, 100, rfl, hp, hq, px, py, zx, zy, by decide, by decide, by decide, fun H2 t2 s2 f2 => ?_⟩
    replace hp := hp.same s2
    replace hq := hq.same s2
    refine ⟨toks (by show 2 ≤ 1000; decide), fun t3 n3 => ?_⟩
    have s3 := same_upd (ob := .tup [.ref t1, .ref t2]) n3
    replace hp := hp.same s3
    replace hq := hq.same s3
    refine ⟨.ref t3, rfl, .ref p, rfl, .ref q, rfl, p, q, x, y, 100, 100, rfl, hp, hq, px, py, zx, zy, by decide, by decide, by decide, fun H4 t4 s4 f4 => ?_⟩
    replace hp := hp.same s4
    replace hq := hq.same s4
    refine ⟨.ref p, rfl, .ref q, rfl, p, q, x, y, 100, 100, rfl, hp, hq, zx, zy, by decide, by decide, by decide, ?_⟩
    refine ⟨toks (by show 2 ≤ 1000; decide), fun t5 n5 => ?_⟩
    have s5 := same_upd (ob := .tup [.ref t4, .int (Fr.cmp x y)]) n5
    refine ⟨t3, t5, _, _, rfl, rfl, .inl (.inl (s5 _ _ (s4 _ _ upd_same))), .inl (.inl upd_same), by simp, toks (by show 4 ≤ 1000; decide), (fun z => nomatch z), fun _ t6 n6 => ?_⟩
    have s6 := same_upd (ob := .tup ([.ref t1, .ref t2] ++ [.ref t4, .int (Fr.cmp x y)])) n6
    refine k _ t6 (((((s1.trans s2).trans s3).trans s4).trans s5).trans s6) (.tup upd_same (.cons (frDa ?_) (.cons (frDa ?_) (.cons (frDa ?_) (.cons (.int _) .nil)))))
    · exact ((((f1.same s2).same s3).same s4).same s5).same s6
    · exact (((f2.same s3).same s4).same s5).same s6
    · exact (f4.same s5).same s6
abbrev s__law_due : Stmt := topS 17
abbrev N__law_due : List Str := ["_law_one", "_law_other", "_law_top", "_law_under", "_law_here", "_law_below", "_law_left", "_law_right", "_law_total", "_law_product"]
abbrev P__law_due : List Str := ["_law_one", "_law_other"]
theorem sc__law_due : FnScope N__law_due P__law_due (defScope s__law_due) := ⟨rfl, rfl, rfl, by decide +kernel, rfl, by decide +kernel, by decide +kernel⟩
def sp__law_due : Sp := fun vs H Q _ => ∃ (p q : Addr) (x y : Int × Int), vs = [.ref p, .ref q] ∧ FrAt H p x ∧ FrAt H q y ∧ 0 < x.2 ∧ 0 < y.2 ∧ Fr.Sz 100 x ∧ Fr.Sz 100 y ∧
  ∀ H' t, Same H H' → Da H' (.ref t) (resD x y) → Q (.ref t) H'
theorem ok__law_due (d : IsDef K mg "_law_due" s__law_due P__law_due) (m_int : mg "int" = none) (h__law_lowest : Ok P w K mg base 1 "_law_lowest" s__law_lowest P__law_lowest sp__law_lowest) : Ok P w K mg base 2 "_law_due" s__law_due P__law_due sp__law_due := by
  obtain ⟨f, fd, D⟩ := d
  obtain ⟨f__law_lowest, fd__law_lowest, ⟨F__law_lowest, b__law_lowest, g__law_lowest⟩, G__law_lowest⟩ := h__law_lowest
  refine ⟨f, fd, D, D.F.ok sc__law_due (fun vs H Q E h => ?_) (fun cdv A outer s H vs Q E hr h => ?_)⟩
  · obtain ⟨p, q, x, y, rfl, _⟩ := h
    rfl
  · obtain ⟨p, q, x, y, rfl, hp, hq, px, py, zx, zy, k⟩ := h
    refine ⟨_, (pss_cons (ps_asg (pe_tup (pa_cons (pv 0) (pa_cons (pv 1) pa_nil))) (pg_tup (by rfl) (pgs_cons (pg_tup (by rfl) (pgs_cons (pg_name (i := 2) sc__law_due.nd rfl (.inl rfl)) (pgs_cons (pg_name (i := 3) sc__law_due.nd rfl (.inl rfl)) pgs_nil))) (pgs_cons (pg_tup (by rfl) (pgs_cons (pg_name (i := 4) sc__law_due.nd rfl (.inl rfl)) (pgs_cons (pg_name (i := 5) sc__law_due.nd rfl (.inl rfl)) pgs_nil))) pgs_nil))))
      (pss_cons (ps_par (i := 6) (j := 7) (by rfl) sc__law_due.nd rfl rfl (by decide) rfl rfl (pa_cons (pe_op op_mulW (pv 2) (pv 5)) (pa_cons (pe_op op_mulW (pv 4) (pv 3)) pa_nil)) (by rfl))
      (pss_cons (ps_par (i := 8) (j := 9) (by rfl) sc__law_due.nd rfl rfl (by decide) rfl rfl (pa_cons (pe_call G__law_lowest (hr.mono (by omega)) (by rfl) g__law_lowest F__law_lowest.kp b__law_lowest .nil pass0 (pa_cons (pe_op op_add (pv 6) (pv 7)) (pa_cons (pe_op op_mulW (pv 3) (pv 5)) pa_nil))) (pa_cons (pe_call G__law_lowest (hr.mono (by omega)) (by rfl) g__law_lowest F__law_lowest.kp b__law_lowest .nil pass0 (pa_cons (pe_op op_mulW (pv 2) (pv 4)) (pa_cons (pe_op op_mulW (pv 3) (pv 5)) pa_nil))) pa_nil)) (by rfl))
      (pss_one (ps_ret (pe_tup (pa_cons (pv 8) (pa_cons (pe_call G__law_lowest (hr.mono (by omega)) (by rfl) g__law_lowest F__law_lowest.kp b__law_lowest .nil pass0 (pa_cons (pe_op op_sub (pv 6) (pv 7)) (pa_cons (pe_op op_mulW (pv 3) (pv 5)) pa_nil))) (pa_cons (pv 9) (pa_cons (pe_op op_sub (pe_callTy call_int1 (by rfl) m_int (by decide +kernel) (pa_cons (pe_cmpR op_gt (pv 6) (pv 7) (nomark _)) pa_nil)) (pe_callTy call_int1 (by rfl) m_int (by decide +kernel) (pa_cons (pe_cmpR op_lt (pv 6) (pv 7) (nomark _)) pa_nil))) pa_nil)))))))))), ?_⟩
    refine ⟨.ref p, rfl, .ref q, rfl, toks (by show 2 ≤ 1000; decide), fun t0 n0 => ?_⟩
    have s0 := same_upd (ob := .tup [.ref p, .ref q]) n0
    replace hp := hp.same s0
    replace hq := hq.same s0
    refine ⟨t0, _, rfl, .inl (.inl upd_same), rfl, .ref p, _, rfl, p, _, rfl, .inl (.inl hp), rfl, _, _, rfl, _, _, rfl, rfl, .ref q, _, rfl, q, _, rfl, .inl (.inl hq), rfl, _, _, rfl, _, _, rfl, rfl, rfl, ?_⟩
    have lp := Int.mul_pos px py
    have lz := Fr.mul_lt2 zx.2 zy.2
    refine ⟨.int x.1, rfl, .int y.2, rfl, _, _, rfl, rfl, wide_mul zx.1 zy.2 (by decide) (by decide) (by decide), .int y.1, rfl, .int x.2, rfl, _, _, rfl, rfl, wide_mul zy.1 zx.2 (by decide) (by decide) (by decide), _, _, rfl, ?_⟩
    refine ⟨.int (x.1 * y.2), rfl, .int (y.1 * x.2), rfl, _, _, rfl, rfl, .int x.2, rfl, .int y.2, rfl, _, _, rfl, rfl, wide_mul zx.2 zy.2 (by decide) (by decide) (by decide), x.1 * y.2 + y.1 * x.2, x.2 * y.2, 200, rfl, lp, lz, by decide, by decide, fun t1 n1 => ?_⟩
    have s1 := same_upd (ob := .tup [.int (Fr.add x y).1, .int (Fr.add x y).2]) n1
    refine ⟨.int x.1, rfl, .int y.1, rfl, _, _, rfl, rfl, wide_mul zx.1 zy.1 (by decide) (by decide) (by decide), .int x.2, rfl, .int y.2, rfl, _, _, rfl, rfl, wide_mul zx.2 zy.2 (by decide) (by decide) (by decide), x.1 * y.1, x.2 * y.2, 200, rfl, lp, lz, by decide, by decide, fun t2 n2 => ?_⟩
    have s2 := same_upd (ob := .tup [.int (Fr.mul x y).1, .int (Fr.mul x y).2]) n2
    refine ⟨_, _, rfl, ?_⟩
    refine ⟨.ref t1, rfl, .int (x.1 * y.2), rfl, .int (y.1 * x.2), rfl, _, _, rfl, rfl, .int x.2, rfl, .int y.2, rfl, _, _, rfl, rfl, wide_mul zx.2 zy.2 (by decide) (by decide) (by decide), x.1 * y.2 - y.1 * x.2, x.2 * y.2, 200, rfl, lp, lz, by decide, by decide, fun t3 n3 => ?_⟩
    have s3 := same_upd (ob := .tup [.int (Fr.sub x y).1, .int (Fr.sub x y).2]) n3
    refine ⟨.ref t2, rfl, .int (x.1 * y.2), rfl, .int (y.1 * x.2), rfl, _, _, rfl, rfl, .inr ⟨_, rfl, .int (x.1 * y.2), rfl, .int (y.1 * x.2), rfl, _, _, rfl, rfl, .inr ⟨_, rfl, _, _, rfl, rfl, toks (by show 4 ≤ 1000; decide), fun t4 n4 => ?_⟩⟩⟩
    have ec : ((if decide (y.1 * x.2 < x.1 * y.2) = true then (1 : Int) else 0) - (if decide (x.1 * y.2 < y.1 * x.2) = true then 1 else 0)) = Fr.cmp x y := by
      unfold Fr.cmp
      by_cases h1 : x.1 * y.2 < y.1 * x.2
      · have h2 : ¬ y.1 * x.2 < x.1 * y.2 := by omega
        simp [h1, h2]
      · by_cases h2 : y.1 * x.2 < x.1 * y.2
        · simp [h1, h2]
        · simp [h1, h2]
    dsimp only
    rw [ec]
    have s4 := same_upd (ob := .tup [.ref t1, .ref t3, .ref t2, .int (Fr.cmp x y)]) n4
    refine k _ t4 ((((s0.trans s1).trans s2).trans s3).trans s4) (.tup upd_same (.cons (frDa ?_) (.cons (frDa ?_) (.cons (frDa ?_) (.cons (.int _) .nil)))))
    · exact s4 _ _ (s3 _ _ (s2 _ _ upd_same))
    · exact s4 _ _ upd_same
    · exact s4 _ _ (s3 _ _ upd_same)
/-! ### the law -/
/-- a pair of two fractions at T -/
def PairAt (H : Hp) (T : Addr) : Prop := ∃ (p q : Addr) (x y : Int × Int), H T = some (.tup [.ref p, .ref q]) ∧ FrAt H p x ∧ FrAt H q y ∧ 0 < x.2 ∧ 0 < y.2 ∧ Fr.Sz 100 x ∧ Fr.Sz 100 y
theorem PairAt.same {H H' : Hp} {T : Addr} (h : PairAt H T) (s : Same H H') : PairAt H' T := by
  obtain ⟨p, q, x, y, a, b, c, r⟩ := h
  exact ⟨p, q, x, y, s _ _ a, b.same s, c.same s, r⟩
theorem resD_plain (x y : Int × Int) : plainD (resD x y) = true := rfl
theorem resD_dep (x y : Int × Int) : dep (resD x y) < 3 := by
  show max (max 0 (max 0 0) + 1) (max (max 0 (max 0 0) + 1) (max (max 0 (max 0 0) + 1) (max 0 0))) + 1 < 3
  decide
abbrev s_law : Stmt := topS 18
abbrev N_law : List Str := ["_law_script", "_law_drawn", "_law_turn", "_law_one", "_law_other", "_law_first", "_law_second", "_law_kept", "_law_again"]
abbrev P_law : List Str := ["_law_script"]
theorem sc_law : FnScope N_law P_law (defScope s_law) := ⟨rfl, rfl, rfl, by decide +kernel, rfl, by decide +kernel, by decide +kernel⟩
set_option maxHeartbeats 4000000 in
theorem ok_law {fa : Addr} {cdv : Value} {sh : Shared} {H : Hp} {a : Addr} {ns : List Int} (hl : ns.length ≤ 63) (hS : SqL K H a (ns.map V.int)) (hr : Room 5 (callerA.deeper (envOfC "law" (defScope s_law) sh.heap.objs.size fa cdv)))
    (h__law_draws : Ok P w K mg base 1 "_law_draws" s__law_draws P__law_draws (sp__law_draws K)) (h__law_next : Ok P w K mg base 1 "_law_next" s__law_next P__law_next sp__law_next) (h__law_fraction : Ok P w K mg base 2 "_law_fraction" s__law_fraction P__law_fraction sp__law_fraction) (h__law_results : Ok P w K mg base 4 "_law_results" s__law_results P__law_results sp__law_results) (h__law_due : Ok P w K mg base 2 "_law_due" s__law_due P__law_due sp__law_due) (h__law_equal : Ok P w K mg base 3 "_law_equal" s__law_equal P__law_equal (sp__law_equal 3)) (m_range : mg "range" = none) (m_repr : mg "repr" = none) :
    ∃ t, PSs (cxOf CX0 P w K mg base N_law "law" (defScope s_law) fa cdv callerA [] sh H E0).nox (defBody s_law) t ∧ t { nx := fun _ _ => V.non = .bl true, rt := fun v _ => v = .bl true } (start N_law [.ref a]) H := by
  obtain ⟨f__law_draws, fd__law_draws, ⟨F__law_draws, b__law_draws, g__law_draws⟩, G__law_draws⟩ := h__law_draws
  obtain ⟨f__law_next, fd__law_next, ⟨F__law_next, b__law_next, g__law_next⟩, G__law_next⟩ := h__law_next
  obtain ⟨f__law_fraction, fd__law_fraction, ⟨F__law_fraction, b__law_fraction, g__law_fraction⟩, G__law_fraction⟩ := h__law_fraction
  obtain ⟨f__law_results, fd__law_results, ⟨F__law_results, b__law_results, g__law_results⟩, G__law_results⟩ := h__law_results
  obtain ⟨f__law_due, fd__law_due, ⟨F__law_due, b__law_due, g__law_due⟩, G__law_due⟩ := h__law_due
  obtain ⟨f__law_equal, fd__law_equal, ⟨F__law_equal, b__law_equal, g__law_equal⟩, G__law_equal⟩ := h__law_equal
  refine ⟨_, (pss_cons (ps_set (i := 1) sc_law.nd rfl (.inl rfl) (pe_call G__law_draws (hr.mono (by omega)) (by rfl) g__law_draws F__law_draws.kp b__law_draws .nil pass0 (pa_cons (pv 0) pa_nil)))
      (pss_cons (ps_for PassesOwn.never rfl (pi_range1 (by rfl) m_range (pa_cons pe_int pa_nil)) (pg_name (i := 2) sc_law.nd rfl (.inl rfl)) (pss_cons (ps_par (i := 3) (j := 4) (by rfl) sc_law.nd rfl rfl (by decide) rfl rfl (pa_cons (pe_call G__law_fraction (hr.mono (by omega)) (by rfl) g__law_fraction F__law_fraction.kp b__law_fraction .nil pass0 (pa_cons (pv 1) pa_nil)) (pa_cons (pe_call G__law_fraction (hr.mono (by omega)) (by rfl) g__law_fraction F__law_fraction.kp b__law_fraction .nil pass0 (pa_cons (pv 1) pa_nil)) pa_nil)) (by rfl)) (pss_cons (ps_if (pt_cmpR op_eq (pe_call G__law_next (hr.mono (by omega)) (by rfl) g__law_next F__law_next.kp b__law_next .nil pass0 (pa_cons (pv 1) (pa_cons pe_int pa_nil))) pe_int (nomark _)) (pss_one (ps_set (i := 4) sc_law.nd rfl (.inl rfl) (pe_tup (pa_cons (pe_op op_sub pe_int (pe_ix ix_tup (pv 3) pe_int (fun _ _ => rfl))) (pa_cons (pe_ix ix_tup (pv 3) pe_int (fun _ _ => rfl)) pa_nil))))) pss_nil) (pss_one (ps_for PassesOwn.never rfl (pi_list (pe_lst (pa_cons (pe_tup (pa_cons (pv 3) (pa_cons (pv 4) pa_nil))) (pa_cons (pe_tup (pa_cons (pv 4) (pa_cons (pv 3) pa_nil))) (pa_cons (pe_tup (pa_cons (pv 3) (pa_cons (pv 3) pa_nil))) (pa_cons (pe_tup (pa_cons (pv 3) (pa_cons (pe_tup (pa_cons pe_int (pa_cons pe_int pa_nil))) pa_nil))) (pa_cons (pe_tup (pa_cons (pe_tup (pa_cons pe_int (pa_cons pe_int pa_nil))) (pa_cons (pv 4) pa_nil))) pa_nil))))))) (pg_tup (by rfl) (pgs_cons (pg_name (i := 5) sc_law.nd rfl (.inl rfl)) (pgs_cons (pg_name (i := 6) sc_law.nd rfl (.inl rfl)) pgs_nil))) (pss_cons (ps_set (i := 7) sc_law.nd rfl (.inl rfl) (pe_callB (call_repr rfl hr.units) (by rfl) m_repr (by decide +kernel) (pa_cons (pe_lst (pa_cons (pv 5) (pa_cons (pv 6) pa_nil))) pa_nil))) (pss_cons (ps_for PassesOwn.never rfl (pi_range1 (by rfl) m_range (pa_cons pe_int pa_nil)) (pg_name (i := 8) sc_law.nd rfl (.inl rfl)) (pss_one (ps_if (pt_not (pt_val (pe_call G__law_equal (hr.mono (by omega)) (by rfl) g__law_equal F__law_equal.kp b__law_equal .nil pass0 (pa_cons (pe_call G__law_results (hr.mono (by omega)) (by rfl) g__law_results F__law_results.kp b__law_results .nil pass0 (pa_cons (pv 5) (pa_cons (pv 6) pa_nil))) (pa_cons (pe_call G__law_due (hr.mono (by omega)) (by rfl) g__law_due F__law_due.kp b__law_due .nil pass0 (pa_cons (pv 5) (pa_cons (pv 6) pa_nil))) pa_nil))))) (pss_one (ps_ret pe_bl)) pss_nil))) (pss_one (ps_if (pt_cmpR op_ne (pe_callB (call_repr rfl hr.units) (by rfl) m_repr (by decide +kernel) (pa_cons (pe_lst (pa_cons (pv 5) (pa_cons (pv 6) pa_nil))) pa_nil)) (pv 7) (nomark _)) (pss_one (ps_ret pe_bl)) pss_nil)))))))))
      (pss_one (ps_ret pe_bl)))), ?_⟩
  refine ⟨.ref a, rfl, a, ns, rfl, hS, hl, fun H1 pa c r s1 _ _ _ dr => ?_⟩
  refine ⟨30, rfl, by decide, by decide, for_range (lo := 0) (n := 30) (fun i σ H' => Drw H' pa c r (i * 100) ∧ ∃ y2 y3 y4 y5 y6 y7 y8, σ = [some (.ref a), some (.ref pa), y2, y3, y4, y5, y6, y7, y8]) ⟨dr, none, none, none, none, none, none, none, rfl⟩ (fun i σ H2 hi hI => ?_) (fun σ H2 hI => rfl)⟩
  obtain ⟨dr, y2, y3, y4, y5, y6, y7, y8, rfl⟩ := hI
  refine ⟨.ref pa, rfl, pa, c, r, i * 100, rfl, dr, by omega, fun H3 t1 x ix zx d3 k3 nt1 f1 => ?_⟩
  refine ⟨.ref pa, rfl, pa, c, r, i * 100 + 3, rfl, d3, by omega, fun H4 t2 y iy zy d4 k4 nt2 f2 => ?_⟩
  replace f1 := f1.keep d3 k4
  refine ⟨_, _, rfl, ?_⟩
  refine ⟨.ref pa, rfl, pa, c, r, i * 100 + 6, 5, rfl, d4, by omega, by decide, by decide, fun v H5 _ _ d5 k5 => ?_⟩
  replace f1 := f1.keep d4 k5
  replace f2 := f2.keep d4 k5
  refine ⟨rfl, _, rfl, ite2 (fun _ => ?A) (fun _ => ?B)⟩
  case' A =>
    refine ⟨.ref t1, rfl, t1, _, _, _, rfl, rfl, .inl (.inl f1), rfl, _, _, rfl, rfl, .ref t1, rfl, t1, _, _, _, rfl, rfl, .inl (.inl f1), rfl, toks (by show 2 ≤ 1000; decide), fun t3 n3 => ?_⟩
    have s6 := same_upd (ob := .tup [.int (0 - x.1), .int x.2]) n3
    obtain ⟨z, pz, zz, fz⟩ : ∃ z : Int × Int, 0 < z.2 ∧ Fr.Sz 100 z ∧ FrAt (upd H5 t3 (.tup [.int (0 - x.1), .int x.2])) t3 z := ⟨(0 - x.1, x.2), ix.1, ⟨by have := zx.1; show (0 - x.1).natAbs < _; omega, zx.2⟩, upd_same⟩
    replace f1 := f1.same s6
    have d6 := d5.same s6
    generalize upd H5 t3 (HO.tup _) = H6 at *
  case' B =>
    obtain ⟨z, pz, zz, fz⟩ : ∃ z : Int × Int, 0 < z.2 ∧ Fr.Sz 100 z ∧ FrAt H5 t2 z := ⟨y, iy.1, zy, f2⟩
    generalize t2 = t3 at *
    have d6 := d5
    rename Hp => H6
  all_goals
    have px := ix.1
    -- the five pairs
    refine ⟨.ref t1, rfl, .ref t3, rfl, toks (by show 2 ≤ 1000; decide), fun T1 m1 => ?_⟩
    have q1 := same_upd (ob := .tup [.ref t1, .ref t3]) m1
    refine ⟨.ref t3, rfl, .ref t1, rfl, toks (by show 2 ≤ 1000; decide), fun T2 m2 => ?_⟩
    have q2 := same_upd (ob := .tup [.ref t3, .ref t1]) m2
    refine ⟨.ref t1, rfl, .ref t1, rfl, toks (by show 2 ≤ 1000; decide), fun T3 m3 => ?_⟩
    have q3 := same_upd (ob := .tup [.ref t1, .ref t1]) m3
    refine ⟨.ref t1, rfl, toks (by show 2 ≤ 1000; decide), fun o1 m4 => ?_⟩
    have q4 := same_upd (ob := .tup [.int 0, .int 1]) m4
    refine ⟨toks (by show 2 ≤ 1000; decide), fun T4 m5 => ?_⟩
    have q5 := same_upd (ob := .tup [.ref t1, .ref o1]) m5
    refine ⟨toks (by show 2 ≤ 1000; decide), fun o2 m6 => ?_⟩
    have q6 := same_upd (ob := .tup [.int 0, .int 1]) m6
    refine ⟨.ref t3, rfl, toks (by show 2 ≤ 1000; decide), fun T5 m7 => ?_⟩
    have q7 := same_upd (ob := .tup [.ref o2, .ref t3]) m7
    refine ⟨toks (by show 5 ≤ 1000; decide), fun L m8 => ?_⟩
    have q8 := same_upd (ob := .lst [.ref T1, .ref T2, .ref T3, .ref T4, .ref T5]) m8
    generalize hH7 : upd _ L (HO.lst [.ref T1, .ref T2, .ref T3, .ref T4, .ref T5]) = H7 at *
    have hL : H7 L = some (.lst [.ref T1, .ref T2, .ref T3, .ref T4, .ref T5]) := by rw [← hH7, upd_same]
    have u7 := q7.trans q8
    have u6 := q6.trans u7
    have u5 := q5.trans u6
    have u4 := q4.trans u5
    have u3 := q3.trans u4
    have u2 := q2.trans u3
    have u1 := q1.trans u2
    have g1 := f1.same u1
    have g3 := fz.same u1
    have zo : Fr.Sz 100 (0, 1) := ⟨by decide, by decide⟩
    have P1 : PairAt H7 T1 := ⟨t1, t3, x, z, u2 _ _ upd_same, g1, g3, px, pz, zx, zz⟩
    have P2 : PairAt H7 T2 := ⟨t3, t1, z, x, u3 _ _ upd_same, g3, g1, pz, px, zz, zx⟩
    have P3 : PairAt H7 T3 := ⟨t1, t1, x, x, u4 _ _ upd_same, g1, g1, px, px, zx, zx⟩
    have P4 : PairAt H7 T4 := ⟨t1, o1, x, (0, 1), u6 _ _ upd_same, g1, u5 _ _ upd_same, px, by decide, zx, zo⟩
    have P5 : PairAt H7 T5 := ⟨o2, t3, (0, 1), z, q8 _ _ upd_same, u7 _ _ upd_same, g3, by decide, pz, zo, zz⟩
    have d7 := d6.same u1
    have all : ∀ T ∈ [T1, T2, T3, T4, T5], PairAt H7 T := by
      intro T hT
      simp only [List.mem_cons, List.not_mem_nil, or_false] at hT
      rcases hT with e | e | e | e | e
      · rw [e]; exact P1
      · rw [e]; exact P2
      · rw [e]; exact P3
      · rw [e]; exact P4
      · rw [e]; exact P5
    clear P1 P2 P3 P4 P5
    refine ⟨L, rfl, ⟨_, .inl (.inl hL)⟩, for_list (K := K) (a := L) (xs := [T1, T2, T3, T4, T5].map V.ref) (fun _ σ H' => Same H7 H' ∧ ∃ w2 w5 w6 w7 w8, σ = [some (.ref a), some (.ref pa), w2, some (.ref t1), some (.ref t3), w5, w6, w7, w8]) ⟨Same.refl _, _, _, _, _, _, rfl⟩ (fun j σ H' _ p => .inl (.inl (p.1 _ _ hL))) (fun j e σ H8 he p => ?_) (fun σ H8 p => ?_)⟩
    · obtain ⟨s8, w2, w5, w6, w7, w8, rfl⟩ := p
      obtain ⟨T, rfl, hT⟩ : ∃ T, e = V.ref T ∧ T ∈ [T1, T2, T3, T4, T5] := by
        have := List.mem_of_getElem? he
        obtain ⟨T, hT, e⟩ := List.mem_map.mp this
        exact ⟨T, e.symm, hT⟩
      obtain ⟨p, q, x', y', hp, fx, fy, px', py', zx', zy'⟩ := (all T hT).same s8
      refine ⟨T, _, rfl, .inl (.inl hp), rfl, _, _, rfl, _, _, rfl, rfl, ?_⟩
      refine ⟨.ref p, rfl, .ref q, rfl, toks (by show 2 ≤ 1000; decide), fun l1 n1 => ?_⟩
      have s9 := same_upd (ob := .lst [.ref p, .ref q]) n1
      replace fx := fx.same s9
      replace fy := fy.same s9
      have shw : Shw (.list [fd x', fd y']) 7705 2 := (Shw.lst (.cons (.fd zx' (by decide) (by decide)) (.cons (.fd zy' (by decide) (by decide)) (.nil 1)))).mono (by decide) (by decide)
      refine ⟨.ref l1, .list [fd x', fd y'], rfl, .lst upd_same (.cons (frDa fx) (.cons (frDa fy) .nil)), shw.sh, shw.nd, shw.deep (by decide), shw.fit (by decide), ?_⟩
      refine ⟨2, rfl, by decide, by decide, for_range (lo := 0) (n := 2) (fun _ σ H' => Same _ H' ∧ ∃ v2 v8, σ = [some (.ref a), some (.ref pa), v2, some (.ref t1), some (.ref t3), some (.ref p), some (.ref q), some (.str (PyData.shown (.list [fd x', fd y']))), v8]) ⟨Same.refl _, _, _, rfl⟩ (fun m σ H9 _ hI => ?_) (fun σ H9 hI => ?_)⟩
      · obtain ⟨s10, v2, v8, rfl⟩ := hI
        have fx2 := fx.same s10
        have fy2 := fy.same s10
        refine ⟨.ref p, rfl, .ref q, rfl, p, q, x', y', rfl, fx2, fy2, px', py', zx', zy', fun H10 r1 s11 e1 => ?_⟩
        refine ⟨.ref p, rfl, .ref q, rfl, p, q, x', y', rfl, fx2.same s11, fy2.same s11, px', py', zx', zy', fun H11 r2 s12 e2 => ?_⟩
        refine ⟨.ref r1, .ref r2, resD x' y', resD x' y', rfl, e1.same s12, e2, rfl, rfl, resD_dep x' y', by decide, fun H12 s13 => ?_⟩
        refine ⟨_, rfl, ?_⟩
        rw [deq_refl (resD_plain x' y')]
        exact ⟨((s10.trans s11).trans s12).trans s13, _, _, rfl⟩
      · obtain ⟨s10, v2, v8, rfl⟩ := hI
        refine ⟨.ref p, rfl, .ref q, rfl, toks (by show 2 ≤ 1000; decide), fun l2 n2 => ?_⟩
        have s11 := same_upd (ob := .lst [.ref p, .ref q]) n2
        refine ⟨.ref l2, .list [fd x', fd y'], rfl, .lst upd_same (.cons (frDa ((fx.same s10).same s11)) (.cons (frDa ((fy.same s10).same s11)) .nil)), shw.sh, shw.nd, shw.deep (by decide), shw.fit (by decide), ?_⟩
        refine ⟨_, rfl, rfl, _, rfl, neS ?_⟩
        exact ⟨(((s8.trans s9).trans s10).trans s11), _, _, _, _, _, rfl⟩
    · obtain ⟨s8, w2, w5, w6, w7, w8, rfl⟩ := p
      exact ⟨(d7.same s8).mono (by omega), _, _, _, _, _, _, _, rfl⟩
end
end PM

namespace PM
open PySem PySem.Spec PyProof.Rows L2 RZ
/-! ### what the top has written -/
theorem all_mk {l : PySem.W.OpenLaw} {w : World} {K : PySem.W.Frag} {h : Heap} {mg : Str → Option Value} {fa : Addr} {f0 f1 f2 f3 f4 f5 f6 f7 f8 f9 f10 f11 f12 f13 : Addr}  (X : K.In h) (G : h.Ns mainGlobals mg) (hfa : mg "law" = some (.ref fa))
    {od0 an0 : Option Addr} {sl0 : Array (Option Value)} {oc0 kV0 dc0 pm0 cd0 ct0 : Value} (a0 : PySem.W.nsIn K mainGlobals "common_divisor" = some (some (.ref f0))) (l0 : K.lookup f0 = some ⟨oc0, od0, .func (PySem.W.fnOf "common_divisor" "common_divisor" (defArgs s_common_divisor) (defBody s_common_divisor) (defScope s_common_divisor) .none kV0 dc0 pm0 an0 cd0 ct0), sl0⟩) (c0 : PySem.W.codeIn K cd0 "common_divisor" = true) (k0 : PySem.W.keepIn K (.ref f0) = true)
    {od1 an1 : Option Addr} {sl1 : Array (Option Value)} {oc1 kV1 dc1 pm1 cd1 ct1 : Value} (a1 : PySem.W.nsIn K mainGlobals "make_fraction" = some (some (.ref f1))) (l1 : K.lookup f1 = some ⟨oc1, od1, .func (PySem.W.fnOf "make_fraction" "make_fraction" (defArgs s_make_fraction) (defBody s_make_fraction) (defScope s_make_fraction) .none kV1 dc1 pm1 an1 cd1 ct1), sl1⟩) (c1 : PySem.W.codeIn K cd1 "make_fraction" = true) (k1 : PySem.W.keepIn K (.ref f1) = true)
    {od2 an2 : Option Addr} {sl2 : Array (Option Value)} {oc2 kV2 dc2 pm2 cd2 ct2 : Value} (a2 : PySem.W.nsIn K mainGlobals "add_fractions" = some (some (.ref f2))) (l2 : K.lookup f2 = some ⟨oc2, od2, .func (PySem.W.fnOf "add_fractions" "add_fractions" (defArgs s_add_fractions) (defBody s_add_fractions) (defScope s_add_fractions) .none kV2 dc2 pm2 an2 cd2 ct2), sl2⟩) (c2 : PySem.W.codeIn K cd2 "add_fractions" = true) (k2 : PySem.W.keepIn K (.ref f2) = true)
    {od3 an3 : Option Addr} {sl3 : Array (Option Value)} {oc3 kV3 dc3 pm3 cd3 ct3 : Value} (a3 : PySem.W.nsIn K mainGlobals "subtract_fractions" = some (some (.ref f3))) (l3 : K.lookup f3 = some ⟨oc3, od3, .func (PySem.W.fnOf "subtract_fractions" "subtract_fractions" (defArgs s_subtract_fractions) (defBody s_subtract_fractions) (defScope s_subtract_fractions) .none kV3 dc3 pm3 an3 cd3 ct3), sl3⟩) (c3 : PySem.W.codeIn K cd3 "subtract_fractions" = true) (k3 : PySem.W.keepIn K (.ref f3) = true)
    {od4 an4 : Option Addr} {sl4 : Array (Option Value)} {oc4 kV4 dc4 pm4 cd4 ct4 : Value} (a4 : PySem.W.nsIn K mainGlobals "multiply_fractions" = some (some (.ref f4))) (l4 : K.lookup f4 = some ⟨oc4, od4, .func (PySem.W.fnOf "multiply_fractions" "multiply_fractions" (defArgs s_multiply_fractions) (defBody s_multiply_fractions) (defScope s_multiply_fractions) .none kV4 dc4 pm4 an4 cd4 ct4), sl4⟩) (c4 : PySem.W.codeIn K cd4 "multiply_fractions" = true) (k4 : PySem.W.keepIn K (.ref f4) = true)
    {od5 an5 : Option Addr} {sl5 : Array (Option Value)} {oc5 kV5 dc5 pm5 cd5 ct5 : Value} (a5 : PySem.W.nsIn K mainGlobals "compare_fractions" = some (some (.ref f5))) (l5 : K.lookup f5 = some ⟨oc5, od5, .func (PySem.W.fnOf "compare_fractions" "compare_fractions" (defArgs s_compare_fractions) (defBody s_compare_fractions) (defScope s_compare_fractions) .none kV5 dc5 pm5 an5 cd5 ct5), sl5⟩) (c5 : PySem.W.codeIn K cd5 "compare_fractions" = true) (k5 : PySem.W.keepIn K (.ref f5) = true)
    {od6 an6 : Option Addr} {sl6 : Array (Option Value)} {oc6 kV6 dc6 pm6 cd6 ct6 : Value} (a6 : PySem.W.nsIn K mainGlobals "_law_draws" = some (some (.ref f6))) (l6 : K.lookup f6 = some ⟨oc6, od6, .func (PySem.W.fnOf "_law_draws" "_law_draws" (defArgs s__law_draws) (defBody s__law_draws) (defScope s__law_draws) .none kV6 dc6 pm6 an6 cd6 ct6), sl6⟩) (c6 : PySem.W.codeIn K cd6 "_law_draws" = true) (k6 : PySem.W.keepIn K (.ref f6) = true)
    {od7 an7 : Option Addr} {sl7 : Array (Option Value)} {oc7 kV7 dc7 pm7 cd7 ct7 : Value} (a7 : PySem.W.nsIn K mainGlobals "_law_next" = some (some (.ref f7))) (l7 : K.lookup f7 = some ⟨oc7, od7, .func (PySem.W.fnOf "_law_next" "_law_next" (defArgs s__law_next) (defBody s__law_next) (defScope s__law_next) .none kV7 dc7 pm7 an7 cd7 ct7), sl7⟩) (c7 : PySem.W.codeIn K cd7 "_law_next" = true) (k7 : PySem.W.keepIn K (.ref f7) = true)
    {od8 an8 : Option Addr} {sl8 : Array (Option Value)} {oc8 kV8 dc8 pm8 cd8 ct8 : Value} (a8 : PySem.W.nsIn K mainGlobals "_law_equal" = some (some (.ref f8))) (l8 : K.lookup f8 = some ⟨oc8, od8, .func (PySem.W.fnOf "_law_equal" "_law_equal" (defArgs s__law_equal) (defBody s__law_equal) (defScope s__law_equal) .none kV8 dc8 pm8 an8 cd8 ct8), sl8⟩) (c8 : PySem.W.codeIn K cd8 "_law_equal" = true) (k8 : PySem.W.keepIn K (.ref f8) = true)
    {od9 an9 : Option Addr} {sl9 : Array (Option Value)} {oc9 kV9 dc9 pm9 cd9 ct9 : Value} (a9 : PySem.W.nsIn K mainGlobals "_law_lowest" = some (some (.ref f9))) (l9 : K.lookup f9 = some ⟨oc9, od9, .func (PySem.W.fnOf "_law_lowest" "_law_lowest" (defArgs s__law_lowest) (defBody s__law_lowest) (defScope s__law_lowest) .none kV9 dc9 pm9 an9 cd9 ct9), sl9⟩) (c9 : PySem.W.codeIn K cd9 "_law_lowest" = true) (k9 : PySem.W.keepIn K (.ref f9) = true)
    {od10 an10 : Option Addr} {sl10 : Array (Option Value)} {oc10 kV10 dc10 pm10 cd10 ct10 : Value} (a10 : PySem.W.nsIn K mainGlobals "_law_fraction" = some (some (.ref f10))) (l10 : K.lookup f10 = some ⟨oc10, od10, .func (PySem.W.fnOf "_law_fraction" "_law_fraction" (defArgs s__law_fraction) (defBody s__law_fraction) (defScope s__law_fraction) .none kV10 dc10 pm10 an10 cd10 ct10), sl10⟩) (c10 : PySem.W.codeIn K cd10 "_law_fraction" = true) (k10 : PySem.W.keepIn K (.ref f10) = true)
    {od11 an11 : Option Addr} {sl11 : Array (Option Value)} {oc11 kV11 dc11 pm11 cd11 ct11 : Value} (a11 : PySem.W.nsIn K mainGlobals "_law_results" = some (some (.ref f11))) (l11 : K.lookup f11 = some ⟨oc11, od11, .func (PySem.W.fnOf "_law_results" "_law_results" (defArgs s__law_results) (defBody s__law_results) (defScope s__law_results) .none kV11 dc11 pm11 an11 cd11 ct11), sl11⟩) (c11 : PySem.W.codeIn K cd11 "_law_results" = true) (k11 : PySem.W.keepIn K (.ref f11) = true)
    {od12 an12 : Option Addr} {sl12 : Array (Option Value)} {oc12 kV12 dc12 pm12 cd12 ct12 : Value} (a12 : PySem.W.nsIn K mainGlobals "_law_due" = some (some (.ref f12))) (l12 : K.lookup f12 = some ⟨oc12, od12, .func (PySem.W.fnOf "_law_due" "_law_due" (defArgs s__law_due) (defBody s__law_due) (defScope s__law_due) .none kV12 dc12 pm12 an12 cd12 ct12), sl12⟩) (c12 : PySem.W.codeIn K cd12 "_law_due" = true) (k12 : PySem.W.keepIn K (.ref f12) = true)
    {od13 an13 : Option Addr} {sl13 : Array (Option Value)} {oc13 kV13 dc13 pm13 cd13 ct13 : Value} (a13 : PySem.W.nsIn K mainGlobals "law" = some (some (.ref f13))) (l13 : K.lookup f13 = some ⟨oc13, od13, .func (PySem.W.fnOf "law" "law" (defArgs s_law) (defBody s_law) (defScope s_law) .none kV13 dc13 pm13 an13 cd13 ct13), sl13⟩) (c13 : PySem.W.codeIn K cd13 "law" = true) (k13 : PySem.W.keepIn K (.ref f13) = true)
    (z0 : PySem.W.nsIn K mainGlobals "abs" = some none)
    (z1 : PySem.W.nsIn K mainGlobals "len" = some none)
    (z2 : PySem.W.nsIn K mainGlobals "int" = some none)
    (z3 : PySem.W.nsIn K mainGlobals "list" = some none)
    (z4 : PySem.W.nsIn K mainGlobals "range" = some none)
    (z5 : PySem.W.nsIn K mainGlobals "isinstance" = some none)
    (z6 : PySem.W.nsIn K mainGlobals "tuple" = some none)
    (z7 : PySem.W.nsIn K mainGlobals "bool" = some none)
    (z8 : PySem.W.nsIn K mainGlobals "str" = some none)
    (z9 : PySem.W.nsIn K mainGlobals "all" = some none)
    (z10 : PySem.W.nsIn K mainGlobals "zip" = some none)
    (z11 : PySem.W.nsIn K mainGlobals "repr" = some none)
    (base : Heap) (H : Hp) (sh : Shared) (scr : Addr) (ns : List Int) (few : ns.length ≤ 63) (inB : K.In base) (glob : base.Ns mainGlobals mg) (seq : SqL K H scr (ns.map V.int)) (e0 : Env0 l.prog w K mg base callerA [] sh H) : codeAny (model l.prog w) callerA (.call (.ref fa) ⟨[.ref scr], []⟩) (CR CX0 [] l.prog w H sh (fun v _ => v = .bl true) E0) sh := by
  have F0 := fun_mk (st := s_common_divisor) l0 c0 k0
  have d_common_divisor : IsDef K mg "common_divisor" s_common_divisor P_common_divisor := ⟨_, _, F0, F0.binds (ps := P_common_divisor) (fun _ _ _ _ _ _ us hl => match us, hl with | [_, _], _ => rfl), PySem.W.mg_of X G a0⟩
  have F1 := fun_mk (st := s_make_fraction) l1 c1 k1
  have d_make_fraction : IsDef K mg "make_fraction" s_make_fraction P_make_fraction := ⟨_, _, F1, F1.binds (ps := P_make_fraction) (fun _ _ _ _ _ _ us hl => match us, hl with | [_, _], _ => rfl), PySem.W.mg_of X G a1⟩
  have F2 := fun_mk (st := s_add_fractions) l2 c2 k2
  have d_add_fractions : IsDef K mg "add_fractions" s_add_fractions P_add_fractions := ⟨_, _, F2, F2.binds (ps := P_add_fractions) (fun _ _ _ _ _ _ us hl => match us, hl with | [_, _], _ => rfl), PySem.W.mg_of X G a2⟩
  have F3 := fun_mk (st := s_subtract_fractions) l3 c3 k3
  have d_subtract_fractions : IsDef K mg "subtract_fractions" s_subtract_fractions P_subtract_fractions := ⟨_, _, F3, F3.binds (ps := P_subtract_fractions) (fun _ _ _ _ _ _ us hl => match us, hl with | [_, _], _ => rfl), PySem.W.mg_of X G a3⟩
  have F4 := fun_mk (st := s_multiply_fractions) l4 c4 k4
  have d_multiply_fractions : IsDef K mg "multiply_fractions" s_multiply_fractions P_multiply_fractions := ⟨_, _, F4, F4.binds (ps := P_multiply_fractions) (fun _ _ _ _ _ _ us hl => match us, hl with | [_, _], _ => rfl), PySem.W.mg_of X G a4⟩
  have F5 := fun_mk (st := s_compare_fractions) l5 c5 k5
  have d_compare_fractions : IsDef K mg "compare_fractions" s_compare_fractions P_compare_fractions := ⟨_, _, F5, F5.binds (ps := P_compare_fractions) (fun _ _ _ _ _ _ us hl => match us, hl with | [_, _], _ => rfl), PySem.W.mg_of X G a5⟩
  have F6 := fun_mk (st := s__law_draws) l6 c6 k6
  have d__law_draws : IsDef K mg "_law_draws" s__law_draws P__law_draws := ⟨_, _, F6, F6.binds (ps := P__law_draws) (fun _ _ _ _ _ _ us hl => match us, hl with | [_], _ => rfl), PySem.W.mg_of X G a6⟩
  have F7 := fun_mk (st := s__law_next) l7 c7 k7
  have d__law_next : IsDef K mg "_law_next" s__law_next P__law_next := ⟨_, _, F7, F7.binds (ps := P__law_next) (fun _ _ _ _ _ _ us hl => match us, hl with | [_, _], _ => rfl), PySem.W.mg_of X G a7⟩
  have F8 := fun_mk (st := s__law_equal) l8 c8 k8
  have d__law_equal : IsDef K mg "_law_equal" s__law_equal P__law_equal := ⟨_, _, F8, F8.binds (ps := P__law_equal) (fun _ _ _ _ _ _ us hl => match us, hl with | [_, _], _ => rfl), PySem.W.mg_of X G a8⟩
  have F9 := fun_mk (st := s__law_lowest) l9 c9 k9
  have d__law_lowest : IsDef K mg "_law_lowest" s__law_lowest P__law_lowest := ⟨_, _, F9, F9.binds (ps := P__law_lowest) (fun _ _ _ _ _ _ us hl => match us, hl with | [_, _], _ => rfl), PySem.W.mg_of X G a9⟩
  have F10 := fun_mk (st := s__law_fraction) l10 c10 k10
  have d__law_fraction : IsDef K mg "_law_fraction" s__law_fraction P__law_fraction := ⟨_, _, F10, F10.binds (ps := P__law_fraction) (fun _ _ _ _ _ _ us hl => match us, hl with | [_], _ => rfl), PySem.W.mg_of X G a10⟩
  have F11 := fun_mk (st := s__law_results) l11 c11 k11
  have d__law_results : IsDef K mg "_law_results" s__law_results P__law_results := ⟨_, _, F11, F11.binds (ps := P__law_results) (fun _ _ _ _ _ _ us hl => match us, hl with | [_, _], _ => rfl), PySem.W.mg_of X G a11⟩
  have F12 := fun_mk (st := s__law_due) l12 c12 k12
  have d__law_due : IsDef K mg "_law_due" s__law_due P__law_due := ⟨_, _, F12, F12.binds (ps := P__law_due) (fun _ _ _ _ _ _ us hl => match us, hl with | [_, _], _ => rfl), PySem.W.mg_of X G a12⟩
  have F13 := fun_mk (st := s_law) l13 c13 k13
  have d_law : IsDef K mg "law" s_law P_law := ⟨_, _, F13, F13.binds (ps := P_law) (fun _ _ _ _ _ _ us hl => match us, hl with | [_], _ => rfl), PySem.W.mg_of X G a13⟩
  have m_abs := PySem.W.mg_none_of X G z0
  have m_len := PySem.W.mg_none_of X G z1
  have m_int := PySem.W.mg_none_of X G z2
  have m_list := PySem.W.mg_none_of X G z3
  have m_range := PySem.W.mg_none_of X G z4
  have m_isinstance := PySem.W.mg_none_of X G z5
  have m_tuple := PySem.W.mg_none_of X G z6
  have m_bool := PySem.W.mg_none_of X G z7
  have m_str := PySem.W.mg_none_of X G z8
  have m_all := PySem.W.mg_none_of X G z9
  have m_zip := PySem.W.mg_none_of X G z10
  have m_repr := PySem.W.mg_none_of X G z11
  have hM := fun base => ok_make_fraction (P := l.prog) (w := w) (base := base) d_make_fraction (ok_common_divisor d_common_divisor m_abs)
  have hM := hM base
  have e := hfa.symm.trans (PySem.W.mg_of X G a13)
  cases e
  have room : Room (5 + 1) callerA := ⟨rfl, by decide, by decide⟩
  refine enter_at (N := N_law) (ps := P_law) (us := [.ref scr]) (vs := [.ref scr]) l13 c13 sc_law rfl room e0 (.of_eq rfl) (.cons rfl .nil) ?_
  obtain ⟨t, der, rd⟩ := ok_law (P := l.prog) (w := w) (base := base) (fa := fa) (cdv := cd13) (sh := sh) few seq (room.deeper _) (ok__law_draws d__law_draws m_len m_int m_list) (ok__law_next d__law_next m_len) (ok__law_fraction d__law_fraction (ok__law_next d__law_next m_len) (ok__law_lowest d__law_lowest m_abs)) (ok__law_results d__law_results (ok_add_fractions d_add_fractions hM) (ok_subtract_fractions d_subtract_fractions hM) (ok_multiply_fractions d_multiply_fractions hM) (ok_compare_fractions d_compare_fractions)) (ok__law_due d__law_due m_int (ok__law_lowest d__law_lowest m_abs)) (ok__law_equal d__law_equal m_isinstance m_tuple m_bool m_int m_str m_len m_all m_zip 3) m_range m_repr
  exact ⟨t, der.nox, rd⟩
end PM
open PySem PySem.W PyProof.Rows
set_option maxHeartbeats 0 in
theorem PySem.Challenge.cw_poolmarks_k02_sums_products_and_order_holds : PySem.Challenge.rw_poolmarks_k02_sums_products_and_order.Holds := by
  w_on; o_law; k_head; (case hw => w_witness2)
  k_fill
  refine PM.walk_at (l := PySem.Challenge.rw_poolmarks_k02_sums_products_and_order) (n := 63) rfl (by decide) rfl (fun w h Y => PySem.W.kIn_of Y) ?F
  case F =>
    intro w mg fa h KX G hmg
    refine' PM.all_mk KX G hmg ?a0 ?l0 ?c0 ?k0 ?a1 ?l1 ?c1 ?k1 ?a2 ?l2 ?c2 ?k2 ?a3 ?l3 ?c3 ?k3 ?a4 ?l4 ?c4 ?k4 ?a5 ?l5 ?c5 ?k5 ?a6 ?l6 ?c6 ?k6 ?a7 ?l7 ?c7 ?k7 ?a8 ?l8 ?c8 ?k8 ?a9 ?l9 ?c9 ?k9 ?a10 ?l10 ?c10 ?k10 ?a11 ?l11 ?c11 ?k11 ?a12 ?l12 ?c12 ?k12 ?a13 ?l13 ?c13 ?k13 ?z0 ?z1 ?z2 ?z3 ?z4 ?z5 ?z6 ?z7 ?z8 ?z9 ?z10 ?z11
    (case a0 => k_is)
    (case l0 => k_is)
    (case c0 => k_is)
    (case k0 => k_is)
    (case a1 => k_is)
    (case l1 => k_is)
    (case c1 => k_is)
    (case k1 => k_is)
    (case a2 => k_is)
    (case l2 => k_is)
    (case c2 => k_is)
    (case k2 => k_is)
    (case a3 => k_is)
    (case l3 => k_is)
    (case c3 => k_is)
    (case k3 => k_is)
    (case a4 => k_is)
    (case l4 => k_is)
    (case c4 => k_is)
    (case k4 => k_is)
    (case a5 => k_is)
    (case l5 => k_is)
    (case c5 => k_is)
    (case k5 => k_is)
    (case a6 => k_is)
    (case l6 => k_is)
    (case c6 => k_is)
    (case k6 => k_is)
    (case a7 => k_is)
    (case l7 => k_is)
    (case c7 => k_is)
    (case k7 => k_is)
    (case a8 => k_is)
    (case l8 => k_is)
    (case c8 => k_is)
    (case k8 => k_is)
    (case a9 => k_is)
    (case l9 => k_is)
    (case c9 => k_is)
    (case k9 => k_is)
    (case a10 => k_is)
    (case l10 => k_is)
    (case c10 => k_is)
    (case k10 => k_is)
    (case a11 => k_is)
    (case l11 => k_is)
    (case c11 => k_is)
    (case k11 => k_is)
    (case a12 => k_is)
    (case l12 => k_is)
    (case c12 => k_is)
    (case k12 => k_is)
    (case a13 => k_is)
    (case l13 => k_is)
    (case c13 => k_is)
    (case k13 => k_is)
    (case z0 => k_is)
    (case z1 => k_is)
    (case z2 => k_is)
    (case z3 => k_is)
    (case z4 => k_is)
    (case z5 => k_is)
    (case z6 => k_is)
    (case z7 => k_is)
    (case z8 => k_is)
    (case z9 => k_is)
    (case z10 => k_is)
    (case z11 => k_is)
