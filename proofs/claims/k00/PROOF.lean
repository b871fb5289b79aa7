import PyProof.Rows.All
import Wide.All
import OpenK.AllK
import Wide.FinOn
import PySem.Challenge.RW_poolmarks_k00_fractions_checked
import HandS.ForMost
import HandS.Wide
import HandS.NoneIn
import HandS.Style
import PyProof.ReprReads
import HandS.IsInst
import HandS.Zip
import HandS.Walk
import PyProof.ReprLen
import PyProof.ReprRoads
import PyProof.Rows.RegStrFacts
import HandS.TupAny
set_option Elab.async false
set_option linter.all false
set_option maxRecDepth 100000
namespace Fr
/-! fractions as pairs of ints in lowest terms; their values as rationals -/
def IsF (x : Int × Int) : Prop := 0 < x.2 ∧ Int.gcd x.1 x.2 = 1
def val (x : Int × Int) : Rat := (x.1 : Rat) / (x.2 : Rat)
def red (n d : Int) : Int × Int := (n / (Int.gcd n d : Int), d / (Int.gcd n d : Int))
theorem gcd_pos {n d : Int} (hd : d ≠ 0) : 0 < (Int.gcd n d : Int) := by
  have := Int.gcd_pos_of_ne_zero_right n hd
  omega
theorem red_isF {n d : Int} (hd : 0 < d) : IsF (red n d) := by
  have hg := Int.gcd_pos_of_ne_zero_right n (show d ≠ 0 by omega)
  refine ⟨?_, ?_⟩
  · exact Int.ediv_pos_of_pos_of_dvd hd (by omega) (Int.gcd_dvd_right _ _)
  · show Int.gcd (n / (Int.gcd n d : Int)) (d / (Int.gcd n d : Int)) = 1
    have e := Int.gcd_ediv (a := n) (b := d) (c := (Int.gcd n d : Int)) (Int.gcd_dvd_left _ _) (Int.gcd_dvd_right _ _)
    rw [e, Int.natAbs_natCast]
    exact Nat.div_self hg
theorem cast_ne {d : Int} (h : d ≠ 0) : (d : Rat) ≠ 0 := fun e => h (Rat.intCast_inj.mp (by rw [e]; rfl))
theorem cast_pos {d : Int} (h : 0 < d) : (0 : Rat) < (d : Rat) := Rat.intCast_lt_intCast.mpr h
theorem red_mul1 (n d : Int) : (red n d).1 * (Int.gcd n d : Int) = n := Int.ediv_mul_cancel (Int.gcd_dvd_left _ _)
theorem red_mul2 (n d : Int) : (red n d).2 * (Int.gcd n d : Int) = d := Int.ediv_mul_cancel (Int.gcd_dvd_right _ _)
theorem div_cancel {a b c : Rat} (hb : b ≠ 0) (hc : c ≠ 0) : (a * c) / (b * c) = a / b := by grind
theorem red_val {n d : Int} (hd : d ≠ 0) : val (red n d) = (n : Rat) / (d : Rat) := by
  have g0 : (Int.gcd n d : Int) ≠ 0 := by have := gcd_pos (n := n) hd; omega
  have e1 := red_mul1 n d
  have e2 := red_mul2 n d
  have h2 : (red n d).2 ≠ 0 := fun e => by rw [e, Int.zero_mul] at e2; exact hd e2.symm
  have c1 : ((red n d).1 : Rat) * ((Int.gcd n d : Int) : Rat) = (n : Rat) := by rw [← Rat.intCast_mul, e1]
  have c2 : ((red n d).2 : Rat) * ((Int.gcd n d : Int) : Rat) = (d : Rat) := by rw [← Rat.intCast_mul, e2]
  rw [← c1, ← c2, div_cancel (cast_ne h2) (cast_ne g0)]
  rfl
theorem cross {x y : Int × Int} (hx : x.2 ≠ 0) (hy : y.2 ≠ 0) : val x = val y ↔ x.1 * y.2 = y.1 * x.2 := by
  have a := cast_ne hx
  have b := cast_ne hy
  unfold val
  constructor
  · intro h
    refine Rat.intCast_inj.mp ?_
    rw [Rat.intCast_mul, Rat.intCast_mul]
    grind
  · intro h
    have h := Rat.intCast_inj.mpr h
    rw [Rat.intCast_mul, Rat.intCast_mul] at h
    grind
theorem dvd_cop {k m n : Int} (h : Int.gcd k m = 1) (d : k ∣ m * n) : k ∣ n := by
  have d' := Int.natAbs_dvd_natAbs.mpr d
  rw [Int.natAbs_mul] at d'
  exact Int.natAbs_dvd_natAbs.mp (Nat.Coprime.dvd_of_dvd_mul_left h d')
theorem val_inj {x y : Int × Int} (hx : IsF x) (hy : IsF y) (h : val x = val y) : x = y := by
  obtain ⟨x1, x2⟩ := x
  obtain ⟨y1, y2⟩ := y
  obtain ⟨px, gx⟩ := hx
  obtain ⟨py, gy⟩ := hy
  simp only at px gx py gy
  have h := (cross (x := (x1, x2)) (y := (y1, y2)) (by show x2 ≠ 0; omega) (by show y2 ≠ 0; omega)).mp h
  simp only at h
  have d1 : x2 ∣ x1 * y2 := ⟨y1, by rw [h, Int.mul_comm]⟩
  have d2 : y2 ∣ y1 * x2 := ⟨x1, by rw [← h, Int.mul_comm]⟩
  have e1 : x2 ∣ y2 := dvd_cop (by rw [Int.gcd_comm]; exact gx) d1
  have e2 : y2 ∣ x2 := dvd_cop (by rw [Int.gcd_comm]; exact gy) d2
  have e : x2 = y2 := Int.dvd_antisymm (by omega) (by omega) e1 e2
  subst e
  have e3 : x1 = y1 := Int.eq_of_mul_eq_mul_right (show x2 ≠ 0 by omega) h
  rw [e3]
theorem red_self {x : Int × Int} (hx : IsF x) : red x.1 x.2 = x := by
  unfold red
  rw [hx.2]
  simp
theorem red_eq {n d n' d' : Int} (hd : 0 < d) (hd' : 0 < d') : red n d = red n' d' ↔ n * d' = n' * d := by
  have c := cross (x := (n, d)) (y := (n', d')) (by show d ≠ 0; omega) (by show d' ≠ 0; omega)
  have v1 := red_val (n := n) (d := d) (by omega)
  have v2 := red_val (n := n') (d := d') (by omega)
  constructor
  · intro h
    refine c.mp ?_
    show (n : Rat) / (d : Rat) = (n' : Rat) / (d' : Rat)
    rw [← v1, ← v2, h]
  · intro h
    refine val_inj (red_isF hd) (red_isF hd') ?_
    rw [v1, v2]
    exact c.mpr h
def add (x y : Int × Int) : Int × Int := red (x.1 * y.2 + y.1 * x.2) (x.2 * y.2)
def sub (x y : Int × Int) : Int × Int := red (x.1 * y.2 - y.1 * x.2) (x.2 * y.2)
def mul (x y : Int × Int) : Int × Int := red (x.1 * y.1) (x.2 * y.2)
def cmp (x y : Int × Int) : Int := if x.1 * y.2 < y.1 * x.2 then -1 else if y.1 * x.2 < x.1 * y.2 then 1 else 0
theorem add_isF {x y : Int × Int} (hx : IsF x) (hy : IsF y) : IsF (add x y) := red_isF (Int.mul_pos hx.1 hy.1)
theorem sub_isF {x y : Int × Int} (hx : IsF x) (hy : IsF y) : IsF (sub x y) := red_isF (Int.mul_pos hx.1 hy.1)
theorem mul_isF {x y : Int × Int} (hx : IsF x) (hy : IsF y) : IsF (mul x y) := red_isF (Int.mul_pos hx.1 hy.1)
theorem IsF.ne {x : Int × Int} (hx : IsF x) : (x.2 : Rat) ≠ 0 := cast_ne (by have := hx.1; omega)
theorem add_val {x y : Int × Int} (hx : IsF x) (hy : IsF y) : val (add x y) = val x + val y := by
  have a := hx.ne
  have b := hy.ne
  have p := Int.mul_pos hx.1 hy.1
  unfold add
  rw [red_val (by omega)]
  unfold val
  simp only [Rat.intCast_mul, Rat.intCast_add]
  grind
theorem sub_val {x y : Int × Int} (hx : IsF x) (hy : IsF y) : val (sub x y) = val x - val y := by
  have a := hx.ne
  have b := hy.ne
  have p := Int.mul_pos hx.1 hy.1
  unfold sub
  rw [red_val (by omega)]
  unfold val
  simp only [Rat.intCast_mul, Rat.intCast_sub]
  grind
theorem mul_val {x y : Int × Int} (hx : IsF x) (hy : IsF y) : val (mul x y) = val x * val y := by
  have a := hx.ne
  have b := hy.ne
  have p := Int.mul_pos hx.1 hy.1
  unfold mul
  rw [red_val (by omega)]
  unfold val
  simp only [Rat.intCast_mul]
  grind
theorem lt_iff {x y : Int × Int} (hx : 0 < x.2) (hy : 0 < y.2) : x.1 * y.2 < y.1 * x.2 ↔ val x < val y := by
  have a := cast_pos hx
  have b := cast_pos hy
  have a' : (x.2 : Rat) ≠ 0 := by grind
  have b' : (y.2 : Rat) ≠ 0 := by grind
  unfold val
  rw [Rat.lt_div_iff b]
  have e : (x.1 : Rat) / (x.2 : Rat) * (y.2 : Rat) = ((x.1 * y.2 : Int) : Rat) / (x.2 : Rat) := by
    rw [Rat.intCast_mul]
    grind
  rw [e, Rat.div_lt_iff a, ← Rat.intCast_mul, Rat.intCast_lt_intCast]
def sgn (r : Rat) : Int := if r < 0 then -1 else if 0 < r then 1 else 0
theorem sgn_neg {r : Rat} (h : r < 0) : sgn r = -1 := if_pos h
theorem sgn_pos {r : Rat} (h : 0 < r) : sgn r = 1 := by
  unfold sgn
  rw [if_neg (by grind), if_pos h]
theorem sgn_zero : sgn 0 = 0 := by decide
theorem cmp_val {x y : Int × Int} (hx : IsF x) (hy : IsF y) : cmp x y = sgn (val x - val y) := by
  have l1 := lt_iff hx.1 hy.1
  have l2 := lt_iff hy.1 hx.1
  unfold cmp
  by_cases h1 : x.1 * y.2 < y.1 * x.2
  · have h := l1.mp h1
    rw [if_pos h1, sgn_neg (by grind)]
  · rw [if_neg h1]
    have n1 : ¬ val x < val y := fun h => h1 (l1.mpr h)
    by_cases h2 : y.1 * x.2 < x.1 * y.2
    · have h := l2.mp h2
      rw [if_pos h2, sgn_pos (by grind)]
    · have n2 : ¬ val y < val x := fun h => h2 (l2.mpr h)
      rw [if_neg h2]
      have e : val x - val y = 0 := by grind
      rw [e, sgn_zero]
/-! sizes -/
def Sz (b : Nat) (x : Int × Int) : Prop := x.1.natAbs < 2 ^ b ∧ x.2.natAbs < 2 ^ b
theorem Sz.mono {b c : Nat} {x : Int × Int} (h : Sz b x) (hc : b ≤ c) : Sz c x :=
  ⟨Nat.lt_of_lt_of_le h.1 (Nat.pow_le_pow_right (by decide) hc), Nat.lt_of_lt_of_le h.2 (Nat.pow_le_pow_right (by decide) hc)⟩
theorem red_sz {n d : Int} {b : Nat} (hn : n.natAbs < 2 ^ b) (hd : d.natAbs < 2 ^ b) : Sz b (red n d) := by
  refine ⟨Nat.lt_of_le_of_lt ?_ hn, Nat.lt_of_le_of_lt ?_ hd⟩
  · show (n / ((Int.gcd n d : Nat) : Int)).natAbs ≤ n.natAbs
    rw [Int.natAbs_ediv_of_dvd (Int.gcd_dvd_left _ _)]
    exact Nat.div_le_self _ _
  · show (d / ((Int.gcd n d : Nat) : Int)).natAbs ≤ d.natAbs
    rw [Int.natAbs_ediv_of_dvd (Int.gcd_dvd_right _ _)]
    exact Nat.div_le_self _ _
theorem mul_lt2 {i j : Int} {a b : Nat} (ha : i.natAbs < 2 ^ a) (hb : j.natAbs < 2 ^ b) : (i * j).natAbs < 2 ^ (a + b) := by
  rw [Int.natAbs_mul, Nat.pow_add]
  exact Nat.mul_lt_mul'' ha hb
theorem add_lt2 {i j : Int} {a : Nat} (ha : i.natAbs < 2 ^ a) (hb : j.natAbs < 2 ^ a) : (i + j).natAbs < 2 ^ (a + 1) := by
  rw [Nat.pow_succ]
  omega
theorem sub_lt2 {i j : Int} {a : Nat} (ha : i.natAbs < 2 ^ a) (hb : j.natAbs < 2 ^ a) : (i - j).natAbs < 2 ^ (a + 1) := by
  rw [Nat.pow_succ]
  omega
theorem lt_up {i : Int} {a b : Nat} (h : i.natAbs < 2 ^ a) (hb : a ≤ b) : i.natAbs < 2 ^ b := Nat.lt_of_lt_of_le h (Nat.pow_le_pow_right (by decide) hb)
theorem add_sz {x y : Int × Int} {a b : Nat} (hx : Sz a x) (hy : Sz b y) : Sz (a + b + 1) (add x y) :=
  red_sz (add_lt2 (mul_lt2 hx.1 hy.2) (lt_up (mul_lt2 hy.1 hx.2) (by omega))) (lt_up (mul_lt2 hx.2 hy.2) (by omega))
theorem sub_sz {x y : Int × Int} {a b : Nat} (hx : Sz a x) (hy : Sz b y) : Sz (a + b + 1) (sub x y) :=
  red_sz (sub_lt2 (mul_lt2 hx.1 hy.2) (lt_up (mul_lt2 hy.1 hx.2) (by omega))) (lt_up (mul_lt2 hx.2 hy.2) (by omega))
theorem mul_sz {x y : Int × Int} {a b : Nat} (hx : Sz a x) (hy : Sz b y) : Sz (a + b) (mul x y) :=
  red_sz (mul_lt2 hx.1 hy.1) (mul_lt2 hx.2 hy.2)
/-! Euclid's loop over ints -/
theorem gcd_step {a b : Int} (ha : 0 ≤ a) (hb : 0 ≤ b) : Int.gcd b (a % b) = Int.gcd a b := by
  obtain ⟨m, rfl⟩ := Int.eq_ofNat_of_zero_le ha
  obtain ⟨n, rfl⟩ := Int.eq_ofNat_of_zero_le hb
  rw [← Int.natCast_emod]
  show Nat.gcd n (m % n) = Nat.gcd m n
  rw [Nat.gcd_comm m n, Nat.gcd_comm n (m % n), ← Nat.gcd_rec]
theorem gcd_zero {a : Int} (ha : 0 ≤ a) : (Int.gcd a 0 : Int) = a := by
  rw [Int.gcd_zero_right]
  omega
/-! the order and sums of fractions by their values -/
theorem sgn_sub (r : Rat) : sgn (-r) = - sgn r := by
  unfold sgn
  by_cases h1 : r < 0
  · rw [if_pos h1, if_neg (by grind), if_pos (by grind)]
    rfl
  · rw [if_neg h1]
    by_cases h2 : 0 < r
    · rw [if_pos h2, if_pos (by grind)]
    · rw [if_neg h2, if_neg (by grind), if_neg (by grind)]
      rfl
theorem sgn_eq0 {r : Rat} : sgn r = 0 ↔ r = 0 := by
  unfold sgn
  by_cases h1 : r < 0
  · rw [if_pos h1]
    constructor
    · intro h; omega
    · intro h; grind
  · rw [if_neg h1]
    by_cases h2 : 0 < r
    · rw [if_pos h2]
      constructor
      · intro h; omega
      · intro h; grind
    · rw [if_neg h2]
      constructor
      · intro h; grind
      · intro h; rfl
theorem sgn_le {r : Rat} : sgn r ≤ 0 ↔ r ≤ 0 := by
  unfold sgn
  by_cases h1 : r < 0
  · rw [if_pos h1]
    constructor
    · intro h; grind
    · intro h; omega
  · rw [if_neg h1]
    by_cases h2 : 0 < r
    · rw [if_pos h2]
      constructor
      · intro h; omega
      · intro h; grind
    · rw [if_neg h2]
      constructor
      · intro h; grind
      · intro h; omega
theorem sgn_mul (r s : Rat) : sgn (r * s) = sgn r * sgn s := by
  have key : ∀ a b : Rat, 0 < a → 0 < b → 0 < a * b := fun a b ha hb => Rat.mul_pos ha hb
  by_cases r1 : r < 0
  · rw [sgn_neg r1]
    by_cases s1 : s < 0
    · rw [sgn_neg s1, sgn_pos (by have := key (-r) (-s) (by grind) (by grind); grind)]
      rfl
    · by_cases s2 : 0 < s
      · rw [sgn_pos s2, sgn_neg (by have := key (-r) s (by grind) s2; grind)]
        rfl
      · have e : s = 0 := by grind
        rw [e, Rat.mul_zero, sgn_zero]
        rfl
  · by_cases r2 : 0 < r
    · rw [sgn_pos r2]
      by_cases s1 : s < 0
      · rw [sgn_neg s1, sgn_neg (by have := key r (-s) r2 (by grind); grind)]
        rfl
      · by_cases s2 : 0 < s
        · rw [sgn_pos s2, sgn_pos (key r s r2 s2)]
          rfl
        · have e : s = 0 := by grind
          rw [e, Rat.mul_zero, sgn_zero]
          rfl
    · have e : r = 0 := by grind
      rw [e, Rat.zero_mul, sgn_zero]
      omega
/-! what the laws of fractions ask -/
theorem m_comm {x y : Int × Int} (hx : IsF x) (hy : IsF y) : add y x = add x y := val_inj (add_isF hy hx) (add_isF hx hy) (by rw [add_val hy hx, add_val hx hy]; grind)
theorem m_back {x y : Int × Int} (hx : IsF x) (hy : IsF y) : sub (add x y) y = x := val_inj (sub_isF (add_isF hx hy) hy) hx (by rw [sub_val (add_isF hx hy) hy, add_val hx hy]; grind)
theorem m_assoc {x y z : Int × Int} (hx : IsF x) (hy : IsF y) (hz : IsF z) : add (add x y) z = add x (add y z) :=
  val_inj (add_isF (add_isF hx hy) hz) (add_isF hx (add_isF hy hz)) (by rw [add_val (add_isF hx hy) hz, add_val hx hy, add_val hx (add_isF hy hz), add_val hy hz]; grind)
theorem p_comm {x y : Int × Int} (hx : IsF x) (hy : IsF y) : mul y x = mul x y := val_inj (mul_isF hy hx) (mul_isF hx hy) (by rw [mul_val hy hx, mul_val hx hy]; grind)
theorem p_assoc {x y z : Int × Int} (hx : IsF x) (hy : IsF y) (hz : IsF z) : mul (mul x y) z = mul x (mul y z) :=
  val_inj (mul_isF (mul_isF hx hy) hz) (mul_isF hx (mul_isF hy hz)) (by rw [mul_val (mul_isF hx hy) hz, mul_val hx hy, mul_val hx (mul_isF hy hz), mul_val hy hz]; grind)
theorem p_dist {x y z : Int × Int} (hx : IsF x) (hy : IsF y) (hz : IsF z) : mul (add x y) z = add (mul x z) (mul y z) :=
  val_inj (mul_isF (add_isF hx hy) hz) (add_isF (mul_isF hx hz) (mul_isF hy hz)) (by rw [mul_val (add_isF hx hy) hz, add_val hx hy, add_val (mul_isF hx hz) (mul_isF hy hz), mul_val hx hz, mul_val hy hz]; grind)
theorem c_opp {x y : Int × Int} (hx : IsF x) (hy : IsF y) : cmp y x = 0 - cmp x y := by
  rw [cmp_val hy hx, cmp_val hx hy, show val y - val x = -(val x - val y) by grind, sgn_sub]
  omega
theorem c_zero {x y : Int × Int} (hx : IsF x) (hy : IsF y) : cmp x y = 0 ↔ x = y := by
  rw [cmp_val hx hy, sgn_eq0]
  constructor
  · intro h
    exact val_inj hx hy (by grind)
  · intro h
    rw [h]
    grind
theorem c_add {x y z : Int × Int} (hx : IsF x) (hy : IsF y) (hz : IsF z) : cmp (add x z) (add y z) = cmp x y := by
  rw [cmp_val (add_isF hx hz) (add_isF hy hz), cmp_val hx hy, add_val hx hz, add_val hy hz, show val x + val z - (val y + val z) = val x - val y by grind]
theorem zero_isF : IsF (0, 1) := ⟨by decide, by decide⟩
theorem zero_val : val (0, 1) = 0 := by
  unfold val
  show ((0 : Int) : Rat) / ((1 : Int) : Rat) = 0
  grind
theorem c_mul {x y z : Int × Int} (hx : IsF x) (hy : IsF y) (hz : IsF z) : cmp (mul x z) (mul y z) = cmp x y * cmp z (0, 1) := by
  rw [cmp_val (mul_isF hx hz) (mul_isF hy hz), cmp_val hx hy, cmp_val hz zero_isF, mul_val hx hz, mul_val hy hz, zero_val, ← sgn_mul, show (val x - val y) * (val z - 0) = val x * val z - val y * val z by grind]
theorem c_trans {x y z : Int × Int} (hx : IsF x) (hy : IsF y) (hz : IsF z) (h1 : cmp x y ≤ 0) (h2 : cmp y z ≤ 0) : cmp x z ≤ 0 := by
  rw [cmp_val hx hy, sgn_le] at h1
  rw [cmp_val hy hz, sgn_le] at h2
  rw [cmp_val hx hz, sgn_le]
  grind
theorem c_bound (x y : Int × Int) : -1 ≤ cmp x y ∧ cmp x y ≤ 1 := by
  unfold cmp
  split
  · omega
  · split <;> omega
/-! any denominator but 0 -/
def mk (n d : Int) : Int × Int := if d < 0 then red (-n) (-d) else red n d
theorem mk_isF {n d : Int} (h : d ≠ 0) : IsF (mk n d) := by
  unfold mk
  split
  · exact red_isF (by omega)
  · exact red_isF (by omega)
theorem mk_val {n d : Int} (h : d ≠ 0) : val (mk n d) = (n : Rat) / (d : Rat) := by
  have hd := cast_ne h
  unfold mk
  split
  · rw [red_val (by omega), Rat.intCast_neg, Rat.intCast_neg]
    grind
  · exact red_val h
theorem mk_cross {n d : Int} (h : d ≠ 0) : (mk n d).1 * d = n * (mk n d).2 :=
  (cross (x := mk n d) (y := (n, d)) (by have := (mk_isF (n := n) h).1; omega) h).mp (mk_val h)
theorem mk_many {n d m : Int} (h : d ≠ 0) (hm : m ≠ 0) : mk (n * m) (d * m) = mk n d := by
  have h2 : d * m ≠ 0 := Int.mul_ne_zero h hm
  have a := cast_ne h
  have b := cast_ne hm
  refine val_inj (mk_isF h2) (mk_isF h) ?_
  rw [mk_val h2, mk_val h, Rat.intCast_mul, Rat.intCast_mul, div_cancel a b]
theorem mk_neg {n d : Int} (h : d ≠ 0) : mk (0 - n) (0 - d) = mk n d := by
  have := mk_many (n := n) (m := -1) h (by decide)
  rw [show 0 - n = n * -1 by omega, show 0 - d = d * -1 by omega]
  exact this
theorem mk_sz {n d : Int} {b : Nat} (hn : n.natAbs < 2 ^ b) (hd : d.natAbs < 2 ^ b) : Sz b (mk n d) := by
  unfold mk
  split
  · exact red_sz (by omega) (by omega)
  · exact red_sz hn hd
/-- the floor division by the divisor with its sign -/
theorem mk_fdiv {n d : Int} (h : d ≠ 0) : mk n d = (n.fdiv (if d < 0 then -(Int.gcd n d : Int) else (Int.gcd n d : Int)), d.fdiv (if d < 0 then -(Int.gcd n d : Int) else (Int.gcd n d : Int))) := by
  have g := gcd_pos (n := n) h
  unfold mk red
  split
  · rename_i hd
    rw [Int.neg_gcd, Int.gcd_neg]
    have key : ∀ i : Int, i.fdiv (-(Int.gcd n d : Int)) = -i / (Int.gcd n d : Int) := fun i => by
      rw [← Int.neg_neg i, Int.neg_fdiv_neg, Int.neg_neg, Int.fdiv_eq_ediv_of_nonneg _ (by omega)]
    rw [key, key]
  · rw [Int.fdiv_eq_ediv_of_nonneg _ (by omega), Int.fdiv_eq_ediv_of_nonneg _ (by omega)]
end Fr

namespace PM
open PySem PySem.Spec PyProof.Rows L2
/-! ### heaps -/
theorem same_upd {Hh : Hp} {new : Addr} {ob : HO} (hnew : Hh new = none) : Same Hh (upd Hh new ob) := fun b x hx => by
  rw [upd_ne (ne_of_none hx hnew)]
  exact hx
/-- what stood stands, but at a and r -/
def Keep (a r : Addr) (H H' : Hp) : Prop := ∀ b o, b ≠ a → b ≠ r → H b = some o → H' b = some o
theorem Keep.refl (a r : Addr) (H : Hp) : Keep a r H H := fun _ _ _ _ h => h
theorem Keep.trans {a r : Addr} {H H1 H2 : Hp} (x : Keep a r H H1) (y : Keep a r H1 H2) : Keep a r H H2 := fun b o h1 h2 h => y b o h1 h2 (x b o h1 h2 h)
theorem Keep.same {a r : Addr} {H H' : Hp} (h : Same H H') : Keep a r H H' := fun b o _ _ e => h b o e
theorem seqT {K : PySem.W.Frag} {H H' : Hp} {a : Addr} {xs : List V} (e : Same H H') (h : H a = some (.tup xs)) : SqT K H' a xs := .inl (.inl (e _ _ h))
/-! ### the drawn numbers: a the list, c its cells, r its rests; at most n turns so far -/
structure Drw (H : Hp) (a c r : Addr) (n : Nat) : Prop where
  ex : ∃ (cells rests : List Int) (t : Int), H a = some (.lst [.ref c, .int t, .ref r]) ∧ H c = some (.lst (cells.map V.int)) ∧ H r = some (.lst (rests.map V.int)) ∧
    rests.length = cells.length ∧ 0 < cells.length ∧ cells.length ≤ 64 ∧ 0 ≤ t ∧ t ≤ n
  ac : a ≠ c
  ar : a ≠ r
  cr : c ≠ r
theorem Drw.same {H H' : Hp} {a c r : Addr} {n : Nat} (h : Drw H a c r n) (s : Same H H') : Drw H' a c r n := by
  obtain ⟨⟨cells, rests, t, h1, h2, h3, q⟩, x, y, z⟩ := h
  exact ⟨⟨cells, rests, t, s _ _ h1, s _ _ h2, s _ _ h3, q⟩, x, y, z⟩
theorem Drw.new {H : Hp} {a c r p : Addr} {n : Nat} {o : HO} (h : Drw H a c r n) (e : H p = none) : Drw (L2.upd H p o) a c r n := h.same (same_upd e)
theorem Drw.ne_tup {H : Hp} {a c r p : Addr} {n : Nat} {xs : List V} (h : Drw H a c r n) (e : H p = some (.tup xs)) : p ≠ a ∧ p ≠ r := by
  obtain ⟨⟨cells, rests, t, h1, h2, h3, _⟩, _⟩ := h
  exact ⟨fun z => (by rw [z, h1] at e; cases e), fun z => (by rw [z, h3] at e; cases e)⟩
theorem Drw.ne_new {H : Hp} {a c r p : Addr} {n : Nat} (h : Drw H a c r n) (e : H p = none) : p ≠ a ∧ p ≠ c ∧ p ≠ r := by
  obtain ⟨⟨cells, rests, t, h1, h2, h3, _⟩, _⟩ := h
  exact ⟨fun z => (by rw [z, h1] at e; cases e), fun z => (by rw [z, h2] at e; cases e), fun z => (by rw [z, h3] at e; cases e)⟩
theorem Keep.tup {H H' : Hp} {a c r p : Addr} {n : Nat} {xs : List V} (k : Keep a r H H') (d : Drw H a c r n) (e : H p = some (.tup xs)) : H' p = some (.tup xs) :=
  k _ _ (d.ne_tup e).1 (d.ne_tup e).2 e
/-! ### defs -/
structure Def1 (K : PySem.W.Frag) (mg : Str → Option Value) (x : Str) (st : Stmt) (ps : List Str) (f : Addr) (fd : FuncData) : Prop where
  F : Fun K x x st f fd
  b : Binds K fd ps []
  g : mg x = some (.ref f)
def IsDef (K : PySem.W.Frag) (mg : Str → Option Value) (x : Str) (st : Stmt) (ps : List Str) : Prop := ∃ f fd, Def1 K mg x st ps f fd
def Ok (P : Program) (w : World) (K : PySem.W.Frag) (mg : Str → Option Value) (base : Heap) (k : Nat) (x : Str) (st : Stmt) (ps : List Str) (sp : Sp) : Prop :=
  ∃ f fd, Def1 K mg x st ps f fd ∧ FnOk P w K mg base CX0 k f fd ps sp
section
variable {X : Cx}
theorem op_fdivZ : OpR X (binaryOp .FloorDiv) (rI (fun _ j => j ≠ 0 ∧ j.natAbs.log2 < 9000) fun i j => .int (i.fdiv j)) :=
  opI fun i j _ _ _ _ _ hc q => floordiv_int hc.1 q (.inl (PyProof.noPylong_of_log2 hc.2))
end
theorem place_ok {len at_ : Nat} (h : at_ < len) : ixN len (at_ : Int) = some at_ := by
  unfold ixN
  rw [if_pos (by omega), if_pos (by omega), Int.toNat_natCast]
theorem toks {n : Nat} (h : n ≤ 1000) : n ≤ sizeLine := Nat.le_of_lt (small1000 h)
theorem cut63 {xs : List V} (h : xs.length ≤ 63) : cutV xs none (some 63) = xs := by
  unfold cutV
  rw [show HT.sIx xs.length xs.length (some 63) = min 63 xs.length from HT.sIx_nat xs.length xs.length 63, HT.sIx_none, Nat.min_eq_right h]
  show List.take (xs.length - 0) (List.drop 0 xs) = xs
  rw [Nat.sub_zero, List.drop_zero, List.take_length]
/-- a fraction that stands at p -/
def FrAt (H : Hp) (p : Addr) (x : Int × Int) : Prop := H p = some (.tup [.int x.1, .int x.2])
theorem FrAt.same {H H' : Hp} {p : Addr} {x : Int × Int} (h : FrAt H p x) (s : Same H H') : FrAt H' p x := s _ _ h
theorem FrAt.keep {H H' : Hp} {a c r p : Addr} {n : Nat} {x : Int × Int} (h : FrAt H p x) (d : Drw H a c r n) (k : Keep a r H H') : FrAt H' p x := k.tup d h
/-- a fraction as data -/
abbrev fd (x : Int × Int) : PyData := .tuple [.int x.1, .int x.2]
theorem frD {K : PySem.W.Frag} {H : Hp} {p : Addr} {x : Int × Int} (h : FrAt H p x) : Dp K H (.ref p) (fd x) := .tup (.inl (.inl h)) (.cons (.int _) (.cons (.int _) .nil))
theorem eqv_fd (x y : Int × Int) : PyData.eqv (fd x) (fd y) = decide (x = y) := by
  have e : PyData.eqv (fd x) (fd y) = ((x.1 == y.1) && ((x.2 == y.2) && true)) := by
    simp only [PyData.eqv, PyData.eqvAll]
  rw [e]
  by_cases h : x = y
  · subst h
    simp
  · rw [decide_eq_false h]
    have : ¬ (x.1 = y.1 ∧ x.2 = y.2) := fun z => h (Prod.ext z.1 z.2)
    by_cases h1 : x.1 = y.1
    · have h2 : x.2 ≠ y.2 := fun z => this ⟨h1, z⟩
      simp [h2]
    · simp [h1]
theorem eqT {x y : Int × Int} (h : x = y) : PyData.eqv (fd x) (fd y) = true := by rw [eqv_fd, decide_eq_true h]
theorem neF {x y : Int × Int} {A B : Prop} (h : x = y) (k : B) : if (!PyData.eqv (fd x) (fd y)) = true then A else B := by
  rw [eqT h]
  exact k
theorem neI {i j : Int} {A B : Prop} (h : i = j) (k : B) : if (!decide (V.int i = V.int j)) = true then A else B := by
  rw [h, decide_eq_true rfl]
  exact k
theorem Drw.mono {H : Hp} {a c r : Addr} {n m : Nat} (h : Drw H a c r n) (e : n ≤ m) : Drw H a c r m := by
  obtain ⟨⟨cells, rests, t, h1, h2, h3, e1, e2, e3, e4, e5⟩, x, y, z⟩ := h
  exact ⟨⟨cells, rests, t, h1, h2, h3, e1, e2, e3, e4, by omega⟩, x, y, z⟩
theorem Drw.off {H : Hp} {a c r p : Addr} {n : Nat} {o : HO} (h : Drw H a c r n) (e : p ≠ a ∧ p ≠ c ∧ p ≠ r) : Drw (L2.upd H p o) a c r n := by
  obtain ⟨⟨cells, rests, t, h1, h2, h3, q⟩, x, y, z⟩ := h
  refine ⟨⟨cells, rests, t, ?_, ?_, ?_, q⟩, x, y, z⟩
  · rw [L2.upd_ne (Ne.symm e.1)]
    exact h1
  · rw [L2.upd_ne (Ne.symm e.2.1)]
    exact h2
  · rw [L2.upd_ne (Ne.symm e.2.2)]
    exact h3
theorem FrAt.upd_lst {H : Hp} {p D : Addr} {x : Int × Int} {xs ys : List V} (h : FrAt H p x) (e : H D = some (.lst xs)) : FrAt (upd H D (.lst ys)) p x := by
  show (upd H D (.lst ys)) p = _
  rw [L2.upd_ne (show p ≠ D from fun z => by rw [z] at h; rw [show H D = _ from h] at e; cases e)]
  exact h
end PM

namespace PM
open PySem PySem.Spec PyProof.Rows L2 RZ
/-! ### data that stands in the heap -/
mutual
inductive Da (H : Hp) : V → PyData → Prop
  | non : Da H .non .none
  | bl (b : Bool) : Da H (.bl b) (.bool b)
  | int (i : Int) : Da H (.int i) (.int i)
  | str (x : Str) : Da H (.str x) (.str x)
  | lst {a : Addr} {xs : List V} {ds : List PyData} : H a = some (.lst xs) → DaL H xs ds → Da H (.ref a) (.list ds)
  | tup {a : Addr} {xs : List V} {ds : List PyData} : H a = some (.tup xs) → DaL H xs ds → Da H (.ref a) (.tuple ds)
  | dic {a : Addr} : H a = some (.dK []) → Da H (.ref a) (.dict [])
inductive DaL (H : Hp) : List V → List PyData → Prop
  | nil : DaL H [] []
  | cons {v : V} {vs : List V} {d : PyData} {ds : List PyData} : Da H v d → DaL H vs ds → DaL H (v :: vs) (d :: ds)
end
mutual
theorem Da.same {H H' : Hp} (s : Same H H') : ∀ {v : V} {d : PyData}, Da H v d → Da H' v d
  | _, _, .non => .non
  | _, _, .bl b => .bl b
  | _, _, .int i => .int i
  | _, _, .str x => .str x
  | _, _, .lst e h => .lst (s _ _ e) (DaL.same s h)
  | _, _, .tup e h => .tup (s _ _ e) (DaL.same s h)
  | _, _, .dic e => .dic (s _ _ e)
theorem DaL.same {H H' : Hp} (s : Same H H') : ∀ {vs : List V} {ds : List PyData}, DaL H vs ds → DaL H' vs ds
  | _, _, .nil => .nil
  | _, _, .cons h t => .cons (Da.same s h) (DaL.same s t)
end
mutual
theorem Da.dp {K : PySem.W.Frag} {H : Hp} : ∀ {v : V} {d : PyData}, Da H v d → d.hasDict = false → Dp K H v d
  | _, _, .non, _ => .non
  | _, _, .bl b, _ => .bl b
  | _, _, .int i, _ => .int i
  | _, _, .str x, _ => .str x
  | _, _, .lst e h, z => .lst (.inl (.inl e)) (DaL.dp h (by unfold PyData.hasDict at z; exact z))
  | _, _, .tup e h, z => .tup (.inl (.inl e)) (DaL.dp h (by unfold PyData.hasDict at z; exact z))
  | _, _, .dic e, z => by
    unfold PyData.hasDict at z
    cases z
theorem DaL.dp {K : PySem.W.Frag} {H : Hp} : ∀ {vs : List V} {ds : List PyData}, DaL H vs ds → PyData.hasDictAll ds = false → DpAll K H vs ds
  | _, _, .nil, _ => .nil
  | _, _, .cons h t, z => by
    unfold PyData.hasDictAll at z
    have z := Bool.or_eq_false_iff.mp z
    exact .cons (Da.dp h z.1) (DaL.dp t z.2)
end
theorem DaL.length {H : Hp} : ∀ {vs : List V} {ds : List PyData}, DaL H vs ds → vs.length = ds.length
  | _, _, .nil => rfl
  | _, _, .cons _ t => by
    rw [List.length_cons, List.length_cons, DaL.length t]
theorem DaL.get {H : Hp} : ∀ {vs : List V} {ds : List PyData} (i : Nat) {v : V}, DaL H vs ds → vs[i]? = some v → ∃ d, ds[i]? = some d ∧ Da H v d
  | _, _, i, _, .nil, e => by simp at e
  | _, _, 0, _, .cons h t, e => by
    have e := Option.some.inj e
    subst e
    exact ⟨_, rfl, h⟩
  | _, _, i + 1, _, .cons h t, e => DaL.get i t e
/-- equal as values of the same kinds: None, bools, ints, texts, tuples of these -/
def plainD : PyData → Bool
  | .none | .bool _ | .int _ => true
  | .str x => PyData.strOk x
  | .tuple ds => decide (ds.length ≤ 1000) && plainL ds
  | _ => false
where plainL : List PyData → Bool
  | [] => true
  | d :: ds => plainD d && plainL ds
def deq : PyData → PyData → Bool
  | .none, .none => true
  | .bool a, .bool b => a == b
  | .int i, .int j => i == j
  | .str x, .str y => x == y
  | .tuple xs, .tuple ys => deqL xs ys
  | _, _ => false
where deqL : List PyData → List PyData → Bool
  | [], [] => true
  | x :: xs, y :: ys => deq x y && deqL xs ys
  | _, _ => false
def dep : PyData → Nat
  | .tuple ds => depL ds + 1
  | .list ds => depL ds + 1
  | _ => 0
where depL : List PyData → Nat
  | [] => 0
  | d :: ds => max (dep d) (depL ds)
theorem plain_get : ∀ {ds : List PyData} {i : Nat} {d : PyData}, plainD.plainL ds = true → ds[i]? = some d → plainD d = true
  | [], i, d, _, e => by simp at e
  | x :: xs, 0, d, h, e => by
    have e := Option.some.inj e
    subst e
    unfold plainD.plainL at h
    exact (Bool.and_eq_true_iff.mp h).1
  | x :: xs, i + 1, d, h, e => by
    unfold plainD.plainL at h
    exact plain_get (Bool.and_eq_true_iff.mp h).2 e
theorem plain_tup {ds : List PyData} (h : plainD (.tuple ds) = true) : ds.length ≤ 1000 ∧ plainD.plainL ds = true := by
  unfold plainD at h
  have h := Bool.and_eq_true_iff.mp h
  exact ⟨of_decide_eq_true h.1, h.2⟩
theorem dep_get : ∀ {ds : List PyData} {i : Nat} {d : PyData}, ds[i]? = some d → dep d ≤ dep.depL ds
  | [], i, d, e => by simp at e
  | x :: xs, 0, d, e => by
    have e := Option.some.inj e
    subst e
    unfold dep.depL
    exact Nat.le_max_left _ _
  | x :: xs, i + 1, d, e => by
    unfold dep.depL
    exact Nat.le_trans (dep_get (i := i) e) (Nat.le_max_right _ _)
theorem deqL_len : ∀ {xs ys : List PyData}, xs.length ≠ ys.length → deq.deqL xs ys = false
  | [], [], h => absurd rfl h
  | [], _ :: _, _ => rfl
  | _ :: _, [], _ => rfl
  | x :: xs, y :: ys, h => by
    unfold deq.deqL
    rw [deqL_len (xs := xs) (ys := ys) (fun e => h (by rw [List.length_cons, List.length_cons, e])), Bool.and_false]
theorem deqL_all : ∀ {xs ys : List PyData}, xs.length = ys.length → deq.deqL xs ys = (((List.zip xs ys).map fun p => deq p.1 p.2).all id)
  | [], [], _ => rfl
  | [], _ :: _, h => by simp at h
  | _ :: _, [], h => by simp at h
  | x :: xs, y :: ys, h => by
    have ih := deqL_all (xs := xs) (ys := ys) (by simpa using h)
    unfold deq.deqL
    rw [ih]
    rfl
/-- a kind's name -/
def tn : PyData → String
  | .none => "NoneType"
  | .bool _ => "bool"
  | .int _ => "int"
  | .str _ => "str"
  | .list _ => "list"
  | .tuple _ => "tuple"
  | .dict _ => "dict"
theorem Da.ty {K : PySem.W.Frag} {H : Hp} : ∀ {v : V} {d : PyData}, Da H v d → TyX K H v (.type (tn d))
  | _, _, .non => .base .non
  | _, _, .bl b => .base (.bl b)
  | _, _, .int i => .base (.int i)
  | _, _, .str x => .base (.str x)
  | _, _, .lst e h => .base (.lst e)
  | _, _, .tup e h => .base (.tup e)
  | _, _, .dic e => .base (.dK e)
def isT : PyData → Bool | .tuple _ => true | _ => false
def isB : PyData → Bool | .bool _ => true | _ => false
def isI : PyData → Bool | .bool _ => true | .int _ => true | _ => false
def isS : PyData → Bool | .str _ => true | _ => false
def isL : PyData → Bool | .list _ => true | _ => false
theorem kitT {K : PySem.W.Frag} {H : Hp} {v : V} {d : PyData} (h : Da H v d) : PySem.W.kitOne K (.type (tn d)) (.type "tuple") = some (isT d) := by
  cases h <;> first | exact kit_ty (show kitB "NoneType" "tuple" = some false by decide +kernel) | exact kit_ty (show kitB "bool" "tuple" = some false by decide +kernel) | exact kit_ty (show kitB "int" "tuple" = some false by decide +kernel) | exact kit_ty (show kitB "str" "tuple" = some false by decide +kernel) | exact kit_ty (show kitB "list" "tuple" = some false by decide +kernel) | exact kit_ty (show kitB "tuple" "tuple" = some true by decide +kernel) | exact kit_ty (show kitB "dict" "tuple" = some false by decide +kernel)
theorem kitBo {K : PySem.W.Frag} {H : Hp} {v : V} {d : PyData} (h : Da H v d) : PySem.W.kitOne K (.type (tn d)) (.type "bool") = some (isB d) := by
  cases h <;> first | exact kit_ty (show kitB "NoneType" "bool" = some false by decide +kernel) | exact kit_ty (show kitB "bool" "bool" = some true by decide +kernel) | exact kit_ty (show kitB "int" "bool" = some false by decide +kernel) | exact kit_ty (show kitB "str" "bool" = some false by decide +kernel) | exact kit_ty (show kitB "list" "bool" = some false by decide +kernel) | exact kit_ty (show kitB "tuple" "bool" = some false by decide +kernel) | exact kit_ty (show kitB "dict" "bool" = some false by decide +kernel)
theorem kitI {K : PySem.W.Frag} {H : Hp} {v : V} {d : PyData} (h : Da H v d) : PySem.W.kitOne K (.type (tn d)) (.type "int") = some (isI d) := by
  cases h <;> first | exact kit_ty (show kitB "NoneType" "int" = some false by decide +kernel) | exact kit_ty (show kitB "bool" "int" = some true by decide +kernel) | exact kit_ty (show kitB "int" "int" = some true by decide +kernel) | exact kit_ty (show kitB "str" "int" = some false by decide +kernel) | exact kit_ty (show kitB "list" "int" = some false by decide +kernel) | exact kit_ty (show kitB "tuple" "int" = some false by decide +kernel) | exact kit_ty (show kitB "dict" "int" = some false by decide +kernel)
theorem kitS {K : PySem.W.Frag} {H : Hp} {v : V} {d : PyData} (h : Da H v d) : PySem.W.kitOne K (.type (tn d)) (.type "str") = some (isS d) := by
  cases h <;> first | exact kit_ty (show kitB "NoneType" "str" = some false by decide +kernel) | exact kit_ty (show kitB "bool" "str" = some false by decide +kernel) | exact kit_ty (show kitB "int" "str" = some false by decide +kernel) | exact kit_ty (show kitB "str" "str" = some true by decide +kernel) | exact kit_ty (show kitB "list" "str" = some false by decide +kernel) | exact kit_ty (show kitB "tuple" "str" = some false by decide +kernel) | exact kit_ty (show kitB "dict" "str" = some false by decide +kernel)
mutual
theorem plain_nd : ∀ {d : PyData}, plainD d = true → d.hasDict = false
  | .none, _ => rfl
  | .bool _, _ => rfl
  | .int _, _ => rfl
  | .str _, _ => rfl
  | .list _, h => by cases h
  | .tuple ds, h => by
    unfold PyData.hasDict
    exact plain_ndL (plain_tup h).2
  | .dict _, h => by cases h
theorem plain_ndL : ∀ {ds : List PyData}, plainD.plainL ds = true → PyData.hasDictAll ds = false
  | [], _ => rfl
  | d :: ds, h => by
    unfold plainD.plainL at h
    unfold PyData.hasDictAll
    rw [plain_nd (Bool.and_eq_true_iff.mp h).1, plain_ndL (Bool.and_eq_true_iff.mp h).2]
    rfl
end
theorem shaped_flat {d : PyData} (h : plainD d = true) (t : isT d = false) : SeqAt.shaped d = true := by
  cases d with
  | none => rfl
  | bool b => rfl
  | int i => rfl
  | str x =>
    unfold plainD at h
    unfold SeqAt.shaped PyData.canLay0
    rw [h]
    rfl
  | list ds => cases h
  | tuple ds => cases t
  | dict ds => cases h
theorem deq_bb {d d' : PyData} (h : isB d = true) (h' : isB d' = true) : PyData.eqv d d' = deq d d' := by
  cases d <;> cases h
  cases d' <;> cases h'
  simp only [PyData.eqv, deq]
theorem deq_nb {d d' : PyData} (h : isB d ≠ isB d') : deq d d' = false := by
  cases d <;> cases d' <;> first | rfl | exact absurd rfl h
theorem deq_nt {d d' : PyData} (h : isT d ≠ isT d') : deq d d' = false := by
  cases d <;> cases d' <;> first | rfl | exact absurd rfl h
theorem deq_ni {d d' : PyData} (h : isI d ≠ isI d') : deq d d' = false := by
  cases d <;> cases d' <;> first | rfl | exact absurd rfl h
theorem deq_ns {d d' : PyData} (h : isS d ≠ isS d') : deq d d' = false := by
  cases d <;> cases d' <;> first | rfl | exact absurd rfl h
theorem deq_rest {d d' : PyData} (p : plainD d = true) (p' : plainD d' = true) (b : isB d = false) (b' : isB d' = false) (t : isT d = false) (t' : isT d' = false) (i : isI d = isI d') (s : isS d = isS d') : PyData.eqv d d' = deq d d' := by
  cases d <;> cases d' <;> first | exact absurd p Bool.false_ne_true | exact absurd p' Bool.false_ne_true | exact absurd i Bool.false_ne_true | exact absurd s Bool.false_ne_true | (cases b; done) | (cases b'; done) | (cases t; done) | (cases t'; done) | (cases i; done) | (cases s; done) | simp only [PyData.eqv, deq]
theorem walk_zipT {K : PySem.W.Frag} {a b : Addr} {xs ys : List V} {n : Nat} (hx : n = xs.length) (hy : n = ys.length) : Walk (ItzT K a b) n (fun H => SqT K H a xs ∧ SqT K H b ys) (YPair (fun i => xs[i]?) (fun i => ys[i]?)) where
  goes := fun i H hi g => ⟨xs, ys, _, _, g.1, g.2, List.getElem?_eq_getElem (by omega), List.getElem?_eq_getElem (by omega)⟩
  stops := fun H g => ⟨xs, ys, g.1, g.2, .inl (by omega)⟩
  yields := fun i H x H' hi g y => by
    obtain ⟨T, x', y', e, hT, eH, f1, f2⟩ := y
    exact ⟨T, x', y', e, hT, eH, f1 xs g.1, f2 ys g.2⟩
/-- nothing is promised -/
theorem fn_none {P : Program} {w : World} {K : PySem.W.Frag} {mg : Str → Option Value} {base : Heap} {CX : CXT} {k : Nat} {f : Addr} {fd : FuncData} {ps : List Str} {sp : Sp} (h : ∀ vs H Q E, ¬ sp vs H Q E) : FnOk P w K mg base CX k f fd ps sp :=
  ⟨fun vs H Q E z => absurd z (h vs H Q E), fun A outer s H args us vs Q E _ _ _ _ z => absurd z (h vs H Q E)⟩
end PM

namespace PM
open PySem PySem.Spec PyProof.Rows L2 RZ
/-! ### a def entered from one given place (so that what stands around it is known) -/
section
variable {P : Program} {w : World} {K : PySem.W.Frag} {mg : Str → Option Value} {base : Heap}
theorem enter_at {kk : Nat} {fn : Addr} {nm ql : Str} {pa : Arguments} {bd : List Stmt} {sco : Scope} {v1 v2 v3 v4 cv v5 v6 : Value} {an od : Option Addr} {sl : Array (Option Value)} {N ps : List Str} {Ar : Around} {out : List Env} {sh : Shared} {H : Hp} {args : Args} {us : List Value} {vs : List V} {Q : VK}
    (look : K.lookup fn = some ⟨v6, od, .func (PySem.W.fnOf nm ql pa bd sco v1 v2 v3 v4 an cv v5), sl⟩) (code : PySem.W.codeIn K cv ql = true) (S : FnScope N ps sco) (len : vs.length = ps.length) (room : Room (kk + 1) Ar)
    (env0 : Env0 P w K mg base Ar out sh H) (bnd : BindsTo sh (PySem.W.fnOf nm ql pa bd sco v1 v2 v3 v4 an cv v5) args (ps.zip us)) (vals : Vals vs us)
    (walk : ∃ t, PSs (cxOf CX0 P w K mg base N ql sco fn cv Ar out sh H E0) bd t ∧ t { nx := fun _ H' => Q .non H', rt := Q } (start N vs) H) :
    codeAny (model P w) Ar (.call (.ref fn) args) (CR CX0 out P w H sh Q E0) sh := by
  obtain ⟨t, der, rd⟩ := walk
  have old := fun b o (z : base.get? b = some o) => (env0.bs b o z).1
  have inK : K.In sh.heap := env0.mod.kin.keeps old
  refine codeAny_call_function room.depth (inK _ _ look) rfl S.co S.gen rfl (PySem.W.codeRec_of inK code) (bnd _ _ _ _ ?_)
  refine wpAny_newFunctionEnv_cells S.kind (fun y mem => ?_) fun en same sh1 x => ?_
  · obtain ⟨name, val⟩ := y
    exact (S.par name (List.of_mem_zip mem).1).imp id fun c => ⟨c, PySem.W.cellsFrom_some _ _ _ (.inl c)⟩
  · cases same
    refine ⟨(env0.mod.nolimit.keeps old).keeps x.toInCall.keep, codeAny_func (wpAny_mono (der.run [] sh1 (start N vs) H _ (inv_start S room.hd env0 len vals x) rd) (fun flow sh2 z => ?_) fun _ _ z => z)⟩
    match flow, z with
    | .ret u, ⟨v, _, H2, J, rv, q⟩ => exact ⟨v, H2, J.os, J.bare, J.base, J.hok, rv, q⟩
    | .next, ⟨_, H2, J, q⟩ => exact ⟨V.non, H2, J.os, J.bare, J.base, J.hok, rfl, q⟩
    | .brk, ⟨_, _, _, q⟩ => exact q.elim
    | .cont, ⟨_, _, _, q⟩ => exact q.elim
/-- the tracked part that the law starts with: the script (locked), or nothing where it is one of the written objects -/
structure Lone (K : PySem.W.Frag) (H : Hp) (scr : Addr) : Prop where
  at_ : ∀ b, H b = none ∨ (b = scr ∧ K.lookup scr = none ∧ ∃ o xs, H b = some (.frz o (.lst xs)))
theorem lone_env {mb : Str → Option Value} {H : Hp} {scr : Addr} {sh : Shared} {vs : List Value} (L : Lone K H scr) (inK : K.In sh.heap) (glob : sh.heap.Ns mainGlobals mg) (blt : sh.heap.Ns builtinsNs mb) (boot : ∀ x : Str, x ≠ "__name__" → mb x = bootBuiltins x)
    (lim : sh.heap.NoLimit) (gens : sh.gens = #[]) (obj : sh.heap.get? scr = some { cls := .type "list", data := .seq vs.toArray }) (hok : HOk P w H sh.heap) :
    K.In (hidT sh.heap H) ∧ (hidT sh.heap H).Ns mainGlobals mg ∧ Env0 P w K mg (hidT sh.heap H) callerA [] sh H := by
  have names : ∀ {b : Addr} {m : Str → Option Value}, sh.heap.Ns b m → (hidT sh.heap H).Ns b m := by
    rintro b m ⟨o, es, ep, get, isD, rest⟩
    refine ⟨o, es, ep, hidT_get get ?_, isD, rest⟩
    rcases L.at_ b with z | ⟨rfl, _⟩
    · exact z
    · cases obj.symm.trans get
      cases (show Data.seq vs.toArray _ = Data.dict es ep from isD)
  have inB : K.In (hidT sh.heap H) := by
    intro b o z
    refine hidT_get (inK b o z) ?_
    rcases L.at_ b with y | ⟨rfl, non, _⟩
    · exact y
    · cases non.symm.trans z
  obtain ⟨mc, l1, l2⟩ := lim
  exact ⟨inB, names glob, ⟨rfl, ⟨inB, names glob, ⟨mb, names blt, boot⟩, ⟨mc, names l1, l2⟩⟩, fun b o z => of_hidT z, Nat.le_of_eq (hidT_size _ _), trivial, fun b z => (List.not_mem_nil (show b ∈ ([] : List Addr) from z)).elim, hok, .of_eq gens⟩⟩
theorem lone_law {H : Hp} {scr fn : Addr} {sh : Shared} (L : Lone K H scr) (hok : HOk P w H sh.heap)
    (run : codeAny (model P w) callerA (.call (.ref fn) ⟨[.ref scr], []⟩) (CR CX0 [] P w H sh (fun v _ => v = .bl true) E0) sh) :
    codeAny (model P w) callerA (.call (.ref fn) ⟨[.ref scr], []⟩) (fun r sh' => r = .ok (.ret (.bool true)) ∧ OldK sh.heap sh'.heap ∧ sh'.os = sh.os ∧ AllBare sh'.gens) sh := by
  refine codeAny_mono run fun r sh' z => ?_
  match r, z with
  | .error _, z => exact (show False from z).elim
  | .ok .next, z => exact (show False from z).elim
  | .ok .brk, z => exact (show False from z).elim
  | .ok .cont, z => exact (show False from z).elim
  | .ok (.ret u), ⟨v, H2, hos, bare, un, hok2, rv, (q : v = .bl true)⟩ =>
    subst q
    cases (show u = Value.bool true from rv)
    refine ⟨rfl, OldK.of_keep fun b o get => ?_, hos, bare⟩
    rcases L.at_ b with no | ⟨_, _, ob, xs, is⟩
    · exact un.keep b o get no (fun z => (List.not_mem_nil (show b ∈ ([] : List Addr) from z)).elim) (by simp)
    · obtain ⟨g1, _⟩ := hok b _ is
      obtain ⟨g2, _⟩ := hok2 b _ (un.frzs b ob _ is)
      cases get.symm.trans g1
      exact g2
theorem law_at {mb : Str → Option Value} {fn scr : Addr} {sh : Shared} {vs : List Value} {ns : List Int} (inK : K.In sh.heap) (glob : sh.heap.Ns mainGlobals mg) (blt : sh.heap.Ns builtinsNs mb) (boot : ∀ x : Str, x ≠ "__name__" → mb x = bootBuiltins x)
    (lim : sh.heap.NoLimit) (gens : sh.gens = #[]) (obj : sh.heap.get? scr = some { cls := .type "list", data := .seq vs.toArray }) (areI : IntsAre vs ns) (few : ns.length ≤ sizeLine)
    (run : ∀ (base : Heap) (H : Hp), K.In base → base.Ns mainGlobals mg → SqL K H scr (ns.map V.int) → Env0 P w K mg base callerA [] sh H →
      codeAny (model P w) callerA (.call (.ref fn) ⟨[.ref scr], []⟩) (CR CX0 [] P w H sh (fun v _ => v = .bl true) E0) sh) :
    codeAny (model P w) callerA (.call (.ref fn) ⟨[.ref scr], []⟩) (fun r sh' => r = .ok (.ret (.bool true)) ∧ OldK sh.heap sh'.heap ∧ sh'.os = sh.os ∧ AllBare sh'.gens) sh := by
  have rel : Vals (ns.map V.int) vs := vals_ints areI
  have go : ∀ H : Hp, Lone K H scr → HOk P w H sh.heap → SqL K H scr (ns.map V.int) → codeAny (model P w) callerA (.call (.ref fn) ⟨[.ref scr], []⟩) (fun r sh' => r = .ok (.ret (.bool true)) ∧ OldK sh.heap sh'.heap ∧ sh'.os = sh.os ∧ AllBare sh'.gens) sh :=
    fun H L hok seq => by
      obtain ⟨h1, h2, h3⟩ := lone_env L inK glob blt boot lim gens obj hok
      exact lone_law L hok (run _ H h1 h2 seq h3)
  cases written : K.lookup scr with
  | some o =>
    cases obj.symm.trans (inK scr o written)
    refine go (fun _ => none) ⟨fun _ => .inl rfl⟩ (fun b u z => nomatch (show (none : Option HO) = some u from z)) (.inr ⟨_, vs.toArray, _, written, rfl, rfl, rfl, ?_, rel⟩)
    rw [List.size_toArray, areI.length]
    exact few
  | none =>
    let H : Hp := fun b => if b = scr then some (.frz { cls := .type "list", data := .seq vs.toArray } (.lst (ns.map V.int))) else none
    have yes : H scr = some (.frz { cls := .type "list", data := .seq vs.toArray } (.lst (ns.map V.int))) := if_pos rfl
    have no : ∀ b, b ≠ scr → H b = none := fun b z => if_neg z
    refine go H ⟨fun b => ?_⟩ (fun b u z => ?_) (.inl (.inr ⟨_, yes⟩))
    · by_cases e : b = scr
      · exact .inr ⟨e, written, _, _, by rw [e]; exact yes⟩
      · exact .inl (no b e)
    · by_cases e : b = scr
      · subst e
        cases yes.symm.trans z
        exact ⟨obj, by rw [List.length_map]; exact few, vs, _, rel, obj⟩
      · cases (no b e).symm.trans z
end
/-- the end of a law whose body leans on what stands around it -/
theorem walk_at {l : PySem.W.OpenLaw} {n : Nat} {q : Program} {loose : List Str} {XP : (Str → Option Value) → Heap → Prop} {YP : World → Heap → Prop} {d : DefRec} {K : Params → PySem.W.Frag}
    (most : l.most = some n) (few : n ≤ sizeLine) (dfl : d.params.defaults = []) (inY : ∀ (w : World) (h : Heap), YP w h → (K w.params).In h)
    (F : ∀ (w : World) (mg : Str → Option Value) (fa : Addr) (h : Heap), (K w.params).In h → h.Ns mainGlobals mg → mg d.name = some (.ref fa) →
      ∀ (base : Heap) (H : Hp) (sh : Shared) (scr : Addr) (ns : List Int), ns.length ≤ n → (K w.params).In base → base.Ns mainGlobals mg → SqL (K w.params) H scr (ns.map V.int) → Env0 l.prog w (K w.params) mg base callerA [] sh H →
        codeAny (model l.prog w) callerA (.call (.ref fa) ⟨[.ref scr], []⟩) (CR CX0 [] l.prog w H sh (fun v _ => v = .bl true) E0) sh) :
    PySem.W.WalkO q loose XP YP l.row.toRowW d [] (fun f vs => PySem.call f vs) := by
  refine Att.attach_call most dfl fun w s0 s1 mg mb fa o pm cd doc a vs ns G Y ho hd hcd hmg hobj hints hlen hg => ?_
  have KX := inY w _ Y
  exact law_at KX G.T.g G.T.b G.T.builtins G.T.nolimit hg hobj hints (Nat.le_trans hlen few) fun base H inB glob seq e0 => F w mg fa _ KX G.T.g hmg base H s1 a ns hlen inB glob seq e0
end PM

namespace PM
open PySem PySem.Spec PyProof.Rows L2 RZ
/-- no dict inside of a list, and none but the empty one -/
def tame : PyData → Bool
  | .list ds => !PyData.hasDictAll ds
  | .tuple ds => tameL ds
  | .dict kvs => kvs.isEmpty
  | _ => true
where tameL : List PyData → Bool
  | [] => true
  | d :: ds => tame d && tameL ds
section
variable {X : Cx} {pins : List (Addr × Obj)} {σ : L2.St} {H : Hp} {s : Shared}
theorem dict_reads (I : L2.Inv X pins σ H s) {a : Addr} (e : H a = some (.dK [])) : ∃ as, Reads s.heap (.ref a) (.dict []) as ∧ sysModules ∉ as := by
  obtain ⟨_, sys, vs, kv, o, es, ep, get, ex, dat, _, prs, _⟩ := (show ObjOk X.prog X.w H s.heap a (.dK []) from I.hok a _ e)
  cases kv
  have none : es.toList = [] := by cases h : es.toList with
    | nil => rfl
    | cons x y => rw [h] at prs; cases prs
  refine ⟨a :: [] ++ [], Reads.dict (kvs := []) get ex.1 dat ?_ ?_, fun z => ?_⟩
  · rw [none]
    exact .nil
  · rw [none]
    exact .nil
  · have z : sysModules = a := by simpa using z
    rw [← z] at sys
    exact absurd sys (by simp)
mutual
theorem Da.showsK (I : L2.Inv X pins σ H s) : ∀ {v : V} {d : PyData} {u : Value}, Da H v d → RelV v u → tame d = true → d.showable = true → d.shown.length ≤ sizeLine →
    (∃ as, Reads s.heap u d as) ∧ ∃ bs, ReadAtMost s.heap d.depth bs ∧ ReprK X.prog X.w bs s.heap d.depth u d.shown
  | _, _, u, .non, r, _, sh, sz => by
    cases (show u = Value.none from r)
    exact ⟨⟨_, .none⟩, ReprK.of_reads .none sh (fun z => nomatch z) sz⟩
  | _, _, u, .bl b, r, _, sh, sz => by
    cases (show u = Value.bool b from r)
    exact ⟨⟨_, .bool b⟩, ReprK.of_reads (.bool b) sh (fun z => nomatch z) sz⟩
  | _, _, u, .int i, r, _, sh, sz => by
    obtain ⟨t, e⟩ := (show ∃ t, u = Value.int i t from r)
    cases e
    exact ⟨⟨_, .int i t⟩, ReprK.of_reads (.int i t) sh (fun z => nomatch z) sz⟩
  | _, _, u, .str x, r, _, sh, sz => by
    obtain ⟨t, e⟩ := (show ∃ t, u = Value.str x t from r)
    cases e
    exact ⟨⟨_, .str x t⟩, ReprK.of_reads (.str x t) sh (fun z => nomatch z) sz⟩
  | _, _, u, .lst (ds := ds) e h, r, tm, sh, sz => by
    have nd : (PyData.list ds).hasDict = false := by
      unfold PyData.hasDict
      unfold tame at tm
      simpa using tm
    obtain ⟨as, rd⟩ := Dp.reads I _ _ u ((Da.lst e h).dp nd) r
    exact ⟨⟨as, rd⟩, ReprK.of_reads rd sh (fun z => by rw [nd] at z; cases z) sz⟩
  | _, _, u, .dic (a := a) e, r, _, sh, sz => by
    cases (show u = Value.ref a from r)
    obtain ⟨as, rd, no⟩ := dict_reads I e
    exact ⟨⟨as, rd⟩, ReprK.of_reads rd sh (fun _ => no) sz⟩
  | _, _, u, .tup (a := a) (ds := ds) e h, r, tm, sh, sz => by
    cases (show u = Value.ref a from r)
    obtain ⟨its, rv, ⟨o, ho, hc, n, hd⟩, _⟩ := I.tuple (.inl (.inl e))
    have sz' : (tupleText (PyData.shownAll ds)).length ≤ sizeLine := sz
    obtain ⟨⟨as, rds⟩, bs, hb, hk⟩ := DaL.showsK I h rv (by unfold tame at tm; exact tm) (by unfold PyData.showable at sh; exact sh) (fun t ht => Nat.le_trans (tupleText_mem_le ht) sz')
    have rd : Reads s.heap (.ref a) (.tuple ds) as := .tuple ho hc hd rds
    have less : PyData.depthAll ds < (PyData.tuple ds).depth := by
      simp only [PyData.depth]
      omega
    have hna : a ∉ bs := not_mem_of_deeper rd less hb
    refine ⟨⟨as, rd⟩, a :: bs, ReadAtMost.cons rd (Nat.le_of_lt less) hb, ?_⟩
    simp only [PyData.depth, PyData.shown]
    exact ReprK.tuple ho hc hd hna hk
theorem DaL.showsK (I : L2.Inv X pins σ H s) : ∀ {vs : List V} {ds : List PyData} {us : List Value}, DaL H vs ds → Vals vs us → tame.tameL ds = true → PyData.showableAll ds = true → (∀ t ∈ PyData.shownAll ds, t.length ≤ sizeLine) →
    (∃ as, ReadsAll s.heap us ds as) ∧ ∃ bs, ReadAtMost s.heap (PyData.depthAll ds) bs ∧ ReprAllK X.prog X.w bs s.heap (PyData.depthAll ds) us (PyData.shownAll ds)
  | _, _, _, .nil, .nil, _, _, _ => ⟨⟨_, .nil⟩, [], (fun _ h => nomatch h), by simp only [PyData.shownAll]; exact .nil⟩
  | _, _, _, .cons (d := d) (ds := ds) h t, .cons r rs, tm, sh, sz => by
    unfold tame.tameL at tm
    unfold PyData.showableAll at sh
    have tm := Bool.and_eq_true_iff.mp tm
    have sh := Bool.and_eq_true_iff.mp sh
    simp only [PyData.shownAll] at sz
    obtain ⟨⟨a1, r1⟩, b1, hb1, k1⟩ := Da.showsK I h r tm.1 sh.1 (sz _ List.mem_cons_self)
    obtain ⟨⟨a2, r2⟩, b2, hb2, k2⟩ := DaL.showsK I t rs tm.2 sh.2 (fun t ht => sz t (List.mem_cons_of_mem _ ht))
    refine ⟨⟨_, .cons r1 r2⟩, b1 ++ b2, ?_, ?_⟩
    · simp only [PyData.depthAll]
      exact (hb1.mono (Nat.le_max_left _ _)).append (hb2.mono (Nat.le_max_right _ _))
    · simp only [PyData.depthAll, PyData.shownAll]
      exact .cons ((k1.more fun b hb => List.mem_append_left _ hb).level_le (Nat.le_max_left _ _)) (k2.more_le (fun b hb => List.mem_append_right _ hb) (Nat.le_max_right _ _))
end
end
/-- repr of data, where nothing is being shown around it -/
def rRepr : List V → Hp → VK → Prop := fun xs H Q => ∃ (v : V) (d : PyData), xs = [v] ∧ Da H v d ∧ d.showable = true ∧ tame d = true ∧ d.depth ≤ 60 ∧ d.shown.length ≤ sizeLine ∧ Q (.str d.shown) H
section
variable {X : Cx}
theorem call_repr (quiet : X.A.guards = some []) (hu : X.A.units + 64 < cLine) : CallR X (.builtin "repr") rRepr := by
  intro pins s σ H xs us Q I r h
  obtain ⟨v, d, rfl, hd, sh, tm, dp, sz, q⟩ := h
  cases r with
  | cons r0 rr =>
    cases rr
    rename_i u
    have all : ∀ (a : Addr) (as : List Addr), u = .ref a → Reads s.heap u d as → (d.hasDict = true → sysModules ∉ as) → wpAny (model X.prog X.w) X.A (call (.builtin "repr") [u]) (EP X pins σ Q) X.xe s := fun a as e rd no => by
      subst e
      exact repr_of_reads' rd sh no quiet (by omega) (fun _ _ z => z) (fun h' t tk k => ⟨.str d.shown, H, I.kept k, ⟨t, rfl⟩, q⟩) sz
    cases hd with
    | non =>
      cases (show u = Value.none from r0)
      exact PySem.P.repr_of_none ⟨.str _, H, I.tok _, ⟨_, rfl⟩, q⟩
    | bl b =>
      cases (show u = Value.bool b from r0)
      exact PySem.P.repr_of_bool ⟨.str _, H, I.tok _, ⟨_, rfl⟩, by cases b <;> exact q⟩
    | int i =>
      obtain ⟨t, e⟩ := (show ∃ t, u = Value.int i t from r0)
      cases e
      exact PySem.P.repr_of_int (of_decide_eq_true sh) ⟨.str _, H, I.tok _, ⟨_, rfl⟩, q⟩
    | str y =>
      obtain ⟨t, e⟩ := (show ∃ t, u = Value.str y t from r0)
      cases e
      exact PySem.P.repr_of_str ⟨.str _, H, I.tok _, ⟨_, rfl⟩, q⟩ sz
    | @lst a xs ds e h =>
      have nd : (PyData.list ds).hasDict = false := by
        unfold PyData.hasDict
        unfold tame at tm
        simpa using tm
      obtain ⟨as, rd⟩ := Dp.reads I _ _ u ((Da.lst e h).dp nd) r0
      exact all a as r0 rd (fun z => by rw [nd] at z; cases z)
    | @dic a e =>
      cases (show u = Value.ref a from r0)
      obtain ⟨as, rd, no⟩ := dict_reads I e
      exact all a as rfl rd fun _ => no
    | @tup a xs ds e h =>
      cases (show u = Value.ref a from r0)
      obtain ⟨its, rv, ⟨o, ho, hc, n, hdt⟩, _⟩ := I.tuple (.inl (.inl e))
      have sz' : (tupleText (PyData.shownAll ds)).length ≤ sizeLine := sz
      obtain ⟨⟨as, rds⟩, bs, hb, hk⟩ := DaL.showsK I h rv (by unfold tame at tm; exact tm) (by unfold PyData.showable at sh; exact sh) (fun t ht => Nat.le_trans (tupleText_mem_le ht) sz')
      have less : PyData.depthAll ds < (PyData.tuple ds).depth := by
        simp only [PyData.depth]
        omega
      have dp' : PyData.depthAll ds + 1 ≤ 60 := by
        simp only [PyData.depth] at dp
        omega
      have hna : a ∉ bs := not_mem_of_deeper (.tuple ho hc hdt rds) less hb
      refine call_repr_slot (by omega) ⟨o, ho, hc⟩ PySem.F.slot_tuple_repr (call_tuple_reprK (A := X.A.in1) ho hc hdt hna hk quiet (fun b _ => Clear.nil b) (by show X.A.units + 1 + (PyData.depthAll ds + 1) < cLine; omega) (fun _ _ z => z) (fun h' t tk k => ⟨_, _, rfl, ⟨.str _, H, I.kept k, ⟨t, rfl⟩, q⟩⟩) sz')
end
/-! ### what is shown, and how long it is -/
structure Shw (d : PyData) (n m : Nat) : Prop where
  sh : d.showable = true
  tm : tame d = true
  dp : d.depth ≤ m
  ln : d.shown.length ≤ n
structure ShwL (ds : List PyData) (n m : Nat) : Prop where
  sh : PyData.showableAll ds = true
  tm : tame.tameL ds = true
  dp : PyData.depthAll ds ≤ m
  ln : ((PyData.shownAll ds).map (·.length)).sum + 2 * ds.length ≤ n
theorem Shw.non : Shw .none 4 0 := ⟨rfl, rfl, by decide, by decide⟩
theorem Shw.bool (b : Bool) : Shw (.bool b) 5 0 := ⟨rfl, rfl, Nat.le_of_eq rfl, by cases b <;> decide⟩
theorem Shw.int {i : Int} {b : Nat} (h : i.natAbs < 2 ^ b) (h0 : 0 < b) (h9 : b ≤ 1920) : Shw (.int i) 1921 0 := by
  have l := Nat.lt_of_lt_of_le (PySem.Flt.log2_lt_of h0 h) h9
  exact ⟨decide_eq_true l, rfl, Nat.le_of_eq rfl, int_text_len_1921 l⟩
theorem Shw.str {x : Str} {n : Nat} (h : (reprText x).length ≤ n) : Shw (.str x) n 0 := ⟨rfl, rfl, Nat.le_of_eq rfl, h⟩
theorem Shw.dict : Shw (.dict []) 2 1 := ⟨rfl, rfl, by decide, by decide⟩
theorem ShwL.nil (m : Nat) : ShwL [] 0 m := ⟨rfl, rfl, Nat.zero_le _, Nat.le_refl _⟩
theorem ShwL.cons {d : PyData} {ds : List PyData} {n k m : Nat} (h : Shw d n m) (t : ShwL ds k m) : ShwL (d :: ds) (n + 2 + k) m := by
  refine ⟨?_, ?_, ?_, ?_⟩
  · unfold PyData.showableAll
    rw [h.sh, t.sh]
    rfl
  · unfold tame.tameL
    rw [h.tm, t.tm]
    rfl
  · unfold PyData.depthAll
    exact Nat.max_le.mpr ⟨h.dp, t.dp⟩
  · unfold PyData.shownAll
    rw [List.map_cons, List.sum_cons, List.length_cons]
    have := h.ln
    have := t.ln
    omega
theorem Shw.tup {ds : List PyData} {n m : Nat} (h : ShwL ds n m) : Shw (.tuple ds) (n + 3) (m + 1) := by
  refine ⟨h.sh, h.tm, ?_, ?_⟩
  · unfold PyData.depth
    have := h.dp
    omega
  · have a := tupleText_len_le (PyData.shownAll ds)
    have b := PyData.shownAll_length ds
    have c := h.ln
    unfold PyData.shown
    omega
theorem Shw.lst {ds : List PyData} {n m : Nat} (h : ShwL ds n m) (nd : PyData.hasDictAll ds = false) : Shw (.list ds) (n + 3) (m + 1) := by
  refine ⟨h.sh, ?_, ?_, ?_⟩
  · unfold tame
    rw [nd]
    rfl
  · unfold PyData.depth
    have := h.dp
    omega
  · have a := listText_len_le (PyData.shownAll ds)
    have b := PyData.shownAll_length ds
    have c := h.ln
    unfold PyData.shown
    omega
theorem Shw.mono {d : PyData} {n m n' m' : Nat} (h : Shw d n m) (a : n ≤ n') (b : m ≤ m') : Shw d n' m' := ⟨h.sh, h.tm, Nat.le_trans h.dp b, Nat.le_trans h.ln a⟩
theorem Shw.fit {d : PyData} {n m : Nat} (h : Shw d n m) (hn : n ≤ 1000000) : d.shown.length ≤ sizeLine := Nat.le_trans h.ln (Nat.le_trans hn (by rw [sizeLine_eq]; decide))
theorem Shw.deep {d : PyData} {n m : Nat} (h : Shw d n m) (hm : m ≤ 60) : d.depth ≤ 60 := Nat.le_trans h.dp hm
theorem Shw.fd {x : Int × Int} {b : Nat} (h : Fr.Sz b x) (h0 : 0 < b) (h9 : b ≤ 1920) : Shw (fd x) 3849 1 :=
  (Shw.tup (.cons (.int h.1 h0 h9) (.cons (.int h.2 h0 h9) (.nil 0)))).mono (by decide) (by decide)
theorem neS {x : Str} {A B : Prop} (k : B) : if (!decide (V.str x = V.str x)) = true then A else B := by
  rw [decide_eq_true rfl]
  exact k
mutual
theorem deq_refl : ∀ {d : PyData}, plainD d = true → deq d d = true
  | .none, _ => rfl
  | .bool b, _ => by simp [deq]
  | .int i, _ => by simp [deq]
  | .str x, _ => by simp [deq]
  | .tuple ds, h => deqL_refl (plain_tup h).2
  | .list _, h => by cases h
  | .dict _, h => by cases h
theorem deqL_refl : ∀ {ds : List PyData}, plainD.plainL ds = true → deq.deqL ds ds = true
  | [], _ => rfl
  | d :: ds, h => by
    unfold plainD.plainL at h
    unfold deq.deqL
    rw [deq_refl (Bool.and_eq_true_iff.mp h).1, deqL_refl (Bool.and_eq_true_iff.mp h).2]
    rfl
end
end PM

namespace PM
open PySem PySem.Spec PyProof.Rows L2 RZ
/-! ### t[::-1] of a tuple -/
section
variable {prog : Program} {w : World} {A : Around} {E : Value → Shared → Prop} {s : Shared}
theorem applied_back {sl : Addr} {vl vu vs : Value} {n : Nat} {Q : Int × Int × Nat → Shared → Prop} (hs : s.heap.IsSliceOf sl vl vu vs) (pl : IsPart vl none) (pu : IsPart vu none) (ps : IsPart vs (some (-1)))
    (h : Q ((n : Int) - 1, -1, n) s) : wpAny (model prog w) A (Builtin.Slice.sliceApplied (.ref sl) (pure (n : Int))) Q E s := by
  obtain ⟨os, hos, hcs, hds⟩ := id hs
  unfold Builtin.Slice.sliceApplied Builtin.Slice.sliceFields
  refine wpAny_bind (wpAny_bind (wpAny_field hos hds (x := vl) rfl (wpAny_bind (wpAny_field hos hds (x := vu) rfl (wpAny_bind (wpAny_field hos hds (x := vs) rfl (wpAny_pure ?_)))))))
  refine wpAny_bind (HT.slicePart_ ps ?_)
  show wpAny _ _ (if ((-1 : Int) == 0) = true then _ else _) _ _ s
  rw [if_neg (by decide)]
  refine wpAny_bind (HT.slicePart_ pl (wpAny_bind (HT.slicePart_ pu (wpAny_bind (wpAny_pure ?_)))))
  have e1 : Builtin.Slice.sliceAdjust none none (-1) (n : Int) = ((n : Int) - 1, -1) := by
    unfold Builtin.Slice.sliceAdjust
    simp
  have e2 : Builtin.Slice.slicePlaces ((n : Int) - 1) (-1) (-1) = n := by
    unfold Builtin.Slice.slicePlaces
    simp
    omega
  show wpAny _ _ (match Builtin.Slice.sliceAdjust none none (-1) (n : Int) with | (lo, hi) => pure (lo, (-1 : Int), Builtin.Slice.slicePlaces lo hi (-1))) _ _ s
  rw [e1]
  show wpAny _ _ (pure ((n : Int) - 1, (-1 : Int), Builtin.Slice.slicePlaces ((n : Int) - 1) (-1) (-1))) _ _ s
  rw [e2]
  exact wpAny_pure h
theorem fm_range : ∀ (l : List Value) (f : Nat → Option Value), (∀ m, m < l.length → f m = l[m]?) → (List.range l.length).filterMap f = l
  | [], _, _ => rfl
  | x :: l, f, h => by
    have ih := fm_range l (fun m => f (m + 1)) fun m hm => by
      have := h (m + 1) (by rw [List.length_cons]; omega)
      rw [this, List.getElem?_cons_succ]
    rw [List.length_cons, List.range_succ_eq_map, List.filterMap_cons, h 0 (by rw [List.length_cons]; omega)]
    show x :: List.filterMap f (List.map Nat.succ (List.range l.length)) = x :: l
    rw [List.filterMap_map]
    exact congrArg (List.cons x) ih
theorem pick_back (xs : Array Value) : ((List.range xs.size).filterMap fun (m : Nat) => xs[((xs.size : Int) - 1 + (m : Int) * (-1)).toNat]?).toArray = xs.toList.reverse.toArray := by
  congr 1
  have := fm_range xs.toList.reverse (fun (m : Nat) => xs[((xs.size : Int) - 1 + (m : Int) * (-1)).toNat]?) fun m hm => by
    have lt : m < xs.size := by simpa using hm
    rw [List.getElem?_reverse (by simpa using lt), Array.getElem?_toList, Array.length_toList]
    congr 1
    omega
  rw [List.length_reverse, Array.length_toList] at this
  exact this
theorem get_back {t sl : Addr} {its : Array Value} {vl vu vs : Value} {Q : Value → Shared → Prop} (ht : IsTup s.heap t its) (hs : s.heap.IsSliceOf sl vl vu vs) (pl : IsPart vl none) (pu : IsPart vu none) (ps : IsPart vs (some (-1)))
    (h : Q (.ref s.heap.objs.size) { s with heap := s.heap.push { cls := .type "tuple", data := .seq its.toList.reverse.toArray } }) (few : its.size ≤ sizeLine) : wpAny (model prog w) A (getItem (.ref t) (.ref sl)) Q E s := by
  have fits : sizeOk (.seq its.toList.reverse.toArray) := by
    show its.toList.reverse.toArray.size ≤ sizeLine
    rw [List.size_toArray, List.length_reverse, Array.length_toList]
    exact few
  obtain ⟨os, hos, hcs, hds⟩ := id hs
  unfold getItem
  try with_reducible refine wpAny_holding ?_
  refine wpAny_bind (wpAny_sequenceKey ht.typeIs (by decide) ?_)
  refine wpAny_bind (wpAny_callSpecial?_slot (name := Str.ofString "__getitem__") ht.typeIs PyProof.Rows.slot_tuple_getitem (wpAny_call_entry PyProof.Rows.slot_tuple_getitem ht.typeIs entry_tuple_getitem ?_ (args_tuple_getitem _ _)))
  show wpAny _ _ (Builtin.Tuple.tupleItemsOf (.ref t) >>= _) _ _ s
  refine wpAny_bind (tupleItemsOf_ ht (wpAny_bind (wpAny_typeOf ⟨os, hos, hcs⟩ ?_)))
  rw [if_pos (by decide)]
  refine wpAny_bind (applied_back hs pl pu ps ?_)
  have no : ¬ ((((its.size : Int) - 1) == 0 && (-1 : Int) == 1 && its.size == its.size) = true) := by
    rw [show ((-1 : Int) == 1) = false from rfl, Bool.and_false, Bool.false_and]
    exact Bool.false_ne_true
  show wpAny _ _ (if (((its.size : Int) - 1) == 0 && (-1 : Int) == 1 && its.size == its.size) = true then _ else _) _ _ s
  rw [if_neg no, pick_back]
  first
    | exact wpAny_bind (m := Builtin.Tuple.tupleExact _) (wpAny_newObj_type (wpAny_pure ⟨_, rfl, wpAny_pure h⟩) fits)
    | exact wpAny_bind (m := Builtin.Tuple.tupleExact _) (wpAny_newObj_type (wpAny_bind (wpAny_pure (wpAny_pure ⟨_, rfl, wpAny_pure h⟩))) fits)
    | exact wpAny_bind (wpAny_bind (m := Builtin.Tuple.tupleExact _) (wpAny_newObj_type (wpAny_pure (wpAny_pure ⟨_, rfl, wpAny_pure h⟩)) fits))
    | exact wpAny_bind (wpAny_bind (m := Builtin.Tuple.tupleExact _) (wpAny_newObj_type (wpAny_pure ⟨_, rfl, wpAny_pure h⟩) fits))
end
section
variable {X : Cx}
def tBack (K : PySem.W.Frag) (te : TE) : TE := fun σ H Q => te σ H fun x H1 => ∃ a xs, x = .ref a ∧ SqT K H1 a xs ∧ ∀ p, H1 p = none → Q (.ref p) (upd H1 p (.tup xs.reverse))
theorem pe_back {e : Expr} {te : TE} {k : Nat} {p1 p2 p3 pos : Pos} (he : PE X e te) : PE X (.Subscript e (.Slice none none (some (.UnaryOp .USub (.Constant (.int 1) k p1) p2)) p3) pos) (tBack X.K te) := by
  refine ⟨fun pins s σ H Q I h => ?_⟩
  refine Subscript_ (thn (he.run pins s σ H _ I h) fun v s1 ⟨x, H1, I1, r1, a, xs, ex, hx, q⟩ => ?_)
  subst ex
  cases r1
  have part : PO X (some (.UnaryOp .USub (.Constant (.int 1) k p1) p2)) (tPart (tUn (rU fun i => .int (-i)) (tC (.int 1)))) := po_some (pe_un un_neg pe_int)
  refine wpAny_Slice (thn (po_none.run pins s1 σ H1 (fun o H2 => o = none ∧ H2 = H1) I1 ⟨rfl, rfl⟩) fun vl s2 ⟨l, H2, I2, pl, el, e2⟩ => ?_)
  subst el e2
  refine thn (po_none.run pins s2 σ H2 (fun o H3 => o = none ∧ H3 = H2) I2 ⟨rfl, rfl⟩) fun vu s3 ⟨u, H3, I3, pu, eu, e3⟩ => ?_
  subst eu e3
  refine thn (part.run pins s3 σ H3 (fun o H4 => o = some (-1) ∧ H4 = H3) I3 ⟨1, rfl, -1, rfl, rfl, rfl⟩) fun vs s4 ⟨o, H4, I4, ps, eo, e4⟩ => ?_
  subst eo e4
  have I5 : L2.Inv X pins σ H4 { s4 with heap := s4.heap.push { cls := .type "slice", data := .fields #[vl, vu, vs] } } := I4.kept (t' := s4.toks) fun b ob z => Heap.get?_push_of_some _ z
  obtain ⟨its, r, ht, few⟩ := I5.tuple hx
  show wpAny (model X.prog X.w) X.A (subscriptTail e (.Slice none none (some (.UnaryOp .USub (.Constant (.int 1) k p1) p2)) p3) (.ref a) (.ref s4.heap.objs.size)) (EP X pins σ Q) X.xe { s4 with heap := s4.heap.push { cls := .type "slice", data := .fields #[vl, vu, vs] } }
  refine tail_any (ops := [.ref a, .ref s4.heap.objs.size]) ht.typeIs (PyProof.Rows.slot_tuple_getitem.lookup) ?_ (by with_unfolding_all rfl)
  refine get_back ht (Heap.IsSliceOf.new _ vl vu vs) pl pu ps ?_ (by rw [List.size_toArray, ← r.length]; exact few)
  refine ⟨.ref _, _, I5.laid (t' := s4.toks) (o := .tup xs.reverse) (fun b ob z => Heap.get?_push_of_some _ z) (Nat.le_refl _) ?_, rfl, q _ (I5.hok.fresh (Nat.le_refl _))⟩
  exact ⟨by rw [List.length_reverse]; exact few, _, r.reverse, _, Heap.get?_push_size _ rfl, rfl, _, rfl⟩
end
end PM

namespace PM
open PySem PySem.Spec PyProof.Rows L2 RZ
/-! ### values of all kinds -/
def smallD : PyData → Bool
  | .int i => decide (i.natAbs < 2 ^ 200)
  | .tuple ds => smallL ds
  | .list ds => smallL ds
  | _ => true
where smallL : List PyData → Bool
  | [] => true
  | d :: ds => smallD d && smallL ds
structure Fin_ (n m : Nat) (d : PyData) : Prop where
  sh : Shw d n m
  sm : smallD d = true
theorem Fin_.mono {n m n' m' : Nat} {d : PyData} (h : Fin_ n m d) (a : n ≤ n') (b : m ≤ m') : Fin_ n' m' d := ⟨h.sh.mono a b, h.sm⟩
theorem Fin_.int {i : Int} {b : Nat} (h : i.natAbs < 2 ^ b) (hb : b ≤ 200) : Fin_ 4000 3 (.int i) := by
  have h2 : i.natAbs < 2 ^ 200 := Nat.lt_of_lt_of_le h (Nat.pow_le_pow_right (by decide) hb)
  exact ⟨(Shw.int h2 (by decide) (by decide)).mono (by decide) (by decide), decide_eq_true h2⟩
theorem Fin_.bool (b : Bool) : Fin_ 4000 3 (.bool b) := ⟨(Shw.bool b).mono (by decide) (by decide), rfl⟩
/-- tuples and lists of ints -/
theorem ints_shwL : ∀ {is : List Int}, (∀ i ∈ is, i.natAbs < 2 ^ 200) → ShwL (is.map PyData.int) (1923 * is.length) 0
  | [], _ => .nil 0
  | i :: is, h => by
    have t := ints_shwL (is := is) fun j hj => h j (List.mem_cons_of_mem _ hj)
    have c := ShwL.cons (Shw.int (h i List.mem_cons_self) (by decide) (by decide)) t
    rw [show 1921 + 2 + 1923 * is.length = 1923 * (i :: is).length by rw [List.length_cons]; omega] at c
    exact c
theorem ints_small : ∀ {is : List Int}, (∀ i ∈ is, i.natAbs < 2 ^ 200) → smallD.smallL (is.map PyData.int) = true
  | [], _ => rfl
  | i :: is, h => by
    have t := ints_small (is := is) fun j hj => h j (List.mem_cons_of_mem _ hj)
    show (decide (i.natAbs < 2 ^ 200) && smallD.smallL (is.map PyData.int)) = true
    rw [t, decide_eq_true (h i List.mem_cons_self)]
    rfl
theorem ints_nd : ∀ (is : List Int), PyData.hasDictAll (is.map PyData.int) = false
  | [] => rfl
  | i :: is => by
    show (false || PyData.hasDictAll (is.map PyData.int)) = false
    rw [ints_nd is]
    rfl
theorem Fin_.tupI {is : List Int} (h : ∀ i ∈ is, i.natAbs < 2 ^ 200) (few : is.length ≤ 2) : Fin_ 4000 3 (.tuple (is.map PyData.int)) :=
  ⟨(Shw.tup (ints_shwL h)).mono (by omega) (by decide), ints_small h⟩
theorem Fin_.lstI {is : List Int} (h : ∀ i ∈ is, i.natAbs < 2 ^ 200) (few : is.length ≤ 2) : Fin_ 4000 3 (.list (is.map PyData.int)) :=
  ⟨(Shw.lst (ints_shwL h) (ints_nd is)).mono (by omega) (by decide), ints_small h⟩
theorem Fin_.tupI9 {is : List Int} (h : ∀ i ∈ is, i.natAbs < 2 ^ 200) (few : is.length ≤ 10) : Fin_ 30000 8 (.tuple (is.map PyData.int)) :=
  ⟨(Shw.tup (ints_shwL h)).mono (by omega) (by decide), ints_small h⟩
theorem Fin_.pair {d e : PyData} (h : Fin_ 4000 3 d) (k : Fin_ 4000 3 e) : Fin_ 30000 8 (.tuple [d, e]) := by
  refine ⟨(Shw.tup (.cons h.sh (.cons k.sh (.nil 3)))).mono (by decide) (by decide), ?_⟩
  show (smallD d && (smallD e && true)) = true
  rw [h.sm, k.sm]
  rfl
/-- whether a value is a fraction -/
def frPair : PyData → PyData → Bool
  | .int n, .int m => decide (0 < m) && decide (Int.gcd n m = 1)
  | _, _ => false
def frList : List PyData → Bool
  | [] => false
  | d :: ds => match ds with
    | [] => false
    | e :: es => match es with
      | [] => frPair d e
      | _ :: _ => false
def isFrD : PyData → Bool
  | .tuple ds => frList ds
  | _ => false
theorem DaL.two {H : Hp} {xs : List V} {ds : List PyData} (h : DaL H xs ds) (two : ds.length = 2) : ∃ v1 v2 d1 d2, xs = [v1, v2] ∧ ds = [d1, d2] ∧ Da H v1 d1 ∧ Da H v2 d2 := by
  cases h with
  | nil => cases two
  | cons h1 t =>
    cases t with
    | nil => cases two
    | cons h2 t2 =>
      cases t2 with
      | nil => exact ⟨_, _, _, _, rfl, rfl, h1, h2⟩
      | cons h3 t3 =>
        simp only [List.length_cons] at two
        omega
theorem frDa {H : Hp} {p : Addr} {x : Int × Int} (h : FrAt H p x) : Da H (.ref p) (fd x) := .tup h (.cons (.int _) (.cons (.int _) .nil))
/-- what stands but at a and r, where these are lists -/
theorem Da.keep_tup {H H' : Hp} {a c r : Addr} {n : Nat} (k : Keep a r H H') (dr : Drw H a c r n) {p : Addr} {is : List Int} (h : H p = some (.tup (is.map V.int))) : H' p = some (.tup (is.map V.int)) := k.tup dr h
theorem gName_num {i : Nat} {x : Int} {σ : L2.St} {H : Hp} {k : L2.St → Hp → Prop} (h : ∀ z, z = x → gName i (V.int z) σ H k) : gName i (V.int x) σ H k := h x rfl
theorem neB {b : Bool} {A B : Prop} (k : B) : if (!decide (V.bl b = V.bl b)) = true then A else B := by
  rw [decide_eq_true rfl]
  exact k
theorem Fin_.two {i j : Int} (hi : i.natAbs < 2 ^ 200) (hj : j.natAbs < 2 ^ 200) : Fin_ 30000 8 (.tuple [.int i, .int j]) :=
  (Fin_.tupI (is := [i, j]) (fun k hk => by
    simp only [List.mem_cons, List.not_mem_nil, or_false] at hk
    rcases hk with e | e
    · rw [e]; exact hi
    · rw [e]; exact hj) (by show 2 ≤ 2; decide)).mono (by decide) (by decide)
end PM

namespace PM
open PySem PySem.Spec PyProof.Rows L2 RZ
def topS (i : Nat) : Stmt := PySem.Challenge.pw_poolmarks_k00_fractions_checked.main.body.getD i (.Pass ⟨0, 0, 0, 0⟩)
section
variable {P : Program} {w : World} {K : PySem.W.Frag} {mg : Str → Option Value} {base : Heap}
/-! ### the next drawn number -/
abbrev s__law_next : Stmt := topS 6
abbrev N__law_next : List Str := ["_law_drawn", "_law_many", "_law_cells", "_law_turn", "_law_rests", "_law_spot", "_law_digit", "_law_mixed", "_law_again"]
abbrev P__law_next : List Str := ["_law_drawn", "_law_many"]
theorem sc__law_next : FnScope N__law_next P__law_next (defScope s__law_next) := ⟨rfl, rfl, rfl, by decide +kernel, rfl, by decide +kernel, by decide +kernel⟩
def sp__law_next : Sp := fun vs H Q _ => ∃ (a c r : Addr) (n : Nat) (m : Int), vs = [.ref a, .int m] ∧ Drw H a c r n ∧ n < 1000000 ∧ 0 < m ∧ m.natAbs.log2 < 9000 ∧
  ∀ (v : Int) H', 0 ≤ v → v < m → Drw H' a c r (n + 1) → Keep a r H H' → Q (.int v) H'
theorem ok__law_next {k : Nat} (d : IsDef K mg "_law_next" s__law_next P__law_next) (m_len : mg "len" = none) : Ok P w K mg base (k + 1) "_law_next" s__law_next P__law_next sp__law_next := by
  obtain ⟨f, fd, D⟩ := d
  refine ⟨f, fd, D, D.F.ok sc__law_next (fun vs H Q E h => ?_) (fun cdv A outer s H vs Q E hr h => ?_)⟩
  · obtain ⟨a, c, r, n, m, rfl, _⟩ := h
    rfl
  · obtain ⟨a, c, r, n, m, rfl, dr, hn, hm, hb, q⟩ := h
    obtain ⟨⟨cells, rests, t, hA, hC, hR, e1, e2, e3, t0, tn⟩, ac, ar, cr⟩ := id dr
    refine ⟨_, (pss_cons (ps_asg (pv 0) (pg_unl (by rfl) (pgs_cons (pg_name (i := 2) sc__law_next.nd rfl (.inl rfl)) (pgs_cons (pg_name (i := 3) sc__law_next.nd rfl (.inl rfl)) (pgs_cons (pg_name (i := 4) sc__law_next.nd rfl (.inl rfl)) pgs_nil)))))
      (pss_cons (ps_set (i := 5) sc__law_next.nd rfl (.inl rfl) (pe_op op_mod (pv 3) (pe_callB call_len_seq (by rfl) m_len (by decide +kernel) (pa_cons (pv 2) pa_nil))))
      (pss_cons (ps_asg (pe_op op_add (pv 3) pe_int) (pg_sub (pv 0) pe_int set_list))
      (pss_cons (ps_if (pt_cmpR op_gt (pe_ix ix_list (pv 4) (pv 5) (fun _ _ => rfl)) pe_int (nomark _)) (pss_cons (ps_set (i := 6) sc__law_next.nd rfl (.inl rfl) (pe_op op_mod (pe_ix ix_list (pv 4) (pv 5) (fun _ _ => rfl)) (pv 1))) (pss_cons (ps_asg (pe_op op_fdivW (pe_ix ix_list (pv 4) (pv 5) (fun _ _ => rfl)) (pv 1)) (pg_sub (pv 4) (pv 5) set_list)) (pss_one (ps_ret (pv 6))))) pss_nil)
      (pss_cons (ps_set (i := 7) sc__law_next.nd rfl (.inl rfl) (pe_op op_mod (pe_op op_pow (pe_op op_add (pe_op op_add (pe_op op_mod (pe_ix ix_list (pv 2) (pv 5) (fun _ _ => rfl)) pe_int) (pe_op op_mul pe_int (pv 3))) pe_int) pe_int) pe_int))
      (pss_cons (ps_set (i := 8) sc__law_next.nd rfl (.inl rfl) (pe_op op_mod (pe_op op_pow (pe_op op_add (pe_op op_add (pv 7) (pe_op op_mul (pe_op op_mul pe_int (pv 3)) (pv 3))) pe_int) pe_int) pe_int))
      (pss_one (ps_ret (pe_op op_mod (pe_op op_mod (pe_op op_add (pe_op op_mul (pv 8) pe_int) (pv 7)) pe_int) (pv 1)))))))))), ?_⟩
    refine ⟨.ref a, rfl, a, _, rfl, .inl (.inl hA), rfl, _, _, rfl, _, _, rfl, _, _, rfl, rfl, ?_⟩
    -- spot
    refine ⟨.int t, rfl, .ref c, rfl, c, _, rfl, .inl (.inl (.inl hC)), _, _, rfl, rfl, ?_, ?_⟩
    · show (0 : Int) < _
      rw [List.length_map]
      omega
    rw [List.length_map]
    obtain ⟨j, ej⟩ : ∃ j : Nat, t % (cells.length : Int) = (j : Int) := ⟨(t % (cells.length : Int)).toNat, by
      have := Int.emod_nonneg t (show (cells.length : Int) ≠ 0 by omega)
      omega⟩
    have hj : j < cells.length := by
      have := Int.emod_lt_of_pos t (show (0 : Int) < (cells.length : Int) by omega)
      omega
    have hj' : j < rests.length := by omega
    dsimp only
    rw [ej]
    -- drawn[1] = turn + 1
    refine ⟨.int t, rfl, _, _, rfl, rfl, .ref a, rfl, a, _, _, 1, rfl, rfl, hA, rfl, ?_⟩
    have hC1 : (upd H a (.lst (List.set [.ref c, .int t, .ref r] 1 (.int (t + 1))))) c = some (.lst (cells.map V.int)) := by
      rw [upd_ne (Ne.symm ac)]
      exact hC
    have hR1 : (upd H a (.lst (List.set [.ref c, .int t, .ref r] 1 (.int (t + 1))))) r = some (.lst (rests.map V.int)) := by
      rw [upd_ne (Ne.symm ar)]
      exact hR
    have gc : atI (cells.map V.int) (j : Int) = some (.int cells[j]) := atI_nat (by rw [List.getElem?_map, List.getElem?_eq_getElem hj]; rfl)
    have gr : atI (rests.map V.int) (j : Int) = some (.int rests[j]) := atI_nat (by rw [List.getElem?_map, List.getElem?_eq_getElem hj']; rfl)
    refine ⟨.ref r, rfl, .int j, rfl, r, _, _, _, rfl, rfl, .inl (.inl hR1), gr, _, _, rfl, rfl, _, rfl, ite2 (fun e => ?_) (fun e => ?_)⟩
    · -- a digit of a great number
      refine ⟨.ref r, rfl, .int j, rfl, r, _, _, _, rfl, rfl, .inl (.inl hR1), gr, .int m, rfl, _, _, rfl, rfl, hm, ?_⟩
      refine ⟨.ref r, rfl, .int j, rfl, r, _, _, _, rfl, rfl, .inl (.inl hR1), gr, .int m, rfl, _, _, rfl, rfl, ⟨hm, hb⟩, .ref r, rfl, .int j, rfl, r, _, _, j, rfl, rfl, hR1, ?_, ?_⟩
      · rw [List.length_map]
        exact place_ok hj'
      refine ⟨_, rfl, q _ _ (Int.emod_nonneg _ (by omega)) (Int.emod_lt_of_pos _ hm) ?_ ?_⟩
      · refine ⟨⟨cells, rests.set j (rests[j] / m), t + 1, ?_, ?_, ?_, ?_, e2, e3, by omega, by omega⟩, ac, ar, cr⟩
        · rw [upd_ne ar, upd_same]
          rfl
        · rw [upd_ne cr]
          exact hC1
        · rw [upd_same, List.map_set]
        · rw [List.length_set]
          exact e1
      · intro b o ba br hb
        rw [upd_ne br, upd_ne ba]
        exact hb
    · -- a mixed number
      have gp : ∀ x y : Int, 0 < y → 0 ≤ x % y ∧ x % y < y := fun x y h => ⟨Int.emod_nonneg _ (by omega), Int.emod_lt_of_pos _ h⟩
      have t1 : t < 1000000 := by omega
      have b1 := gp cells[j] 2147483629 (by decide)
      refine ⟨.ref c, rfl, .int j, rfl, c, _, _, _, rfl, rfl, .inl (.inl hC1), gc, _, _, rfl, rfl, (by show (0 : Int) < 2147483629; decide), .int t, rfl, _, _, rfl, rfl, .inl ⟨by decide, by decide⟩, _, _, rfl, rfl, _, _, rfl, rfl, _, _, rfl, rfl, ⟨by decide, by decide, ?_⟩, _, _, rfl, rfl, (by show (0 : Int) < 2147483587; decide), ?_⟩
      · omega
      obtain ⟨x, hx, x0, x1⟩ : ∃ x : Int, (cells[j] % 2147483629 + 39119 * t + 9901) ^ Int.toNat 3 % 2147483587 = x ∧ 0 ≤ x ∧ x < 2147483587 := ⟨_, rfl, gp _ _ (by decide)⟩
      change gName 7 (.int ((cells[j] % 2147483629 + 39119 * t + 9901) ^ Int.toNat 3 % 2147483587)) _ _ _
      rw [hx]
      have tt : 0 ≤ 7001 * t * t ∧ 7001 * t * t < 7001 * 1000000 * 1000000 := by
        have h1 : 0 ≤ t * t := Int.mul_nonneg t0 t0
        have h2 : t * t ≤ 1000000 * 1000000 - 1 := by
          have := Int.mul_le_mul (show t ≤ 999999 by omega) (show t ≤ 999999 by omega) t0 (by omega)
          omega
        rw [Int.mul_assoc]
        omega
      refine ⟨.int x, rfl, .int t, rfl, _, _, rfl, rfl, .inl ⟨by decide, by decide⟩, .int t, rfl, _, _, rfl, rfl, .inl ⟨?_, ?_⟩, _, _, rfl, rfl, _, _, rfl, rfl, _, _, rfl, rfl, ⟨by decide, by decide, ?_⟩, _, _, rfl, rfl, (by show (0 : Int) < 2147483563; decide), ?_⟩
      · omega
      · omega
      · omega
      obtain ⟨y, hy, y0, y1⟩ : ∃ y : Int, (x + 7001 * t * t + 41) ^ Int.toNat 3 % 2147483563 = y ∧ 0 ≤ y ∧ y < 2147483563 := ⟨_, rfl, gp _ _ (by decide)⟩
      change gName 8 (.int ((x + 7001 * t * t + 41) ^ Int.toNat 3 % 2147483563)) _ _ _
      rw [hy]
      refine ⟨.int y, rfl, _, _, rfl, rfl, .inl ⟨by omega, by omega⟩, .int x, rfl, _, _, rfl, rfl, _, _, rfl, rfl, (by show (0 : Int) < 4611686018427387847; decide), .int m, rfl, _, _, rfl, rfl, hm, ?_⟩
      refine q _ _ (Int.emod_nonneg _ (by omega)) (Int.emod_lt_of_pos _ hm) ?_ ?_
      · refine ⟨⟨cells, rests, t + 1, ?_, hC1, hR1, e1, e2, e3, by omega, by omega⟩, ac, ar, cr⟩
        rw [upd_same]
        rfl
      · intro b o ba br hb
        rw [upd_ne ba]
        exact hb
/-! ### the drawn numbers are laid -/
abbrev s__law_draws : Stmt := topS 5
abbrev N__law_draws : List Str := ["_law_script", "_law_cells", "_law_cell"]
abbrev P__law_draws : List Str := ["_law_script"]
theorem sc__law_draws : FnScope N__law_draws P__law_draws (defScope s__law_draws) := ⟨rfl, rfl, rfl, by decide +kernel, rfl, by decide +kernel, by decide +kernel⟩
def sp__law_draws (K : PySem.W.Frag) : Sp := fun vs H Q _ => ∃ (a : Addr) (ns : List Int), vs = [.ref a] ∧ SqL K H a (ns.map V.int) ∧ ns.length ≤ 63 ∧
  ∀ H' p c r, Same H H' → H p = none → H c = none → H r = none → Drw H' p c r 0 → Q (.ref p) H'
theorem ok__law_draws {k : Nat} (d : IsDef K mg "_law_draws" s__law_draws P__law_draws) (m_len : mg "len" = none) (m_int : mg "int" = none) (m_list : mg "list" = none) : Ok P w K mg base (k + 1) "_law_draws" s__law_draws P__law_draws (sp__law_draws K) := by
  obtain ⟨f, fd, D⟩ := d
  refine ⟨f, fd, D, D.F.ok sc__law_draws (fun vs H Q E h => ?_) (fun cdv A outer s H vs Q E hr h => ?_)⟩
  · obtain ⟨a, ns, rfl, _⟩ := h
    rfl
  · obtain ⟨a, ns, rfl, hS, hlen, q⟩ := h
    refine ⟨_, (pss_cons (ps_set (i := 1) sc__law_draws.nd rfl (.inl rfl) (pe_op op_cat (pe_callTy call_list_of (by rfl) m_list (by decide +kernel) (pa_cons (pe_slice sl_list (pv 0) po_none (po_some pe_int)) pa_nil)) (pe_op op_rep (pe_lst (pa_cons pe_int pa_nil)) (pe_callTy call_int1 (by rfl) m_int (by decide +kernel) (pa_cons (pe_cmpR op_eq (pe_callB call_len_seq (by rfl) m_len (by decide +kernel) (pa_cons (pv 0) pa_nil)) pe_int (nomark _)) pa_nil)))))
      (pss_one (ps_ret (pe_lst (pa_cons (pv 1) (pa_cons pe_int (pa_cons (pe_lc (own := [("_law_cell", 2)]) (g := gName 2) (by rfl) sc__law_draws.nd (pi_list (pv 1)) (blkOk_by (own := [("_law_cell", 2)]) (N := N__law_draws) (sc := defScope s__law_draws) (by decide +kernel)) (fun _ _ _ _ _ => by exact (pg_name (i := 2) sc__law_draws.nd rfl (.inl rfl))) (fun _ _ _ _ _ => pts_nil) (fun _ _ _ _ _ => by exact (pe_op op_mul (pv 2) (pe_callTy call_int1 (by rfl) m_int (by decide +kernel) (pa_cons (pe_cmpR op_ge (pv 2) (pe_op op_pow pe_int pe_int) (nomark _)) pa_nil))))) pa_nil))))))), ?_⟩
    refine ⟨.ref a, rfl, 63, rfl, a, _, rfl, hS, fun p1 n1 => ?_⟩
    rw [cut63 (by rw [List.length_map]; exact hlen)]
    have s1 := same_upd (ob := .lst (ns.map V.int)) n1
    refine ⟨p1, _, rfl, .inl (.inl (.inl upd_same)), fun p2 n2 => ?_⟩
    have s2 := s1.trans (same_upd (ob := .lst (ns.map V.int)) n2)
    refine ⟨toks (by decide), fun p3 n3 => ?_⟩
    have s3 := s2.trans (same_upd (ob := .lst [.int 0]) n3)
    have z2 := same_upd (ob := .lst [.int 0]) n3
    refine ⟨.ref a, rfl, a, _, rfl, .inl (s3.seq hS), rfl, .inr ⟨_, rfl, ?_⟩⟩
    obtain ⟨zs, hz, lz, ez⟩ : ∃ zs : List Int, zs.length ≤ 1 ∧ 0 < (ns ++ zs).length ∧ (List.replicate (if decide (V.int ((ns.map V.int).length : Int) = V.int 0) = true then (1 : Int) else 0).toNat [V.int 0]).flatten = zs.map V.int := by
      cases ns with
      | nil => exact ⟨[0], by decide, by decide, rfl⟩
      | cons x l =>
        refine ⟨[], by decide, by simp, ?_⟩
        rw [if_neg]
        · rfl
        · intro e
          have e := V.int.inj (of_decide_eq_true e)
          rw [List.length_map, List.length_cons] at e
          omega
    refine ⟨p3, _, [.int 0], rfl, rfl, upd_same, ?_, ?_, ?_, fun p4 n4 => ?_⟩
    · split <;> omega
    · split <;> omega
    · split <;> exact toks (by decide)
    rw [ez]
    have s4 := s3.trans (same_upd (ob := .lst (zs.map V.int)) n4)
    have z3 := z2.trans (same_upd (ob := .lst (zs.map V.int)) n4)
    refine ⟨p2, p4, _, _, rfl, rfl, z3 _ _ upd_same, upd_same, ?_, fun p5 n5 => ?_⟩
    · rw [List.length_map, List.length_map]
      exact toks (by omega)
    rw [← List.map_append]
    have s5 := s4.trans (same_upd (ob := .lst ((ns ++ zs).map V.int)) n5)
    have hlc : (ns ++ zs).length ≤ 64 := by
      rw [List.length_append]
      omega
    generalize hcells : ns ++ zs = cells at *
    generalize hH5 : upd _ p5 (HO.lst (cells.map V.int)) = H5 at *
    have h5 : H5 p5 = some (.lst (cells.map V.int)) := by
      rw [← hH5, upd_same]
    have np5 := s4.free n5
    refine ⟨.ref p5, rfl, .ref p5, rfl, p5, rfl, ⟨_, .inl (.inl h5)⟩, fun D nD => ?_⟩
    have dp : D ≠ p5 := fun e => by
      rw [e, h5] at nD
      cases nD
    refine lc_list (K := K) (xs := cells.map V.int) (fun i H' => Same H5 H' ∧ H' D = some (.lst (((cells.take i).map fun c => c * (if decide ((10 : Int) ^ Int.toNat 18 ≤ c) = true then 1 else 0)).map V.int))) ⟨same_upd nD, upd_same⟩ (fun i H' _ p => .inl (.inl (p.1 _ _ h5))) (fun i x H' hx p => ?_) (fun H' p => ?_)
    · rw [List.getElem?_map] at hx
      cases hc : cells[i]? with
      | none =>
        rw [hc] at hx
        cases hx
      | some y =>
        rw [hc] at hx
        have hx : x = .int y := (Option.some.inj hx).symm
        subst hx
        refine ⟨rfl, ?_⟩
        refine ⟨.int y, rfl, .int y, rfl, _, _, rfl, rfl, ⟨by decide, by decide, by decide⟩, _, _, rfl, rfl, .inr ⟨_, rfl, _, _, rfl, rfl, .inr ?_, _, p.2, ?_, ?_, ?_⟩⟩
        · split <;> decide
        · rw [List.length_map, List.length_map, List.length_take]
          exact small1000 (by omega)
        · intro b o e
          rw [upd_ne (show b ≠ D from fun z => by rw [z, nD] at e; cases e)]
          exact p.1 _ _ e
        · rw [upd_same, List.take_add_one, hc, List.map_append, List.map_append]
          rfl
    · obtain ⟨p1, p2⟩ := p
      rw [List.length_map, List.take_length] at p2
      obtain ⟨rests, hrs, lrs⟩ : ∃ rests : List Int, (cells.map fun c => c * (if decide ((10 : Int) ^ Int.toNat 18 ≤ c) = true then 1 else 0)) = rests ∧ rests.length = cells.length := ⟨_, rfl, by rw [List.length_map]⟩
      rw [hrs] at p2
      refine ⟨toks (by show 3 ≤ 1000; decide), fun pa na => ?_⟩
      have nD1 : H D = none := s5.free nD
      have na1 : H5 pa = none := p1.free na
      refine q _ pa p5 D ((s5.trans p1).trans (same_upd na)) (s5.free na1) np5 nD1 ⟨⟨cells, rests, 0, upd_same, ?_, ?_, lrs, lz, hlc, by decide, by decide⟩, ?_, ?_, Ne.symm dp⟩
      · rw [upd_ne (ne_of_none (p1 _ _ h5) na)]
        exact p1 _ _ h5
      · rw [upd_ne (ne_of_none p2 na)]
        exact p2
      · exact Ne.symm (ne_of_none (p1 _ _ h5) na)
      · exact Ne.symm (ne_of_none p2 na)
/-! ### lowest terms, as the law finds them -/
abbrev s__law_lowest : Stmt := topS 13
abbrev N__law_lowest : List Str := ["_law_numerator", "_law_denominator", "_law_one_here", "_law_other"]
abbrev P__law_lowest : List Str := ["_law_numerator", "_law_denominator"]
theorem sc__law_lowest : FnScope N__law_lowest P__law_lowest (defScope s__law_lowest) := ⟨rfl, rfl, rfl, by decide +kernel, rfl, by decide +kernel, by decide +kernel⟩
def sp__law_lowest : Sp := fun vs H Q _ => ∃ (n d : Int) (b : Nat), vs = [.int n, .int d] ∧ 0 < d ∧ d.natAbs < 2 ^ b ∧ 0 < b ∧ b ≤ 9000 ∧
  ∀ t, H t = none → Q (.ref t) (upd H t (.tup [.int (Fr.red n d).1, .int (Fr.red n d).2]))
theorem ok__law_lowest {k : Nat} (d : IsDef K mg "_law_lowest" s__law_lowest P__law_lowest) (m_abs : mg "abs" = none) : Ok P w K mg base (k + 1) "_law_lowest" s__law_lowest P__law_lowest sp__law_lowest := by
  obtain ⟨f, fd, D⟩ := d
  refine ⟨f, fd, D, D.F.ok sc__law_lowest (fun vs H Q E h => ?_) (fun cdv A outer s H vs Q E hr h => ?_)⟩
  · obtain ⟨n, d, b, rfl, _⟩ := h
    rfl
  · obtain ⟨n, d, b, rfl, d0, db, b0, b9, q⟩ := h
    refine ⟨_, (pss_cons (ps_par (i := 2) (j := 3) (by rfl) sc__law_lowest.nd rfl rfl (by decide) rfl rfl (pa_cons (pe_callB call_abs (by rfl) m_abs (by decide +kernel) (pa_cons (pv 0) pa_nil)) (pa_cons (pv 1) pa_nil)) (by rfl))
      (pss_cons (ps_while PassesOwn.never (pt_cmpR op_gt (pv 3) pe_int (nomark _)) (pss_one (ps_par (i := 2) (j := 3) (by rfl) sc__law_lowest.nd rfl rfl (by decide) rfl rfl (pa_cons (pv 3) (pa_cons (pe_op op_mod (pv 2) (pv 3)) pa_nil)) (by rfl))))
      (pss_one (ps_ret (pe_tup (pa_cons (pe_op op_fdivW (pv 0) (pv 2)) (pa_cons (pe_op op_fdivW (pv 1) (pv 2)) pa_nil))))))), ?_⟩
    refine ⟨.int n, rfl, n, rfl, .int d, rfl, _, _, rfl, ?_⟩
    refine ⟨fun m σ H' => H' = H ∧ ∃ x y : Int, 0 ≤ x ∧ 0 ≤ y ∧ m = y.toNat ∧ σ = [some (.int n), some (.int d), some (.int x), some (.int y)] ∧ Int.gcd x y = Int.gcd n d,
      ⟨d.toNat, rfl, (if n < 0 then -n else n), d, by split <;> omega, by omega, rfl, rfl, ?_⟩, fun m σ H' hW => ?_⟩
    · split
      · rw [Int.neg_gcd]
      · rfl
    · obtain ⟨rfl, x, y, x0, y0, rfl, rfl, hg⟩ := hW
      refine ⟨.int y, rfl, _, _, rfl, rfl, _, rfl, ite2 (fun e => ?_) (fun e => ?_)⟩
      · have yp : 0 < y := of_decide_eq_true e
        refine ⟨fun σ' H'' => H'' = H' ∧ σ' = [some (.int n), some (.int d), some (.int y), some (.int (x % y))], fun σ' H'' hN => ?_, ?_⟩
        · obtain ⟨rfl, rfl⟩ := hN
          have l1 := Int.emod_nonneg x (show y ≠ 0 by omega)
          have l2 := Int.emod_lt_of_pos x yp
          exact ⟨(x % y).toNat, by omega, rfl, y, x % y, by omega, l1, rfl, rfl, by rw [Fr.gcd_step x0 y0]; exact hg⟩
        · exact ⟨.int y, rfl, .int x, rfl, .int y, rfl, _, _, rfl, rfl, yp, _, _, rfl, rfl, rfl⟩
      · have y00 : y = 0 := by
          have h : ¬ 0 < y := fun z => e (decide_eq_true z)
          omega
        subst y00
        have ex : x = (Int.gcd n d : Int) := by rw [← hg, Fr.gcd_zero x0]
        have xp : 0 < x := by
          rw [ex]
          exact Fr.gcd_pos (by omega)
        have xd : x.natAbs < 2 ^ b := by
          refine Nat.lt_of_le_of_lt ?_ db
          rw [ex, Int.natAbs_natCast]
          exact Nat.le_of_dvd (by omega) (Nat.gcd_dvd_right _ _)
        have C : ∀ i : Int, CDivW i x := fun i => wide_div xp xd b0 b9
        refine ⟨.int n, rfl, .int x, rfl, _, _, rfl, rfl, C n, .int d, rfl, .int x, rfl, _, _, rfl, rfl, C d, toks (by show 2 ≤ 1000; decide), fun t nt => ?_⟩
        have := q t nt
        unfold Fr.red at this
        rw [← ex] at this
        exact this
/-! ### the greatest common divisor -/
abbrev s_common_divisor : Stmt := topS 2
abbrev N_common_divisor : List Str := ["one", "other"]
abbrev P_common_divisor : List Str := ["one", "other"]
theorem sc_common_divisor : FnScope N_common_divisor P_common_divisor (defScope s_common_divisor) := ⟨rfl, rfl, rfl, by decide +kernel, rfl, by decide +kernel, by decide +kernel⟩
def sp_common_divisor : Sp := fun vs H Q _ => ∃ (n d : Int), vs = [.int n, .int d] ∧ Q (.int (Int.gcd n d : Int)) H
theorem ok_common_divisor {k : Nat} (d : IsDef K mg "common_divisor" s_common_divisor P_common_divisor) (m_abs : mg "abs" = none) : Ok P w K mg base (k + 1) "common_divisor" s_common_divisor P_common_divisor sp_common_divisor := by
  obtain ⟨f, fd, D⟩ := d
  refine ⟨f, fd, D, D.F.ok sc_common_divisor (fun vs H Q E h => ?_) (fun cdv A outer s H vs Q E hr h => ?_)⟩
  · obtain ⟨n, d, rfl, _⟩ := h
    rfl
  · obtain ⟨n, d, rfl, q⟩ := h
    refine ⟨_, (pss_cons (ps_par (i := 0) (j := 1) (by rfl) sc_common_divisor.nd rfl rfl (by decide) rfl rfl (pa_cons (pe_callB call_abs (by rfl) m_abs (by decide +kernel) (pa_cons (pv 0) pa_nil)) (pa_cons (pe_callB call_abs (by rfl) m_abs (by decide +kernel) (pa_cons (pv 1) pa_nil)) pa_nil)) (by rfl))
      (pss_cons (ps_while PassesOwn.never (pt_cmpR op_ne (pv 1) pe_int (nomark _)) (pss_one (ps_par (i := 0) (j := 1) (by rfl) sc_common_divisor.nd rfl rfl (by decide) rfl rfl (pa_cons (pv 1) (pa_cons (pe_op op_mod (pv 0) (pv 1)) pa_nil)) (by rfl))))
      (pss_one (ps_ret (pv 0))))), ?_⟩
    refine ⟨.int n, rfl, n, rfl, .int d, rfl, d, rfl, _, _, rfl, ?_⟩
    refine ⟨fun m σ H' => H' = H ∧ ∃ x y : Int, 0 ≤ x ∧ 0 ≤ y ∧ m = y.toNat ∧ σ = [some (.int x), some (.int y)] ∧ Int.gcd x y = Int.gcd n d,
      ⟨_, rfl, (if n < 0 then -n else n), (if d < 0 then -d else d), by split <;> omega, by split <;> omega, rfl, rfl, ?_⟩, fun m σ H' hW => ?_⟩
    · split <;> split <;> simp
    · obtain ⟨rfl, x, y, x0, y0, rfl, rfl, hg⟩ := hW
      refine ⟨.int y, rfl, rfl, _, rfl, ite2 (fun e => ?_) (fun e => ?_)⟩
      · have yp : 0 < y := by
          have : y ≠ 0 := fun z => by rw [z] at e; exact absurd e (by decide)
          omega
        refine ⟨fun σ' H'' => H'' = H' ∧ σ' = [some (.int y), some (.int (x % y))], fun σ' H'' hN => ?_, ?_⟩
        · obtain ⟨rfl, rfl⟩ := hN
          have l1 := Int.emod_nonneg x (show y ≠ 0 by omega)
          have l2 := Int.emod_lt_of_pos x yp
          exact ⟨(x % y).toNat, by omega, rfl, y, x % y, by omega, l1, rfl, rfl, by rw [Fr.gcd_step x0 y0]; exact hg⟩
        · exact ⟨.int y, rfl, .int x, rfl, .int y, rfl, _, _, rfl, rfl, yp, _, _, rfl, rfl, rfl⟩
      · have y00 : y = 0 := by
          refine Decidable.byContradiction fun z => e ?_
          rw [decide_eq_false (fun w => z (V.int.inj w))]
          rfl
        subst y00
        have ex : x = (Int.gcd n d : Int) := by rw [← hg, Fr.gcd_zero x0]
        refine ⟨_, rfl, ?_⟩
        rw [ex]
        exact q
/-! ### a drawn fraction -/
abbrev s__law_fraction : Stmt := topS 15
abbrev N__law_fraction : List Str := ["_law_drawn", "_law_great"]
abbrev P__law_fraction : List Str := ["_law_drawn"]
theorem sc__law_fraction : FnScope N__law_fraction P__law_fraction (defScope s__law_fraction) := ⟨rfl, rfl, rfl, by decide +kernel, rfl, by decide +kernel, by decide +kernel⟩
def sp__law_fraction : Sp := fun vs H Q _ => ∃ (a c r : Addr) (n : Nat), vs = [.ref a] ∧ Drw H a c r n ∧ n < 900000 ∧
  ∀ H' t x, Fr.IsF x → Fr.Sz 100 x → Drw H' a c r (n + 3) → Keep a r H H' → H t = none → FrAt H' t x → Q (.ref t) H'
theorem ok__law_fraction (d : IsDef K mg "_law_fraction" s__law_fraction P__law_fraction) (h__law_next : Ok P w K mg base 1 "_law_next" s__law_next P__law_next sp__law_next) (h__law_lowest : Ok P w K mg base 1 "_law_lowest" s__law_lowest P__law_lowest sp__law_lowest) : Ok P w K mg base 2 "_law_fraction" s__law_fraction P__law_fraction sp__law_fraction := by
  obtain ⟨f, fd, D⟩ := d
  obtain ⟨f__law_next, fd__law_next, ⟨F__law_next, b__law_next, g__law_next⟩, G__law_next⟩ := h__law_next
  obtain ⟨f__law_lowest, fd__law_lowest, ⟨F__law_lowest, b__law_lowest, g__law_lowest⟩, G__law_lowest⟩ := h__law_lowest
  refine ⟨f, fd, D, D.F.ok sc__law_fraction (fun vs H Q E h => ?_) (fun cdv A outer s H vs Q E hr h => ?_)⟩
  · obtain ⟨a, c, r, n, rfl, _⟩ := h
    rfl
  · obtain ⟨a, c, r, n, rfl, dr, hn, q⟩ := h
    refine ⟨_, (pss_cons (ps_set (i := 1) sc__law_fraction.nd rfl (.inl rfl) (pe_ix ix_list (pe_lst (pa_cons pe_int (pa_cons pe_int (pa_cons (pe_op op_pow pe_int pe_int) (pa_cons (pe_op op_pow pe_int pe_int) pa_nil))))) (pe_call G__law_next (hr.mono (by omega)) (by rfl) g__law_next F__law_next.kp b__law_next .nil pass0 (pa_cons (pv 0) (pa_cons pe_int pa_nil))) (fun _ _ => rfl)))
      (pss_one (ps_ret (pe_call G__law_lowest (hr.mono (by omega)) (by rfl) g__law_lowest F__law_lowest.kp b__law_lowest .nil pass0 (pa_cons (pe_op op_sub (pe_call G__law_next (hr.mono (by omega)) (by rfl) g__law_next F__law_next.kp b__law_next .nil pass0 (pa_cons (pv 0) (pa_cons (pe_op op_add (pe_op op_mulW pe_int (pv 1)) pe_int) pa_nil))) (pv 1)) (pa_cons (pe_op op_add pe_int (pe_call G__law_next (hr.mono (by omega)) (by rfl) g__law_next F__law_next.kp b__law_next .nil pass0 (pa_cons (pv 0) (pa_cons (pv 1) pa_nil)))) pa_nil)))))), ?_⟩
    refine ⟨_, _, rfl, rfl, ⟨by decide, by decide, by decide⟩, _, _, rfl, rfl, ⟨by decide, by decide, by decide⟩, toks (by show 4 ≤ 1000; decide), fun p1 n1 => ?_⟩
    have k1 : Keep a r H (upd H p1 (.lst [.int 3, .int 9, .int ((10 : Int) ^ Int.toNat 6), .int ((10 : Int) ^ Int.toNat 29)])) := .same (same_upd n1)
    have d1 := dr.new (o := .lst [.int 3, .int 9, .int ((10 : Int) ^ Int.toNat 6), .int ((10 : Int) ^ Int.toNat 29)]) n1
    refine ⟨.ref a, rfl, a, c, r, n, 4, rfl, d1, by omega, by decide, by decide, fun v H1 v0 v4 d2 k2 => ?_⟩
    have hp1 : H1 p1 = some (.lst [.int 3, .int 9, .int ((10 : Int) ^ Int.toNat 6), .int ((10 : Int) ^ Int.toNat 29)]) := k2 _ _ (dr.ne_new n1).1 (dr.ne_new n1).2.2 upd_same
    obtain ⟨g, hg, g0, g1⟩ : ∃ g : Int, atI [V.int 3, V.int 9, V.int ((10 : Int) ^ Int.toNat 6), V.int ((10 : Int) ^ Int.toNat 29)] v = some (V.int g) ∧ 1 ≤ g ∧ g ≤ 10 ^ 29 := by
      have e : v = 0 ∨ v = 1 ∨ v = 2 ∨ v = 3 := by omega
      rcases e with e | e | e | e
      · subst e
        exact ⟨3, rfl, by decide, by decide⟩
      · subst e
        exact ⟨9, rfl, by decide, by decide⟩
      · subst e
        exact ⟨(10 : Int) ^ Int.toNat 6, rfl, by decide, by decide⟩
      · subst e
        exact ⟨(10 : Int) ^ Int.toNat 29, rfl, by decide, by decide⟩
    refine ⟨p1, _, v, _, rfl, rfl, .inl (.inl hp1), hg, ?_⟩
    have gb : g.natAbs < 2 ^ 97 := by omega
    refine ⟨.ref a, rfl, .int g, rfl, _, _, rfl, rfl, wide_mul (a := 2) (b := 97) (by decide) gb (by decide) (by decide) (by decide), _, _, rfl, rfl, a, c, r, n + 1, _, rfl, d2, by omega, ?_, ?_, fun u H2 u0 u1 d3 k3 => ?_⟩
    · show 0 < 2 * g + 1
      omega
    · refine Nat.lt_of_lt_of_le (PySem.Flt.log2_lt_of (show 0 < 100 by decide) ?_) (by decide : 100 ≤ 9000)
      show (2 * g + 1).natAbs < 2 ^ 100
      omega
    refine ⟨.int g, rfl, _, _, rfl, rfl, .ref a, rfl, .int g, rfl, a, c, r, n + 2, _, rfl, d3, by omega, by omega, ?_, fun y H3 y0 y1 d4 k4 => ?_⟩
    · refine Nat.lt_of_lt_of_le (PySem.Flt.log2_lt_of (show 0 < 100 by decide) ?_) (by decide : 100 ≤ 9000)
      omega
    refine ⟨_, _, rfl, rfl, u - g, 1 + y, 100, rfl, by omega, by omega, by decide, by decide, fun t nt => ?_⟩
    have kk : Keep a r H H3 := ((k1.trans k2).trans k3).trans k4
    refine q _ t (Fr.red (u - g) (1 + y)) (Fr.red_isF (by omega)) (Fr.red_sz (by show (u - g).natAbs < 2 ^ 100; replace u1 : u < 2 * g + 1 := u1; omega) (by omega)) (d4.new nt) (kk.trans (.same (same_upd nt))) ?_ upd_same
    cases e : H t with
    | none => rfl
    | some o =>
      have ne : t ≠ a ∧ t ≠ c ∧ t ≠ r := d4.ne_new nt
      rw [kk t o ne.1 ne.2.2 e] at nt
      cases nt
/-! ### equal as values of the same kinds -/
abbrev s__law_equal : Stmt := topS 8
abbrev N__law_equal : List Str := ["_law_one_here", "_law_other", "_law_a", "_law_b"]
abbrev P__law_equal : List Str := ["_law_one_here", "_law_other"]
theorem sc__law_equal : FnScope N__law_equal P__law_equal (defScope s__law_equal) := ⟨rfl, rfl, rfl, by decide +kernel, rfl, by decide +kernel, by decide +kernel⟩
def sp__law_equal (n : Nat) : Sp := fun vs H Q _ => ∃ (v v' : V) (d d' : PyData), vs = [v, v'] ∧ Da H v d ∧ Da H v' d' ∧ plainD d = true ∧ plainD d' = true ∧ dep d < n ∧ n ≤ 20 ∧ ∀ H', Same H H' → Q (.bl (deq d d')) H'
theorem ok__law_equal (D : IsDef K mg "_law_equal" s__law_equal P__law_equal) (m_isinstance : mg "isinstance" = none) (m_tuple : mg "tuple" = none) (m_bool : mg "bool" = none) (m_int : mg "int" = none) (m_str : mg "str" = none) (m_len : mg "len" = none) (m_all : mg "all" = none) (m_zip : mg "zip" = none) :
    ∀ n, Ok P w K mg base n "_law_equal" s__law_equal P__law_equal (sp__law_equal n)
  | 0 => by
    obtain ⟨f, fd, D⟩ := D
    exact ⟨f, fd, D, fn_none fun vs H Q E h => by
      obtain ⟨_, _, _, _, _, _, _, _, _, z, _⟩ := h
      omega⟩
  | n + 1 => by
    obtain ⟨f__law_equal, fd__law_equal, ⟨F__law_equal, b__law_equal, g__law_equal⟩, G__law_equal⟩ := ok__law_equal D m_isinstance m_tuple m_bool m_int m_str m_len m_all m_zip n
    refine ⟨_, _, ⟨F__law_equal, b__law_equal, g__law_equal⟩, F__law_equal.ok sc__law_equal (fun vs H Q E h => ?_) (fun cdv A outer s H vs Q E hr h => ?_)⟩
    · obtain ⟨v, v', d, d', rfl, _⟩ := h
      rfl
    · obtain ⟨v, v', d, d', rfl, hv, hv', pd, pd', hd, hn, q⟩ := h
      refine ⟨_, (pss_cons (ps_if (PW.pt (pw_and (pt_val (pe_callB call_isi (by rfl) m_isinstance (by decide +kernel) (pa_cons (pv 0) (pa_cons (pe_bltn (v := .ty "tuple") (by rfl) m_tuple (by decide +kernel) rfl) pa_nil)))) (pw_and1 (pt_val (pe_callB call_isi (by rfl) m_isinstance (by decide +kernel) (pa_cons (pv 1) (pa_cons (pe_bltn (v := .ty "tuple") (by rfl) m_tuple (by decide +kernel) rfl) pa_nil))))))) (pss_one (ps_ret (pe_and (pe_cmpR op_eq (pe_callB call_len_seq (by rfl) m_len (by decide +kernel) (pa_cons (pv 0) pa_nil)) (pe_callB call_len_seq (by rfl) m_len (by decide +kernel) (pa_cons (pv 1) pa_nil)) (nomark _)) (pe_one (pe_callB (cr_all (by rfl)) (by rfl) m_all (by decide +kernel) (pa_cons (pe_lc (own := [("_law_a", 2), ("_law_b", 3)]) (g := gTup _ 2 (gCons (gName 2) (gCons (gName 3) gNil))) (by rfl) sc__law_equal.nd (pi_zipA (by rfl) m_zip (pa_cons (pv 0) (pa_cons (pv 1) pa_nil))) (blkOk_by (own := [("_law_a", 2), ("_law_b", 3)]) (N := N__law_equal) (sc := defScope s__law_equal) (by decide +kernel)) (fun _ _ _ _ _ => by exact (pg_tup (by rfl) (pgs_cons (pg_name (i := 2) sc__law_equal.nd rfl (.inl rfl)) (pgs_cons (pg_name (i := 3) sc__law_equal.nd rfl (.inl rfl)) pgs_nil)))) (fun _ _ _ _ _ => pts_nil) (fun _ _ _ _ _ => by exact (pe_call G__law_equal (hr.mono (by omega)) (by rfl) g__law_equal F__law_equal.kp b__law_equal .nil pass0 (pa_cons (pv 2) (pa_cons (pv 3) pa_nil))))) pa_nil)))))) pss_nil)
      (pss_cons (ps_if (PW.pt (pw_or (pt_val (pe_callB call_isi (by rfl) m_isinstance (by decide +kernel) (pa_cons (pv 0) (pa_cons (pe_bltn (v := .ty "bool") (by rfl) m_bool (by decide +kernel) rfl) pa_nil)))) (pw_or1 (pt_val (pe_callB call_isi (by rfl) m_isinstance (by decide +kernel) (pa_cons (pv 1) (pa_cons (pe_bltn (v := .ty "bool") (by rfl) m_bool (by decide +kernel) rfl) pa_nil))))))) (pss_one (ps_ret (pe_and (pe_callB call_isi (by rfl) m_isinstance (by decide +kernel) (pa_cons (pv 0) (pa_cons (pe_bltn (v := .ty "bool") (by rfl) m_bool (by decide +kernel) rfl) pa_nil))) (pe_and (pe_callB call_isi (by rfl) m_isinstance (by decide +kernel) (pa_cons (pv 1) (pa_cons (pe_bltn (v := .ty "bool") (by rfl) m_bool (by decide +kernel) rfl) pa_nil))) (pe_one (pe_cmpR (op_eqD hr.units) (pv 0) (pv 1) (nomark _))))))) pss_nil)
      (pss_cons (ps_if (pt_cmpR op_ne (pe_callB call_isi (by rfl) m_isinstance (by decide +kernel) (pa_cons (pv 0) (pa_cons (pe_bltn (v := .ty "tuple") (by rfl) m_tuple (by decide +kernel) rfl) pa_nil))) (pe_callB call_isi (by rfl) m_isinstance (by decide +kernel) (pa_cons (pv 1) (pa_cons (pe_bltn (v := .ty "tuple") (by rfl) m_tuple (by decide +kernel) rfl) pa_nil))) (nomark _)) (pss_one (ps_ret pe_bl)) pss_nil)
      (pss_cons (ps_if (pt_cmpR op_ne (pe_callB call_isi (by rfl) m_isinstance (by decide +kernel) (pa_cons (pv 0) (pa_cons (pe_bltn (v := .ty "int") (by rfl) m_int (by decide +kernel) rfl) pa_nil))) (pe_callB call_isi (by rfl) m_isinstance (by decide +kernel) (pa_cons (pv 1) (pa_cons (pe_bltn (v := .ty "int") (by rfl) m_int (by decide +kernel) rfl) pa_nil))) (nomark _)) (pss_one (ps_ret pe_bl)) pss_nil)
      (pss_one (ps_ret (pe_and (pe_cmpR op_eq (pe_callB call_isi (by rfl) m_isinstance (by decide +kernel) (pa_cons (pv 0) (pa_cons (pe_bltn (v := .ty "str") (by rfl) m_str (by decide +kernel) rfl) pa_nil))) (pe_callB call_isi (by rfl) m_isinstance (by decide +kernel) (pa_cons (pv 1) (pa_cons (pe_bltn (v := .ty "str") (by rfl) m_str (by decide +kernel) rfl) pa_nil))) (nomark _)) (pe_one (pe_cmpR (op_eqD hr.units) (pv 0) (pv 1) (nomark _)))))))))), ?_⟩
      -- two tuples
      refine ⟨v, rfl, v, .ty "tuple", _, _, isT d, rfl, .ty "tuple", hv.ty, kitT hv, _, rfl, ite2 (fun e1 => ?A) (fun e1 => ?B)⟩
      case' A =>
        refine ⟨v', rfl, v', .ty "tuple", _, _, isT d', rfl, .ty "tuple", hv'.ty, kitT hv', _, rfl, ite2 (fun e2 => ?C) (fun e2 => ?D)⟩
        case C =>
          cases hv with
          | @tup a xs ds ha hxs =>
            cases hv' with
            | @tup b ys es hb hys =>
              refine ⟨.ref a, rfl, a, _, rfl, .inr (.inl (.inl ha)), .ref b, rfl, b, _, rfl, .inr (.inl (.inl hb)), rfl, _, rfl, ite2 (fun e => ?_) (fun e => ?_)⟩
              · have el : xs.length = ys.length := by
                  have := V.int.inj (of_decide_eq_true e)
                  omega
                have eds : ds.length = es.length := by rw [← hxs.length, ← hys.length, el]
                refine ⟨.ref a, rfl, .ref b, rfl, a, b, xs, ys, rfl, .inr ⟨.inl (.inl ha), .inl (.inl hb), fun D nD => ?_⟩⟩
                have sD := same_upd (ob := .lst []) nD
                refine lc_it (walk_zipT (xs := xs) (ys := ys) rfl el) (fun i H' => Same H H' ∧ H' D = some (.lst ((((List.zip ds es).take i).map fun p => deq p.1 p.2).map V.bl))) ⟨sD, upd_same⟩ (fun i H' _ p => ⟨.inl (.inl (p.1 _ _ ha)), .inl (.inl (p.1 _ _ hb))⟩) (fun i x H1 H2 hi p y => ?_) (fun H1 p => ?_)
                · obtain ⟨T, x1, y1, rfl, nT, rfl, g1, g2⟩ := y
                  obtain ⟨dx, gx, hx⟩ := hxs.get i g1
                  obtain ⟨dy, gy, hy⟩ := hys.get i g2
                  have sT : Same H1 (upd H1 T (.tup [x1, y1])) := same_upd nT
                  have s1 := p.1.trans sT
                  have tD : D ≠ T := ne_of_none p.2 nT
                  refine ⟨T, [x1, y1], rfl, .inl (.inl upd_same), rfl, x1, [y1], rfl, y1, [], rfl, rfl, rfl, ?_⟩
                  refine ⟨x1, rfl, y1, rfl, x1, y1, dx, dy, rfl, hx.same s1, hy.same s1, plain_get (plain_tup pd).2 gx, plain_get (plain_tup pd').2 gy, ?_, by omega, fun H3 s3 => ?_⟩
                  · have h1 := dep_get gx
                    have h2 : dep.depL ds + 1 < n + 1 := hd
                    omega
                  refine ⟨_, s3 _ _ (by rw [upd_ne tD]; exact p.2), ?_, fun c o hc => ?_, ?_⟩
                  · rw [List.length_map, List.length_map, List.length_take]
                    have h1 := (plain_tup pd).1
                    have h2 := hxs.length
                    exact small1000 (by omega)
                  · rw [upd_ne (ne_of_none hc nD)]
                    exact s3 _ _ (s1 _ _ hc)
                  · rw [upd_same, List.take_add_one, List.map_append, List.map_append]
                    have ez : (List.zip ds es)[i]? = some (dx, dy) := by
                      rw [List.getElem?_zip_eq_some]
                      exact ⟨gx, gy⟩
                    rw [ez]
                    rfl
                · have el2 : xs.length = (List.zip ds es).length := by
                    rw [List.length_zip, ← hxs.length, ← hys.length, ← el, Nat.min_self]
                  obtain ⟨s1, hD⟩ := p
                  rw [el2, List.take_length] at hD
                  refine ⟨D, _, rfl, .inl (.inl hD), ?_⟩
                  rw [← deqL_all eds]
                  exact q _ s1
              · have el : ds.length ≠ es.length := fun z => e (by
                  rw [hxs.length, hys.length, z]
                  exact decide_eq_true rfl)
                have := q _ (Same.refl H)
                unfold deq at this
                rw [deqL_len el] at this
                exact this
            | non => cases e2
            | bl => cases e2
            | int => cases e2
            | str => cases e2
            | lst => cases e2
            | dic => cases e2
          | non => cases e1
          | bl => cases e1
          | int => cases e1
          | str => cases e1
          | lst => cases e1
          | dic => cases e1
        case' D => have e3 : isT d = false ∨ isT d' = false := .inr (by simpa using e2)
      case' B => have e3 : isT d = false ∨ isT d' = false := .inl (by simpa using e1)
      all_goals
        have q0 := q _ (Same.refl H)
        refine ⟨v, rfl, v, .ty "bool", _, _, isB d, rfl, .ty "bool", hv.ty, kitBo hv, _, rfl, ite2 (fun e4 => ?_) (fun e4 => ?_)⟩
        · refine ⟨v, rfl, v, .ty "bool", _, _, isB d, rfl, .ty "bool", hv.ty, kitBo hv, _, rfl, ite2 (fun _ => ?_) (fun e => absurd e4 e)⟩
          refine ⟨v', rfl, v', .ty "bool", _, _, isB d', rfl, .ty "bool", hv'.ty, kitBo hv', _, rfl, ite2 (fun e5 => ?_) (fun e5 => ?_)⟩
          · refine ⟨v, rfl, v', rfl, d, d', hv.dp (plain_nd pd), hv'.dp (plain_nd pd'), ?_, ?_, ?_⟩
            · cases d <;> first | rfl | cases e4
            · cases d' <;> first | rfl | cases e5
            · rw [deq_bb e4 e5]
              exact q0
          · rw [deq_nb (by rw [e4]; exact fun z => e5 z.symm)] at q0
            exact q0
        · replace e4 : isB d = false := by simpa using e4
          refine ⟨v', rfl, v', .ty "bool", _, _, isB d', rfl, .ty "bool", hv'.ty, kitBo hv', _, rfl, ite2 (fun e5 => ?_) (fun e5 => ?_)⟩
          · refine ⟨v, rfl, v, .ty "bool", _, _, isB d, rfl, .ty "bool", hv.ty, kitBo hv, _, rfl, ite2 (fun e => ?_) (fun _ => ?_)⟩
            · rw [e4] at e
              cases e
            · rw [deq_nb (by rw [e4, e5]; decide)] at q0
              exact q0
          · replace e5 : isB d' = false := by simpa using e5
            refine ⟨v, rfl, v, .ty "tuple", _, _, isT d, rfl, .ty "tuple", hv.ty, kitT hv, v', rfl, v', .ty "tuple", _, _, isT d', rfl, .ty "tuple", hv'.ty, kitT hv', rfl, _, rfl, ite2 (fun e => ?_) (fun e => ?_)⟩
            · rw [deq_nt (fun z => by rw [z, decide_eq_true rfl] at e; cases e)] at q0
              exact q0
            · have et : isT d = isT d' := by
                refine Decidable.byContradiction fun z => e ?_
                rw [decide_eq_false (fun w => z (V.bl.inj w))]
                rfl
              have t1 : isT d = false := by
                rcases e3 with e3 | e3
                · exact e3
                · rw [et, e3]
              have t2 : isT d' = false := by rw [← et, t1]
              refine ⟨v, rfl, v, .ty "int", _, _, isI d, rfl, .ty "int", hv.ty, kitI hv, v', rfl, v', .ty "int", _, _, isI d', rfl, .ty "int", hv'.ty, kitI hv', rfl, _, rfl, ite2 (fun e => ?_) (fun e => ?_)⟩
              · rw [deq_ni (fun z => by rw [z, decide_eq_true rfl] at e; cases e)] at q0
                exact q0
              · have ei : isI d = isI d' := by
                  refine Decidable.byContradiction fun z => e ?_
                  rw [decide_eq_false (fun w => z (V.bl.inj w))]
                  rfl
                refine ⟨v, rfl, v, .ty "str", _, _, isS d, rfl, .ty "str", hv.ty, kitS hv, v', rfl, v', .ty "str", _, _, isS d', rfl, .ty "str", hv'.ty, kitS hv', rfl, _, rfl, ite2 (fun e => ?_) (fun e => ?_)⟩
                · have es : isS d = isS d' := V.bl.inj (of_decide_eq_true e)
                  refine ⟨v, rfl, v', rfl, d, d', hv.dp (plain_nd pd), hv'.dp (plain_nd pd'), shaped_flat pd t1, shaped_flat pd' t2, ?_⟩
                  rw [deq_rest pd pd' e4 e5 t1 t2 ei es]
                  exact q0
                · rw [deq_ns (fun z => e (by rw [z]; exact decide_eq_true rfl))] at q0
                  exact q0
end
end PM

namespace PM
open PySem PySem.Spec PyProof.Rows L2 RZ
section
variable {P : Program} {w : World} {K : PySem.W.Frag} {mg : Str → Option Value} {base : Heap}
/-! ### is_plain_integer -/
abbrev s_is_plain_integer : Stmt := topS 1
abbrev N_is_plain_integer : List Str := ["value"]
abbrev P_is_plain_integer : List Str := ["value"]
theorem sc_is_plain_integer : FnScope N_is_plain_integer P_is_plain_integer (defScope s_is_plain_integer) := ⟨rfl, rfl, rfl, by decide +kernel, rfl, by decide +kernel, by decide +kernel⟩
def sp_is_plain_integer : Sp := fun vs H Q _ => ∃ (v : V) (d : PyData), vs = [v] ∧ Da H v d ∧ Q (.bl (isI d && !isB d)) H
theorem ok_is_plain_integer {k : Nat} (d : IsDef K mg "is_plain_integer" s_is_plain_integer P_is_plain_integer) (m_isinstance : mg "isinstance" = none) (m_int : mg "int" = none) (m_bool : mg "bool" = none) : Ok P w K mg base (k + 1) "is_plain_integer" s_is_plain_integer P_is_plain_integer sp_is_plain_integer := by
  obtain ⟨f, fd, D⟩ := d
  refine ⟨f, fd, D, D.F.ok sc_is_plain_integer (fun vs H Q E h => ?_) (fun cdv A outer s H vs Q E hr h => ?_)⟩
  · obtain ⟨v, d, rfl, _⟩ := h
    rfl
  · obtain ⟨v, d, rfl, hv, q⟩ := h
    refine ⟨_, (pss_one (ps_ret (pe_and (pe_callB call_isi (by rfl) m_isinstance (by decide +kernel) (pa_cons (pv 0) (pa_cons (pe_bltn (v := .ty "int") (by rfl) m_int (by decide +kernel) rfl) pa_nil))) (pe_one (pe_not (pe_callB call_isi (by rfl) m_isinstance (by decide +kernel) (pa_cons (pv 0) (pa_cons (pe_bltn (v := .ty "bool") (by rfl) m_bool (by decide +kernel) rfl) pa_nil)))))))), ?_⟩
    refine ⟨v, rfl, v, .ty "int", _, _, isI d, rfl, .ty "int", hv.ty, kitI hv, _, rfl, ite2 (fun e => ?_) (fun e => ?_)⟩
    · refine ⟨v, rfl, v, .ty "bool", _, _, isB d, rfl, .ty "bool", hv.ty, kitBo hv, _, rfl, ?_⟩
      rw [e, Bool.true_and] at q
      exact q
    · rw [show isI d = false by simpa using e, Bool.false_and] at q
      exact q
theorem isInt {d : PyData} (h : (isI d && !isB d) = true) : ∃ i, d = .int i := by
  cases d <;> first | exact ⟨_, rfl⟩ | exact absurd h Bool.false_ne_true
/-! ### is_fraction -/
abbrev s_is_fraction : Stmt := topS 3
abbrev N_is_fraction : List Str := ["value", "numerator", "denominator"]
abbrev P_is_fraction : List Str := ["value"]
theorem sc_is_fraction : FnScope N_is_fraction P_is_fraction (defScope s_is_fraction) := ⟨rfl, rfl, rfl, by decide +kernel, rfl, by decide +kernel, by decide +kernel⟩
def sp_is_fraction : Sp := fun vs H Q _ => ∃ (v : V) (d : PyData), vs = [v] ∧ Da H v d ∧ Q (.bl (isFrD d)) H
theorem ok_is_fraction (d : IsDef K mg "is_fraction" s_is_fraction P_is_fraction) (m_isinstance : mg "isinstance" = none) (m_tuple : mg "tuple" = none) (m_len : mg "len" = none) (h_is_plain_integer : Ok P w K mg base 1 "is_plain_integer" s_is_plain_integer P_is_plain_integer sp_is_plain_integer) (h_common_divisor : Ok P w K mg base 1 "common_divisor" s_common_divisor P_common_divisor sp_common_divisor) : Ok P w K mg base 2 "is_fraction" s_is_fraction P_is_fraction sp_is_fraction := by
  obtain ⟨f, fd, D⟩ := d
  obtain ⟨f_is_plain_integer, fd_is_plain_integer, ⟨F_is_plain_integer, b_is_plain_integer, g_is_plain_integer⟩, G_is_plain_integer⟩ := h_is_plain_integer
  obtain ⟨f_common_divisor, fd_common_divisor, ⟨F_common_divisor, b_common_divisor, g_common_divisor⟩, G_common_divisor⟩ := h_common_divisor
  refine ⟨f, fd, D, D.F.ok sc_is_fraction (fun vs H Q E h => ?_) (fun cdv A outer s H vs Q E hr h => ?_)⟩
  · obtain ⟨v, d, rfl, _⟩ := h
    rfl
  · obtain ⟨v, d, rfl, hv, q⟩ := h
    refine ⟨_, (pss_cons (ps_if (PW.pt (pw_or (pt_not (pt_val (pe_callB call_isi (by rfl) m_isinstance (by decide +kernel) (pa_cons (pv 0) (pa_cons (pe_bltn (v := .ty "tuple") (by rfl) m_tuple (by decide +kernel) rfl) pa_nil))))) (pw_or1 (pt_cmpR op_ne (pe_callB call_len_seq (by rfl) m_len (by decide +kernel) (pa_cons (pv 0) pa_nil)) pe_int (nomark _))))) (pss_one (ps_ret pe_bl)) pss_nil)
      (pss_cons (ps_asg (pv 0) (pg_tup (by rfl) (pgs_cons (pg_name (i := 1) sc_is_fraction.nd rfl (.inl rfl)) (pgs_cons (pg_name (i := 2) sc_is_fraction.nd rfl (.inl rfl)) pgs_nil))))
      (pss_cons (ps_if (PW.pt (pw_or (pt_not (pt_val (pe_call G_is_plain_integer (hr.mono (by omega)) (by rfl) g_is_plain_integer F_is_plain_integer.kp b_is_plain_integer .nil pass0 (pa_cons (pv 1) pa_nil)))) (pw_or1 (pt_not (pt_val (pe_call G_is_plain_integer (hr.mono (by omega)) (by rfl) g_is_plain_integer F_is_plain_integer.kp b_is_plain_integer .nil pass0 (pa_cons (pv 2) pa_nil))))))) (pss_one (ps_ret pe_bl)) pss_nil)
      (pss_one (ps_ret (pe_and (pe_cmpR op_ge (pv 2) pe_int (nomark _)) (pe_one (pe_cmpR op_eq (pe_call G_common_divisor (hr.mono (by omega)) (by rfl) g_common_divisor F_common_divisor.kp b_common_divisor .nil pass0 (pa_cons (pv 1) (pa_cons (pv 2) pa_nil))) pe_int (nomark _))))))))), ?_⟩
    refine ⟨v, rfl, v, .ty "tuple", _, _, isT d, rfl, .ty "tuple", hv.ty, kitT hv, _, rfl, ?_⟩
    cases hv with
    | @tup a xs ds e h =>
      refine ⟨.ref a, rfl, a, _, rfl, .inr (.inl (.inl e)), rfl, _, rfl, ite2 (fun z => ?_) (fun z => ?_)⟩
      · have ne : ds.length ≠ 2 := fun y => by
          rw [h.length, y] at z
          exact absurd z (by decide)
        have : isFrD (.tuple ds) = false := by
          match ds, ne with
          | [], _ => rfl
          | [_], _ => rfl
          | [_, _], ne => exact absurd rfl ne
          | _ :: _ :: _ :: _, _ => rfl
        rw [this] at q
        exact q
      · have two : ds.length = 2 := by
          refine Decidable.byContradiction fun y => z ?_
          rw [decide_eq_false (fun w => y (by have := V.int.inj w; rw [h.length] at this; omega))]
          rfl
        match xs, ds, h, two with
        | [v1, v2], [d1, d2], .cons h1 (.cons h2 .nil), _ =>
          refine ⟨.ref a, rfl, a, _, rfl, .inl (.inl e), rfl, _, _, rfl, _, _, rfl, rfl, ?_⟩
          refine ⟨v1, rfl, v1, d1, rfl, h1, _, rfl, ite2 (fun y1 => ?_) (fun y1 => ?_)⟩
          · have : isFrD (.tuple [d1, d2]) = false := by
              cases d1 <;> first | rfl | exact absurd y1 Bool.false_ne_true
            rw [this] at q
            exact q
          · obtain ⟨i1, rfl⟩ := isInt (d := d1) (by simpa using y1)
            refine ⟨v2, rfl, v2, d2, rfl, h2, _, rfl, ite2 (fun y2 => ?_) (fun y2 => ?_)⟩
            · have : isFrD (.tuple [.int i1, d2]) = false := by
                cases d2 <;> first | rfl | exact absurd y2 Bool.false_ne_true
              rw [this] at q
              exact q
            · obtain ⟨i2, rfl⟩ := isInt (d := d2) (by simpa using y2)
              cases h1
              cases h2
              refine ⟨.int i2, rfl, _, _, rfl, rfl, _, rfl, ite2 (fun g => ?_) (fun g => ?_)⟩
              · have g : 1 ≤ i2 := of_decide_eq_true g
                refine ⟨.int i1, rfl, .int i2, rfl, i1, i2, rfl, rfl, ?_⟩
                have : isFrD (.tuple [.int i1, .int i2]) = decide (V.int (Int.gcd i1 i2 : Int) = V.int 1) := by
                  show (decide (0 < i2) && decide (Int.gcd i1 i2 = 1)) = _
                  rw [decide_eq_true (show 0 < i2 by omega), Bool.true_and]
                  by_cases c : Int.gcd i1 i2 = 1
                  · rw [c, decide_eq_true rfl]
                    rfl
                  · rw [decide_eq_false c, decide_eq_false (fun w => c (by have := V.int.inj w; omega))]
                rw [this] at q
                exact q
              · have g : ¬ 1 ≤ i2 := fun y => g (decide_eq_true y)
                have : isFrD (.tuple [.int i1, .int i2]) = false := by
                  show (decide (0 < i2) && decide (Int.gcd i1 i2 = 1)) = false
                  rw [decide_eq_false (show ¬ 0 < i2 by omega), Bool.false_and]
                rw [this] at q
                exact q
    | non => exact q
    | bl => exact q
    | int => exact q
    | str => exact q
    | lst => exact q
    | dic => exact q
/-! ### the law's own check -/
abbrev s__law_sized : Stmt := topS 10
abbrev N__law_sized : List Str := ["_law_value", "_law_low", "_law_high"]
abbrev P__law_sized : List Str := ["_law_value", "_law_low", "_law_high"]
theorem sc__law_sized : FnScope N__law_sized P__law_sized (defScope s__law_sized) := ⟨rfl, rfl, rfl, by decide +kernel, rfl, by decide +kernel, by decide +kernel⟩
def sizedD (lo hi : Int) : PyData → Bool
  | .tuple ds => decide (lo ≤ ds.length) && decide ((ds.length : Int) ≤ hi)
  | _ => false
def sp__law_sized : Sp := fun vs H Q _ => ∃ (v : V) (d : PyData) (lo hi : Int), vs = [v, .int lo, .int hi] ∧ Da H v d ∧ Q (.bl (sizedD lo hi d)) H
theorem ok__law_sized {k : Nat} (d : IsDef K mg "_law_sized" s__law_sized P__law_sized) (m_isinstance : mg "isinstance" = none) (m_tuple : mg "tuple" = none) (m_len : mg "len" = none) : Ok P w K mg base (k + 1) "_law_sized" s__law_sized P__law_sized sp__law_sized := by
  obtain ⟨f, fd, D⟩ := d
  refine ⟨f, fd, D, D.F.ok sc__law_sized (fun vs H Q E h => ?_) (fun cdv A outer s H vs Q E hr h => ?_)⟩
  · obtain ⟨v, d, lo, hi, rfl, _⟩ := h
    rfl
  · obtain ⟨v, d, lo, hi, rfl, hv, q⟩ := h
    refine ⟨_, (pss_one (ps_ret (pe_and (pe_callB call_isi (by rfl) m_isinstance (by decide +kernel) (pa_cons (pv 0) (pa_cons (pe_bltn (v := .ty "tuple") (by rfl) m_tuple (by decide +kernel) rfl) pa_nil))) (pe_one (pe_chain op_le op_le (pv 1) (pe_callB call_len_seq (by rfl) m_len (by decide +kernel) (pa_cons (pv 0) pa_nil)) (pv 2)))))), ?_⟩
    refine ⟨v, rfl, v, .ty "tuple", _, _, isT d, rfl, .ty "tuple", hv.ty, kitT hv, _, rfl, ?_⟩
    cases hv with
    | @tup a xs ds e h =>
      refine ⟨.int lo, rfl, .ref a, rfl, a, _, rfl, .inr (.inl (.inl e)), _, _, rfl, rfl, _, rfl, ?_⟩
      have q : Q (.bl (decide (lo ≤ (ds.length : Int)) && decide ((ds.length : Int) ≤ hi))) H := q
      rw [← h.length] at q
      refine ite2 (fun z => ?_) (fun z => ?_)
      · rw [z, Bool.true_and] at q
        exact ⟨.int hi, rfl, _, _, rfl, rfl, q⟩
      · rw [show decide (lo ≤ (xs.length : Int)) = false by simpa using z, Bool.false_and] at q
        exact q
    | non => exact q
    | bl => exact q
    | int => exact q
    | str => exact q
    | lst => exact q
    | dic => exact q
abbrev s__law_is_fraction : Stmt := topS 14
abbrev N__law_is_fraction : List Str := ["_law_value"]
abbrev P__law_is_fraction : List Str := ["_law_value"]
theorem sc__law_is_fraction : FnScope N__law_is_fraction P__law_is_fraction (defScope s__law_is_fraction) := ⟨rfl, rfl, rfl, by decide +kernel, rfl, by decide +kernel, by decide +kernel⟩
def sp__law_is_fraction : Sp := fun vs H Q _ => ∃ (v : V) (d : PyData), vs = [v] ∧ Da H v d ∧ smallD d = true ∧ ∀ H', Same H H' → Q (.bl (isFrD d)) H'
theorem ok__law_is_fraction (d : IsDef K mg "_law_is_fraction" s__law_is_fraction P__law_is_fraction) (m_isinstance : mg "isinstance" = none) (m_bool : mg "bool" = none) (m_int : mg "int" = none) (h__law_sized : Ok P w K mg base 1 "_law_sized" s__law_sized P__law_sized sp__law_sized) (h__law_lowest : Ok P w K mg base 1 "_law_lowest" s__law_lowest P__law_lowest sp__law_lowest) : Ok P w K mg base 2 "_law_is_fraction" s__law_is_fraction P__law_is_fraction sp__law_is_fraction := by
  obtain ⟨f, fd, D⟩ := d
  obtain ⟨f__law_sized, fd__law_sized, ⟨F__law_sized, b__law_sized, g__law_sized⟩, G__law_sized⟩ := h__law_sized
  obtain ⟨f__law_lowest, fd__law_lowest, ⟨F__law_lowest, b__law_lowest, g__law_lowest⟩, G__law_lowest⟩ := h__law_lowest
  refine ⟨f, fd, D, D.F.ok sc__law_is_fraction (fun vs H Q E h => ?_) (fun cdv A outer s H vs Q E hr h => ?_)⟩
  · obtain ⟨v, d, rfl, _⟩ := h
    rfl
  · obtain ⟨v, d, rfl, hv, sm, q⟩ := h
    refine ⟨_, (pss_cons (ps_if (PW.pt (pw_or (pt_not (pt_val (pe_call G__law_sized (hr.mono (by omega)) (by rfl) g__law_sized F__law_sized.kp b__law_sized .nil pass0 (pa_cons (pv 0) (pa_cons pe_int (pa_cons pe_int pa_nil)))))) (pw_or (pt_val (pe_callB call_isi (by rfl) m_isinstance (by decide +kernel) (pa_cons (pe_ix ix_tup (pv 0) pe_int (fun _ _ => rfl)) (pa_cons (pe_bltn (v := .ty "bool") (by rfl) m_bool (by decide +kernel) rfl) pa_nil)))) (pw_or1 (pt_val (pe_callB call_isi (by rfl) m_isinstance (by decide +kernel) (pa_cons (pe_ix ix_tup (pv 0) pe_int (fun _ _ => rfl)) (pa_cons (pe_bltn (v := .ty "bool") (by rfl) m_bool (by decide +kernel) rfl) pa_nil)))))))) (pss_one (ps_ret pe_bl)) pss_nil)
      (pss_cons (ps_if (PW.pt (pw_or (pt_not (pt_val (pe_callB call_isi (by rfl) m_isinstance (by decide +kernel) (pa_cons (pe_ix ix_tup (pv 0) pe_int (fun _ _ => rfl)) (pa_cons (pe_bltn (v := .ty "int") (by rfl) m_int (by decide +kernel) rfl) pa_nil))))) (pw_or (pt_not (pt_val (pe_callB call_isi (by rfl) m_isinstance (by decide +kernel) (pa_cons (pe_ix ix_tup (pv 0) pe_int (fun _ _ => rfl)) (pa_cons (pe_bltn (v := .ty "int") (by rfl) m_int (by decide +kernel) rfl) pa_nil))))) (pw_or1 (pt_cmpR op_lt (pe_ix ix_tup (pv 0) pe_int (fun _ _ => rfl)) pe_int (nomark _)))))) (pss_one (ps_ret pe_bl)) pss_nil)
      (pss_one (ps_ret (pe_cmpR (op_eqD hr.units) (pe_call G__law_lowest (hr.mono (by omega)) (by rfl) g__law_lowest F__law_lowest.kp b__law_lowest .nil pass0 (pa_cons (pe_ix ix_tup (pv 0) pe_int (fun _ _ => rfl)) (pa_cons (pe_ix ix_tup (pv 0) pe_int (fun _ _ => rfl)) pa_nil))) (pv 0) (nomark _)))))), ?_⟩
    have q0 := q _ (Same.refl H)
    refine ⟨v, rfl, v, d, 2, 2, rfl, hv, _, rfl, ite2 (fun z => ?_) (fun z => ?_)⟩
    · have : isFrD d = false := by
        cases d with
        | tuple ds =>
          match ds, z with
          | [], _ => rfl
          | [_], _ => rfl
          | [_, _], z => exact absurd z Bool.false_ne_true
          | _ :: _ :: _ :: _, _ => rfl
        | _ => rfl
      rw [this] at q0
      exact q0
    · obtain ⟨a, v1, v2, d1, d2, rfl, rfl, e, h1, h2⟩ : ∃ a v1 v2 d1 d2, v = .ref a ∧ d = .tuple [d1, d2] ∧ H a = some (.tup [v1, v2]) ∧ Da H v1 d1 ∧ Da H v2 d2 := by
        cases hv with
        | @tup a xs ds e h =>
          have two : ds.length = 2 := by
            have z : sizedD 2 2 (.tuple ds) = true := by simpa using z
            have z : (decide ((2 : Int) ≤ ds.length) && decide ((ds.length : Int) ≤ 2)) = true := z
            have z := Bool.and_eq_true_iff.mp z
            have z1 := of_decide_eq_true z.1
            have z2 := of_decide_eq_true z.2
            omega
          obtain ⟨v1, v2, d1, d2, rfl, rfl, h1, h2⟩ := h.two two
          exact ⟨a, v1, v2, d1, d2, rfl, rfl, e, h1, h2⟩
        | non => exact absurd rfl z
        | bl => exact absurd rfl z
        | int => exact absurd rfl z
        | str => exact absurd rfl z
        | lst => exact absurd rfl z
        | dic => exact absurd rfl z
      refine ⟨.ref a, rfl, a, _, _, _, rfl, rfl, .inl (.inl e), rfl, v1, .ty "bool", _, _, isB d1, rfl, .ty "bool", h1.ty, kitBo h1, _, rfl, ite2 (fun y1 => ?_) (fun y1 => ?_)⟩
      · have : isFrD (.tuple [d1, d2]) = false := by
          cases d1 <;> first | rfl | exact absurd y1 Bool.false_ne_true
        rw [this] at q0
        exact q0
      refine ⟨.ref a, rfl, a, _, _, _, rfl, rfl, .inl (.inl e), rfl, v2, .ty "bool", _, _, isB d2, rfl, .ty "bool", h2.ty, kitBo h2, _, rfl, ite2 (fun y2 => ?_) (fun y2 => ?_)⟩
      · have : isFrD (.tuple [d1, d2]) = false := by
          cases d1 <;> cases d2 <;> first | rfl | exact absurd y2 Bool.false_ne_true
        rw [this] at q0
        exact q0
      refine ⟨.ref a, rfl, a, _, _, _, rfl, rfl, .inl (.inl e), rfl, v1, .ty "int", _, _, isI d1, rfl, .ty "int", h1.ty, kitI h1, _, rfl, ite2 (fun y3 => ?_) (fun y3 => ?_)⟩
      · have : isFrD (.tuple [d1, d2]) = false := by
          cases d1 <;> first | rfl | exact absurd y3 Bool.false_ne_true
        rw [this] at q0
        exact q0
      obtain ⟨i1, rfl⟩ := isInt (d := d1) (by
        have a1 : isB d1 = false := by simpa using y1
        have a2 : isI d1 = true := by simpa using y3
        rw [a1, a2]
        rfl)
      refine ⟨.ref a, rfl, a, _, _, _, rfl, rfl, .inl (.inl e), rfl, v2, .ty "int", _, _, isI d2, rfl, .ty "int", h2.ty, kitI h2, _, rfl, ite2 (fun y4 => ?_) (fun y4 => ?_)⟩
      · have : isFrD (.tuple [.int i1, d2]) = false := by
          cases d2 <;> first | rfl | exact absurd y4 Bool.false_ne_true
        rw [this] at q0
        exact q0
      obtain ⟨i2, rfl⟩ := isInt (d := d2) (by
        have a1 : isB d2 = false := by simpa using y2
        have a2 : isI d2 = true := by simpa using y4
        rw [a1, a2]
        rfl)
      cases h1
      cases h2
      have e : FrAt H a (i1, i2) := e
      have big : i2.natAbs < 2 ^ 200 := by
        have sm : (decide (i1.natAbs < 2 ^ 200) && (decide (i2.natAbs < 2 ^ 200) && true)) = true := sm
        exact of_decide_eq_true (Bool.and_eq_true_iff.mp (Bool.and_eq_true_iff.mp sm).2).1
      refine ⟨.ref a, rfl, a, _, _, _, rfl, rfl, .inl (.inl e), rfl, _, _, rfl, rfl, _, rfl, ite2 (fun g => ?_) (fun g => ?_)⟩
      · have g : i2 < 1 := of_decide_eq_true g
        have : isFrD (.tuple [.int i1, .int i2]) = false := by
          show (decide (0 < i2) && decide (Int.gcd i1 i2 = 1)) = false
          rw [decide_eq_false (show ¬ 0 < i2 by omega), Bool.false_and]
        rw [this] at q0
        exact q0
      have g : ¬ i2 < 1 := fun y => g (decide_eq_true y)
      refine ⟨.ref a, rfl, a, _, _, _, rfl, rfl, .inl (.inl e), rfl, .ref a, rfl, a, _, _, _, rfl, rfl, .inl (.inl e), rfl, i1, i2, 200, rfl, by omega, big, by decide, by decide, fun t nt => ?_⟩
      have st := same_upd (ob := .tup [.int (Fr.red i1 i2).1, .int (Fr.red i1 i2).2]) nt
      refine ⟨.ref a, rfl, PM.fd (Fr.red i1 i2), PM.fd (i1, i2), frD upd_same, frD (e.same st), rfl, rfl, ?_⟩
      have : PyData.eqv (PM.fd (Fr.red i1 i2)) (PM.fd (i1, i2)) = isFrD (.tuple [.int i1, .int i2]) := by
        rw [eqv_fd]
        show decide (Fr.red i1 i2 = (i1, i2)) = (decide (0 < i2) && decide (Int.gcd i1 i2 = 1))
        rw [decide_eq_true (show 0 < i2 by omega), Bool.true_and]
        by_cases c : Int.gcd i1 i2 = 1
        · rw [decide_eq_true c, decide_eq_true (Fr.red_self (x := (i1, i2)) ⟨by show 0 < i2; omega, c⟩)]
        · rw [decide_eq_false c, decide_eq_false (fun w => c (by have := (Fr.red_isF (n := i1) (d := i2) (by omega)).2; rw [w] at this; exact this))]
      rw [this]
      exact q _ st
end
end PM

namespace PM
open PySem PySem.Spec PyProof.Rows L2 RZ
/-- data that leans only on what was laid since H -/
def FDa (H H' : Hp) (v : V) (d : PyData) : Prop := ∀ H'', (∀ b o, H b = none → H' b = some o → H'' b = some o) → Da H'' v d
theorem FDa.now {H H' : Hp} {v : V} {d : PyData} (h : FDa H H' v d) : Da H' v d := h H' fun _ _ _ e => e
theorem Keep.fresh {a c r : Addr} {n : Nat} {H H' : Hp} (k : Keep a r H H') (dr : Drw H' a c r n) {p : Addr} (e : H' p = none) : H p = none := by
  cases z : H p with
  | none => rfl
  | some o =>
    have ne := dr.ne_new e
    rw [k p o ne.1 ne.2.2 z] at e
    cases e
section
variable {P : Program} {w : World} {K : PySem.W.Frag} {mg : Str → Option Value} {base : Heap}
/-! ### one of a list -/
abbrev s__law_one : Stmt := topS 7
abbrev N__law_one : List Str := ["_law_drawn", "_law_items"]
abbrev P__law_one : List Str := ["_law_drawn", "_law_items"]
theorem sc__law_one : FnScope N__law_one P__law_one (defScope s__law_one) := ⟨rfl, rfl, rfl, by decide +kernel, rfl, by decide +kernel, by decide +kernel⟩
def sp__law_one : Sp := fun vs H Q _ => ∃ (a c r : Addr) (n : Nat) (l : Addr) (xs : List V), vs = [.ref a, .ref l] ∧ Drw H a c r n ∧ n < 1000000 ∧ H l = some (.lst xs) ∧ l ≠ a ∧ l ≠ r ∧ 0 < xs.length ∧ xs.length ≤ 1000 ∧
  ∀ H' v, v ∈ xs → Drw H' a c r (n + 1) → Keep a r H H' → Q v H'
theorem ok__law_one (d : IsDef K mg "_law_one" s__law_one P__law_one) (m_len : mg "len" = none) (h__law_next : Ok P w K mg base 1 "_law_next" s__law_next P__law_next sp__law_next) : Ok P w K mg base 2 "_law_one" s__law_one P__law_one sp__law_one := by
  obtain ⟨f, fd, D⟩ := d
  obtain ⟨f__law_next, fd__law_next, ⟨F__law_next, b__law_next, g__law_next⟩, G__law_next⟩ := h__law_next
  refine ⟨f, fd, D, D.F.ok sc__law_one (fun vs H Q E h => ?_) (fun cdv A outer s H vs Q E hr h => ?_)⟩
  · obtain ⟨a, c, r, n, l, xs, rfl, _⟩ := h
    rfl
  · obtain ⟨a, c, r, n, l, xs, rfl, dr, hn, hl, la, lr, x0, x1, q⟩ := h
    refine ⟨_, (pss_one (ps_ret (pe_ix ix_list (pv 1) (pe_call G__law_next (hr.mono (by omega)) (by rfl) g__law_next F__law_next.kp b__law_next .nil pass0 (pa_cons (pv 0) (pa_cons (pe_callB call_len_seq (by rfl) m_len (by decide +kernel) (pa_cons (pv 1) pa_nil)) pa_nil))) (fun _ _ => rfl)))), ?_⟩
    refine ⟨.ref l, rfl, .ref a, rfl, .ref l, rfl, l, xs, rfl, .inl (.inl (.inl hl)), a, c, r, n, _, rfl, dr, hn, ?_, ?_, fun j H1 j0 j1 d1 k1 => ?_⟩
    · show (0 : Int) < (xs.length : Int)
      omega
    · refine Nat.lt_of_lt_of_le (PySem.Flt.log2_lt_of (show 0 < 100 by decide) ?_) (by decide : 100 ≤ 9000)
      show ((xs.length : Int)).natAbs < 2 ^ 100
      omega
    obtain ⟨m, rfl⟩ := Int.eq_ofNat_of_zero_le j0
    have lt : m < xs.length := by
      have j1 : (m : Int) < (xs.length : Int) := j1
      omega
    exact ⟨l, xs, m, xs[m], rfl, rfl, .inl (.inl (k1 _ _ la lr hl)), atI_nat (List.getElem?_eq_getElem lt), q _ _ (List.getElem_mem lt) d1 k1⟩
/-! ### an odd value -/
abbrev s__law_odd : Stmt := topS 11
abbrev N__law_odd : List Str := ["_law_drawn", "_law_some"]
abbrev P__law_odd : List Str := ["_law_drawn"]
theorem sc__law_odd : FnScope N__law_odd P__law_odd (defScope s__law_odd) := ⟨rfl, rfl, rfl, by decide +kernel, rfl, by decide +kernel, by decide +kernel⟩
def sp__law_odd : Sp := fun vs H Q _ => ∃ (a c r : Addr) (n : Nat), vs = [.ref a] ∧ Drw H a c r n ∧ n < 1000000 ∧ ∀ H' v d, FDa H H' v d → Fin_ 4000 3 d → Drw H' a c r (n + 1) → Keep a r H H' → Q v H'
theorem ok__law_odd (d : IsDef K mg "_law_odd" s__law_odd P__law_odd) (h__law_one : Ok P w K mg base 2 "_law_one" s__law_one P__law_one sp__law_one) : Ok P w K mg base 3 "_law_odd" s__law_odd P__law_odd sp__law_odd := by
  obtain ⟨f, fd, D⟩ := d
  obtain ⟨f__law_one, fd__law_one, ⟨F__law_one, b__law_one, g__law_one⟩, G__law_one⟩ := h__law_one
  refine ⟨f, fd, D, D.F.ok sc__law_odd (fun vs H Q E h => ?_) (fun cdv A outer s H vs Q E hr h => ?_)⟩
  · obtain ⟨a, c, r, n, rfl, _⟩ := h
    rfl
  · obtain ⟨a, c, r, n, rfl, dr, hn, q⟩ := h
    refine ⟨_, (pss_cons (ps_set (i := 1) sc__law_odd.nd rfl (.inl rfl) (pe_lst (pa_cons pe_non (pa_cons pe_bl (pa_cons pe_bl (pa_cons pe_int (pa_cons (pe_un un_neg pe_int) (pa_cons pe_int (pa_cons pe_int (pa_cons (pe_op op_pow pe_int pe_int) (pa_cons pe_str (pa_cons pe_str (pa_cons pe_str (pa_cons (pe_tup pa_nil) (pa_cons (pe_lst pa_nil) (pa_cons pe_dnewK (pa_cons (pe_tup (pa_cons pe_int pa_nil)) (pa_cons (pe_lst (pa_cons pe_int pa_nil)) (pa_cons (pe_tup (pa_cons (pe_tup pa_nil) pa_nil)) pa_nil)))))))))))))))))))
      (pss_one (ps_ret (pe_call G__law_one (hr.mono (by omega)) (by rfl) g__law_one F__law_one.kp b__law_one .nil pass0 (pa_cons (pv 0) (pa_cons (pe_op op_cat (pv 1) (pe_lst (pa_cons (pe_tup (pa_cons pe_int (pa_cons pe_int pa_nil))) (pa_cons (pe_tup (pa_cons pe_int (pa_cons pe_int pa_nil))) (pa_cons (pe_tup (pa_cons pe_int (pa_cons pe_int pa_nil))) pa_nil))))) pa_nil)))))), ?_⟩
    refine ⟨1, rfl, _, _, rfl, rfl, ⟨by decide, by decide, by decide⟩, ?_⟩
    refine ⟨toks (by show 0 ≤ 1000; decide), fun t0 n_t0 => ?_⟩
    have q_t0 := same_upd (ob := .tup []) n_t0
    refine ⟨toks (by show 0 ≤ 1000; decide), fun l0 n_l0 => ?_⟩
    have q_l0 := same_upd (ob := .lst []) n_l0
    refine fun d0 n_d0 => ?_
    have q_d0 := same_upd (ob := .dK []) n_d0
    refine ⟨toks (by show 1 ≤ 1000; decide), fun t1 n_t1 => ?_⟩
    have q_t1 := same_upd (ob := .tup [.int 0]) n_t1
    refine ⟨toks (by show 1 ≤ 1000; decide), fun l1 n_l1 => ?_⟩
    have q_l1 := same_upd (ob := .lst [.int 0]) n_l1
    refine ⟨toks (by show 0 ≤ 1000; decide), fun t2 n_t2 => ?_⟩
    have q_t2 := same_upd (ob := .tup []) n_t2
    refine ⟨toks (by show 1 ≤ 1000; decide), fun t3 n_t3 => ?_⟩
    have q_t3 := same_upd (ob := .tup [.ref t2]) n_t3
    refine ⟨toks (by show 17 ≤ 1000; decide), fun L1 n_L1 => ?_⟩
    have q_L1 := same_upd (ob := .lst [.non, .bl true, .bl false, .int 0, .int (-1), .int 1, .int 2, .int ((10 : Int) ^ Int.toNat 29), .str "", .str "a", .str "up", .ref t0, .ref l0, .ref d0, .ref t1, .ref l1, .ref t3]) n_L1
    refine ⟨.ref a, rfl, .ref L1, rfl, ?_⟩
    refine ⟨toks (by show 2 ≤ 1000; decide), fun u1 n_u1 => ?_⟩
    have q_u1 := same_upd (ob := .tup [.int 1, .int 2]) n_u1
    refine ⟨toks (by show 2 ≤ 1000; decide), fun u2 n_u2 => ?_⟩
    have q_u2 := same_upd (ob := .tup [.int 0, .int 1]) n_u2
    refine ⟨toks (by show 2 ≤ 1000; decide), fun u3 n_u3 => ?_⟩
    have q_u3 := same_upd (ob := .tup [.int 2, .int 4]) n_u3
    refine ⟨toks (by show 3 ≤ 1000; decide), fun L2_ n_L2_ => ?_⟩
    have q_L2_ := same_upd (ob := .lst [.ref u1, .ref u2, .ref u3]) n_L2_
    refine ⟨L1, L2_, _, _, rfl, rfl, q_L2_ _ _ (q_u3 _ _ (q_u2 _ _ (q_u1 _ _ upd_same))), upd_same, toks (by show 20 ≤ 1000; decide), fun L3 n_L3 => ?_⟩
    have q_L3 := same_upd (ob := .lst [.non, .bl true, .bl false, .int 0, .int (-1), .int 1, .int 2, .int ((10 : Int) ^ Int.toNat 29), .str "", .str "a", .str "up", .ref t0, .ref l0, .ref d0, .ref t1, .ref l1, .ref t3, .ref u1, .ref u2, .ref u3]) n_L3
    have z_L2_ := q_L3
    have z_u3 := q_L2_.trans z_L2_
    have z_u2 := q_u3.trans z_u3
    have z_u1 := q_u2.trans z_u2
    have z_L1 := q_u1.trans z_u1
    have z_t3 := q_L1.trans z_L1
    have z_t2 := q_t3.trans z_t3
    have z_l1 := q_t2.trans z_t2
    have z_t1 := q_l1.trans z_l1
    have z_d0 := q_t1.trans z_t1
    have z_l0 := q_d0.trans z_d0
    have z_t0 := q_l0.trans z_l0
    have z_0 := q_t0.trans z_t0
    have e_t0 := z_t0 t0 _ upd_same
    have e_l0 := z_l0 l0 _ upd_same
    have e_d0 := z_d0 d0 _ upd_same
    have e_t1 := z_t1 t1 _ upd_same
    have e_l1 := z_l1 l1 _ upd_same
    have e_t2 := z_t2 t2 _ upd_same
    have e_t3 := z_t3 t3 _ upd_same
    have e_L1 := z_L1 L1 _ upd_same
    have e_u1 := z_u1 u1 _ upd_same
    have e_u2 := z_u2 u2 _ upd_same
    have e_u3 := z_u3 u3 _ upd_same
    have e_L2_ := z_L2_ L2_ _ upd_same
    have f_t0 : H t0 = none := n_t0
    have y_t0 := q_t0
    have f_l0 : H l0 = none := y_t0.free n_l0
    have y_l0 := y_t0.trans q_l0
    have f_d0 : H d0 = none := y_l0.free n_d0
    have y_d0 := y_l0.trans q_d0
    have f_t1 : H t1 = none := y_d0.free n_t1
    have y_t1 := y_d0.trans q_t1
    have f_l1 : H l1 = none := y_t1.free n_l1
    have y_l1 := y_t1.trans q_l1
    have f_t2 : H t2 = none := y_l1.free n_t2
    have y_t2 := y_l1.trans q_t2
    have f_t3 : H t3 = none := y_t2.free n_t3
    have y_t3 := y_t2.trans q_t3
    have f_L1 : H L1 = none := y_t3.free n_L1
    have y_L1 := y_t3.trans q_L1
    have f_u1 : H u1 = none := y_L1.free n_u1
    have y_u1 := y_L1.trans q_u1
    have f_u2 : H u2 = none := y_u1.free n_u2
    have y_u2 := y_u1.trans q_u2
    have f_u3 : H u3 = none := y_u2.free n_u3
    have y_u3 := y_u2.trans q_u3
    have f_L2_ : H L2_ = none := y_u3.free n_L2_
    have y_L2_ := y_u3.trans q_L2_
    have f_L3 : H L3 = none := y_L2_.free n_L3
    have dF := dr.same z_0
    have nL := dr.ne_new f_L3
    refine ⟨a, c, r, n, L3, [.non, .bl true, .bl false, .int 0, .int (-1), .int 1, .int 2, .int ((10 : Int) ^ Int.toNat 29), .str "", .str "a", .str "up", .ref t0, .ref l0, .ref d0, .ref t1, .ref l1, .ref t3, .ref u1, .ref u2, .ref u3], rfl, dF, hn, upd_same, nL.1, nL.2.2, (by show 0 < 20; decide), (by show 20 ≤ 1000; decide), fun H' v hv d1 k1 => ?_⟩
    have go := fun p o (hp : H p = none) => k1 p o (dr.ne_new hp).1 (dr.ne_new hp).2.2
    have kk : Keep a r H H' := (Keep.same z_0).trans k1
    have fin : ∀ d, FDa H H' v d → Fin_ 4000 3 d → Q v H' := fun d h1 h2 => q H' v d h1 h2 d1 kk
    replace e_t0 := go _ _ f_t0 e_t0
    replace e_l0 := go _ _ f_l0 e_l0
    replace e_d0 := go _ _ f_d0 e_d0
    replace e_t1 := go _ _ f_t1 e_t1
    replace e_l1 := go _ _ f_l1 e_l1
    replace e_t2 := go _ _ f_t2 e_t2
    replace e_t3 := go _ _ f_t3 e_t3
    replace e_L1 := go _ _ f_L1 e_L1
    replace e_u1 := go _ _ f_u1 e_u1
    replace e_u2 := go _ _ f_u2 e_u2
    replace e_u3 := go _ _ f_u3 e_u3
    replace e_L2_ := go _ _ f_L2_ e_L2_
    simp only [List.mem_cons, List.not_mem_nil, or_false] at hv
    have I : ∀ (is : List Int), (∀ i ∈ is, i.natAbs < 2 ^ 3) → ∀ i ∈ is, i.natAbs < 2 ^ 200 := fun is h i hi => Nat.lt_of_lt_of_le (h i hi) (Nat.pow_le_pow_right (by decide) (by decide))
    rcases hv with rfl | rfl | rfl | rfl | rfl | rfl | rfl | rfl | rfl | rfl | rfl | rfl | rfl | rfl | rfl | rfl | rfl | rfl | rfl | rfl
    · exact fin .none (fun _ _ => .non) ⟨Shw.non.mono (by decide) (by decide), rfl⟩
    · exact fin (.bool true) (fun _ _ => .bl _) (.bool _)
    · exact fin (.bool false) (fun _ _ => .bl _) (.bool _)
    · exact fin (.int 0) (fun _ _ => .int _) (.int (b := 3) (by decide) (by decide))
    · exact fin (.int (-1)) (fun _ _ => .int _) (.int (b := 3) (by decide) (by decide))
    · exact fin (.int 1) (fun _ _ => .int _) (.int (b := 3) (by decide) (by decide))
    · exact fin (.int 2) (fun _ _ => .int _) (.int (b := 3) (by decide) (by decide))
    · exact fin (.int _) (fun _ _ => .int _) (.int (b := 100) (by decide) (by decide))
    · exact fin (.str "") (fun _ _ => .str _) ⟨(Shw.str (n := 2) (by decide +kernel)).mono (by decide) (by decide), rfl⟩
    · exact fin (.str "a") (fun _ _ => .str _) ⟨(Shw.str (n := 3) (by decide +kernel)).mono (by decide) (by decide), rfl⟩
    · exact fin (.str "up") (fun _ _ => .str _) ⟨(Shw.str (n := 4) (by decide +kernel)).mono (by decide) (by decide), rfl⟩
    · exact fin (.tuple []) (fun H'' g => .tup (g _ _ f_t0 e_t0) .nil) (Fin_.tupI (is := []) (I [] (by decide)) (by decide))
    · exact fin (.list []) (fun H'' g => .lst (g _ _ f_l0 e_l0) .nil) (Fin_.lstI (is := []) (I [] (by decide)) (by decide))
    · exact fin (.dict []) (fun H'' g => .dic (g _ _ f_d0 e_d0)) ⟨Shw.dict.mono (by decide) (by decide), rfl⟩
    · exact fin (.tuple [.int 0]) (fun H'' g => .tup (g _ _ f_t1 e_t1) (.cons (.int _) .nil)) (Fin_.tupI (is := [0]) (I [0] (by decide)) (by decide))
    · exact fin (.list [.int 0]) (fun H'' g => .lst (g _ _ f_l1 e_l1) (.cons (.int _) .nil)) (Fin_.lstI (is := [0]) (I [0] (by decide)) (by decide))
    · exact fin (.tuple [.tuple []]) (fun H'' g => .tup (g _ _ f_t3 e_t3) (.cons (.tup (g _ _ f_t2 e_t2) .nil) .nil)) ⟨(Shw.tup (.cons (Shw.tup (.nil 0)) (.nil 1))).mono (by decide) (by decide), rfl⟩
    · exact fin (.tuple [.int 1, .int 2]) (fun H'' g => .tup (g _ _ f_u1 e_u1) (.cons (.int _) (.cons (.int _) .nil))) (Fin_.tupI (is := [1, 2]) (I [1, 2] (by decide)) (by decide))
    · exact fin (.tuple [.int 0, .int 1]) (fun H'' g => .tup (g _ _ f_u2 e_u2) (.cons (.int _) (.cons (.int _) .nil))) (Fin_.tupI (is := [0, 1]) (I [0, 1] (by decide)) (by decide))
    · exact fin (.tuple [.int 2, .int 4]) (fun H'' g => .tup (g _ _ f_u3 e_u3) (.cons (.int _) (.cons (.int _) .nil))) (Fin_.tupI (is := [2, 4]) (I [2, 4] (by decide)) (by decide))
end
end PM

namespace PM
open PySem PySem.Spec PyProof.Rows L2 RZ
theorem FDa.back {a c r : Addr} {n : Nat} {H H1 H2 : Hp} {v : V} {d : PyData} (f : FDa H1 H2 v d) (k : Keep a r H H1) (d1 : Drw H1 a c r n) : FDa H H2 v d :=
  fun H'' g => f H'' fun b o hb e => g b o (k.fresh d1 hb) e
section
variable {P : Program} {w : World} {K : PySem.W.Frag} {mg : Str → Option Value} {base : Heap}
/-! ### a changed value -/
abbrev s__law_changed : Stmt := topS 12
abbrev N__law_changed : List Str := ["_law_drawn", "_law_value", "_law_spot", "_law_way"]
abbrev P__law_changed : List Str := ["_law_drawn", "_law_value"]
theorem sc__law_changed : FnScope N__law_changed P__law_changed (defScope s__law_changed) := ⟨rfl, rfl, rfl, by decide +kernel, rfl, by decide +kernel, by decide +kernel⟩
def sp_chI : Sp := fun vs H Q _ => ∃ (a c r : Addr) (n : Nat) (i : Int), vs = [.ref a, .int i] ∧ Drw H a c r n ∧ n < 900000 ∧ i.natAbs < 2 ^ 150 ∧ ∀ H' v d, FDa H H' v d → Fin_ 4000 3 d → Drw H' a c r (n + 3) → Keep a r H H' → Q v H'
theorem ok_chI (d : IsDef K mg "_law_changed" s__law_changed P__law_changed) (m_isinstance : mg "isinstance" = none) (m_tuple : mg "tuple" = none) (m_int : mg "int" = none) (m_bool : mg "bool" = none) (m_len : mg "len" = none) (m_list : mg "list" = none) (h__law_next : Ok P w K mg base 1 "_law_next" s__law_next P__law_next sp__law_next) (h__law_odd : Ok P w K mg base 3 "_law_odd" s__law_odd P__law_odd sp__law_odd) :
    Ok P w K mg base 4 "_law_changed" s__law_changed P__law_changed sp_chI := by
  obtain ⟨f__law_changed, fd__law_changed, D⟩ := d
  have F__law_changed := D.F
  have b__law_changed := D.b
  have g__law_changed := D.g
  have G__law_changed : FnOk P w K mg base CX0 3 f__law_changed fd__law_changed P__law_changed (fun _ _ _ _ => False) := fn_none fun _ _ _ _ h => h
  obtain ⟨f__law_next, fd__law_next, ⟨F__law_next, b__law_next, g__law_next⟩, G__law_next⟩ := h__law_next
  obtain ⟨f__law_odd, fd__law_odd, ⟨F__law_odd, b__law_odd, g__law_odd⟩, G__law_odd⟩ := h__law_odd
  refine ⟨_, _, D, D.F.ok sc__law_changed (fun vs H Q E h => ?_) (fun cdv A outer s H vs Q E hr h => ?_)⟩
  · obtain ⟨a, c, r, n, i, rfl, _⟩ := h
    rfl
  · obtain ⟨a, c, r, n, i, rfl, dr, hn, hb, q⟩ := h
    refine ⟨_, (pss_cons (ps_if (PW.pt (pw_and (pt_val (pe_callB call_isi (by rfl) m_isinstance (by decide +kernel) (pa_cons (pv 1) (pa_cons (pe_bltn (v := .ty "tuple") (by rfl) m_tuple (by decide +kernel) rfl) pa_nil)))) (pw_and (pt_cmpR (op_neD hr.units) (pv 1) (pe_tup pa_nil) (nomark _)) (pw_and1 (pt_cmpR op_gt (pe_call G__law_next (hr.mono (by omega)) (by rfl) g__law_next F__law_next.kp b__law_next .nil pass0 (pa_cons (pv 0) (pa_cons pe_int pa_nil))) pe_int (nomark _)))))) (pss_cons (ps_set (i := 2) sc__law_changed.nd rfl (.inl rfl) (pe_call G__law_next (hr.mono (by omega)) (by rfl) g__law_next F__law_next.kp b__law_next .nil pass0 (pa_cons (pv 0) (pa_cons (pe_callB call_len_seq (by rfl) m_len (by decide +kernel) (pa_cons (pv 1) pa_nil)) pa_nil)))) (pss_one (ps_ret (pe_op op_catA (pe_op op_catA (pe_slice sl_tupA (pv 1) po_none (po_some (pv 2))) (pe_tup (pa_cons (pe_call G__law_changed (hr.mono (by omega)) (by rfl) g__law_changed F__law_changed.kp b__law_changed .nil pass0 (pa_cons (pv 0) (pa_cons (pe_ix ix_tup (pv 1) (pv 2) (fun _ _ => rfl)) pa_nil))) pa_nil))) (pe_slice sl_tupA (pv 1) (po_some (pe_op op_add (pv 2) pe_int)) po_none))))) pss_nil)
      (pss_cons (ps_set (i := 3) sc__law_changed.nd rfl (.inl rfl) (pe_call G__law_next (hr.mono (by omega)) (by rfl) g__law_next F__law_next.kp b__law_next .nil pass0 (pa_cons (pv 0) (pa_cons pe_int pa_nil))))
      (pss_cons (ps_if (PW.pt (pw_and (pt_val (pe_callB call_isi (by rfl) m_isinstance (by decide +kernel) (pa_cons (pv 1) (pa_cons (pe_bltn (v := .ty "int") (by rfl) m_int (by decide +kernel) rfl) pa_nil)))) (pw_and (pt_not (pt_val (pe_callB call_isi (by rfl) m_isinstance (by decide +kernel) (pa_cons (pv 1) (pa_cons (pe_bltn (v := .ty "bool") (by rfl) m_bool (by decide +kernel) rfl) pa_nil))))) (pw_and1 (pt_cmpR op_lt (pv 3) pe_int (nomark _)))))) (pss_one (ps_ret (pe_ix ix_list (pe_lst (pa_cons (pe_op op_add (pv 1) pe_int) (pa_cons (pe_op op_sub (pv 1) pe_int) (pa_cons (pe_op op_sub pe_int (pv 1)) (pa_cons (pe_cmpR op_eq (pv 1) pe_int (nomark _)) pa_nil))))) (pv 3) (fun _ _ => rfl)))) pss_nil)
      (pss_cons (ps_if (PW.pt (pw_and (pt_val (pe_callB call_isi (by rfl) m_isinstance (by decide +kernel) (pa_cons (pv 1) (pa_cons (pe_bltn (v := .ty "tuple") (by rfl) m_tuple (by decide +kernel) rfl) pa_nil)))) (pw_and1 (pt_cmpR op_lt (pv 3) pe_int (nomark _))))) (pss_one (ps_ret (pe_ix ix_list (pe_lst (pa_cons (pe_slice sl_tupA (pv 1) po_none (po_some (pe_un un_neg pe_int))) (pa_cons (pe_op op_catA (pv 1) (pe_slice sl_tupA (pv 1) po_none (po_some pe_int))) (pa_cons (pe_callTy call_list_of (by rfl) m_list (by decide +kernel) (pa_cons (pv 1) pa_nil)) (pa_cons (pe_back (pv 1)) pa_nil))))) (pv 3) (fun _ _ => rfl)))) pss_nil)
      (pss_one (ps_ret (pe_call G__law_odd (hr.mono (by omega)) (by rfl) g__law_odd F__law_odd.kp b__law_odd .nil pass0 (pa_cons (pv 0) pa_nil)))))))), ?_⟩
    refine ⟨.int i, rfl, .int i, .ty "tuple", _, _, false, rfl, .ty "tuple", .base (.int i), kit_ty (by decide +kernel), _, rfl, ?_⟩
    refine ⟨.ref a, rfl, a, c, r, n, 7, rfl, dr, by omega, by decide, by decide, fun w H1 w0 w1 d1 k1 => ?_⟩
    have odd : (tCall sp__law_odd [] E0 (tCons (tVar 0) tNil)) ((List.set (L2.start N__law_changed [V.ref a, V.int i]) 3 (some (.int w)))) H1 Q := by
      refine ⟨.ref a, rfl, a, c, r, n + 1, rfl, d1, by omega, fun H2 v d f2 fin d2 k2 => ?_⟩
      exact q H2 v d (f2.back k1 d1) fin (d2.mono (by omega)) (k1.trans k2)
    refine ⟨.int i, rfl, .int i, .ty "int", _, _, true, rfl, .ty "int", .base (.int i), kit_ty (by decide +kernel), _, rfl, ?_⟩
    refine ⟨.int i, rfl, .int i, .ty "bool", _, _, false, rfl, .ty "bool", .base (.int i), kit_ty (by decide +kernel), _, rfl, ?_⟩
    refine ⟨.int w, rfl, _, _, rfl, rfl, _, rfl, ite2 (fun e => ?_) (fun e => ?_)⟩
    · have e : w < 4 := of_decide_eq_true e
      refine ⟨.int i, rfl, _, _, rfl, rfl, .int i, rfl, _, _, rfl, rfl, .int i, rfl, _, _, rfl, rfl, .int i, rfl, rfl, toks (by show 4 ≤ 1000; decide), fun l nl => ?_⟩
      have up := same_upd (ob := .lst [.int (i + 1), .int (i - 1), .int (0 - i), .bl (decide (V.int i = V.int 1))]) nl
      have fin : ∀ v d, (∀ H'', Da H'' v d) → Fin_ 4000 3 d → Q v (upd H1 l (.lst [.int (i + 1), .int (i - 1), .int (0 - i), .bl (decide (V.int i = V.int 1))])) := fun v d h1 h2 => q _ v d (fun H'' _ => h1 H'') h2 ((d1.same up).mono (by omega)) (k1.trans (.same up))
      refine ⟨.int w, rfl, l, [.int (i + 1), .int (i - 1), .int (0 - i), .bl (decide (V.int i = V.int 1))], w, ?_⟩
      have ws : w = 0 ∨ w = 1 ∨ w = 2 ∨ w = 3 := by omega
      rcases ws with rfl | rfl | rfl | rfl
      · exact ⟨_, rfl, rfl, .inl (.inl upd_same), rfl, fin _ (.int _) (fun _ => .int _) (.int (b := 151) (by omega) (by decide))⟩
      · exact ⟨_, rfl, rfl, .inl (.inl upd_same), rfl, fin _ (.int _) (fun _ => .int _) (.int (b := 151) (by omega) (by decide))⟩
      · exact ⟨_, rfl, rfl, .inl (.inl upd_same), rfl, fin _ (.int _) (fun _ => .int _) (.int (b := 151) (by omega) (by decide))⟩
      · exact ⟨_, rfl, rfl, .inl (.inl upd_same), rfl, fin _ (.bool _) (fun _ => .bl _) (.bool _)⟩
    · refine ⟨.int i, rfl, .int i, .ty "tuple", _, _, false, rfl, .ty "tuple", .base (.int i), kit_ty (by decide +kernel), _, rfl, ?_⟩
      exact odd
def sp_chF : Sp := fun vs H Q _ => ∃ (a c r : Addr) (n : Nat) (p : Addr) (x : Int × Int), vs = [.ref a, .ref p] ∧ Drw H a c r n ∧ n < 800000 ∧ FrAt H p x ∧ Fr.Sz 100 x ∧ ∀ H' v d, FDa H H' v d → Fin_ 30000 8 d → Drw H' a c r (n + 6) → Keep a r H H' → Q v H'
set_option maxHeartbeats 4000000 in
theorem ok_chF (h__law_changed : Ok P w K mg base 4 "_law_changed" s__law_changed P__law_changed sp_chI) (m_isinstance : mg "isinstance" = none) (m_tuple : mg "tuple" = none) (m_int : mg "int" = none) (m_bool : mg "bool" = none) (m_len : mg "len" = none) (m_list : mg "list" = none) (h__law_next : Ok P w K mg base 1 "_law_next" s__law_next P__law_next sp__law_next) (h__law_odd : Ok P w K mg base 3 "_law_odd" s__law_odd P__law_odd sp__law_odd) :
    Ok P w K mg base 5 "_law_changed" s__law_changed P__law_changed sp_chF := by
  obtain ⟨f__law_changed, fd__law_changed, ⟨F__law_changed, b__law_changed, g__law_changed⟩, G__law_changed⟩ := h__law_changed
  obtain ⟨f__law_next, fd__law_next, ⟨F__law_next, b__law_next, g__law_next⟩, G__law_next⟩ := h__law_next
  obtain ⟨f__law_odd, fd__law_odd, ⟨F__law_odd, b__law_odd, g__law_odd⟩, G__law_odd⟩ := h__law_odd
  refine ⟨_, _, ⟨F__law_changed, b__law_changed, g__law_changed⟩, F__law_changed.ok sc__law_changed (fun vs H Q E h => ?_) (fun cdv A outer s H vs Q E hr h => ?_)⟩
  · obtain ⟨a, c, r, n, p, x, rfl, _⟩ := h
    rfl
  · obtain ⟨a, c, r, n, p, x, rfl, dr, hn, hp, zx, q⟩ := h
    refine ⟨_, (pss_cons (ps_if (PW.pt (pw_and (pt_val (pe_callB call_isi (by rfl) m_isinstance (by decide +kernel) (pa_cons (pv 1) (pa_cons (pe_bltn (v := .ty "tuple") (by rfl) m_tuple (by decide +kernel) rfl) pa_nil)))) (pw_and (pt_cmpR (op_neD hr.units) (pv 1) (pe_tup pa_nil) (nomark _)) (pw_and1 (pt_cmpR op_gt (pe_call G__law_next (hr.mono (by omega)) (by rfl) g__law_next F__law_next.kp b__law_next .nil pass0 (pa_cons (pv 0) (pa_cons pe_int pa_nil))) pe_int (nomark _)))))) (pss_cons (ps_set (i := 2) sc__law_changed.nd rfl (.inl rfl) (pe_call G__law_next (hr.mono (by omega)) (by rfl) g__law_next F__law_next.kp b__law_next .nil pass0 (pa_cons (pv 0) (pa_cons (pe_callB call_len_seq (by rfl) m_len (by decide +kernel) (pa_cons (pv 1) pa_nil)) pa_nil)))) (pss_one (ps_ret (pe_op op_catA (pe_op op_catA (pe_slice sl_tupA (pv 1) po_none (po_some (pv 2))) (pe_tup (pa_cons (pe_call G__law_changed (hr.mono (by omega)) (by rfl) g__law_changed F__law_changed.kp b__law_changed .nil pass0 (pa_cons (pv 0) (pa_cons (pe_ix ix_tup (pv 1) (pv 2) (fun _ _ => rfl)) pa_nil))) pa_nil))) (pe_slice sl_tupA (pv 1) (po_some (pe_op op_add (pv 2) pe_int)) po_none))))) pss_nil)
      (pss_cons (ps_set (i := 3) sc__law_changed.nd rfl (.inl rfl) (pe_call G__law_next (hr.mono (by omega)) (by rfl) g__law_next F__law_next.kp b__law_next .nil pass0 (pa_cons (pv 0) (pa_cons pe_int pa_nil))))
      (pss_cons (ps_if (PW.pt (pw_and (pt_val (pe_callB call_isi (by rfl) m_isinstance (by decide +kernel) (pa_cons (pv 1) (pa_cons (pe_bltn (v := .ty "int") (by rfl) m_int (by decide +kernel) rfl) pa_nil)))) (pw_and (pt_not (pt_val (pe_callB call_isi (by rfl) m_isinstance (by decide +kernel) (pa_cons (pv 1) (pa_cons (pe_bltn (v := .ty "bool") (by rfl) m_bool (by decide +kernel) rfl) pa_nil))))) (pw_and1 (pt_cmpR op_lt (pv 3) pe_int (nomark _)))))) (pss_one (ps_ret (pe_ix ix_list (pe_lst (pa_cons (pe_op op_add (pv 1) pe_int) (pa_cons (pe_op op_sub (pv 1) pe_int) (pa_cons (pe_op op_sub pe_int (pv 1)) (pa_cons (pe_cmpR op_eq (pv 1) pe_int (nomark _)) pa_nil))))) (pv 3) (fun _ _ => rfl)))) pss_nil)
      (pss_cons (ps_if (PW.pt (pw_and (pt_val (pe_callB call_isi (by rfl) m_isinstance (by decide +kernel) (pa_cons (pv 1) (pa_cons (pe_bltn (v := .ty "tuple") (by rfl) m_tuple (by decide +kernel) rfl) pa_nil)))) (pw_and1 (pt_cmpR op_lt (pv 3) pe_int (nomark _))))) (pss_one (ps_ret (pe_ix ix_list (pe_lst (pa_cons (pe_slice sl_tupA (pv 1) po_none (po_some (pe_un un_neg pe_int))) (pa_cons (pe_op op_catA (pv 1) (pe_slice sl_tupA (pv 1) po_none (po_some pe_int))) (pa_cons (pe_callTy call_list_of (by rfl) m_list (by decide +kernel) (pa_cons (pv 1) pa_nil)) (pa_cons (pe_back (pv 1)) pa_nil))))) (pv 3) (fun _ _ => rfl)))) pss_nil)
      (pss_one (ps_ret (pe_call G__law_odd (hr.mono (by omega)) (by rfl) g__law_odd F__law_odd.kp b__law_odd .nil pass0 (pa_cons (pv 0) pa_nil)))))))), ?_⟩
    have small : ∀ i : Int, i = x.1 ∨ i = x.2 → i.natAbs < 2 ^ 200 := fun i hi => by
      rcases hi with rfl | rfl
      · exact Fr.lt_up zx.1 (by decide)
      · exact Fr.lt_up zx.2 (by decide)
    refine ⟨.ref p, rfl, .ref p, .ty "tuple", _, _, true, rfl, .ty "tuple", .base (.tup hp), kit_ty (by decide +kernel), _, rfl, ?_⟩
    refine ⟨.ref p, rfl, toks (by show 0 ≤ 1000; decide), fun e0 n0 => ?_⟩
    have s0 := same_upd (ob := .tup []) n0
    refine ⟨fd x, .tuple [], frD (hp.same s0), .tup (.inl (.inl upd_same)) .nil, rfl, rfl, _, rfl, ?_⟩
    rw [show PyData.eqv (fd x) (.tuple []) = false by simp [PyData.eqv, PyData.eqvAll]]
    refine ⟨.ref a, rfl, a, c, r, n, 6, rfl, dr.same s0, by omega, by decide, by decide, fun g H1 g0 g1 d1 k1 => ?_⟩
    replace k1 : Keep a r H H1 := (Keep.same s0).trans k1
    have hp1 : FrAt H1 p x := k1.tup dr hp
    refine ⟨_, _, rfl, rfl, _, rfl, ite2 (fun _ => ?_) (fun _ => ?_)⟩
    · -- one part is changed
      refine ⟨.ref a, rfl, .ref p, rfl, p, _, rfl, .inr (.inl (.inl hp1)), a, c, r, n + 1, 2, rfl, d1, by omega, by decide, by decide, fun sp H2 p0 p1 d2 k2 => ?_⟩
      replace k2 := k1.trans k2
      have hp2 : FrAt H2 p x := k2.tup dr hp
      have two : sp = 0 ∨ sp = 1 := by omega
      rcases two with rfl | rfl
      · refine ⟨.ref p, rfl, .int 0, rfl, 0, rfl, p, _, rfl, .inl (.inl hp2), (fun z => absurd z.2 (show ¬ HT.sIx 2 2 (some 0) = 2 by decide)), fun _ t1 m1 => ?_⟩
        have s1 := same_upd (ob := .tup []) m1
        refine ⟨.ref a, rfl, .ref p, rfl, .int 0, rfl, p, _, 0, .int x.1, rfl, rfl, .inl (.inl (s1 _ _ hp2)), rfl, a, c, r, n + 2, x.1, rfl, d2.same s1, by omega, Fr.lt_up zx.1 (by decide), fun H3 v d f3 fin d3 k3 => ?_⟩
        have e1 : H3 t1 = some (.tup []) := k3.tup (d2.same s1) upd_same
        have f3' : FDa H H3 v d := f3.back (k2.trans (Keep.same s1)) (d2.same s1)
        replace k3 := (k2.trans (Keep.same s1)).trans k3
        have hp3 : FrAt H3 p x := k3.tup dr hp
        refine ⟨toks (by show 1 ≤ 1000; decide), fun t2 m2 => ?_⟩
        have s2 := same_upd (ob := .tup [v]) m2
        refine ⟨t1, t2, [], [v], rfl, rfl, .inl (.inl (s2 _ _ e1)), .inl (.inl upd_same), toks (by show 1 ≤ 1000; decide), fun _ => ?_, (fun z => absurd rfl z), (fun z => absurd rfl z)⟩
        refine ⟨.ref p, rfl, .int 0, rfl, _, _, rfl, rfl, _, rfl, p, _, rfl, .inl (.inl (s2 _ _ hp3)), (fun z => absurd z.1 (show ¬ HT.sIx 2 0 (some (0 + 1)) = 0 by decide)), fun _ t3 m3 => ?_⟩
        have s3 := same_upd (ob := .tup [.int x.2]) m3
        refine ⟨t2, t3, [v], [.int x.2], rfl, rfl, .inl (.inl (s3 _ _ upd_same)), .inl (.inl upd_same), toks (by show 2 ≤ 1000; decide), (fun z => nomatch z), (fun _ z => nomatch z), fun _ _ t4 m4 => ?_⟩
        have s4 := same_upd (ob := .tup ([v] ++ [.int x.2])) m4
        have kk := k3.trans (Keep.same (s2.trans s3))
        have dd := (d3.same s2).same s3
        have fr : H t4 = none := kk.fresh dd m4
        refine q _ (.ref t4) (.tuple [d, .int x.2]) (fun H'' g => .tup (g _ _ fr upd_same) (.cons (f3' H'' fun b o hb e => g b o hb (s4 _ _ (s3 _ _ (s2 _ _ e)))) (.cons (.int _) .nil))) (fin.pair (.int (small _ (.inr rfl)) (by decide))) ((dd.same s4).mono (by omega)) (kk.trans (Keep.same s4))
      · refine ⟨.ref p, rfl, .int 1, rfl, 1, rfl, p, _, rfl, .inl (.inl hp2), (fun z => absurd z.2 (show ¬ HT.sIx 2 2 (some 1) = 2 by decide)), fun _ t1 m1 => ?_⟩
        have s1 := same_upd (ob := .tup [.int x.1]) m1
        refine ⟨.ref a, rfl, .ref p, rfl, .int 1, rfl, p, _, 1, .int x.2, rfl, rfl, .inl (.inl (s1 _ _ hp2)), rfl, a, c, r, n + 2, x.2, rfl, d2.same s1, by omega, Fr.lt_up zx.2 (by decide), fun H3 v d f3 fin d3 k3 => ?_⟩
        have e1 : H3 t1 = some (.tup [.int x.1]) := k3.tup (d2.same s1) upd_same
        have f3' : FDa H H3 v d := f3.back (k2.trans (Keep.same s1)) (d2.same s1)
        replace k3 := (k2.trans (Keep.same s1)).trans k3
        have hp3 : FrAt H3 p x := k3.tup dr hp
        refine ⟨toks (by show 1 ≤ 1000; decide), fun t2 m2 => ?_⟩
        have s2 := same_upd (ob := .tup [v]) m2
        refine ⟨t1, t2, [.int x.1], [v], rfl, rfl, .inl (.inl (s2 _ _ e1)), .inl (.inl upd_same), toks (by show 2 ≤ 1000; decide), (fun z => nomatch z), (fun _ z => nomatch z), fun _ _ t3 m3 => ?_⟩
        have s3 := same_upd (ob := .tup ([.int x.1] ++ [v])) m3
        refine ⟨.ref p, rfl, .int 1, rfl, _, _, rfl, rfl, _, rfl, p, _, rfl, .inl (.inl (s3 _ _ (s2 _ _ hp3))), (fun z => absurd z.1 (show ¬ HT.sIx 2 0 (some (1 + 1)) = 0 by decide)), fun _ t4 m4 => ?_⟩
        have s4 := same_upd (ob := .tup []) m4
        have kk := k3.trans (Keep.same s2)
        have dd := d3.same s2
        have fr : H t3 = none := kk.fresh dd m3
        refine ⟨t3, t4, [.int x.1, v], [], rfl, rfl, .inl (.inl (s4 _ _ upd_same)), .inl (.inl upd_same), toks (by show 2 ≤ 1000; decide), (fun z => nomatch z), fun _ _ => ?_, (fun _ z => absurd rfl z)⟩
        refine q _ (.ref t3) (.tuple [.int x.1, d]) (fun H'' g => .tup (g _ _ fr (s4 _ _ upd_same)) (.cons (.int _) (.cons (f3' H'' fun b o hb e => g b o hb (s4 _ _ (s3 _ _ (s2 _ _ e)))) .nil))) (Fin_.pair (.int (small _ (.inl rfl)) (by decide)) fin) (((dd.same s3).same s4).mono (by omega)) (kk.trans (Keep.same (s3.trans s4)))
    · -- the whole is changed
      refine ⟨.ref a, rfl, a, c, r, n + 1, 7, rfl, d1, by omega, by decide, by decide, fun w H2 w0 w1 d2 k2 => ?_⟩
      replace k2 := k1.trans k2
      have hp2 : FrAt H2 p x := k2.tup dr hp
      refine ⟨.ref p, rfl, .ref p, .ty "int", _, _, false, rfl, .ty "int", .base (.tup hp2), kit_ty (by decide +kernel), _, rfl, ?_⟩
      refine ⟨.ref p, rfl, .ref p, .ty "tuple", _, _, true, rfl, .ty "tuple", .base (.tup hp2), kit_ty (by decide +kernel), _, rfl, ?_⟩
      refine ⟨.int w, rfl, _, _, rfl, rfl, _, rfl, ite2 (fun e => ?_) (fun e => ?_)⟩
      · have e : w < 4 := of_decide_eq_true e
        refine ⟨.ref p, rfl, 1, rfl, -1, rfl, p, _, rfl, .inl (.inl hp2), (fun z => absurd z.2 (show ¬ HT.sIx 2 2 (some (-1)) = 2 by decide)), fun _ t1 m1 => ?_⟩
        have s1 := same_upd (ob := .tup [.int x.1]) m1
        refine ⟨.ref p, rfl, .ref p, rfl, 1, rfl, p, _, rfl, .inl (.inl (s1 _ _ hp2)), (fun z => absurd z.2 (show ¬ HT.sIx 2 2 (some 1) = 2 by decide)), fun _ t2 m2 => ?_⟩
        have s2 := same_upd (ob := .tup [.int x.1]) m2
        refine ⟨p, t2, [.int x.1, .int x.2], [.int x.1], rfl, rfl, .inl (.inl (s2 _ _ (s1 _ _ hp2))), .inl (.inl upd_same), toks (by show 3 ≤ 1000; decide), (fun z => nomatch z), (fun _ z => nomatch z), fun _ _ t3 m3 => ?_⟩
        have s3 := same_upd (ob := .tup ([.int x.1, .int x.2] ++ [.int x.1])) m3
        refine ⟨.ref p, rfl, p, _, rfl, .inr (.inl (.inl (s3 _ _ (s2 _ _ (s1 _ _ hp2))))), fun l4 m4 => ?_⟩
        have s4 := same_upd (ob := .lst [.int x.1, .int x.2]) m4
        refine ⟨.ref p, rfl, p, _, rfl, .inl (.inl (s4 _ _ (s3 _ _ (s2 _ _ (s1 _ _ hp2))))), fun t5 m5 => ?_⟩
        have s5 := same_upd (ob := .tup [.int x.2, .int x.1]) m5
        refine ⟨toks (by show 4 ≤ 1000; decide), fun L m6 => ?_⟩
        have s6 := same_upd (ob := .lst [.ref t1, .ref t3, .ref l4, .ref t5]) m6
        have z5 := s6
        have z4 := s5.trans z5
        have z3 := s4.trans z4
        have z2 := s3.trans z3
        have z1 := s2.trans z2
        have z0 := s1.trans z1
        have kk := k2.trans (Keep.same z0)
        have dd := d2.same z0
        have fr1 : H t1 = none := k2.fresh d2 m1
        have fr3 : H t3 = none := (k2.trans (Keep.same (s1.trans s2))).fresh (d2.same (s1.trans s2)) m3
        have fr4 : H l4 = none := (k2.trans (Keep.same ((s1.trans s2).trans s3))).fresh (d2.same ((s1.trans s2).trans s3)) m4
        have fr5 : H t5 = none := (k2.trans (Keep.same (((s1.trans s2).trans s3).trans s4))).fresh (d2.same (((s1.trans s2).trans s3).trans s4)) m5
        have i1 := small x.1 (.inl rfl)
        have i2 := small x.2 (.inr rfl)
        refine ⟨.int w, rfl, L, [.ref t1, .ref t3, .ref l4, .ref t5], w, ?_⟩
        have ws : w = 0 ∨ w = 1 ∨ w = 2 ∨ w = 3 := by omega
        rcases ws with rfl | rfl | rfl | rfl
        · refine ⟨_, rfl, rfl, .inl (.inl upd_same), rfl, q _ _ (.tuple [.int x.1]) (fun H'' g => .tup (g _ _ fr1 (z1 _ _ upd_same)) (.cons (.int _) .nil)) (Fin_.tupI9 (is := [x.1]) ?_ (by show 1 ≤ 10; decide)) (dd.mono (by omega)) kk⟩
          intro i hi
          simp only [List.mem_cons, List.not_mem_nil, or_false] at hi
          exact small i (.inl hi)
        · refine ⟨_, rfl, rfl, .inl (.inl upd_same), rfl, q _ _ (.tuple [.int x.1, .int x.2, .int x.1]) (fun H'' g => .tup (g _ _ fr3 (z3 _ _ upd_same)) (.cons (.int _) (.cons (.int _) (.cons (.int _) .nil)))) (Fin_.tupI9 (is := [x.1, x.2, x.1]) ?_ (by show 3 ≤ 10; decide)) (dd.mono (by omega)) kk⟩
          intro i hi
          simp only [List.mem_cons, List.not_mem_nil, or_false] at hi
          rcases hi with hi | hi | hi
          · exact small i (.inl hi)
          · exact small i (.inr hi)
          · exact small i (.inl hi)
        · refine ⟨_, rfl, rfl, .inl (.inl upd_same), rfl, q _ _ (.list [.int x.1, .int x.2]) (fun H'' g => .lst (g _ _ fr4 (z4 _ _ upd_same)) (.cons (.int _) (.cons (.int _) .nil))) ((Fin_.lstI (is := [x.1, x.2]) ?_ (by show 2 ≤ 2; decide)).mono (by decide) (by decide)) (dd.mono (by omega)) kk⟩
          intro i hi
          simp only [List.mem_cons, List.not_mem_nil, or_false] at hi
          exact small i hi
        · refine ⟨_, rfl, rfl, .inl (.inl upd_same), rfl, q _ _ (.tuple [.int x.2, .int x.1]) (fun H'' g => .tup (g _ _ fr5 (z5 _ _ upd_same)) (.cons (.int _) (.cons (.int _) .nil))) ((Fin_.tupI (is := [x.2, x.1]) ?_ (by show 2 ≤ 2; decide)).mono (by decide) (by decide)) (dd.mono (by omega)) kk⟩
          intro i hi
          simp only [List.mem_cons, List.not_mem_nil, or_false] at hi
          exact small i hi.symm
      · refine ⟨.ref a, rfl, a, c, r, n + 2, rfl, d2, by omega, fun H3 v d f3 fin d3 k3 => ?_⟩
        exact q H3 v d (f3.back k2 d2) (fin.mono (by decide) (by decide)) (d3.mono (by omega)) (k2.trans k3)
end
end PM

namespace PM
open PySem PySem.Spec PyProof.Rows L2 RZ
section
variable {P : Program} {w : World} {K : PySem.W.Frag} {mg : Str → Option Value} {base : Heap}
/-! ### the law -/
abbrev s_law : Stmt := topS 16
abbrev N_law : List Str := ["_law_script", "_law_drawn", "_law_turn", "_law_one_here", "_law_many", "_law_some", "_law_value", "_law_kept", "_law_found"]
abbrev P_law : List Str := ["_law_script"]
theorem sc_law : FnScope N_law P_law (defScope s_law) := ⟨rfl, rfl, rfl, by decide +kernel, rfl, by decide +kernel, by decide +kernel⟩
set_option maxHeartbeats 8000000 in
theorem ok_law {fa : Addr} {cdv : Value} {sh : Shared} {H : Hp} {a : Addr} {ns : List Int} (hl : ns.length ≤ 63) (hS : SqL K H a (ns.map V.int)) (hr : Room 6 (callerA.deeper (envOfC "law" (defScope s_law) sh.heap.objs.size fa cdv)))
    (h__law_draws : Ok P w K mg base 1 "_law_draws" s__law_draws P__law_draws (sp__law_draws K)) (h__law_next : Ok P w K mg base 1 "_law_next" s__law_next P__law_next sp__law_next) (h__law_fraction : Ok P w K mg base 2 "_law_fraction" s__law_fraction P__law_fraction sp__law_fraction) (h__law_odd : Ok P w K mg base 3 "_law_odd" s__law_odd P__law_odd sp__law_odd) (h_is_fraction : Ok P w K mg base 2 "is_fraction" s_is_fraction P_is_fraction sp_is_fraction) (h__law_is_fraction : Ok P w K mg base 2 "_law_is_fraction" s__law_is_fraction P__law_is_fraction sp__law_is_fraction) (h__law_changed : Ok P w K mg base 5 "_law_changed" s__law_changed P__law_changed sp_chF) (h__law_equal : Ok P w K mg base 1 "_law_equal" s__law_equal P__law_equal (sp__law_equal 1)) (m_range : mg "range" = none) (m_repr : mg "repr" = none) (m_list : mg "list" = none) :
    ∃ t, PSs (cxOf CX0 P w K mg base N_law "law" (defScope s_law) fa cdv callerA [] sh H E0).nox (defBody s_law) t ∧ t { nx := fun _ _ => V.non = .bl true, rt := fun v _ => v = .bl true } (start N_law [.ref a]) H := by
  obtain ⟨f__law_draws, fd__law_draws, ⟨F__law_draws, b__law_draws, g__law_draws⟩, G__law_draws⟩ := h__law_draws
  obtain ⟨f__law_next, fd__law_next, ⟨F__law_next, b__law_next, g__law_next⟩, G__law_next⟩ := h__law_next
  obtain ⟨f__law_fraction, fd__law_fraction, ⟨F__law_fraction, b__law_fraction, g__law_fraction⟩, G__law_fraction⟩ := h__law_fraction
  obtain ⟨f__law_odd, fd__law_odd, ⟨F__law_odd, b__law_odd, g__law_odd⟩, G__law_odd⟩ := h__law_odd
  obtain ⟨f_is_fraction, fd_is_fraction, ⟨F_is_fraction, b_is_fraction, g_is_fraction⟩, G_is_fraction⟩ := h_is_fraction
  obtain ⟨f__law_is_fraction, fd__law_is_fraction, ⟨F__law_is_fraction, b__law_is_fraction, g__law_is_fraction⟩, G__law_is_fraction⟩ := h__law_is_fraction
  obtain ⟨f__law_changed, fd__law_changed, ⟨F__law_changed, b__law_changed, g__law_changed⟩, G__law_changed⟩ := h__law_changed
  obtain ⟨f__law_equal, fd__law_equal, ⟨F__law_equal, b__law_equal, g__law_equal⟩, G__law_equal⟩ := h__law_equal
  refine ⟨_, (pss_cons (ps_set (i := 1) sc_law.nd rfl (.inl rfl) (pe_call G__law_draws (hr.mono (by omega)) (by rfl) g__law_draws F__law_draws.kp b__law_draws .nil pass0 (pa_cons (pv 0) pa_nil)))
      (pss_cons (ps_for PassesOwn.never rfl (pi_range1 (by rfl) m_range (pa_cons pe_int pa_nil)) (pg_name (i := 2) sc_law.nd rfl (.inl rfl)) (pss_cons (ps_set (i := 3) sc_law.nd rfl (.inl rfl) (pe_call G__law_fraction (hr.mono (by omega)) (by rfl) g__law_fraction F__law_fraction.kp b__law_fraction .nil pass0 (pa_cons (pv 1) pa_nil))) (pss_cons (ps_set (i := 4) sc_law.nd rfl (.inl rfl) (pe_op op_add pe_int (pe_call G__law_next (hr.mono (by omega)) (by rfl) g__law_next F__law_next.kp b__law_next .nil pass0 (pa_cons (pv 1) (pa_cons pe_int pa_nil))))) (pss_cons (ps_set (i := 5) sc_law.nd rfl (.inl rfl) (pe_lst (pa_cons (pv 3) (pa_cons (pe_tup (pa_cons (pe_op op_mulW (pe_ix ix_tup (pv 3) pe_int (fun _ _ => rfl)) (pv 4)) (pa_cons (pe_op op_mulW (pe_ix ix_tup (pv 3) pe_int (fun _ _ => rfl)) (pv 4)) pa_nil))) (pa_cons (pe_tup (pa_cons (pe_op op_sub pe_int (pe_ix ix_tup (pv 3) pe_int (fun _ _ => rfl))) (pa_cons (pe_op op_sub pe_int (pe_ix ix_tup (pv 3) pe_int (fun _ _ => rfl))) pa_nil))) (pa_cons (pe_tup (pa_cons (pe_ix ix_tup (pv 3) pe_int (fun _ _ => rfl)) (pa_cons (pe_ix ix_tup (pv 3) pe_int (fun _ _ => rfl)) pa_nil))) (pa_cons (pe_tup (pa_cons pe_int (pa_cons (pv 4) pa_nil))) pa_nil))))))) (pss_cons (ps_set (i := 5) sc_law.nd rfl (.inl rfl) (pe_op op_cat (pv 5) (pe_lst (pa_cons (pe_call G__law_changed (hr.mono (by omega)) (by rfl) g__law_changed F__law_changed.kp b__law_changed .nil pass0 (pa_cons (pv 1) (pa_cons (pv 3) pa_nil))) (pa_cons (pe_call G__law_odd (hr.mono (by omega)) (by rfl) g__law_odd F__law_odd.kp b__law_odd .nil pass0 (pa_cons (pv 1) pa_nil)) (pa_cons (pe_callTy call_list_of (by rfl) m_list (by decide +kernel) (pa_cons (pv 3) pa_nil)) (pa_cons (pe_op op_catA (pv 3) (pe_tup (pa_cons pe_int pa_nil))) (pa_cons (pe_slice sl_tupA (pv 3) po_none (po_some pe_int)) (pa_cons (pe_tup (pa_cons (pe_ix ix_tup (pv 3) pe_int (fun _ _ => rfl)) (pa_cons pe_int pa_nil))) pa_nil))))))))) (pss_cons (ps_expr (pe_bm PySem.F.plainAttrs_list PySem.F.slot_list_append PySem.F.type_list_append mt_append (pv 5) (pa_cons (pe_tup (pa_cons (pe_call G__law_odd (hr.mono (by omega)) (by rfl) g__law_odd F__law_odd.kp b__law_odd .nil pass0 (pa_cons (pv 1) pa_nil)) (pa_cons (pe_call G__law_odd (hr.mono (by omega)) (by rfl) g__law_odd F__law_odd.kp b__law_odd .nil pass0 (pa_cons (pv 1) pa_nil)) pa_nil))) pa_nil))) (pss_one (ps_for PassesOwn.never rfl (pi_list (pv 5)) (pg_name (i := 6) sc_law.nd rfl (.inl rfl)) (pss_cons (ps_set (i := 7) sc_law.nd rfl (.inl rfl) (pe_callB (call_repr rfl hr.units) (by rfl) m_repr (by decide +kernel) (pa_cons (pv 6) pa_nil))) (pss_cons (ps_set (i := 8) sc_law.nd rfl (.inl rfl) (pe_call G_is_fraction (hr.mono (by omega)) (by rfl) g_is_fraction F_is_fraction.kp b_is_fraction .nil pass0 (pa_cons (pv 6) pa_nil))) (pss_cons (ps_if (PW.pt (pw_or (pt_not (pt_val (pe_call G__law_equal (hr.mono (by omega)) (by rfl) g__law_equal F__law_equal.kp b__law_equal .nil pass0 (pa_cons (pv 8) (pa_cons (pe_call G__law_is_fraction (hr.mono (by omega)) (by rfl) g__law_is_fraction F__law_is_fraction.kp b__law_is_fraction .nil pass0 (pa_cons (pv 6) pa_nil)) pa_nil))))) (pw_or1 (pt_cmpR op_ne (pe_callB (call_repr rfl hr.units) (by rfl) m_repr (by decide +kernel) (pa_cons (pv 6) pa_nil)) (pv 7) (nomark _))))) (pss_one (ps_ret pe_bl)) pss_nil) (pss_one (ps_if (pt_cmpR op_ne (pe_call G_is_fraction (hr.mono (by omega)) (by rfl) g_is_fraction F_is_fraction.kp b_is_fraction .nil pass0 (pa_cons (pv 6) pa_nil)) (pv 8) (nomark _)) (pss_one (ps_ret pe_bl)) pss_nil)))))))))))))
      (pss_one (ps_ret pe_bl)))), ?_⟩
  refine ⟨.ref a, rfl, a, ns, rfl, hS, hl, fun H1 pa c r s1 _ _ _ dr => ?_⟩
  refine ⟨30, rfl, by decide, by decide, for_range (lo := 0) (n := 30) (fun i σ H' => Drw H' pa c r (i * 100) ∧ ∃ y2 y3 y4 y5 y6 y7 y8, σ = [some (.ref a), some (.ref pa), y2, y3, y4, y5, y6, y7, y8]) ⟨dr, none, none, none, none, none, none, none, rfl⟩ (fun i σ H2 hi hI => ?_) (fun σ H2 hI => rfl)⟩
  obtain ⟨dr, y2, y3, y4, y5, y6, y7, y8, rfl⟩ := hI
  refine ⟨.ref pa, rfl, pa, c, r, i * 100, rfl, dr, by omega, fun H3 t x ix zx d3 k3 nt f3 => ?_⟩
  refine ⟨.ref pa, rfl, pa, c, r, i * 100 + 3, 6, rfl, d3, by omega, by decide, by decide, fun v1 H4 v0 v6_ d4 k4 => ?_⟩
  refine ⟨_, _, rfl, rfl, ?_⟩
  refine gName_num fun many hm => ?_
  have f4 : FrAt H4 t x := k4.tup d3 f3
  have mb : many.natAbs < 2 ^ 4 := by omega
  have b1 := zx.1
  have b2 := zx.2
  have w1 : x.1.natAbs < 2 ^ 200 := Fr.lt_up b1 (by decide)
  have w2 : x.2.natAbs < 2 ^ 200 := Fr.lt_up b2 (by decide)
  -- five values
  refine ⟨.ref t, rfl, .ref t, rfl, t, _, _, _, rfl, rfl, .inl (.inl f4), rfl, .int many, rfl, _, _, rfl, rfl, wide_mul b1 mb (by decide) (by decide) (by decide), .ref t, rfl, t, _, _, _, rfl, rfl, .inl (.inl f4), rfl, .int many, rfl, _, _, rfl, rfl, wide_mul b2 mb (by decide) (by decide) (by decide), toks (by show 2 ≤ 1000; decide), fun p1 m1 => ?_⟩
  have q1 := same_upd (ob := .tup [.int (x.1 * many), .int (x.2 * many)]) m1
  have f5 := f4.same q1
  refine ⟨.ref t, rfl, t, _, _, _, rfl, rfl, .inl (.inl f5), rfl, _, _, rfl, rfl, .ref t, rfl, t, _, _, _, rfl, rfl, .inl (.inl f5), rfl, _, _, rfl, rfl, toks (by show 2 ≤ 1000; decide), fun p2 m2 => ?_⟩
  have q2 := same_upd (ob := .tup [.int (0 - x.1), .int (0 - x.2)]) m2
  have f6 := f5.same q2
  refine ⟨.ref t, rfl, t, _, _, _, rfl, rfl, .inl (.inl f6), rfl, .ref t, rfl, t, _, _, _, rfl, rfl, .inl (.inl f6), rfl, toks (by show 2 ≤ 1000; decide), fun p3 m3 => ?_⟩
  have q3 := same_upd (ob := .tup [.int x.2, .int x.1]) m3
  refine ⟨.int many, rfl, toks (by show 2 ≤ 1000; decide), fun p4 m4 => ?_⟩
  have q4 := same_upd (ob := .tup [.int 0, .int many]) m4
  refine ⟨toks (by show 5 ≤ 1000; decide), fun S1 mS1 => ?_⟩
  have qS1 := same_upd (ob := .lst [.ref t, .ref p1, .ref p2, .ref p3, .ref p4]) mS1
  have g4 := qS1
  have g3 := q4.trans g4
  have g2 := q3.trans g3
  have g1 := q2.trans g2
  have g0 := q1.trans g1
  have d5 := d4.same g0
  have ft := f4.same g0
  have e1 := g1 p1 _ upd_same
  have e2 := g2 p2 _ upd_same
  have e3 := g3 p3 _ upd_same
  have e4 := g4 p4 _ upd_same
  have nS1 := (d4.same (((q1.trans q2).trans q3).trans q4)).ne_new mS1
  generalize hA : upd _ S1 (HO.lst [.ref t, .ref p1, .ref p2, .ref p3, .ref p4]) = A at *
  have eS1 : A S1 = some (.lst [.ref t, .ref p1, .ref p2, .ref p3, .ref p4]) := by rw [← hA, upd_same]
  -- six more
  refine ⟨.ref S1, rfl, .ref pa, rfl, .ref t, rfl, pa, c, r, i * 100 + 4, t, x, rfl, d5, by omega, ft, zx, fun H6 v6 e6 F6 fin6 d6 k6 => ?_⟩
  refine ⟨.ref pa, rfl, pa, c, r, i * 100 + 10, rfl, d6, by omega, fun H7 v7 e7 F7 fin7 d7 k7 => ?_⟩
  have k57 := k6.trans k7
  replace ft := k57.tup d5 ft
  replace e1 := k57.tup d5 e1
  replace e2 := k57.tup d5 e2
  replace e3 := k57.tup d5 e3
  replace e4 := k57.tup d5 e4
  replace eS1 := k57 _ _ nS1.1 nS1.2.2 eS1
  refine ⟨.ref t, rfl, t, _, rfl, .inr (.inl (.inl ft)), fun l8 m8 => ?_⟩
  have q8 := same_upd (ob := .lst [.int x.1, .int x.2]) m8
  have n8 := d7.ne_new m8
  refine ⟨.ref t, rfl, toks (by show 1 ≤ 1000; decide), fun p9 m9 => ?_⟩
  have q9 := same_upd (ob := .tup [.int 1]) m9
  refine ⟨t, p9, [.int x.1, .int x.2], [.int 1], rfl, rfl, .inl (.inl (q9 _ _ (q8 _ _ ft))), .inl (.inl upd_same), toks (by show 3 ≤ 1000; decide), (fun z => nomatch z), (fun _ z => nomatch z), fun _ _ p10 m10 => ?_⟩
  have q10 := same_upd (ob := .tup ([.int x.1, .int x.2] ++ [.int 1])) m10
  refine ⟨.ref t, rfl, 1, rfl, t, _, rfl, .inl (.inl (q10 _ _ (q9 _ _ (q8 _ _ ft)))), (fun z => absurd z.2 (show ¬ HT.sIx 2 2 (some 1) = 2 by decide)), fun _ p11 m11 => ?_⟩
  have q11 := same_upd (ob := .tup [.int x.1]) m11
  refine ⟨.ref t, rfl, t, _, _, _, rfl, rfl, .inl (.inl (q11 _ _ (q10 _ _ (q9 _ _ (q8 _ _ ft))))), rfl, toks (by show 2 ≤ 1000; decide), fun p12 m12 => ?_⟩
  have q12 := same_upd (ob := .tup [.int x.1, .int 0]) m12
  refine ⟨toks (by show 6 ≤ 1000; decide), fun S2 mS2 => ?_⟩
  have qS2 := same_upd (ob := .lst [v6, v7, .ref l8, .ref p10, .ref p11, .ref p12]) mS2
  have h12 := qS2
  have h11 := q12.trans h12
  have h10 := q11.trans h11
  have h9 := q10.trans h10
  have h8 := q9.trans h9
  have h7 := q8.trans h8
  have e8 := h8 l8 _ upd_same
  have e10 := h10 p10 _ upd_same
  have e11 := h11 p11 _ upd_same
  have e12 := h12 p12 _ upd_same
  refine ⟨S1, S2, [.ref t, .ref p1, .ref p2, .ref p3, .ref p4], [v6, v7, .ref l8, .ref p10, .ref p11, .ref p12], rfl, rfl, h7 _ _ eS1, upd_same, toks (by show 11 ≤ 1000; decide), fun S mS => ?_⟩
  generalize hX : upd _ S2 (HO.lst [v6, v7, .ref l8, .ref p10, .ref p11, .ref p12]) = X at *
  have dX := d7.same h7
  replace ft := h7 _ _ ft
  replace e1 := h7 _ _ e1
  replace e2 := h7 _ _ e2
  replace e3 := h7 _ _ e3
  replace e4 := h7 _ _ e4
  have qS := same_upd (ob := .lst ([.ref t, .ref p1, .ref p2, .ref p3, .ref p4] ++ [v6, v7, .ref l8, .ref p10, .ref p11, .ref p12])) mS
  have dB := dX.same qS
  have nS := dX.ne_new mS
  have eS : (upd X S (.lst ([.ref t, .ref p1, .ref p2, .ref p3, .ref p4] ++ [v6, v7, .ref l8, .ref p10, .ref p11, .ref p12]))) S = some (.lst ([.ref t, .ref p1, .ref p2, .ref p3, .ref p4] ++ [v6, v7, .ref l8, .ref p10, .ref p11, .ref p12])) := upd_same
  -- the last one
  refine ⟨.ref S, rfl, .inl ⟨rfl, _, .inl (.inl eS)⟩, .ref pa, rfl, pa, c, r, i * 100 + 11, rfl, dB.mono (by omega), by omega, fun H13 v13 e13 F13 fin13 d13 k13 => ?_⟩
  refine ⟨.ref pa, rfl, pa, c, r, i * 100 + 12, rfl, d13, by omega, fun H14 v14 e14 F14 fin14 d14 k14 => ?_⟩
  refine ⟨toks (by show 2 ≤ 1000; decide), fun p15 m15 => ?_⟩
  have q15 := same_upd (ob := .tup [v13, v14]) m15
  have eS13 := k13 _ _ nS.1 nS.2.2 eS
  have eS14 := k14 _ _ nS.1 nS.2.2 eS13
  refine ⟨S, _, .ref p15, rfl, rfl, q15 _ _ eS14, small1000 (by show 11 ≤ 1000; decide), ?_⟩
  have p15S : p15 ≠ S := fun z => by
    rw [z, eS14] at m15
    cases m15
  generalize hF : upd _ S (HO.lst _) = F
  have toF : ∀ b o, b ≠ S → (upd H14 p15 (.tup [v13, v14])) b = some o → F b = some o := fun b o z e => by
    rw [← hF, upd_ne z]
    exact e
  have KF : Keep pa r X F := fun b o h1 h2 e => toF b o (ne_of_none e mS) (q15 _ _ (k14 _ _ h1 h2 (k13 _ _ h1 h2 (qS _ _ e))))
  have dF : Drw F pa c r (i * 100 + 13) := by
    rw [← hF]
    exact (d14.same q15).off nS
  have eF : F S = some (.lst ([.ref t, .ref p1, .ref p2, .ref p3, .ref p4] ++ [v6, v7, .ref l8, .ref p10, .ref p11, .ref p12] ++ [.ref p15])) := by rw [← hF, upd_same]
  have k67 : Keep pa r H6 X := k7.trans (Keep.same h7)
  have k77 : Keep pa r H7 X := Keep.same h7
  have D6 : Da F v6 e6 := F6 F fun b o hb e => KF b o (d5.ne_new hb).1 (d5.ne_new hb).2.2 (k67 b o (d5.ne_new hb).1 (d5.ne_new hb).2.2 e)
  have D7 : Da F v7 e7 := F7 F fun b o hb e => KF b o (d6.ne_new hb).1 (d6.ne_new hb).2.2 (k77 b o (d6.ne_new hb).1 (d6.ne_new hb).2.2 e)
  have D13 : Da F v13 e13 := F13 F fun b o hb e => toF b o (fun z => by rw [z, eS] at hb; cases hb) (q15 _ _ (k14 b o (dB.ne_new hb).1 (dB.ne_new hb).2.2 e))
  have D14 : Da F v14 e14 := F14 F fun b o hb e => toF b o (fun z => by rw [z, eS13] at hb; cases hb) (q15 _ _ e)
  have z0 : ((0 : Int)).natAbs < 2 ^ 200 := by decide
  have z1 : ((1 : Int)).natAbs < 2 ^ 200 := by decide
  have all : ∀ v ∈ [.ref t, .ref p1, .ref p2, .ref p3, .ref p4] ++ [v6, v7, .ref l8, .ref p10, .ref p11, .ref p12] ++ [.ref p15], ∃ d, Da F v d ∧ Fin_ 30000 8 d := by
    intro v hv
    simp only [List.cons_append, List.nil_append, List.mem_cons, List.not_mem_nil, or_false] at hv
    rcases hv with rfl | rfl | rfl | rfl | rfl | rfl | rfl | rfl | rfl | rfl | rfl | rfl
    · exact ⟨_, .tup (KF.tup dX ft) (.cons (.int _) (.cons (.int _) .nil)), .two w1 w2⟩
    · exact ⟨_, .tup (KF.tup dX e1) (.cons (.int _) (.cons (.int _) .nil)), .two (Fr.lt_up (Fr.mul_lt2 b1 mb) (by decide)) (Fr.lt_up (Fr.mul_lt2 b2 mb) (by decide))⟩
    · exact ⟨_, .tup (KF.tup dX e2) (.cons (.int _) (.cons (.int _) .nil)), .two (by omega) (by omega)⟩
    · exact ⟨_, .tup (KF.tup dX e3) (.cons (.int _) (.cons (.int _) .nil)), .two w2 w1⟩
    · exact ⟨_, .tup (KF.tup dX e4) (.cons (.int _) (.cons (.int _) .nil)), .two z0 (Fr.lt_up mb (by decide))⟩
    · exact ⟨_, D6, fin6⟩
    · exact ⟨_, D7, fin7.mono (by decide) (by decide)⟩
    · refine ⟨_, .lst (KF _ _ n8.1 n8.2.2 e8) (.cons (.int _) (.cons (.int _) .nil)), (Fin_.lstI (is := [x.1, x.2]) ?_ (by show 2 ≤ 2; decide)).mono (by decide) (by decide)⟩
      intro k hk
      simp only [List.mem_cons, List.not_mem_nil, or_false] at hk
      rcases hk with z | z
      · rw [z]; exact w1
      · rw [z]; exact w2
    · refine ⟨_, .tup (KF.tup dX e10) (.cons (.int _) (.cons (.int _) (.cons (.int _) .nil))), Fin_.tupI9 (is := [x.1, x.2, 1]) ?_ (by show 3 ≤ 10; decide)⟩
      intro k hk
      simp only [List.mem_cons, List.not_mem_nil, or_false] at hk
      rcases hk with z | z | z
      · rw [z]; exact w1
      · rw [z]; exact w2
      · rw [z]; exact z1
    · refine ⟨_, .tup (KF.tup dX e11) (.cons (.int _) .nil), Fin_.tupI9 (is := [x.1]) ?_ (by show 1 ≤ 10; decide)⟩
      intro k hk
      simp only [List.mem_cons, List.not_mem_nil, or_false] at hk
      rw [hk]
      exact w1
    · exact ⟨_, .tup (KF.tup dX e12) (.cons (.int _) (.cons (.int _) .nil)), .two w1 z0⟩
    · exact ⟨_, .tup (toF _ _ p15S upd_same) (.cons D13 (.cons D14 .nil)), fin13.pair fin14⟩
  generalize [V.ref t, .ref p1, .ref p2, .ref p3, .ref p4] ++ [v6, v7, .ref l8, .ref p10, .ref p11, .ref p12] ++ [.ref p15] = xs at *
  refine ⟨.ref S, rfl, S, rfl, ⟨_, .inl (.inl eF)⟩, for_list (K := K) (a := S) (xs := xs) (fun _ σ H' => Same F H' ∧ ∃ u2 u3 u4 u6 u7 u8, σ = [some (.ref a), some (.ref pa), u2, u3, u4, some (.ref S), u6, u7, u8]) ⟨Same.refl _, _, _, _, _, _, _, rfl⟩ (fun j σ H' _ p => .inl (.inl (p.1 _ _ eF))) (fun j v σ H8 he p => ?_) (fun σ H8 p => ?_)⟩
  · obtain ⟨s8, u2, u3, u4, u6, u7, u8, rfl⟩ := p
    obtain ⟨d, hd, fin⟩ := all v (List.mem_of_getElem? he)
    have hd8 := hd.same s8
    refine ⟨v, rfl, v, d, rfl, hd8, fin.sh.sh, fin.sh.tm, fin.sh.deep (by decide), fin.sh.fit (by decide), ?_⟩
    refine ⟨v, rfl, v, d, rfl, hd8, ?_⟩
    refine ⟨.bl (isFrD d), rfl, v, rfl, v, d, rfl, hd8, fin.sm, fun H9 s9 => ?_⟩
    refine ⟨.bl (isFrD d), .bl (isFrD d), .bool (isFrD d), .bool (isFrD d), rfl, .bl _, .bl _, rfl, rfl, (by show 0 < 1; decide), by decide, fun H10 s10 => ?_⟩
    refine ⟨_, rfl, ?_⟩
    rw [deq_refl (d := .bool (isFrD d)) rfl]
    have hd10 := (hd8.same s9).same s10
    refine ⟨v, rfl, v, d, rfl, hd10, fin.sh.sh, fin.sh.tm, fin.sh.deep (by decide), fin.sh.fit (by decide), _, rfl, rfl, _, rfl, neS ?_⟩
    refine ⟨v, rfl, v, d, rfl, hd10, .bl (isFrD d), rfl, rfl, _, rfl, neB ?_⟩
    exact ⟨(s8.trans s9).trans s10, _, _, _, _, _, _, rfl⟩
  · obtain ⟨s8, u2, u3, u4, u6, u7, u8, rfl⟩ := p
    exact ⟨(dF.same s8).mono (by omega), _, _, _, _, _, _, _, rfl⟩
end
end PM

namespace PM
open PySem PySem.Spec PyProof.Rows L2 RZ
/-! ### what the top has written -/
theorem all_mk {l : PySem.W.OpenLaw} {w : World} {K : PySem.W.Frag} {h : Heap} {mg : Str → Option Value} {fa : Addr} {f0 f1 f2 f3 f4 f5 f6 f7 f8 f9 f10 f11 f12 f13 : Addr}  (X : K.In h) (G : h.Ns mainGlobals mg) (hfa : mg "law" = some (.ref fa))
    {od0 an0 : Option Addr} {sl0 : Array (Option Value)} {oc0 kV0 dc0 pm0 cd0 ct0 : Value} (a0 : PySem.W.nsIn K mainGlobals "is_plain_integer" = some (some (.ref f0))) (l0 : K.lookup f0 = some ⟨oc0, od0, .func (PySem.W.fnOf "is_plain_integer" "is_plain_integer" (defArgs s_is_plain_integer) (defBody s_is_plain_integer) (defScope s_is_plain_integer) .none kV0 dc0 pm0 an0 cd0 ct0), sl0⟩) (c0 : PySem.W.codeIn K cd0 "is_plain_integer" = true) (k0 : PySem.W.keepIn K (.ref f0) = true)
    {od1 an1 : Option Addr} {sl1 : Array (Option Value)} {oc1 kV1 dc1 pm1 cd1 ct1 : Value} (a1 : PySem.W.nsIn K mainGlobals "common_divisor" = some (some (.ref f1))) (l1 : K.lookup f1 = some ⟨oc1, od1, .func (PySem.W.fnOf "common_divisor" "common_divisor" (defArgs s_common_divisor) (defBody s_common_divisor) (defScope s_common_divisor) .none kV1 dc1 pm1 an1 cd1 ct1), sl1⟩) (c1 : PySem.W.codeIn K cd1 "common_divisor" = true) (k1 : PySem.W.keepIn K (.ref f1) = true)
    {od2 an2 : Option Addr} {sl2 : Array (Option Value)} {oc2 kV2 dc2 pm2 cd2 ct2 : Value} (a2 : PySem.W.nsIn K mainGlobals "is_fraction" = some (some (.ref f2))) (l2 : K.lookup f2 = some ⟨oc2, od2, .func (PySem.W.fnOf "is_fraction" "is_fraction" (defArgs s_is_fraction) (defBody s_is_fraction) (defScope s_is_fraction) .none kV2 dc2 pm2 an2 cd2 ct2), sl2⟩) (c2 : PySem.W.codeIn K cd2 "is_fraction" = true) (k2 : PySem.W.keepIn K (.ref f2) = true)
    {od3 an3 : Option Addr} {sl3 : Array (Option Value)} {oc3 kV3 dc3 pm3 cd3 ct3 : Value} (a3 : PySem.W.nsIn K mainGlobals "_law_draws" = some (some (.ref f3))) (l3 : K.lookup f3 = some ⟨oc3, od3, .func (PySem.W.fnOf "_law_draws" "_law_draws" (defArgs s__law_draws) (defBody s__law_draws) (defScope s__law_draws) .none kV3 dc3 pm3 an3 cd3 ct3), sl3⟩) (c3 : PySem.W.codeIn K cd3 "_law_draws" = true) (k3 : PySem.W.keepIn K (.ref f3) = true)
    {od4 an4 : Option Addr} {sl4 : Array (Option Value)} {oc4 kV4 dc4 pm4 cd4 ct4 : Value} (a4 : PySem.W.nsIn K mainGlobals "_law_next" = some (some (.ref f4))) (l4 : K.lookup f4 = some ⟨oc4, od4, .func (PySem.W.fnOf "_law_next" "_law_next" (defArgs s__law_next) (defBody s__law_next) (defScope s__law_next) .none kV4 dc4 pm4 an4 cd4 ct4), sl4⟩) (c4 : PySem.W.codeIn K cd4 "_law_next" = true) (k4 : PySem.W.keepIn K (.ref f4) = true)
    {od5 an5 : Option Addr} {sl5 : Array (Option Value)} {oc5 kV5 dc5 pm5 cd5 ct5 : Value} (a5 : PySem.W.nsIn K mainGlobals "_law_one" = some (some (.ref f5))) (l5 : K.lookup f5 = some ⟨oc5, od5, .func (PySem.W.fnOf "_law_one" "_law_one" (defArgs s__law_one) (defBody s__law_one) (defScope s__law_one) .none kV5 dc5 pm5 an5 cd5 ct5), sl5⟩) (c5 : PySem.W.codeIn K cd5 "_law_one" = true) (k5 : PySem.W.keepIn K (.ref f5) = true)
    {od6 an6 : Option Addr} {sl6 : Array (Option Value)} {oc6 kV6 dc6 pm6 cd6 ct6 : Value} (a6 : PySem.W.nsIn K mainGlobals "_law_equal" = some (some (.ref f6))) (l6 : K.lookup f6 = some ⟨oc6, od6, .func (PySem.W.fnOf "_law_equal" "_law_equal" (defArgs s__law_equal) (defBody s__law_equal) (defScope s__law_equal) .none kV6 dc6 pm6 an6 cd6 ct6), sl6⟩) (c6 : PySem.W.codeIn K cd6 "_law_equal" = true) (k6 : PySem.W.keepIn K (.ref f6) = true)
    {od7 an7 : Option Addr} {sl7 : Array (Option Value)} {oc7 kV7 dc7 pm7 cd7 ct7 : Value} (a7 : PySem.W.nsIn K mainGlobals "_law_sized" = some (some (.ref f7))) (l7 : K.lookup f7 = some ⟨oc7, od7, .func (PySem.W.fnOf "_law_sized" "_law_sized" (defArgs s__law_sized) (defBody s__law_sized) (defScope s__law_sized) .none kV7 dc7 pm7 an7 cd7 ct7), sl7⟩) (c7 : PySem.W.codeIn K cd7 "_law_sized" = true) (k7 : PySem.W.keepIn K (.ref f7) = true)
    {od8 an8 : Option Addr} {sl8 : Array (Option Value)} {oc8 kV8 dc8 pm8 cd8 ct8 : Value} (a8 : PySem.W.nsIn K mainGlobals "_law_odd" = some (some (.ref f8))) (l8 : K.lookup f8 = some ⟨oc8, od8, .func (PySem.W.fnOf "_law_odd" "_law_odd" (defArgs s__law_odd) (defBody s__law_odd) (defScope s__law_odd) .none kV8 dc8 pm8 an8 cd8 ct8), sl8⟩) (c8 : PySem.W.codeIn K cd8 "_law_odd" = true) (k8 : PySem.W.keepIn K (.ref f8) = true)
    {od9 an9 : Option Addr} {sl9 : Array (Option Value)} {oc9 kV9 dc9 pm9 cd9 ct9 : Value} (a9 : PySem.W.nsIn K mainGlobals "_law_changed" = some (some (.ref f9))) (l9 : K.lookup f9 = some ⟨oc9, od9, .func (PySem.W.fnOf "_law_changed" "_law_changed" (defArgs s__law_changed) (defBody s__law_changed) (defScope s__law_changed) .none kV9 dc9 pm9 an9 cd9 ct9), sl9⟩) (c9 : PySem.W.codeIn K cd9 "_law_changed" = true) (k9 : PySem.W.keepIn K (.ref f9) = true)
    {od10 an10 : Option Addr} {sl10 : Array (Option Value)} {oc10 kV10 dc10 pm10 cd10 ct10 : Value} (a10 : PySem.W.nsIn K mainGlobals "_law_lowest" = some (some (.ref f10))) (l10 : K.lookup f10 = some ⟨oc10, od10, .func (PySem.W.fnOf "_law_lowest" "_law_lowest" (defArgs s__law_lowest) (defBody s__law_lowest) (defScope s__law_lowest) .none kV10 dc10 pm10 an10 cd10 ct10), sl10⟩) (c10 : PySem.W.codeIn K cd10 "_law_lowest" = true) (k10 : PySem.W.keepIn K (.ref f10) = true)
    {od11 an11 : Option Addr} {sl11 : Array (Option Value)} {oc11 kV11 dc11 pm11 cd11 ct11 : Value} (a11 : PySem.W.nsIn K mainGlobals "_law_is_fraction" = some (some (.ref f11))) (l11 : K.lookup f11 = some ⟨oc11, od11, .func (PySem.W.fnOf "_law_is_fraction" "_law_is_fraction" (defArgs s__law_is_fraction) (defBody s__law_is_fraction) (defScope s__law_is_fraction) .none kV11 dc11 pm11 an11 cd11 ct11), sl11⟩) (c11 : PySem.W.codeIn K cd11 "_law_is_fraction" = true) (k11 : PySem.W.keepIn K (.ref f11) = true)
    {od12 an12 : Option Addr} {sl12 : Array (Option Value)} {oc12 kV12 dc12 pm12 cd12 ct12 : Value} (a12 : PySem.W.nsIn K mainGlobals "_law_fraction" = some (some (.ref f12))) (l12 : K.lookup f12 = some ⟨oc12, od12, .func (PySem.W.fnOf "_law_fraction" "_law_fraction" (defArgs s__law_fraction) (defBody s__law_fraction) (defScope s__law_fraction) .none kV12 dc12 pm12 an12 cd12 ct12), sl12⟩) (c12 : PySem.W.codeIn K cd12 "_law_fraction" = true) (k12 : PySem.W.keepIn K (.ref f12) = true)
    {od13 an13 : Option Addr} {sl13 : Array (Option Value)} {oc13 kV13 dc13 pm13 cd13 ct13 : Value} (a13 : PySem.W.nsIn K mainGlobals "law" = some (some (.ref f13))) (l13 : K.lookup f13 = some ⟨oc13, od13, .func (PySem.W.fnOf "law" "law" (defArgs s_law) (defBody s_law) (defScope s_law) .none kV13 dc13 pm13 an13 cd13 ct13), sl13⟩) (c13 : PySem.W.codeIn K cd13 "law" = true) (k13 : PySem.W.keepIn K (.ref f13) = true)
    (z0 : PySem.W.nsIn K mainGlobals "abs" = some none)
    (z1 : PySem.W.nsIn K mainGlobals "len" = some none)
    (z2 : PySem.W.nsIn K mainGlobals "int" = some none)
    (z3 : PySem.W.nsIn K mainGlobals "list" = some none)
    (z4 : PySem.W.nsIn K mainGlobals "range" = some none)
    (z5 : PySem.W.nsIn K mainGlobals "isinstance" = some none)
    (z6 : PySem.W.nsIn K mainGlobals "tuple" = some none)
    (z7 : PySem.W.nsIn K mainGlobals "bool" = some none)
    (z8 : PySem.W.nsIn K mainGlobals "str" = some none)
    (z9 : PySem.W.nsIn K mainGlobals "all" = some none)
    (z10 : PySem.W.nsIn K mainGlobals "zip" = some none)
    (z11 : PySem.W.nsIn K mainGlobals "repr" = some none)
    (base : Heap) (H : Hp) (sh : Shared) (scr : Addr) (ns : List Int) (few : ns.length ≤ 63) (inB : K.In base) (glob : base.Ns mainGlobals mg) (seq : SqL K H scr (ns.map V.int)) (e0 : Env0 l.prog w K mg base callerA [] sh H) : codeAny (model l.prog w) callerA (.call (.ref fa) ⟨[.ref scr], []⟩) (CR CX0 [] l.prog w H sh (fun v _ => v = .bl true) E0) sh := by
  have F0 := fun_mk (st := s_is_plain_integer) l0 c0 k0
  have d_is_plain_integer : IsDef K mg "is_plain_integer" s_is_plain_integer P_is_plain_integer := ⟨_, _, F0, F0.binds (ps := P_is_plain_integer) (fun _ _ _ _ _ _ us hl => match us, hl with | [_], _ => rfl), PySem.W.mg_of X G a0⟩
  have F1 := fun_mk (st := s_common_divisor) l1 c1 k1
  have d_common_divisor : IsDef K mg "common_divisor" s_common_divisor P_common_divisor := ⟨_, _, F1, F1.binds (ps := P_common_divisor) (fun _ _ _ _ _ _ us hl => match us, hl with | [_, _], _ => rfl), PySem.W.mg_of X G a1⟩
  have F2 := fun_mk (st := s_is_fraction) l2 c2 k2
  have d_is_fraction : IsDef K mg "is_fraction" s_is_fraction P_is_fraction := ⟨_, _, F2, F2.binds (ps := P_is_fraction) (fun _ _ _ _ _ _ us hl => match us, hl with | [_], _ => rfl), PySem.W.mg_of X G a2⟩
  have F3 := fun_mk (st := s__law_draws) l3 c3 k3
  have d__law_draws : IsDef K mg "_law_draws" s__law_draws P__law_draws := ⟨_, _, F3, F3.binds (ps := P__law_draws) (fun _ _ _ _ _ _ us hl => match us, hl with | [_], _ => rfl), PySem.W.mg_of X G a3⟩
  have F4 := fun_mk (st := s__law_next) l4 c4 k4
  have d__law_next : IsDef K mg "_law_next" s__law_next P__law_next := ⟨_, _, F4, F4.binds (ps := P__law_next) (fun _ _ _ _ _ _ us hl => match us, hl with | [_, _], _ => rfl), PySem.W.mg_of X G a4⟩
  have F5 := fun_mk (st := s__law_one) l5 c5 k5
  have d__law_one : IsDef K mg "_law_one" s__law_one P__law_one := ⟨_, _, F5, F5.binds (ps := P__law_one) (fun _ _ _ _ _ _ us hl => match us, hl with | [_, _], _ => rfl), PySem.W.mg_of X G a5⟩
  have F6 := fun_mk (st := s__law_equal) l6 c6 k6
  have d__law_equal : IsDef K mg "_law_equal" s__law_equal P__law_equal := ⟨_, _, F6, F6.binds (ps := P__law_equal) (fun _ _ _ _ _ _ us hl => match us, hl with | [_, _], _ => rfl), PySem.W.mg_of X G a6⟩
  have F7 := fun_mk (st := s__law_sized) l7 c7 k7
  have d__law_sized : IsDef K mg "_law_sized" s__law_sized P__law_sized := ⟨_, _, F7, F7.binds (ps := P__law_sized) (fun _ _ _ _ _ _ us hl => match us, hl with | [_, _, _], _ => rfl), PySem.W.mg_of X G a7⟩
  have F8 := fun_mk (st := s__law_odd) l8 c8 k8
  have d__law_odd : IsDef K mg "_law_odd" s__law_odd P__law_odd := ⟨_, _, F8, F8.binds (ps := P__law_odd) (fun _ _ _ _ _ _ us hl => match us, hl with | [_], _ => rfl), PySem.W.mg_of X G a8⟩
  have F9 := fun_mk (st := s__law_changed) l9 c9 k9
  have d__law_changed : IsDef K mg "_law_changed" s__law_changed P__law_changed := ⟨_, _, F9, F9.binds (ps := P__law_changed) (fun _ _ _ _ _ _ us hl => match us, hl with | [_, _], _ => rfl), PySem.W.mg_of X G a9⟩
  have F10 := fun_mk (st := s__law_lowest) l10 c10 k10
  have d__law_lowest : IsDef K mg "_law_lowest" s__law_lowest P__law_lowest := ⟨_, _, F10, F10.binds (ps := P__law_lowest) (fun _ _ _ _ _ _ us hl => match us, hl with | [_, _], _ => rfl), PySem.W.mg_of X G a10⟩
  have F11 := fun_mk (st := s__law_is_fraction) l11 c11 k11
  have d__law_is_fraction : IsDef K mg "_law_is_fraction" s__law_is_fraction P__law_is_fraction := ⟨_, _, F11, F11.binds (ps := P__law_is_fraction) (fun _ _ _ _ _ _ us hl => match us, hl with | [_], _ => rfl), PySem.W.mg_of X G a11⟩
  have F12 := fun_mk (st := s__law_fraction) l12 c12 k12
  have d__law_fraction : IsDef K mg "_law_fraction" s__law_fraction P__law_fraction := ⟨_, _, F12, F12.binds (ps := P__law_fraction) (fun _ _ _ _ _ _ us hl => match us, hl with | [_], _ => rfl), PySem.W.mg_of X G a12⟩
  have F13 := fun_mk (st := s_law) l13 c13 k13
  have d_law : IsDef K mg "law" s_law P_law := ⟨_, _, F13, F13.binds (ps := P_law) (fun _ _ _ _ _ _ us hl => match us, hl with | [_], _ => rfl), PySem.W.mg_of X G a13⟩
  have m_abs := PySem.W.mg_none_of X G z0
  have m_len := PySem.W.mg_none_of X G z1
  have m_int := PySem.W.mg_none_of X G z2
  have m_list := PySem.W.mg_none_of X G z3
  have m_range := PySem.W.mg_none_of X G z4
  have m_isinstance := PySem.W.mg_none_of X G z5
  have m_tuple := PySem.W.mg_none_of X G z6
  have m_bool := PySem.W.mg_none_of X G z7
  have m_str := PySem.W.mg_none_of X G z8
  have m_all := PySem.W.mg_none_of X G z9
  have m_zip := PySem.W.mg_none_of X G z10
  have m_repr := PySem.W.mg_none_of X G z11
  have hN := ok__law_next (P := l.prog) (w := w) (base := base) (k := 0) d__law_next m_len
  have hL := ok__law_lowest (P := l.prog) (w := w) (base := base) (k := 0) d__law_lowest m_abs
  have hO := ok__law_odd (P := l.prog) (w := w) (base := base) d__law_odd (ok__law_one d__law_one m_len hN)
  have e := hfa.symm.trans (PySem.W.mg_of X G a13)
  cases e
  have room : Room (6 + 1) callerA := ⟨rfl, by decide, by decide⟩
  refine enter_at (N := N_law) (ps := P_law) (us := [.ref scr]) (vs := [.ref scr]) l13 c13 sc_law rfl room e0 (.of_eq rfl) (.cons rfl .nil) ?_
  obtain ⟨t, der, rd⟩ := ok_law (P := l.prog) (w := w) (base := base) (fa := fa) (cdv := cd13) (sh := sh) few seq (room.deeper _) (ok__law_draws d__law_draws m_len m_int m_list) hN (ok__law_fraction d__law_fraction hN hL) hO (ok_is_fraction d_is_fraction m_isinstance m_tuple m_len (ok_is_plain_integer d_is_plain_integer m_isinstance m_int m_bool) (ok_common_divisor d_common_divisor m_abs)) (ok__law_is_fraction d__law_is_fraction m_isinstance m_bool m_int (ok__law_sized d__law_sized m_isinstance m_tuple m_len) hL) (ok_chF (ok_chI d__law_changed m_isinstance m_tuple m_int m_bool m_len m_list hN hO) m_isinstance m_tuple m_int m_bool m_len m_list hN hO) (ok__law_equal d__law_equal m_isinstance m_tuple m_bool m_int m_str m_len m_all m_zip 1) m_range m_repr m_list
  exact ⟨t, der.nox, rd⟩
end PM
open PySem PySem.W PyProof.Rows
set_option maxHeartbeats 0 in
theorem PySem.Challenge.cw_poolmarks_k00_fractions_checked_holds : PySem.Challenge.rw_poolmarks_k00_fractions_checked.Holds := by
  w_on; o_law; k_head; (case hw => w_witness2)
  k_fill
  refine PM.walk_at (l := PySem.Challenge.rw_poolmarks_k00_fractions_checked) (n := 63) rfl (by decide) rfl (fun w h Y => PySem.W.kIn_of Y) ?F
  case F =>
    intro w mg fa h KX G hmg
    refine' PM.all_mk KX G hmg ?a0 ?l0 ?c0 ?k0 ?a1 ?l1 ?c1 ?k1 ?a2 ?l2 ?c2 ?k2 ?a3 ?l3 ?c3 ?k3 ?a4 ?l4 ?c4 ?k4 ?a5 ?l5 ?c5 ?k5 ?a6 ?l6 ?c6 ?k6 ?a7 ?l7 ?c7 ?k7 ?a8 ?l8 ?c8 ?k8 ?a9 ?l9 ?c9 ?k9 ?a10 ?l10 ?c10 ?k10 ?a11 ?l11 ?c11 ?k11 ?a12 ?l12 ?c12 ?k12 ?a13 ?l13 ?c13 ?k13 ?z0 ?z1 ?z2 ?z3 ?z4 ?z5 ?z6 ?z7 ?z8 ?z9 ?z10 ?z11
    (case a0 => k_is)
    (case l0 => k_is)
    (case c0 => k_is)
    (case k0 => k_is)
    (case a1 => k_is)
    (case l1 => k_is)
    (case c1 => k_is)
    (case k1 => k_is)
    (case a2 => k_is)
    (case l2 => k_is)
    (case c2 => k_is)
    (case k2 => k_is)
    (case a3 => k_is)
    (case l3 => k_is)
    (case c3 => k_is)
    (case k3 => k_is)
    (case a4 => k_is)
    (case l4 => k_is)
    (case c4 => k_is)
    (case k4 => k_is)
    (case a5 => k_is)
    (case l5 => k_is)
    (case c5 => k_is)
    (case k5 => k_is)
    (case a6 => k_is)
    (case l6 => k_is)
    (case c6 => k_is)
    (case k6 => k_is)
    (case a7 => k_is)
    (case l7 => k_is)
    (case c7 => k_is)
    (case k7 => k_is)
    (case a8 => k_is)
    (case l8 => k_is)
    (case c8 => k_is)
    (case k8 => k_is)
    (case a9 => k_is)
    (case l9 => k_is)
    (case c9 => k_is)
    (case k9 => k_is)
    (case a10 => k_is)
    (case l10 => k_is)
    (case c10 => k_is)
    (case k10 => k_is)
    (case a11 => k_is)
    (case l11 => k_is)
    (case c11 => k_is)
    (case k11 => k_is)
    (case a12 => k_is)
    (case l12 => k_is)
    (case c12 => k_is)
    (case k12 => k_is)
    (case a13 => k_is)
    (case l13 => k_is)
    (case c13 => k_is)
    (case k13 => k_is)
    (case z0 => k_is)
    (case z1 => k_is)
    (case z2 => k_is)
    (case z3 => k_is)
    (case z4 => k_is)
    (case z5 => k_is)
    (case z6 => k_is)
    (case z7 => k_is)
    (case z8 => k_is)
    (case z9 => k_is)
    (case z10 => k_is)
    (case z11 => k_is)
