import PyProof.Rows.All
import Wide.All
import OpenK.AllK
import Wide.FinOn
import PySem.Challenge.RW_poolmarks_k73_formatted_texts
import HandS.ForMost
import HandS.Wide
import HandS.NoneIn
import HandS.Style
import PyProof.ReprReads
import HandS.IsInst
import HandS.Zip
import HandS.Walk
import PyProof.ReprLen
import PyProof.ReprRoads
import PyProof.Rows.RegStrFacts
import HandS.TupAny
import HandS.TupMul
import HandS.Star
import HandS.Rev
import HandS.RevRange
import HandS.Conv
import KE.GoesNew
import HandS.SortInts
import HandS.ForExc
import HandS.ExcIs
import PyProof.FactsAll.tuple_2
import HandS.SortRule
import HandS.List
import HandS.Dict
import PyProof.Rows.All
import Wide.All
import OpenK.AllK
import Wide.FinOn
import PyProof.StrOps2
import PyProof.JoinWalk
import KE.KUnpackStar
import HandS.Base
import HandS.Call
import HandS.Text
import HandS.MapObj
import HandS.StrMore
import HandS.FStr
import HandS.Iter
import PyProof.NeKinds
import HandS.Codes
import PyProof.P3In
import PyProof.ZipIter
set_option Elab.async false
set_option linter.all false
set_option maxRecDepth 100000
namespace Fr
/-! fractions as pairs of ints in lowest terms; their values as rationals -/
def IsF (x : Int × Int) : Prop := 0 < x.2 ∧ Int.gcd x.1 x.2 = 1
def val (x : Int × Int) : Rat := (x.1 : Rat) / (x.2 : Rat)
def red (n d : Int) : Int × Int := (n / (Int.gcd n d : Int), d / (Int.gcd n d : Int))
theorem gcd_pos {n d : Int} (hd : d ≠ 0) : 0 < (Int.gcd n d : Int) := by
  have := Int.gcd_pos_of_ne_zero_right n hd
  omega
theorem red_isF {n d : Int} (hd : 0 < d) : IsF (red n d) := by
  have hg := Int.gcd_pos_of_ne_zero_right n (show d ≠ 0 by omega)
  refine ⟨?_, ?_⟩
  · exact Int.ediv_pos_of_pos_of_dvd hd (by omega) (Int.gcd_dvd_right _ _)
  · show Int.gcd (n / (Int.gcd n d : Int)) (d / (Int.gcd n d : Int)) = 1
    have e := Int.gcd_ediv (a := n) (b := d) (c := (Int.gcd n d : Int)) (Int.gcd_dvd_left _ _) (Int.gcd_dvd_right _ _)
    rw [e, Int.natAbs_natCast]
    exact Nat.div_self hg
theorem cast_ne {d : Int} (h : d ≠ 0) : (d : Rat) ≠ 0 := fun e => h (Rat.intCast_inj.mp (by rw [e]; rfl))
theorem cast_pos {d : Int} (h : 0 < d) : (0 : Rat) < (d : Rat) := Rat.intCast_lt_intCast.mpr h
theorem red_mul1 (n d : Int) : (red n d).1 * (Int.gcd n d : Int) = n := Int.ediv_mul_cancel (Int.gcd_dvd_left _ _)
theorem red_mul2 (n d : Int) : (red n d).2 * (Int.gcd n d : Int) = d := Int.ediv_mul_cancel (Int.gcd_dvd_right _ _)
theorem div_cancel {a b c : Rat} (hb : b ≠ 0) (hc : c ≠ 0) : (a * c) / (b * c) = a / b := by grind
theorem red_val {n d : Int} (hd : d ≠ 0) : val (red n d) = (n : Rat) / (d : Rat) := by
  have g0 : (Int.gcd n d : Int) ≠ 0 := by have := gcd_pos (n := n) hd; omega
  have e1 := red_mul1 n d
  have e2 := red_mul2 n d
  have h2 : (red n d).2 ≠ 0 := fun e => by rw [e, Int.zero_mul] at e2; exact hd e2.symm
  have c1 : ((red n d).1 : Rat) * ((Int.gcd n d : Int) : Rat) = (n : Rat) := by rw [← Rat.intCast_mul, e1]
  have c2 : ((red n d).2 : Rat) * ((Int.gcd n d : Int) : Rat) = (d : Rat) := by rw [← Rat.intCast_mul, e2]
  rw [← c1, ← c2, div_cancel (cast_ne h2) (cast_ne g0)]
  rfl
theorem cross {x y : Int × Int} (hx : x.2 ≠ 0) (hy : y.2 ≠ 0) : val x = val y ↔ x.1 * y.2 = y.1 * x.2 := by
  have a := cast_ne hx
  have b := cast_ne hy
  unfold val
  constructor
  · intro h
    refine Rat.intCast_inj.mp ?_
    rw [Rat.intCast_mul, Rat.intCast_mul]
    grind
  · intro h
    have h := Rat.intCast_inj.mpr h
    rw [Rat.intCast_mul, Rat.intCast_mul] at h
    grind
theorem dvd_cop {k m n : Int} (h : Int.gcd k m = 1) (d : k ∣ m * n) : k ∣ n := by
  have d' := Int.natAbs_dvd_natAbs.mpr d
  rw [Int.natAbs_mul] at d'
  exact Int.natAbs_dvd_natAbs.mp (Nat.Coprime.dvd_of_dvd_mul_left h d')
theorem val_inj {x y : Int × Int} (hx : IsF x) (hy : IsF y) (h : val x = val y) : x = y := by
  obtain ⟨x1, x2⟩ := x
  obtain ⟨y1, y2⟩ := y
  obtain ⟨px, gx⟩ := hx
  obtain ⟨py, gy⟩ := hy
  simp only at px gx py gy
  have h := (cross (x := (x1, x2)) (y := (y1, y2)) (by show x2 ≠ 0; omega) (by show y2 ≠ 0; omega)).mp h
  simp only at h
  have d1 : x2 ∣ x1 * y2 := ⟨y1, by rw [h, Int.mul_comm]⟩
  have d2 : y2 ∣ y1 * x2 := ⟨x1, by rw [← h, Int.mul_comm]⟩
  have e1 : x2 ∣ y2 := dvd_cop (by rw [Int.gcd_comm]; exact gx) d1
  have e2 : y2 ∣ x2 := dvd_cop (by rw [Int.gcd_comm]; exact gy) d2
  have e : x2 = y2 := Int.dvd_antisymm (by omega) (by omega) e1 e2
  subst e
  have e3 : x1 = y1 := Int.eq_of_mul_eq_mul_right (show x2 ≠ 0 by omega) h
  rw [e3]
theorem red_self {x : Int × Int} (hx : IsF x) : red x.1 x.2 = x := by
  unfold red
  rw [hx.2]
  simp
theorem red_eq {n d n' d' : Int} (hd : 0 < d) (hd' : 0 < d') : red n d = red n' d' ↔ n * d' = n' * d := by
  have c := cross (x := (n, d)) (y := (n', d')) (by show d ≠ 0; omega) (by show d' ≠ 0; omega)
  have v1 := red_val (n := n) (d := d) (by omega)
  have v2 := red_val (n := n') (d := d') (by omega)
  constructor
  · intro h
    refine c.mp ?_
    show (n : Rat) / (d : Rat) = (n' : Rat) / (d' : Rat)
    rw [← v1, ← v2, h]
  · intro h
    refine val_inj (red_isF hd) (red_isF hd') ?_
    rw [v1, v2]
    exact c.mpr h
def add (x y : Int × Int) : Int × Int := red (x.1 * y.2 + y.1 * x.2) (x.2 * y.2)
def sub (x y : Int × Int) : Int × Int := red (x.1 * y.2 - y.1 * x.2) (x.2 * y.2)
def mul (x y : Int × Int) : Int × Int := red (x.1 * y.1) (x.2 * y.2)
def cmp (x y : Int × Int) : Int := if x.1 * y.2 < y.1 * x.2 then -1 else if y.1 * x.2 < x.1 * y.2 then 1 else 0
theorem add_isF {x y : Int × Int} (hx : IsF x) (hy : IsF y) : IsF (add x y) := red_isF (Int.mul_pos hx.1 hy.1)
theorem sub_isF {x y : Int × Int} (hx : IsF x) (hy : IsF y) : IsF (sub x y) := red_isF (Int.mul_pos hx.1 hy.1)
theorem mul_isF {x y : Int × Int} (hx : IsF x) (hy : IsF y) : IsF (mul x y) := red_isF (Int.mul_pos hx.1 hy.1)
theorem IsF.ne {x : Int × Int} (hx : IsF x) : (x.2 : Rat) ≠ 0 := cast_ne (by have := hx.1; omega)
theorem add_val {x y : Int × Int} (hx : IsF x) (hy : IsF y) : val (add x y) = val x + val y := by
  have a := hx.ne
  have b := hy.ne
  have p := Int.mul_pos hx.1 hy.1
  unfold add
  rw [red_val (by omega)]
  unfold val
  simp only [Rat.intCast_mul, Rat.intCast_add]
  grind
theorem sub_val {x y : Int × Int} (hx : IsF x) (hy : IsF y) : val (sub x y) = val x - val y := by
  have a := hx.ne
  have b := hy.ne
  have p := Int.mul_pos hx.1 hy.1
  unfold sub
  rw [red_val (by omega)]
  unfold val
  simp only [Rat.intCast_mul, Rat.intCast_sub]
  grind
theorem mul_val {x y : Int × Int} (hx : IsF x) (hy : IsF y) : val (mul x y) = val x * val y := by
  have a := hx.ne
  have b := hy.ne
  have p := Int.mul_pos hx.1 hy.1
  unfold mul
  rw [red_val (by omega)]
  unfold val
  simp only [Rat.intCast_mul]
  grind
theorem lt_iff {x y : Int × Int} (hx : 0 < x.2) (hy : 0 < y.2) : x.1 * y.2 < y.1 * x.2 ↔ val x < val y := by
  have a := cast_pos hx
  have b := cast_pos hy
  have a' : (x.2 : Rat) ≠ 0 := by grind
  have b' : (y.2 : Rat) ≠ 0 := by grind
  unfold val
  rw [Rat.lt_div_iff b]
  have e : (x.1 : Rat) / (x.2 : Rat) * (y.2 : Rat) = ((x.1 * y.2 : Int) : Rat) / (x.2 : Rat) := by
    rw [Rat.intCast_mul]
    grind
  rw [e, Rat.div_lt_iff a, ← Rat.intCast_mul, Rat.intCast_lt_intCast]
def sgn (r : Rat) : Int := if r < 0 then -1 else if 0 < r then 1 else 0
theorem sgn_neg {r : Rat} (h : r < 0) : sgn r = -1 := if_pos h
theorem sgn_pos {r : Rat} (h : 0 < r) : sgn r = 1 := by
  unfold sgn
  rw [if_neg (by grind), if_pos h]
theorem sgn_zero : sgn 0 = 0 := by decide
theorem cmp_val {x y : Int × Int} (hx : IsF x) (hy : IsF y) : cmp x y = sgn (val x - val y) := by
  have l1 := lt_iff hx.1 hy.1
  have l2 := lt_iff hy.1 hx.1
  unfold cmp
  by_cases h1 : x.1 * y.2 < y.1 * x.2
  · have h := l1.mp h1
    rw [if_pos h1, sgn_neg (by grind)]
  · rw [if_neg h1]
    have n1 : ¬ val x < val y := fun h => h1 (l1.mpr h)
    by_cases h2 : y.1 * x.2 < x.1 * y.2
    · have h := l2.mp h2
      rw [if_pos h2, sgn_pos (by grind)]
    · have n2 : ¬ val y < val x := fun h => h2 (l2.mpr h)
      rw [if_neg h2]
      have e : val x - val y = 0 := by grind
      rw [e, sgn_zero]
/-! sizes -/
def Sz (b : Nat) (x : Int × Int) : Prop := x.1.natAbs < 2 ^ b ∧ x.2.natAbs < 2 ^ b
theorem Sz.mono {b c : Nat} {x : Int × Int} (h : Sz b x) (hc : b ≤ c) : Sz c x :=
  ⟨Nat.lt_of_lt_of_le h.1 (Nat.pow_le_pow_right (by decide) hc), Nat.lt_of_lt_of_le h.2 (Nat.pow_le_pow_right (by decide) hc)⟩
theorem red_sz {n d : Int} {b : Nat} (hn : n.natAbs < 2 ^ b) (hd : d.natAbs < 2 ^ b) : Sz b (red n d) := by
  refine ⟨Nat.lt_of_le_of_lt ?_ hn, Nat.lt_of_le_of_lt ?_ hd⟩
  · show (n / ((Int.gcd n d : Nat) : Int)).natAbs ≤ n.natAbs
    rw [Int.natAbs_ediv_of_dvd (Int.gcd_dvd_left _ _)]
    exact Nat.div_le_self _ _
  · show (d / ((Int.gcd n d : Nat) : Int)).natAbs ≤ d.natAbs
    rw [Int.natAbs_ediv_of_dvd (Int.gcd_dvd_right _ _)]
    exact Nat.div_le_self _ _
theorem mul_lt2 {i j : Int} {a b : Nat} (ha : i.natAbs < 2 ^ a) (hb : j.natAbs < 2 ^ b) : (i * j).natAbs < 2 ^ (a + b) := by
  rw [Int.natAbs_mul, Nat.pow_add]
  exact Nat.mul_lt_mul'' ha hb
theorem add_lt2 {i j : Int} {a : Nat} (ha : i.natAbs < 2 ^ a) (hb : j.natAbs < 2 ^ a) : (i + j).natAbs < 2 ^ (a + 1) := by
  rw [Nat.pow_succ]
  omega
theorem sub_lt2 {i j : Int} {a : Nat} (ha : i.natAbs < 2 ^ a) (hb : j.natAbs < 2 ^ a) : (i - j).natAbs < 2 ^ (a + 1) := by
  rw [Nat.pow_succ]
  omega
theorem lt_up {i : Int} {a b : Nat} (h : i.natAbs < 2 ^ a) (hb : a ≤ b) : i.natAbs < 2 ^ b := Nat.lt_of_lt_of_le h (Nat.pow_le_pow_right (by decide) hb)
theorem add_sz {x y : Int × Int} {a b : Nat} (hx : Sz a x) (hy : Sz b y) : Sz (a + b + 1) (add x y) :=
  red_sz (add_lt2 (mul_lt2 hx.1 hy.2) (lt_up (mul_lt2 hy.1 hx.2) (by omega))) (lt_up (mul_lt2 hx.2 hy.2) (by omega))
theorem sub_sz {x y : Int × Int} {a b : Nat} (hx : Sz a x) (hy : Sz b y) : Sz (a + b + 1) (sub x y) :=
  red_sz (sub_lt2 (mul_lt2 hx.1 hy.2) (lt_up (mul_lt2 hy.1 hx.2) (by omega))) (lt_up (mul_lt2 hx.2 hy.2) (by omega))
theorem mul_sz {x y : Int × Int} {a b : Nat} (hx : Sz a x) (hy : Sz b y) : Sz (a + b) (mul x y) :=
  red_sz (mul_lt2 hx.1 hy.1) (mul_lt2 hx.2 hy.2)
/-! Euclid's loop over ints -/
theorem gcd_step {a b : Int} (ha : 0 ≤ a) (hb : 0 ≤ b) : Int.gcd b (a % b) = Int.gcd a b := by
  obtain ⟨m, rfl⟩ := Int.eq_ofNat_of_zero_le ha
  obtain ⟨n, rfl⟩ := Int.eq_ofNat_of_zero_le hb
  rw [← Int.natCast_emod]
  show Nat.gcd n (m % n) = Nat.gcd m n
  rw [Nat.gcd_comm m n, Nat.gcd_comm n (m % n), ← Nat.gcd_rec]
theorem gcd_zero {a : Int} (ha : 0 ≤ a) : (Int.gcd a 0 : Int) = a := by
  rw [Int.gcd_zero_right]
  omega
/-! the order and sums of fractions by their values -/
theorem sgn_sub (r : Rat) : sgn (-r) = - sgn r := by
  unfold sgn
  by_cases h1 : r < 0
  · rw [if_pos h1, if_neg (by grind), if_pos (by grind)]
    rfl
  · rw [if_neg h1]
    by_cases h2 : 0 < r
    · rw [if_pos h2, if_pos (by grind)]
    · rw [if_neg h2, if_neg (by grind), if_neg (by grind)]
      rfl
theorem sgn_eq0 {r : Rat} : sgn r = 0 ↔ r = 0 := by
  unfold sgn
  by_cases h1 : r < 0
  · rw [if_pos h1]
    constructor
    · intro h; omega
    · intro h; grind
  · rw [if_neg h1]
    by_cases h2 : 0 < r
    · rw [if_pos h2]
      constructor
      · intro h; omega
      · intro h; grind
    · rw [if_neg h2]
      constructor
      · intro h; grind
      · intro h; rfl
theorem sgn_le {r : Rat} : sgn r ≤ 0 ↔ r ≤ 0 := by
  unfold sgn
  by_cases h1 : r < 0
  · rw [if_pos h1]
    constructor
    · intro h; grind
    · intro h; omega
  · rw [if_neg h1]
    by_cases h2 : 0 < r
    · rw [if_pos h2]
      constructor
      · intro h; omega
      · intro h; grind
    · rw [if_neg h2]
      constructor
      · intro h; grind
      · intro h; omega
theorem sgn_mul (r s : Rat) : sgn (r * s) = sgn r * sgn s := by
  have key : ∀ a b : Rat, 0 < a → 0 < b → 0 < a * b := fun a b ha hb => Rat.mul_pos ha hb
  by_cases r1 : r < 0
  · rw [sgn_neg r1]
    by_cases s1 : s < 0
    · rw [sgn_neg s1, sgn_pos (by have := key (-r) (-s) (by grind) (by grind); grind)]
      rfl
    · by_cases s2 : 0 < s
      · rw [sgn_pos s2, sgn_neg (by have := key (-r) s (by grind) s2; grind)]
        rfl
      · have e : s = 0 := by grind
        rw [e, Rat.mul_zero, sgn_zero]
        rfl
  · by_cases r2 : 0 < r
    · rw [sgn_pos r2]
      by_cases s1 : s < 0
      · rw [sgn_neg s1, sgn_neg (by have := key r (-s) r2 (by grind); grind)]
        rfl
      · by_cases s2 : 0 < s
        · rw [sgn_pos s2, sgn_pos (key r s r2 s2)]
          rfl
        · have e : s = 0 := by grind
          rw [e, Rat.mul_zero, sgn_zero]
          rfl
    · have e : r = 0 := by grind
      rw [e, Rat.zero_mul, sgn_zero]
      omega
/-! what the laws of fractions ask -/
theorem m_comm {x y : Int × Int} (hx : IsF x) (hy : IsF y) : add y x = add x y := val_inj (add_isF hy hx) (add_isF hx hy) (by rw [add_val hy hx, add_val hx hy]; grind)
theorem m_back {x y : Int × Int} (hx : IsF x) (hy : IsF y) : sub (add x y) y = x := val_inj (sub_isF (add_isF hx hy) hy) hx (by rw [sub_val (add_isF hx hy) hy, add_val hx hy]; grind)
theorem m_assoc {x y z : Int × Int} (hx : IsF x) (hy : IsF y) (hz : IsF z) : add (add x y) z = add x (add y z) :=
  val_inj (add_isF (add_isF hx hy) hz) (add_isF hx (add_isF hy hz)) (by rw [add_val (add_isF hx hy) hz, add_val hx hy, add_val hx (add_isF hy hz), add_val hy hz]; grind)
theorem p_comm {x y : Int × Int} (hx : IsF x) (hy : IsF y) : mul y x = mul x y := val_inj (mul_isF hy hx) (mul_isF hx hy) (by rw [mul_val hy hx, mul_val hx hy]; grind)
theorem p_assoc {x y z : Int × Int} (hx : IsF x) (hy : IsF y) (hz : IsF z) : mul (mul x y) z = mul x (mul y z) :=
  val_inj (mul_isF (mul_isF hx hy) hz) (mul_isF hx (mul_isF hy hz)) (by rw [mul_val (mul_isF hx hy) hz, mul_val hx hy, mul_val hx (mul_isF hy hz), mul_val hy hz]; grind)
theorem p_dist {x y z : Int × Int} (hx : IsF x) (hy : IsF y) (hz : IsF z) : mul (add x y) z = add (mul x z) (mul y z) :=
  val_inj (mul_isF (add_isF hx hy) hz) (add_isF (mul_isF hx hz) (mul_isF hy hz)) (by rw [mul_val (add_isF hx hy) hz, add_val hx hy, add_val (mul_isF hx hz) (mul_isF hy hz), mul_val hx hz, mul_val hy hz]; grind)
theorem c_opp {x y : Int × Int} (hx : IsF x) (hy : IsF y) : cmp y x = 0 - cmp x y := by
  rw [cmp_val hy hx, cmp_val hx hy, show val y - val x = -(val x - val y) by grind, sgn_sub]
  omega
theorem c_zero {x y : Int × Int} (hx : IsF x) (hy : IsF y) : cmp x y = 0 ↔ x = y := by
  rw [cmp_val hx hy, sgn_eq0]
  constructor
  · intro h
    exact val_inj hx hy (by grind)
  · intro h
    rw [h]
    grind
theorem c_add {x y z : Int × Int} (hx : IsF x) (hy : IsF y) (hz : IsF z) : cmp (add x z) (add y z) = cmp x y := by
  rw [cmp_val (add_isF hx hz) (add_isF hy hz), cmp_val hx hy, add_val hx hz, add_val hy hz, show val x + val z - (val y + val z) = val x - val y by grind]
theorem zero_isF : IsF (0, 1) := ⟨by decide, by decide⟩
theorem zero_val : val (0, 1) = 0 := by
  unfold val
  show ((0 : Int) : Rat) / ((1 : Int) : Rat) = 0
  grind
theorem c_mul {x y z : Int × Int} (hx : IsF x) (hy : IsF y) (hz : IsF z) : cmp (mul x z) (mul y z) = cmp x y * cmp z (0, 1) := by
  rw [cmp_val (mul_isF hx hz) (mul_isF hy hz), cmp_val hx hy, cmp_val hz zero_isF, mul_val hx hz, mul_val hy hz, zero_val, ← sgn_mul, show (val x - val y) * (val z - 0) = val x * val z - val y * val z by grind]
theorem c_trans {x y z : Int × Int} (hx : IsF x) (hy : IsF y) (hz : IsF z) (h1 : cmp x y ≤ 0) (h2 : cmp y z ≤ 0) : cmp x z ≤ 0 := by
  rw [cmp_val hx hy, sgn_le] at h1
  rw [cmp_val hy hz, sgn_le] at h2
  rw [cmp_val hx hz, sgn_le]
  grind
theorem c_bound (x y : Int × Int) : -1 ≤ cmp x y ∧ cmp x y ≤ 1 := by
  unfold cmp
  split
  · omega
  · split <;> omega
/-! any denominator but 0 -/
def mk (n d : Int) : Int × Int := if d < 0 then red (-n) (-d) else red n d
theorem mk_isF {n d : Int} (h : d ≠ 0) : IsF (mk n d) := by
  unfold mk
  split
  · exact red_isF (by omega)
  · exact red_isF (by omega)
theorem mk_val {n d : Int} (h : d ≠ 0) : val (mk n d) = (n : Rat) / (d : Rat) := by
  have hd := cast_ne h
  unfold mk
  split
  · rw [red_val (by omega), Rat.intCast_neg, Rat.intCast_neg]
    grind
  · exact red_val h
theorem mk_cross {n d : Int} (h : d ≠ 0) : (mk n d).1 * d = n * (mk n d).2 :=
  (cross (x := mk n d) (y := (n, d)) (by have := (mk_isF (n := n) h).1; omega) h).mp (mk_val h)
theorem mk_many {n d m : Int} (h : d ≠ 0) (hm : m ≠ 0) : mk (n * m) (d * m) = mk n d := by
  have h2 : d * m ≠ 0 := Int.mul_ne_zero h hm
  have a := cast_ne h
  have b := cast_ne hm
  refine val_inj (mk_isF h2) (mk_isF h) ?_
  rw [mk_val h2, mk_val h, Rat.intCast_mul, Rat.intCast_mul, div_cancel a b]
theorem mk_neg {n d : Int} (h : d ≠ 0) : mk (0 - n) (0 - d) = mk n d := by
  have := mk_many (n := n) (m := -1) h (by decide)
  rw [show 0 - n = n * -1 by omega, show 0 - d = d * -1 by omega]
  exact this
theorem mk_sz {n d : Int} {b : Nat} (hn : n.natAbs < 2 ^ b) (hd : d.natAbs < 2 ^ b) : Sz b (mk n d) := by
  unfold mk
  split
  · exact red_sz (by omega) (by omega)
  · exact red_sz hn hd
/-- the floor division by the divisor with its sign -/
theorem mk_fdiv {n d : Int} (h : d ≠ 0) : mk n d = (n.fdiv (if d < 0 then -(Int.gcd n d : Int) else (Int.gcd n d : Int)), d.fdiv (if d < 0 then -(Int.gcd n d : Int) else (Int.gcd n d : Int))) := by
  have g := gcd_pos (n := n) h
  unfold mk red
  split
  · rename_i hd
    rw [Int.neg_gcd, Int.gcd_neg]
    have key : ∀ i : Int, i.fdiv (-(Int.gcd n d : Int)) = -i / (Int.gcd n d : Int) := fun i => by
      rw [← Int.neg_neg i, Int.neg_fdiv_neg, Int.neg_neg, Int.fdiv_eq_ediv_of_nonneg _ (by omega)]
    rw [key, key]
  · rw [Int.fdiv_eq_ediv_of_nonneg _ (by omega), Int.fdiv_eq_ediv_of_nonneg _ (by omega)]
end Fr

namespace PM
open PySem PySem.Spec PyProof.Rows L2
/-! ### heaps -/
theorem same_upd {Hh : Hp} {new : Addr} {ob : HO} (hnew : Hh new = none) : Same Hh (upd Hh new ob) := fun b x hx => by
  rw [upd_ne (ne_of_none hx hnew)]
  exact hx
/-- what stood stands, but at a and r -/
def Keep (a r : Addr) (H H' : Hp) : Prop := ∀ b o, b ≠ a → b ≠ r → H b = some o → H' b = some o
theorem Keep.refl (a r : Addr) (H : Hp) : Keep a r H H := fun _ _ _ _ h => h
theorem Keep.trans {a r : Addr} {H H1 H2 : Hp} (x : Keep a r H H1) (y : Keep a r H1 H2) : Keep a r H H2 := fun b o h1 h2 h => y b o h1 h2 (x b o h1 h2 h)
theorem Keep.same {a r : Addr} {H H' : Hp} (h : Same H H') : Keep a r H H' := fun b o _ _ e => h b o e
theorem seqT {K : PySem.W.Frag} {H H' : Hp} {a : Addr} {xs : List V} (e : Same H H') (h : H a = some (.tup xs)) : SqT K H' a xs := .inl (.inl (e _ _ h))
/-! ### the drawn numbers: a the list, c its cells, r its rests; at most n turns so far -/
structure Drw (H : Hp) (a c r : Addr) (n : Nat) : Prop where
  ex : ∃ (cells rests : List Int) (t : Int), H a = some (.lst [.ref c, .int t, .ref r]) ∧ H c = some (.lst (cells.map V.int)) ∧ H r = some (.lst (rests.map V.int)) ∧
    rests.length = cells.length ∧ 0 < cells.length ∧ cells.length ≤ 64 ∧ 0 ≤ t ∧ t ≤ n
  ac : a ≠ c
  ar : a ≠ r
  cr : c ≠ r
theorem Drw.same {H H' : Hp} {a c r : Addr} {n : Nat} (h : Drw H a c r n) (s : Same H H') : Drw H' a c r n := by
  obtain ⟨⟨cells, rests, t, h1, h2, h3, q⟩, x, y, z⟩ := h
  exact ⟨⟨cells, rests, t, s _ _ h1, s _ _ h2, s _ _ h3, q⟩, x, y, z⟩
theorem Drw.new {H : Hp} {a c r p : Addr} {n : Nat} {o : HO} (h : Drw H a c r n) (e : H p = none) : Drw (L2.upd H p o) a c r n := h.same (same_upd e)
theorem Drw.ne_tup {H : Hp} {a c r p : Addr} {n : Nat} {xs : List V} (h : Drw H a c r n) (e : H p = some (.tup xs)) : p ≠ a ∧ p ≠ r := by
  obtain ⟨⟨cells, rests, t, h1, h2, h3, _⟩, _⟩ := h
  exact ⟨fun z => (by rw [z, h1] at e; cases e), fun z => (by rw [z, h3] at e; cases e)⟩
theorem Drw.ne_new {H : Hp} {a c r p : Addr} {n : Nat} (h : Drw H a c r n) (e : H p = none) : p ≠ a ∧ p ≠ c ∧ p ≠ r := by
  obtain ⟨⟨cells, rests, t, h1, h2, h3, _⟩, _⟩ := h
  exact ⟨fun z => (by rw [z, h1] at e; cases e), fun z => (by rw [z, h2] at e; cases e), fun z => (by rw [z, h3] at e; cases e)⟩
theorem Keep.tup {H H' : Hp} {a c r p : Addr} {n : Nat} {xs : List V} (k : Keep a r H H') (d : Drw H a c r n) (e : H p = some (.tup xs)) : H' p = some (.tup xs) :=
  k _ _ (d.ne_tup e).1 (d.ne_tup e).2 e
/-! ### defs -/
structure Def1 (K : PySem.W.Frag) (mg : Str → Option Value) (x : Str) (st : Stmt) (ps : List Str) (f : Addr) (fd : FuncData) : Prop where
  F : Fun K x x st f fd
  b : Binds K fd ps []
  g : mg x = some (.ref f)
def IsDef (K : PySem.W.Frag) (mg : Str → Option Value) (x : Str) (st : Stmt) (ps : List Str) : Prop := ∃ f fd, Def1 K mg x st ps f fd
def Ok (P : Program) (w : World) (K : PySem.W.Frag) (mg : Str → Option Value) (base : Heap) (k : Nat) (x : Str) (st : Stmt) (ps : List Str) (sp : Sp) : Prop :=
  ∃ f fd, Def1 K mg x st ps f fd ∧ FnOk P w K mg base CX0 k f fd ps sp
section
variable {X : Cx}
theorem op_fdivZ : OpR X (binaryOp .FloorDiv) (rI (fun _ j => j ≠ 0 ∧ j.natAbs.log2 < 9000) fun i j => .int (i.fdiv j)) :=
  opI fun i j _ _ _ _ _ hc q => floordiv_int hc.1 q (.inl (PyProof.noPylong_of_log2 hc.2))
end
theorem place_ok {len at_ : Nat} (h : at_ < len) : ixN len (at_ : Int) = some at_ := by
  unfold ixN
  rw [if_pos (by omega), if_pos (by omega), Int.toNat_natCast]
theorem toks {n : Nat} (h : n ≤ 1000) : n ≤ sizeLine := Nat.le_of_lt (small1000 h)
theorem cut63 {xs : List V} (h : xs.length ≤ 63) : cutV xs none (some 63) = xs := by
  unfold cutV
  rw [show HT.sIx xs.length xs.length (some 63) = min 63 xs.length from HT.sIx_nat xs.length xs.length 63, HT.sIx_none, Nat.min_eq_right h]
  show List.take (xs.length - 0) (List.drop 0 xs) = xs
  rw [Nat.sub_zero, List.drop_zero, List.take_length]
/-- a fraction that stands at p -/
def FrAt (H : Hp) (p : Addr) (x : Int × Int) : Prop := H p = some (.tup [.int x.1, .int x.2])
theorem FrAt.same {H H' : Hp} {p : Addr} {x : Int × Int} (h : FrAt H p x) (s : Same H H') : FrAt H' p x := s _ _ h
theorem FrAt.keep {H H' : Hp} {a c r p : Addr} {n : Nat} {x : Int × Int} (h : FrAt H p x) (d : Drw H a c r n) (k : Keep a r H H') : FrAt H' p x := k.tup d h
/-- a fraction as data -/
abbrev fd (x : Int × Int) : PyData := .tuple [.int x.1, .int x.2]
theorem frD {K : PySem.W.Frag} {H : Hp} {p : Addr} {x : Int × Int} (h : FrAt H p x) : Dp K H (.ref p) (fd x) := .tup (.inl (.inl h)) (.cons (.int _) (.cons (.int _) .nil))
theorem eqv_fd (x y : Int × Int) : PyData.eqv (fd x) (fd y) = decide (x = y) := by
  have e : PyData.eqv (fd x) (fd y) = ((x.1 == y.1) && ((x.2 == y.2) && true)) := by
    simp only [PyData.eqv, PyData.eqvAll]
  rw [e]
  by_cases h : x = y
  · subst h
    simp
  · rw [decide_eq_false h]
    have : ¬ (x.1 = y.1 ∧ x.2 = y.2) := fun z => h (Prod.ext z.1 z.2)
    by_cases h1 : x.1 = y.1
    · have h2 : x.2 ≠ y.2 := fun z => this ⟨h1, z⟩
      simp [h2]
    · simp [h1]
theorem eqT {x y : Int × Int} (h : x = y) : PyData.eqv (fd x) (fd y) = true := by rw [eqv_fd, decide_eq_true h]
theorem neF {x y : Int × Int} {A B : Prop} (h : x = y) (k : B) : if (!PyData.eqv (fd x) (fd y)) = true then A else B := by
  rw [eqT h]
  exact k
theorem neI {i j : Int} {A B : Prop} (h : i = j) (k : B) : if (!decide (V.int i = V.int j)) = true then A else B := by
  rw [h, decide_eq_true rfl]
  exact k
theorem Drw.mono {H : Hp} {a c r : Addr} {n m : Nat} (h : Drw H a c r n) (e : n ≤ m) : Drw H a c r m := by
  obtain ⟨⟨cells, rests, t, h1, h2, h3, e1, e2, e3, e4, e5⟩, x, y, z⟩ := h
  exact ⟨⟨cells, rests, t, h1, h2, h3, e1, e2, e3, e4, by omega⟩, x, y, z⟩
theorem Drw.off {H : Hp} {a c r p : Addr} {n : Nat} {o : HO} (h : Drw H a c r n) (e : p ≠ a ∧ p ≠ c ∧ p ≠ r) : Drw (L2.upd H p o) a c r n := by
  obtain ⟨⟨cells, rests, t, h1, h2, h3, q⟩, x, y, z⟩ := h
  refine ⟨⟨cells, rests, t, ?_, ?_, ?_, q⟩, x, y, z⟩
  · rw [L2.upd_ne (Ne.symm e.1)]
    exact h1
  · rw [L2.upd_ne (Ne.symm e.2.1)]
    exact h2
  · rw [L2.upd_ne (Ne.symm e.2.2)]
    exact h3
theorem FrAt.upd_lst {H : Hp} {p D : Addr} {x : Int × Int} {xs ys : List V} (h : FrAt H p x) (e : H D = some (.lst xs)) : FrAt (upd H D (.lst ys)) p x := by
  show (upd H D (.lst ys)) p = _
  rw [L2.upd_ne (show p ≠ D from fun z => by rw [z] at h; rw [show H D = _ from h] at e; cases e)]
  exact h
end PM

namespace PM
open PySem PySem.Spec PyProof.Rows L2 RZ
/-! ### data that stands in the heap -/
mutual
inductive Da (H : Hp) : V → PyData → Prop
  | non : Da H .non .none
  | bl (b : Bool) : Da H (.bl b) (.bool b)
  | int (i : Int) : Da H (.int i) (.int i)
  | str (x : Str) : Da H (.str x) (.str x)
  | lst {a : Addr} {xs : List V} {ds : List PyData} : H a = some (.lst xs) → DaL H xs ds → Da H (.ref a) (.list ds)
  | tup {a : Addr} {xs : List V} {ds : List PyData} : H a = some (.tup xs) → DaL H xs ds → Da H (.ref a) (.tuple ds)
  | dic {a : Addr} : H a = some (.dK []) → Da H (.ref a) (.dict [])
inductive DaL (H : Hp) : List V → List PyData → Prop
  | nil : DaL H [] []
  | cons {v : V} {vs : List V} {d : PyData} {ds : List PyData} : Da H v d → DaL H vs ds → DaL H (v :: vs) (d :: ds)
end
mutual
theorem Da.same {H H' : Hp} (s : Same H H') : ∀ {v : V} {d : PyData}, Da H v d → Da H' v d
  | _, _, .non => .non
  | _, _, .bl b => .bl b
  | _, _, .int i => .int i
  | _, _, .str x => .str x
  | _, _, .lst e h => .lst (s _ _ e) (DaL.same s h)
  | _, _, .tup e h => .tup (s _ _ e) (DaL.same s h)
  | _, _, .dic e => .dic (s _ _ e)
theorem DaL.same {H H' : Hp} (s : Same H H') : ∀ {vs : List V} {ds : List PyData}, DaL H vs ds → DaL H' vs ds
  | _, _, .nil => .nil
  | _, _, .cons h t => .cons (Da.same s h) (DaL.same s t)
end
mutual
theorem Da.dp {K : PySem.W.Frag} {H : Hp} : ∀ {v : V} {d : PyData}, Da H v d → d.hasDict = false → Dp K H v d
  | _, _, .non, _ => .non
  | _, _, .bl b, _ => .bl b
  | _, _, .int i, _ => .int i
  | _, _, .str x, _ => .str x
  | _, _, .lst e h, z => .lst (.inl (.inl e)) (DaL.dp h (by unfold PyData.hasDict at z; exact z))
  | _, _, .tup e h, z => .tup (.inl (.inl e)) (DaL.dp h (by unfold PyData.hasDict at z; exact z))
  | _, _, .dic e, z => by
    unfold PyData.hasDict at z
    cases z
theorem DaL.dp {K : PySem.W.Frag} {H : Hp} : ∀ {vs : List V} {ds : List PyData}, DaL H vs ds → PyData.hasDictAll ds = false → DpAll K H vs ds
  | _, _, .nil, _ => .nil
  | _, _, .cons h t, z => by
    unfold PyData.hasDictAll at z
    have z := Bool.or_eq_false_iff.mp z
    exact .cons (Da.dp h z.1) (DaL.dp t z.2)
end
theorem DaL.length {H : Hp} : ∀ {vs : List V} {ds : List PyData}, DaL H vs ds → vs.length = ds.length
  | _, _, .nil => rfl
  | _, _, .cons _ t => by
    rw [List.length_cons, List.length_cons, DaL.length t]
theorem DaL.get {H : Hp} : ∀ {vs : List V} {ds : List PyData} (i : Nat) {v : V}, DaL H vs ds → vs[i]? = some v → ∃ d, ds[i]? = some d ∧ Da H v d
  | _, _, i, _, .nil, e => by simp at e
  | _, _, 0, _, .cons h t, e => by
    have e := Option.some.inj e
    subst e
    exact ⟨_, rfl, h⟩
  | _, _, i + 1, _, .cons h t, e => DaL.get i t e
/-- equal as values of the same kinds: None, bools, ints, texts, tuples of these -/
def plainD : PyData → Bool
  | .none | .bool _ | .int _ => true
  | .str x => PyData.strOk x
  | .tuple ds => decide (ds.length ≤ 1000) && plainL ds
  | _ => false
where plainL : List PyData → Bool
  | [] => true
  | d :: ds => plainD d && plainL ds
def deq : PyData → PyData → Bool
  | .none, .none => true
  | .bool a, .bool b => a == b
  | .int i, .int j => i == j
  | .str x, .str y => x == y
  | .tuple xs, .tuple ys => deqL xs ys
  | _, _ => false
where deqL : List PyData → List PyData → Bool
  | [], [] => true
  | x :: xs, y :: ys => deq x y && deqL xs ys
  | _, _ => false
def dep : PyData → Nat
  | .tuple ds => depL ds + 1
  | .list ds => depL ds + 1
  | _ => 0
where depL : List PyData → Nat
  | [] => 0
  | d :: ds => max (dep d) (depL ds)
theorem plain_get : ∀ {ds : List PyData} {i : Nat} {d : PyData}, plainD.plainL ds = true → ds[i]? = some d → plainD d = true
  | [], i, d, _, e => by simp at e
  | x :: xs, 0, d, h, e => by
    have e := Option.some.inj e
    subst e
    unfold plainD.plainL at h
    exact (Bool.and_eq_true_iff.mp h).1
  | x :: xs, i + 1, d, h, e => by
    unfold plainD.plainL at h
    exact plain_get (Bool.and_eq_true_iff.mp h).2 e
theorem plain_tup {ds : List PyData} (h : plainD (.tuple ds) = true) : ds.length ≤ 1000 ∧ plainD.plainL ds = true := by
  unfold plainD at h
  have h := Bool.and_eq_true_iff.mp h
  exact ⟨of_decide_eq_true h.1, h.2⟩
theorem dep_get : ∀ {ds : List PyData} {i : Nat} {d : PyData}, ds[i]? = some d → dep d ≤ dep.depL ds
  | [], i, d, e => by simp at e
  | x :: xs, 0, d, e => by
    have e := Option.some.inj e
    subst e
    unfold dep.depL
    exact Nat.le_max_left _ _
  | x :: xs, i + 1, d, e => by
    unfold dep.depL
    exact Nat.le_trans (dep_get (i := i) e) (Nat.le_max_right _ _)
theorem deqL_len : ∀ {xs ys : List PyData}, xs.length ≠ ys.length → deq.deqL xs ys = false
  | [], [], h => absurd rfl h
  | [], _ :: _, _ => rfl
  | _ :: _, [], _ => rfl
  | x :: xs, y :: ys, h => by
    unfold deq.deqL
    rw [deqL_len (xs := xs) (ys := ys) (fun e => h (by rw [List.length_cons, List.length_cons, e])), Bool.and_false]
theorem deqL_all : ∀ {xs ys : List PyData}, xs.length = ys.length → deq.deqL xs ys = (((List.zip xs ys).map fun p => deq p.1 p.2).all id)
  | [], [], _ => rfl
  | [], _ :: _, h => by simp at h
  | _ :: _, [], h => by simp at h
  | x :: xs, y :: ys, h => by
    have ih := deqL_all (xs := xs) (ys := ys) (by simpa using h)
    unfold deq.deqL
    rw [ih]
    rfl
/-- a kind's name -/
def tn : PyData → String
  | .none => "NoneType"
  | .bool _ => "bool"
  | .int _ => "int"
  | .str _ => "str"
  | .list _ => "list"
  | .tuple _ => "tuple"
  | .dict _ => "dict"
theorem Da.ty {K : PySem.W.Frag} {H : Hp} : ∀ {v : V} {d : PyData}, Da H v d → TyX K H v (.type (tn d))
  | _, _, .non => .base .non
  | _, _, .bl b => .base (.bl b)
  | _, _, .int i => .base (.int i)
  | _, _, .str x => .base (.str x)
  | _, _, .lst e h => .base (.lst e)
  | _, _, .tup e h => .base (.tup e)
  | _, _, .dic e => .base (.dK e)
def isT : PyData → Bool | .tuple _ => true | _ => false
def isB : PyData → Bool | .bool _ => true | _ => false
def isI : PyData → Bool | .bool _ => true | .int _ => true | _ => false
def isS : PyData → Bool | .str _ => true | _ => false
def isL : PyData → Bool | .list _ => true | _ => false
theorem kitT {K : PySem.W.Frag} {H : Hp} {v : V} {d : PyData} (h : Da H v d) : PySem.W.kitOne K (.type (tn d)) (.type "tuple") = some (isT d) := by
  cases h <;> first | exact kit_ty (show kitB "NoneType" "tuple" = some false by decide +kernel) | exact kit_ty (show kitB "bool" "tuple" = some false by decide +kernel) | exact kit_ty (show kitB "int" "tuple" = some false by decide +kernel) | exact kit_ty (show kitB "str" "tuple" = some false by decide +kernel) | exact kit_ty (show kitB "list" "tuple" = some false by decide +kernel) | exact kit_ty (show kitB "tuple" "tuple" = some true by decide +kernel) | exact kit_ty (show kitB "dict" "tuple" = some false by decide +kernel)
theorem kitBo {K : PySem.W.Frag} {H : Hp} {v : V} {d : PyData} (h : Da H v d) : PySem.W.kitOne K (.type (tn d)) (.type "bool") = some (isB d) := by
  cases h <;> first | exact kit_ty (show kitB "NoneType" "bool" = some false by decide +kernel) | exact kit_ty (show kitB "bool" "bool" = some true by decide +kernel) | exact kit_ty (show kitB "int" "bool" = some false by decide +kernel) | exact kit_ty (show kitB "str" "bool" = some false by decide +kernel) | exact kit_ty (show kitB "list" "bool" = some false by decide +kernel) | exact kit_ty (show kitB "tuple" "bool" = some false by decide +kernel) | exact kit_ty (show kitB "dict" "bool" = some false by decide +kernel)
theorem kitI {K : PySem.W.Frag} {H : Hp} {v : V} {d : PyData} (h : Da H v d) : PySem.W.kitOne K (.type (tn d)) (.type "int") = some (isI d) := by
  cases h <;> first | exact kit_ty (show kitB "NoneType" "int" = some false by decide +kernel) | exact kit_ty (show kitB "bool" "int" = some true by decide +kernel) | exact kit_ty (show kitB "int" "int" = some true by decide +kernel) | exact kit_ty (show kitB "str" "int" = some false by decide +kernel) | exact kit_ty (show kitB "list" "int" = some false by decide +kernel) | exact kit_ty (show kitB "tuple" "int" = some false by decide +kernel) | exact kit_ty (show kitB "dict" "int" = some false by decide +kernel)
theorem kitS {K : PySem.W.Frag} {H : Hp} {v : V} {d : PyData} (h : Da H v d) : PySem.W.kitOne K (.type (tn d)) (.type "str") = some (isS d) := by
  cases h <;> first | exact kit_ty (show kitB "NoneType" "str" = some false by decide +kernel) | exact kit_ty (show kitB "bool" "str" = some false by decide +kernel) | exact kit_ty (show kitB "int" "str" = some false by decide +kernel) | exact kit_ty (show kitB "str" "str" = some true by decide +kernel) | exact kit_ty (show kitB "list" "str" = some false by decide +kernel) | exact kit_ty (show kitB "tuple" "str" = some false by decide +kernel) | exact kit_ty (show kitB "dict" "str" = some false by decide +kernel)
mutual
theorem plain_nd : ∀ {d : PyData}, plainD d = true → d.hasDict = false
  | .none, _ => rfl
  | .bool _, _ => rfl
  | .int _, _ => rfl
  | .str _, _ => rfl
  | .list _, h => by cases h
  | .tuple ds, h => by
    unfold PyData.hasDict
    exact plain_ndL (plain_tup h).2
  | .dict _, h => by cases h
theorem plain_ndL : ∀ {ds : List PyData}, plainD.plainL ds = true → PyData.hasDictAll ds = false
  | [], _ => rfl
  | d :: ds, h => by
    unfold plainD.plainL at h
    unfold PyData.hasDictAll
    rw [plain_nd (Bool.and_eq_true_iff.mp h).1, plain_ndL (Bool.and_eq_true_iff.mp h).2]
    rfl
end
theorem shaped_flat {d : PyData} (h : plainD d = true) (t : isT d = false) : SeqAt.shaped d = true := by
  cases d with
  | none => rfl
  | bool b => rfl
  | int i => rfl
  | str x =>
    unfold plainD at h
    unfold SeqAt.shaped PyData.canLay0
    rw [h]
    rfl
  | list ds => cases h
  | tuple ds => cases t
  | dict ds => cases h
theorem deq_bb {d d' : PyData} (h : isB d = true) (h' : isB d' = true) : PyData.eqv d d' = deq d d' := by
  cases d <;> cases h
  cases d' <;> cases h'
  simp only [PyData.eqv, deq]
theorem deq_nb {d d' : PyData} (h : isB d ≠ isB d') : deq d d' = false := by
  cases d <;> cases d' <;> first | rfl | exact absurd rfl h
theorem deq_nt {d d' : PyData} (h : isT d ≠ isT d') : deq d d' = false := by
  cases d <;> cases d' <;> first | rfl | exact absurd rfl h
theorem deq_ni {d d' : PyData} (h : isI d ≠ isI d') : deq d d' = false := by
  cases d <;> cases d' <;> first | rfl | exact absurd rfl h
theorem deq_ns {d d' : PyData} (h : isS d ≠ isS d') : deq d d' = false := by
  cases d <;> cases d' <;> first | rfl | exact absurd rfl h
theorem deq_rest {d d' : PyData} (p : plainD d = true) (p' : plainD d' = true) (b : isB d = false) (b' : isB d' = false) (t : isT d = false) (t' : isT d' = false) (i : isI d = isI d') (s : isS d = isS d') : PyData.eqv d d' = deq d d' := by
  cases d <;> cases d' <;> first | exact absurd p Bool.false_ne_true | exact absurd p' Bool.false_ne_true | exact absurd i Bool.false_ne_true | exact absurd s Bool.false_ne_true | (cases b; done) | (cases b'; done) | (cases t; done) | (cases t'; done) | (cases i; done) | (cases s; done) | simp only [PyData.eqv, deq]
theorem walk_zipT {K : PySem.W.Frag} {a b : Addr} {xs ys : List V} {n : Nat} (hx : n = xs.length) (hy : n = ys.length) : Walk (ItzT K a b) n (fun H => SqT K H a xs ∧ SqT K H b ys) (YPair (fun i => xs[i]?) (fun i => ys[i]?)) where
  goes := fun i H hi g => ⟨xs, ys, _, _, g.1, g.2, List.getElem?_eq_getElem (by omega), List.getElem?_eq_getElem (by omega)⟩
  stops := fun H g => ⟨xs, ys, g.1, g.2, .inl (by omega)⟩
  yields := fun i H x H' hi g y => by
    obtain ⟨T, x', y', e, hT, eH, f1, f2⟩ := y
    exact ⟨T, x', y', e, hT, eH, f1 xs g.1, f2 ys g.2⟩
/-- nothing is promised -/
theorem fn_none {P : Program} {w : World} {K : PySem.W.Frag} {mg : Str → Option Value} {base : Heap} {CX : CXT} {k : Nat} {f : Addr} {fd : FuncData} {ps : List Str} {sp : Sp} (h : ∀ vs H Q E, ¬ sp vs H Q E) : FnOk P w K mg base CX k f fd ps sp :=
  ⟨fun vs H Q E z => absurd z (h vs H Q E), fun A outer s H args us vs Q E _ _ _ _ z => absurd z (h vs H Q E)⟩
end PM

namespace PM
open PySem PySem.Spec PyProof.Rows L2 RZ
/-! ### a def entered from one given place (so that what stands around it is known) -/
section
variable {P : Program} {w : World} {K : PySem.W.Frag} {mg : Str → Option Value} {base : Heap}
theorem enter_at {kk : Nat} {fn : Addr} {nm ql : Str} {pa : Arguments} {bd : List Stmt} {sco : Scope} {v1 v2 v3 v4 cv v5 v6 : Value} {an od : Option Addr} {sl : Array (Option Value)} {N ps : List Str} {Ar : Around} {out : List Env} {sh : Shared} {H : Hp} {args : Args} {us : List Value} {vs : List V} {Q : VK}
    (look : K.lookup fn = some ⟨v6, od, .func (PySem.W.fnOf nm ql pa bd sco v1 v2 v3 v4 an cv v5), sl⟩) (code : PySem.W.codeIn K cv ql = true) (S : FnScope N ps sco) (len : vs.length = ps.length) (room : Room (kk + 1) Ar)
    (env0 : Env0 P w K mg base Ar out sh H) (bnd : BindsTo sh (PySem.W.fnOf nm ql pa bd sco v1 v2 v3 v4 an cv v5) args (ps.zip us)) (vals : Vals vs us)
    (walk : ∃ t, PSs (cxOf CX0 P w K mg base N ql sco fn cv Ar out sh H E0) bd t ∧ t { nx := fun _ H' => Q .non H', rt := Q } (start N vs) H) :
    codeAny (model P w) Ar (.call (.ref fn) args) (CR CX0 out P w H sh Q E0) sh := by
  obtain ⟨t, der, rd⟩ := walk
  have old := fun b o (z : base.get? b = some o) => (env0.bs b o z).1
  have inK : K.In sh.heap := env0.mod.kin.keeps old
  refine codeAny_call_function room.depth (inK _ _ look) rfl S.co S.gen rfl (PySem.W.codeRec_of inK code) (bnd _ _ _ _ ?_)
  refine wpAny_newFunctionEnv_cells S.kind (fun y mem => ?_) fun en same sh1 x => ?_
  · obtain ⟨name, val⟩ := y
    exact (S.par name (List.of_mem_zip mem).1).imp id fun c => ⟨c, PySem.W.cellsFrom_some _ _ _ (.inl c)⟩
  · cases same
    refine ⟨(env0.mod.nolimit.keeps old).keeps x.toInCall.keep, codeAny_func (wpAny_mono (der.run [] sh1 (start N vs) H _ (inv_start S room.hd env0 len vals x) rd) (fun flow sh2 z => ?_) fun _ _ z => z)⟩
    match flow, z with
    | .ret u, ⟨v, _, H2, J, rv, q⟩ => exact ⟨v, H2, J.os, J.bare, J.base, J.hok, rv, q⟩
    | .next, ⟨_, H2, J, q⟩ => exact ⟨V.non, H2, J.os, J.bare, J.base, J.hok, rfl, q⟩
    | .brk, ⟨_, _, _, q⟩ => exact q.elim
    | .cont, ⟨_, _, _, q⟩ => exact q.elim
/-- the tracked part that the law starts with: the script (locked), or nothing where it is one of the written objects -/
structure Lone (K : PySem.W.Frag) (H : Hp) (scr : Addr) : Prop where
  at_ : ∀ b, H b = none ∨ (b = scr ∧ K.lookup scr = none ∧ ∃ o xs, H b = some (.frz o (.lst xs)))
theorem lone_env {mb : Str → Option Value} {H : Hp} {scr : Addr} {sh : Shared} {vs : List Value} (L : Lone K H scr) (inK : K.In sh.heap) (glob : sh.heap.Ns mainGlobals mg) (blt : sh.heap.Ns builtinsNs mb) (boot : ∀ x : Str, x ≠ "__name__" → mb x = bootBuiltins x)
    (lim : sh.heap.NoLimit) (gens : sh.gens = #[]) (obj : sh.heap.get? scr = some { cls := .type "list", data := .seq vs.toArray }) (hok : HOk P w H sh.heap) :
    K.In (hidT sh.heap H) ∧ (hidT sh.heap H).Ns mainGlobals mg ∧ Env0 P w K mg (hidT sh.heap H) callerA [] sh H := by
  have names : ∀ {b : Addr} {m : Str → Option Value}, sh.heap.Ns b m → (hidT sh.heap H).Ns b m := by
    rintro b m ⟨o, es, ep, get, isD, rest⟩
    refine ⟨o, es, ep, hidT_get get ?_, isD, rest⟩
    rcases L.at_ b with z | ⟨rfl, _⟩
    · exact z
    · cases obj.symm.trans get
      cases (show Data.seq vs.toArray _ = Data.dict es ep from isD)
  have inB : K.In (hidT sh.heap H) := by
    intro b o z
    refine hidT_get (inK b o z) ?_
    rcases L.at_ b with y | ⟨rfl, non, _⟩
    · exact y
    · cases non.symm.trans z
  obtain ⟨mc, l1, l2⟩ := lim
  exact ⟨inB, names glob, ⟨rfl, ⟨inB, names glob, ⟨mb, names blt, boot⟩, ⟨mc, names l1, l2⟩⟩, fun b o z => of_hidT z, Nat.le_of_eq (hidT_size _ _), trivial, fun b z => (List.not_mem_nil (show b ∈ ([] : List Addr) from z)).elim, hok, .of_eq gens⟩⟩
theorem lone_law {H : Hp} {scr fn : Addr} {sh : Shared} (L : Lone K H scr) (hok : HOk P w H sh.heap)
    (run : codeAny (model P w) callerA (.call (.ref fn) ⟨[.ref scr], []⟩) (CR CX0 [] P w H sh (fun v _ => v = .bl true) E0) sh) :
    codeAny (model P w) callerA (.call (.ref fn) ⟨[.ref scr], []⟩) (fun r sh' => r = .ok (.ret (.bool true)) ∧ OldK sh.heap sh'.heap ∧ sh'.os = sh.os ∧ AllBare sh'.gens) sh := by
  refine codeAny_mono run fun r sh' z => ?_
  match r, z with
  | .error _, z => exact (show False from z).elim
  | .ok .next, z => exact (show False from z).elim
  | .ok .brk, z => exact (show False from z).elim
  | .ok .cont, z => exact (show False from z).elim
  | .ok (.ret u), ⟨v, H2, hos, bare, un, hok2, rv, (q : v = .bl true)⟩ =>
    subst q
    cases (show u = Value.bool true from rv)
    refine ⟨rfl, OldK.of_keep fun b o get => ?_, hos, bare⟩
    rcases L.at_ b with no | ⟨_, _, ob, xs, is⟩
    · exact un.keep b o get no (fun z => (List.not_mem_nil (show b ∈ ([] : List Addr) from z)).elim) (by simp)
    · obtain ⟨g1, _⟩ := hok b _ is
      obtain ⟨g2, _⟩ := hok2 b _ (un.frzs b ob _ is)
      cases get.symm.trans g1
      exact g2
theorem law_at {mb : Str → Option Value} {fn scr : Addr} {sh : Shared} {vs : List Value} {ns : List Int} (inK : K.In sh.heap) (glob : sh.heap.Ns mainGlobals mg) (blt : sh.heap.Ns builtinsNs mb) (boot : ∀ x : Str, x ≠ "__name__" → mb x = bootBuiltins x)
    (lim : sh.heap.NoLimit) (gens : sh.gens = #[]) (obj : sh.heap.get? scr = some { cls := .type "list", data := .seq vs.toArray }) (areI : IntsAre vs ns) (few : ns.length ≤ sizeLine)
    (run : ∀ (base : Heap) (H : Hp), K.In base → base.Ns mainGlobals mg → SqL K H scr (ns.map V.int) → Env0 P w K mg base callerA [] sh H →
      codeAny (model P w) callerA (.call (.ref fn) ⟨[.ref scr], []⟩) (CR CX0 [] P w H sh (fun v _ => v = .bl true) E0) sh) :
    codeAny (model P w) callerA (.call (.ref fn) ⟨[.ref scr], []⟩) (fun r sh' => r = .ok (.ret (.bool true)) ∧ OldK sh.heap sh'.heap ∧ sh'.os = sh.os ∧ AllBare sh'.gens) sh := by
  have rel : Vals (ns.map V.int) vs := vals_ints areI
  have go : ∀ H : Hp, Lone K H scr → HOk P w H sh.heap → SqL K H scr (ns.map V.int) → codeAny (model P w) callerA (.call (.ref fn) ⟨[.ref scr], []⟩) (fun r sh' => r = .ok (.ret (.bool true)) ∧ OldK sh.heap sh'.heap ∧ sh'.os = sh.os ∧ AllBare sh'.gens) sh :=
    fun H L hok seq => by
      obtain ⟨h1, h2, h3⟩ := lone_env L inK glob blt boot lim gens obj hok
      exact lone_law L hok (run _ H h1 h2 seq h3)
  cases written : K.lookup scr with
  | some o =>
    cases obj.symm.trans (inK scr o written)
    refine go (fun _ => none) ⟨fun _ => .inl rfl⟩ (fun b u z => nomatch (show (none : Option HO) = some u from z)) (.inr ⟨_, vs.toArray, _, written, rfl, rfl, rfl, ?_, rel⟩)
    rw [List.size_toArray, areI.length]
    exact few
  | none =>
    let H : Hp := fun b => if b = scr then some (.frz { cls := .type "list", data := .seq vs.toArray } (.lst (ns.map V.int))) else none
    have yes : H scr = some (.frz { cls := .type "list", data := .seq vs.toArray } (.lst (ns.map V.int))) := if_pos rfl
    have no : ∀ b, b ≠ scr → H b = none := fun b z => if_neg z
    refine go H ⟨fun b => ?_⟩ (fun b u z => ?_) (.inl (.inr ⟨_, yes⟩))
    · by_cases e : b = scr
      · exact .inr ⟨e, written, _, _, by rw [e]; exact yes⟩
      · exact .inl (no b e)
    · by_cases e : b = scr
      · subst e
        cases yes.symm.trans z
        exact ⟨obj, by rw [List.length_map]; exact few, vs, _, rel, obj⟩
      · cases (no b e).symm.trans z
end
/-- the end of a law whose body leans on what stands around it -/
theorem walk_at {l : PySem.W.OpenLaw} {n : Nat} {q : Program} {loose : List Str} {XP : (Str → Option Value) → Heap → Prop} {YP : World → Heap → Prop} {d : DefRec} {K : Params → PySem.W.Frag}
    (most : l.most = some n) (few : n ≤ sizeLine) (dfl : d.params.defaults = []) (inY : ∀ (w : World) (h : Heap), YP w h → (K w.params).In h)
    (F : ∀ (w : World) (mg : Str → Option Value) (fa : Addr) (h : Heap), (K w.params).In h → h.Ns mainGlobals mg → mg d.name = some (.ref fa) →
      ∀ (base : Heap) (H : Hp) (sh : Shared) (scr : Addr) (ns : List Int), ns.length ≤ n → (K w.params).In base → base.Ns mainGlobals mg → SqL (K w.params) H scr (ns.map V.int) → Env0 l.prog w (K w.params) mg base callerA [] sh H →
        codeAny (model l.prog w) callerA (.call (.ref fa) ⟨[.ref scr], []⟩) (CR CX0 [] l.prog w H sh (fun v _ => v = .bl true) E0) sh) :
    PySem.W.WalkO q loose XP YP l.row.toRowW d [] (fun f vs => PySem.call f vs) := by
  refine Att.attach_call most dfl fun w s0 s1 mg mb fa o pm cd doc a vs ns G Y ho hd hcd hmg hobj hints hlen hg => ?_
  have KX := inY w _ Y
  exact law_at KX G.T.g G.T.b G.T.builtins G.T.nolimit hg hobj hints (Nat.le_trans hlen few) fun base H inB glob seq e0 => F w mg fa _ KX G.T.g hmg base H s1 a ns hlen inB glob seq e0
end PM

namespace PM
open PySem PySem.Spec PyProof.Rows L2 RZ
section
variable {X : Cx} {pins : List (Addr × Obj)} {σ : L2.St} {H : Hp} {s : Shared}
theorem dict_reads (I : L2.Inv X pins σ H s) {a : Addr} (e : H a = some (.dK [])) : ∃ as, Reads s.heap (.ref a) (.dict []) as ∧ sysModules ∉ as := by
  obtain ⟨_, sys, vs, kv, o, es, ep, get, ex, dat, _, prs, _⟩ := (show ObjOk X.prog X.w H s.heap a (.dK []) from I.hok a _ e)
  cases kv
  have none : es.toList = [] := by cases h : es.toList with
    | nil => rfl
    | cons x y => rw [h] at prs; cases prs
  refine ⟨a :: [] ++ [], Reads.dict (kvs := []) get ex.1 dat ?_ ?_, fun z => ?_⟩
  · rw [none]
    exact .nil
  · rw [none]
    exact .nil
  · have z : sysModules = a := by simpa using z
    rw [← z] at sys
    exact absurd sys (by simp)
mutual
theorem Da.showsK (I : L2.Inv X pins σ H s) : ∀ {v : V} {d : PyData} {u : Value}, Da H v d → RelV v u → d.showable = true → d.shown.length ≤ sizeLine →
    (∃ as, Reads s.heap u d as) ∧ ∃ bs, ReadAtMost s.heap d.depth bs ∧ ReprK X.prog X.w bs s.heap d.depth u d.shown
  | _, _, u, .non, r, sh, sz => by
    cases (show u = Value.none from r)
    exact ⟨⟨_, .none⟩, ReprK.of_reads .none sh (fun z => nomatch z) sz⟩
  | _, _, u, .bl b, r, sh, sz => by
    cases (show u = Value.bool b from r)
    exact ⟨⟨_, .bool b⟩, ReprK.of_reads (.bool b) sh (fun z => nomatch z) sz⟩
  | _, _, u, .int i, r, sh, sz => by
    obtain ⟨t, e⟩ := (show ∃ t, u = Value.int i t from r)
    cases e
    exact ⟨⟨_, .int i t⟩, ReprK.of_reads (.int i t) sh (fun z => nomatch z) sz⟩
  | _, _, u, .str x, r, sh, sz => by
    obtain ⟨t, e⟩ := (show ∃ t, u = Value.str x t from r)
    cases e
    exact ⟨⟨_, .str x t⟩, ReprK.of_reads (.str x t) sh (fun z => nomatch z) sz⟩
  | _, _, u, .lst (a := a) (ds := ds) e h, r, sh, sz => by
    cases (show u = Value.ref a from r)
    obtain ⟨its, rv, ⟨o, n, ho, hc, _, hd⟩, _⟩ := I.list (.inl (.inl e))
    have sz' : (listText (PyData.shownAll ds)).length ≤ sizeLine := sz
    obtain ⟨⟨as, rds⟩, bs, hb, hk⟩ := DaL.showsK I h rv (by unfold PyData.showable at sh; exact sh) (fun t ht => Nat.le_trans (listText_mem_le ht) sz')
    have rd : Reads s.heap (.ref a) (.list ds) (a :: as) := .list ho hc hd rds
    have less : PyData.depthAll ds < (PyData.list ds).depth := by
      simp only [PyData.depth]
      omega
    have hna : a ∉ bs := not_mem_of_deeper rd less hb
    refine ⟨⟨_, rd⟩, a :: bs, ReadAtMost.cons rd (Nat.le_of_lt less) hb, ?_⟩
    simp only [PyData.depth, PyData.shown]
    cases its with
    | nil =>
      cases rv
      cases h
      simp only [PyData.shownAll, listText_nil]
      exact ReprK.listEmpty ho hc hd
    | cons y ys => exact ReprK.list ho hc hd hna (by simpa using hk.length_eq) (fun i z e => hk.item i z (by simpa using e))
  | _, _, u, .dic (a := a) e, r, sh, sz => by
    cases (show u = Value.ref a from r)
    obtain ⟨as, rd, no⟩ := dict_reads I e
    exact ⟨⟨as, rd⟩, ReprK.of_reads rd sh (fun _ => no) sz⟩
  | _, _, u, .tup (a := a) (ds := ds) e h, r, sh, sz => by
    cases (show u = Value.ref a from r)
    obtain ⟨its, rv, ⟨o, ho, hc, n, hd⟩, _⟩ := I.tuple (.inl (.inl e))
    have sz' : (tupleText (PyData.shownAll ds)).length ≤ sizeLine := sz
    obtain ⟨⟨as, rds⟩, bs, hb, hk⟩ := DaL.showsK I h rv (by unfold PyData.showable at sh; exact sh) (fun t ht => Nat.le_trans (tupleText_mem_le ht) sz')
    have rd : Reads s.heap (.ref a) (.tuple ds) as := .tuple ho hc hd rds
    have less : PyData.depthAll ds < (PyData.tuple ds).depth := by
      simp only [PyData.depth]
      omega
    have hna : a ∉ bs := not_mem_of_deeper rd less hb
    refine ⟨⟨as, rd⟩, a :: bs, ReadAtMost.cons rd (Nat.le_of_lt less) hb, ?_⟩
    simp only [PyData.depth, PyData.shown]
    exact ReprK.tuple ho hc hd hna hk
theorem DaL.showsK (I : L2.Inv X pins σ H s) : ∀ {vs : List V} {ds : List PyData} {us : List Value}, DaL H vs ds → Vals vs us → PyData.showableAll ds = true → (∀ t ∈ PyData.shownAll ds, t.length ≤ sizeLine) →
    (∃ as, ReadsAll s.heap us ds as) ∧ ∃ bs, ReadAtMost s.heap (PyData.depthAll ds) bs ∧ ReprAllK X.prog X.w bs s.heap (PyData.depthAll ds) us (PyData.shownAll ds)
  | _, _, _, .nil, .nil, _, _ => ⟨⟨_, .nil⟩, [], (fun _ h => nomatch h), by simp only [PyData.shownAll]; exact .nil⟩
  | _, _, _, .cons (d := d) (ds := ds) h t, .cons r rs, sh, sz => by
    unfold PyData.showableAll at sh
    have sh := Bool.and_eq_true_iff.mp sh
    simp only [PyData.shownAll] at sz
    obtain ⟨⟨a1, r1⟩, b1, hb1, k1⟩ := Da.showsK I h r sh.1 (sz _ List.mem_cons_self)
    obtain ⟨⟨a2, r2⟩, b2, hb2, k2⟩ := DaL.showsK I t rs sh.2 (fun t ht => sz t (List.mem_cons_of_mem _ ht))
    refine ⟨⟨_, .cons r1 r2⟩, b1 ++ b2, ?_, ?_⟩
    · simp only [PyData.depthAll]
      exact (hb1.mono (Nat.le_max_left _ _)).append (hb2.mono (Nat.le_max_right _ _))
    · simp only [PyData.depthAll, PyData.shownAll]
      exact .cons ((k1.more fun b hb => List.mem_append_left _ hb).level_le (Nat.le_max_left _ _)) (k2.more_le (fun b hb => List.mem_append_right _ hb) (Nat.le_max_right _ _))
end
end
/-- repr of data, where nothing is being shown around it -/
def rRepr : List V → Hp → VK → Prop := fun xs H Q => ∃ (v : V) (d : PyData), xs = [v] ∧ Da H v d ∧ d.showable = true ∧ d.depth ≤ 60 ∧ d.shown.length ≤ sizeLine ∧ Q (.str d.shown) H
section
variable {X : Cx}
theorem call_repr (quiet : X.A.guards = some []) (hu : X.A.units + 64 < cLine) : CallR X (.builtin "repr") rRepr := by
  intro pins s σ H xs us Q I r h
  obtain ⟨v, d, rfl, hd, sh, dp, sz, q⟩ := h
  cases r with
  | cons r0 rr =>
    cases rr
    rename_i u
    have all : ∀ (a : Addr) (as : List Addr), u = .ref a → Reads s.heap u d as → (d.hasDict = true → sysModules ∉ as) → wpAny (model X.prog X.w) X.A (call (.builtin "repr") [u]) (EP X pins σ Q) X.xe s := fun a as e rd no => by
      subst e
      exact repr_of_reads' rd sh no quiet (by omega) (fun _ _ z => z) (fun h' t tk k => ⟨.str d.shown, H, I.kept k, ⟨t, rfl⟩, q⟩) sz
    cases hd with
    | non =>
      cases (show u = Value.none from r0)
      exact PySem.P.repr_of_none ⟨.str _, H, I.tok _, ⟨_, rfl⟩, q⟩
    | bl b =>
      cases (show u = Value.bool b from r0)
      exact PySem.P.repr_of_bool ⟨.str _, H, I.tok _, ⟨_, rfl⟩, by cases b <;> exact q⟩
    | int i =>
      obtain ⟨t, e⟩ := (show ∃ t, u = Value.int i t from r0)
      cases e
      exact PySem.P.repr_of_int (of_decide_eq_true sh) ⟨.str _, H, I.tok _, ⟨_, rfl⟩, q⟩
    | str y =>
      obtain ⟨t, e⟩ := (show ∃ t, u = Value.str y t from r0)
      cases e
      exact PySem.P.repr_of_str ⟨.str _, H, I.tok _, ⟨_, rfl⟩, q⟩ sz
    | @lst a xs ds e h =>
      cases (show u = Value.ref a from r0)
      obtain ⟨its, rv, ⟨o, n, ho, hc, _, hdt⟩, _⟩ := I.list (.inl (.inl e))
      have sz' : (listText (PyData.shownAll ds)).length ≤ sizeLine := sz
      obtain ⟨⟨as, rds⟩, bs, hb, hk⟩ := DaL.showsK I h rv (by unfold PyData.showable at sh; exact sh) (fun t ht => Nat.le_trans (listText_mem_le ht) sz')
      have less : PyData.depthAll ds < (PyData.list ds).depth := by
        simp only [PyData.depth]
        omega
      have dp' : PyData.depthAll ds + 1 ≤ 60 := by
        simp only [PyData.depth] at dp
        omega
      have hna : a ∉ bs := not_mem_of_deeper (.list ho hc hdt rds) less hb
      refine call_repr_slot (by omega) ⟨o, ho, hc⟩ PySem.F.slot_list_repr.toG ?_
      cases its with
      | nil =>
        cases rv
        cases h
        simp only [PyData.shown, PyData.shownAll, listText_nil] at q
        exact call_list_repr_empty ⟨o, ho, hc⟩ ho hdt ⟨_, _, rfl, ⟨.str _, H, I.tok _, ⟨_, rfl⟩, q⟩⟩
      | cons y ys =>
        exact call_list_reprK (A := X.A.in1) ho hc hdt hna (by simpa using hk.length_eq) (fun i z e => hk.item i z (by simpa using e)) quiet (fun b _ => Clear.nil b) (by show X.A.units + 1 + (PyData.depthAll ds + 1) < cLine; omega) (fun _ _ z => z) (fun h' t tk k => ⟨_, _, rfl, ⟨.str _, H, I.kept k, ⟨t, rfl⟩, q⟩⟩) sz'
    | @dic a e =>
      cases (show u = Value.ref a from r0)
      obtain ⟨as, rd, no⟩ := dict_reads I e
      exact all a as rfl rd fun _ => no
    | @tup a xs ds e h =>
      cases (show u = Value.ref a from r0)
      obtain ⟨its, rv, ⟨o, ho, hc, n, hdt⟩, _⟩ := I.tuple (.inl (.inl e))
      have sz' : (tupleText (PyData.shownAll ds)).length ≤ sizeLine := sz
      obtain ⟨⟨as, rds⟩, bs, hb, hk⟩ := DaL.showsK I h rv (by unfold PyData.showable at sh; exact sh) (fun t ht => Nat.le_trans (tupleText_mem_le ht) sz')
      have less : PyData.depthAll ds < (PyData.tuple ds).depth := by
        simp only [PyData.depth]
        omega
      have dp' : PyData.depthAll ds + 1 ≤ 60 := by
        simp only [PyData.depth] at dp
        omega
      have hna : a ∉ bs := not_mem_of_deeper (.tuple ho hc hdt rds) less hb
      refine call_repr_slot (by omega) ⟨o, ho, hc⟩ PySem.F.slot_tuple_repr (call_tuple_reprK (A := X.A.in1) ho hc hdt hna hk quiet (fun b _ => Clear.nil b) (by show X.A.units + 1 + (PyData.depthAll ds + 1) < cLine; omega) (fun _ _ z => z) (fun h' t tk k => ⟨_, _, rfl, ⟨.str _, H, I.kept k, ⟨t, rfl⟩, q⟩⟩) sz')
end
/-! ### what is shown, and how long it is -/
structure Shw (d : PyData) (n m : Nat) : Prop where
  sh : d.showable = true
  dp : d.depth ≤ m
  ln : d.shown.length ≤ n
structure ShwL (ds : List PyData) (n m : Nat) : Prop where
  sh : PyData.showableAll ds = true
  dp : PyData.depthAll ds ≤ m
  ln : ((PyData.shownAll ds).map (·.length)).sum + 2 * ds.length ≤ n
theorem Shw.non : Shw .none 4 0 := ⟨rfl, by decide, by decide⟩
theorem Shw.bool (b : Bool) : Shw (.bool b) 5 0 := ⟨rfl, Nat.le_of_eq rfl, by cases b <;> decide⟩
theorem Shw.int {i : Int} {b : Nat} (h : i.natAbs < 2 ^ b) (h0 : 0 < b) (h9 : b ≤ 1920) : Shw (.int i) 1921 0 := by
  have l := Nat.lt_of_lt_of_le (PySem.Flt.log2_lt_of h0 h) h9
  exact ⟨decide_eq_true l, Nat.le_of_eq rfl, int_text_len_1921 l⟩
theorem Shw.str {x : Str} {n : Nat} (h : (reprText x).length ≤ n) : Shw (.str x) n 0 := ⟨rfl, Nat.le_of_eq rfl, h⟩
theorem Shw.dict : Shw (.dict []) 2 1 := ⟨rfl, by decide, by decide⟩
theorem ShwL.nil (m : Nat) : ShwL [] 0 m := ⟨rfl, Nat.zero_le _, Nat.le_refl _⟩
theorem ShwL.cons {d : PyData} {ds : List PyData} {n k m : Nat} (h : Shw d n m) (t : ShwL ds k m) : ShwL (d :: ds) (n + 2 + k) m := by
  refine ⟨?_, ?_, ?_⟩
  · unfold PyData.showableAll
    rw [h.sh, t.sh]
    rfl
  · unfold PyData.depthAll
    exact Nat.max_le.mpr ⟨h.dp, t.dp⟩
  · unfold PyData.shownAll
    rw [List.map_cons, List.sum_cons, List.length_cons]
    have := h.ln
    have := t.ln
    omega
theorem Shw.tup {ds : List PyData} {n m : Nat} (h : ShwL ds n m) : Shw (.tuple ds) (n + 3) (m + 1) := by
  refine ⟨h.sh, ?_, ?_⟩
  · unfold PyData.depth
    have := h.dp
    omega
  · have a := tupleText_len_le (PyData.shownAll ds)
    have b := PyData.shownAll_length ds
    have c := h.ln
    unfold PyData.shown
    omega
theorem Shw.lst {ds : List PyData} {n m : Nat} (h : ShwL ds n m) : Shw (.list ds) (n + 3) (m + 1) := by
  refine ⟨h.sh, ?_, ?_⟩
  · unfold PyData.depth
    have := h.dp
    omega
  · have a := listText_len_le (PyData.shownAll ds)
    have b := PyData.shownAll_length ds
    have c := h.ln
    unfold PyData.shown
    omega
theorem Shw.mono {d : PyData} {n m n' m' : Nat} (h : Shw d n m) (a : n ≤ n') (b : m ≤ m') : Shw d n' m' := ⟨h.sh, Nat.le_trans h.dp b, Nat.le_trans h.ln a⟩
theorem Shw.fit {d : PyData} {n m : Nat} (h : Shw d n m) (hn : n ≤ 1000000) : d.shown.length ≤ sizeLine := Nat.le_trans h.ln (Nat.le_trans hn (by rw [sizeLine_eq]; decide))
theorem Shw.deep {d : PyData} {n m : Nat} (h : Shw d n m) (hm : m ≤ 60) : d.depth ≤ 60 := Nat.le_trans h.dp hm
theorem Shw.fd {x : Int × Int} {b : Nat} (h : Fr.Sz b x) (h0 : 0 < b) (h9 : b ≤ 1920) : Shw (fd x) 3849 1 :=
  (Shw.tup (.cons (.int h.1 h0 h9) (.cons (.int h.2 h0 h9) (.nil 0)))).mono (by decide) (by decide)
theorem neS {x : Str} {A B : Prop} (k : B) : if (!decide (V.str x = V.str x)) = true then A else B := by
  rw [decide_eq_true rfl]
  exact k
mutual
theorem deq_refl : ∀ {d : PyData}, plainD d = true → deq d d = true
  | .none, _ => rfl
  | .bool b, _ => by simp [deq]
  | .int i, _ => by simp [deq]
  | .str x, _ => by simp [deq]
  | .tuple ds, h => deqL_refl (plain_tup h).2
  | .list _, h => by cases h
  | .dict _, h => by cases h
theorem deqL_refl : ∀ {ds : List PyData}, plainD.plainL ds = true → deq.deqL ds ds = true
  | [], _ => rfl
  | d :: ds, h => by
    unfold plainD.plainL at h
    unfold deq.deqL
    rw [deq_refl (Bool.and_eq_true_iff.mp h).1, deqL_refl (Bool.and_eq_true_iff.mp h).2]
    rfl
end
end PM

/-! data-level readings: values are data (PyData), what a frame changes is numbered -/
namespace PM
open PySem PySem.Spec PyProof.Rows L2 RZ
structure Pl where
  a : Addr
  c : Addr
  r : Addr
/-- a kind of thing that is known, and changes no more -/
structure Fzn where
  ok : Hp → V → Prop
  same : ∀ {G G' : Hp} {v : V}, Same G G' → ok G v → ok G' v
  ref : ∀ {G : Hp} {v : V}, ok G v → ∃ a, v = .ref a
/-- a kind of thing that changes: where it stands, what is true of it, what becomes of it once it changes no more -/
structure Knd where
  ft : Pl → List Addr
  ok : Hp → Hp → Pl → Prop
  stand : ∀ {G H : Hp} {q : Pl} {b : Addr}, ok G H q → b ∈ ft q → H b ≠ none
  keep : ∀ {G G' H H' : Hp} {q : Pl}, Same G G' → ok G H q → (∀ b x, b ∈ ft q → H b = some x → H' b = some x) → ok G' H' q
  fr : Option Fzn
  frz : ∀ f, fr = some f → (∀ q, ft q = [q.a]) ∧ ∀ {G H : Hp} {q : Pl}, ok G H q → G q.a = none → ∃ ob, H q.a = some ob ∧ f.ok (upd G q.a ob) (.ref q.a)
inductive DV where
  | d (x : PyData)
  | dic (kvs : List (Int × PyData))
  | p (i : Nat)
  | any (f : Fzn)
inductive MO where
  | no
  | lst (ds : List PyData)
  | dic (kvs : List (Int × PyData))
  | drw (n : Nat)
  | any (k : Knd)
abbrev DEnv := List (Option DV)
abbrev Mu := List MO
inductive DaK (G : Hp) : List (Key × V) → List (Int × PyData) → Prop
  | nil : DaK G [] []
  | cons {k : Int} {v : V} {d : PyData} {kxs : List (Key × V)} {kvs : List (Int × PyData)} : Da G v d → DaK G kxs kvs → DaK G ((.inl k, v) :: kxs) ((k, d) :: kvs)
theorem DaK.same {G G' : Hp} (s : Same G G') : ∀ {kxs : List (Key × V)} {kvs : List (Int × PyData)}, DaK G kxs kvs → DaK G' kxs kvs
  | _, _, .nil => .nil
  | _, _, .cons h t => .cons (h.same s) (DaK.same s t)
def RV (G : Hp) (pl : Nat → Pl) (n : Nat) (v : V) : DV → Prop
  | .d x => Da G v x
  | .dic kvs => ∃ a kxs, v = .ref a ∧ G a = some (.dK kxs) ∧ DaK G kxs kvs
  | .p i => i < n ∧ v = .ref (pl i).a
  | .any f => f.ok G v
def MOk (G H : Hp) (q : Pl) : MO → Prop
  | .no => True
  | .lst ds => ∃ xs, H q.a = some (.lst xs) ∧ DaL G xs ds
  | .dic kvs => ∃ kxs, H q.a = some (.dK kxs) ∧ DaK G kxs kvs
  | .drw n => Drw H q.a q.c q.r n
  | .any k => k.ok G H q
def foot (q : Pl) : MO → List Addr
  | .no => []
  | .lst _ => [q.a]
  | .dic _ => [q.a]
  | .drw _ => [q.a, q.c, q.r]
  | .any k => k.ft q
def isDrw : MO → Bool
  | .drw _ => true
  | _ => false
/-- what stood at the entry; F, L: what may be changed of it (drawn numbers; others) -/
structure Fr0 where
  G : Hp
  H : Hp
  F : Addr → Prop
  L : Addr → Prop
structure HR (c : Fr0) (G : Hp) (pl : Nat → Pl) (H : Hp) (m : Mu) : Prop where
  sub : Same G H
  mo : ∀ i o, m[i]? = some o → MOk G H (pl i) o
  out : ∀ i o b, m[i]? = some o → b ∈ foot (pl i) o → G b = none
  own : ∀ i o b, m[i]? = some o → b ∈ foot (pl i) o → (if isDrw o = true then c.F b else c.L b) ∨ c.H b = none
  dj : ∀ i j o o' b, i ≠ j → m[i]? = some o → m[j]? = some o' → b ∈ foot (pl i) o → b ∈ foot (pl j) o' → False
  g0 : Same c.G G
  h0 : ∀ b o, ¬ c.F b → ¬ c.L b → c.H b = some o → H b = some o
  up : ∀ b, c.H b ≠ none → H b ≠ none
  nw : ∀ b, G b ≠ none → c.G b ≠ none ∨ c.H b = none
/-- the slots -/
def lk : DEnv → Nat → Option DV
  | [], _ => none
  | x :: _, 0 => x
  | _ :: xs, i + 1 => lk xs i
def stt : DEnv → Nat → Option DV → DEnv
  | [], _, _ => []
  | _ :: xs, 0, v => v :: xs
  | x :: xs, i + 1, v => x :: stt xs i v
def wp (e : DEnv) : List Nat → DEnv
  | [] => e
  | v :: vs => stt (wp e vs) v none
structure ER (G : Hp) (pl : Nat → Pl) (n : Nat) (σ : L2.St) (e : DEnv) : Prop where
  len : σ.length = e.length
  get : ∀ i dv, lk e i = some dv → ∃ v, σ[i]? = some (some v) ∧ RV G pl n v dv
structure SR (c : Fr0) (G : Hp) (pl : Nat → Pl) (σ : L2.St) (H : Hp) (e : DEnv) (m : Mu) : Prop where
  env : ER G pl m.length σ e
  hp : HR c G pl H m
structure Le (G : Hp) (pl : Nat → Pl) (n : Nat) (G' : Hp) (pl' : Nat → Pl) (n' : Nat) : Prop where
  g : Same G G'
  p : ∀ i, i < n → pl' i = pl i
  n : n ≤ n'
theorem Le.refl (G : Hp) (pl : Nat → Pl) (n : Nat) : Le G pl n G pl n := ⟨.refl G, fun _ _ => rfl, Nat.le_refl _⟩
theorem Le.trans {G G1 G2 : Hp} {pl pl1 pl2 : Nat → Pl} {n n1 n2 : Nat} (a : Le G pl n G1 pl1 n1) (b : Le G1 pl1 n1 G2 pl2 n2) : Le G pl n G2 pl2 n2 :=
  ⟨a.g.trans b.g, fun i hi => (b.p i (Nat.lt_of_lt_of_le hi a.n)).trans (a.p i hi), Nat.le_trans a.n b.n⟩
theorem RV.le {G G' : Hp} {pl pl' : Nat → Pl} {n n' : Nat} {v : V} {dv : DV} (l : Le G pl n G' pl' n') (h : RV G pl n v dv) : RV G' pl' n' v dv := by
  cases dv with
  | d x => exact Da.same l.g h
  | dic kvs =>
    obtain ⟨a, kxs, e, h1, h2⟩ := h
    exact ⟨a, kxs, e, l.g _ _ h1, h2.same l.g⟩
  | p i => exact ⟨Nat.lt_of_lt_of_le h.1 l.n, by rw [l.p i h.1]; exact h.2⟩
  | any f => exact f.same l.g h
theorem ER.le {G G' : Hp} {pl pl' : Nat → Pl} {n n' : Nat} {σ : L2.St} {e : DEnv} (l : Le G pl n G' pl' n') (h : ER G pl n σ e) : ER G' pl' n' σ e :=
  ⟨h.len, fun i dv x => by
    obtain ⟨v, h1, h2⟩ := h.get i dv x
    exact ⟨v, h1, h2.le l⟩⟩
theorem lk_stt : ∀ (e : DEnv) (i j : Nat) (v : Option DV), lk (stt e i v) j = if i = j then (if i < e.length then v else none) else lk e j
  | [], i, j, v => by
    simp [stt, lk]
  | x :: xs, 0, 0, v => by simp [stt, lk]
  | x :: xs, 0, j + 1, v => by simp [stt, lk]
  | x :: xs, i + 1, 0, v => by simp [stt, lk]
  | x :: xs, i + 1, j + 1, v => by
    simp only [stt, lk, lk_stt xs i j v, List.length_cons, Nat.add_lt_add_iff_right, Nat.add_right_cancel_iff]
theorem stt_len : ∀ (e : DEnv) (i : Nat) (v : Option DV), (stt e i v).length = e.length
  | [], _, _ => rfl
  | _ :: _, 0, _ => rfl
  | _ :: xs, i + 1, v => by simp only [stt, List.length_cons, stt_len xs i v]
theorem ER.set {G : Hp} {pl : Nat → Pl} {n : Nat} {σ : L2.St} {e : DEnv} {v : V} {dv : DV} (h : ER G pl n σ e) (i : Nat) (r : RV G pl n v dv) : ER G pl n (σ.set i (some v)) (stt e i (some dv)) :=
  ⟨by rw [List.length_set, stt_len, h.len], fun j dw x => by
    rw [lk_stt] at x
    by_cases e1 : i = j
    · subst e1
      rw [if_pos rfl] at x
      by_cases e2 : i < e.length
      · rw [if_pos e2] at x
        cases x
        exact ⟨v, List.getElem?_set_self (by rw [h.len]; exact e2), r⟩
      · rw [if_neg e2] at x
        cases x
    · rw [if_neg e1] at x
      obtain ⟨u, h1, h2⟩ := h.get j dw x
      exact ⟨u, by rw [List.getElem?_set_ne e1]; exact h1, h2⟩⟩
theorem ER.unset {G : Hp} {pl : Nat → Pl} {n : Nat} {σ : L2.St} {e : DEnv} (h : ER G pl n σ e) (i : Nat) : ER G pl n (σ.set i none) (stt e i none) :=
  ⟨by rw [List.length_set, stt_len, h.len], fun j dw x => by
    rw [lk_stt] at x
    by_cases e1 : i = j
    · subst e1
      rw [if_pos rfl] at x
      by_cases e2 : i < e.length
      · rw [if_pos e2] at x
        cases x
      · rw [if_neg e2] at x
        cases x
    · rw [if_neg e1] at x
      obtain ⟨u, h1, h2⟩ := h.get j dw x
      exact ⟨u, by rw [List.getElem?_set_ne e1]; exact h1, h2⟩⟩
theorem ER.forget {G : Hp} {pl : Nat → Pl} {n : Nat} {σ : L2.St} {e : DEnv} (h : ER G pl n σ e) (i : Nat) : ER G pl n σ (stt e i none) :=
  ⟨by rw [stt_len, h.len], fun j dw x => by
    rw [lk_stt] at x
    by_cases e1 : i = j
    · subst e1
      rw [if_pos rfl] at x
      by_cases e2 : i < e.length
      · rw [if_pos e2] at x
        cases x
      · rw [if_neg e2] at x
        cases x
    · rw [if_neg e1] at x
      exact h.get j dw x⟩
theorem ER.wipe {G : Hp} {pl : Nat → Pl} {n : Nat} {σ : L2.St} {e : DEnv} (h : ER G pl n σ e) : ∀ vs : List Nat, ER G pl n (wipe σ vs) (wp e vs)
  | [] => h
  | v :: vs => (ER.wipe h vs).unset v
/-! ### heaps -/
section
variable {c : Fr0} {G H : Hp} {pl : Nat → Pl} {m : Mu}
theorem HR.standF (h : HR c G pl H m) {i : Nat} {o : MO} {b : Addr} (e : m[i]? = some o) (f : b ∈ foot (pl i) o) : H b ≠ none := by
  have q := h.mo i o e
  cases o with
  | no => cases f
  | lst ds =>
    obtain ⟨xs, h1, _⟩ := q
    cases List.mem_singleton.mp f
    rw [h1]; exact fun z => nomatch z
  | dic kvs =>
    obtain ⟨xs, h1, _⟩ := q
    cases List.mem_singleton.mp f
    rw [h1]; exact fun z => nomatch z
  | drw n =>
    obtain ⟨⟨cells, rests, t, h1, h2, h3, _⟩, _⟩ := q
    simp only [foot, List.mem_cons, List.not_mem_nil, or_false] at f
    rcases f with e | e | e <;> subst e
    · rw [h1]; exact fun z => nomatch z
    · rw [h2]; exact fun z => nomatch z
    · rw [h3]; exact fun z => nomatch z
  | any k => exact k.stand q f
theorem MOk.keep {G' H' : Hp} {q : Pl} {o : MO} (g : Same G G') (h : MOk G H q o) (k : ∀ b x, b ∈ foot q o → H b = some x → H' b = some x) : MOk G' H' q o := by
  cases o with
  | no => trivial
  | lst ds =>
    obtain ⟨xs, h1, h2⟩ := h
    exact ⟨xs, k _ _ (List.mem_singleton.mpr rfl) h1, h2.same g⟩
  | dic kvs =>
    obtain ⟨xs, h1, h2⟩ := h
    exact ⟨xs, k _ _ (List.mem_singleton.mpr rfl) h1, h2.same g⟩
  | drw n =>
    obtain ⟨⟨cells, rests, t, h1, h2, h3, q⟩, x, y, z⟩ := h
    exact ⟨⟨cells, rests, t, k _ _ (by simp [foot]) h1, k _ _ (by simp [foot]) h2, k _ _ (by simp [foot]) h3, q⟩, x, y, z⟩
  | any kd => exact kd.keep g h k
theorem HR.fresh (h : HR c G pl H m) {b : Addr} (e : H b = none) : G b = none ∧ c.H b = none ∧ ∀ i o, m[i]? = some o → b ∉ foot (pl i) o := by
  refine ⟨?_, ?_, fun i o x f => h.standF x f e⟩
  · cases q : G b with
    | none => rfl
    | some o => rw [h.sub _ _ q] at e; cases e
  · cases q : c.H b with
    | none => rfl
    | some o => exact absurd e (h.up b (by rw [q]; exact fun z => nomatch z))
/-- the heap grows (or changes off what is known) -/
theorem HR.grow {H' : Hp} (h : HR c G pl H m) (k : ∀ b x, (G b ≠ none ∨ (∃ i o, m[i]? = some o ∧ b ∈ foot (pl i) o) ∨ c.H b ≠ none) → H b = some x → H' b = some x) : HR c G pl H' m where
  sub := fun b x e => k b x (.inl (by rw [e]; exact fun z => nomatch z)) (h.sub _ _ e)
  mo := fun i o e => (h.mo i o e).keep (.refl G) fun b x f => k b x (.inr (.inl ⟨i, o, e, f⟩))
  out := h.out
  own := h.own
  dj := h.dj
  g0 := h.g0
  h0 := fun b o n1 n2 e => k b o (.inr (.inr (by rw [e]; exact fun z => nomatch z))) (h.h0 b o n1 n2 e)
  up := fun b e => by
    have q := h.up b e
    cases r : H b with
    | none => exact absurd r q
    | some x => rw [k b x (.inr (.inr e)) r]; exact fun z => nomatch z
  nw := h.nw
/-- what stands in the heap, and nobody changes, is known from now on -/
theorem HR.adopt {p : Addr} {o : HO} (h : HR c G pl H m) (hp : H p = some o) (hg : G p = none) (hf : ∀ i o, m[i]? = some o → p ∉ foot (pl i) o) (hc : c.H p = none) : HR c (upd G p o) pl H m where
  sub := fun b x e => by
    by_cases z : b = p
    · subst z; rw [upd_same] at e; cases e; exact hp
    · rw [upd_ne z] at e; exact h.sub _ _ e
  mo := fun i o e => (h.mo i o e).keep (same_upd hg) fun b x _ q => q
  out := fun i o b e f => by
    by_cases z : b = p
    · subst z; exact absurd f (hf i o e)
    · rw [upd_ne z]; exact h.out i o b e f
  own := h.own
  dj := h.dj
  g0 := h.g0.trans (same_upd hg)
  h0 := h.h0
  up := h.up
  nw := fun b e => by
    by_cases z : b = p
    · subst z; exact .inr hc
    · rw [upd_ne z] at e; exact h.nw b e
/-- a new object, known from now on -/
theorem HR.new {p : Addr} {o : HO} (h : HR c G pl H m) (hp : H p = none) : HR c (upd G p o) pl (upd H p o) m := by
  obtain ⟨h1, h2, h3⟩ := h.fresh hp
  exact (h.grow fun b x _ e => by rw [upd_ne (ne_of_none e hp)]; exact e).adopt upd_same h1 h3 h2
/-- the number of changing objects grows -/
def plus (pl : Nat → Pl) (n : Nat) (p : Addr) : Nat → Pl := fun i => if i = n then ⟨p, p, p⟩ else pl i
theorem plus_old (pl : Nat → Pl) {n i : Nat} (p : Addr) (h : i < n) : plus pl n p i = pl i := if_neg (Nat.ne_of_lt h)
theorem plus_new (pl : Nat → Pl) (n : Nat) (p : Addr) : plus pl n p n = ⟨p, p, p⟩ := if_pos rfl
theorem Le.plus (G : Hp) (pl : Nat → Pl) (m : Mu) (p : Addr) (o : MO) : Le G pl m.length G (plus pl m.length p) (m ++ [o]).length :=
  ⟨.refl G, fun i hi => plus_old pl p hi, by simp⟩
theorem HR.push {p : Addr} {o : MO} (h : HR c G pl H m) (ho : MOk G H ⟨p, p, p⟩ o) (hd : isDrw o = false) (hg : G p = none) (hf : ∀ i o, m[i]? = some o → p ∉ foot (pl i) o) (hc : c.H p = none) (ha : ∀ k, o = .any k → ∀ b, b ∈ k.ft ⟨p, p, p⟩ → b = p := by intro k h; cases h) : HR c G (plus pl m.length p) H (m ++ [o]) := by
  have old : ∀ i x, (m ++ [o])[i]? = some x → (i < m.length ∧ m[i]? = some x ∧ plus pl m.length p i = pl i) ∨ (i = m.length ∧ x = o ∧ plus pl m.length p i = ⟨p, p, p⟩) := fun i x e => by
    by_cases hi : i < m.length
    · rw [List.getElem?_append_left hi] at e
      exact .inl ⟨hi, e, plus_old pl p hi⟩
    · rw [List.getElem?_append_right (by omega)] at e
      have z : i - m.length = 0 := by
        cases q : i - m.length with
        | zero => rfl
        | succ k => rw [q] at e; simp at e
      have z2 : i = m.length := by omega
      rw [z] at e
      cases e
      exact .inr ⟨z2, rfl, by rw [z2]; exact plus_new pl _ p⟩
  have ft : ∀ b, b ∈ foot ⟨p, p, p⟩ o → b = p := fun b f => by
    cases o with
    | no => cases f
    | lst ds => exact List.mem_singleton.mp f
    | dic kvs => exact List.mem_singleton.mp f
    | drw n => cases hd
    | any k => exact ha k rfl b f
  refine ⟨h.sub, fun i x e => ?_, fun i x b e f => ?_, fun i x b e f => ?_, fun i j x y b ne e1 e2 f1 f2 => ?_, h.g0, h.h0, h.up, h.nw⟩
  · rcases old i x e with ⟨_, e, z⟩ | ⟨_, rfl, z⟩ <;> rw [z]
    · exact h.mo i x e
    · exact ho
  · rcases old i x e with ⟨_, e, z⟩ | ⟨_, rfl, z⟩ <;> rw [z] at f
    · exact h.out i x b e f
    · rw [ft b f]; exact hg
  · rcases old i x e with ⟨_, e, z⟩ | ⟨_, rfl, z⟩ <;> rw [z] at f
    · exact h.own i x b e f
    · rw [ft b f]; exact .inr hc
  · rcases old i x e1 with ⟨_, g1, z1⟩ | ⟨n1, w1, z1⟩ <;> rcases old j y e2 with ⟨_, g2, z2⟩ | ⟨n2, w2, z2⟩ <;> rw [z1] at f1 <;> rw [z2] at f2
    · exact h.dj i j x y b ne g1 g2 f1 f2
    · subst w2; rw [ft b f2] at f1; exact hf i x g1 f1
    · subst w1; rw [ft b f1] at f2; exact hf j y g2 f2
    · exact ne (n1.trans n2.symm)
/-- an object that changes, changed -/
theorem HR.put {i : Nat} {o o' : MO} {ob : HO} (h : HR c G pl H m) (e : m[i]? = some o) (hd : isDrw o = false) (hn : foot (pl i) o = [(pl i).a]) (hn' : foot (pl i) o' = [(pl i).a]) (hd' : isDrw o' = false) (ho : MOk G (upd H (pl i).a ob) (pl i) o') : HR c G pl (upd H (pl i).a ob) (m.set i o') := by
  have mem : (pl i).a ∈ foot (pl i) o := by rw [hn]; exact List.mem_singleton.mpr rfl
  have hi : i < m.length := by
    rcases Nat.lt_or_ge i m.length with z | z
    · exact z
    · rw [List.getElem?_eq_none z] at e; cases e
  have hg := h.out i o _ e mem
  have old : ∀ j x, (m.set i o')[j]? = some x → (j ≠ i ∧ m[j]? = some x) ∨ (j = i ∧ x = o') := fun j x q => by
    by_cases z : j = i
    · subst z
      rw [List.getElem?_set_self hi] at q
      cases q
      exact .inr ⟨rfl, rfl⟩
    · rw [List.getElem?_set_ne (Ne.symm z)] at q
      exact .inl ⟨z, q⟩
  refine ⟨fun b x q => ?_, fun j x q => ?_, fun j x b q f => ?_, fun j x b q f => ?_, fun j k x y b ne q1 q2 f1 f2 => ?_, h.g0, fun b x n1 n2 q => ?_, fun b q => ?_, h.nw⟩
  · rw [upd_ne (fun z => by rw [z, hg] at q; cases q)]
    exact h.sub _ _ q
  · rcases old j x q with ⟨ne, q⟩ | ⟨rfl, rfl⟩
    · exact (h.mo j x q).keep (.refl G) fun b y f r => by
        rw [upd_ne (fun z => h.dj i j o x b (Ne.symm ne) e q (by rw [z]; exact mem) f)]
        exact r
    · exact ho
  · rcases old j x q with ⟨ne, q⟩ | ⟨rfl, rfl⟩
    · exact h.out j x b q f
    · rw [hn'] at f
      rw [List.mem_singleton.mp f]; exact hg
  · rcases old j x q with ⟨ne, q⟩ | ⟨rfl, rfl⟩
    · exact h.own j x b q f
    · rw [hn'] at f
      have := h.own j o b e (by rw [hn]; exact f)
      rw [hd] at this
      rw [hd']
      exact this
  · rcases old j x q1 with ⟨n1, g1⟩ | ⟨w1, v1⟩ <;> rcases old k y q2 with ⟨n2, g2⟩ | ⟨w2, v2⟩
    · exact h.dj j k x y b ne g1 g2 f1 f2
    · subst w2 v2
      rw [hn'] at f2
      exact h.dj j k x o b ne g1 e f1 (by rw [hn]; exact f2)
    · subst w1 v1
      rw [hn'] at f1
      exact h.dj j k o y b ne e g2 (by rw [hn]; exact f1) f2
    · exact ne (w1.trans w2.symm)
  · rw [upd_ne]
    · exact h.h0 b x n1 n2 q
    · intro z
      have := h.own i o _ e mem
      rw [hd, ← z] at this
      rcases this with w | w
      · exact n2 w
      · rw [q] at w; cases w
  · by_cases z : b = (pl i).a
    · rw [z, upd_same]; exact fun w => nomatch w
    · rw [upd_ne z]; exact h.up b q
/-- an object that changed, and changes no more -/
theorem HR.freeze {i : Nat} {o : MO} {ob : HO} (h : HR c G pl H m) (e : m[i]? = some o) (hd : isDrw o = false) (hn : foot (pl i) o = [(pl i).a]) (hp : H (pl i).a = some ob) (hL : ∀ b, ¬ c.L b) : HR c (upd G (pl i).a ob) pl H (m.set i .no) := by
  have mem : (pl i).a ∈ foot (pl i) o := by rw [hn]; exact List.mem_singleton.mpr rfl
  have hi : i < m.length := by
    rcases Nat.lt_or_ge i m.length with z | z
    · exact z
    · rw [List.getElem?_eq_none z] at e; cases e
  have old : ∀ j x, (m.set i .no)[j]? = some x → (j ≠ i ∧ m[j]? = some x) ∨ (j = i ∧ x = .no) := fun j x q => by
    by_cases z : j = i
    · subst z
      rw [List.getElem?_set_self hi] at q
      cases q
      exact .inr ⟨rfl, rfl⟩
    · rw [List.getElem?_set_ne (Ne.symm z)] at q
      exact .inl ⟨z, q⟩
  have h2 : HR c G pl H (m.set i .no) := by
    refine ⟨h.sub, fun j x q => ?_, fun j x b q f => ?_, fun j x b q f => ?_, fun j k x y b ne q1 q2 f1 f2 => ?_, h.g0, h.h0, h.up, h.nw⟩
    · rcases old j x q with ⟨ne, q⟩ | ⟨rfl, rfl⟩
      · exact h.mo j x q
      · trivial
    · rcases old j x q with ⟨ne, q⟩ | ⟨rfl, rfl⟩
      · exact h.out j x b q f
      · cases f
    · rcases old j x q with ⟨ne, q⟩ | ⟨rfl, rfl⟩
      · exact h.own j x b q f
      · cases f
    · rcases old j x q1 with ⟨n1, q1⟩ | ⟨rfl, rfl⟩
      · rcases old k y q2 with ⟨n2, q2⟩ | ⟨rfl, rfl⟩
        · exact h.dj j k x y b ne q1 q2 f1 f2
        · cases f2
      · cases f1
  refine h2.adopt hp (h.out i o _ e mem) (fun j x q f => ?_) ?_
  · rcases old j x q with ⟨ne, q⟩ | ⟨rfl, rfl⟩
    · exact h.dj i j o x _ (Ne.symm ne) e q mem f
    · cases f
  · have := h.own i o _ e mem
    rw [hd] at this
    rcases this with w | w
    · exact absurd w (hL _)
    · exact w
/-- what changes, of those that draw; of the others -/
def fF (pl : Nat → Pl) (m : Mu) : Addr → Prop := fun b => ∃ i o, m[i]? = some o ∧ isDrw o = true ∧ b ∈ foot (pl i) o
def fL (pl : Nat → Pl) (m : Mu) : Addr → Prop := fun b => ∃ i o, m[i]? = some o ∧ isDrw o = false ∧ b ∈ foot (pl i) o
/-- from here on -/
theorem HR.here (h : HR c G pl H m) : HR ⟨G, H, fF pl m, fL pl m⟩ G pl H m where
  sub := h.sub
  mo := h.mo
  out := h.out
  own := fun i o b e f => by
    cases q : isDrw o with
    | true => rw [if_pos rfl]; exact .inl ⟨i, o, e, q, f⟩
    | false => rw [if_neg Bool.false_ne_true]; exact .inl ⟨i, o, e, q, f⟩
  dj := h.dj
  g0 := .refl G
  h0 := fun b o _ _ e => e
  up := fun b e => e
  nw := fun b e => .inl e
/-- .. and back -/
theorem HR.back {G' H' : Hp} {pl' : Nat → Pl} {m' : Mu} (h : HR c G pl H m) (k : HR ⟨G, H, fF pl m, fL pl m⟩ G' pl' H' m') : HR c G' pl' H' m' where
  sub := k.sub
  mo := k.mo
  out := k.out
  own := fun i o b e f => by
    rcases k.own i o b e f with z | z
    · cases q : isDrw o with
      | true =>
        rw [q, if_pos rfl] at z
        obtain ⟨j, x, e2, d2, f2⟩ := z
        have := h.own j x b e2 f2
        rw [d2, if_pos rfl] at this
        rw [if_pos rfl]; exact this
      | false =>
        rw [q, if_neg Bool.false_ne_true] at z
        obtain ⟨j, x, e2, d2, f2⟩ := z
        have := h.own j x b e2 f2
        rw [d2, if_neg Bool.false_ne_true] at this
        rw [if_neg Bool.false_ne_true]; exact this
    · refine .inr ?_
      cases q : c.H b with
      | none => rfl
      | some x => exact absurd (show H b = none from z) (h.up b (by rw [q]; exact fun w => nomatch w))
  dj := k.dj
  g0 := h.g0.trans k.g0
  h0 := fun b o n1 n2 e => by
    refine k.h0 b o (fun z => ?_) (fun z => ?_) (h.h0 b o n1 n2 e)
    · obtain ⟨i, x, e2, d2, f2⟩ := z
      have := h.own i x b e2 f2
      rw [d2, if_pos rfl, e] at this
      rcases this with w | w
      · exact n1 w
      · cases w
    · obtain ⟨i, x, e2, d2, f2⟩ := z
      have := h.own i x b e2 f2
      rw [d2, if_neg Bool.false_ne_true, e] at this
      rcases this with w | w
      · exact n2 w
      · cases w
  up := fun b e => k.up b (h.up b e)
  nw := fun b e => by
    rcases k.nw b e with z | z
    · exact h.nw b z
    · refine .inr ?_
      cases q : c.H b with
      | none => rfl
      | some x => exact absurd (show H b = none from z) (h.up b (by rw [q]; exact fun w => nomatch w))
end
end PM

namespace PM
open PySem PySem.Spec PyProof.Rows L2 RZ
/-! ### a reading and its data-level reading -/
abbrev Rl (α β : Type) := Hp → (Nat → Pl) → Nat → α → β → Prop
def Kn {α β : Type} (ρ : Rl α β) (c : Fr0) (G : Hp) (pl : Nat → Pl) (σ : L2.St) (e : DEnv) (n : Nat) (k : β → Mu → Prop) (Q : α → Hp → Prop) : Prop :=
  ∀ b m' G' pl' H' a, k b m' → Le G pl n G' pl' m'.length → SR c G' pl' σ H' e m' → ρ G' pl' m'.length a b → Q a H'
def Sg {α β : Type} (ρ : Rl α β) (t : L2.St → Hp → (α → Hp → Prop) → Prop) (d : DEnv → Mu → (β → Mu → Prop) → Prop) : Prop :=
  ∀ c G pl σ H e m k Q, SR c G pl σ H e m → d e m k → Kn ρ c G pl σ e m.length k Q → t σ H Q
inductive RVs (G : Hp) (pl : Nat → Pl) (n : Nat) : List V → List DV → Prop
  | nil : RVs G pl n [] []
  | cons {v : V} {vs : List V} {d : DV} {ds : List DV} : RV G pl n v d → RVs G pl n vs ds → RVs G pl n (v :: vs) (d :: ds)
theorem RVs.le {G G' : Hp} {pl pl' : Nat → Pl} {n n' : Nat} (l : Le G pl n G' pl' n') : ∀ {vs : List V} {ds : List DV}, RVs G pl n vs ds → RVs G' pl' n' vs ds
  | _, _, .nil => .nil
  | _, _, .cons h t => .cons (h.le l) (RVs.le l t)
theorem RVs.length {G : Hp} {pl : Nat → Pl} {n : Nat} : ∀ {vs : List V} {ds : List DV}, RVs G pl n vs ds → vs.length = ds.length
  | _, _, .nil => rfl
  | _, _, .cons _ t => by rw [List.length_cons, List.length_cons, RVs.length t]
theorem RVs.append {G : Hp} {pl : Nat → Pl} {n : Nat} : ∀ {vs ws : List V} {ds es : List DV}, RVs G pl n vs ds → RVs G pl n ws es → RVs G pl n (vs ++ ws) (ds ++ es)
  | _, _, _, _, .nil, k => k
  | _, _, _, _, .cons h t, k => .cons h (RVs.append t k)
theorem RVs.ofL {G : Hp} {pl : Nat → Pl} {n : Nat} : ∀ {vs : List V} {ds : List PyData}, DaL G vs ds → RVs G pl n vs (ds.map DV.d)
  | _, _, .nil => .nil
  | _, _, .cons h t => .cons h (RVs.ofL t)
abbrev DE := DEnv → Mu → (DV → Mu → Prop) → Prop
abbrev DT := DEnv → Mu → (Bool → Mu → Prop) → Prop
abbrev DA := DEnv → Mu → (List DV → Mu → Prop) → Prop
abbrev DO := DEnv → Mu → (Option Int → Mu → Prop) → Prop
abbrev SE (t : TE) (d : DE) : Prop := Sg RV t d
abbrev ST (t : TT) (d : DT) : Prop := Sg (fun _ _ _ (a b : Bool) => a = b) t d
abbrev SA (t : TA) (d : DA) : Prop := Sg RVs t d
abbrev SO (t : TO) (d : DO) : Prop := Sg (fun _ _ _ (a b : Option Int) => a = b) t d
theorem Kn.le {α β : Type} {ρ : Rl α β} {c : Fr0} {G G' : Hp} {pl pl' : Nat → Pl} {σ : L2.St} {e : DEnv} {n n' : Nat} {k : β → Mu → Prop} {Q : α → Hp → Prop} (h : Kn ρ c G pl σ e n k Q) (l : Le G pl n G' pl' n') : Kn ρ c G' pl' σ e n' k Q :=
  fun b m' G2 pl2 H2 a q l2 => h b m' G2 pl2 H2 a q (l.trans l2)
section
variable {c : Fr0} {G H : Hp} {pl : Nat → Pl} {σ : L2.St} {e : DEnv} {m : Mu} {k : DV → Mu → Prop} {Q : VK}
theorem SR.le {G' H' : Hp} {pl' : Nat → Pl} {m' : Mu} (sr : SR c G pl σ H e m) (l : Le G pl m.length G' pl' m'.length) (h : HR c G' pl' H' m') : SR c G' pl' σ H' e m' := ⟨sr.env.le l, h⟩
/-- a value, nothing laid -/
theorem Kn.val {α β : Type} {ρ : Rl α β} {k : β → Mu → Prop} {Q : α → Hp → Prop} {a : α} {b : β} (K : Kn ρ c G pl σ e m.length k Q) (sr : SR c G pl σ H e m) (h : k b m) (r : ρ G pl m.length a b) : Q a H :=
  K b m G pl H a h (.refl _ _ _) sr r
/-- a new object, known from now on -/
theorem Kn.new {p : Addr} {o : HO} {dv : DV} (K : Kn RV c G pl σ e m.length k Q) (sr : SR c G pl σ H e m) (hp : H p = none) (h : k dv m) (r : RV (upd G p o) pl m.length (.ref p) dv) : Q (.ref p) (upd H p o) :=
  have l : Le G pl m.length (upd G p o) pl m.length := ⟨same_upd (sr.hp.fresh hp).1, fun _ _ => rfl, Nat.le_refl _⟩
  K dv m (upd G p o) pl (upd H p o) _ h l (sr.le l (sr.hp.new hp)) r
theorem Kn.tup {p : Addr} {xs : List V} {ds : List PyData} (K : Kn RV c G pl σ e m.length k Q) (sr : SR c G pl σ H e m) (hp : H p = none) (h : k (.d (.tuple ds)) m) (r : DaL G xs ds) : Q (.ref p) (upd H p (.tup xs)) :=
  K.new sr hp h (.tup upd_same (r.same (same_upd (sr.hp.fresh hp).1)))
theorem Kn.lst {p : Addr} {xs : List V} {ds : List PyData} (K : Kn RV c G pl σ e m.length k Q) (sr : SR c G pl σ H e m) (hp : H p = none) (h : k (.d (.list ds)) m) (r : DaL G xs ds) : Q (.ref p) (upd H p (.lst xs)) :=
  K.new sr hp h (.lst upd_same (r.same (same_upd (sr.hp.fresh hp).1)))
end
/-! ### names and constants -/
def dVar (i : Nat) : DE := fun e m k => match lk e i with
  | some v => k v m
  | none => False
theorem se_var (i : Nat) : SE (tVar i) (dVar i) := fun c G pl σ H e m k Q sr d K => by
  unfold dVar at d
  cases h : lk e i with
  | none => rw [h] at d; exact d.elim
  | some dv =>
    rw [h] at d
    obtain ⟨v, h1, h2⟩ := sr.env.get i dv h
    exact ⟨v, h1, K.val sr d h2⟩
def dC (v : PyData) : DE := fun _ m k => k (.d v) m
theorem se_int (i : Int) : SE (tC (.int i)) (dC (.int i)) := fun c G pl σ H e m k Q sr d K => K.val sr d (show RV G pl m.length (.int i) (.d (.int i)) from .int i)
theorem se_bl (b : Bool) : SE (tC (.bl b)) (dC (.bool b)) := fun c G pl σ H e m k Q sr d K => K.val sr d (show RV G pl m.length (.bl b) (.d (.bool b)) from .bl b)
theorem se_str (x : Str) : SE (tC (.str x)) (dC (.str x)) := fun c G pl σ H e m k Q sr d K => K.val sr d (show RV G pl m.length (.str x) (.d (.str x)) from .str x)
theorem se_non : SE (tC .non) (dC .none) := fun c G pl σ H e m k Q sr d K => K.val sr d (show RV G pl m.length .non (.d .none) from .non)
/-! ### operators by values -/
def OpS (r : R2) (f : Mu → DV → DV → (DV → Prop) → Prop) : Prop := ∀ c G pl σ H e m x y dx dy k Q, SR c G pl σ H e m → RV G pl m.length x dx → RV G pl m.length y dy → f m dx dy (fun z => k z m) → Kn RV c G pl σ e m.length k Q → r x y H Q
def UnS (r : V → Hp → VK → Prop) (f : Mu → DV → (DV → Prop) → Prop) : Prop := ∀ c G pl σ H e m x dx k Q, SR c G pl σ H e m → RV G pl m.length x dx → f m dx (fun z => k z m) → Kn RV c G pl σ e m.length k Q → r x H Q
def CaS (r : List V → Hp → VK → Prop) (f : Mu → List DV → (DV → Prop) → Prop) : Prop := ∀ c G pl σ H e m xs ds k Q, SR c G pl σ H e m → RVs G pl m.length xs ds → f m ds (fun z => k z m) → Kn RV c G pl σ e m.length k Q → r xs H Q
def dOp (f : Mu → DV → DV → (DV → Prop) → Prop) (da db : DE) : DE := fun e m k => da e m fun x m1 => db e m1 fun y m2 => f m2 x y fun z => k z m2
def dUn (f : Mu → DV → (DV → Prop) → Prop) (da : DE) : DE := fun e m k => da e m fun x m1 => f m1 x fun z => k z m1
def dCB (f : Mu → List DV → (DV → Prop) → Prop) (da : DA) : DE := fun e m k => da e m fun xs m1 => f m1 xs fun z => k z m1
theorem se_op {r : R2} {f : Mu → DV → DV → (DV → Prop) → Prop} {ta tb : TE} {da db : DE} (h : OpS r f) (ha : SE ta da) (hb : SE tb db) : SE (tOp r ta tb) (dOp f da db) :=
  fun c G pl σ H e m k Q sr d K => ha _ _ _ _ _ _ _ _ _ sr d fun x m1 G1 pl1 H1 v1 d1 l1 sr1 r1 => hb _ _ _ _ _ _ _ _ _ sr1 d1 fun y m2 G2 pl2 H2 v2 d2 l2 sr2 r2 =>
    h _ _ _ _ _ _ _ _ _ _ _ _ _ sr2 (r1.le l2) r2 d2 (K.le (l1.trans l2))
theorem se_un {r : V → Hp → VK → Prop} {f : Mu → DV → (DV → Prop) → Prop} {ta : TE} {da : DE} (h : UnS r f) (ha : SE ta da) : SE (tUn r ta) (dUn f da) :=
  fun c G pl σ H e m k Q sr d K => ha _ _ _ _ _ _ _ _ _ sr d fun x m1 G1 pl1 H1 v1 d1 l1 sr1 r1 => h _ _ _ _ _ _ _ _ _ _ _ sr1 r1 d1 (K.le l1)
theorem se_cb {r : List V → Hp → VK → Prop} {f : Mu → List DV → (DV → Prop) → Prop} {ta : TA} {da : DA} (h : CaS r f) (ha : SA ta da) : SE (tCB r ta) (dCB f da) :=
  fun c G pl σ H e m k Q sr d K => ha _ _ _ _ _ _ _ _ _ sr d fun x m1 G1 pl1 H1 v1 d1 l1 sr1 r1 => h _ _ _ _ _ _ _ _ _ _ _ sr1 r1 d1 (K.le l1)
def dNil : DA := fun _ m k => k [] m
def dCons (da : DE) (dr : DA) : DA := fun e m k => da e m fun x m1 => dr e m1 fun xs m2 => k (x :: xs) m2
theorem sa_nil : SA tNil dNil := fun c G pl σ H e m k Q sr d K => K.val sr d .nil
theorem sa_cons {ta : TE} {tr : TA} {da : DE} {dr : DA} (ha : SE ta da) (hr : SA tr dr) : SA (tCons ta tr) (dCons da dr) :=
  fun c G pl σ H e m k Q sr d K => ha _ _ _ _ _ _ _ _ _ sr d fun x m1 G1 pl1 H1 v1 d1 l1 sr1 r1 => hr _ _ _ _ _ _ _ _ _ sr1 d1 fun xs m2 G2 pl2 H2 vs d2 l2 sr2 r2 =>
    K _ _ _ _ _ _ d2 (l1.trans l2) sr2 (.cons (r1.le l2) r2)
theorem OpS.or {r r' : R2} {f : Mu → DV → DV → (DV → Prop) → Prop} {f' : Mu → DV → DV → (DV → Prop) → Prop} (h : OpS r f) (h' : OpS r' f') : OpS (fun x y H Q => r x y H Q ∨ r' x y H Q) (fun m x y k => f m x y k ∨ f' m x y k) :=
  fun c G pl σ H e m x y dx dy k Q sr rx ry d K => d.imp (fun z => h _ _ _ _ _ _ _ _ _ _ _ _ _ sr rx ry z K) fun z => h' _ _ _ _ _ _ _ _ _ _ _ _ _ sr rx ry z K
/-- by the kind of the first value -/
theorem OpS.sel {r r' : R2} {f : Mu → DV → DV → (DV → Prop) → Prop} {f' : Mu → DV → DV → (DV → Prop) → Prop} {g : Mu → DV → DV → (DV → Prop) → Prop} (h : OpS r f) (h' : OpS r' f') (s : ∀ m x y k, g m x y k → f m x y k ∨ f' m x y k) : OpS (fun x y H Q => r x y H Q ∨ r' x y H Q) g :=
  fun c G pl σ H e m x y dx dy k Q sr rx ry d K => (s _ _ _ _ d).imp (fun z => h _ _ _ _ _ _ _ _ _ _ _ _ _ sr rx ry z K) fun z => h' _ _ _ _ _ _ _ _ _ _ _ _ _ sr rx ry z K
/-! ### ints -/
def fI (g : Int → Int → PyData) : Mu → DV → DV → (DV → Prop) → Prop
  | _, .d (.int i), .d (.int j), k => k (.d (g i j))
  | _, _, _, _ => False
def fIC (C : Int → Int → Prop) (g : Int → Int → PyData) : Mu → DV → DV → (DV → Prop) → Prop
  | _, .d (.int i), .d (.int j), k => C i j ∧ k (.d (g i j))
  | _, _, _, _ => False
theorem fI_inv {g : Int → Int → PyData} {m : Mu} {x y : DV} {k : DV → Prop} (h : fI g m x y k) : ∃ i j, x = .d (.int i) ∧ y = .d (.int j) ∧ k (.d (g i j)) := by
  unfold fI at h
  split at h
  · exact ⟨_, _, rfl, rfl, h⟩
  · exact h.elim
theorem fIC_inv {C : Int → Int → Prop} {g : Int → Int → PyData} {m : Mu} {x y : DV} {k : DV → Prop} (h : fIC C g m x y k) : ∃ i j, x = .d (.int i) ∧ y = .d (.int j) ∧ C i j ∧ k (.d (g i j)) := by
  unfold fIC at h
  split at h
  · exact ⟨_, _, rfl, rfl, h⟩
  · exact h.elim
theorem RV.int_inv {G : Hp} {pl : Nat → Pl} {n : Nat} {v : V} {i : Int} (h : RV G pl n v (.d (.int i))) : v = .int i := by
  cases (show Da G v (.int i) from h)
  rfl
theorem RV.bl_inv {G : Hp} {pl : Nat → Pl} {n : Nat} {v : V} {b : Bool} (h : RV G pl n v (.d (.bool b))) : v = .bl b := by
  cases (show Da G v (.bool b) from h)
  rfl
theorem os_i0 {gv : Int → Int → V} {g : Int → Int → PyData} (hg : ∀ G i j, Da G (gv i j) (g i j)) : OpS (rI0 gv) (fI g) := fun c G pl σ H e m x y dx dy k Q sr rx ry d K => by
  obtain ⟨i, j, rfl, rfl, d⟩ := fI_inv d
  exact ⟨i, j, rx.int_inv, ry.int_inv, K.val sr d (show RV G pl m.length (gv i j) (.d (g i j)) from hg G i j)⟩
theorem os_ic {C : Int → Int → Prop} {gv : Int → Int → V} {g : Int → Int → PyData} (hg : ∀ G i j, Da G (gv i j) (g i j)) : OpS (rI C gv) (fIC C g) := fun c G pl σ H e m x y dx dy k Q sr rx ry d K => by
  obtain ⟨i, j, rfl, rfl, hc, d⟩ := fIC_inv d
  exact ⟨i, j, rx.int_inv, ry.int_inv, hc, K.val sr d (show RV G pl m.length (gv i j) (.d (g i j)) from hg G i j)⟩
abbrev fAdd := fI fun i j => .int (i + j)
abbrev fSub := fI fun i j => .int (i - j)
abbrev fLt := fI fun i j => .bool (decide (i < j))
abbrev fLe := fI fun i j => .bool (decide (i ≤ j))
abbrev fGt := fI fun i j => .bool (decide (j < i))
abbrev fGe := fI fun i j => .bool (decide (j ≤ i))
abbrev fMul := fIC CMulW fun i j => .int (i * j)
abbrev fMod := fIC (fun _ j => 0 < j) fun i j => .int (i % j)
abbrev fDiv := fIC (fun _ j => j ≠ 0 ∧ j.natAbs.log2 < 9000) fun i j => .int (i.fdiv j)
abbrev fPow := fIC CPow fun i j => .int (i ^ j.toNat)
theorem os_add : OpS (rI0 fun i j => .int (i + j)) fAdd := os_i0 fun _ _ _ => .int _
theorem os_sub : OpS (rI0 fun i j => .int (i - j)) fSub := os_i0 fun _ _ _ => .int _
theorem os_lt : OpS (rI0 fun i j => .bl (decide (i < j))) fLt := os_i0 fun _ _ _ => .bl _
theorem os_le : OpS (rI0 fun i j => .bl (decide (i ≤ j))) fLe := os_i0 fun _ _ _ => .bl _
theorem os_gt : OpS (rI0 fun i j => .bl (decide (j < i))) fGt := os_i0 fun _ _ _ => .bl _
theorem os_ge : OpS (rI0 fun i j => .bl (decide (j ≤ i))) fGe := os_i0 fun _ _ _ => .bl _
theorem os_mul : OpS (rI CMulW fun i j => .int (i * j)) fMul := os_ic fun _ _ _ => .int _
theorem os_mod : OpS (rI (fun _ j => 0 < j) fun i j => .int (i % j)) fMod := os_ic fun _ _ _ => .int _
theorem os_div : OpS (rI (fun _ j => j ≠ 0 ∧ j.natAbs.log2 < 9000) fun i j => .int (i.fdiv j)) fDiv := os_ic fun _ _ _ => .int _
theorem os_pow : OpS (rI CPow fun i j => .int (i ^ j.toNat)) fPow := os_ic fun _ _ _ => .int _
def fNeg : Mu → DV → (DV → Prop) → Prop
  | _, .d (.int i), k => k (.d (.int (-i)))
  | _, _, _ => False
theorem us_neg : UnS (rU fun i => .int (-i)) fNeg := fun c G pl σ H e m x dx k Q sr rx d K => by
  unfold fNeg at d
  split at d
  · exact ⟨_, rx.int_inv, K.val sr d (show RV G pl _ _ (.d (.int _)) from .int _)⟩
  · exact d.elim
/-! ### reading lists and tuples -/
def rdL : Mu → DV → Option (List PyData)
  | _, .d (.list ds) => some ds
  | m, .p i => match m[i]? with
    | some (.lst ds) => some ds
    | _ => none
  | _, _ => none
def rdT : DV → Option (List PyData)
  | .d (.tuple ds) => some ds
  | _ => none
def rdS (m : Mu) (x : DV) : Option (List PyData) := match rdT x with
  | some ds => some ds
  | none => rdL m x
section
variable {c : Fr0} {G H : Hp} {pl : Nat → Pl} {σ : L2.St} {e : DEnv} {m : Mu}
theorem SR.list (sr : SR c G pl σ H e m) {v : V} {dv : DV} {ds : List PyData} (r : RV G pl m.length v dv) (h : rdL m dv = some ds) : ∃ a xs, v = .ref a ∧ H a = some (.lst xs) ∧ DaL G xs ds := by
  unfold rdL at h
  split at h
  · cases h
    cases (show Da G v _ from r) with
    | lst e1 e2 => exact ⟨_, _, rfl, sr.hp.sub _ _ e1, e2⟩
  · split at h
    · rename_i e1
      cases h
      obtain ⟨xs, h1, h2⟩ := sr.hp.mo _ _ e1
      exact ⟨_, xs, r.2, h1, h2⟩
    · cases h
  · cases h
theorem SR.tup (sr : SR c G pl σ H e m) {v : V} {dv : DV} {ds : List PyData} (r : RV G pl m.length v dv) (h : rdT dv = some ds) : ∃ a xs, v = .ref a ∧ H a = some (.tup xs) ∧ DaL G xs ds := by
  unfold rdT at h
  split at h
  · cases h
    cases (show Da G v _ from r) with
    | tup e1 e2 => exact ⟨_, _, rfl, sr.hp.sub _ _ e1, e2⟩
  · cases h
theorem SR.seq (K : PySem.W.Frag) (sr : SR c G pl σ H e m) {v : V} {dv : DV} {ds : List PyData} (r : RV G pl m.length v dv) (h : rdS m dv = some ds) : ∃ a xs, v = .ref a ∧ (SqL K H a xs ∨ SqT K H a xs) ∧ DaL G xs ds := by
  unfold rdS at h
  split at h
  · rename_i z
    cases h
    obtain ⟨a, xs, h1, h2, h3⟩ := sr.tup r z
    exact ⟨a, xs, h1, .inr (.inl (.inl h2)), h3⟩
  · obtain ⟨a, xs, h1, h2, h3⟩ := sr.list r h
    exact ⟨a, xs, h1, .inl (.inl (.inl h2)), h3⟩
end
theorem DaL.at {G : Hp} {xs : List V} {ds : List PyData} {i : Int} {d : PyData} (h : DaL G xs ds) (e : atI ds i = some d) : ∃ v, atI xs i = some v ∧ Da G v d := by
  unfold atI at *
  rw [← h.length] at e
  cases q : ixN xs.length i with
  | none => rw [q] at e; cases e
  | some j =>
    rw [q] at e
    have e : ds[j]? = some d := e
    have hj : j < xs.length := by
      rw [h.length]
      rcases Nat.lt_or_ge j ds.length with z | z
      · exact z
      · rw [List.getElem?_eq_none z] at e; cases e
    obtain ⟨d', h1, h2⟩ := h.get j (List.getElem?_eq_getElem hj)
    rw [e] at h1
    cases h1
    exact ⟨xs[j], List.getElem?_eq_getElem hj, h2⟩
/-- x[i] -/
def fIx (m : Mu) (x y : DV) (k : DV → Prop) : Prop := match y with
  | .d (.int i) => ∃ ds d, rdS m x = some ds ∧ atI ds i = some d ∧ k (.d d)
  | _ => False
theorem os_ix (K : PySem.W.Frag) : OpS (rIx K) fIx := fun c G pl σ H e m x y dx dy k Q sr rx ry d KK => by
  unfold fIx at d
  split at d
  · obtain ⟨ds, d', h1, h2, q⟩ := d
    obtain ⟨a, xs, e1, e2, e3⟩ := sr.seq K rx h1
    obtain ⟨v, g1, g2⟩ := e3.at h2
    have q' : Q v H := KK.val sr q (show RV G pl m.length v (.d d') from g2)
    rcases e2 with e2 | e2
    · exact .inl ⟨a, xs, _, v, e1, ry.int_inv, e2, g1, q'⟩
    · exact .inr (.inl ⟨a, xs, _, v, e1, ry.int_inv, e2, g1, q'⟩)
  · exact d.elim
/-- x in y of ints -/
def intsOf : List PyData → Option (List Int)
  | [] => some []
  | .int i :: ds => (intsOf ds).map (i :: ·)
  | _ :: _ => none
def fIn (neg : Bool) (m : Mu) (x y : DV) (k : DV → Prop) : Prop := match x with
  | .d (.int i) => ∃ (ds : List PyData) (is : List Int), rdS m y = some ds ∧ ds = is.map PyData.int ∧ k (.d (.bool (if neg then !decide (i ∈ is) else decide (i ∈ is))))
  | _ => False
theorem DaL.ints {G : Hp} : ∀ {is : List Int} {xs : List V}, DaL G xs (is.map PyData.int) → xs = is.map V.int
  | [], _, .nil => rfl
  | i :: is, _, .cons h t => by
    cases h
    rw [DaL.ints t]
    rfl
theorem inV_ints (i : Int) : ∀ is : List Int, inV (.int i) (is.map V.int) = decide (i ∈ is)
  | [] => by simp [inV]
  | j :: is => by
    have ih := inV_ints i is
    unfold inV at *
    rw [List.map_cons, List.any_cons, ih]
    have : eqV (V.int j) (V.int i) = decide (i = j) := by
      show (j == i) = decide (i = j)
      by_cases e : i = j
      · subst e; simp
      · rw [decide_eq_false e]
        exact beq_eq_false_iff_ne.mpr (Ne.symm e)
    rw [this]
    by_cases e : i = j
    · subst e; simp
    · simp [e]
theorem os_in (K : PySem.W.Frag) (neg : Bool) : OpS (rIn K neg) (fIn neg) := fun c G pl σ H e m x y dx dy k Q sr rx ry d KK => by
  unfold fIn at d
  split at d
  · obtain ⟨ds, is, h1, rfl, q⟩ := d
    obtain ⟨a, xs, e1, e2, e3⟩ := sr.seq K ry h1
    cases DaL.ints e3
    cases rx.int_inv
    refine ⟨a, _, e1, e2, rfl, ?_, ?_⟩
    · rw [List.all_map]
      exact List.all_eq_true.mpr fun _ _ => rfl
    · rw [inV_ints]
      exact KK.val sr q (show RV G pl m.length _ (.d (.bool _)) from .bl _)
  · exact d.elim
/-! ### tests -/
def br (b : Bool) (A B : Prop) : Prop := (b = true → A) ∧ (b = false → B)
theorem br_ite {b : Bool} {A B : Prop} (h : br b A B) : if b = true then A else B := by
  cases b with
  | true => rw [if_pos rfl]; exact h.1 rfl
  | false => rw [if_neg Bool.false_ne_true]; exact h.2 rfl
def dTest (da : DE) : DT := fun e m k => da e m fun x m1 => match x with
  | .d (.bool b) => k b m1
  | _ => False
theorem st_test {ta : TE} {da : DE} (ha : SE ta da) : ST (tTest ta) (dTest da) := fun c G pl σ H e m k Q sr d K => ha _ _ _ _ _ _ _ _ _ sr d fun x m1 G1 pl1 H1 v1 d1 l1 sr1 r1 => by
  split at d1
  · exact ⟨_, r1.bl_inv, K _ _ _ _ _ _ d1 l1 sr1 rfl⟩
  · exact d1.elim
theorem st_b {ta : TE} {da : DE} (ha : SE ta da) : ST (tB ta) (dTest da) := st_test ha
def dAnd (a b : DT) : DT := fun e m k => a e m fun x m1 => br x (b e m1 k) (k false m1)
def dOr (a b : DT) : DT := fun e m k => a e m fun x m1 => br x (k true m1) (b e m1 k)
def dNot (a : DT) : DT := fun e m k => a e m fun x m1 => k (!x) m1
theorem st_and {ta tb : TT} {da db : DT} (ha : ST ta da) (hb : ST tb db) : ST (tAnd ta tb) (dAnd da db) := fun c G pl σ H e m k Q sr d K => ha _ _ _ _ _ _ _ _ _ sr d fun x m1 G1 pl1 H1 v1 d1 l1 sr1 r1 => by
  subst r1
  exact br_ite ⟨fun z => hb _ _ _ _ _ _ _ _ _ sr1 (d1.1 z) (K.le l1), fun z => K _ _ _ _ _ _ (d1.2 z) l1 sr1 rfl⟩
theorem st_or {ta tb : TT} {da db : DT} (ha : ST ta da) (hb : ST tb db) : ST (tOr ta tb) (dOr da db) := fun c G pl σ H e m k Q sr d K => ha _ _ _ _ _ _ _ _ _ sr d fun x m1 G1 pl1 H1 v1 d1 l1 sr1 r1 => by
  subst r1
  exact br_ite ⟨fun z => K _ _ _ _ _ _ (d1.1 z) l1 sr1 rfl, fun z => hb _ _ _ _ _ _ _ _ _ sr1 (d1.2 z) (K.le l1)⟩
theorem st_not {ta : TT} {da : DT} (ha : ST ta da) : ST (tNot ta) (dNot da) := fun c G pl σ H e m k Q sr d K => ha _ _ _ _ _ _ _ _ _ sr d fun x m1 G1 pl1 H1 v1 d1 l1 sr1 r1 => by
  subst r1
  exact K _ _ _ _ _ _ d1 l1 sr1 rfl
def tYesD : DT := fun _ m k => k true m
theorem st_yes : ST tYes tYesD := fun c G pl σ H e m k Q sr d K => K.val sr d rfl
/-! ### and, or, not as values; if as a value; chains -/
def dAndV (a b : DE) : DE := fun e m k => a e m fun x m1 => match x with
  | .d (.bool z) => br z (b e m1 k) (k (.d (.bool false)) m1)
  | _ => False
def dOrV (a b : DE) : DE := fun e m k => a e m fun x m1 => match x with
  | .d (.bool z) => br z (k (.d (.bool true)) m1) (b e m1 k)
  | _ => False
def dNotV (a : DE) : DE := fun e m k => a e m fun x m1 => match x with
  | .d (.bool z) => k (.d (.bool (!z))) m1
  | _ => False
theorem se_and {ta tb : TE} {da db : DE} (ha : SE ta da) (hb : SE tb db) : SE (tAndV ta tb) (dAndV da db) := fun c G pl σ H e m k Q sr d K => ha _ _ _ _ _ _ _ _ _ sr d fun x m1 G1 pl1 H1 v1 d1 l1 sr1 r1 => by
  split at d1
  · exact ⟨_, r1.bl_inv, br_ite ⟨fun z => hb _ _ _ _ _ _ _ _ _ sr1 (d1.1 z) (K.le l1), fun z => K _ _ _ _ _ _ (d1.2 z) l1 sr1 (show RV G1 pl1 m1.length _ (.d (.bool _)) from .bl _)⟩⟩
  · exact d1.elim
theorem se_or {ta tb : TE} {da db : DE} (ha : SE ta da) (hb : SE tb db) : SE (tOrV ta tb) (dOrV da db) := fun c G pl σ H e m k Q sr d K => ha _ _ _ _ _ _ _ _ _ sr d fun x m1 G1 pl1 H1 v1 d1 l1 sr1 r1 => by
  split at d1
  · exact ⟨_, r1.bl_inv, br_ite ⟨fun z => K _ _ _ _ _ _ (d1.1 z) l1 sr1 (show RV G1 pl1 m1.length _ (.d (.bool _)) from .bl _), fun z => hb _ _ _ _ _ _ _ _ _ sr1 (d1.2 z) (K.le l1)⟩⟩
  · exact d1.elim
theorem se_not {ta : TE} {da : DE} (ha : SE ta da) : SE (tNotV ta) (dNotV da) := fun c G pl σ H e m k Q sr d K => ha _ _ _ _ _ _ _ _ _ sr d fun x m1 G1 pl1 H1 v1 d1 l1 sr1 r1 => by
  split at d1
  · exact ⟨_, r1.bl_inv, K _ _ _ _ _ _ d1 l1 sr1 (show RV G1 pl1 m1.length _ (.d (.bool _)) from .bl _)⟩
  · exact d1.elim
def dIfE (t : DT) (a b : DE) : DE := fun e m k => t e m fun x m1 => br x (a e m1 k) (b e m1 k)
theorem se_if {tc : TT} {ta tb : TE} {dc : DT} {da db : DE} (hc : ST tc dc) (ha : SE ta da) (hb : SE tb db) : SE (tIf tc ta tb) (dIfE dc da db) := fun c G pl σ H e m k Q sr d K => hc _ _ _ _ _ _ _ _ _ sr d fun x m1 G1 pl1 H1 v1 d1 l1 sr1 r1 => by
  subst r1
  exact br_ite ⟨fun z => ha _ _ _ _ _ _ _ _ _ sr1 (d1.1 z) (K.le l1), fun z => hb _ _ _ _ _ _ _ _ _ sr1 (d1.2 z) (K.le l1)⟩
def dChain (f g : Mu → DV → DV → (DV → Prop) → Prop) (da db dc : DE) : DE := fun e m k => da e m fun x m1 => db e m1 fun y m2 => f m2 x y fun z => match z with
  | .d (.bool b) => br b (dc e m2 fun w m3 => g m3 y w fun u => k u m3) (k (.d (.bool false)) m2)
  | _ => False
theorem se_chain {r r' : R2} {f g : Mu → DV → DV → (DV → Prop) → Prop} {ta tb tc : TE} {da db dc : DE} (h : OpS r f) (h' : OpS r' g) (ha : SE ta da) (hb : SE tb db) (hc : SE tc dc) : SE (tChain r r' ta tb tc) (dChain f g da db dc) :=
  fun c G pl σ H e m k Q sr d K => ha _ _ _ _ _ _ _ _ _ sr d fun x m1 G1 pl1 H1 v1 d1 l1 sr1 r1 => hb _ _ _ _ _ _ _ _ _ sr1 d1 fun y m2 G2 pl2 H2 v2 d2 l2 sr2 r2 =>
    h _ _ _ _ _ _ _ _ _ _ _ (fun z m' => m' = m2 ∧ _) _ sr2 (r1.le l2) r2 (by
      have := d2
      exact (show f m2 x y fun z => m2 = m2 ∧ (match z with
        | .d (.bool b) => br b (dc e m2 fun w m3 => g m3 y w fun u => k u m3) (k (.d (.bool false)) m2)
        | _ => False) by
          simp only [true_and]
          exact this)) fun z m3 G3 pl3 H3 v3 d3 l3 sr3 r3 => by
      obtain ⟨rfl, d3⟩ := d3
      split at d3
      · exact ⟨_, r3.bl_inv, br_ite ⟨fun z => hc _ _ _ _ _ _ _ _ _ sr3 (d3.1 z) fun w m4 G4 pl4 H4 v4 d4 l4 sr4 r4 => h' _ _ _ _ _ _ _ _ _ _ _ _ _ sr4 (r2.le (l3.trans l4)) r4 d4 (K.le ((l1.trans l2).trans (l3.trans l4))), fun z => K _ _ _ _ _ _ (d3.2 z) ((l1.trans l2).trans l3) sr3 (show RV G3 pl3 _ _ (.d (.bool _)) from .bl _)⟩⟩
      · exact d3.elim
/-! ### displays -/
def plains : List DV → Option (List PyData)
  | [] => some []
  | .d x :: ds => match plains ds with
    | some r => some (x :: r)
    | none => none
  | _ :: _ => none
theorem RVs.plain {G : Hp} {pl : Nat → Pl} {n : Nat} : ∀ {vs : List V} {ds : List DV} {xs : List PyData}, RVs G pl n vs ds → plains ds = some xs → DaL G vs xs
  | _, _, _, .nil, h => by
    cases h
    exact .nil
  | _, _, _, .cons (d := d) (ds := ds) h t, e => by
    cases d with
    | d x =>
      unfold plains at e
      cases q : plains ds with
      | none => rw [q] at e; cases e
      | some r =>
        rw [q] at e
        cases e
        exact .cons h (RVs.plain t q)
    | dic kvs => cases e
    | p i => cases e
    | any f => cases e
def dTup (da : DA) : DE := fun e m k => da e m fun xs m1 => match plains xs with
  | some ds => ds.length ≤ 1000000 ∧ k (.d (.tuple ds)) m1
  | none => False
theorem bigS {n : Nat} (h : n ≤ 1000000) : n ≤ sizeLine := Nat.le_trans h (by rw [sizeLine_eq]; decide)
theorem se_tup {ta : TA} {da : DA} (ha : SA ta da) : SE (tTup ta) (dTup da) := fun c G pl σ H e m k Q sr d K => ha _ _ _ _ _ _ _ _ _ sr d fun xs m1 G1 pl1 H1 vs d1 l1 sr1 r1 => by
  split at d1
  · rename_i ds q
    have h := r1.plain q
    exact ⟨by rw [h.length]; exact bigS d1.1, fun p hp => (K.le l1).tup sr1 hp d1.2 h⟩
  · exact d1.elim
/-! ### a new list, not yet known -/
def Kl (c : Fr0) (G : Hp) (pl : Nat → Pl) (σ : L2.St) (e : DEnv) (n : Nat) (k : List PyData → Mu → Prop) (Q : VK) : Prop :=
  ∀ ds m' G' pl' H' p xs, k ds m' → Le G pl n G' pl' m'.length → SR c G' pl' σ H' e m' → H' p = some (.lst xs) → DaL G' xs ds → G' p = none → (∀ i o, m'[i]? = some o → p ∉ foot (pl' i) o) → c.H p = none → Q (.ref p) H'
abbrev DL := DEnv → Mu → (List PyData → Mu → Prop) → Prop
def SL (t : TE) (d : DL) : Prop := ∀ c G pl σ H e m k Q, SR c G pl σ H e m → d e m k → Kl c G pl σ e m.length k Q → t σ H Q
theorem Kl.le {c : Fr0} {G G' : Hp} {pl pl' : Nat → Pl} {σ : L2.St} {e : DEnv} {n n' : Nat} {k : List PyData → Mu → Prop} {Q : VK} (h : Kl c G pl σ e n k Q) (l : Le G pl n G' pl' n') : Kl c G' pl' σ e n' k Q :=
  fun ds m' G2 pl2 H2 p xs q l2 => h ds m' G2 pl2 H2 p xs q (l.trans l2)
theorem Kl.new {c : Fr0} {G H : Hp} {pl : Nat → Pl} {σ : L2.St} {e : DEnv} {m : Mu} {k : List PyData → Mu → Prop} {Q : VK} {p : Addr} {xs : List V} {ds : List PyData} (K : Kl c G pl σ e m.length k Q) (sr : SR c G pl σ H e m) (hp : H p = none) (h : k ds m) (r : DaL G xs ds) : Q (.ref p) (upd H p (.lst xs)) := by
  obtain ⟨h1, h2, h3⟩ := sr.hp.fresh hp
  exact K ds m G pl (upd H p (.lst xs)) p xs h (.refl _ _ _) ⟨sr.env, sr.hp.grow fun b x _ e => by rw [upd_ne (ne_of_none e hp)]; exact e⟩ upd_same r h1 h3 h2
def dL (d : DL) : DE := fun e m k => d e m fun ds m' => k (.d (.list ds)) m'
theorem SL.se {t : TE} {d : DL} (h : SL t d) : SE t (dL d) := fun c G pl σ H e m k Q sr d K => h _ _ _ _ _ _ _ _ _ sr d fun ds m1 G1 pl1 H1 p xs d1 l1 sr1 hp hx hg hf hc => by
  have l2 : Le G1 pl1 m1.length (upd G1 p (.lst xs)) pl1 m1.length := ⟨same_upd hg, fun _ _ => rfl, Nat.le_refl _⟩
  exact K _ _ _ _ _ _ d1 (l1.trans l2) (sr1.le l2 (sr1.hp.adopt hp hg hf hc)) (show Da (upd G1 p (.lst xs)) (.ref p) (.list ds) from .lst upd_same (hx.same l2.g))
def dLst (da : DA) : DL := fun e m k => da e m fun xs m1 => match plains xs with
  | some ds => ds.length ≤ 1000000 ∧ k ds m1
  | none => False
theorem sl_lst {ta : TA} {da : DA} (ha : SA ta da) : SL (tLst ta) (dLst da) := fun c G pl σ H e m k Q sr d K => ha _ _ _ _ _ _ _ _ _ sr d fun xs m1 G1 pl1 H1 vs d1 l1 sr1 r1 => by
  split at d1
  · rename_i ds q
    have h := r1.plain q
    exact ⟨by rw [h.length]; exact bigS d1.1, fun p hp => (K.le l1).new sr1 hp d1.2 h⟩
  · exact d1.elim
/-- *x ahead of others -/
def dStar (da : DE) (dr : DA) : DA := fun e m k => da e m fun x m1 => ∃ ds, rdS m1 x = some ds ∧ dr e m1 fun ys m2 => k (ds.map DV.d ++ ys) m2
theorem sa_star (K : PySem.W.Frag) {ta : TE} {tr : TA} {da : DE} {dr : DA} (ha : SE ta da) (hr : SA tr dr) : SA (StX.tStar K ta tr) (dStar da dr) := fun c G pl σ H e m k Q sr d KK => ha _ _ _ _ _ _ _ _ _ sr d fun x m1 G1 pl1 H1 v1 d1 l1 sr1 r1 => by
  obtain ⟨ds, h1, d1⟩ := d1
  obtain ⟨a, xs, e1, e2, e3⟩ := sr1.seq K r1 h1
  exact ⟨a, xs, e1, e2.symm, hr _ _ _ _ _ _ _ _ _ sr1 d1 fun ys m2 G2 pl2 H2 vs d2 l2 sr2 r2 => KK _ _ _ _ _ _ d2 (l1.trans l2) sr2 ((RVs.ofL (e3.same l2.g)).append r2)⟩
end PM

namespace PM
open PySem PySem.Spec PyProof.Rows L2 RZ
theorem DaL.append {H : Hp} : ∀ {xs ys : List V} {ds es : List PyData}, DaL H xs ds → DaL H ys es → DaL H (xs ++ ys) (ds ++ es)
  | _, _, _, _, .nil, k => k
  | _, _, _, _, .cons h t, k => .cons h (DaL.append t k)
theorem DaL.take {H : Hp} : ∀ {xs : List V} {ds : List PyData} (n : Nat), DaL H xs ds → DaL H (xs.take n) (ds.take n)
  | _, _, 0, _ => by simp only [List.take_zero]; exact .nil
  | _, _, n + 1, .nil => by simp only [List.take_nil]; exact .nil
  | _, _, n + 1, .cons h t => .cons h (DaL.take n t)
theorem DaL.drop {H : Hp} : ∀ {xs : List V} {ds : List PyData} (n : Nat), DaL H xs ds → DaL H (xs.drop n) (ds.drop n)
  | _, _, 0, h => h
  | _, _, n + 1, .nil => by simp only [List.drop_nil]; exact .nil
  | _, _, n + 1, .cons h t => DaL.drop n t
theorem DaL.reverse {H : Hp} : ∀ {xs : List V} {ds : List PyData}, DaL H xs ds → DaL H xs.reverse ds.reverse
  | _, _, .nil => .nil
  | _, _, .cons h t => by
    rw [List.reverse_cons, List.reverse_cons]
    exact DaL.append (DaL.reverse t) (.cons h .nil)
/-! ### statements -/
structure DEnds where
  nx : DEnv → Mu → Prop
  rt : DV → Option Nat → Prop
  bk : DEnv → Mu → Prop
  ct : DEnv → Mu → Prop
/-- how many numbers were drawn -/
def dN : Mu → Option Nat
  | .drw n :: _ => some n
  | _ => none
theorem dN_inv {m : Mu} {n : Nat} (h : dN m = some n) : ∃ ms, m = .drw n :: ms := by
  unfold dN at h
  split at h
  · cases h
    exact ⟨_, rfl⟩
  · cases h
theorem dN_set {m : Mu} {i : Nat} {o : MO} (e : m[i]? = some o) (h : isDrw o = false) : dN (m.set i .no) = dN m := by
  cases m with
  | nil => rfl
  | cons x r =>
    cases i with
    | zero =>
      cases e
      cases o <;> first | rfl | cases h
    | succ j => cases x <;> rfl
abbrev DS := DEnds → DEnv → Mu → Prop
structure ED (c : Fr0) (G : Hp) (pl : Nat → Pl) (n : Nat) (D : Ends) (E : DEnds) : Prop where
  nx : ∀ G' pl' σ' H' e' m', E.nx e' m' → Le G pl n G' pl' m'.length → SR c G' pl' σ' H' e' m' → D.nx σ' H'
  rt : ∀ dv m' G' pl' H' v, E.rt dv (dN m') → Le G pl n G' pl' m'.length → HR c G' pl' H' m' → RV G' pl' m'.length v dv → D.rt v H'
  bk : ∀ G' pl' σ' H' e' m', E.bk e' m' → Le G pl n G' pl' m'.length → SR c G' pl' σ' H' e' m' → D.bk σ' H'
  ct : ∀ G' pl' σ' H' e' m', E.ct e' m' → Le G pl n G' pl' m'.length → SR c G' pl' σ' H' e' m' → D.ct σ' H'
theorem ED.le {c : Fr0} {G G' : Hp} {pl pl' : Nat → Pl} {n n' : Nat} {D : Ends} {E : DEnds} (h : ED c G pl n D E) (l : Le G pl n G' pl' n') : ED c G' pl' n' D E :=
  ⟨fun G2 pl2 σ' H' e' m' q l2 => h.nx G2 pl2 σ' H' e' m' q (l.trans l2), fun dv m' G2 pl2 H' v q l2 => h.rt dv m' G2 pl2 H' v q (l.trans l2), fun G2 pl2 σ' H' e' m' q l2 => h.bk G2 pl2 σ' H' e' m' q (l.trans l2), fun G2 pl2 σ' H' e' m' q l2 => h.ct G2 pl2 σ' H' e' m' q (l.trans l2)⟩
def SS (t : TS) (d : DS) : Prop := ∀ c G pl σ H e m D E, (∀ b, ¬ c.L b) → SR c G pl σ H e m → d E e m → ED c G pl m.length D E → t D σ H
def dNext : DS := fun E e m => E.nx e m
theorem ss_nil : SS tNext dNext := fun c G pl σ H e m D E hL sr d K => K.nx _ _ _ _ _ _ d (.refl _ _ _) sr
def dSeq (d f : DS) : DS := fun E e m => d { E with nx := f E } e m
theorem ss_seq {t u : TS} {d f : DS} (h1 : SS t d) (h2 : SS u f) : SS (tSeq t u) (dSeq d f) := fun c G pl σ H e m D E hL sr d K =>
  h1 _ _ _ _ _ _ _ _ _ hL sr d ⟨fun G' pl' σ' H' e' m' q l sr' => h2 _ _ _ _ _ _ _ _ _ hL sr' q (K.le l), K.rt, K.bk, K.ct⟩
def dBrk : DS := fun E e m => E.bk e m
def dCnt : DS := fun E e m => E.ct e m
theorem ss_brk : SS tBreak dBrk := fun c G pl σ H e m D E hL sr d K => K.bk _ _ _ _ _ _ d (.refl _ _ _) sr
theorem ss_cnt : SS tCont dCnt := fun c G pl σ H e m D E hL sr d K => K.ct _ _ _ _ _ _ d (.refl _ _ _) sr
def dNever : DS := fun _ _ _ => False
theorem ss_never {t : TS} : SS t dNever := fun c G pl σ H e m D E hL sr d K => d.elim
def dIf (t : DT) (a b : DS) : DS := fun E e m => t e m fun x m1 => br x (a E e m1) (b E e m1)
theorem ss_if {tc : TT} {t u : TS} {dc : DT} {d f : DS} (hc : ST tc dc) (ha : SS t d) (hb : SS u f) : SS (tIfS tc t u) (dIf dc d f) := fun c G pl σ H e m D E hL sr d K =>
  hc _ _ _ _ _ _ _ _ _ sr d fun x m1 G1 pl1 H1 v1 d1 l1 sr1 r1 => by
    subst r1
    exact br_ite ⟨fun z => ha _ _ _ _ _ _ _ _ _ hL sr1 (d1.1 z) (K.le l1), fun z => hb _ _ _ _ _ _ _ _ _ hL sr1 (d1.2 z) (K.le l1)⟩
def dDrop (a : DE) : DS := fun E e m => a e m fun _ m1 => E.nx e m1
theorem ss_expr {te : TE} {de : DE} (h : SE te de) : SS (tDrop te) (dDrop de) := fun c G pl σ H e m D E hL sr d K =>
  h _ _ _ _ _ _ _ _ _ sr d fun x m1 G1 pl1 H1 v1 d1 l1 sr1 r1 => K.nx _ _ _ _ _ _ d1 l1 sr1
/-- what is handed back changes no more -/
def fz (m : Mu) : DV → DV
  | .p i => match m[i]? with
    | some (.lst ds) => .d (.list ds)
    | some (.dic kvs) => .dic kvs
    | some (.any k) => match k.fr with
      | some f => .any f
      | none => .p i
    | _ => .p i
  | x => x
theorem frozen {c : Fr0} {G H : Hp} {pl : Nat → Pl} {m : Mu} {v : V} {dv : DV} (hL : ∀ b, ¬ c.L b) (h : HR c G pl H m) (r : RV G pl m.length v dv) :
    ∃ (G' : Hp) (m' : Mu), Le G pl m.length G' pl m'.length ∧ HR c G' pl H m' ∧ RV G' pl m'.length v (fz m dv) ∧ dN m' = dN m := by
  have same : ∃ (G' : Hp) (m' : Mu), Le G pl m.length G' pl m'.length ∧ HR c G' pl H m' ∧ RV G' pl m'.length v dv ∧ dN m' = dN m := ⟨G, m, .refl _ _ _, h, r, rfl⟩
  cases dv with
  | d x => exact same
  | dic kvs => exact same
  | any f => exact same
  | p i =>
    cases q : m[i]? with
    | none => simp only [fz, q]; exact same
    | some o =>
      cases o with
      | no => simp only [fz, q]; exact same
      | drw n => simp only [fz, q]; exact same
      | lst ds =>
        obtain ⟨xs, h1, h2⟩ := h.mo _ _ q
        have hg := h.out _ _ _ q (List.mem_singleton.mpr rfl)
        have l : Le G pl m.length (upd G (pl i).a (.lst xs)) pl (m.set i .no).length := ⟨same_upd hg, fun _ _ => rfl, by simp⟩
        refine ⟨_, _, l, h.freeze q rfl rfl h1 hL, ?_, dN_set q rfl⟩
        simp only [fz, q]
        rw [r.2]
        exact .lst upd_same (h2.same l.g)
      | dic kvs =>
        obtain ⟨xs, h1, h2⟩ := h.mo _ _ q
        have hg := h.out _ _ _ q (List.mem_singleton.mpr rfl)
        have l : Le G pl m.length (upd G (pl i).a (.dK xs)) pl (m.set i .no).length := ⟨same_upd hg, fun _ _ => rfl, by simp⟩
        refine ⟨_, _, l, h.freeze q rfl rfl h1 hL, ?_, dN_set q rfl⟩
        simp only [fz, q]
        exact ⟨_, _, r.2, upd_same, h2.same l.g⟩
      | any k =>
        cases w : k.fr with
        | none => simp only [fz, q, w]; exact same
        | some f =>
          obtain ⟨one, z⟩ := k.frz f w
          have mem : (pl i).a ∈ foot (pl i) (.any k) := by show _ ∈ k.ft (pl i); rw [one]; exact List.mem_singleton.mpr rfl
          have hg := h.out _ _ _ q mem
          obtain ⟨ob, h1, h2⟩ := z (h.mo _ _ q) hg
          have l : Le G pl m.length (upd G (pl i).a ob) pl (m.set i .no).length := ⟨same_upd hg, fun _ _ => rfl, by simp⟩
          refine ⟨_, _, l, h.freeze q rfl (one _) h1 hL, ?_, dN_set q rfl⟩
          simp only [fz, q, w]
          rw [r.2]
          exact h2
def dRet (a : DE) : DS := fun E e m => a e m fun x m1 => E.rt (fz m1 x) (dN m1)
theorem ss_ret {te : TE} {de : DE} (h : SE te de) : SS (tRet te) (dRet de) := fun c G pl σ H e m D E hL sr d K =>
  h _ _ _ _ _ _ _ _ _ sr d fun x m1 G1 pl1 H1 v1 d1 l1 sr1 r1 => by
    obtain ⟨G2, m2, l2, h2, r2, e2⟩ := frozen hL sr1.hp r1
    exact K.rt _ m2 G2 pl1 H1 v1 (by rw [e2]; exact d1) (l1.trans l2) h2 r2
def dRetN : DS := fun E e m => E.rt (.d .none) (dN m)
theorem ss_retN : SS tRetN dRetN := fun c G pl σ H e m D E hL sr d K => K.rt _ _ _ _ _ _ d (.refl _ _ _) sr.hp (show RV G pl m.length .non (.d .none) from .non)
/-- from now on slot i's object changes no more -/
def dFrz (i : Nat) (d : DS) : DS := fun E e m => match lk e i with
  | some (.p j) => match m[j]? with
    | some (.lst ds) => d E (stt e i (some (.d (.list ds)))) (m.set j .no)
    | _ => False
  | _ => False
theorem lk_some_lt : ∀ {e : DEnv} {i : Nat} {v : DV}, lk e i = some v → i < e.length
  | [], _, _, h => by cases h
  | _ :: _, 0, _, _ => Nat.zero_lt_succ _
  | _ :: xs, i + 1, v, h => Nat.succ_lt_succ (lk_some_lt (e := xs) h)
theorem ER.known {G : Hp} {pl : Nat → Pl} {n : Nat} {σ : L2.St} {e : DEnv} {v : V} {dv : DV} {i : Nat} (h : ER G pl n σ e) (hs : σ[i]? = some (some v)) (r : RV G pl n v dv) : ER G pl n σ (stt e i (some dv)) :=
  ⟨by rw [stt_len, h.len], fun j dw x => by
    rw [lk_stt] at x
    by_cases e1 : i = j
    · subst e1
      rw [if_pos rfl] at x
      by_cases e2 : i < e.length
      · rw [if_pos e2] at x
        cases x
        exact ⟨v, hs, r⟩
      · rw [if_neg e2] at x
        cases x
    · rw [if_neg e1] at x
      exact h.get j dw x⟩
theorem ss_frz {t : TS} {d : DS} (i : Nat) (h : SS t d) : SS t (dFrz i d) := fun c G pl σ H e m D E hL sr d K => by
  unfold dFrz at d
  split at d
  · rename_i j q
    split at d
    · rename_i ds qm
      obtain ⟨v, hs, hv⟩ := sr.env.get i _ q
      obtain ⟨xs, h1, h2⟩ := sr.hp.mo _ _ qm
      have hg := sr.hp.out _ _ _ qm (List.mem_singleton.mpr rfl)
      have l : Le G pl m.length (upd G (pl j).a (.lst xs)) pl (m.set j .no).length := ⟨same_upd hg, fun _ _ => rfl, by simp⟩
      refine h _ _ _ _ _ _ _ _ _ hL ⟨(sr.env.le l).known hs ?_, sr.hp.freeze qm rfl rfl h1 hL⟩ d (K.le l)
      rw [hv.2]
      exact .lst upd_same (h2.same l.g)
    · exact d.elim
  · exact d.elim
/-! ### targets -/
abbrev DG := DV → DEnv → Mu → (DEnv → Mu → Prop) → Prop
abbrev DGs := List DV → DEnv → Mu → (DEnv → Mu → Prop) → Prop
def SG (g : TG) (d : DG) : Prop := ∀ c G pl σ H e m v dv k Q, SR c G pl σ H e m → RV G pl m.length v dv → d dv e m k →
  (∀ e' σ' G' pl' H' m', k e' m' → Le G pl m.length G' pl' m'.length → SR c G' pl' σ' H' e' m' → Q σ' H') → g v σ H Q
def SGs (g : TGs) (d : DGs) : Prop := ∀ c G pl σ H e m vs dvs k Q, SR c G pl σ H e m → RVs G pl m.length vs dvs → d dvs e m k →
  (∀ e' σ' G' pl' H' m', k e' m' → Le G pl m.length G' pl' m'.length → SR c G' pl' σ' H' e' m' → Q σ' H') → g vs σ H Q
def dgName (i : Nat) : DG := fun v e m k => k (stt e i (some v)) m
theorem sg_name (i : Nat) : SG (gName i) (dgName i) := fun c G pl σ H e m v dv k Q sr r d K => K _ _ _ _ _ _ d (.refl _ _ _) ⟨sr.env.set i r, sr.hp⟩
def dgNil : DGs := fun vs e m k => match vs with
  | [] => k e m
  | _ => False
def dgCons (a : DG) (b : DGs) : DGs := fun vs e m k => match vs with
  | x :: r => a x e m fun e' m' => b r e' m' k
  | [] => False
theorem sg_nil : SGs gNil dgNil := fun c G pl σ H e m vs dvs k Q sr r d K => by
  unfold dgNil at d
  split at d
  · cases r
    exact ⟨rfl, K _ _ _ _ _ _ d (.refl _ _ _) sr⟩
  · exact d.elim
theorem sg_cons {g : TG} {gs : TGs} {a : DG} {b : DGs} (ha : SG g a) (hb : SGs gs b) : SGs (gCons g gs) (dgCons a b) := fun c G pl σ H e m vs dvs k Q sr r d K => by
  unfold dgCons at d
  split at d
  · cases r with
    | cons h t =>
      exact ⟨_, _, rfl, ha _ _ _ _ _ _ _ _ _ _ _ sr h d fun e' σ' G' pl' H' m' d' l sr' => hb _ _ _ _ _ _ _ _ _ _ _ sr' (t.le l) d' fun e2 σ2 G2 pl2 H2 m2 d2 l2 => K _ _ _ _ _ _ d2 (l.trans l2)⟩
  · exact d.elim
def dgTup (n : Nat) (b : DGs) : DG := fun v e m k => ∃ ds, rdT v = some ds ∧ ds.length = n ∧ b (ds.map DV.d) e m k
theorem sg_tup (K : PySem.W.Frag) {n : Nat} {gs : TGs} {b : DGs} (hb : SGs gs b) : SG (gTup K n gs) (dgTup n b) := fun c G pl σ H e m v dv k Q sr r d KK => by
  obtain ⟨ds, h1, h2, d⟩ := d
  obtain ⟨a, xs, e1, e2, e3⟩ := sr.tup r h1
  exact ⟨a, xs, e1, .inl (.inl e2), by rw [e3.length]; exact h2, hb _ _ _ _ _ _ _ _ _ _ _ sr (.ofL e3) d KK⟩
def dgUnl (n : Nat) (b : DGs) : DG := fun v e m k => ∃ ds, rdL m v = some ds ∧ ds.length = n ∧ b (ds.map DV.d) e m k
theorem sg_unl (K : PySem.W.Frag) {n : Nat} {gs : TGs} {b : DGs} (hb : SGs gs b) : SG (gUnl K n gs) (dgUnl n b) := fun c G pl σ H e m v dv k Q sr r d KK => by
  obtain ⟨ds, h1, h2, d⟩ := d
  obtain ⟨a, xs, e1, e2, e3⟩ := sr.list r h1
  exact ⟨a, xs, e1, .inl (.inl e2), by rw [e3.length]; exact h2, hb _ _ _ _ _ _ _ _ _ _ _ sr (.ofL e3) d KK⟩
def dAsg (a : DE) (g : DG) : DS := fun E e m => a e m fun x m1 => g x e m1 E.nx
theorem ss_asg {te : TE} {g : TG} {de : DE} {dg : DG} (h : SE te de) (hg : SG g dg) : SS (tAsg te g) (dAsg de dg) := fun c G pl σ H e m D E hL sr d K =>
  h _ _ _ _ _ _ _ _ _ sr d fun x m1 G1 pl1 H1 v1 d1 l1 sr1 r1 => hg _ _ _ _ _ _ _ _ _ _ _ sr1 r1 d1 fun e' σ' G' pl' H' m' d' l => K.nx _ _ _ _ _ _ d' (l1.trans l)
/-- x = a new list that the def goes on to change -/
def dOwn (i : Nat) (a : DL) : DS := fun E e m => a e m fun ds m1 => E.nx (stt e i (some (.p m1.length))) (m1 ++ [.lst ds])
theorem ss_own {te : TE} {dl : DL} (i : Nat) (h : SL te dl) : SS (tAsg te (gName i)) (dOwn i dl) := fun c G pl σ H e m D E hL sr d K =>
  h _ _ _ _ _ _ _ _ _ sr d fun ds m1 G1 pl1 H1 p xs d1 l1 sr1 hp hx hg hf hc => by
    have l2 := Le.plus G1 pl1 m1 p (.lst ds)
    have h2 : HR c G1 (plus pl1 m1.length p) H1 (m1 ++ [.lst ds]) := sr1.hp.push (o := .lst ds) ⟨xs, hp, hx⟩ rfl hg hf hc
    exact K.nx _ _ _ _ _ _ d1 (l1.trans l2) ⟨(sr1.env.le l2).set i ⟨by simp, by rw [plus_new]⟩, h2⟩
def dAug (i : Nat) (f : Mu → DV → DV → (DV → Prop) → Prop) (a : DE) : DS := fun E e m => match lk e i with
  | some x => a e m fun y m1 => f m1 x y fun z => E.nx (stt e i (some z)) m1
  | none => False
theorem ss_aug {te : TE} {de : DE} {r : R2} {f : Mu → DV → DV → (DV → Prop) → Prop} (i : Nat) (hr : OpS r f) (h : SE te de) : SS (tAug i te r) (dAug i f de) := fun c G pl σ H e m D E hL sr d K => by
  unfold dAug at d
  split at d
  · rename_i x q
    obtain ⟨v, h1, h2⟩ := sr.env.get i x q
    refine ⟨v, h1, h _ _ _ _ _ _ _ _ _ sr d fun y m1 G1 pl1 H1 v1 d1 l1 sr1 r1 => ?_⟩
    exact hr _ _ _ _ _ _ _ _ _ _ _ (fun z m' => E.nx (stt e i (some z)) m') _ sr1 (h2.le l1) r1 d1 fun z m2 G2 pl2 H2 v2 d2 l2 sr2 r2 => K.nx _ _ _ _ _ _ d2 (l1.trans l2) ⟨sr2.env.set i r2, sr2.hp⟩
  · exact d.elim
def dPar (i j : Nat) (a : DA) : DS := fun E e m => a e m fun xs m1 => match xs with
  | [x, y] => E.nx (stt (stt e i (some x)) j (some y)) m1
  | _ => False
theorem ss_par {ta : TA} {da : DA} (i j : Nat) (h : SA ta da) : SS (tPar i j ta) (dPar i j da) := fun c G pl σ H e m D E hL sr d K =>
  h _ _ _ _ _ _ _ _ _ sr d fun xs m1 G1 pl1 H1 vs d1 l1 sr1 r1 => by
    split at d1
    · cases r1 with
      | cons ha t =>
        cases t with
        | cons hb t =>
          cases t
          exact ⟨_, _, rfl, K.nx _ _ _ _ _ _ d1 l1 ⟨(sr1.env.set i ha).set j hb, sr1.hp⟩⟩
    · exact d1.elim
def dPar3 (i j l : Nat) (a : DA) : DS := fun E e m => a e m fun xs m1 => match xs with
  | [x, y, z] => E.nx (stt (stt (stt e i (some x)) j (some y)) l (some z)) m1
  | _ => False
theorem ss_par3 {ta : TA} {da : DA} (i j l : Nat) (h : SA ta da) : SS (tPar3 i j l ta) (dPar3 i j l da) := fun c G pl σ H e m D E hL sr d K =>
  h _ _ _ _ _ _ _ _ _ sr d fun xs m1 G1 pl1 H1 vs d1 l1 sr1 r1 => by
    split at d1
    · cases r1 with
      | cons ha t =>
        cases t with
        | cons hb t =>
          cases t with
          | cons hc t =>
            cases t
            exact ⟨_, _, _, rfl, K.nx _ _ _ _ _ _ d1 l1 ⟨((sr1.env.set i ha).set j hb).set l hc, sr1.hp⟩⟩
    · exact d1.elim
/-! ### xs.append(x), xs += ys -/
def dApp (i : Nat) (a : DE) : DS := fun E e m => match lk e i with
  | some (.p j) => (∃ ds, m[j]? = some (.lst ds)) ∧ a e m fun x m1 => match x with
    | .d y => ∃ ds, m1[j]? = some (.lst ds) ∧ ds.length < 1000000 ∧ E.nx e (m1.set j (.lst (ds ++ [y])))
    | _ => False
  | _ => False
theorem ss_app (K : PySem.W.Frag) {te : TE} {de : DE} (i : Nat) (h : SE te de) : SS (tDrop (tBM K "list" rAppend (tVar i) (tCons te tNil))) (dApp i de) := fun c G pl σ H e m D E hL sr d KK => by
  unfold dApp at d
  split at d
  · rename_i j q
    obtain ⟨v, h1, h2⟩ := sr.env.get i _ q
    obtain ⟨hj, rfl⟩ := h2
    obtain ⟨⟨ds0, q0⟩, d⟩ := d
    refine ⟨_, h1, ?_, ?_⟩
    · obtain ⟨xs, hx, _⟩ := sr.hp.mo _ _ q0
      exact .inl ⟨rfl, xs, .inl (.inl hx)⟩
    · refine h _ _ _ _ _ _ _ _ _ sr d fun x m1 G1 pl1 H1 v1 d1 l1 sr1 r1 => ?_
      split at d1
      · obtain ⟨ds, q1, hz, d1⟩ := d1
        obtain ⟨xs, hx, hd⟩ := sr1.hp.mo _ _ q1
        rw [l1.p j hj] at hx
        have hy : Da G1 v1 _ := r1
        refine ⟨_, xs, v1, rfl, rfl, hx, ?_, ?_⟩
        · rw [hd.length]
          exact Nat.lt_of_lt_of_le hz (bigS (Nat.le_refl _))
        · have hp := sr1.hp.put (o' := .lst (ds ++ [_])) (ob := .lst (xs ++ [v1])) q1 rfl rfl rfl rfl ⟨xs ++ [v1], upd_same, DaL.append hd (.cons hy .nil)⟩
          rw [l1.p j hj] at hp
          have l2 : ∀ o, Le G1 pl1 m1.length G1 pl1 (m1.set j o).length := fun o => ⟨.refl _, fun _ _ => rfl, by simp⟩
          exact KK.nx _ _ _ _ _ _ d1 (l1.trans (l2 _)) ⟨sr1.env.le (l2 _), hp⟩
      · exact d1.elim
  · exact d.elim
end PM

namespace PM
open PySem PySem.Spec PyProof.Rows L2 RZ
/-! ### what is walked -/
def YD (G H : Hp) (x : V) (H' : Hp) (d : PyData) : Prop := (H' = H ∧ Da G x d) ∨ ∃ T us ds, x = .ref T ∧ H T = none ∧ H' = upd H T (.tup us) ∧ DaL G us ds ∧ d = .tuple ds
structure WK (J : It) (G : Hp) (xs : List PyData) : Prop where
  goes : ∀ i H, i < xs.length → Same G H → J.go i H
  stops : ∀ H, Same G H → J.stop xs.length H
  yields : ∀ i H x H', i < xs.length → Same G H → J.yld i H x H' → ∃ d, xs[i]? = some d ∧ YD G H x H' d
abbrev DI := DEnv → Mu → (List PyData → Mu → Prop) → Prop
def SI (wi : TI) (d : DI) : Prop := ∀ c G pl σ H e m k R, SR c G pl σ H e m → d e m k →
  (∀ xs m' G' pl' H' J, k xs m' → Le G pl m.length G' pl' m'.length → SR c G' pl' σ H' e m' → WK J G' xs → R J H') → wi σ H R
theorem WK.walk {J : It} {G : Hp} {xs : List PyData} (w : WK J G xs) : Walk J xs.length (fun H => Same G H) (fun i H x H' => ∃ d, xs[i]? = some d ∧ YD G H x H' d) :=
  ⟨w.goes, w.stops, w.yields⟩
theorem YD.sr {c : Fr0} {G0 G H H' : Hp} {pl : Nat → Pl} {σ : L2.St} {e : DEnv} {m : Mu} {x : V} {d : PyData} (g : Same G0 G) (sr : SR c G pl σ H e m) (y : YD G0 H x H' d) : ∃ G', Le G pl m.length G' pl m.length ∧ SR c G' pl σ H' e m ∧ RV G' pl m.length x (.d d) := by
  rcases y with ⟨rfl, h⟩ | ⟨T, us, ds, rfl, hT, rfl, h, rfl⟩
  · exact ⟨G, .refl _ _ _, sr, h.same g⟩
  · have l : Le G pl m.length (upd G T (.tup us)) pl m.length := ⟨same_upd (sr.hp.fresh hT).1, fun _ _ => rfl, Nat.le_refl _⟩
    exact ⟨_, l, sr.le l (sr.hp.new hT), .tup upd_same (h.same (g.trans l.g))⟩
/-! ### for -/
def dFor (di : DI) (g : DG) (b : DS) : DS := fun E e m => di e m fun xs m1 => ∃ I : List PyData → DEnv → Mu → Prop, I xs e m1 ∧
  (∀ x r e m, I (x :: r) e m → g (.d x) e m fun e' m' => b { nx := I r, rt := E.rt, bk := E.nx, ct := I r } e' m') ∧ ∀ e m, I [] e m → E.nx e m
theorem ss_for {wi : TI} {g : TG} {tb : TS} {di : DI} {dg : DG} {db : DS} (hi : SI wi di) (hg : SG g dg) (hb : SS tb db) : SS (tFor wi g tb) (dFor di dg db) := fun c G pl σ H e m D E hL sr d K => by
  refine hi _ _ _ _ _ _ _ _ _ sr d fun xs m1 G1 pl1 H1 J d1 l1 sr1 wk => ?_
  obtain ⟨I, i0, step, done⟩ := d1
  refine for_it wk.walk (fun i σ' H' => ∃ G' pl' e' m', Le G1 pl1 m1.length G' pl' m'.length ∧ SR c G' pl' σ' H' e' m' ∧ I (xs.drop i) e' m') ⟨G1, pl1, e, m1, .refl _ _ _, sr1, i0⟩ (fun i σ' H' _ p => ?_) (fun i x σ' H' H'' hi p y => ?_) (fun σ' H' p => ?_)
  · obtain ⟨G', pl', e', m', l, s', _⟩ := p
    exact l.g.trans s'.hp.sub
  · obtain ⟨G', pl', e', m', l, s', iv⟩ := p
    obtain ⟨dx, hx, y⟩ := y
    obtain ⟨G2, l2, s2, r2⟩ := y.sr l.g s'
    have ex : xs.drop i = dx :: xs.drop (i + 1) := by
      rw [List.drop_eq_getElem_cons hi]
      rw [List.getElem?_eq_getElem hi] at hx
      rw [Option.some.inj hx]
    rw [ex] at iv
    refine hg _ _ _ _ _ _ _ _ _ _ _ s2 r2 (step dx _ e' m' iv) fun e3 σ3 G3 pl3 H3 m3 d3 l3 s3 => ?_
    have lw := (l.trans l2).trans l3
    refine hb _ _ _ _ _ _ _ _ _ hL s3 d3 ⟨fun G4 pl4 σ4 H4 e4 m4 q4 l4 s4 => ⟨G4, pl4, e4, m4, lw.trans l4, s4, q4⟩, ?_, ?_, fun G4 pl4 σ4 H4 e4 m4 q4 l4 s4 => ⟨G4, pl4, e4, m4, lw.trans l4, s4, q4⟩⟩
    · exact (K.le (l1.trans lw)).rt
    · exact (K.le (l1.trans lw)).nx
  · obtain ⟨G', pl', e', m', l, s', iv⟩ := p
    rw [List.drop_length] at iv
    exact K.nx _ _ _ _ _ _ (done _ _ iv) (l1.trans l) s'
def dWhile (t : DT) (b : DS) : DS := fun E e m => ∃ W : Nat → DEnv → Mu → Prop, (∃ n, W n e m) ∧ ∀ n e m, W n e m →
  t e m fun x m1 => br x (b { nx := fun e m => ∃ n', n' < n ∧ W n' e m, rt := E.rt, bk := E.nx, ct := fun e m => ∃ n', n' < n ∧ W n' e m } e m1) (E.nx e m1)
theorem ss_while {tt : TT} {tb : TS} {dt : DT} {db : DS} (ht : ST tt dt) (hb : SS tb db) : SS (tWhile tt tb) (dWhile dt db) := fun c G pl σ H e m D E hL sr d K => by
  obtain ⟨W, ⟨n0, w0⟩, turn⟩ := d
  refine ⟨fun n σ' H' => ∃ G' pl' e' m', Le G pl m.length G' pl' m'.length ∧ SR c G' pl' σ' H' e' m' ∧ W n e' m', ⟨n0, G, pl, e, m, .refl _ _ _, sr, w0⟩, ?_⟩
  rintro n σ' H' ⟨G', pl', e', m', l, s', w⟩
  refine ht _ _ _ _ _ _ _ _ _ s' (turn n e' m' w) fun x m1 G1 pl1 H1 v1 d1 l1 sr1 r1 => ?_
  subst r1
  refine br_ite ⟨fun z => ⟨fun σ2 H2 => ∃ G' pl' e' m', Le G pl m.length G' pl' m'.length ∧ SR c G' pl' σ2 H2 e' m' ∧ ∃ n', n' < n ∧ W n' e' m', ?_, ?_⟩, fun z => K.nx _ _ _ _ _ _ (d1.2 z) (l.trans l1) sr1⟩
  · rintro σ2 H2 ⟨G2, pl2, e2, m2, l2, s2, n', hn, w'⟩
    exact ⟨n', hn, G2, pl2, e2, m2, l2, s2, w'⟩
  · have lw := l.trans l1
    refine hb _ _ _ _ _ _ _ _ _ hL sr1 (d1.1 z) ⟨fun G4 pl4 σ4 H4 e4 m4 q4 l4 s4 => ⟨G4, pl4, e4, m4, lw.trans l4, s4, q4⟩, ?_, ?_, fun G4 pl4 σ4 H4 e4 m4 q4 l4 s4 => ⟨G4, pl4, e4, m4, lw.trans l4, s4, q4⟩⟩
    · exact (K.le lw).rt
    · exact (K.le lw).nx
/-! ### what a block makes and changes is forgotten behind it -/
def kil1 (n : Nat) : Option DV → Option DV
  | some (.p i) => if i < n then some (.p i) else none
  | x => x
def kil (n : Nat) : DEnv → DEnv
  | [] => []
  | x :: xs => kil1 n x :: kil n xs
theorem kil_len (n : Nat) : ∀ e : DEnv, (kil n e).length = e.length
  | [] => rfl
  | _ :: xs => by simp only [kil, List.length_cons, kil_len n xs]
theorem kil_lk (n : Nat) : ∀ (e : DEnv) (i : Nat), lk (kil n e) i = kil1 n (lk e i)
  | [], _ => rfl
  | _ :: _, 0 => rfl
  | _ :: xs, i + 1 => kil_lk n xs i
theorem HR.take {c : Fr0} {G H : Hp} {pl : Nat → Pl} {m : Mu} (h : HR c G pl H m) (n : Nat) : HR c G pl H (m.take n) := by
  have old : ∀ i o, (m.take n)[i]? = some o → m[i]? = some o := fun i o e => by
    rw [List.getElem?_take] at e
    split at e
    · exact e
    · cases e
  exact ⟨h.sub, fun i o e => h.mo i o (old i o e), fun i o b e => h.out i o b (old i o e), fun i o b e => h.own i o b (old i o e), fun i j o o' b ne e1 e2 => h.dj i j o o' b ne (old i o e1) (old j o' e2), h.g0, h.h0, h.up, h.nw⟩
def dScope (d : DS) : DS := fun E e m => d { nx := fun e' m' => E.nx (kil m.length e') (m'.take m.length), rt := E.rt, bk := fun e' m' => E.bk (kil m.length e') (m'.take m.length), ct := fun e' m' => E.ct (kil m.length e') (m'.take m.length) } e m
theorem ss_scope {t : TS} {d : DS} (h : SS t d) : SS t (dScope d) := fun c G pl σ H e m D E hL sr d K => by
  have cut : ∀ {G' pl' σ' H' e' m'}, Le G pl m.length G' pl' m'.length → SR c G' pl' σ' H' e' m' → Le G pl m.length G' pl' (m'.take m.length).length ∧ SR c G' pl' σ' H' (kil m.length e') (m'.take m.length) := fun {G' pl' σ' H' e' m'} l s => by
    have len : (m'.take m.length).length = m.length := by rw [List.length_take]; exact Nat.min_eq_left l.n
    refine ⟨⟨l.g, l.p, by rw [len]; exact Nat.le_refl _⟩, ⟨by rw [kil_len]; exact s.env.len, fun i dv x => ?_⟩, s.hp.take _⟩
    rw [kil_lk] at x
    cases q : lk e' i with
    | none => rw [q] at x; cases x
    | some dw =>
      obtain ⟨v, h1, h2⟩ := s.env.get i dw q
      rw [q] at x
      refine ⟨v, h1, ?_⟩
      cases dw with
      | d y => cases x; exact h2
      | dic y => cases x; exact h2
      | any y => cases x; exact h2
      | p k =>
        simp only [kil1] at x
        split at x
        · cases x
          rename_i hk
          exact ⟨by rw [len]; exact hk, h2.2⟩
        · cases x
  refine h _ _ _ _ _ _ _ _ _ hL sr d ⟨fun G' pl' σ' H' e' m' q l s => ?_, K.rt, fun G' pl' σ' H' e' m' q l s => ?_, fun G' pl' σ' H' e' m' q l s => ?_⟩
  · exact K.nx _ _ _ _ _ _ q (cut l s).1 (cut l s).2
  · exact K.bk _ _ _ _ _ _ q (cut l s).1 (cut l s).2
  · exact K.ct _ _ _ _ _ _ q (cut l s).1 (cut l s).2
/-! ### comprehensions -/
/-- a target that stores only to the slots vs -/
def GW (g : TG) (vs : List Nat) : Prop := ∀ x σ H Q, g x σ H Q → g x σ H fun σ2 H2 => wipe σ2 vs = wipe σ vs ∧ Q σ2 H2
def GWs (g : TGs) (vs : List Nat) : Prop := ∀ x σ H Q, g x σ H Q → g x σ H fun σ2 H2 => wipe σ2 vs = wipe σ vs ∧ Q σ2 H2
theorem wipe_get (σ : L2.St) (i : Nat) : ∀ vs : List Nat, (wipe σ vs)[i]? = if i ∈ vs then (if i < σ.length then some none else none) else σ[i]?
  | [] => by simp [wipe]
  | v :: vs => by
    have ih := wipe_get σ i vs
    have hl := wipe_length σ vs
    unfold wipe
    by_cases e : v = i
    · subst e
      rw [if_pos List.mem_cons_self]
      by_cases hv : v < σ.length
      · rw [List.getElem?_set_self (by rw [hl]; exact hv), if_pos hv]
      · rw [List.getElem?_eq_none (by rw [List.length_set, hl]; omega), if_neg hv]
    · rw [List.getElem?_set_ne e, ih]
      by_cases h : i ∈ vs
      · rw [if_pos h, if_pos (List.mem_cons_of_mem _ h)]
      · rw [if_neg h, if_neg]
        simp only [List.mem_cons, not_or]
        exact ⟨Ne.symm e, h⟩
theorem wipe_set {σ : L2.St} {i : Nat} {vs : List Nat} (h : i ∈ vs) (x : Option V) : wipe (σ.set i x) vs = wipe σ vs := by
  apply List.ext_getElem?
  intro j
  rw [wipe_get, wipe_get, List.length_set]
  by_cases hj : j ∈ vs
  · rw [if_pos hj, if_pos hj]
  · rw [if_neg hj, if_neg hj, List.getElem?_set_ne (fun z : i = j => hj (z ▸ h))]
theorem wipe_wipe (σ : L2.St) (vs : List Nat) : wipe (wipe σ vs) vs = wipe σ vs := by
  apply List.ext_getElem?
  intro j
  rw [wipe_get, wipe_length]
  by_cases hj : j ∈ vs
  · rw [if_pos hj, wipe_get, if_pos hj]
  · rw [if_neg hj]
theorem gw_name {i : Nat} {vs : List Nat} (h : i ∈ vs) : GW (gName i) vs := fun x σ H Q q => ⟨wipe_set h _, q⟩
theorem gw_at {g : TG} {vs : List Nat} (h : GW g vs) {x : V} {σ : L2.St} {H : Hp} {Q : L2.St → Hp → Prop} (q : g x (wipe σ vs) H Q) : g x (wipe σ vs) H fun σ2 H2 => wipe σ2 vs = wipe σ vs ∧ Q σ2 H2 := by
  have := h _ _ _ _ q
  rw [wipe_wipe] at this
  exact this
theorem gw_nil {vs : List Nat} : GWs gNil vs := fun x σ H Q q => ⟨q.1, rfl, q.2⟩
theorem GW.mono' {g : TG} {vs : List Nat} (h : GW g vs) : GW g vs := h
/-- targets go on alike whatever follows -/
def GM (g : TG) : Prop := ∀ x σ H Q Q', (∀ σ' H', Q σ' H' → Q' σ' H') → g x σ H Q → g x σ H Q'
def GMs (g : TGs) : Prop := ∀ x σ H Q Q', (∀ σ' H', Q σ' H' → Q' σ' H') → g x σ H Q → g x σ H Q'
theorem gm_name (i : Nat) : GM (gName i) := fun x σ H Q Q' f q => f _ _ q
theorem gm_nil : GMs gNil := fun x σ H Q Q' f q => ⟨q.1, f _ _ q.2⟩
theorem gm_cons {g : TG} {gs : TGs} (h : GM g) (t : GMs gs) : GMs (gCons g gs) := fun x σ H Q Q' f q => by
  obtain ⟨v, r, e, q⟩ := q
  exact ⟨v, r, e, h _ _ _ _ _ (fun σ' H' z => t _ _ _ _ _ f z) q⟩
theorem gm_tup {K : PySem.W.Frag} {n : Nat} {gs : TGs} (t : GMs gs) : GM (gTup K n gs) := fun x σ H Q Q' f q => by
  obtain ⟨a, xs, e1, e2, e3, q⟩ := q
  exact ⟨a, xs, e1, e2, e3, t _ _ _ _ _ f q⟩
theorem gw_cons {g : TG} {gs : TGs} {vs : List Nat} (h : GW g vs) (m : GM g) (m2 : GMs gs) (t : GWs gs vs) : GWs (gCons g gs) vs := fun x σ H Q q => by
  obtain ⟨v, r, e, q⟩ := q
  refine ⟨v, r, e, m _ _ _ _ _ (fun σ' H' z => ?_) (h _ _ _ _ q)⟩
  obtain ⟨z1, z2⟩ := z
  exact m2 _ _ _ _ _ (fun σ2 H2 y => ⟨y.1.trans z1, y.2⟩) (t _ _ _ _ z2)
theorem gw_tup {K : PySem.W.Frag} {n : Nat} {gs : TGs} {vs : List Nat} (t : GWs gs vs) : GW (gTup K n gs) vs := fun x σ H Q q => by
  obtain ⟨a, xs, e1, e2, e3, q⟩ := q
  exact ⟨a, xs, e1, e2, e3, t _ _ _ _ q⟩
/-- plain data -/
def plD (C : PyData → Mu → Prop) (y : DV) (m : Mu) : Prop := match y with
  | .d z => C z m
  | _ => False
def dLc (di : DI) (g : DG) (t : DT) (a : DE) (vs : List Nat) : DL := fun e m k => di e m fun xs m1 => xs.length ≤ 1000000 ∧ ∃ I : List PyData → List PyData → Mu → Prop, I xs [] m1 ∧
  (∀ x r acc m, I (x :: r) acc m → g (.d x) (wp e vs) m fun e' m' => t e' m' fun b m2 => br b (a e' m2 (plD fun z m3 => I r (acc ++ [z]) m3)) (I r acc m2)) ∧ ∀ acc m, I [] acc m → k acc m
theorem sl_lc {wi : TI} {g : TG} {tt : TT} {te : TE} {vs : List Nat} {di : DI} {dg : DG} {dt : DT} {de : DE} (hi : SI wi di) (hg : SG g dg) (hw : GW g vs) (ht : ST tt dt) (he : SE te de) : SL (tLc wi g tt te vs) (dLc di dg dt de vs) := fun c G pl σ H e m k Q sr d K => by
  refine hi _ _ _ _ _ _ _ _ _ sr d fun xs m1 G1 pl1 H1 J d1 l1 sr1 wk => ?_
  obtain ⟨big, I, i0, step, done⟩ := d1
  intro L hL
  obtain ⟨f1, f2, f3⟩ := sr1.hp.fresh hL
  refine lc_it wk.walk (fun i H' => ∃ G' pl' m' vals acc, Le G1 pl1 m1.length G' pl' m'.length ∧ SR c G' pl' (wipe σ vs) H' (wp e vs) m' ∧ SR c G' pl' σ H' e m' ∧ H' L = some (.lst vals) ∧ DaL G' vals acc ∧ G' L = none ∧ (∀ j o, m'[j]? = some o → L ∉ foot (pl' j) o) ∧ acc.length ≤ i ∧ I (xs.drop i) acc m') ?_ (fun i H' _ p => ?_) (fun i x H' H'' hi p y => ?_) (fun H' p => ?_)
  · have h1 : HR c G1 pl1 (upd H1 L (.lst [])) m1 := sr1.hp.grow fun b x _ e => by rw [upd_ne (ne_of_none e hL)]; exact e
    exact ⟨G1, pl1, m1, [], [], .refl _ _ _, ⟨sr1.env.wipe vs, h1⟩, ⟨sr1.env, h1⟩, upd_same, .nil, f1, f3, Nat.le_refl _, i0⟩
  · obtain ⟨G', pl', m', vals, acc, l, _, s', _⟩ := p
    exact l.g.trans s'.hp.sub
  · obtain ⟨G', pl', m', vals, acc, l, sw, s', hl, ha, hg0, hf0, hn, iv⟩ := p
    obtain ⟨dx, hx, y⟩ := y
    have ex : xs.drop i = dx :: xs.drop (i + 1) := by
      rw [List.drop_eq_getElem_cons hi]
      rw [List.getElem?_eq_getElem hi] at hx
      rw [Option.some.inj hx]
    rw [ex] at iv
    -- from here on
    have here : SR ⟨G', H', fF pl' m', fL pl' m'⟩ G' pl' (wipe σ vs) H' (wp e vs) m' := ⟨sw.env, sw.hp.here⟩
    have nfF : ¬ fF pl' m' L := fun z => by
      obtain ⟨j, o, e1, _, e2⟩ := z
      exact hf0 j o e1 e2
    have nfL : ¬ fL pl' m' L := fun z => by
      obtain ⟨j, o, e1, _, e2⟩ := z
      exact hf0 j o e1 e2
    -- what holds of the new list wherever one comes to
    have safe : ∀ {G3 pl3 H3 m3}, HR ⟨G', H', fF pl' m', fL pl' m'⟩ G3 pl3 H3 m3 → H3 L = some (.lst vals) ∧ G3 L = none ∧ ∀ j o, m3[j]? = some o → L ∉ foot (pl3 j) o := fun {G3 pl3 H3 m3} h => by
      refine ⟨h.h0 L _ nfF nfL hl, ?_, fun j o e1 e2 => ?_⟩
      · cases q : G3 L with
        | none => rfl
        | some o =>
          rcases h.nw L (by rw [q]; exact fun z => nomatch z) with z | z
          · exact absurd hg0 z
          · rw [show H' L = none from z] at hl; cases hl
      · rcases h.own j o L e1 e2 with z | z
        · cases qd : isDrw o with
          | true => rw [qd, if_pos rfl] at z; exact nfF z
          | false => rw [qd, if_neg Bool.false_ne_true] at z; exact nfL z
        · rw [show H' L = none from z] at hl; cases hl
    obtain ⟨G2, l2, s2, r2⟩ := y.sr l.g here
    refine gw_at hw (hg _ _ _ _ _ _ _ _ _ _ _ s2 r2 (step dx _ acc m' iv) fun e3 σ3 G3 pl3 H3 m3 d3 l3 s3 => ?_)
    · refine ht _ _ _ _ _ _ _ _ _ s3 d3 fun b m4 G4 pl4 H4 v4 d4 l4 s4 r4 => ?_
      subst r4
      have lw := (l2.trans l3).trans l4
      refine br_ite ⟨fun z => he _ _ _ _ _ _ _ _ _ s4 (d4.1 z) fun yv m5 G5 pl5 H5 v5 d5 l5 s5 r5 => ?_, fun z => ?_⟩
      · unfold plD at d5
        split at d5
        · rename_i z5
          obtain ⟨h5, g5, n5⟩ := safe s5.hp
          have lt := lw.trans l5
          have hb : HR c G5 pl5 H5 m5 := s'.hp.back s5.hp
          have ho : HR c G5 pl5 (upd H5 L (.lst (vals ++ [v5]))) m5 := hb.grow fun b x hk ex => by
            rw [upd_ne]
            · exact ex
            · intro zb
              subst zb
              rcases hk with hk | hk | hk
              · exact hk g5
              · obtain ⟨j, o, e1, e2⟩ := hk
                exact n5 j o e1 e2
              · exact hk f2
          refine ⟨vals, h5, ?_, G5, pl5, m5, vals ++ [v5], acc ++ [z5], l.trans lt, ⟨(sw.env.le lt), ho⟩, ⟨s'.env.le lt, ho⟩, upd_same, DaL.append (ha.same lt.g) (.cons r5 .nil), g5, n5, ?_, d5⟩
          · rw [ha.length]
            exact Nat.lt_of_le_of_lt hn (Nat.lt_of_lt_of_le hi (bigS big))
          · simp only [List.length_append, List.length_cons, List.length_nil]; omega
        · exact d5.elim
      · obtain ⟨h5, g5, n5⟩ := safe s4.hp
        have hb : HR c G4 pl4 H4 m4 := s'.hp.back s4.hp
        exact ⟨G4, pl4, m4, vals, acc, l.trans lw, ⟨sw.env.le lw, hb⟩, ⟨s'.env.le lw, hb⟩, h5, ha.same lw.g, g5, n5, by omega, d4.2 z⟩
  · obtain ⟨G', pl', m', vals, acc, l, sw, s', hl, ha, hg0, hf0, hn, iv⟩ := p
    rw [List.drop_length] at iv
    exact K acc m' G' pl' H' L vals (done _ _ iv) (l1.trans l) s' hl ha hg0 hf0 f2
/-! ### loops over a list's image -/
theorem map_inv {α : Type} {f : α → PyData} {x : PyData} {r : List PyData} : ∀ {l : List α}, x :: r = l.map f → ∃ a l', l = a :: l' ∧ x = f a ∧ r = l'.map f
  | [], h => by cases h
  | a :: l, h => by
    rw [List.map_cons] at h
    injection h with h1 h2
    exact ⟨a, l, rfl, h1, h2⟩
theorem forL {α : Type} (f : α → PyData) {g : DG} {b : DS} {E : DEnds} {e : DEnv} {m : Mu} (xs : List α) (J : List α → DEnv → Mu → Prop) (h0 : J [] e m)
    (hs : ∀ done x r e m, xs = done ++ x :: r → J done e m → ∀ C : DEnv → Mu → Prop, (∀ e m, J (done ++ [x]) e m → C e m) → g (.d (f x)) e m fun e' m' => b { nx := C, rt := E.rt, bk := E.nx, ct := C } e' m') (hd : ∀ e m, J xs e m → E.nx e m) :
    ∃ I : List PyData → DEnv → Mu → Prop, I (xs.map f) e m ∧ (∀ x r e m, I (x :: r) e m → g (.d x) e m fun e' m' => b { nx := I r, rt := E.rt, bk := E.nx, ct := I r } e' m') ∧ ∀ e m, I [] e m → E.nx e m := by
  refine ⟨fun rest e m => ∃ done r, rest = r.map f ∧ xs = done ++ r ∧ J done e m, ⟨[], xs, rfl, rfl, h0⟩, ?_, ?_⟩
  · rintro x r e m ⟨done, l, h1, h2, hj⟩
    obtain ⟨a, l', rfl, rfl, rfl⟩ := map_inv h1
    exact hs done a l' e m h2 hj _ fun e' m' j => ⟨done ++ [a], l', rfl, by rw [h2, List.append_assoc]; rfl, j⟩
  · rintro e m ⟨done, l, h1, h2, hj⟩
    cases l with
    | nil =>
      rw [List.append_nil] at h2
      subst h2
      exact hd e m hj
    | cons a l => cases h1
/-- a comprehension that draws nothing -/
theorem lcFM {α : Type} (f g : α → PyData) (p : α → Bool) {dg : DG} {dt : DT} {de : DE} {vs : List Nat} {e : DEnv} {m : Mu} {k : List PyData → Mu → Prop} (xs : List α) (hz : xs.length ≤ 1000000)
    (h : ∀ x ∈ xs, ∀ (C : PyData → Mu → Prop) (C0 : Mu → Prop), (p x = true → C (g x) m) → (p x = false → C0 m) → dg (.d (f x)) (wp e vs) m fun e' m' => dt e' m' fun b m2 => br b (de e' m2 (plD C)) (C0 m2)) (hk : k ((xs.filter p).map g) m) :
    (xs.map f).length ≤ 1000000 ∧ ∃ I : List PyData → List PyData → Mu → Prop, I (xs.map f) [] m ∧
      (∀ x r acc m, I (x :: r) acc m → dg (.d x) (wp e vs) m fun e' m' => dt e' m' fun b m2 => br b (de e' m2 (plD fun z m3 => I r (acc ++ [z]) m3)) (I r acc m2)) ∧ ∀ acc m, I [] acc m → k acc m := by
  refine ⟨by rw [List.length_map]; exact hz, fun rest acc m' => m' = m ∧ ∃ done r, rest = r.map f ∧ xs = done ++ r ∧ acc = (done.filter p).map g, ⟨rfl, [], xs, rfl, rfl, rfl⟩, ?_, ?_⟩
  · rintro x r acc m' ⟨rfl, done, l, h1, h2, rfl⟩
    obtain ⟨a, l', rfl, rfl, rfl⟩ := map_inv h1
    refine h a (by rw [h2]; simp) _ _ (fun z => ⟨rfl, done ++ [a], l', rfl, by rw [h2, List.append_assoc]; rfl, ?_⟩) (fun z => ⟨rfl, done ++ [a], l', rfl, by rw [h2, List.append_assoc]; rfl, ?_⟩)
    · rw [List.filter_append, List.filter_cons, if_pos z, List.filter_nil, List.map_append]
      rfl
    · rw [List.filter_append, List.filter_cons, if_neg (by rw [z]; exact Bool.false_ne_true), List.filter_nil, List.append_nil]
  · rintro acc m' ⟨rfl, done, l, h1, h2, rfl⟩
    cases l with
    | nil =>
      rw [List.append_nil] at h2
      subst h2
      exact hk
    | cons a l => cases h1
theorem lcM {α : Type} (f g : α → PyData) {dg : DG} {dt : DT} {de : DE} {vs : List Nat} {e : DEnv} {m : Mu} {k : List PyData → Mu → Prop} (xs : List α) (hz : xs.length ≤ 1000000)
    (h : ∀ x ∈ xs, ∀ (C : PyData → Mu → Prop) (C0 : Mu → Prop), C (g x) m → dg (.d (f x)) (wp e vs) m fun e' m' => dt e' m' fun b m2 => br b (de e' m2 (plD C)) (C0 m2)) (hk : k (xs.map g) m) :
    (xs.map f).length ≤ 1000000 ∧ ∃ I : List PyData → List PyData → Mu → Prop, I (xs.map f) [] m ∧
      (∀ x r acc m, I (x :: r) acc m → dg (.d x) (wp e vs) m fun e' m' => dt e' m' fun b m2 => br b (de e' m2 (plD fun z m3 => I r (acc ++ [z]) m3)) (I r acc m2)) ∧ ∀ acc m, I [] acc m → k acc m :=
  lcFM f g (fun _ => true) xs hz (fun x hx C C0 h1 _ => h x hx C C0 (h1 rfl)) (by rw [List.filter_eq_self.mpr (fun _ _ => rfl)]; exact hk)
end PM

namespace PM
open PySem PySem.Spec PyProof.Rows L2 RZ
/-! ### a list or a tuple, walked -/
def iSeq (K : PySem.W.Frag) (tl : TE) : TI := fun σ H R => tl σ H fun x H1 => ∃ a, x = .ref a ∧ (((∃ xs, SqL K H1 a xs) ∧ R (Itl K a) H1) ∨ ((∃ xs, SqT K H1 a xs) ∧ R (Itt K a) H1))
theorem pi_seq {X : Cx} {tg l : Expr} {tl : TE} (hl : PE X l tl) : PI X tg l (iSeq X.K tl) :=
  ⟨fun pins s σ H R I h => thn (hl.run pins s σ H _ I h) fun v s1 hv => by
    obtain ⟨x, H1, I1, r1, a, rfl, q⟩ := hv
    cases r1
    have new : FpOk X pins H1 s1.heap.objs.size := I1.fpOk (Nat.le_refl _) (I1.hok.fresh (Nat.le_refl _))
    have one : ∀ b ∈ [s1.heap.objs.size], FpOk X pins H1 b := fun b hb => by rw [List.mem_singleton.mp hb]; exact new
    rcases q with ⟨⟨xs, hq⟩, q⟩ | ⟨⟨xs, hq⟩, q⟩
    · obtain ⟨its, rv, il, _⟩ := I1.list hq
      exact wpAny_pyIter_list il.isList ⟨_, [s1.heap.objs.size], _, _, H1, rfl, I1.kept (t' := s1.toks) (fun b o e => Heap.get?_push_of_some _ e), turn_list a _, ⟨_, Heap.get?_push_size _ rfl, rfl, rfl⟩, one, q⟩
    · obtain ⟨its, rv, it, _⟩ := I1.tuple hq
      exact wpAny_pyIter_tuple (items := its.toArray) it ⟨_, [s1.heap.objs.size], _, _, H1, rfl, I1.kept (t' := s1.toks) (fun b o e => Heap.get?_push_of_some _ e), turn_tuple a _, ⟨_, Heap.get?_push_size _ rfl, rfl, rfl⟩, one, q⟩⟩
def diSeq (a : DE) : DI := fun e m k => a e m fun x m1 => match x with
  | .d (.list ds) => k ds m1
  | .d (.tuple ds) => k ds m1
  | _ => False
theorem wk_list {K : PySem.W.Frag} {G : Hp} {a : Addr} {xs : List V} {ds : List PyData} (h : G a = some (.lst xs)) (r : DaL G xs ds) : WK (Itl K a) G ds := by
  have at_ : ∀ {H}, Same G H → SqL K H a xs := fun s => .inl (.inl (s _ _ h))
  refine ⟨fun i H hi s => ⟨xs, xs[i]'(by rw [r.length]; exact hi), at_ s, List.getElem?_eq_getElem _⟩, fun H s => ⟨xs, at_ s, Nat.le_of_eq r.length⟩, fun i H x H' hi s y => ?_⟩
  obtain ⟨d, h1, h2⟩ := r.get i (y.2 xs (at_ s))
  exact ⟨d, h1, .inl ⟨y.1, h2⟩⟩
theorem wk_tup {K : PySem.W.Frag} {G : Hp} {a : Addr} {xs : List V} {ds : List PyData} (h : G a = some (.tup xs)) (r : DaL G xs ds) : WK (Itt K a) G ds := by
  have at_ : ∀ {H}, Same G H → SqT K H a xs := fun s => .inl (.inl (s _ _ h))
  refine ⟨fun i H hi s => ⟨xs, xs[i]'(by rw [r.length]; exact hi), at_ s, List.getElem?_eq_getElem _⟩, fun H s => ⟨xs, at_ s, Nat.le_of_eq r.length⟩, fun i H x H' hi s y => ?_⟩
  obtain ⟨d, h1, h2⟩ := r.get i (y.2 xs (at_ s))
  exact ⟨d, h1, .inl ⟨y.1, h2⟩⟩
theorem si_seq (K : PySem.W.Frag) {te : TE} {de : DE} (h : SE te de) : SI (iSeq K te) (diSeq de) := fun c G pl σ H e m k R sr d KK => h _ _ _ _ _ _ _ _ _ sr d fun x m1 G1 pl1 H1 v1 d1 l1 sr1 r1 => by
  split at d1
  · cases (show Da G1 v1 _ from r1) with
    | lst e1 e2 => exact ⟨_, rfl, .inl ⟨⟨_, .inl (.inl (sr1.hp.sub _ _ e1))⟩, KK _ _ _ _ _ _ d1 l1 sr1 (wk_list e1 e2)⟩⟩
  · cases (show Da G1 v1 _ from r1) with
    | tup e1 e2 => exact ⟨_, rfl, .inr ⟨⟨_, .inl (.inl (sr1.hp.sub _ _ e1))⟩, KK _ _ _ _ _ _ d1 l1 sr1 (wk_tup e1 e2)⟩⟩
  · exact d1.elim
/-! ### ranges -/
def rgD (lo : Int) (n : Nat) : List PyData := (List.range n).map fun i => .int (lo + (i : Nat))
theorem rgD_len (lo : Int) (n : Nat) : (rgD lo n).length = n := by unfold rgD; rw [List.length_map, List.length_range]
theorem wk_range {G : Hp} {lo : Int} {n : Nat} : WK (Itr lo n) G (rgD lo n) := by
  refine ⟨fun i H hi s => by rw [rgD_len] at hi; exact hi, fun H s => by rw [rgD_len]; exact Nat.le_refl _, fun i H x H' hi s y => ?_⟩
  rw [rgD_len] at hi
  obtain ⟨e1, e2⟩ := y
  refine ⟨.int (lo + (i : Nat)), ?_, .inl ⟨e1, by rw [e2]; exact .int _⟩⟩
  unfold rgD
  rw [List.getElem?_map, List.getElem?_range hi]
  rfl
def diRng1 (a : DA) : DI := fun e m k => a e m fun xs m1 => match xs with
  | [.d (.int j)] => (-(2 ^ 62) ≤ j ∧ j < 2 ^ 62) ∧ k (rgD 0 j.toNat) m1
  | _ => False
theorem si_rng1 {ta : TA} {da : DA} (h : SA ta da) : SI (iRng1 ta) (diRng1 da) := fun c G pl σ H e m k R sr d KK => h _ _ _ _ _ _ _ _ _ sr d fun xs m1 G1 pl1 H1 vs d1 l1 sr1 r1 => by
  split at d1
  · cases r1 with
    | cons ra t =>
      cases t
      cases ra.int_inv
      exact ⟨_, rfl, d1.1.1, d1.1.2, KK _ _ _ _ _ _ d1.2 l1 sr1 wk_range⟩
  · exact d1.elim
def diRng2 (a : DA) : DI := fun e m k => a e m fun xs m1 => match xs with
  | [.d (.int i), .d (.int j)] => (-(2 ^ 62) ≤ i ∧ i < 2 ^ 62 ∧ -(2 ^ 62) ≤ j ∧ j < 2 ^ 62) ∧ k (rgD i (j - i).toNat) m1
  | _ => False
theorem si_rng2 {ta : TA} {da : DA} (h : SA ta da) : SI (iRng2 ta) (diRng2 da) := fun c G pl σ H e m k R sr d KK => h _ _ _ _ _ _ _ _ _ sr d fun xs m1 G1 pl1 H1 vs d1 l1 sr1 r1 => by
  split at d1
  · cases r1 with
    | cons ra t =>
      cases t with
      | cons rb t =>
        cases t
        cases ra.int_inv
        cases rb.int_inv
        exact ⟨_, _, rfl, d1.1, KK _ _ _ _ _ _ d1.2 l1 sr1 wk_range⟩
  · exact d1.elim
/-- reversed(range(n)) -/
def rgR (n : Nat) : List PyData := (List.range n).map fun i => .int ((n : Int) - 1 - (i : Nat))
def diRevR (a : DE) : DI := fun e m k => a e m fun x m1 => match x with
  | .d (.int j) => (0 ≤ j ∧ j < 2 ^ 62) ∧ k (rgR j.toNat) m1
  | _ => False
theorem si_revR {ta : TE} {da : DE} (h : SE ta da) : SI (iRevR (tRg1 ta)) (diRevR da) := fun c G pl σ H e m k R sr d KK => h _ _ _ _ _ _ _ _ _ sr d fun x m1 G1 pl1 H1 v1 d1 l1 sr1 r1 => by
  split at d1
  · rename_i j
    cases r1.int_inv
    obtain ⟨⟨j0, j1⟩, d1⟩ := d1
    refine ⟨j, rfl, by decide, by decide, by omega, j1, KK _ _ _ _ _ _ d1 l1 sr1 ?_⟩
    have len : (rgR j.toNat).length = (j - 0).toNat := by unfold rgR; rw [List.length_map, List.length_range]; omega
    refine ⟨fun i H hi s => by rw [len] at hi; exact hi, fun H s => by rw [len]; exact Nat.le_refl _, fun i H x H' hi s y => ?_⟩
    rw [len] at hi
    obtain ⟨e1, e2⟩ := y
    refine ⟨.int ((j.toNat : Int) - 1 - (i : Nat)), ?_, .inl ⟨e1, ?_⟩⟩
    · unfold rgR
      rw [List.getElem?_map, List.getElem?_range (by omega)]
      rfl
    · rw [e2]
      have : 0 + (((j - 0).toNat : Nat) : Int) - 1 + (i : Nat) * (-1) = (j.toNat : Int) - 1 - (i : Nat) := by omega
      rw [this]
      exact .int _
  · exact d1.elim
/-! ### pairs -/
def pairs (xs ys : List PyData) : List PyData := (List.zip xs ys).map fun p => .tuple [p.1, p.2]
def diZip (a : DA) : DI := fun e m k => a e m fun xs m1 => match xs with
  | [.d (.tuple ds), .d (.tuple es)] => ds.length = es.length ∧ k (pairs ds es) m1
  | [.d (.list ds), .d (.list es)] => k (pairs ds es) m1
  | _ => False
theorem pairs_get {ds es : List PyData} {i : Nat} {d d' : PyData} (h1 : ds[i]? = some d) (h2 : es[i]? = some d') : (pairs ds es)[i]? = some (.tuple [d, d']) := by
  unfold pairs
  have hz : (List.zip ds es)[i]? = some (d, d') := by
    rw [List.getElem?_zip_eq_some]
    exact ⟨h1, h2⟩
  rw [List.getElem?_map, hz]
  rfl
theorem pairs_len (ds es : List PyData) : (pairs ds es).length = min ds.length es.length := by
  unfold pairs
  rw [List.length_map, List.length_zip]
theorem si_zip (K : PySem.W.Frag) {ta : TA} {da : DA} (h : SA ta da) : SI (iZipA K ta) (diZip da) := fun c G pl σ H e m k R sr d KK => h _ _ _ _ _ _ _ _ _ sr d fun xs m1 G1 pl1 H1 vs d1 l1 sr1 r1 => by
  split at d1
  · rename_i ds es
    cases r1 with
    | cons ra t =>
      cases t with
      | cons rb t =>
        cases t
        obtain ⟨hz, d1⟩ := d1
        cases (show Da G1 _ (.tuple ds) from ra) with
        | @tup a xs _ e1 e2 =>
          cases (show Da G1 _ (.tuple es) from rb) with
          | @tup b ys _ g1 g2 =>
            refine ⟨_, _, _, _, rfl, .inr ⟨.inl (.inl (sr1.hp.sub _ _ e1)), .inl (.inl (sr1.hp.sub _ _ g1)), KK _ _ _ _ _ _ d1 l1 sr1 ?_⟩⟩
            have w := walk_zipT (K := K) (a := a) (b := b) (xs := xs) (ys := ys) (n := (pairs ds es).length) (by rw [pairs_len, e2.length]; omega) (by rw [pairs_len, g2.length]; omega)
            have st : ∀ {H}, Same G1 H → SqT K H a xs ∧ SqT K H b ys := fun s => ⟨.inl (.inl (s _ _ e1)), .inl (.inl (s _ _ g1))⟩
            refine ⟨fun i H hi s => w.goes i H hi (st s), fun H s => w.stops H (st s), fun i H x H' hi s y => ?_⟩
            obtain ⟨T, x1, y1, q1, q2, q3, q4, q5⟩ := w.yields i H x H' hi (st s) y
            obtain ⟨d, u1, u2⟩ := e2.get i q4
            obtain ⟨d', v1, v2⟩ := g2.get i q5
            exact ⟨_, pairs_get u1 v1, .inr ⟨T, _, _, q1, q2, q3, .cons u2 (.cons v2 .nil), rfl⟩⟩
  · rename_i ds es
    cases r1 with
    | cons ra t =>
      cases t with
      | cons rb t =>
        cases t
        cases (show Da G1 _ (.list ds) from ra) with
        | @lst a xs _ e1 e2 =>
          cases (show Da G1 _ (.list es) from rb) with
          | @lst b ys _ g1 g2 =>
            refine ⟨_, _, _, _, rfl, .inl ⟨.inl (.inl (sr1.hp.sub _ _ e1)), .inl (.inl (sr1.hp.sub _ _ g1)), KK _ _ _ _ _ _ d1 l1 sr1 ?_⟩⟩
            have w := walk_zip (K := K) (a := a) (b := b) (xs := xs) (ys := ys) (n := (pairs ds es).length) (by rw [pairs_len, e2.length, g2.length])
            have st : ∀ {H}, Same G1 H → SqL K H a xs ∧ SqL K H b ys := fun s => ⟨.inl (.inl (s _ _ e1)), .inl (.inl (s _ _ g1))⟩
            refine ⟨fun i H hi s => w.goes i H hi (st s), fun H s => w.stops H (st s), fun i H x H' hi s y => ?_⟩
            obtain ⟨T, x1, y1, q1, q2, q3, q4, q5⟩ := w.yields i H x H' hi (st s) y
            obtain ⟨d, u1, u2⟩ := e2.get i q4
            obtain ⟨d', v1, v2⟩ := g2.get i q5
            exact ⟨_, pairs_get u1 v1, .inr ⟨T, _, _, q1, q2, q3, .cons u2 (.cons v2 .nil), rfl⟩⟩
  · exact d1.elim
def enumD (n : Nat) : List PyData → List PyData
  | [] => []
  | x :: xs => .tuple [.int (n : Nat), x] :: enumD (n + 1) xs
theorem enumD_len : ∀ (n : Nat) (xs : List PyData), (enumD n xs).length = xs.length
  | _, [] => rfl
  | n, _ :: xs => by simp only [enumD, List.length_cons, enumD_len (n + 1) xs]
theorem enumD_get : ∀ (n : Nat) {xs : List PyData} {i : Nat} {d : PyData}, xs[i]? = some d → (enumD n xs)[i]? = some (.tuple [.int ((n + i : Nat) : Int), d])
  | n, [], i, d, h => by simp at h
  | n, x :: xs, 0, d, h => by
    cases h
    rfl
  | n, x :: xs, i + 1, d, h => by
    have := enumD_get (n + 1) (xs := xs) (i := i) (d := d) h
    simp only [enumD, List.getElem?_cons_succ, this]
    rw [show n + 1 + i = n + (i + 1) by omega]
/-! ### calls of built-ins -/
abbrev rLenK (K : PySem.W.Frag) : List V → Hp → VK → Prop := fun xs H Q => ∃ p ys, xs = [.ref p] ∧ (SqL K H p ys ∨ SqT K H p ys) ∧ Q (.int (ys.length : Nat)) H
theorem call_lenK {X : Cx} : CallR X (.builtin "len") (rLenK X.K) := call_len_seq
abbrev rTupK (K : PySem.W.Frag) : List V → Hp → VK → Prop := fun xs H Q => ∃ p ys, xs = [.ref p] ∧ ((SqL K H p ys ∧ ∀ l, H l = none → Q (.ref l) (upd H l (.tup ys))) ∨ (SqT K H p ys ∧ Q (.ref p) H))
theorem call_tupK {X : Cx} : CallR X (.type "tuple") (rTupK X.K) := call_tuple_of
abbrev rListK (K : PySem.W.Frag) : List V → Hp → VK → Prop := fun xs H Q => ∃ p ys, xs = [.ref p] ∧ (SqL K H p ys ∨ SqT K H p ys) ∧ ∀ l, H l = none → Q (.ref l) (upd H l (.lst ys))
theorem call_listK {X : Cx} : CallR X (.type "list") (rListK X.K) := call_list_of
def fLen (m : Mu) (xs : List DV) (k : DV → Prop) : Prop := match xs with
  | [x] => ∃ ds, rdS m x = some ds ∧ k (.d (.int (ds.length : Nat)))
  | _ => False
theorem cs_len (K : PySem.W.Frag) : CaS (rLenK K) fLen := fun c G pl σ H e m xs ds k Q sr r d KK => by
  unfold fLen at d
  split at d
  · cases r with
    | cons ra t =>
      cases t
      obtain ⟨ds, h1, d⟩ := d
      obtain ⟨a, ys, e1, e2, e3⟩ := sr.seq K ra h1
      refine ⟨a, ys, by rw [e1], e2, KK.val sr d ?_⟩
      rw [e3.length]
      exact .int _
  · exact d.elim
def fAbs (m : Mu) (xs : List DV) (k : DV → Prop) : Prop := match xs with
  | [.d (.int i)] => k (.d (.int (if i < 0 then -i else i)))
  | _ => False
theorem cs_abs : CaS (fun xs H Q => ∃ i, xs = [.int i] ∧ Q (.int (if i < 0 then -i else i)) H) fAbs := fun c G pl σ H e m xs ds k Q sr r d KK => by
  unfold fAbs at d
  split at d
  · cases r with
    | cons ra t =>
      cases t
      cases ra.int_inv
      exact ⟨_, rfl, KK.val sr d (show Da G _ _ from .int _)⟩
  · exact d.elim
def fMax2 (m : Mu) (xs : List DV) (k : DV → Prop) : Prop := match xs with
  | [.d (.int i), .d (.int j)] => k (.d (.int (if j > i then j else i)))
  | _ => False
theorem cs_max2 : CaS (fun xs H Q => ∃ i j, xs = [.int i, .int j] ∧ Q (.int (if j > i then j else i)) H) fMax2 := fun c G pl σ H e m xs ds k Q sr r d KK => by
  unfold fMax2 at d
  split at d
  · cases r with
    | cons ra t =>
      cases t with
      | cons rb t =>
        cases t
        cases ra.int_inv
        cases rb.int_inv
        exact ⟨_, _, rfl, KK.val sr d (show Da G _ _ from .int _)⟩
  · exact d.elim
def fMin2 (m : Mu) (xs : List DV) (k : DV → Prop) : Prop := match xs with
  | [.d (.int i), .d (.int j)] => k (.d (.int (if j < i then j else i)))
  | _ => False
theorem cs_min2 : CaS (fun xs H Q => ∃ i j, xs = [.int i, .int j] ∧ Q (.int (if j < i then j else i)) H) fMin2 := fun c G pl σ H e m xs ds k Q sr r d KK => by
  unfold fMin2 at d
  split at d
  · cases r with
    | cons ra t =>
      cases t with
      | cons rb t =>
        cases t
        cases ra.int_inv
        cases rb.int_inv
        exact ⟨_, _, rfl, KK.val sr d (show Da G _ _ from .int _)⟩
  · exact d.elim
/-- int(x) of an int or a bool -/
def fInt1 (m : Mu) (xs : List DV) (k : DV → Prop) : Prop := match xs with
  | [.d (.int i)] => k (.d (.int i))
  | [.d (.bool b)] => k (.d (.int (if b then 1 else 0)))
  | _ => False
theorem cs_int1 : CaS (fun xs H Q => (∃ i, xs = [.int i] ∧ Q (.int i) H) ∨ ∃ k, xs = [.bl k] ∧ Q (.int (if k then 1 else 0)) H) fInt1 := fun c G pl σ H e m xs ds k Q sr r d KK => by
  unfold fInt1 at d
  split at d
  · cases r with
    | cons ra t =>
      cases t
      cases ra.int_inv
      exact .inl ⟨_, rfl, KK.val sr d (show Da G _ _ from .int _)⟩
  · cases r with
    | cons ra t =>
      cases t
      cases ra.bl_inv
      exact .inr ⟨_, rfl, KK.val sr d (show Da G _ _ from .int _)⟩
  · exact d.elim
def fTup (m : Mu) (xs : List DV) (k : DV → Prop) : Prop := match xs with
  | [x] => ∃ ds, rdS m x = some ds ∧ k (.d (.tuple ds))
  | _ => False
theorem cs_tup (K : PySem.W.Frag) : CaS (rTupK K) fTup := fun c G pl σ H e m xs ds k Q sr r d KK => by
  unfold fTup at d
  split at d
  · rename_i x
    cases r with
    | cons ra t =>
      cases t
      obtain ⟨ds, h1, d⟩ := d
      unfold rdS at h1
      split at h1
      · rename_i hz
        cases h1
        unfold rdT at hz
        split at hz
        · cases hz
          cases (show Da G _ (.tuple ds) from ra) with
          | tup e1 e2 => exact ⟨_, _, rfl, .inr ⟨.inl (.inl (sr.hp.sub _ _ e1)), KK.val sr d (show Da G _ _ from .tup e1 e2)⟩⟩
        · cases hz
      · obtain ⟨a, ys, e1, e2, e3⟩ := sr.list ra h1
        exact ⟨a, ys, by rw [e1], .inl ⟨.inl (.inl e2), fun l hl => KK.tup sr hl d e3⟩⟩
  · exact d.elim
/-- list(x) -/
def dListOf (a : DA) : DL := fun e m k => a e m fun xs m1 => match xs with
  | [x] => ∃ ds, rdS m1 x = some ds ∧ k ds m1
  | _ => False
theorem sl_list_of (K : PySem.W.Frag) {ta : TA} {da : DA} (h : SA ta da) : SL (tCB (rListK K) ta) (dListOf da) := fun c G pl σ H e m k Q sr d KK => h _ _ _ _ _ _ _ _ _ sr d fun xs m1 G1 pl1 H1 vs d1 l1 sr1 r1 => by
  split at d1
  · cases r1 with
    | cons ra t =>
      cases t
      obtain ⟨ds, h1, d1⟩ := d1
      obtain ⟨a, ys, e1, e2, e3⟩ := sr1.seq K ra h1
      exact ⟨a, ys, by rw [e1], e2, fun l hl => (KK.le l1).new sr1 hl d1 e3⟩
  · exact d1.elim
/-- list(range(n)) -/
def dListRg (a : DE) : DL := fun e m k => a e m fun x m1 => match x with
  | .d (.int n) => (0 ≤ n ∧ n ≤ 1000000) ∧ k (rgD 0 n.toNat) m1
  | _ => False
theorem DaL_rg (G : Hp) (n : Int) : DaL G (rgV 0 n) (rgD 0 n.toNat) := by
  unfold rgV rgD
  rw [show (n - 0).toNat = n.toNat by omega]
  induction List.range n.toNat with
  | nil => exact .nil
  | cons i l ih => exact .cons (.int _) ih
theorem sl_listRg {ta : TE} {da : DE} (h : SE ta da) : SL (tLstRg (tRg1 ta)) (dListRg da) := fun c G pl σ H e m k Q sr d KK => h _ _ _ _ _ _ _ _ _ sr d fun x m1 G1 pl1 H1 v1 d1 l1 sr1 r1 => by
  split at d1
  · rename_i n
    cases r1.int_inv
    obtain ⟨⟨n0, n1⟩, d1⟩ := d1
    exact ⟨n, rfl, ⟨by decide, by decide, by omega, by omega, by omega⟩, fun q hq => (KK.le l1).new sr1 hq d1 (DaL_rg G1 n)⟩
  · exact d1.elim
/-- isinstance(x, T) -/
def isD : DV → Option PyData
  | .d x => some x
  | .p _ => none
  | .dic _ => none
  | .any _ => none
def dIsi (q : PyData → Bool) (a : DE) : DE := fun e m k => a e m fun x m1 => match x with
  | .d y => k (.d (.bool (q y))) m1
  | _ => False
theorem se_isi (K : PySem.W.Frag) {T : String} {q : PyData → Bool} (kit : ∀ {H : Hp} {v : V} {d : PyData}, Da H v d → PySem.W.kitOne K (.type (tn d)) (.type T) = some (q d)) {ta : TE} {da : DE} (h : SE ta da) : SE (tCB (rIsi K) (tCons ta (tCons (tC (.ty T)) tNil))) (dIsi q da) :=
  fun c G pl σ H e m k Q sr d KK => h _ _ _ _ _ _ _ _ _ sr d fun x m1 G1 pl1 H1 v1 d1 l1 sr1 r1 => by
    split at d1
    · have hv := Da.same sr1.hp.sub (show Da G1 v1 _ from r1)
      exact ⟨v1, .ty T, _, _, _, rfl, .ty T, hv.ty, kit hv, (KK.le l1).val sr1 d1 (show Da G1 _ _ from .bl _)⟩
    · exact d1.elim
theorem se_isT (K : PySem.W.Frag) {ta : TE} {da : DE} (h : SE ta da) : SE (tCB (rIsi K) (tCons ta (tCons (tC (.ty "tuple")) tNil))) (dIsi isT da) := se_isi K kitT h
theorem se_isB (K : PySem.W.Frag) {ta : TE} {da : DE} (h : SE ta da) : SE (tCB (rIsi K) (tCons ta (tCons (tC (.ty "bool")) tNil))) (dIsi isB da) := se_isi K kitBo h
theorem se_isI (K : PySem.W.Frag) {ta : TE} {da : DE} (h : SE ta da) : SE (tCB (rIsi K) (tCons ta (tCons (tC (.ty "int")) tNil))) (dIsi isI da) := se_isi K kitI h
theorem se_isS (K : PySem.W.Frag) {ta : TE} {da : DE} (h : SE ta da) : SE (tCB (rIsi K) (tCons ta (tCons (tC (.ty "str")) tNil))) (dIsi isS da) := se_isi K kitS h
/-- sum of a list of ints -/
def fSum (m : Mu) (xs : List DV) (k : DV → Prop) : Prop := match xs with
  | [x] => ∃ is : List Int, rdL m x = some (is.map PyData.int) ∧ k (.d (.int is.sum))
  | _ => False
theorem cs_sum (K : PySem.W.Frag) : CaS (rSum K) fSum := fun c G pl σ H e m xs ds k Q sr r d KK => by
  unfold fSum at d
  split at d
  · cases r with
    | cons ra t =>
      cases t
      obtain ⟨is, h1, d⟩ := d
      obtain ⟨a, ys, e1, e2, e3⟩ := sr.list ra h1
      cases e3.ints
      exact ⟨a, is, by rw [e1], .inl (.inl e2), KK.val sr d (show Da G _ _ from .int _)⟩
  · exact d.elim
/-- all, any of a list of bools -/
theorem DaL.bools {G : Hp} : ∀ {bs : List Bool} {xs : List V}, DaL G xs (bs.map PyData.bool) → xs = bs.map V.bl
  | [], _, .nil => rfl
  | b :: bs, _, .cons h t => by
    cases h
    rw [DaL.bools t]
    rfl
def fAll (m : Mu) (xs : List DV) (k : DV → Prop) : Prop := match xs with
  | [x] => ∃ bs : List Bool, rdL m x = some (bs.map PyData.bool) ∧ k (.d (.bool (bs.all id)))
  | _ => False
theorem cs_all (K : PySem.W.Frag) : CaS (rAll K) fAll := fun c G pl σ H e m xs ds k Q sr r d KK => by
  unfold fAll at d
  split at d
  · cases r with
    | cons ra t =>
      cases t
      obtain ⟨bs, h1, d⟩ := d
      obtain ⟨a, ys, e1, e2, e3⟩ := sr.list ra h1
      cases e3.bools
      exact ⟨a, bs, by rw [e1], .inl (.inl e2), KK.val sr d (show Da G _ _ from .bl _)⟩
  · exact d.elim
end PM

namespace PM
open PySem PySem.Spec PyProof.Rows L2 RZ
/-! ### promises of defs -/
def noPl : Nat → Pl := fun _ => ⟨0, 0, 0⟩
def Frs (G H G' : Hp) : Prop := ∀ b, G' b ≠ none → G b ≠ none ∨ H b = none
abbrev SpP := List PyData → (DV → Prop) → Prop
abbrev SpN := Nat → List PyData → (DV → Nat → Prop) → Prop
/-- a def that draws no numbers -/
def prP (S : SpP) : Sp := fun vs H Q _ => ∃ G ds k, Same G H ∧ DaL G vs ds ∧ S ds k ∧
  ∀ dv G' H' v, k dv → Same G G' → Same G' H' → Same H H' → Frs G H G' → RV G' noPl 0 v dv → Q v H'
/-- a def whose first argument are the drawn numbers -/
def prN (S : SpN) : Sp := fun vs H Q _ => ∃ G a c r j ws ds k, vs = .ref a :: ws ∧ Drw H a c r j ∧ G a = none ∧ G c = none ∧ G r = none ∧ Same G H ∧ DaL G ws ds ∧ S j ds k ∧
  ∀ dv j' G' H' v, k dv j' → Same G G' → Same G' H' → (∀ b o, b ≠ a → b ≠ c → b ≠ r → H b = some o → H' b = some o) → (∀ b, H b ≠ none → H' b ≠ none) → Frs G H G' → Drw H' a c r j' → RV G' noPl 0 v dv → Q v H'
theorem RV.any {G : Hp} {pl : Nat → Pl} {n : Nat} {v : V} {dv : DV} (h : RV G noPl 0 v dv) : RV G pl n v dv := h.le ⟨.refl G, fun i hi => absurd hi (Nat.not_lt_zero i), Nat.zero_le n⟩
theorem RV.none {G : Hp} {pl : Nat → Pl} {n : Nat} {v : V} {dv : DV} (h : RV G pl n v dv) (np : ∀ i, dv ≠ .p i) : RV G noPl 0 v dv := by
  cases dv with
  | d x => exact h
  | dic kvs => exact h
  | any f => exact h
  | p i => exact absurd rfl (np i)
/-! ### calls -/
def dCallP (S : SpP) (a : DA) : DE := fun e m k => a e m fun xs m1 => match plains xs with
  | some ds => S ds fun z => k z m1
  | none => False
theorem HR.pure {c : Fr0} {G H G' H' : Hp} {pl : Nat → Pl} {m : Mu} (h : HR c G pl H m) (g : Same G G') (s : Same G' H') (hh : Same H H') (f : Frs G H G') : HR c G' pl H' m where
  sub := s
  mo := fun i o e => (h.mo i o e).keep g fun b x _ q => hh _ _ q
  out := fun i o b e q => by
    cases z : G' b with
    | none => rfl
    | some x =>
      rcases f b (by rw [z]; exact fun w => nomatch w) with w | w
      · exact absurd (h.out i o b e q) w
      · exact absurd w (h.standF e q)
  own := h.own
  dj := h.dj
  g0 := h.g0.trans g
  h0 := fun b o n1 n2 e => hh _ _ (h.h0 b o n1 n2 e)
  up := fun b e => by
    have q := h.up b e
    cases z : H b with
    | none => exact absurd z q
    | some x => rw [hh _ _ z]; exact fun w => nomatch w
  nw := fun b e => by
    rcases f b e with w | w
    · exact h.nw b w
    · refine .inr ?_
      cases z : c.H b with
      | none => rfl
      | some x => exact absurd w (h.up b (by rw [z]; exact fun w => nomatch w))
theorem se_callP {S : SpP} {E : XK} {ta : TA} {da : DA} (h : SA ta da) : SE (tCall (prP S) [] E ta) (dCallP S da) := fun c G pl σ H e m k Q sr d K => h _ _ _ _ _ _ _ _ _ sr d fun xs m1 G1 pl1 H1 vs d1 l1 sr1 r1 => by
  split at d1
  · rename_i ds q
    refine ⟨G1, ds, _, sr1.hp.sub, ?_, d1, fun dv G' H' v hk g s hh f r => ?_⟩
    · rw [List.append_nil]
      exact r1.plain q
    · have l2 : Le G1 pl1 m1.length G' pl1 m1.length := ⟨g, fun _ _ => rfl, Nat.le_refl _⟩
      exact K _ _ _ _ _ _ hk (l1.trans l2) ⟨sr1.env.le l2, sr1.hp.pure g s hh f⟩ r.any
  · exact d1.elim
def dCallN (S : SpN) (a : DA) : DE := fun e m k => a e m fun xs m1 => match xs, m1 with
  | .p 0 :: r, .drw j :: ms => match plains r with
    | some ds => S j ds fun z j' => k z (.drw j' :: ms)
    | none => False
  | _, _ => False
theorem HR.drawn {c : Fr0} {G H G' H' : Hp} {pl : Nat → Pl} {j j' : Nat} {ms : Mu} (h : HR c G pl H (.drw j :: ms)) (g : Same G G') (s : Same G' H') (hh : ∀ b o, b ≠ (pl 0).a → b ≠ (pl 0).c → b ≠ (pl 0).r → H b = some o → H' b = some o) (hu : ∀ b, H b ≠ none → H' b ≠ none) (f : Frs G H G')
    (dr : Drw H' (pl 0).a (pl 0).c (pl 0).r j') : HR c G' pl H' (.drw j' :: ms) := by
  have e0 : (MO.drw j :: ms)[0]? = some (.drw j) := rfl
  have mem : ∀ b, b ∈ foot (pl 0) (.drw j) ↔ b = (pl 0).a ∨ b = (pl 0).c ∨ b = (pl 0).r := fun b => by simp [foot]
  have old : ∀ i o, (MO.drw j' :: ms)[i]? = some o → (i = 0 ∧ o = .drw j') ∨ (i ≠ 0 ∧ (MO.drw j :: ms)[i]? = some o) := fun i o e => by
    cases i with
    | zero => cases e; exact .inl ⟨rfl, rfl⟩
    | succ i => exact .inr ⟨Nat.succ_ne_zero _, e⟩
  have gone : ∀ i o b, (MO.drw j :: ms)[i]? = some o → b ∈ foot (pl i) o → G' b = none := fun i o b e q => by
    cases z : G' b with
    | none => rfl
    | some x =>
      rcases f b (by rw [z]; exact fun w => nomatch w) with w | w
      · exact absurd (h.out i o b e q) w
      · exact absurd w (h.standF e q)
  refine ⟨s, fun i o e => ?_, fun i o b e q => ?_, fun i o b e q => ?_, fun i i' o o' b ne e1 e2 q1 q2 => ?_, h.g0.trans g, fun b o n1 n2 e => ?_, fun b e => hu b (h.up b e), fun b e => ?_⟩
  · rcases old i o e with ⟨rfl, rfl⟩ | ⟨ne, e⟩
    · exact dr
    · refine (h.mo i o e).keep g fun b x q e' => hh b x (fun z => ?_) (fun z => ?_) (fun z => ?_) e'
      · exact h.dj 0 i _ o b (Ne.symm ne) e0 e ((mem b).mpr (.inl z)) q
      · exact h.dj 0 i _ o b (Ne.symm ne) e0 e ((mem b).mpr (.inr (.inl z))) q
      · exact h.dj 0 i _ o b (Ne.symm ne) e0 e ((mem b).mpr (.inr (.inr z))) q
  · rcases old i o e with ⟨rfl, rfl⟩ | ⟨ne, e⟩
    · exact gone 0 _ b e0 q
    · exact gone i o b e q
  · rcases old i o e with ⟨rfl, rfl⟩ | ⟨ne, e⟩
    · exact h.own 0 (.drw j) b e0 q
    · exact h.own i o b e q
  · rcases old i o e1 with ⟨z1, w1⟩ | ⟨n1, g1⟩ <;> rcases old i' o' e2 with ⟨z2, w2⟩ | ⟨n2, g2⟩
    · exact ne (z1.trans z2.symm)
    · subst z1 w1
      exact h.dj 0 i' _ o' b ne e0 g2 q1 q2
    · subst z2 w2
      exact h.dj i 0 o _ b ne g1 e0 q1 q2
    · exact h.dj i i' o o' b ne g1 g2 q1 q2
  · have q := h.h0 b o n1 n2 e
    have no : b ∉ foot (pl 0) (.drw j) := fun z => by
      have := h.own 0 _ b e0 z
      rw [show isDrw (.drw j) = true from rfl, if_pos rfl, e] at this
      rcases this with w | w
      · exact n1 w
      · cases w
    exact hh b o (fun z => no ((mem b).mpr (.inl z))) (fun z => no ((mem b).mpr (.inr (.inl z)))) (fun z => no ((mem b).mpr (.inr (.inr z)))) q
  · rcases f b e with w | w
    · exact h.nw b w
    · refine .inr ?_
      cases z : c.H b with
      | none => rfl
      | some x => exact absurd w (h.up b (by rw [z]; exact fun w => nomatch w))
theorem se_callN {S : SpN} {E : XK} {ta : TA} {da : DA} (h : SA ta da) : SE (tCall (prN S) [] E ta) (dCallN S da) := fun c G pl σ H e m k Q sr d K => h _ _ _ _ _ _ _ _ _ sr d fun xs m1 G1 pl1 H1 vs d1 l1 sr1 r1 => by
  split at d1
  · rename_i r j ms
    cases r1 with
    | cons rp rr =>
      split at d1
      · rename_i ds q
        rw [List.append_nil]
        have e0 : (MO.drw j :: ms)[0]? = some (.drw j) := rfl
        refine ⟨G1, (pl1 0).a, (pl1 0).c, (pl1 0).r, j, _, ds, _, by rw [rp.2], sr1.hp.mo 0 _ e0, sr1.hp.out 0 _ _ e0 (by simp [foot]), sr1.hp.out 0 _ _ e0 (by simp [foot]), sr1.hp.out 0 _ _ e0 (by simp [foot]), sr1.hp.sub, rr.plain q, d1, fun dv j' G' H' v hk g s hh hu f dr r => ?_⟩
        have l2 : Le G1 pl1 (MO.drw j :: ms).length G' pl1 (MO.drw j' :: ms).length := ⟨g, fun _ _ => rfl, Nat.le_refl _⟩
        exact K _ _ _ _ _ _ hk (l1.trans l2) ⟨sr1.env.le l2, sr1.hp.drawn g s hh hu f dr⟩ r.any
      · exact d1.elim
  · exact d1.elim
/-! ### a def's body -/
def dStart (n : Nat) (ds : List DV) : DEnv := ds.map some ++ List.replicate (n - ds.length) none
theorem lk_append : ∀ (xs ys : DEnv) (i : Nat), lk (xs ++ ys) i = if i < xs.length then lk xs i else lk ys (i - xs.length)
  | [], ys, i => by simp
  | x :: xs, ys, 0 => by simp [lk]
  | x :: xs, ys, i + 1 => by simp [lk, lk_append xs ys i]
theorem lk_none : ∀ (n i : Nat), lk (List.replicate n none) i = none
  | 0, i => rfl
  | n + 1, 0 => rfl
  | n + 1, i + 1 => lk_none n i
theorem lk_map : ∀ (ds : List DV) (i : Nat) (dv : DV), lk (ds.map some) i = some dv → ds[i]? = some dv
  | [], i, dv, h => by cases h
  | x :: xs, 0, dv, h => by cases h; rfl
  | x :: xs, i + 1, dv, h => lk_map xs i dv h
theorem RVs.get {G : Hp} {pl : Nat → Pl} {n : Nat} : ∀ {vs : List V} {ds : List DV} {i : Nat} {dv : DV}, RVs G pl n vs ds → ds[i]? = some dv → ∃ v, vs[i]? = some v ∧ RV G pl n v dv
  | _, _, i, _, .nil, e => by simp at e
  | _, _, 0, _, .cons h t, e => by
    cases e
    exact ⟨_, rfl, h⟩
  | _, _, i + 1, _, .cons h t, e => RVs.get (i := i) t e
theorem ER.start {G : Hp} {pl : Nat → Pl} {n : Nat} {N : List Str} {vs : List V} {ds : List DV} (r : RVs G pl n vs ds) : ER G pl n (L2.start N vs) (dStart N.length ds) := by
  refine ⟨?_, fun i dv h => ?_⟩
  · unfold L2.start dStart
    simp only [List.length_append, List.length_map, List.length_replicate, r.length]
  · unfold dStart at h
    rw [lk_append] at h
    split at h
    · obtain ⟨v, h1, h2⟩ := r.get (lk_map _ _ _ h)
      refine ⟨v, ?_, h2⟩
      unfold L2.start
      have hi : i < vs.length := by
        rcases Nat.lt_or_ge i vs.length with z | z
        · exact z
        · rw [List.getElem?_eq_none z] at h1; cases h1
      rw [List.getElem?_append_left (by rw [List.length_map]; exact hi), List.getElem?_map, h1]
      rfl
    · rw [lk_none] at h
      cases h
/-- what a def hands back is no object that it still changes -/
def rtP (k : DV → Prop) : DV → Option Nat → Prop := fun x _ => match x with
  | .p _ => False
  | .d y => k (.d y)
  | .dic y => k (.dic y)
  | .any y => k (.any y)
def rtN (k : DV → Nat → Prop) : DV → Option Nat → Prop := fun x o => match x, o with
  | .p _, _ => False
  | _, none => False
  | .d y, some n => k (.d y) n
  | .dic y, some n => k (.dic y) n
  | .any y, some n => k (.any y) n
theorem rtP_inv {k : DV → Prop} {x : DV} {o : Option Nat} (h : rtP k x o) : (∀ i, x ≠ .p i) ∧ k x := by
  cases x with
  | p i => exact h.elim
  | d y => exact ⟨(fun i z => by cases z), h⟩
  | dic y => exact ⟨(fun i z => by cases z), h⟩
  | any y => exact ⟨(fun i z => by cases z), h⟩
theorem rtN_inv {k : DV → Nat → Prop} {x : DV} {o : Option Nat} (h : rtN k x o) : (∀ i, x ≠ .p i) ∧ ∃ n, o = some n ∧ k x n := by
  cases x with
  | p i => exact h.elim
  | d y =>
    cases o with
    | none => exact h.elim
    | some n => exact ⟨(fun i z => by cases z), n, rfl, h⟩
  | dic y =>
    cases o with
    | none => exact h.elim
    | some n => exact ⟨(fun i z => by cases z), n, rfl, h⟩
  | any y =>
    cases o with
    | none => exact h.elim
    | some n => exact ⟨(fun i z => by cases z), n, rfl, h⟩
/-- the ends of a def that draws no numbers -/
def eP (k : DV → Prop) : DEnds := { nx := fun _ _ => k (.d .none), rt := rtP k, bk := fun _ _ => False, ct := fun _ _ => False }
theorem runP {t : TS} {d : DS} {N : List Str} {vs : List V} {ds : List PyData} {k : DV → Prop} {G H : Hp} {Q : VK} (h : SS t d) (sub : Same G H) (r : DaL G vs ds)
    (K : ∀ dv G' H' v, k dv → Same G G' → Same G' H' → Same H H' → Frs G H G' → RV G' noPl 0 v dv → Q v H')
    (hd : d (eP k) (dStart N.length (ds.map DV.d)) []) : t { nx := fun _ H' => Q .non H', rt := Q } (L2.start N vs) H := by
  have hr : HR ⟨G, H, fun _ => False, fun _ => False⟩ G noPl H [] := ⟨sub, fun i o e => by simp at e, fun i o b e => by simp at e, fun i o b e => by simp at e, fun i j o o' b _ e => by simp at e, .refl G, fun b o _ _ e => e, fun b e => e, fun b e => .inl e⟩
  refine h _ _ _ _ _ _ _ _ _ (fun b z => z) ⟨ER.start (.ofL r), hr⟩ hd ⟨fun G' pl' σ' H' e' m' q l sr => ?_, fun dv m' G' pl' H' v q l hr' rv => ?_, fun _ _ _ _ _ _ q => q.elim, fun _ _ _ _ _ _ q => q.elim⟩
  · exact K (.d .none) G' H' .non q l.g sr.hp.sub (fun b o e => sr.hp.h0 b o id id e) sr.hp.nw (show Da G' .non .none from .non)
  · obtain ⟨np, q⟩ := rtP_inv (k := k) (o := dN m') q
    exact K dv G' H' v q l.g hr'.sub (fun b o e => hr'.h0 b o id id e) hr'.nw (rv.none np)
/-- the ends of a def that draws -/
def eN (k : DV → Nat → Prop) : DEnds := { nx := fun _ m => rtN k (.d .none) (dN m), rt := rtN k, bk := fun _ _ => False, ct := fun _ _ => False }
theorem runN {t : TS} {d : DS} {N : List Str} {a c r : Addr} {j : Nat} {ws : List V} {ds : List PyData} {k : DV → Nat → Prop} {G H : Hp} {Q : VK} (h : SS t d) (dr : Drw H a c r j) (ga : G a = none) (gc : G c = none) (gr : G r = none) (sub : Same G H) (rs : DaL G ws ds)
    (K : ∀ dv j' G' H' v, k dv j' → Same G G' → Same G' H' → (∀ b o, b ≠ a → b ≠ c → b ≠ r → H b = some o → H' b = some o) → (∀ b, H b ≠ none → H' b ≠ none) → Frs G H G' → Drw H' a c r j' → RV G' noPl 0 v dv → Q v H')
    (hd : d (eN k) (dStart N.length (.p 0 :: ds.map DV.d)) [.drw j]) : t { nx := fun _ H' => Q .non H', rt := Q } (L2.start N (.ref a :: ws)) H := by
  have one : ∀ i o, ([MO.drw j] : Mu)[i]? = some o → i = 0 ∧ o = .drw j := fun i o e => by
    cases i with
    | zero => cases e; exact ⟨rfl, rfl⟩
    | succ i => simp at e
  have mem : ∀ b, b ∈ foot ⟨a, c, r⟩ (.drw j) ↔ b = a ∨ b = c ∨ b = r := fun b => by simp [foot]
  have hr : HR ⟨G, H, fun b => b = a ∨ b = c ∨ b = r, fun _ => False⟩ G (fun _ => ⟨a, c, r⟩) H [.drw j] := by
    refine ⟨sub, fun i o e => ?_, fun i o b e f => ?_, fun i o b e f => ?_, fun i i' o o' b ne e e' => ?_, .refl G, fun b o _ _ e => e, fun b e => e, fun b e => .inl e⟩
    · obtain ⟨rfl, rfl⟩ := one i o e
      exact dr
    · obtain ⟨rfl, rfl⟩ := one i o e
      rcases (mem b).mp f with z | z | z <;> rw [z]
      · exact ga
      · exact gc
      · exact gr
    · obtain ⟨rfl, rfl⟩ := one i o e
      exact .inl ((mem b).mp f)
    · obtain ⟨rfl, _⟩ := one i o e
      obtain ⟨rfl, _⟩ := one i' o' e'
      exact absurd rfl ne
  have fin : ∀ {dv : DV} {m' : Mu} {G' : Hp} {pl' : Nat → Pl} {H' : Hp} {v : V}, rtN k dv (dN m') → Le G (fun _ => ⟨a, c, r⟩) ([MO.drw j] : Mu).length G' pl' m'.length → HR ⟨G, H, fun b => b = a ∨ b = c ∨ b = r, fun _ => False⟩ G' pl' H' m' → RV G' pl' m'.length v dv → Q v H' := fun {dv m' G' pl' H' v} q l hr' rv => by
    obtain ⟨np, j', ej, q2⟩ := rtN_inv q
    obtain ⟨ms, rfl⟩ := dN_inv ej
    have d' := hr'.mo 0 (.drw j') rfl
    rw [l.p 0 (Nat.zero_lt_one)] at d'
    exact K dv j' G' H' v q2 l.g hr'.sub (fun b o n1 n2 n3 e => hr'.h0 b o (fun z => by rcases z with z | z | z; exact n1 z; exact n2 z; exact n3 z) id e) hr'.up hr'.nw d' (rv.none np)
  refine h _ _ _ _ _ _ _ _ _ (fun b z => z) ⟨ER.start (.cons (show RV G (fun _ => ⟨a, c, r⟩) ([MO.drw j] : Mu).length (.ref a) (.p 0) from ⟨Nat.zero_lt_one, rfl⟩) (.ofL rs)), hr⟩ hd ⟨fun G' pl' σ' H' e' m' q l sr => ?_, fun dv m' G' pl' H' v q l hr' rv => fin q l hr' rv, fun _ _ _ _ _ _ q => q.elim, fun _ _ _ _ _ _ q => q.elim⟩
  exact fin q l sr.hp (show RV G' pl' m'.length .non (.d .none) from .non)
end PM

namespace PM
open PySem PySem.Spec PyProof.Rows L2 RZ
section
variable {X : Cx}
/-! ### + and * of any kind -/
def rAddA (K : PySem.W.Frag) : R2 := fun x y H Q => rI0 (fun i j => .int (i + j)) x y H Q ∨ rCat x y H Q ∨ rCatA K x y H Q
theorem op_addA : OpR X (binaryOp .Add) (rAddA X.K) := op_add.or (op_cat.or op_catA)
def rMulA (K : PySem.W.Frag) : R2 := fun x y H Q => rI CMulW (fun i j => .int (i * j)) x y H Q ∨ rRep x y H Q
theorem op_mulA : OpR X (binaryOp .Mult) (rMulA X.K) := op_mulW.or op_rep
def rEqA (K : PySem.W.Frag) : R2 := fun x y H Q => rEq x y H Q ∨ rEqD K x y H Q
def rNeA (K : PySem.W.Frag) : R2 := fun x y H Q => rNe x y H Q ∨ rNeD K x y H Q
theorem op_eqA (hu : X.A.units + 64 < cLine) : OpR X (compareOp .Eq) (rEqA X.K) := op_eq.or (op_eqD hu)
theorem op_neA (hu : X.A.units + 64 < cLine) : OpR X (compareOp .NotEq) (rNeA X.K) := op_ne.or (op_neD hu)
def rSlS (K : PySem.W.Frag) : V → Option Int → Option Int → Hp → VK → Prop := fun x lo hi H Q => rSlL K x lo hi H Q ∨ rSlA K x lo hi H Q
theorem sl_seq : SlR X (rSlS X.K) := sl_list.or sl_tupA
end
def fAddA (m : Mu) (x y : DV) (k : DV → Prop) : Prop := match x, y with
  | .d (.int i), .d (.int j) => k (.d (.int (i + j)))
  | .d (.tuple xs), .d (.tuple ys) => xs.length + ys.length ≤ 1000000 ∧ k (.d (.tuple (xs ++ ys)))
  | x, y => ∃ xs ys, rdL m x = some xs ∧ rdL m y = some ys ∧ xs.length + ys.length ≤ 1000000 ∧ k (.d (.list (xs ++ ys)))
theorem DaL.nil_iff {G : Hp} {xs : List V} {ds : List PyData} (h : DaL G xs ds) : xs = [] ↔ ds = [] := by
  cases h <;> simp
theorem os_addA (K : PySem.W.Frag) : OpS (rAddA K) fAddA := fun c G pl σ H e m x y dx dy k Q sr rx ry d KK => by
  unfold fAddA at d
  split at d
  · exact .inl ⟨_, _, rx.int_inv, ry.int_inv, KK.val sr d (show Da G _ _ from .int _)⟩
  · obtain ⟨hz, d⟩ := d
    cases (show Da G x _ from rx) with
    | @tup a xs' _ e1 e2 =>
      cases (show Da G y _ from ry) with
      | @tup b ys' _ g1 g2 =>
        refine .inr (.inr ⟨a, b, _, _, rfl, rfl, .inl (.inl (sr.hp.sub _ _ e1)), .inl (.inl (sr.hp.sub _ _ g1)), by rw [e2.length, g2.length]; exact bigS hz, fun z => ?_, fun z1 z2 => ?_, fun _ _ p hp => ?_⟩)
        · have := e2.nil_iff.mp z
          subst this
          exact KK.val sr d (show Da G _ _ from .tup g1 g2)
        · have := g2.nil_iff.mp z2
          subst this
          rw [List.append_nil] at d
          exact KK.val sr d (show Da G _ _ from .tup e1 e2)
        · exact KK.tup sr hp d (DaL.append e2 g2)
  · obtain ⟨xs, ys, h1, h2, hz, d⟩ := d
    obtain ⟨a, us, e1, e2, e3⟩ := sr.list rx h1
    obtain ⟨b, ws, g1, g2, g3⟩ := sr.list ry h2
    exact .inr (.inl ⟨a, b, us, ws, e1, g1, e2, g2, by rw [e3.length, g3.length]; exact bigS hz, fun p hp => KK.lst sr hp d (DaL.append e3 g3)⟩)
theorem DaL.rep {G : Hp} {xs : List V} {ds : List PyData} (h : DaL G xs ds) : ∀ n : Nat, DaL G (List.replicate n xs).flatten (List.replicate n ds).flatten
  | 0 => .nil
  | n + 1 => by
    rw [List.replicate_succ, List.replicate_succ, List.flatten_cons, List.flatten_cons]
    exact DaL.append h (DaL.rep h n)
def fMulA (m : Mu) (x y : DV) (k : DV → Prop) : Prop := match x, y with
  | .d (.int i), .d (.int j) => CMulW i j ∧ k (.d (.int (i * j)))
  | x, .d (.int j) => ∃ xs, rdL m x = some xs ∧ (-(2 ^ 63) ≤ j ∧ j < 2 ^ 63) ∧ xs.length * j.toNat ≤ 1000000 ∧ k (.d (.list (List.replicate j.toNat xs).flatten))
  | _, _ => False
theorem os_mulA (K : PySem.W.Frag) : OpS (rMulA K) fMulA := fun c G pl σ H e m x y dx dy k Q sr rx ry d KK => by
  unfold fMulA at d
  split at d
  · exact .inl ⟨_, _, rx.int_inv, ry.int_inv, d.1, KK.val sr d.2 (show Da G _ _ from .int _)⟩
  · obtain ⟨xs, h1, hj, hz, d⟩ := d
    obtain ⟨a, us, e1, e2, e3⟩ := sr.list rx h1
    exact .inr ⟨a, _, us, e1, ry.int_inv, e2, hj.1, hj.2, by rw [e3.length]; exact bigS hz, fun p hp => KK.lst sr hp d (e3.rep _)⟩
  · exact d.elim
/-! ### a value as data -/
def rdV (m : Mu) : DV → Option PyData
  | .d x => some x
  | .p i => match m[i]? with
    | some (.lst ds) => some (.list ds)
    | _ => none
  | .dic _ => none
  | .any _ => none
theorem SR.data {c : Fr0} {G H : Hp} {pl : Nat → Pl} {σ : L2.St} {e : DEnv} {m : Mu} (sr : SR c G pl σ H e m) {v : V} {dv : DV} {d : PyData} (r : RV G pl m.length v dv) (h : rdV m dv = some d) : Da H v d := by
  cases dv with
  | d x => cases h; exact Da.same sr.hp.sub r
  | dic kvs => cases h
  | any f => cases h
  | p i =>
    simp only [rdV] at h
    split at h
    · rename_i ds q
      cases h
      obtain ⟨xs, h1, h2⟩ := sr.hp.mo _ _ q
      rw [r.2]
      exact .lst h1 (h2.same sr.hp.sub)
    · cases h
def eqB : PyData → PyData → Bool
  | .int i, .int j => decide (i = j)
  | .str x, .str y => decide (x = y)
  | x, y => PyData.eqv x y
def eqOk : PyData → PyData → Prop
  | .int _, .int _ => True
  | .str _, .str _ => True
  | x, y => SeqAt.shaped x = true ∧ SeqAt.shaped y = true
def fEq (m : Mu) (x y : DV) (k : DV → Prop) : Prop := match rdV m x, rdV m y with
  | some a, some b => eqOk a b ∧ k (.d (.bool (eqB a b)))
  | _, _ => False
def fNe (m : Mu) (x y : DV) (k : DV → Prop) : Prop := match rdV m x, rdV m y with
  | some a, some b => eqOk a b ∧ k (.d (.bool (!eqB a b)))
  | _, _ => False
theorem shaped_nd {d : PyData} (h : SeqAt.shaped d = true) : d.hasDict = false := by
  have h1 : d.canLay0 = true := (Bool.and_eq_true_iff.mp h).1
  exact canLay0_nd h1
where
  canLay0_nd : ∀ {d : PyData}, d.canLay0 = true → d.hasDict = false
    | .none, _ => rfl
    | .bool _, _ => rfl
    | .int _, _ => rfl
    | .str _, _ => rfl
    | .list ds, h => by
      unfold PyData.canLay0 at h
      unfold PyData.hasDict
      exact canLayAll0_nd h
    | .tuple ds, h => by
      unfold PyData.canLay0 at h
      unfold PyData.hasDict
      exact canLayAll0_nd h
    | .dict _, h => by
      unfold PyData.canLay0 at h
      cases h
  canLayAll0_nd : ∀ {ds : List PyData}, PyData.canLayAll0 ds = true → PyData.hasDictAll ds = false
    | [], _ => rfl
    | d :: ds, h => by
      unfold PyData.canLayAll0 at h
      unfold PyData.hasDictAll
      rw [canLay0_nd (Bool.and_eq_true_iff.mp h).1, canLayAll0_nd (Bool.and_eq_true_iff.mp h).2]
      rfl
theorem eq_cases (x y : PyData) : (∃ i j, x = .int i ∧ y = .int j) ∨ (∃ i j, x = .str i ∧ y = .str j) ∨ (eqB x y = PyData.eqv x y ∧ (eqOk x y → SeqAt.shaped x = true ∧ SeqAt.shaped y = true)) := by
  cases x <;> cases y <;> first | exact .inl ⟨_, _, rfl, rfl⟩ | exact .inr (.inl ⟨_, _, rfl, rfl⟩) | exact .inr (.inr ⟨rfl, fun h => h⟩)
theorem os_eq (K : PySem.W.Frag) : OpS (rEqA K) fEq := fun c G pl σ H e m x y dx dy k Q sr rx ry d KK => by
  unfold fEq at d
  split at d
  · rename_i a b ha hb
    have h1 := sr.data rx ha
    have h2 := sr.data ry hb
    rcases eq_cases a b with ⟨i, j, rfl, rfl⟩ | ⟨i, j, rfl, rfl⟩ | ⟨ee, sh⟩
    · cases h1
      cases h2
      refine .inl ⟨rfl, ?_⟩
      have : decide (V.int i = V.int j) = decide (i = j) := by
        by_cases z : i = j
        · subst z; simp
        · rw [decide_eq_false z, decide_eq_false (fun w => z (V.int.inj w))]
      rw [this]
      exact KK.val sr d.2 (show Da G _ _ from .bl _)
    · cases h1
      cases h2
      refine .inl ⟨rfl, ?_⟩
      have : decide (V.str i = V.str j) = decide (i = j) := by
        by_cases z : i = j
        · subst z; simp
        · rw [decide_eq_false z, decide_eq_false (fun w => z (V.str.inj w))]
      rw [this]
      exact KK.val sr d.2 (show Da G _ _ from .bl _)
    · obtain ⟨s1, s2⟩ := sh d.1
      refine .inr ⟨a, b, h1.dp (shaped_nd s1), h2.dp (shaped_nd s2), s1, s2, ?_⟩
      rw [← ee]
      exact KK.val sr d.2 (show Da G _ _ from .bl _)
  · exact d.elim
theorem os_ne (K : PySem.W.Frag) : OpS (rNeA K) fNe := fun c G pl σ H e m x y dx dy k Q sr rx ry d KK => by
  unfold fNe at d
  split at d
  · rename_i a b ha hb
    have h1 := sr.data rx ha
    have h2 := sr.data ry hb
    rcases eq_cases a b with ⟨i, j, rfl, rfl⟩ | ⟨i, j, rfl, rfl⟩ | ⟨ee, sh⟩
    · cases h1
      cases h2
      refine .inl ⟨rfl, ?_⟩
      have : decide (V.int i = V.int j) = decide (i = j) := by
        by_cases z : i = j
        · subst z; simp
        · rw [decide_eq_false z, decide_eq_false (fun w => z (V.int.inj w))]
      rw [this]
      exact KK.val sr d.2 (show Da G _ _ from .bl _)
    · cases h1
      cases h2
      refine .inl ⟨rfl, ?_⟩
      have : decide (V.str i = V.str j) = decide (i = j) := by
        by_cases z : i = j
        · subst z; simp
        · rw [decide_eq_false z, decide_eq_false (fun w => z (V.str.inj w))]
      rw [this]
      exact KK.val sr d.2 (show Da G _ _ from .bl _)
    · obtain ⟨s1, s2⟩ := sh d.1
      refine .inr ⟨a, b, h1.dp (shaped_nd s1), h2.dp (shaped_nd s2), s1, s2, ?_⟩
      rw [← ee]
      exact KK.val sr d.2 (show Da G _ _ from .bl _)
  · exact d.elim
/-- is None, is not None -/
def isN : DV → Bool
  | .d .none => true
  | _ => false
def fIsN (m : Mu) (x y : DV) (k : DV → Prop) : Prop := match y with
  | .d .none => k (.d (.bool (isN x)))
  | _ => False
def fNotN (m : Mu) (x y : DV) (k : DV → Prop) : Prop := match y with
  | .d .none => k (.d (.bool (!isN x)))
  | _ => False
theorem RV.isN {G : Hp} {pl : Nat → Pl} {n : Nat} {v : V} {dv : DV} (h : RV G pl n v dv) : decide (v = .non) = isN dv := by
  cases dv with
  | d x => cases (show Da G v x from h) <;> rfl
  | dic kvs =>
    obtain ⟨a, _, rfl, _⟩ := h
    rfl
  | any f =>
    obtain ⟨a, rfl⟩ := f.ref h
    rfl
  | p i => rw [h.2]; rfl
theorem os_isN : OpS (fun x y H Q => y = .non ∧ Q (.bl (decide (x = .non))) H) fIsN := fun c G pl σ H e m x y dx dy k Q sr rx ry d KK => by
  unfold fIsN at d
  split at d
  · cases (show Da G y .none from ry)
    refine ⟨rfl, ?_⟩
    rw [rx.isN]
    exact KK.val sr d (show Da G _ _ from .bl _)
  · exact d.elim
theorem os_notN : OpS (fun x y H Q => y = .non ∧ Q (.bl (!decide (x = .non))) H) fNotN := fun c G pl σ H e m x y dx dy k Q sr rx ry d KK => by
  unfold fNotN at d
  split at d
  · cases (show Da G y .none from ry)
    refine ⟨rfl, ?_⟩
    rw [rx.isN]
    exact KK.val sr d (show Da G _ _ from .bl _)
  · exact d.elim
/-! ### slices -/
def doNone : DO := fun _ m k => k none m
def doSome (a : DE) : DO := fun e m k => a e m fun x m1 => match x with
  | .d (.int i) => k (some i) m1
  | _ => False
theorem so_none : SO tNoPart doNone := fun c G pl σ H e m k Q sr d K => K.val sr d rfl
theorem so_some {ta : TE} {da : DE} (h : SE ta da) : SO (tPart ta) (doSome da) := fun c G pl σ H e m k Q sr d K => h _ _ _ _ _ _ _ _ _ sr d fun x m1 G1 pl1 H1 v1 d1 l1 sr1 r1 => by
  split at d1
  · exact ⟨_, r1.int_inv, K _ _ _ _ _ _ d1 l1 sr1 rfl⟩
  · exact d1.elim
def cutD (xs : List PyData) (lo hi : Option Int) : List PyData := (xs.drop (HT.sIx xs.length 0 lo)).take (HT.sIx xs.length xs.length hi - HT.sIx xs.length 0 lo)
theorem DaL.cut {G : Hp} {xs : List V} {ds : List PyData} (h : DaL G xs ds) (lo hi : Option Int) : DaL G (cutV xs lo hi) (cutD ds lo hi) := by
  unfold cutV cutD
  rw [h.length]
  exact (h.drop _).take _
def fSl (m : Mu) (x : DV) (lo hi : Option Int) (k : DV → Prop) : Prop := match x with
  | .d (.tuple ds) => k (.d (.tuple (cutD ds lo hi)))
  | x => ∃ ds, rdL m x = some ds ∧ k (.d (.list (cutD ds lo hi)))
def dSl (a : DE) (lo hi : DO) : DE := fun e m k => a e m fun x m1 => lo e m1 fun l m2 => hi e m2 fun u m3 => fSl m3 x l u fun z => k z m3
theorem cut_whole {ds : List PyData} {lo hi : Option Int} (h : HT.sIx ds.length 0 lo = 0 ∧ HT.sIx ds.length ds.length hi = ds.length) : cutD ds lo hi = ds := by
  unfold cutD
  rw [h.1, h.2, List.drop_zero, Nat.sub_zero, List.take_length]
theorem se_sl (K : PySem.W.Frag) {ta : TE} {tl th : TO} {da : DE} {dl dh : DO} (ha : SE ta da) (hl : SO tl dl) (hh : SO th dh) : SE (tSl (rSlS K) ta tl th) (dSl da dl dh) := fun c G pl σ H e m k Q sr d KK =>
  ha _ _ _ _ _ _ _ _ _ sr d fun x m1 G1 pl1 H1 v1 d1 l1 sr1 r1 => hl _ _ _ _ _ _ _ _ _ sr1 d1 fun lo m2 G2 pl2 H2 lo' d2 l2 sr2 r2 => hh _ _ _ _ _ _ _ _ _ sr2 d2 fun hi m3 G3 pl3 H3 hi' d3 l3 sr3 r3 => by
    subst r2 r3
    have lw := (l1.trans l2).trans l3
    have r := r1.le (l2.trans l3)
    unfold fSl at d3
    split at d3
    · rename_i ds
      cases (show Da G3 v1 _ from r) with
      | @tup a xs _ e1 e2 =>
        refine .inr ⟨a, xs, rfl, .inl (.inl (sr3.hp.sub _ _ e1)), fun z => ?_, fun _ p hp => ?_⟩
        · rw [e2.length] at z
          rw [cut_whole z] at d3
          exact (KK.le lw).val sr3 d3 (show Da G3 _ _ from .tup e1 e2)
        · exact (KK.le lw).tup sr3 hp d3 (e2.cut _ _)
    · obtain ⟨ds, h1, d3⟩ := d3
      obtain ⟨a, us, e1, e2, e3⟩ := sr3.list r h1
      exact .inl ⟨a, us, e1, .inl (.inl e2), fun p hp => (KK.le lw).lst sr3 hp d3 (e3.cut _ _)⟩
/-- sorted(a list of ints) -/
def fSort (m : Mu) (xs : List DV) (k : DV → Prop) : Prop := match xs with
  | [x] => ∃ is : List Int, rdL m x = some (is.map PyData.int) ∧ ∀ js : List Int, js.Perm is → js.Pairwise (· ≤ ·) → k (.d (.list (js.map PyData.int)))
  | _ => False
theorem DaL_ints (G : Hp) : ∀ is : List Int, DaL G (is.map V.int) (is.map PyData.int)
  | [] => .nil
  | i :: is => .cons (.int i) (DaL_ints G is)
theorem cs_sort (K : PySem.W.Frag) : CaS (rSortedI K) fSort := fun c G pl σ H e m xs ds k Q sr r d KK => by
  unfold fSort at d
  split at d
  · cases r with
    | cons ra t =>
      cases t
      obtain ⟨is, h1, d⟩ := d
      obtain ⟨a, ys, e1, e2, e3⟩ := sr.list ra h1
      cases e3.ints
      exact ⟨a, is, by rw [e1], .inl (.inl e2), fun js p p1 p2 hp => KK.lst sr hp (d js p1 p2) (DaL_ints G js)⟩
  · exact d.elim
/-! ### xs += ys -/
def dAugL (i : Nat) (a : DE) : DS := fun E e m => match lk e i with
  | some (.p j) => a e m fun x m1 => ∃ ds es, m1[j]? = some (.lst ds) ∧ rdL m1 x = some es ∧ ds.length + es.length ≤ 1000000 ∧ (∀ j', x ≠ .p j') ∧ E.nx e (m1.set j (.lst (ds ++ es)))
  | _ => False
theorem ss_augL {te : TE} {de : DE} (i : Nat) (h : SE te de) : SS (tAug i te rExt2) (dAugL i de) := fun c G pl σ H e m D E hL sr d KK => by
  unfold dAugL at d
  split at d
  · rename_i j q
    obtain ⟨v, h1, h2⟩ := sr.env.get i _ q
    obtain ⟨hj, rfl⟩ := h2
    refine ⟨_, h1, h _ _ _ _ _ _ _ _ _ sr d fun x m1 G1 pl1 H1 v1 d1 l1 sr1 r1 => ?_⟩
    obtain ⟨ds, es, q1, q2, hz, np, d1⟩ := d1
    obtain ⟨xs, hx, hd⟩ := sr1.hp.mo _ _ q1
    obtain ⟨b, ys, e1, e2, e3⟩ := sr1.list r1 q2
    rw [l1.p j hj] at hx
    refine ⟨_, b, xs, ys, rfl, e1, hx, e2, by rw [hd.length, e3.length]; exact bigS hz, ?_⟩
    have hp := sr1.hp.put (o' := .lst (ds ++ es)) (ob := .lst (xs ++ ys)) q1 rfl rfl rfl rfl ⟨xs ++ ys, upd_same, DaL.append hd e3⟩
    rw [l1.p j hj] at hp
    have l2 : ∀ o, Le G1 pl1 m1.length G1 pl1 (m1.set j o).length := fun o => ⟨.refl _, fun _ _ => rfl, by simp⟩
    refine KK.nx _ _ _ _ _ _ d1 (l1.trans (l2 _)) ⟨⟨by rw [List.length_set]; exact sr1.env.len, fun i' dv x => ?_⟩, hp⟩
    obtain ⟨u, w1, w2⟩ := (sr1.env.le (l2 (.lst (ds ++ es)))).get i' dv x
    by_cases z : i = i'
    · subst z
      rw [q] at x
      cases x
      refine ⟨.ref (pl j).a, ?_, w2.1, by rw [l1.p j hj]⟩
      rw [List.getElem?_set_self]
      rcases Nat.lt_or_ge i σ.length with y | y
      · exact y
      · rw [List.getElem?_eq_none y] at h1; cases h1
    · exact ⟨u, by rw [List.getElem?_set_ne z]; exact w1, w2⟩
  · exact d.elim
end PM

namespace PM
open PySem PySem.Spec PyProof.Rows L2 RZ
section
variable {X : Cx}
/-- an own exception class without own __init__, made without arguments -/
theorem pmk_bare {C : Addr} {bmB : List Value} {B newId initId : String} {x : Str} {p pos : Pos} (F : ExcBaseFacts B newId initId bmB) (q : PySem.W.excIn X.K C bmB newId = true) (gC : X.mg x = some (.ref C))
    (kC : PySem.W.keepIn X.K (.ref C) = true) (r : Raises X (.ref C)) (hg : Gl X x) (hdb : (x == ("__debug__" : Str)) = false := by decide) : PMk X (.Call (.Name x p) [] [] pos) (fun _ H Q => Q (.ref C) none H) := by
  intro pins s σ H Q I h
  refine wpAny_Call_Name_kw (ld_glob I hg gC ?_ hdb)
  refine PySem.W.callWith_K0 I.kIn kC ?_
  obtain ⟨bm, N, nm, qn, bs, hdct, sn, sub, ab, col, dd, k0, k1, k2, k3, k5, mN, hC, hN, hni, T⟩ := exc_obj I.kIn q
  refine wpAny_call_exc_subT F T hC hN hni (fun h' e hm => ?_) (Nat.zero_le _)
  exact mk_of I hm r h (I.hok.gone hm.new)
/-- isinstance of the error that the suite holds, whatever its class -/
theorem call_held {a : Addr} {oe : Obj} {cls : Value} {d : Option Addr} {pn : List (Addr × Obj)} (hz : Zc cls d oe) (hf : ∃ vs, oe.data = .fields vs) :
    CallR (X.suite a ((a, oe) :: pn)) (.builtin "isinstance") (fun xs H Q => ∃ D, cls = .ref D ∧ d = none ∧ ExcC X.K D ∧ rIsE X.K D a xs H Q) := by
  intro pins s σ H xs us Q I r h
  obtain ⟨D, rfl, rfl, C, h⟩ := h
  exact call_isE C hz hf pins s σ H xs us Q I r h
end
/-- what the written part says of an error class at C -/
structure ErrC (K : PySem.W.Frag) (mg : Str → Option Value) (x : Str) (C : Addr) : Prop where
  g : mg x = some (.ref C)
  x : PySem.W.excIn K C [.type "ValueError", .type "Exception", .type "BaseException", .type "object"] "ValueError.__new__" = true
  k : PySem.W.keepIn K (.ref C) = true
  b : PySem.W.subIn K (.ref C) (.type "BaseException") = some true
  t : PySem.W.typeIn K (.ref C) = some (.type "type")
  e : ExcC K C
  s : PySem.W.subIn K (.ref C) (.ref C) = some true
theorem frDa {H : Hp} {p : Addr} {x : Int × Int} (h : FrAt H p x) : Da H (.ref p) (fd x) := .tup h (.cons (.int _) (.cons (.int _) .nil))
theorem plain_fd (x : Int × Int) : plainD (fd x) = true := rfl
theorem deq_fd {x y : Int × Int} (h : x = y) : deq (fd x) (fd y) = true := by
  subst h
  show ((x.1 == x.1) && ((x.2 == x.2) && true)) = true
  simp
theorem gName_int {i : Nat} {x : Int} {σ : L2.St} {H : Hp} {k : L2.St → Hp → Prop} (h : ∀ z, z = x → gName i (V.int z) σ H k) : gName i (V.int x) σ H k := h x rfl
theorem dep_fd (x : Int × Int) : dep (fd x) < 2 := by
  show max 0 (max 0 0) + 1 < 2
  decide
theorem neD {d d' : PyData} {A B : Prop} (h : deq d d' = true) (k : B) : if (!deq d d') = true then A else B := by
  rw [h]
  exact k
end PM

namespace PM
open PySem PySem.Spec PyProof.Rows L2 RZ
/-! ### promises by the number of arguments -/
def sp0 (F : (DV → Prop) → Prop) : SpP := fun ds k => match ds with
  | [] => F k
  | _ => False
def sp1 (F : PyData → (DV → Prop) → Prop) : SpP := fun ds k => match ds with
  | [a] => F a k
  | _ => False
def sp2 (F : PyData → PyData → (DV → Prop) → Prop) : SpP := fun ds k => match ds with
  | [a, b] => F a b k
  | _ => False
def sp3 (F : PyData → PyData → PyData → (DV → Prop) → Prop) : SpP := fun ds k => match ds with
  | [a, b, c] => F a b c k
  | _ => False
def sp4 (F : PyData → PyData → PyData → PyData → (DV → Prop) → Prop) : SpP := fun ds k => match ds with
  | [a, b, c, d] => F a b c d k
  | _ => False
theorem sp0_inv {F} {ds : List PyData} {k : DV → Prop} (h : sp0 F ds k) : ds = [] ∧ F k := by
  unfold sp0 at h
  split at h
  · exact ⟨rfl, h⟩
  · exact h.elim
theorem sp1_inv {F} {ds : List PyData} {k : DV → Prop} (h : sp1 F ds k) : ∃ a, ds = [a] ∧ F a k := by
  unfold sp1 at h
  split at h
  · exact ⟨_, rfl, h⟩
  · exact h.elim
theorem sp2_inv {F} {ds : List PyData} {k : DV → Prop} (h : sp2 F ds k) : ∃ a b, ds = [a, b] ∧ F a b k := by
  unfold sp2 at h
  split at h
  · exact ⟨_, _, rfl, h⟩
  · exact h.elim
theorem sp3_inv {F} {ds : List PyData} {k : DV → Prop} (h : sp3 F ds k) : ∃ a b c, ds = [a, b, c] ∧ F a b c k := by
  unfold sp3 at h
  split at h
  · exact ⟨_, _, _, rfl, h⟩
  · exact h.elim
theorem sp4_inv {F} {ds : List PyData} {k : DV → Prop} (h : sp4 F ds k) : ∃ a b c d, ds = [a, b, c, d] ∧ F a b c d k := by
  unfold sp4 at h
  split at h
  · exact ⟨_, _, _, _, rfl, h⟩
  · exact h.elim
theorem sp0_len {F} {ds : List PyData} {k : DV → Prop} (h : sp0 F ds k) : ds.length = 0 := by
  obtain ⟨rfl, _⟩ := sp0_inv h
  rfl
theorem sp1_len {F} {ds : List PyData} {k : DV → Prop} (h : sp1 F ds k) : ds.length = 1 := by
  obtain ⟨_, rfl, _⟩ := sp1_inv h
  rfl
theorem sp2_len {F} {ds : List PyData} {k : DV → Prop} (h : sp2 F ds k) : ds.length = 2 := by
  obtain ⟨_, _, rfl, _⟩ := sp2_inv h
  rfl
theorem sp3_len {F} {ds : List PyData} {k : DV → Prop} (h : sp3 F ds k) : ds.length = 3 := by
  obtain ⟨_, _, _, rfl, _⟩ := sp3_inv h
  rfl
theorem sp4_len {F} {ds : List PyData} {k : DV → Prop} (h : sp4 F ds k) : ds.length = 4 := by
  obtain ⟨_, _, _, _, rfl, _⟩ := sp4_inv h
  rfl
def sn0 (F : Nat → (DV → Nat → Prop) → Prop) : SpN := fun j ds k => match ds with
  | [] => F j k
  | _ => False
def sn1 (F : Nat → PyData → (DV → Nat → Prop) → Prop) : SpN := fun j ds k => match ds with
  | [a] => F j a k
  | _ => False
def sn2 (F : Nat → PyData → PyData → (DV → Nat → Prop) → Prop) : SpN := fun j ds k => match ds with
  | [a, b] => F j a b k
  | _ => False
def sn3 (F : Nat → PyData → PyData → PyData → (DV → Nat → Prop) → Prop) : SpN := fun j ds k => match ds with
  | [a, b, c] => F j a b c k
  | _ => False
theorem sn0_inv {F} {j : Nat} {ds : List PyData} {k : DV → Nat → Prop} (h : sn0 F j ds k) : ds = [] ∧ F j k := by
  unfold sn0 at h
  split at h
  · exact ⟨rfl, h⟩
  · exact h.elim
theorem sn1_inv {F} {j : Nat} {ds : List PyData} {k : DV → Nat → Prop} (h : sn1 F j ds k) : ∃ a, ds = [a] ∧ F j a k := by
  unfold sn1 at h
  split at h
  · exact ⟨_, rfl, h⟩
  · exact h.elim
theorem sn2_inv {F} {j : Nat} {ds : List PyData} {k : DV → Nat → Prop} (h : sn2 F j ds k) : ∃ a b, ds = [a, b] ∧ F j a b k := by
  unfold sn2 at h
  split at h
  · exact ⟨_, _, rfl, h⟩
  · exact h.elim
theorem sn3_inv {F} {j : Nat} {ds : List PyData} {k : DV → Nat → Prop} (h : sn3 F j ds k) : ∃ a b c, ds = [a, b, c] ∧ F j a b c k := by
  unfold sn3 at h
  split at h
  · exact ⟨_, _, _, rfl, h⟩
  · exact h.elim
theorem sn0_len {F} {j : Nat} {ds : List PyData} {k : DV → Nat → Prop} (h : sn0 F j ds k) : ds.length = 0 := by
  obtain ⟨rfl, _⟩ := sn0_inv h
  rfl
theorem sn1_len {F} {j : Nat} {ds : List PyData} {k : DV → Nat → Prop} (h : sn1 F j ds k) : ds.length = 1 := by
  obtain ⟨_, rfl, _⟩ := sn1_inv h
  rfl
theorem sn2_len {F} {j : Nat} {ds : List PyData} {k : DV → Nat → Prop} (h : sn2 F j ds k) : ds.length = 2 := by
  obtain ⟨_, _, rfl, _⟩ := sn2_inv h
  rfl
theorem sn3_len {F} {j : Nat} {ds : List PyData} {k : DV → Nat → Prop} (h : sn3 F j ds k) : ds.length = 3 := by
  obtain ⟨_, _, _, rfl, _⟩ := sn3_inv h
  rfl
/-! ### the law's own helpers -/
abbrev S__law_next : SpN := sn1 fun j a k => ∃ m : Int, a = .int m ∧ j < 900000 ∧ 0 < m ∧ m.natAbs.log2 < 9000 ∧ ∀ v : Int, 0 ≤ v → v < m → k (.d (.int v)) (j + 1)
abbrev S__law_equal : SpP := sp2 fun a b k => plainD a = true ∧ plainD b = true ∧ dep a < 8 ∧ k (.d (.bool (deq a b)))
theorem log9 {m : Int} {b : Nat} (h : m.natAbs < 2 ^ b) (b0 : 0 < b) (b9 : b ≤ 9000) : m.natAbs.log2 < 9000 := Nat.lt_of_lt_of_le (PySem.Flt.log2_lt_of b0 h) b9
/-! ### a law's body behind the drawn numbers -/
def eL : DEnds := { nx := fun _ _ => False, rt := fun dv _ => dv = .d (.bool true), bk := fun _ _ => False, ct := fun _ _ => False }
theorem runL {t : TS} {d : DS} {n : Nat} {pa c r : Addr} {H : Hp} {σ : L2.St} (h : SS t d) (dr : Drw H pa c r 0) (hs : σ[1]? = some (some (.ref pa))) (hn : σ.length = n + 2)
    (hd : d eL (none :: some (.p 0) :: List.replicate n none) [.drw 0]) : t { nx := fun _ _ => V.non = .bl true, rt := fun v _ => v = .bl true } σ H := by
  have one : ∀ i o, ([MO.drw 0] : Mu)[i]? = some o → i = 0 ∧ o = .drw 0 := fun i o e => by
    cases i with
    | zero => cases e; exact ⟨rfl, rfl⟩
    | succ i => simp at e
  have hr : HR ⟨fun _ => none, fun _ => none, fun _ => False, fun _ => False⟩ (fun _ => none) (fun _ => ⟨pa, c, r⟩) H [.drw 0] := by
    refine ⟨(fun b o e => by cases e), fun i o e => ?_, fun i o b e f => rfl, fun i o b e f => .inr rfl, fun i i' o o' b ne e e' => ?_, (fun b o e => by cases e), (fun b o _ _ e => by cases e), fun b e => absurd rfl e, fun b e => absurd rfl e⟩
    · obtain ⟨rfl, rfl⟩ := one i o e
      exact dr
    · obtain ⟨rfl, _⟩ := one i o e
      obtain ⟨rfl, _⟩ := one i' o' e'
      exact absurd rfl ne
  have er : ER (fun _ => none) (fun _ => ⟨pa, c, r⟩) ([MO.drw 0] : Mu).length σ (none :: some (.p 0) :: List.replicate n none) := by
    refine ⟨by rw [hn, List.length_cons, List.length_cons, List.length_replicate], fun i dv e => ?_⟩
    match i, e with
    | 0, e => cases e
    | 1, e =>
      cases e
      exact ⟨_, hs, Nat.zero_lt_one, rfl⟩
    | i + 2, e =>
      have e : lk (List.replicate n none) i = some dv := e
      rw [lk_none] at e
      cases e
  refine h _ _ _ _ _ _ _ _ _ (fun b z => z) ⟨er, hr⟩ hd ⟨fun G' pl' σ' H' e' m' q l sr => q.elim, fun dv m' G' pl' H' v q l hr' rv => ?_, fun _ _ _ _ _ _ q => q.elim, fun _ _ _ _ _ _ q => q.elim⟩
  have q : dv = .d (.bool true) := q
  subst q
  exact rv.bl_inv
/-! ### repr, at a law's own place -/
def fRepr (m : Mu) (xs : List DV) (k : DV → Prop) : Prop := match xs with
  | [x] => ∃ d, rdV m x = some d ∧ d.showable = true ∧ d.depth ≤ 60 ∧ d.shown.length ≤ sizeLine ∧ k (.d (.str d.shown))
  | _ => False
theorem cs_repr : CaS rRepr fRepr := fun c G pl σ H e m xs ds k Q sr r d KK => by
  unfold fRepr at d
  split at d
  · cases r with
    | cons ra t =>
      cases t
      obtain ⟨d', h1, h2, h3, h4, d⟩ := d
      exact ⟨_, d', rfl, sr.data ra h1, h2, h3, h4, KK.val sr d (show Da G _ _ from .str _)⟩
  · exact d.elim
end PM

/-! panels as data -/
namespace PM
open PySem PySem.Spec PyProof.Rows L2 RZ
def itD (q : Int × Int) : PyData := .tuple [.int q.1, .int q.2]
def nD (i : Nat) : PyData := .int (i : Nat)
def rlD (q : Nat × Nat) : PyData := .tuple [nD q.1, nD q.2]
def pnD (its : List (Int × Int)) (rls : List (Nat × Nat)) : PyData := .tuple [.tuple (its.map itD), .tuple (rls.map rlD)]
def grD (is : List Nat) : PyData := .tuple (is.map nD)
structure PanOk (most : Nat) (its : List (Int × Int)) (rls : List (Nat × Nat)) : Prop where
  n1 : 1 ≤ its.length
  n8 : its.length ≤ most
  mrk : ∀ q ∈ its, -1000000000 ≤ q.1 ∧ q.1 ≤ 1000000000
  wt : ∀ q ∈ its, 1 ≤ q.2 ∧ q.2 ≤ 1000000
  r16 : rls.length ≤ 16
  rl : ∀ q ∈ rls, q.1 < its.length ∧ q.2 < its.length ∧ q.1 ≠ q.2
def ItsOk (its : List (Int × Int)) : Prop := ∀ q ∈ its, (-1000000000 ≤ q.1 ∧ q.1 ≤ 1000000000) ∧ 1 ≤ q.2 ∧ q.2 ≤ 1000000
theorem at_map {α : Type} {f : α → PyData} {xs : List α} {i : Nat} {x : α} (h : xs[i]? = some x) : atI (xs.map f) (i : Int) = some (f x) :=
  atI_nat (by rw [List.getElem?_map, h]; rfl)
/-- item i -/
def itm (its : List (Int × Int)) (i : Nat) : Int × Int := its.getD i (0, 1)
theorem itm_get {its : List (Int × Int)} {i : Nat} (h : i < its.length) : its[i]? = some (itm its i) := by
  unfold itm
  rw [List.getD_eq_getElem?_getD, List.getElem?_eq_getElem h]
  rfl
theorem itm_mem {its : List (Int × Int)} {i : Nat} (h : i < its.length) : itm its i ∈ its := List.mem_of_getElem? (itm_get h)
theorem at_item {its : List (Int × Int)} {i : Nat} (h : i < its.length) : atI (its.map itD) (i : Int) = some (itD (itm its i)) := at_map (itm_get h)
def wsum (its : List (Int × Int)) (is : List Nat) : Int := (is.map fun i => (itm its i).2 * (itm its i).1).sum
def wgt (its : List (Int × Int)) (is : List Nat) : Int := (is.map fun i => (itm its i).2).sum
theorem sum_snoc (xs : List Int) (x : Int) : (xs ++ [x]).sum = xs.sum + x := by
  rw [List.sum_append]
  simp
theorem wsum_snoc (its : List (Int × Int)) (is : List Nat) (i : Nat) : wsum its (is ++ [i]) = wsum its is + (itm its i).2 * (itm its i).1 := by
  unfold wsum
  rw [List.map_append, List.map_cons, List.map_nil, sum_snoc]
theorem wgt_snoc (its : List (Int × Int)) (is : List Nat) (i : Nat) : wgt its (is ++ [i]) = wgt its is + (itm its i).2 := by
  unfold wgt
  rw [List.map_append, List.map_cons, List.map_nil, sum_snoc]
/-- products of numbers of at most 2000 bits -/
theorem mw {i j : Int} {a b : Nat} (hi : i.natAbs < 2 ^ a) (hj : j.natAbs < 2 ^ b) (ha : 0 < a := by decide) (hb : 0 < b := by decide) (hab : a + b ≤ 900000 := by decide) : CMulW i j := wide_mul hi hj ha hb (by omega)
theorem lg {m : Int} {b : Nat} (h : m.natAbs < 2 ^ b) (b0 : 0 < b := by decide) (b9 : b ≤ 9000 := by decide) : m.natAbs.log2 < 9000 := log9 h b0 b9
theorem map_cons {α : Type} {f : α → PyData} {x : PyData} {r : List PyData} : ∀ {l : List α}, x :: r = l.map f → ∃ a l', l = a :: l' ∧ x = f a ∧ r = l'.map f
  | [], h => by cases h
  | a :: l, h => by
    rw [List.map_cons] at h
    injection h with h1 h2
    exact ⟨a, l, rfl, h1, h2⟩
theorem map_nil {α : Type} {f : α → PyData} : ∀ {l : List α}, [] = l.map f → l = []
  | [], _ => rfl
  | a :: l, h => by cases h
/-- all groups of the k items from lo on, in ascending order -/
def grps : Nat → Nat → List (List Nat)
  | _, 0 => [[]]
  | lo, k + 1 => [] :: ((grps (lo + 1) k).map (lo :: ·) ++ (grps (lo + 1) k).tail)
theorem grps_len : ∀ lo k : Nat, (grps lo k).length = 2 ^ k
  | _, 0 => rfl
  | lo, k + 1 => by
    have ih := grps_len (lo + 1) k
    have pos : 0 < 2 ^ k := Nat.pow_pos (by decide)
    simp only [grps, List.length_cons, List.length_append, List.length_map, List.length_tail, ih, Nat.pow_succ]
    omega
theorem grps_mem : ∀ (lo k : Nat) (g : List Nat), g ∈ grps lo k → (∀ i ∈ g, lo ≤ i ∧ i < lo + k) ∧ g.Pairwise (· < ·)
  | lo, 0, g, h => by
    cases List.mem_singleton.mp h
    exact ⟨(fun i hi => nomatch hi), .nil⟩
  | lo, k + 1, g, h => by
    have ih := grps_mem (lo + 1) k
    simp only [grps, List.mem_cons, List.mem_append, List.mem_map] at h
    rcases h with rfl | ⟨g', h, rfl⟩ | h
    · exact ⟨(fun i hi => nomatch hi), .nil⟩
    · obtain ⟨h1, h2⟩ := ih g' h
      refine ⟨fun i hi => ?_, List.pairwise_cons.mpr ⟨fun i hi => (h1 i hi).1, h2⟩⟩
      rcases List.mem_cons.mp hi with rfl | hi
      · omega
      · have := h1 i hi
        omega
    · obtain ⟨h1, h2⟩ := ih g (List.mem_of_mem_tail h)
      exact ⟨fun i hi => by have := h1 i hi; omega, h2⟩
theorem grps_short : ∀ (lo k : Nat) (g : List Nat), g ∈ grps lo k → g.length ≤ k
  | lo, 0, g, h => by
    cases List.mem_singleton.mp h
    exact Nat.le_refl _
  | lo, k + 1, g, h => by
    have ih := grps_short (lo + 1) k
    simp only [grps, List.mem_cons, List.mem_append, List.mem_map] at h
    rcases h with rfl | ⟨g', h, rfl⟩ | h
    · exact Nat.zero_le _
    · have := ih g' h
      rw [List.length_cons]
      omega
    · have := ih g (List.mem_of_mem_tail h)
      omega
theorem range_at {n x : Nat} {done r : List Nat} (h : List.range n = done ++ x :: r) : x = done.length ∧ done.length < n := by
  have l := congrArg List.length h
  rw [List.length_range, List.length_append, List.length_cons] at l
  have g : (List.range n)[done.length]? = some x := by rw [h]; simp
  rw [List.getElem?_range (by omega)] at g
  exact ⟨(Option.some.inj g).symm, by omega⟩
theorem cut_from (xs : List PyData) (n : Nat) : cutD xs (some (n : Int)) none = xs.drop n := by
  unfold cutD
  rw [HT.sIx_nat, HT.sIx_none]
  by_cases h : n ≤ xs.length
  · rw [Nat.min_eq_left h, List.take_of_length_le (by rw [List.length_drop]; exact Nat.le_refl _)]
  · rw [Nat.min_eq_right (by omega), List.drop_of_length_le (Nat.le_refl _), List.drop_of_length_le (by omega), List.take_nil]
theorem cut_to (xs : List PyData) (n : Nat) : cutD xs none (some (n : Int)) = xs.take n := by
  unfold cutD
  rw [HT.sIx_nat, HT.sIx_none, List.drop_zero, Nat.sub_zero]
  by_cases h : n ≤ xs.length
  · rw [Nat.min_eq_left h]
  · rw [Nat.min_eq_right (by omega), List.take_of_length_le (Nat.le_refl _), List.take_of_length_le (by omega)]
theorem cut_tail (xs : List PyData) : cutD xs (some 1) none = xs.tail := by
  rw [show (some (1 : Int)) = some ((1 : Nat) : Int) from rfl, cut_from, List.drop_one]
theorem grps_step {n L : Nat} (h : L < n) : [PyData.tuple []] ++ (grps (n - L) L).map (fun g => grD ((n - 1 - L) :: g)) ++ cutD ((grps (n - L) L).map grD) (some 1) none = (grps (n - (L + 1)) (L + 1)).map grD := by
  rw [cut_tail]
  have e1 : n - (L + 1) + 1 = n - L := by omega
  have e2 : n - 1 - L = n - (L + 1) := by omega
  simp only [grps, e1, e2, List.map_cons, List.map_append, List.map_map, List.map_tail]
  rfl
/-! ### how long a panel's text is -/
theorem shwL_map {α : Type} {f : α → PyData} {n m : Nat} : ∀ {xs : List α}, (∀ x ∈ xs, Shw (f x) n m) → ShwL (xs.map f) ((n + 2) * xs.length) m
  | [], _ => .nil m
  | x :: xs, h => by
    have := ShwL.cons (h x List.mem_cons_self) (shwL_map fun y hy => h y (List.mem_cons_of_mem _ hy))
    rw [List.map_cons, List.length_cons, show (n + 2) * (xs.length + 1) = n + 2 + (n + 2) * xs.length by rw [Nat.mul_add, Nat.mul_one]; omega]
    exact this
theorem shw_it {q : Int × Int} (h1 : q.1.natAbs < 2 ^ 1000) (h2 : q.2.natAbs < 2 ^ 1000) : Shw (itD q) 3849 1 := Shw.fd (x := q) (b := 1000) ⟨h1, h2⟩ (by decide) (by decide)
theorem shw_nat {i : Nat} (h : i < 1000) : Shw (nD i) 1921 0 := Shw.int (b := 10) (by show (i : Int).natAbs < 2 ^ 10; omega) (by decide) (by decide)
theorem shw_rl {q : Nat × Nat} (h1 : q.1 < 1000) (h2 : q.2 < 1000) : Shw (rlD q) 3849 1 := (Shw.tup (.cons (shw_nat h1) (.cons (shw_nat h2) (.nil 0)))).mono (by decide) (by decide)
theorem PanOk.shw {most : Nat} {its : List (Int × Int)} {rls : List (Nat × Nat)} (h : PanOk most its rls) (hm : most ≤ 8) : Shw (pnD its rls) 100000 3 := by
  have a : Shw (.tuple (its.map itD)) (3851 * 8 + 3) 2 := (Shw.tup (shwL_map fun q hq => shw_it (by have := h.mrk q hq; omega) (by have := h.wt q hq; omega))).mono (by have := h.n8; omega) (by decide)
  have b : Shw (.tuple (rls.map rlD)) (3851 * 16 + 3) 2 := (Shw.tup (shwL_map fun q hq => shw_rl (by have := h.rl q hq; have := h.n8; omega) (by have := h.rl q hq; have := h.n8; omega))).mono (by have := h.r16; omega) (by decide)
  exact (Shw.tup (.cons a (.cons b (.nil 2)))).mono (by decide) (by decide)
/-! ### == of groups and fractions -/
theorem lay_map {α : Type} {f : α → PyData} : ∀ {xs : List α}, (∀ x ∈ xs, (f x).canLay0 = true) → PyData.canLayAll0 (xs.map f) = true
  | [], _ => by simp only [List.map_nil, PyData.canLayAll0]
  | x :: xs, h => by
    simp only [List.map_cons, PyData.canLayAll0]
    rw [h x List.mem_cons_self, lay_map fun y hy => h y (List.mem_cons_of_mem _ hy)]
    rfl
theorem dep_map {α : Type} {f : α → PyData} {n : Nat} : ∀ {xs : List α}, (∀ x ∈ xs, (f x).depth ≤ n) → PyData.depthAll (xs.map f) ≤ n
  | [], _ => by simp only [List.map_nil, PyData.depthAll]; omega
  | x :: xs, h => by
    simp only [List.map_cons, PyData.depthAll]
    exact Nat.max_le.mpr ⟨h x List.mem_cons_self, dep_map fun y hy => h y (List.mem_cons_of_mem _ hy)⟩
theorem lay_n (i : Nat) : (nD i).canLay0 = true := by simp only [nD, PyData.canLay0]
theorem dep_n (i : Nat) : (nD i).depth ≤ 0 := by simp only [nD, PyData.depth]; omega
/-- data without texts and dicts, of small depth -/
structure Lay (n : Nat) (d : PyData) : Prop where
  lay : d.canLay0 = true
  dep : d.depth ≤ n
theorem Lay.int (i : Int) : Lay 0 (.int i) := ⟨by simp only [PyData.canLay0], by simp only [PyData.depth]; omega⟩
theorem Lay.non : Lay 0 .none := ⟨by simp only [PyData.canLay0], by simp only [PyData.depth]; omega⟩
theorem Lay.up {n m : Nat} {d : PyData} (h : Lay n d) (hm : n ≤ m) : Lay m d := ⟨h.lay, Nat.le_trans h.dep hm⟩
theorem Lay.tupM {α : Type} {f : α → PyData} {n : Nat} {xs : List α} (h : ∀ x ∈ xs, Lay n (f x)) : Lay (n + 1) (.tuple (xs.map f)) :=
  ⟨by simp only [PyData.canLay0]; exact lay_map fun x hx => (h x hx).lay, by simp only [PyData.depth]; have := dep_map fun x hx => (h x hx).dep; omega⟩
theorem Lay.lstM {α : Type} {f : α → PyData} {n : Nat} {xs : List α} (h : ∀ x ∈ xs, Lay n (f x)) : Lay (n + 1) (.list (xs.map f)) :=
  ⟨by simp only [PyData.canLay0]; exact lay_map fun x hx => (h x hx).lay, by simp only [PyData.depth]; have := dep_map fun x hx => (h x hx).dep; omega⟩
theorem Lay.tup {n : Nat} {ds : List PyData} (h : ∀ d ∈ ds, Lay n d) : Lay (n + 1) (.tuple ds) := by
  have := Lay.tupM (f := id) (xs := ds) h
  rw [List.map_id] at this
  exact this
theorem Lay.lst {n : Nat} {ds : List PyData} (h : ∀ d ∈ ds, Lay n d) : Lay (n + 1) (.list ds) := by
  have := Lay.lstM (f := id) (xs := ds) h
  rw [List.map_id] at this
  exact this
theorem Lay.two {n : Nat} {a b : PyData} (ha : Lay n a) (hb : Lay n b) : Lay (n + 1) (.tuple [a, b]) := .tup fun d hd => by
  simp only [List.mem_cons, List.not_mem_nil, or_false] at hd
  rcases hd with rfl | rfl
  · exact ha
  · exact hb
theorem Lay.ok {n : Nat} {d : PyData} (h : Lay n d) (hn : n ≤ 64 := by decide) : SeqAt.shaped d = true := Bool.and_eq_true_iff.mpr ⟨h.lay, decide_eq_true (Nat.le_trans h.dep hn)⟩
theorem Lay.n (i : Nat) : Lay 0 (nD i) := .int _
theorem Lay.it (q : Int × Int) : Lay 1 (itD q) := .two (.int _) (.int _)
theorem Lay.fd (q : Int × Int) : Lay 1 (fd q) := .two (.int _) (.int _)
theorem Lay.rl (q : Nat × Nat) : Lay 1 (rlD q) := .two (.n _) (.n _)
theorem Lay.gr (g : List Nat) : Lay 1 (grD g) := .tupM fun i _ => .n i
theorem Lay.pn (its : List (Int × Int)) (rls : List (Nat × Nat)) : Lay 3 (pnD its rls) := .two (.tupM fun q _ => .it q) (.tupM fun q _ => .rl q)
theorem eqvAll_map {α : Type} [DecidableEq α] {f : α → PyData} (inj : ∀ x y, PyData.eqv (f x) (f y) = decide (x = y)) : ∀ xs ys : List α, PyData.eqvAll (xs.map f) (ys.map f) = decide (xs = ys)
  | [], [] => by simp only [List.map_nil, PyData.eqvAll]; rfl
  | [], y :: ys => by simp only [List.map_nil, List.map_cons, PyData.eqvAll]; rfl
  | x :: xs, [] => by simp only [List.map_nil, List.map_cons, PyData.eqvAll]; rfl
  | x :: xs, y :: ys => by
    simp only [List.map_cons, PyData.eqvAll, inj, eqvAll_map inj xs ys]
    by_cases h1 : x = y <;> by_cases h2 : xs = ys <;> simp [h1, h2]
theorem eqv_n (i j : Nat) : PyData.eqv (nD i) (nD j) = decide (i = j) := by
  simp only [nD, PyData.eqv]
  by_cases h : i = j
  · subst h; simp
  · rw [decide_eq_false h]
    exact beq_eq_false_iff_ne.mpr fun z => h (by omega)
theorem eqv_gr (g h : List Nat) : PyData.eqv (grD g) (grD h) = decide (g = h) := by
  simp only [grD, PyData.eqv]
  exact eqvAll_map eqv_n g h
theorem eqv_it (x y : Int × Int) : PyData.eqv (itD x) (itD y) = decide (x = y) := eqv_fd x y
theorem red_one {m w : Int} (hw : 0 < w) : Fr.red (w * m) w = (m, 1) := by
  have h : Fr.IsF (m, 1) := ⟨show (0 : Int) < 1 by decide, by show Int.gcd m 1 = 1; simp⟩
  rw [← Fr.red_self h]
  exact (Fr.red_eq hw (show (0 : Int) < 1 by decide)).mpr (by show w * m * 1 = m * w; rw [Int.mul_one, Int.mul_comm])
/-- a comprehension, by a word of the state -/
theorem lcJ {α : Type} (f : α → PyData) {dg : DG} {dt : DT} {de : DE} {vs : List Nat} {e : DEnv} {m : Mu} {k : List PyData → Mu → Prop} (xs : List α) (hz : xs.length ≤ 1000000) (J : List α → List PyData → Mu → Prop) (h0 : J [] [] m)
    (hs : ∀ done x r acc m, xs = done ++ x :: r → J done acc m → ∀ (C : PyData → Mu → Prop) (C0 : Mu → Prop), (∀ z m', J (done ++ [x]) (acc ++ [z]) m' → C z m') → (∀ m', J (done ++ [x]) acc m' → C0 m') → dg (.d (f x)) (wp e vs) m fun e' m' => dt e' m' fun b m2 => br b (de e' m2 (plD C)) (C0 m2))
    (hd : ∀ acc m, J xs acc m → k acc m) :
    (xs.map f).length ≤ 1000000 ∧ ∃ I : List PyData → List PyData → Mu → Prop, I (xs.map f) [] m ∧
      (∀ x r acc m, I (x :: r) acc m → dg (.d x) (wp e vs) m fun e' m' => dt e' m' fun b m2 => br b (de e' m2 (plD fun z m3 => I r (acc ++ [z]) m3)) (I r acc m2)) ∧ ∀ acc m, I [] acc m → k acc m := by
  refine ⟨by rw [List.length_map]; exact hz, fun rest acc m' => ∃ done r, rest = r.map f ∧ xs = done ++ r ∧ J done acc m', ⟨[], xs, rfl, rfl, h0⟩, ?_, ?_⟩
  · rintro x r acc m' ⟨done, l, h1, h2, hj⟩
    obtain ⟨a, l', rfl, rfl, rfl⟩ := map_inv h1
    have h3 : xs = done ++ [a] ++ l' := by rw [h2, List.append_assoc]; rfl
    exact hs done a l' acc m' h2 hj _ _ (fun z m2 j => ⟨done ++ [a], l', rfl, h3, j⟩) (fun m2 j => ⟨done ++ [a], l', rfl, h3, j⟩)
  · rintro acc m' ⟨done, l, h1, h2, hj⟩
    cases l with
    | nil =>
      rw [List.append_nil] at h2
      subst h2
      exact hd _ _ hj
    | cons a l => cases h1
theorem PanOk.w0 {most : Nat} {its : List (Int × Int)} {rls : List (Nat × Nat)} (h : PanOk most its rls) {i : Nat} (hi : i < its.length) : 1 ≤ (itm its i).2 ∧ (itm its i).2 ≤ 1000000 := h.wt _ (itm_mem hi)
theorem PanOk.m0 {most : Nat} {its : List (Int × Int)} {rls : List (Nat × Nat)} (h : PanOk most its rls) {i : Nat} (hi : i < its.length) : -1000000000 ≤ (itm its i).1 ∧ (itm its i).1 ≤ 1000000000 := h.mrk _ (itm_mem hi)
theorem PanOk.sz {most : Nat} {its : List (Int × Int)} {rls : List (Nat × Nat)} (h : PanOk most its rls) : ∀ q ∈ its, q.1.natAbs < 2 ^ 100 ∧ q.2.natAbs < 2 ^ 100 := fun q hq => ⟨by have := h.mrk q hq; omega, by have := h.wt q hq; omega⟩
theorem wgt_bound {its : List (Int × Int)} (hw : ∀ q ∈ its, 1 ≤ q.2 ∧ q.2 ≤ 1000000) : ∀ {is : List Nat}, (∀ i ∈ is, i < its.length) → (is.length : Int) ≤ wgt its is ∧ wgt its is ≤ 1000000 * is.length
  | [], _ => by simp [wgt]
  | i :: is, h => by
    have ih := wgt_bound hw (is := is) fun j hj => h j (List.mem_cons_of_mem _ hj)
    have := hw _ (itm_mem (h i List.mem_cons_self))
    unfold wgt at *
    rw [List.map_cons, List.sum_cons, List.length_cons]
    omega
theorem PanOk.wpos {most : Nat} {its : List (Int × Int)} {rls : List (Nat × Nat)} (h : PanOk most its rls) {is : List Nat} (hi : ∀ i ∈ is, i < its.length) (h0 : is ≠ []) (h9 : is.length ≤ 100) : 0 < wgt its is ∧ (wgt its is).natAbs < 2 ^ 2000 := by
  have b := wgt_bound h.wt hi
  have : 0 < is.length := List.length_pos_iff.mpr h0
  refine ⟨by omega, Nat.lt_of_lt_of_le (show (wgt its is).natAbs < 2 ^ 30 by omega) (Nat.pow_le_pow_right (by decide) (by decide))⟩
end PM

namespace PM
open PySem PySem.Spec PyProof.Rows L2 RZ
theorem pairs_map {α β : Type} (f : α → PyData) (g : β → PyData) : ∀ (xs : List α) (ys : List β), pairs (xs.map f) (ys.map g) = (List.zip xs ys).map fun p => .tuple [f p.1, g p.2]
  | [], _ => by simp [pairs]
  | _ :: _, [] => by simp [pairs]
  | x :: xs, y :: ys => by
    have := pairs_map f g xs ys
    unfold pairs at *
    simp only [List.map_cons, List.zip_cons_cons, this]
theorem forZ {α β : Type} (f : α → PyData) (h : β → PyData) {g : DG} {b : DS} {E : DEnds} {e : DEnv} {m : Mu} (xs : List α) (ys : List β) (J : List (α × β) → DEnv → Mu → Prop) (h0 : J [] e m)
    (hs : ∀ done x r e m, List.zip xs ys = done ++ x :: r → J done e m → ∀ C : DEnv → Mu → Prop, (∀ e m, J (done ++ [x]) e m → C e m) → g (.d (.tuple [f x.1, h x.2])) e m fun e' m' => b { nx := C, rt := E.rt, bk := E.nx, ct := C } e' m') (hd : ∀ e m, J (List.zip xs ys) e m → E.nx e m) :
    ∃ I : List PyData → DEnv → Mu → Prop, I (pairs (xs.map f) (ys.map h)) e m ∧ (∀ x r e m, I (x :: r) e m → g (.d x) e m fun e' m' => b { nx := I r, rt := E.rt, bk := E.nx, ct := I r } e' m') ∧ ∀ e m, I [] e m → E.nx e m := by
  rw [pairs_map]
  exact forL (fun p : α × β => .tuple [f p.1, h p.2]) (List.zip xs ys) J h0 hs hd
/-! ### costs -/
def cstep (c : Int × Int) (p : (Int × Int) × (Int × Int)) : Int × Int := Fr.add c (Fr.mul (p.1.2, 1) (Fr.mul (Fr.sub p.2 (p.1.1, 1)) (Fr.sub p.2 (p.1.1, 1))))
def costF (its rt : List (Int × Int)) : Int × Int := (List.zip its rt).foldl cstep (0, 1)
/-- what an item adds to the cost, as a number -/
def cval (p : (Int × Int) × (Int × Int)) : Rat := (p.1.2 : Rat) * (Fr.val p.2 - (p.1.1 : Rat)) * (Fr.val p.2 - (p.1.1 : Rat))
theorem isF1 (n : Int) : Fr.IsF (n, 1) := ⟨show (0 : Int) < 1 by decide, by show Int.gcd n 1 = 1; simp⟩
theorem val1 (n : Int) : Fr.val (n, 1) = (n : Rat) := by
  unfold Fr.val
  show (n : Rat) / ((1 : Int) : Rat) = _
  grind
theorem cstep_isF {c : Int × Int} {p : (Int × Int) × (Int × Int)} (hc : Fr.IsF c) (hp : Fr.IsF p.2) : Fr.IsF (cstep c p) :=
  Fr.add_isF hc (Fr.mul_isF (isF1 _) (Fr.mul_isF (Fr.sub_isF hp (isF1 _)) (Fr.sub_isF hp (isF1 _))))
theorem cstep_val {c : Int × Int} {p : (Int × Int) × (Int × Int)} (hc : Fr.IsF c) (hp : Fr.IsF p.2) : Fr.val (cstep c p) = Fr.val c + cval p := by
  have hs := Fr.sub_isF hp (isF1 p.1.1)
  unfold cstep cval
  rw [Fr.add_val hc (Fr.mul_isF (isF1 _) (Fr.mul_isF hs hs)), Fr.mul_val (isF1 _) (Fr.mul_isF hs hs), Fr.mul_val hs hs, Fr.sub_val hp (isF1 _), val1, val1, Rat.mul_assoc]
theorem cost_fold : ∀ (ps : List ((Int × Int) × (Int × Int))) (c : Int × Int), Fr.IsF c → (∀ p ∈ ps, Fr.IsF p.2) → Fr.IsF (ps.foldl cstep c) ∧ Fr.val (ps.foldl cstep c) = Fr.val c + (ps.map cval).sum
  | [], c, hc, _ => ⟨hc, by simp only [List.foldl_nil, List.map_nil, List.sum_nil]; grind⟩
  | p :: ps, c, hc, h => by
    have hp := h p List.mem_cons_self
    obtain ⟨h1, h2⟩ := cost_fold ps (cstep c p) (cstep_isF hc hp) fun q hq => h q (List.mem_cons_of_mem _ hq)
    refine ⟨h1, ?_⟩
    rw [List.foldl_cons, h2, cstep_val hc hp, List.map_cons, List.sum_cons]
    grind
theorem zip_mem2 {α β : Type} {xs : List α} {ys : List β} {p : α × β} (h : p ∈ List.zip xs ys) : p.1 ∈ xs ∧ p.2 ∈ ys := ⟨(List.of_mem_zip (a := p.1) (b := p.2) h).1, (List.of_mem_zip (a := p.1) (b := p.2) h).2⟩
theorem costF_isF {its rt : List (Int × Int)} (h : ∀ r ∈ rt, Fr.IsF r) : Fr.IsF (costF its rt) := (cost_fold _ _ Fr.zero_isF fun p hp => h _ (zip_mem2 hp).2).1
theorem costF_val {its rt : List (Int × Int)} (h : ∀ r ∈ rt, Fr.IsF r) : Fr.val (costF its rt) = ((List.zip its rt).map cval).sum := by
  have := (cost_fold (List.zip its rt) _ Fr.zero_isF fun p hp => h _ (zip_mem2 hp).2).2
  rw [Fr.zero_val] at this
  unfold costF
  rw [this]
  grind
theorem sz1 {n : Int} {b : Nat} (h : n.natAbs < 2 ^ b) (hb : 0 < b) : Fr.Sz b (n, 1) := ⟨h, by
  show (1 : Int).natAbs < 2 ^ b
  exact Nat.one_lt_two_pow (by omega)⟩
theorem cstep_sz {c : Int × Int} {p : (Int × Int) × (Int × Int)} {a b : Nat} (hc : Fr.Sz a c) (hp : Fr.Sz b p.2) (hm : p.1.1.natAbs < 2 ^ 30) (hw : p.1.2.natAbs < 2 ^ 30) : Fr.Sz (a + (30 + ((b + 30 + 1) + (b + 30 + 1))) + 1) (cstep c p) :=
  Fr.add_sz hc (Fr.mul_sz (sz1 hw (by decide)) (Fr.mul_sz (Fr.sub_sz hp (sz1 hm (by decide))) (Fr.sub_sz hp (sz1 hm (by decide)))))
theorem shw_fds {rt : List (Int × Int)} {n : Nat} (hl : rt.length ≤ n) (h : ∀ r ∈ rt, Fr.Sz 1900 r) : Shw (.tuple (rt.map fd)) (3851 * n + 3) 2 :=
  (Shw.tup (shwL_map fun r hr => Shw.fd (h r hr) (by decide) (by decide))).mono (by have := Nat.mul_le_mul_left 3851 hl; omega) (by decide)
theorem plain_map {α : Type} {f : α → PyData} : ∀ {xs : List α}, (∀ x ∈ xs, plainD (f x) = true) → plainD.plainL (xs.map f) = true
  | [], _ => rfl
  | x :: xs, h => by
    rw [List.map_cons]
    unfold plainD.plainL
    rw [h x List.mem_cons_self, plain_map fun y hy => h y (List.mem_cons_of_mem _ hy)]
    rfl
/-- the marks as ratings cost nothing -/
theorem zip_marks : ∀ its : List (Int × Int), ((List.zip its (its.map fun q => (q.1, (1 : Int)))).map cval).sum = 0
  | [] => rfl
  | q :: its => by
    rw [List.map_cons, List.zip_cons_cons, List.map_cons, List.sum_cons, zip_marks its]
    unfold cval
    rw [val1]
    grind
theorem cost_marks (its : List (Int × Int)) : costF its (its.map fun q => (q.1, (1 : Int))) = (0, 1) := by
  have h : ∀ r ∈ its.map fun q => (q.1, (1 : Int)), Fr.IsF r := fun r hr => by
    obtain ⟨q, _, rfl⟩ := List.mem_map.mp hr
    exact isF1 _
  refine Fr.val_inj (costF_isF h) Fr.zero_isF ?_
  rw [costF_val h, zip_marks, Fr.zero_val]
end PM

namespace PM
open PySem PySem.Spec PyProof.Rows L2 RZ
open AutoSeq1 (wpAny_loadPart')
/-! ### a tuple times 1, times 0 -/
set_option maxHeartbeats 4000000 in
theorem tmul1 (l : Addr) (xs : Array Value) (n : Nat) (dd : Option Addr) (sl : Array (Option Value)) (u : Tok) :
    Meets (Builtin.«tuple.__mul__» ⟨[.ref l, .int 1 u], []⟩) (fun _ R s => s.heap.get? l = some { cls := .type "tuple", dict := dd, data := .seq xs n, slots := sl } ∧ R (.ok (.ret (.ref l))) s) :=
  .of_wp fun prog w A R s h => by
    obtain ⟨a1, a2, a3, a4, a5⟩ := s
    obtain ⟨hl, h⟩ := h
    have f1 := AutoSeq1.idx_int
    wp_walk using wpAny_loadPart' hl
    exact ⟨_, rfl, h⟩
set_option maxHeartbeats 4000000 in
theorem tmul0 (l : Addr) (xs : Array Value) (n : Nat) (dd : Option Addr) (sl : Array (Option Value)) (u : Tok) (ne : xs.isEmpty = false) :
    Meets (Builtin.«tuple.__mul__» ⟨[.ref l, .int 0 u], []⟩) (fun _ R s => s.heap.get? l = some { cls := .type "tuple", dict := dd, data := .seq xs n, slots := sl } ∧
      R (.ok (.ret (.ref s.heap.objs.size))) { s with heap := s.heap.push { cls := .type "tuple", data := .seq #[] } }) :=
  .of_wp fun prog w A R s h => by
    obtain ⟨a1, a2, a3, a4, a5⟩ := s
    obtain ⟨hl, h⟩ := h
    have f1 := AutoSeq1.idx_int
    wp_walk using wpAny_loadPart' hl
    exact ⟨_, rfl, h⟩
def rRep01 (K : PySem.W.Frag) : R2 := fun x y H Q => ∃ l xs, x = .ref l ∧ SqT K H l xs ∧ xs ≠ [] ∧ ((y = .int 0 ∧ ∀ p, H p = none → Q (.ref p) (upd H p (.tup []))) ∨ (y = .int 1 ∧ Q (.ref l) H))
theorem op_rep01 {X : Cx} : OpR X (binaryOp .Mult) (rRep01 X.K) := by
  intro pins s σ H x y v u Q I rx ry h
  obtain ⟨l, xs, rfl, hT, hne, h⟩ := h
  cases rx
  obtain ⟨its, r, ⟨⟨cls, dd, data, sl⟩, ho, hc, n, hd⟩, hs⟩ := I.tuple hT
  simp only at hc hd
  subst hc hd
  have hi : its.toArray.isEmpty = false := by
    cases r with
    | nil => exact absurd rfl hne
    | cons _ _ => rfl
  rcases h with ⟨rfl, q⟩ | ⟨rfl, q⟩
  · obtain ⟨t, rfl⟩ := ry
    refine wpAny_binaryOp_repeat_ref (T := "tuple") (U := "int") (by decide) ⟨_, ho, rfl⟩ (fun s' => typeIs_int s' 0 t) noFill_tuple_mul F.fills_int_mul F.slot_int_rmul repeat_tuple F.slot_int_index.lookup (call_meets F.slot_int_rmul (typeIs_int s 0 t) F.entry_int_rmul (F.args_int_rmul_2 _ _) (int_rmul_tuple 0 t l its.toArray n dd sl) ⟨ho, rfl, ⟨_, ho, rfl⟩, call_meets F.slot_tuple_mul ⟨_, ho, rfl⟩ F.entry_tuple_mul (F.args_tuple_mul_2 _ _) (tmul0 l its.toArray n dd sl t hi) ⟨ho, ?_⟩⟩)
    exact ⟨.ref s.heap.objs.size, _, I.laid (t' := s.toks) (o := .tup []) (fun b ob e => Heap.get?_push_of_some _ e) (Nat.le_refl _) ⟨Nat.zero_le _, [], .nil, IsTup.new _ _⟩, rfl, q _ (I.hok.fresh (Nat.le_refl _))⟩
  · obtain ⟨t, rfl⟩ := ry
    refine wpAny_binaryOp_repeat_ref (T := "tuple") (U := "int") (by decide) ⟨_, ho, rfl⟩ (fun s' => typeIs_int s' 1 t) noFill_tuple_mul F.fills_int_mul F.slot_int_rmul repeat_tuple F.slot_int_index.lookup (call_meets F.slot_int_rmul (typeIs_int s 1 t) F.entry_int_rmul (F.args_int_rmul_2 _ _) (int_rmul_tuple 1 t l its.toArray n dd sl) ⟨ho, rfl, ⟨_, ho, rfl⟩, call_meets F.slot_tuple_mul ⟨_, ho, rfl⟩ F.entry_tuple_mul (F.args_tuple_mul_2 _ _) (tmul1 l its.toArray n dd sl t) ⟨ho, ?_⟩⟩)
    exact ⟨.ref l, H, I, rfl, q⟩
/-- a tuple times an int -/
def rRepA (K : PySem.W.Frag) : R2 := fun x y H Q => rRepT K x y H Q ∨ rRep01 K x y H Q
theorem op_repA {X : Cx} : OpR X (binaryOp .Mult) (rRepA X.K) := op_repT.or op_rep01
def fRepT (m : Mu) (x y : DV) (k : DV → Prop) : Prop := match x, y with
  | .d (.tuple ds), .d (.int j) => ds ≠ [] ∧ ds.length ≤ 1000 ∧ (0 ≤ j ∧ j ≤ 1000) ∧ k (.d (.tuple (List.replicate j.toNat ds).flatten))
  | _, _ => False
theorem os_repT (K : PySem.W.Frag) : OpS (rRepA K) fRepT := fun c G pl σ H e m x y dx dy k Q sr rx ry d KK => by
  unfold fRepT at d
  split at d
  · rename_i ds j
    obtain ⟨ne, lz, ⟨j0, j1⟩, d⟩ := d
    cases ry.int_inv
    cases (show Da G x _ from rx) with
    | @tup a xs _ e1 e2 =>
      have hx : xs ≠ [] := fun z => ne (e2.nil_iff.mp z)
      have st : SqT K H a xs := .inl (.inl (sr.hp.sub _ _ e1))
      by_cases h2 : 2 ≤ j
      · exact .inl ⟨a, j, xs, rfl, rfl, st, hx, h2, j1, by rw [e2.length]; exact lz, fun p hp => KK.tup sr hp d (e2.rep _)⟩
      · have : j = 0 ∨ j = 1 := by omega
        rcases this with rfl | rfl
        · exact .inr ⟨a, xs, rfl, st, hx, .inl ⟨rfl, fun p hp => KK.tup sr hp d .nil⟩⟩
        · have e : (List.replicate (1 : Int).toNat ds).flatten = ds := by simp
          rw [e] at d
          exact .inr ⟨a, xs, rfl, st, hx, .inr ⟨rfl, KK.val sr d (show Da G _ _ from .tup e1 e2)⟩⟩
  · exact d.elim
end PM

namespace PM
open PySem PySem.Spec PyProof.Rows L2 RZ
/-! ### enumerate(a tuple) -/
set_option maxHeartbeats 4000000 in
theorem enum_new1 {v : Value} {ob : Obj} {Hs : Heap → Prop} (B : Begins v ob Hs) :
    Meets (Builtin.«enumerate.__new__» ⟨[.type "enumerate", v], []⟩) (fun _ R s => Hs s.heap ∧
      R (.ok (.ret (.ref (s.heap.push ob).objs.size))) { s with heap := (s.heap.push ob).push { cls := .type "enumerate", data := .fields #[.none, .bool false, .ref s.heap.objs.size, rawInt 0, .none, .none] } }) :=
  .of_wp fun prog w A R s h => by
    obtain ⟨b1, b2, b3, b4, b5⟩ := s
    obtain ⟨h1, h⟩ := h
    have hsub := sub_enumerate
    have go : ∀ {A' : Around} {E : Value → Shared → Prop} {Q : Value → Shared → Prop}, Q (.ref b1.objs.size) ⟨b1.push ob, b2, b3, b4, b5⟩ → wpAny (model prog w) A' (pyIter v) Q E ⟨b1, b2, b3, b4, b5⟩ := fun q => B.iter prog w _ _ ⟨b1, b2, b3, b4, b5⟩ _ h1 q
    wp_walk using go
    refine wpAny_stack_any fun sk => wpAny_pure ?_
    split
    · rename_i c _ _ _ _ _
      cases (c == Value.type "enumerate") <;> (wp_walk using go; exact ⟨_, rfl, h⟩)
    · wp_walk using go
      exact ⟨_, rfl, h⟩
/-- the tuple at a as it stands, each item in a new pair -/
def ItN (K : PySem.W.Frag) (a : Addr) : It where
  go := fun i H => ∃ xs x, SqT K H a xs ∧ xs[i]? = some x
  yld := fun i H v H' => ∃ T x, v = .ref T ∧ H T = none ∧ H' = upd H T (.tup [.int (i : Nat), x]) ∧ ∀ xs, SqT K H a xs → xs[i]? = some x
  stop := fun i H => ∃ xs : List V, SqT K H a xs ∧ xs.length ≤ i
theorem turn_enumT {P : Program} {w : World} {K : PySem.W.Frag} {elts : List Expr} {kk : Nat} {tp : Pos} (a e it : Addr) :
    Turn P w K (.Tuple elts kk tp) (ItN K a) [e, it] e (fun i h => (∃ old, IsEnum h e it ((i : Nat) : Int) old) ∧ h.IsTupleIter it a i ∧ e ≠ it) where
  mem := List.mem_cons_self
  obj := fun i h t b hb => by
    obtain ⟨⟨old, he⟩, ⟨o, ho, _, hd⟩, _⟩ := t
    rcases List.mem_cons.mp hb with z | z
    · subst z
      exact ⟨_, he, fun v q => nomatch q⟩
    · cases List.mem_singleton.mp z
      exact ⟨o, ho, fun v q => by rw [hd] at q; cases q⟩
  keep := fun i h h' t kp => by
    obtain ⟨⟨old, he⟩, hi, ne⟩ := t
    exact ⟨⟨old, kp e List.mem_cons_self _ he⟩, hi.at fun o q => kp it (List.mem_cons_of_mem _ List.mem_cons_self) o q, ne⟩
  item := by
    intro X h1 h2 h3 calm i pins s σ H E I fps t go
    subst h1 h2 h3
    obtain ⟨⟨old, he⟩, hit, ne⟩ := t
    obtain ⟨xs, x, hq, hx⟩ := go
    obtain ⟨its, rv, tu, _⟩ := I.tuple hq
    obtain ⟨u, hu, ru⟩ := rv.get hx
    have lt : i < its.toArray.size := by
      rcases Nat.lt_or_ge i its.length with z | z
      · rw [List.size_toArray]; exact z
      · rw [List.getElem?_eq_none z] at hu; cases hu
    have hel := Heap.lt_size he
    have hil : it < s.heap.objs.size := by
      obtain ⟨_, q, _⟩ := hit
      exact Heap.lt_size q
    have nea : a ≠ it := fun z => by
      obtain ⟨o, q, c, _⟩ := hit
      obtain ⟨o', q', c', _⟩ := tu
      rw [← z] at q
      cases q.symm.trans q'
      rw [c'] at c
      exact absurd c (by decide)
    have nee : a ≠ e := fun z => by
      obtain ⟨o', q', c', _⟩ := tu
      rw [z] at q'
      cases he.symm.trans q'
      exact absurd (show Value.type "enumerate" = Value.type "tuple" from c') (by decide)
    have hand : X.A.in1.handled = none := I.ok.hd calm
    refine wpAny_pyNext_enum_itemC (Draws.tuple hand it a nea its.toArray) he (i := i) ⟨hit, tu⟩ lt ne (by simp only [List.mem_cons, List.not_mem_nil, or_false, not_or]; exact ⟨ne, Ne.symm nee⟩) fun y h' tk hy ho st' hT hsz kp => ?_
    have ey : y = u := by
      have hy : its.toArray[i]? = some y := hy
      have hu2 : its.toArray[i]? = some u := by simpa using hu
      exact Option.some.inj (hy.symm.trans hu2)
    subst ey
    refine ⟨_, rfl, wpAny_letOwnedTupleGo_enum (s := { s with heap := h', toks := tk + 1 }) ho fun h2 he2 sb => ?_⟩
    have hT2 := (sb.2 _ (Nat.ne_of_gt hel)).trans hT
    have pair : ObjOk X.prog X.w (upd H s.heap.objs.size (.tup [.int (i : Nat), x])) h2 s.heap.objs.size (.tup [.int (i : Nat), x]) :=
      ⟨toks (show 2 ≤ 1000 by decide), [.int i tk, y], .cons ⟨_, rfl⟩ (.cons ru .nil), ⟨_, hT2, rfl, _, rfl⟩⟩
    have I2 := I.turnedNew (t' := tk + 1) (ch := [e, it]) (fun b ob hb q => (sb.2 b (fun z => hb (by simp [z]))).trans (kp b ob (fun z => hb (by simp [z])) (fun z => hb (by simp [z])) q)) fps (Nat.le_refl _) pair
    refine ⟨.ref s.heap.objs.size, _, I2, rfl, ⟨_, x, rfl, I.hok.fresh (Nat.le_refl _), rfl, fun ys hy => by rw [I.tuple_inj hy hq]; exact hx⟩, ⟨⟨y, ?_⟩, st'.1.at fun o q => (sb.2 it (Ne.symm ne)).trans q, ne⟩, fun b hb => ?_⟩
    · rw [show ((i + 1 : Nat) : Int) = (i : Int) + 1 by omega]
      exact he2
    · have lb : b < s.heap.objs.size := by
        rcases List.mem_cons.mp hb with z | z
        · rw [z]; exact hel
        · rw [List.mem_singleton.mp z]; exact hil
      rw [upd_ne (Nat.ne_of_lt lb)]
      exact (fps b hb).1
  done := by
    intro X h1 h2 h3 calm i pins s σ H E I fps t stop
    subst h1 h2 h3
    obtain ⟨⟨old, he⟩, hit, ne⟩ := t
    obtain ⟨xs, hq, hx⟩ := stop
    obtain ⟨its, rv, tu, _⟩ := I.tuple hq
    have hl := rv.length
    have gone : its.toArray[i]? = none := by simp; omega
    have hand : X.A.in1.handled = none := I.ok.hd calm
    have D : Draws X.prog X.w X.A.in1 it [it, a] i (fun _ _ => False) (fun j h => j = i ∧ h.IsTupleIter it a i ∧ h.IsTuple a its.toArray) := by
      refine ⟨fun _ _ t => ?_, fun _ _ _ t kp => ⟨t.1, t.2.1.at fun o q => kp it List.mem_cons_self o q, t.2.2.at fun o q => kp a (List.mem_cons_of_mem _ List.mem_cons_self) o q⟩, fun j s Q E lt t _ => absurd lt (by rw [t.1]; exact Nat.lt_irrefl _), fun s Q E t hE => wpAny_nextOf_tuple_end hand t.2.1 t.2.2 gone hE⟩
      obtain ⟨o, ho, _⟩ := t.2.1
      exact ⟨o, ho⟩
    obtain ⟨f0, f1, f2, f3, f4, f5⟩ := fps it (List.mem_cons_of_mem _ List.mem_cons_self)
    exact wpAny_pyNext_enum_endD D he ⟨rfl, hit, tu⟩ fun h' ext => ⟨rfl, I.turned (t' := s.toks) (fun b o hb q => ext b o hb q) f0 f1 f3 f4 f5⟩
  self := fun A i s Q E t q => by
    obtain ⟨⟨old, he⟩, _⟩ := t
    exact wpAny_pyIter_enum he q
/-- enumerate of a list or a tuple -/
def iEnumA (K : PySem.W.Frag) (ta : TA) : TI := fun σ H R => ta σ H fun vs H1 => ∃ a xs, vs = [.ref a] ∧ ((SqL K H1 a xs ∧ R (Ite K a) H1) ∨ (SqT K H1 a xs ∧ R (ItN K a) H1))
theorem pi_enumA {X : Cx} {e : Expr} {ta : TA} {p pos tp : Pos} {elts : List Expr} {kk : Nat} (hg : Gl X "enumerate") (hm : X.mg "enumerate" = none) (ha : PA X [e] ta) (hs : starEach [e] X.env = [(false, eval e X.env)] := by rfl) :
    PI X (.Tuple elts kk tp) (.Call (.Name "enumerate" p) [e] [] pos) (iEnumA X.K ta) := by
  refine ⟨fun pins s σ H R I h => Call_ (ld_blt I hg hm boot_enumerate (PyProof.Rows.callWith_type1 (thn (ha.run pos pins s σ H _ I h) fun us s1 hv => ?_) hs rfl))⟩
  obtain ⟨vs, H1, I1, r1, a, xs, rfl, q⟩ := hv
  cases r1 with
  | cons r rr =>
    cases rr
    cases r
    have two : ∀ b ∈ [s1.heap.objs.size + 1, s1.heap.objs.size], FpOk X pins H1 b := fun b hb => by
      have lb : s1.heap.objs.size ≤ b := by
        rcases List.mem_cons.mp hb with z | z
        · rw [z]; exact Nat.le_add_right _ _
        · rw [List.mem_singleton.mp z]; exact Nat.le_refl _
      exact I1.fpOk lb (I1.hok.fresh lb)
    rcases q with ⟨hq, q⟩ | ⟨hq, q⟩
    · obtain ⟨its, rv, il, _⟩ := I1.list hq
      exact call_enumerate_list il.isList fun h' he hit hsz kp => wpAny_pyIter_enum he ⟨s1.heap.objs.size + 1, [s1.heap.objs.size + 1, s1.heap.objs.size], _, _, H1, rfl, I1.kept (t' := s1.toks) kp, turn_enum a (s1.heap.objs.size + 1) s1.heap.objs.size, ⟨⟨.none, he⟩, hit, Nat.succ_ne_self _⟩, two, q⟩
    · obtain ⟨its, rv, tu, _⟩ := I1.tuple hq
      have fin : ∀ h', IsEnum h' (s1.heap.objs.size + 1) s1.heap.objs.size 0 .none → h'.IsTupleIter s1.heap.objs.size a 0 → (∀ b o, s1.heap.get? b = some o → h'.get? b = some o) → wpAny (model X.prog X.w) X.A (pyIter (.ref (s1.heap.objs.size + 1))) (PIE X pins σ (.Tuple elts kk tp) R) X.xe { s1 with heap := h' } := fun h' he hit kp =>
        wpAny_pyIter_enum he ⟨s1.heap.objs.size + 1, [s1.heap.objs.size + 1, s1.heap.objs.size], _, _, H1, rfl, I1.kept (t' := s1.toks) kp, turn_enumT a (s1.heap.objs.size + 1) s1.heap.objs.size, ⟨⟨.none, he⟩, hit, Nat.succ_ne_self _⟩, two, q⟩
      refine callType_new F.called_enumerate (by decide) (F.typeCall_enumerate_1 _) (F.newCall_enumerate_1 _) (fun obj => F.args_object_init_2 obj _) F.entry_enumerate_new (enum_new1 (begins_tuple a its.toArray)) ⟨tu, ?_⟩
      have hz : (s1.heap.push { cls := .type "tuple_iterator", data := .fields #[.ref a, .int 0 0] }).objs.size = s1.heap.objs.size + 1 := Heap.size_push ..
      show _ ∧ _
      rw [hz]
      have he : IsEnum ((s1.heap.push { cls := .type "tuple_iterator", data := .fields #[.ref a, .int 0 0] }).push { cls := .type "enumerate", data := .fields #[.none, .bool false, .ref s1.heap.objs.size, rawInt 0, .none, .none] }) (s1.heap.objs.size + 1) s1.heap.objs.size 0 .none := by
        have g := Heap.get?_push_size (s1.heap.push { cls := .type "tuple_iterator", data := .fields #[.ref a, .int 0 0] }) (o := { cls := .type "enumerate", data := .fields #[.none, .bool false, .ref s1.heap.objs.size, rawInt 0, .none, .none] }) rfl
        rw [hz] at g
        exact g
      exact ⟨⟨_, he, rfl⟩, fin _ he ⟨_, Heap.get?_push_of_some _ (Heap.get?_push_size _ rfl), rfl, rfl⟩ fun b o x => Heap.get?_push_of_some _ (Heap.get?_push_of_some _ x)⟩
def diEnum (a : DA) : DI := fun e m k => a e m fun xs m1 => match xs with
  | [.d (.tuple ds)] => k (enumD 0 ds) m1
  | [.d (.list ds)] => k (enumD 0 ds) m1
  | _ => False
theorem si_enum (K : PySem.W.Frag) {ta : TA} {da : DA} (h : SA ta da) : SI (iEnumA K ta) (diEnum da) := fun c G pl σ H e m k R sr d KK => h _ _ _ _ _ _ _ _ _ sr d fun xs m1 G1 pl1 H1 vs d1 l1 sr1 r1 => by
  split at d1
  · rename_i ds
    cases r1 with
    | cons ra t =>
      cases t
      cases (show Da G1 _ (.tuple ds) from ra) with
      | @tup a ws _ e1 e2 =>
        have st : ∀ {H}, Same G1 H → SqT K H a ws := fun s => .inl (.inl (s _ _ e1))
        refine ⟨a, ws, rfl, .inr ⟨st sr1.hp.sub, KK _ _ _ _ _ _ d1 l1 sr1 ⟨fun i H hi s => ?_, fun H s => ?_, fun i H x H' hi s y => ?_⟩⟩⟩
        · rw [enumD_len, ← e2.length] at hi
          exact ⟨ws, ws[i], st s, List.getElem?_eq_getElem hi⟩
        · exact ⟨ws, st s, by rw [enumD_len, e2.length]; exact Nat.le_refl _⟩
        · obtain ⟨T, u, y1, y2, y3, y4⟩ := y
          obtain ⟨dd, g1, g2⟩ := e2.get i (y4 ws (st s))
          have ge := enumD_get 0 g1
          rw [Nat.zero_add] at ge
          exact ⟨_, ge, .inr ⟨T, _, _, y1, y2, y3, .cons (.int _) (.cons g2 .nil), rfl⟩⟩
  · rename_i ds
    cases r1 with
    | cons ra t =>
      cases t
      cases (show Da G1 _ (.list ds) from ra) with
      | @lst a ws _ e1 e2 =>
        have st : ∀ {H}, Same G1 H → SqL K H a ws := fun s => .inl (.inl (s _ _ e1))
        refine ⟨a, ws, rfl, .inl ⟨st sr1.hp.sub, KK _ _ _ _ _ _ d1 l1 sr1 ⟨fun i H hi s => ?_, fun H s => ?_, fun i H x H' hi s y => ?_⟩⟩⟩
        · rw [enumD_len, ← e2.length] at hi
          exact ⟨ws, ws[i], st s, List.getElem?_eq_getElem hi⟩
        · exact ⟨ws, st s, by rw [enumD_len, e2.length]; exact Nat.le_refl _⟩
        · obtain ⟨T, u, y1, y2, y3, y4⟩ := y
          obtain ⟨dd, g1, g2⟩ := e2.get i (y4 ws (st s))
          have ge := enumD_get 0 g1
          rw [Nat.zero_add] at ge
          exact ⟨_, ge, .inr ⟨T, _, _, y1, y2, y3, .cons (.int _) (.cons g2 .nil), rfl⟩⟩
  · exact d1.elim
end PM

namespace PM
open PySem PySem.Spec PyProof.Rows L2 RZ
/-! ### sorted(t), t a tuple; sorted(xs), tuples of ints -/
section
variable {prog : Program} {w : World} {A : Around} {E : Value → Shared → Prop} {s : Shared}
set_option maxHeartbeats 4000000 in
theorem gatherT {t : Addr} {us : List Value} {R : List Value → Shared → Prop} (ht : IsTup s.heap t us.toArray) (lz : us.length ≤ sizeLine)
    (q : R us { s with heap := (s.heap.push (seqObj "list" #[] 0)).update s.heap.objs.size (Obj.mapSeq (· ++ us.toArray)) }) :
    wpAny (model prog w) A (collect (.ref t)) R E s := by
  obtain ⟨ob, h1, h2, n, h3⟩ := ht
  unfold collect
  refine wpAny_bind (wpAny_runValue (codeAny_builtin entry_proto_collect' (wpAny_bind (wpAny_newList (wpAny_pure ⟨Code.quiet_builtin _ (by decide +kernel), codeAny_builtin entry_list_iadd' ?_⟩)))))
  show wpAny _ _ (Builtin.List.listExtendWith (.ref s.heap.objs.size) (.ref t) (.ref s.heap.objs.size)) _ _ { s with heap := s.heap.push (seqObj "list" #[] 0) }
  unfold Builtin.List.listExtendWith
  have h1' := Heap.get?_push_of_some (seqObj "list" #[] 0) h1
  have same : (Value.type "tuple" == Value.type "tuple") = true := by rfl
  refine wpAny_bind (wpAny_typeOf (T := "tuple") ⟨ob, h1', h2⟩ ?_)
  rw [if_pos (by rw [same]; simp)]
  refine wpAny_bind (listItems_at h1' h3 (wpAny_bind (listItems_at (xs := #[]) (n := 0) (Heap.get?_push_size _ rfl) rfl ?_)))
  rw [if_neg (by simp)]
  refine wpAny_bind (listUpdate_at (xs := #[]) (n := 0) (Heap.get?_push_size _ rfl) rfl (wpAny_pure ?_) (Nat.zero_le _) (by show (#[] ++ us.toArray).size ≤ sizeLine + 1; simp only [Array.size_append, List.size_toArray, List.length_nil]; omega))
  refine wpAny_bind (wpAny_load (get?_update_seq (Heap.get?_push_size _ rfl) _) ?_)
  show wpAny _ _ (pure ((#[] : Array Value) ++ us.toArray).toList) R E _
  have e : ((#[] : Array Value) ++ us.toArray).toList = us := by simp
  rw [e]
  exact wpAny_pure q
def SqA (h : Heap) (a : Addr) (us : List Value) : Prop := h.IsList a us.toArray ∨ IsTup h a us.toArray
theorem gather {t : Addr} {us : List Value} {R : List Value → Shared → Prop} (ht : SqA s.heap t us) (lz : us.length ≤ sizeLine)
    (q : R us { s with heap := (s.heap.push (seqObj "list" #[] 0)).update s.heap.objs.size (Obj.mapSeq (· ++ us.toArray)) }) :
    wpAny (model prog w) A (collect (.ref t)) R E s := ht.elim (fun h => collect_list h q lz) fun h => gatherT h lz q
set_option maxHeartbeats 4000000 in
/-- sorted of a list or tuple -/
theorem sorted_of {t : Addr} {us : List Value} {lt : Value → Value → Bool} {R : Value → Shared → Prop} (O : SrtO.Swo lt) (ht : SqA s.heap t us) (lz : us.length ≤ sizeLine)
    (hS : 2 ≤ us.length → ∀ (g : Heap) (a : Addr), g.get? a = some (seqObj "list" us.toArray 0) → (∀ b o, s.heap.get? b = some o → b ≠ a ∧ g.get? b = some o) → SrtO.SortableO prog w A.in1.in1 { s with heap := g } a us lt)
    (q : ∀ out : List Value, SrtO.Srtd lt out → SrtO.Stb lt out us → R (.ref (s.heap.objs.size + 1)) { s with heap := sortedAll s.heap us out.toArray }) :
    wpAny (model prog w) A (call (.builtin "sorted") [.ref t]) R E s := by
  refine Calls.call_function_entry kind_sorted plain_sorted entry_sorted (args_sorted1 _) ?_
  unfold Builtin.«sorted»
  refine wpAny_bind (m := checkCount "sorted" 1 1 _) (wpAny_pure (wpAny_bind (gather ht lz (wpAny_bind (wpAny_newList ?_ lz)))))
  have z1 : ((s.heap.push (seqObj "list" #[] 0)).update s.heap.objs.size (Obj.mapSeq (· ++ us.toArray))).objs.size = s.heap.objs.size + 1 := by
    rw [Heap.size_update, size_push']
  have z2 : (((s.heap.push (seqObj "list" #[] 0)).update s.heap.objs.size (Obj.mapSeq (· ++ us.toArray))).push (seqObj "list" us.toArray 0)).get? (s.heap.objs.size + 1) = some (seqObj "list" us.toArray 0) := by
    rw [← z1]
    exact Heap.get?_push_size _ rfl
  have z3 : ∀ b o, s.heap.get? b = some o → b ≠ s.heap.objs.size + 1 ∧ (((s.heap.push (seqObj "list" #[] 0)).update s.heap.objs.size (Obj.mapSeq (· ++ us.toArray))).push (seqObj "list" us.toArray 0)).get? b = some o := fun b o h => by
    have lz' : b < s.heap.objs.size := Heap.lt_size h
    refine ⟨Nat.ne_of_lt (Nat.lt_succ_of_lt lz'), Heap.get?_push_of_some _ ?_⟩
    rw [Heap.get?_update_ne _ _ _ _ (Nat.ne_of_lt lz')]
    exact Heap.get?_push_of_some _ h
  show wpAny _ _ _ _ _ { s with heap := ((s.heap.push (seqObj "list" #[] 0)).update s.heap.objs.size (Obj.mapSeq (· ++ us.toArray))).push (seqObj "list" us.toArray 0) }
  rw [z1]
  refine wpAny_bind (wpAny_holding (wpAny_call_entry slot_list_sort ⟨_, z2, rfl⟩ entry_list_sort (SrtO.list_sort_ord O z2 lz (fun h2 => hS h2 _ _ z2 z3) fun out o1 o2 => ⟨_, rfl, ?_⟩) (args_list_sort _)))
  exact wpAny_pure ⟨_, rfl, q out o1 o2⟩
/-- v is a tuple of these ints -/
def IsTs (h : Heap) (v : Value) (ns : List Int) : Prop := ∃ a o us n, v = .ref a ∧ h.get? a = some o ∧ o.cls = .type "tuple" ∧ o.data = .seq us n ∧ IntsAre us.toList ns
theorem IsTs.keeps {h h' : Heap} {v : Value} {ns : List Int} (t : IsTs h v ns) (k : ∀ b o, h.get? b = some o → o.cls = .type "tuple" → h'.get? b = some o) : IsTs h' v ns := by
  obtain ⟨a, o, us, n, e, h1, h2, h3, h4⟩ := t
  exact ⟨a, o, us, n, e, k _ _ h1 h2, h2, h3, h4⟩
open HT (lexLt lexLt_cons lexLt_nil_nil lexLt_nil_cons lexLt_cons_nil)
theorem lexLt_asym : ∀ {xs ys : List Int}, lexLt xs ys = true → lexLt ys xs = false
  | [], [], h => nomatch h
  | [], _ :: _, _ => rfl
  | _ :: _, [], h => nomatch h
  | x :: xs, y :: ys, h => by
    rw [lexLt_cons] at h ⊢
    split at h
    · rename_i e
      rw [if_pos e.symm]
      exact lexLt_asym h
    · rename_i e
      have := of_decide_eq_true h
      rw [if_neg fun z => e z.symm]
      exact decide_eq_false (by omega)
theorem lexLt_tr : ∀ {xs ys zs : List Int}, lexLt ys xs = false → lexLt zs ys = false → lexLt zs xs = false
  | [], [], [], _, _ => rfl
  | [], _ :: _, _, h, _ => by
    cases ‹List Int› <;> rfl
  | [], [], _ :: _, _, _ => rfl
  | _ :: _, [], _, h, _ => nomatch h
  | _ :: _, _ :: _, [], _, h => nomatch h
  | x :: xs, y :: ys, z :: zs, h1, h2 => by
    rw [lexLt_cons] at h1 h2 ⊢
    split at h1
    · rename_i e1
      split at h2
      · rename_i e2
        rw [if_pos (e2.trans e1)]
        exact lexLt_tr h1 h2
      · rename_i e2
        have := of_decide_eq_false h2
        rw [if_neg (by omega)]
        exact decide_eq_false (by omega)
    · rename_i e1
      have := of_decide_eq_false h1
      split at h2
      · rename_i e2
        rw [if_neg (by omega)]
        exact decide_eq_false (by omega)
      · rename_i e2
        have := of_decide_eq_false h2
        rw [if_neg (by omega)]
        exact decide_eq_false (by omega)
theorem swo_lexLt {α : Type} (k : α → List Int) : SrtO.Swo fun v u => lexLt (k v) (k u) := ⟨fun _ _ h => lexLt_asym h, fun _ _ _ h1 h2 => lexLt_tr h1 h2⟩
theorem lt_tuples {a b : Addr} {xs ys : List Int} {Q : Value → Shared → Prop} (h1 : IsTs s.heap (.ref a) xs) (h2 : IsTs s.heap (.ref b) ys) (q : Q (.bool (lexLt xs ys)) s) :
    wpAny (model prog w) A (call (.builtin "tuple.__lt__") [.ref a, .ref b]) Q E s := by
  obtain ⟨a', ⟨c1, d1, t1, l1⟩, us, n, e, g1, g2, g3, g4⟩ := h1
  obtain ⟨b', ⟨c2, d2, t2, l2⟩, ws, n', e', k1, k2, k3, k4⟩ := h2
  cases e
  cases e'
  simp only at g2 g3 k2 k3
  subst g2 g3 k2 k3
  exact call_meets F.slot_tuple_lt ⟨_, g1, rfl⟩ F.entry_tuple_lt (F.args_tuple_lt_2 _ _) (HT.tuple_lt_ints a b us ws n n' d1 d2 l1 l2 xs ys g4 k4) ⟨g1, k1, q⟩
theorem oneLt_tuples {a b : Addr} {xs ys : List Int} {Q : Bool → Shared → Prop} (hu : A.units < cLine) (h1 : IsTs s.heap (.ref a) xs) (h2 : IsTs s.heap (.ref b) ys) (q : Q (lexLt xs ys) s) :
    wpAny (model prog w) A (oneLt' true (.ref a) (.ref b)) Q E s := by
  rw [oneLt'_eq]
  simp only [if_true]
  have ty : s.TypeIs (.ref a) "tuple" := by
    obtain ⟨a', o, us, n, e, g1, g2, _⟩ := h1
    cases e
    exact ⟨o, g1, g2⟩
  refine wpAny_bind (wpAny_cRoomFor hu (wpAny_bind (wpAny_callSpecialIfBound?_slot ty F.slot_tuple_lt (lt_tuples h1 h2 ?_))))
  exact wpAny_truthy_bool q
theorem ts_cmp {vs : List Value} {k : Value → List Int} (hu : A.units < cLine) (hp : ∀ v ∈ vs, IsTs s.heap v (k v)) : SrtO.Cmp prog w A s oneType' (fun p => p.1 ∈ vs) (SrtO.lt2 fun v u => lexLt (k v) (k u)) := by
  intro p q hm hm'
  have h1 := hp _ hm
  have h2 := hp _ hm'
  show wpAny (model prog w) A (keyLt' oneType' p.1 q.1) (fun r s' => s' = s ∧ r = lexLt (k p.1) (k q.1)) (fun _ _ => False) s
  obtain ⟨a, _, _, _, e, _⟩ := id h1
  obtain ⟨b, _, _, _, e', _⟩ := id h2
  rw [e] at h1 ⊢
  rw [e'] at h2 ⊢
  rw [keyLt'_oneType]
  exact oneLt_tuples hu h1 h2 ⟨rfl, rfl⟩
theorem kind_ts {M : Model} {vs : List Value} {k : Value → List Int} {v : Value} {R : SortKind → Shared → Prop} (hp : ∀ u ∈ v :: vs, IsTs s.heap u (k u)) (h0 : k v = []) (q : R oneType' s) :
    wpAny M A (keyKind' (v :: vs).toArray) R E s := by
  have fs : ∀ (us : List Value) {Q : List (Option Value) → Shared → Prop}, (∀ u ∈ us, IsTs s.heap u (k u)) → (∀ os : List (Option Value), Q os s) → wpAny M A (us.mapM firstOfTuple') Q E s := by
    intro us
    induction us with
    | nil => intro Q _ z; rw [List.mapM_nil]; exact wpAny_pure (z [])
    | cons u us ih =>
      intro Q hs z
      obtain ⟨a, o, xs, n, rfl, ho, hc, hd, hi⟩ := hs u List.mem_cons_self
      rw [List.mapM_cons]
      refine wpAny_bind ?_
      rw [PySem.W.kas_first_eq]
      refine wpAny_bind (PySem.W.Looks.here (show PySem.W.Looks M s.heap (typeOf (.ref a)) o.cls from (PySem.W.Looks.ld ho).andThen .now) ?_)
      rw [hc, if_neg (by first | decide | simp)]
      refine wpAny_bind (listItems_at ho hd (wpAny_pure ?_))
      exact wpAny_bind (ih (Q := fun bs s' => wpAny M A (pure (xs[0]? :: bs)) Q E s') (fun u' h => hs u' (List.mem_cons_of_mem _ h)) fun os => wpAny_pure (z _))
  rw [keyKind'_eq, List.mapM_toArray, map_eq_pure_bind]
  obtain ⟨a, o, xs, n, rfl, ho, hc, hd, hi⟩ := hp v List.mem_cons_self
  have x0 : xs[0]? = none := by
    rw [h0] at hi
    have := hi.length
    simp at this
    simp [this]
  rw [List.mapM_cons]
  refine wpAny_bind (wpAny_bind (wpAny_bind ?_))
  rw [PySem.W.kas_first_eq]
  refine wpAny_bind (PySem.W.Looks.here (show PySem.W.Looks M s.heap (typeOf (.ref a)) o.cls from (PySem.W.Looks.ld ho).andThen .now) ?_)
  rw [hc, if_neg (by first | decide | simp)]
  refine wpAny_bind (listItems_at ho hd (wpAny_pure ?_))
  rw [x0]
  refine wpAny_bind (fs vs (fun u h => hp u (List.mem_cons_of_mem _ h)) fun os => wpAny_pure (wpAny_pure ?_))
  rw [if_neg (by simp), if_neg (by simp)]
  rw [oneTypeOnly'_eq, List.mapM_toArray, map_eq_pure_bind]
  refine wpAny_bind (wpAny_bind (wpAny_bind (PySem.W.kas_mapM (r := Value.type "tuple") _ (fun u hu Q' hq => ?_) (wpAny_pure ?_))))
  · obtain ⟨a, o, xs, n, rfl, ho, hc, _⟩ := hp u hu
    rw [← hc] at hq
    exact PySem.W.Looks.here (show PySem.W.Looks M s.heap (typeOf (.ref a)) o.cls from (PySem.W.Looks.ld ho).andThen .now) hq
  · have same : (Value.type "tuple" == Value.type "tuple") = true := by rfl
    have al : ((List.map (fun _ => Value.type "tuple") (Value.ref a :: vs)).toArray.all fun x => x == Value.type "tuple") = true := by
      rw [List.all_toArray, List.all_map, List.all_eq_true]
      exact fun _ _ => same
    have at0 : (List.map (fun _ => Value.type "tuple") (Value.ref a :: vs)).toArray[0]? = some (Value.type "tuple") := by simp
    rw [at0]
    simp only [al, if_true]
    exact wpAny_pure (wpAny_pure q)
theorem ts_sortable {a : Addr} {v : Value} {vs : List Value} {k : Value → List Int} (hu : A.units < cLine) (hp : ∀ u ∈ v :: vs, IsTs s.heap u (k u)) (h0 : k v = []) (ha : ∀ o, s.heap.get? a = some o → o.cls ≠ .type "tuple") :
    SrtO.SortableO prog w A s a (v :: vs) fun x y => lexLt (k x) (k y) := by
  intro h' keep
  have hp' : ∀ u ∈ v :: vs, IsTs h' u (k u) := fun u hm => (hp u hm).keeps fun b o e c => keep b o (fun z => by subst z; exact ha o e c) e
  exact ⟨oneType', fun Q E hq => kind_ts (s := { s with heap := h' }) hp' h0 hq, ts_cmp (s := { s with heap := h' }) hu hp'⟩
end
/-! ### as rules -/
/-- a list or a tuple -/
def SqB (K : PySem.W.Frag) (H : Hp) (a : Addr) (xs : List V) : Prop := SqL K H a xs ∨ SqT K H a xs
theorem SqB.at {X : Cx} {pins : List (Addr × Obj)} {σ : L2.St} {H : Hp} {s : Shared} {a : Addr} {xs : List V} (I : L2.Inv X pins σ H s) (h : SqB X.K H a xs) : ∃ us : List Value, Vals xs us ∧ SqA s.heap a us ∧ xs.length ≤ sizeLine := by
  rcases h with h | h
  · obtain ⟨us, r, p, z⟩ := I.list h
    exact ⟨us, r, .inl p.isList, z⟩
  · obtain ⟨us, r, p, z⟩ := I.tuple h
    exact ⟨us, r, .inr p, z⟩
/-- sorted(a list or tuple of ints) -/
def rSrtI (K : PySem.W.Frag) : List V → Hp → VK → Prop := fun vs H Q => ∃ (a : Addr) (ns : List Int), vs = [V.ref a] ∧ SqB K H a (ns.map V.int) ∧
  ∀ (ms : List Int) (p : Addr), ms.Perm ns → ms.Pairwise (· ≤ ·) → H p = none → Q (.ref p) (upd H p (.lst (ms.map V.int)))
theorem cr_srtI {X : Cx} : CallR X (.builtin "sorted") (rSrtI X.K) := by
  intro pins s σ H vs us Q I r h
  obtain ⟨a, ns, rfl, hs, q⟩ := h
  obtain ⟨its, rv, hl, hz⟩ := hs.at I
  rw [Vals.ref1 r]
  have hi := rv.ints
  refine sorted_of SrtO.swo_int hl (by rw [← rv.length]; exact hz) (fun h2 h₁ a' _ _ => SrtO.ints_sortable hi h2) fun out h1 h2 => ?_
  obtain ⟨k1, k2, k3⟩ := SrtO.ints_out hi h1 h2
  obtain ⟨ep, he'⟩ := PyProof.Rows.sortedAll_at s.heap its out.toArray
  refine ⟨.ref _, upd H (s.heap.objs.size + 1) (.lst ((out.map SrtO.iv).map V.int)), I.laid (t' := s.toks) (fun _ _ => PyProof.Rows.sortedAll_old) (Nat.le_succ _) ⟨?_, out, ep, vals_of_ints k1, he'⟩, rfl, q _ _ k2 k3 (I.hok.fresh (Nat.le_succ _))⟩
  rw [List.length_map, k2.length_eq, ← List.length_map (f := V.int)]
  exact hz
/-- sorted(a list or tuple of pairs of ints) -/
def rSrtP (K : PySem.W.Frag) : List V → Hp → VK → Prop := fun vs H Q => ∃ (a : Addr) (xs : List V) (k : V → Int × Int), vs = [V.ref a] ∧ SqB K H a xs ∧ (∀ x ∈ xs, ∃ t, x = V.ref t ∧ H t = some (.tup [.int (k x).1, .int (k x).2])) ∧
  ∀ ys p, SrtO.Srtd (ltP k) ys → SrtO.Stb (ltP k) ys xs → H p = none → Q (.ref p) (upd H p (.lst ys))
theorem cr_srtP {X : Cx} : CallR X (.builtin "sorted") (rSrtP X.K) := by
  intro pins s σ H vs us Q I r h
  obtain ⟨a, xs, k, rfl, hs, hx, q⟩ := h
  obtain ⟨its, rv, hl, hz⟩ := hs.at I
  rw [Vals.ref1 r]
  obtain ⟨e1, e2⟩ := refs_back rv fun x m => (hx x m).imp fun _ h => h.1
  have hp : ∀ v ∈ its, Srt.IsPair s.heap v (k (backV v)).1 (k (backV v)).2 := fun v hv => by
    obtain ⟨t, rfl⟩ := e2 v hv
    obtain ⟨t', e, ht⟩ := hx _ (show V.ref t ∈ xs by rw [e1]; exact List.mem_map.mpr ⟨_, hv, rfl⟩)
    cases e
    obtain ⟨_, its2, r2, o, ho, hc, n, hd⟩ := I.hok _ _ ht
    obtain ⟨_, _, rfl, ⟨t1, rfl⟩, ⟨t2, rfl⟩⟩ := vals2 r2
    exact ⟨t, o, t1, t2, n, rfl, ho, hc, hd⟩
  refine sorted_of (SrtO.swo_lex fun u => k (backV u)) hl (by rw [← rv.length]; exact hz) (fun h2 g a' ha kk => ?_) fun out o1 o2 => ?_
  · refine SrtO.pairs_sortableO (s := { s with heap := g }) (by omega) (fun v hm => (hp v hm).keeps fun b o e _ => (kk b o e).2) fun o e => ?_
    cases e.symm.trans ha
    exact fun c => absurd (Value.type.inj c) (by decide)
  · obtain ⟨n, hn⟩ := sortedAll_at s.heap its out.toArray
    have hb : SrtO.Stb (ltP k) (out.map backV) xs := by
      rw [e1]
      exact SrtO.Stb.map (ltP_swo k) backV o2
    refine ⟨.ref _, upd H _ (.lst (out.map backV)), I.laid (t' := s.toks) (fun _ _ => sortedAll_old) (Nat.le_succ _) ⟨?_, out, n, vals_back fun u hu => e2 u (o2.perm.mem_iff.mp hu), hn⟩, rfl, q _ _ (SrtO.srtd_map o1) hb (I.hok.fresh (Nat.le_succ _))⟩
    rw [hb.len]
    exact hz
/-- sorted(a list or tuple of tuples of ints), the first is () -/
abbrev ltL (k : V → List Int) (x y : V) : Bool := HT.lexLt (k x) (k y)
def rSrtT (K : PySem.W.Frag) : List V → Hp → VK → Prop := fun vs H Q => ∃ (a : Addr) (x0 : V) (xs : List V) (k : V → List Int), vs = [V.ref a] ∧ SqB K H a (x0 :: xs) ∧ k x0 = [] ∧ (∀ x ∈ x0 :: xs, ∃ t, x = V.ref t ∧ H t = some (.tup ((k x).map V.int))) ∧
  ∀ ys p, SrtO.Srtd (ltL k) ys → SrtO.Stb (ltL k) ys (x0 :: xs) → H p = none → Q (.ref p) (upd H p (.lst ys))
theorem cr_srtT {X : Cx} (hu : X.A.units + 64 < cLine) : CallR X (.builtin "sorted") (rSrtT X.K) := by
  intro pins s σ H vs us Q I r h
  obtain ⟨a, x0, xs, k, rfl, hs, h0, hx, q⟩ := h
  obtain ⟨its, rv, hl, hz⟩ := hs.at I
  rw [Vals.ref1 r]
  obtain ⟨e1, e2⟩ := refs_back rv fun x m => (hx x m).imp fun _ h => h.1
  have hp : ∀ v ∈ its, IsTs s.heap v (k (backV v)) := fun v hv => by
    obtain ⟨t, rfl⟩ := e2 v hv
    obtain ⟨t', e, ht⟩ := hx _ (show V.ref t ∈ x0 :: xs by rw [e1]; exact List.mem_map.mpr ⟨_, hv, rfl⟩)
    cases e
    obtain ⟨_, its2, r2, o, ho, hc, n, hd⟩ := I.hok _ _ ht
    exact ⟨t, o, its2.toArray, n, rfl, ho, hc, hd, show IntsAre its2.toArray.toList (k (V.ref t)) by simpa using r2.ints⟩
  refine sorted_of (swo_lexLt fun u => k (backV u)) hl (by rw [← rv.length]; exact hz) (fun h2 g a' ha kk => ?_) fun out o1 o2 => ?_
  · match its, e1, hp, h2 with
    | v :: its, e1, hp, _ =>
      refine ts_sortable (s := { s with heap := g }) (by show X.A.units + 1 + 1 < cLine; omega) (fun v hm => (hp v hm).keeps fun b o e _ => (kk b o e).2) ?_ fun o e => ?_
      · rw [← (List.cons.inj e1).1]
        exact h0
      · cases e.symm.trans ha
        exact fun c => absurd (Value.type.inj c) (by decide)
  · obtain ⟨n, hn⟩ := sortedAll_at s.heap its out.toArray
    have hb : SrtO.Stb (ltL k) (out.map backV) (x0 :: xs) := by
      rw [e1]
      exact SrtO.Stb.map (swo_lexLt k) backV o2
    refine ⟨.ref _, upd H _ (.lst (out.map backV)), I.laid (t' := s.toks) (fun _ _ => sortedAll_old) (Nat.le_succ _) ⟨?_, out, n, vals_back fun u hu => e2 u (o2.perm.mem_iff.mp hu), hn⟩, rfl, q _ _ (SrtO.srtd_map o1) hb (I.hok.fresh (Nat.le_succ _))⟩
    rw [hb.len]
    exact hz
/-! ### at the data level -/
def fSrtI (m : Mu) (xs : List DV) (k : DV → Prop) : Prop := match xs with
  | [x] => ∃ is : List Int, rdS m x = some (is.map PyData.int) ∧ ∀ js : List Int, js.Perm is → js.Pairwise (· ≤ ·) → k (.d (.list (js.map PyData.int)))
  | _ => False
theorem cs_srtI (K : PySem.W.Frag) : CaS (rSrtI K) fSrtI := fun c G pl σ H e m xs ds k Q sr r d KK => by
  unfold fSrtI at d
  split at d
  · cases r with
    | cons ra t =>
      cases t
      obtain ⟨is, h1, d⟩ := d
      obtain ⟨a, ys, e1, e2, e3⟩ := sr.seq K ra h1
      cases e3.ints
      exact ⟨a, is, by rw [e1], e2, fun js p p1 p2 hp => KK.lst sr hp (d js p1 p2) (DaL_ints G js)⟩
  · exact d.elim
def unI : V → Int
  | .int i => i
  | _ => 0
/-- the ints of the tuple that v points to -/
def tsOf (H : Hp) : V → List Int
  | .ref t => match H t with
    | some (.tup xs) => xs.map unI
    | _ => []
  | _ => []
def tsD (g : List Int) : PyData := .tuple (g.map PyData.int)
theorem map_unI (g : List Int) : (g.map V.int).map unI = g := by
  rw [List.map_map]
  exact List.map_id'' (fun _ => rfl) g
theorem Da.ts {G : Hp} {v : V} {g : List Int} (h : Da G v (tsD g)) : ∃ t, v = .ref t ∧ G t = some (.tup (g.map V.int)) := by
  unfold tsD at h
  cases h with
  | @tup a xs _ e1 e2 =>
    cases e2.ints
    exact ⟨a, rfl, e1⟩
theorem Da.tsOf {G : Hp} {v : V} {g : List Int} (h : Da G v (tsD g)) : tsOf G v = g := by
  obtain ⟨t, rfl, e⟩ := h.ts
  show (match G t with | some (.tup xs) => xs.map unI | _ => []) = g
  rw [e]
  exact map_unI g
theorem DaL.ts {G : Hp} : ∀ {ys : List V} {gs : List (List Int)}, DaL G ys (gs.map tsD) → ys.map (tsOf G) = gs ∧ ∀ y ∈ ys, Da G y (tsD (tsOf G y))
  | [], [], _ => ⟨rfl, fun _ h => nomatch h⟩
  | y :: ys, g :: gs, h => by
    cases h with
    | cons h t =>
      obtain ⟨h1, h2⟩ := DaL.ts t
      have e := Da.tsOf h
      refine ⟨by rw [List.map_cons, e, h1], fun z hz => ?_⟩
      rcases List.mem_cons.mp hz with rfl | hz
      · rw [e]
        exact h
      · exact h2 z hz
theorem DaL.of_ts {G : Hp} : ∀ {zs : List V}, (∀ z ∈ zs, Da G z (tsD (tsOf G z))) → DaL G zs ((zs.map (tsOf G)).map tsD)
  | [], _ => .nil
  | z :: zs, h => .cons (h z List.mem_cons_self) (DaL.of_ts fun y hy => h y (List.mem_cons_of_mem _ hy))
/-- groups in their order: none before an earlier one -/
def UpL (gs : List (List Int)) : Prop := gs.Pairwise fun g h => HT.lexLt h g = false
def fSrtT (m : Mu) (xs : List DV) (k : DV → Prop) : Prop := match xs with
  | [x] => ∃ gs : List (List Int), rdS m x = some (([] :: gs).map tsD) ∧ ∀ hs : List (List Int), hs.Perm ([] :: gs) → UpL hs → k (.d (.list (hs.map tsD)))
  | _ => False
theorem cs_srtT (K : PySem.W.Frag) : CaS (rSrtT K) fSrtT := fun c G pl σ H e m xs ds k Q sr r d KK => by
  unfold fSrtT at d
  split at d
  · cases r with
    | cons ra t =>
      cases t
      obtain ⟨gs, h1, d⟩ := d
      obtain ⟨a, ys, e1, e2, e3⟩ := sr.seq K ra h1
      obtain ⟨q1, q2⟩ := DaL.ts e3
      obtain ⟨y0, ys, rfl⟩ : ∃ y us, ys = y :: us := by
        cases ys with
        | nil => cases e3
        | cons y us => exact ⟨y, us, rfl⟩
      have q0 : tsOf G y0 = [] := (List.cons.inj q1).1
      refine ⟨a, y0, ys, tsOf G, by rw [e1], e2, q0, fun x hx => ?_, fun zs p o1 o2 hp => KK.lst sr hp (d (zs.map (tsOf G)) ?_ ?_) (DaL.of_ts fun z hz => q2 z (o2.perm.mem_iff.mp hz))⟩
      · obtain ⟨t, e, h⟩ := (q2 x hx).ts
        exact ⟨t, e, sr.hp.sub _ _ h⟩
      · have pm := o2.perm.map (tsOf G)
        rw [q1] at pm
        exact pm
      · exact SrtO.srtd_map (lt := HT.lexLt) o1
  · exact d.elim
def pkD (p : Int × Int) : PyData := .tuple [.int p.1, .int p.2]
def pkOf (H : Hp) (v : V) : Int × Int := ((tsOf H v)[0]?.getD 0, (tsOf H v)[1]?.getD 0)
theorem Da.pk {G : Hp} {v : V} {p : Int × Int} (h : Da G v (pkD p)) : pkOf G v = p ∧ ∃ t, v = .ref t ∧ G t = some (.tup [.int p.1, .int p.2]) := by
  have h' : Da G v (tsD [p.1, p.2]) := h
  refine ⟨?_, h'.ts⟩
  unfold pkOf
  rw [h'.tsOf]
  rfl
theorem DaL.pk {G : Hp} : ∀ {ys : List V} {ps : List (Int × Int)}, DaL G ys (ps.map pkD) → ys.map (pkOf G) = ps ∧ ∀ y ∈ ys, Da G y (pkD (pkOf G y))
  | [], [], _ => ⟨rfl, fun _ h => nomatch h⟩
  | y :: ys, p :: ps, h => by
    cases h with
    | cons h t =>
      obtain ⟨h1, h2⟩ := DaL.pk t
      have e := (Da.pk h).1
      refine ⟨by rw [List.map_cons, e, h1], fun z hz => ?_⟩
      rcases List.mem_cons.mp hz with rfl | hz
      · rw [e]
        exact h
      · exact h2 z hz
theorem DaL.of_pk {G : Hp} : ∀ {zs : List V}, (∀ z ∈ zs, Da G z (pkD (pkOf G z))) → DaL G zs ((zs.map (pkOf G)).map pkD)
  | [], _ => .nil
  | z :: zs, h => .cons (h z List.mem_cons_self) (DaL.of_pk fun y hy => h y (List.mem_cons_of_mem _ hy))
def UpP (ps : List (Int × Int)) : Prop := ps.Pairwise fun p q => SrtO.lexB q p = false
def fSrtP (m : Mu) (xs : List DV) (k : DV → Prop) : Prop := match xs with
  | [x] => ∃ ps : List (Int × Int), rdS m x = some (ps.map pkD) ∧ ∀ qs : List (Int × Int), qs.Perm ps → UpP qs → k (.d (.list (qs.map pkD)))
  | _ => False
theorem cs_srtP (K : PySem.W.Frag) : CaS (rSrtP K) fSrtP := fun c G pl σ H e m xs ds k Q sr r d KK => by
  unfold fSrtP at d
  split at d
  · cases r with
    | cons ra t =>
      cases t
      obtain ⟨ps, h1, d⟩ := d
      obtain ⟨a, ys, e1, e2, e3⟩ := sr.seq K ra h1
      obtain ⟨q1, q2⟩ := DaL.pk e3
      refine ⟨a, ys, pkOf G, by rw [e1], e2, fun x hx => ?_, fun zs p o1 o2 hp => KK.lst sr hp (d (zs.map (pkOf G)) ?_ ?_) (DaL.of_pk fun z hz => q2 z (o2.perm.mem_iff.mp hz))⟩
      · obtain ⟨t, e, h⟩ := (Da.pk (q2 x hx)).2
        exact ⟨t, e, sr.hp.sub _ _ h⟩
      · rw [← q1]
        exact o2.perm.map _
      · exact SrtO.srtd_map (lt := SrtO.lexB) o1
  · exact d.elim
end PM

namespace PM
open PySem PySem.Spec PyProof.Rows L2 RZ
/-! ### dicts with ints as keys -/
theorem hu1 {A : Around} (h : A.units + 64 < cLine) : A.units + 1 < cLine := by omega
def valD (kvs : List (Int × PyData)) (k : Int) : Option PyData := (kvs.find? fun kv => decide (kv.1 = k)).map (·.2)
def putD (kvs : List (Int × PyData)) (k : Int) (d : PyData) : List (Int × PyData) := if (kvs.any fun kv => decide (kv.1 = k)) = true then kvs.map (fun kv => if kv.1 = k then (kv.1, d) else kv) else kvs ++ [(k, d)]
section
variable {G : Hp}
theorem DaK.length : ∀ {kxs : List (Key × V)} {kvs : List (Int × PyData)}, DaK G kxs kvs → kxs.length = kvs.length
  | _, _, .nil => rfl
  | _, _, .cons _ t => by rw [List.length_cons, List.length_cons, DaK.length t]
theorem inl_eq {i j : Int} : decide ((Sum.inl i : Key) = Sum.inl j) = decide (i = j) := decide_eq_decide.mpr ⟨fun h => Sum.inl.inj h, fun h => by rw [h]⟩
theorem DaK.val {d : PyData} (k : Int) : ∀ {kxs : List (Key × V)} {kvs : List (Int × PyData)}, DaK G kxs kvs → valD kvs k = some d → ∃ v, valV kxs (.inl k) = some v ∧ Da G v d
  | _, _, .nil, h => nomatch h
  | _, _, .cons (k := j) (v := v) hd t, h => by
    by_cases z : j = k
    · subst z
      refine ⟨v, valV_pos rfl, ?_⟩
      unfold valD at h
      rw [List.find?_cons_of_pos (by simp)] at h
      cases h
      exact hd
    · obtain ⟨u, h1, h2⟩ := DaK.val k t (by
        unfold valD at h
        rw [List.find?_cons_of_neg (by simpa using z)] at h
        exact h)
      exact ⟨u, by rw [valV_neg fun e => z (Sum.inl.inj e)]; exact h1, h2⟩
theorem DaK.none (k : Int) : ∀ {kxs : List (Key × V)} {kvs : List (Int × PyData)}, DaK G kxs kvs → valD kvs k = none → valV kxs (.inl k) = none
  | _, _, .nil, h => rfl
  | _, _, .cons (k := j) (v := v) hd t, h => by
    by_cases z : j = k
    · subst z
      unfold valD at h
      rw [List.find?_cons_of_pos (by simp)] at h
      cases h
    · rw [valV_neg fun e => z (Sum.inl.inj e)]
      exact DaK.none k t (by
        unfold valD at h
        rw [List.find?_cons_of_neg (by simpa using z)] at h
        exact h)
theorem DaK.any (k : Int) : ∀ {kxs : List (Key × V)} {kvs : List (Int × PyData)}, DaK G kxs kvs → (kxs.any fun kv => decide (kv.1 = .inl k)) = kvs.any fun kv => decide (kv.1 = k)
  | _, _, .nil => rfl
  | _, _, .cons hd t => by
    rw [List.any_cons, List.any_cons, DaK.any k t, inl_eq]
theorem DaK.map {v : V} {d : PyData} (hv : Da G v d) (k : Int) : ∀ {kxs : List (Key × V)} {kvs : List (Int × PyData)}, DaK G kxs kvs → DaK G (kxs.map fun kv => if kv.1 = .inl k then (kv.1, v) else kv) (kvs.map fun kv => if kv.1 = k then (kv.1, d) else kv)
  | _, _, .nil => .nil
  | _, _, .cons (k := j) hd t => by
    rw [List.map_cons, List.map_cons]
    by_cases z : j = k
    · subst z
      rw [if_pos rfl, if_pos rfl]
      exact .cons hv (DaK.map hv j t)
    · rw [if_neg fun e => z (Sum.inl.inj e), if_neg z]
      exact .cons hd (DaK.map hv k t)
theorem DaK.snoc {v : V} {d : PyData} (hv : Da G v d) (k : Int) : ∀ {kxs : List (Key × V)} {kvs : List (Int × PyData)}, DaK G kxs kvs → DaK G (kxs ++ [(.inl k, v)]) (kvs ++ [(k, d)])
  | _, _, .nil => .cons hv .nil
  | _, _, .cons hd t => .cons hd (DaK.snoc hv k t)
theorem DaK.put {v : V} {d : PyData} (hv : Da G v d) (k : Int) {kxs : List (Key × V)} {kvs : List (Int × PyData)} (h : DaK G kxs kvs) : DaK G (putK kxs (.inl k) v) (putD kvs k d) := by
  unfold putK putD
  rw [h.any k]
  split
  · exact h.map hv k
  · exact h.snoc hv k
end
/-- the pairs of a dict -/
def rdD (m : Mu) : DV → Option (List (Int × PyData))
  | .dic kvs => some kvs
  | .p i => match m[i]? with
    | some (.dic kvs) => some kvs
    | _ => none
  | _ => none
theorem SR.dict {c : Fr0} {G H : Hp} {pl : Nat → Pl} {σ : L2.St} {e : DEnv} {m : Mu} (sr : SR c G pl σ H e m) {v : V} {dv : DV} {kvs : List (Int × PyData)} (r : RV G pl m.length v dv) (h : rdD m dv = some kvs) : ∃ a kxs, v = .ref a ∧ H a = some (.dK kxs) ∧ DaK G kxs kvs := by
  unfold rdD at h
  split at h
  · cases h
    obtain ⟨a, kxs, e1, e2, e3⟩ := r
    exact ⟨a, kxs, e1, sr.hp.sub _ _ e2, e3⟩
  · split at h
    · rename_i e1
      cases h
      obtain ⟨kxs, h1, h2⟩ := sr.hp.mo _ _ e1
      exact ⟨_, kxs, r.2, h1, h2⟩
    · cases h
  · cases h
/-- d[y] -/
def dDGet (a b : DE) : DE := fun e m k => a e m fun x m1 => b e m1 fun y m2 => match y with
  | .d (.int i) => ∃ kvs d, rdD m2 x = some kvs ∧ valD kvs i = some d ∧ k (.d d) m2
  | _ => False
theorem se_dget {ta tb : TE} {da db : DE} (ha : SE ta da) (hb : SE tb db) : SE (tDGet ta tb) (dDGet da db) := fun c G pl σ H e m k Q sr d K =>
  ha _ _ _ _ _ _ _ _ _ sr d fun x m1 G1 pl1 H1 v1 d1 l1 sr1 r1 => hb _ _ _ _ _ _ _ _ _ sr1 d1 fun y m2 G2 pl2 H2 v2 d2 l2 sr2 r2 => by
    split at d2
    · rename_i i
      obtain ⟨kvs, d, h1, h2, d2⟩ := d2
      obtain ⟨a, kxs, e1, e2, e3⟩ := sr2.dict (r1.le l2) h1
      obtain ⟨u, h3, h4⟩ := e3.val i h2
      cases r2.int_inv
      refine ⟨a, u, e1, ?_, (K.le (l1.trans l2)).val sr2 d2 (show RV G2 pl2 m2.length u (.d d) from h4)⟩
      have := DGet.k (k := .inl i) e2
      rw [h3] at this
      exact this
    · exact d2.elim
/-- x = {} -/
def dOwnD (i : Nat) : DS := fun E e m => E.nx (stt e i (some (.p m.length))) (m ++ [.dic []])
theorem ss_ownD (i : Nat) : SS (tAsg tDNewK (gName i)) (dOwnD i) := fun c G pl σ H e m D E hL sr d K p hp => by
  obtain ⟨h1, h2, h3⟩ := sr.hp.fresh hp
  have l2 := Le.plus G pl m p (.dic [])
  have hh : HR c G pl (upd H p (.dK [])) m := sr.hp.grow fun b x _ e => by rw [upd_ne (ne_of_none e hp)]; exact e
  have h4 : HR c G (plus pl m.length p) (upd H p (.dK [])) (m ++ [.dic []]) := hh.push (o := .dic []) ⟨[], upd_same, .nil⟩ rfl h1 h3 h2
  exact K.nx _ _ _ _ _ _ d l2 ⟨(sr.env.le l2).set i ⟨by simp, by rw [plus_new]⟩, h4⟩
/-- d[y] = v -/
def dDPut (i : Nat) (b v : DE) : DS := fun E e m => v e m fun x m1 => match x, lk e i with
  | .d z, some (.p j) => b e m1 fun y m2 => match y with
    | .d (.int n) => ∃ kvs, m2[j]? = some (.dic kvs) ∧ kvs.length < 1000000 ∧ E.nx e (m2.set j (.dic (putD kvs n z)))
    | _ => False
  | _, _ => False
theorem ss_dput {tb tv : TE} {db dv : DE} (i : Nat) (hb : SE tb db) (hv : SE tv dv) : SS (sDPut (tVar i) tb tv) (dDPut i db dv) := fun c G pl σ H e m D E hL sr d KK => by
  refine hv _ _ _ _ _ _ _ _ _ sr d fun x m1 G1 pl1 H1 v1 d1 l1 sr1 r1 => ?_
  split at d1
  · rename_i z j q
    obtain ⟨v, h1, h2⟩ := sr1.env.get i _ q
    obtain ⟨hj, rfl⟩ := h2
    refine ⟨_, h1, hb _ _ _ _ _ _ _ _ _ sr1 d1 fun y m2 G2 pl2 H2 v2 d2 l2 sr2 r2 => ?_⟩
    split at d2
    · rename_i n
      obtain ⟨kvs, q1, hz, d2⟩ := d2
      obtain ⟨kxs, hx, hd⟩ := sr2.hp.mo _ _ q1
      cases r2.int_inv
      have hy : Da G2 v1 z := r1.le l2
      have pj : pl2 j = pl1 j := l2.p j hj
      rw [pj] at hx
      refine ⟨_, _, rfl, DPut.k (k := .inl n) hx (by rw [hd.length]; exact Nat.lt_of_lt_of_le hz (bigS (Nat.le_refl _))), ?_⟩
      have hp := sr2.hp.put (o' := .dic (putD kvs n z)) (ob := .dK (putK kxs (.inl n) v1)) q1 rfl rfl rfl rfl ⟨_, upd_same, hd.put hy n⟩
      rw [pj] at hp
      have l3 : ∀ o, Le G2 pl2 m2.length G2 pl2 (m2.set j o).length := fun o => ⟨.refl _, fun _ _ => rfl, by simp⟩
      exact KK.nx _ _ _ _ _ _ d2 ((l1.trans l2).trans (l3 _)) ⟨sr2.env.le (l3 _), hp⟩
    · exact d2.elim
  · exact d1.elim
/-- tuple(reversed(a list)) -/
def dTupRev (a : DE) : DE := fun e m k => a e m fun x m1 => ∃ ds, rdL m1 x = some ds ∧ k (.d (.tuple ds.reverse)) m1
theorem DaL.rev {G : Hp} : ∀ {xs : List V} {ds : List PyData}, DaL G xs ds → DaL G xs.reverse ds.reverse
  | _, _, .nil => .nil
  | _, _, .cons h t => by
    rw [List.reverse_cons, List.reverse_cons]
    exact DaL.append (DaL.rev t) (.cons h .nil)
theorem se_tupRev (K : PySem.W.Frag) {ta : TE} {da : DE} (h : SE ta da) : SE (RT.tTupRev K ta) (dTupRev da) := fun c G pl σ H e m k Q sr d KK => h _ _ _ _ _ _ _ _ _ sr d fun x m1 G1 pl1 H1 v1 d1 l1 sr1 r1 => by
  obtain ⟨ds, h1, d1⟩ := d1
  obtain ⟨a, xs, e1, e2, e3⟩ := sr1.list r1 h1
  exact ⟨a, xs, e1, .inl (.inl e2), fun q hq => (KK.le l1).tup sr1 hq d1 e3.rev⟩
end PM

namespace PM
open PySem PySem.Spec PyProof.Rows L2 RZ
/-! ### enumerate of items -/
theorem enum_map {α : Type} (f : α → PyData) (d : α) : ∀ (xs : List α) (n : Nat), enumD n (xs.map f) = (List.range xs.length).map fun i => .tuple [nD (n + i), f (xs.getD i d)]
  | [], n => rfl
  | x :: xs, n => by
    have ih := enum_map f d xs (n + 1)
    rw [List.map_cons, List.length_cons, List.range_succ_eq_map, List.map_cons, List.map_map]
    simp only [enumD]
    rw [ih]
    congr 1
    apply List.map_congr_left
    intro i _
    show PyData.tuple [nD (n + 1 + i), _] = PyData.tuple [nD (n + (i + 1)), _]
    rw [show n + 1 + i = n + (i + 1) by omega]
    simp
theorem enum_its (its : List (Int × Int)) : enumD 0 (its.map itD) = (List.range its.length).map fun i => .tuple [nD i, itD (itm its i)] := by
  rw [enum_map itD (0, 1)]
  simp only [Nat.zero_add]
  rfl
/-- for i, x in enumerate(xs) -/
theorem forE {α : Type} (f : α → PyData) (d : α) {g : DG} {b : DS} {E : DEnds} {e : DEnv} {m : Mu} (xs : List α) (J : List Nat → DEnv → Mu → Prop) (h0 : J [] e m)
    (hs : ∀ done i r e m, List.range xs.length = done ++ i :: r → J done e m → ∀ C : DEnv → Mu → Prop, (∀ e m, J (done ++ [i]) e m → C e m) → g (.d (.tuple [nD i, f (xs.getD i d)])) e m fun e' m' => b { nx := C, rt := E.rt, bk := E.nx, ct := C } e' m') (hd : ∀ e m, J (List.range xs.length) e m → E.nx e m) :
    ∃ I : List PyData → DEnv → Mu → Prop, I (enumD 0 (xs.map f)) e m ∧ (∀ x r e m, I (x :: r) e m → g (.d x) e m fun e' m' => b { nx := I r, rt := E.rt, bk := E.nx, ct := I r } e' m') ∧ ∀ e m, I [] e m → E.nx e m := by
  rw [enum_map f d]
  simp only [Nat.zero_add]
  exact forL (fun i : Nat => .tuple [nD i, f (xs.getD i d)]) (List.range xs.length) J h0 hs hd
/-- [.. for i, x in enumerate(xs) if ..] that draws nothing -/
theorem lcE {α : Type} (f : α → PyData) (d : α) (g : Nat → PyData) (p : Nat → Bool) {dg : DG} {dt : DT} {de : DE} {vs : List Nat} {e : DEnv} {m : Mu} {k : List PyData → Mu → Prop} (xs : List α) (hz : xs.length ≤ 1000000)
    (h : ∀ i, i < xs.length → ∀ (C : PyData → Mu → Prop) (C0 : Mu → Prop), (p i = true → C (g i) m) → (p i = false → C0 m) → dg (.d (.tuple [nD i, f (xs.getD i d)])) (wp e vs) m fun e' m' => dt e' m' fun b m2 => br b (de e' m2 (plD C)) (C0 m2)) (hk : k (((List.range xs.length).filter p).map g) m) :
    (enumD 0 (xs.map f)).length ≤ 1000000 ∧ ∃ I : List PyData → List PyData → Mu → Prop, I (enumD 0 (xs.map f)) [] m ∧
      (∀ x r acc m, I (x :: r) acc m → dg (.d x) (wp e vs) m fun e' m' => dt e' m' fun b m2 => br b (de e' m2 (plD fun z m3 => I r (acc ++ [z]) m3)) (I r acc m2)) ∧ ∀ acc m, I [] acc m → k acc m := by
  rw [enum_map f d]
  simp only [Nat.zero_add]
  exact lcFM (fun i : Nat => .tuple [nD i, f (xs.getD i d)]) g p (List.range xs.length) (by rw [List.length_range]; exact hz) (fun i hi => h i (List.mem_range.mp hi)) hk
/-- [.. for x, y in zip(xs, ys) if ..] that draws nothing -/
theorem lcZ {α β : Type} (f : α → PyData) (f2 : β → PyData) (g : α × β → PyData) (p : α × β → Bool) {dg : DG} {dt : DT} {de : DE} {vs : List Nat} {e : DEnv} {m : Mu} {k : List PyData → Mu → Prop} (xs : List α) (ys : List β) (hz : xs.length ≤ 1000000)
    (h : ∀ x ∈ List.zip xs ys, ∀ (C : PyData → Mu → Prop) (C0 : Mu → Prop), (p x = true → C (g x) m) → (p x = false → C0 m) → dg (.d (.tuple [f x.1, f2 x.2])) (wp e vs) m fun e' m' => dt e' m' fun b m2 => br b (de e' m2 (plD C)) (C0 m2)) (hk : k (((List.zip xs ys).filter p).map g) m) :
    (pairs (xs.map f) (ys.map f2)).length ≤ 1000000 ∧ ∃ I : List PyData → List PyData → Mu → Prop, I (pairs (xs.map f) (ys.map f2)) [] m ∧
      (∀ x r acc m, I (x :: r) acc m → dg (.d x) (wp e vs) m fun e' m' => dt e' m' fun b m2 => br b (de e' m2 (plD fun z m3 => I r (acc ++ [z]) m3)) (I r acc m2)) ∧ ∀ acc m, I [] acc m → k acc m := by
  rw [pairs_map]
  exact lcFM (fun p : α × β => .tuple [f p.1, f2 p.2]) g p (List.zip xs ys) (by rw [List.length_zip]; omega) h hk
theorem deq_fds {rt : List (Int × Int)} (h : rt.length ≤ 1000) : plainD (.tuple (rt.map fd)) = true := by
  unfold plainD
  rw [List.length_map, decide_eq_true h, plain_map fun x _ => rfl]
  rfl
theorem depL_map {α : Type} {f : α → PyData} {n : Nat} : ∀ {xs : List α}, (∀ x ∈ xs, dep (f x) ≤ n) → dep.depL (xs.map f) ≤ n
  | [], _ => Nat.zero_le _
  | x :: xs, h => by
    rw [List.map_cons]
    unfold dep.depL
    exact Nat.max_le.mpr ⟨h x List.mem_cons_self, depL_map fun y hy => h y (List.mem_cons_of_mem _ hy)⟩
theorem dep_fds (rt : List (Int × Int)) : dep (.tuple (rt.map fd)) < 8 := by
  unfold dep
  have := depL_map (f := fd) (n := 1) (xs := rt) fun x _ => Nat.le_of_lt_succ (dep_fd x)
  omega
end PM

namespace PM
open PySem PySem.Spec PyProof.Rows L2 RZ
/-! ### t[::-1] of a tuple -/
section
variable {prog : Program} {w : World} {A : Around} {E : Value → Shared → Prop} {s : Shared}
theorem applied_back {sl : Addr} {vl vu vs : Value} {n : Nat} {Q : Int × Int × Nat → Shared → Prop} (hs : s.heap.IsSliceOf sl vl vu vs) (pl : IsPart vl none) (pu : IsPart vu none) (ps : IsPart vs (some (-1)))
    (h : Q ((n : Int) - 1, -1, n) s) : wpAny (model prog w) A (Builtin.Slice.sliceApplied (.ref sl) (pure (n : Int))) Q E s := by
  obtain ⟨os, hos, hcs, hds⟩ := id hs
  unfold Builtin.Slice.sliceApplied Builtin.Slice.sliceFields
  refine wpAny_bind (wpAny_bind (wpAny_field hos hds (x := vl) rfl (wpAny_bind (wpAny_field hos hds (x := vu) rfl (wpAny_bind (wpAny_field hos hds (x := vs) rfl (wpAny_pure ?_)))))))
  refine wpAny_bind (HT.slicePart_ ps ?_)
  show wpAny _ _ (if ((-1 : Int) == 0) = true then _ else _) _ _ s
  rw [if_neg (by decide)]
  refine wpAny_bind (HT.slicePart_ pl (wpAny_bind (HT.slicePart_ pu (wpAny_bind (wpAny_pure ?_)))))
  have e1 : Builtin.Slice.sliceAdjust none none (-1) (n : Int) = ((n : Int) - 1, -1) := by
    unfold Builtin.Slice.sliceAdjust
    simp
  have e2 : Builtin.Slice.slicePlaces ((n : Int) - 1) (-1) (-1) = n := by
    unfold Builtin.Slice.slicePlaces
    simp
    omega
  show wpAny _ _ (match Builtin.Slice.sliceAdjust none none (-1) (n : Int) with | (lo, hi) => pure (lo, (-1 : Int), Builtin.Slice.slicePlaces lo hi (-1))) _ _ s
  rw [e1]
  show wpAny _ _ (pure ((n : Int) - 1, (-1 : Int), Builtin.Slice.slicePlaces ((n : Int) - 1) (-1) (-1))) _ _ s
  rw [e2]
  exact wpAny_pure h
theorem fm_range : ∀ (l : List Value) (f : Nat → Option Value), (∀ m, m < l.length → f m = l[m]?) → (List.range l.length).filterMap f = l
  | [], _, _ => rfl
  | x :: l, f, h => by
    have ih := fm_range l (fun m => f (m + 1)) fun m hm => by
      have := h (m + 1) (by rw [List.length_cons]; omega)
      rw [this, List.getElem?_cons_succ]
    rw [List.length_cons, List.range_succ_eq_map, List.filterMap_cons, h 0 (by rw [List.length_cons]; omega)]
    show x :: List.filterMap f (List.map Nat.succ (List.range l.length)) = x :: l
    rw [List.filterMap_map]
    exact congrArg (List.cons x) ih
theorem pick_back (xs : Array Value) : ((List.range xs.size).filterMap fun (m : Nat) => xs[((xs.size : Int) - 1 + (m : Int) * (-1)).toNat]?).toArray = xs.toList.reverse.toArray := by
  congr 1
  have := fm_range xs.toList.reverse (fun (m : Nat) => xs[((xs.size : Int) - 1 + (m : Int) * (-1)).toNat]?) fun m hm => by
    have lt : m < xs.size := by simpa using hm
    rw [List.getElem?_reverse (by simpa using lt), Array.getElem?_toList, Array.length_toList]
    congr 1
    omega
  rw [List.length_reverse, Array.length_toList] at this
  exact this
theorem get_back {t sl : Addr} {its : Array Value} {vl vu vs : Value} {Q : Value → Shared → Prop} (ht : IsTup s.heap t its) (hs : s.heap.IsSliceOf sl vl vu vs) (pl : IsPart vl none) (pu : IsPart vu none) (ps : IsPart vs (some (-1)))
    (h : Q (.ref s.heap.objs.size) { s with heap := s.heap.push { cls := .type "tuple", data := .seq its.toList.reverse.toArray } }) (few : its.size ≤ sizeLine) : wpAny (model prog w) A (getItem (.ref t) (.ref sl)) Q E s := by
  have fits : sizeOk (.seq its.toList.reverse.toArray) := by
    show its.toList.reverse.toArray.size ≤ sizeLine
    rw [List.size_toArray, List.length_reverse, Array.length_toList]
    exact few
  obtain ⟨os, hos, hcs, hds⟩ := id hs
  unfold getItem
  try with_reducible refine wpAny_holding ?_
  refine wpAny_bind (wpAny_sequenceKey ht.typeIs (by decide) ?_)
  refine wpAny_bind (wpAny_callSpecial?_slot (name := Str.ofString "__getitem__") ht.typeIs PyProof.Rows.slot_tuple_getitem (wpAny_call_entry PyProof.Rows.slot_tuple_getitem ht.typeIs entry_tuple_getitem ?_ (args_tuple_getitem _ _)))
  show wpAny _ _ (Builtin.Tuple.tupleItemsOf (.ref t) >>= _) _ _ s
  refine wpAny_bind (tupleItemsOf_ ht (wpAny_bind (wpAny_typeOf ⟨os, hos, hcs⟩ ?_)))
  rw [if_pos (by decide)]
  refine wpAny_bind (applied_back hs pl pu ps ?_)
  have no : ¬ ((((its.size : Int) - 1) == 0 && (-1 : Int) == 1 && its.size == its.size) = true) := by
    rw [show ((-1 : Int) == 1) = false from rfl, Bool.and_false, Bool.false_and]
    exact Bool.false_ne_true
  show wpAny _ _ (if (((its.size : Int) - 1) == 0 && (-1 : Int) == 1 && its.size == its.size) = true then _ else _) _ _ s
  rw [if_neg no, pick_back]
  first
    | exact wpAny_bind (m := Builtin.Tuple.tupleExact _) (wpAny_newObj_type (wpAny_pure ⟨_, rfl, wpAny_pure h⟩) fits)
    | exact wpAny_bind (m := Builtin.Tuple.tupleExact _) (wpAny_newObj_type (wpAny_bind (wpAny_pure (wpAny_pure ⟨_, rfl, wpAny_pure h⟩))) fits)
    | exact wpAny_bind (wpAny_bind (m := Builtin.Tuple.tupleExact _) (wpAny_newObj_type (wpAny_pure (wpAny_pure ⟨_, rfl, wpAny_pure h⟩)) fits))
    | exact wpAny_bind (wpAny_bind (m := Builtin.Tuple.tupleExact _) (wpAny_newObj_type (wpAny_pure ⟨_, rfl, wpAny_pure h⟩) fits))
end
section
variable {X : Cx}
def tBack (K : PySem.W.Frag) (te : TE) : TE := fun σ H Q => te σ H fun x H1 => ∃ a xs, x = .ref a ∧ SqT K H1 a xs ∧ ∀ p, H1 p = none → Q (.ref p) (upd H1 p (.tup xs.reverse))
theorem pe_back {e : Expr} {te : TE} {k : Nat} {p1 p2 p3 pos : Pos} (he : PE X e te) : PE X (.Subscript e (.Slice none none (some (.UnaryOp .USub (.Constant (.int 1) k p1) p2)) p3) pos) (tBack X.K te) := by
  refine ⟨fun pins s σ H Q I h => ?_⟩
  refine Subscript_ (thn (he.run pins s σ H _ I h) fun v s1 ⟨x, H1, I1, r1, a, xs, ex, hx, q⟩ => ?_)
  subst ex
  cases r1
  have part : PO X (some (.UnaryOp .USub (.Constant (.int 1) k p1) p2)) (tPart (tUn (rU fun i => .int (-i)) (tC (.int 1)))) := po_some (pe_un un_neg pe_int)
  refine wpAny_Slice (thn (po_none.run pins s1 σ H1 (fun o H2 => o = none ∧ H2 = H1) I1 ⟨rfl, rfl⟩) fun vl s2 ⟨l, H2, I2, pl, el, e2⟩ => ?_)
  subst el e2
  refine thn (po_none.run pins s2 σ H2 (fun o H3 => o = none ∧ H3 = H2) I2 ⟨rfl, rfl⟩) fun vu s3 ⟨u, H3, I3, pu, eu, e3⟩ => ?_
  subst eu e3
  refine thn (part.run pins s3 σ H3 (fun o H4 => o = some (-1) ∧ H4 = H3) I3 ⟨1, rfl, -1, rfl, rfl, rfl⟩) fun vs s4 ⟨o, H4, I4, ps, eo, e4⟩ => ?_
  subst eo e4
  have I5 : L2.Inv X pins σ H4 { s4 with heap := s4.heap.push { cls := .type "slice", data := .fields #[vl, vu, vs] } } := I4.kept (t' := s4.toks) fun b ob z => Heap.get?_push_of_some _ z
  obtain ⟨its, r, ht, few⟩ := I5.tuple hx
  show wpAny (model X.prog X.w) X.A (subscriptTail e (.Slice none none (some (.UnaryOp .USub (.Constant (.int 1) k p1) p2)) p3) (.ref a) (.ref s4.heap.objs.size)) (EP X pins σ Q) X.xe { s4 with heap := s4.heap.push { cls := .type "slice", data := .fields #[vl, vu, vs] } }
  refine tail_any (ops := [.ref a, .ref s4.heap.objs.size]) ht.typeIs (PyProof.Rows.slot_tuple_getitem.lookup) ?_ (by with_unfolding_all rfl)
  refine get_back ht (Heap.IsSliceOf.new _ vl vu vs) pl pu ps ?_ (by rw [List.size_toArray, ← r.length]; exact few)
  refine ⟨.ref _, _, I5.laid (t' := s4.toks) (o := .tup xs.reverse) (fun b ob z => Heap.get?_push_of_some _ z) (Nat.le_refl _) ?_, rfl, q _ (I5.hok.fresh (Nat.le_refl _))⟩
  exact ⟨by rw [List.length_reverse]; exact few, _, r.reverse, _, Heap.get?_push_size _ rfl, rfl, _, rfl⟩
end
end PM

namespace PM
open PySem PySem.Spec PyProof.Rows L2 RZ
/-! ### defs that call repr: nobody may be about to show -/
structure FnQ (P : Program) (w : World) (K : PySem.W.Frag) (mg : Str → Option Value) (base : Heap) (k : Nat) (f : Addr) (fd : FuncData) (ps : List Str) (sp : Sp) : Prop where
  len : ∀ vs H Q E, sp vs H Q E → vs.length = ps.length
  run : ∀ (A : Around) (outer : List Env) (s : Shared) (H : Hp) (args : Args) (us : List Value) (vs : List V) (Q : VK), Room k A → A.guards = some [] → Env0 P w K mg base A outer s H → BindsTo s fd args (ps.zip us) → Vals vs us → sp vs H Q E0 →
    codeAny (model P w) A (.call (.ref f) args) (CR CX0 outer P w H s Q E0) s
def OkQ (P : Program) (w : World) (K : PySem.W.Frag) (mg : Str → Option Value) (base : Heap) (k : Nat) (x : Str) (st : Stmt) (ps : List Str) (sp : Sp) : Prop :=
  ∃ f fd, Def1 K mg x st ps f fd ∧ FnQ P w K mg base k f fd ps sp
section
variable {P : Program} {w : World} {K : PySem.W.Frag} {mg : Str → Option Value} {base : Heap}
theorem fun_okQ {x qual : Str} {st : Stmt} {f : Addr} {fd : FuncData} {N ps : List Str} {k : Nat} {sp : Sp} (F : Fun K x qual st f fd) (S : FnScope N ps (defScope st)) (len : ∀ vs H Q E, sp vs H Q E → vs.length = ps.length)
    (hbody : ∀ (cdv : Value) (A : Around) (outer : List Env) (s : Shared) (H : Hp) (vs : List V) (Q : VK), Room k (A.deeper (envOfC qual (defScope st) s.heap.objs.size f cdv)) → A.guards = some [] → sp vs H Q E0 →
      ∃ t, PSs (cxOf CX0 P w K mg base N qual (defScope st) f cdv A outer s H E0).nox (defBody st) t ∧ t { nx := fun _ H' => Q .non H', rt := Q } (start N vs) H) : FnQ P w K mg base (k + 1) f fd ps sp := by
  obtain ⟨oc, od, kV, doc, pm, an, cdv, ct, osl, rfl, lk, hcd⟩ := F.ex
  refine ⟨len, fun A outer s H args us vs Q hr hq e0 hb hv hsp => ?_⟩
  obtain ⟨t, h, q⟩ := hbody cdv A outer s H vs Q (hr.deeper _) hq hsp
  exact enter_at lk hcd S (len _ _ _ _ hsp) hr e0 hb hv ⟨t, h.nox, q⟩
end
section
variable {X : Cx} {k : Nat} {f : Addr} {fd : FuncData} {ps : List Str} {sp : Sp} {x : Str} {p pos : Pos} {e : Expr} {es : List Expr} {t : TA}
theorem pe_callQ (F : FnQ X.prog X.w X.K X.mg X.base k f fd ps sp) (hq : X.A.guards = some []) (hr : Room k X.A) (hg : Gl X x) (hm : X.mg x = some (.ref f)) (hk : PySem.W.keepIn X.K (.ref f) = true) (hb : Binds X.K fd ps [])
    (ha : PA X (e :: es) t) (hdb : (x == ("__debug__" : Str)) = false := by decide) (he : starEach (e :: es) X.env = (false, eval e X.env) :: starEach es X.env := by rfl) (hpl : (backTo pos (starEach es X.env)).any (·.1) = false := by rfl) :
    PE X (.Call (.Name x p) (e :: es) [] pos) (tCall sp [] E0 t) := by
  refine ⟨fun pins s σ H Q I h => ?_⟩
  refine wpAny_Call_Name_kw (ld_glob I hg hm ?_ hdb)
  refine PySem.W.callWith_K (h₀ := X.base) I.ok.mod.kin hk (thn (ha.run pos pins s σ H _ I h) fun us s1 ⟨vs, H1, I1, r, q⟩ => ⟨I1.kIn, ?_⟩) he hpl
  have r2 : Vals (vs ++ []) (us ++ []) := r.append .nil
  have hl : (us ++ []).length = ps.length := by rw [← r2.length]; exact F.len _ _ _ _ q
  refine wpAny_call (codeAny_mono (F.run X.A X.stack s1 H1 ⟨us, []⟩ (us ++ []) (vs ++ []) Q hr hq I1.env0 (hb s1 us I1.kIn hl) r2 q) fun r s' hq => ?_)
  cases r with
  | error e => exact False.elim hq
  | ok fl =>
    cases fl with
    | ret u => exact I1.after hq
    | next => exact False.elim hq
    | brk => exact False.elim hq
    | cont => exact False.elim hq
end
/-! ### loops over lists that are the image of others -/
theorem lcFM_eq {α : Type} (f g : α → PyData) (p : α → Bool) {L : List PyData} {dg : DG} {dt : DT} {de : DE} {vs : List Nat} {e : DEnv} {m : Mu} {k : List PyData → Mu → Prop} (xs : List α) (hL : L = xs.map f) (hz : xs.length ≤ 1000000)
    (h : ∀ x ∈ xs, ∀ (C : PyData → Mu → Prop) (C0 : Mu → Prop), (p x = true → C (g x) m) → (p x = false → C0 m) → dg (.d (f x)) (wp e vs) m fun e' m' => dt e' m' fun b m2 => br b (de e' m2 (plD C)) (C0 m2)) (hk : k ((xs.filter p).map g) m) :
    L.length ≤ 1000000 ∧ ∃ I : List PyData → List PyData → Mu → Prop, I L [] m ∧
      (∀ x r acc m, I (x :: r) acc m → dg (.d x) (wp e vs) m fun e' m' => dt e' m' fun b m2 => br b (de e' m2 (plD fun z m3 => I r (acc ++ [z]) m3)) (I r acc m2)) ∧ ∀ acc m, I [] acc m → k acc m := by
  subst hL
  exact lcFM f g p xs hz h hk
theorem lcM_eq {α : Type} (f g : α → PyData) {L : List PyData} {dg : DG} {dt : DT} {de : DE} {vs : List Nat} {e : DEnv} {m : Mu} {k : List PyData → Mu → Prop} (xs : List α) (hL : L = xs.map f) (hz : xs.length ≤ 1000000)
    (h : ∀ x ∈ xs, ∀ (C : PyData → Mu → Prop) (C0 : Mu → Prop), C (g x) m → dg (.d (f x)) (wp e vs) m fun e' m' => dt e' m' fun b m2 => br b (de e' m2 (plD C)) (C0 m2)) (hk : k (xs.map g) m) :
    L.length ≤ 1000000 ∧ ∃ I : List PyData → List PyData → Mu → Prop, I L [] m ∧
      (∀ x r acc m, I (x :: r) acc m → dg (.d x) (wp e vs) m fun e' m' => dt e' m' fun b m2 => br b (de e' m2 (plD fun z m3 => I r (acc ++ [z]) m3)) (I r acc m2)) ∧ ∀ acc m, I [] acc m → k acc m := by
  subst hL
  exact lcM f g xs hz h hk
theorem forL_eq {α : Type} (f : α → PyData) {L : List PyData} {g : DG} {b : DS} {E : DEnds} {e : DEnv} {m : Mu} (xs : List α) (hL : L = xs.map f) (J : List α → DEnv → Mu → Prop) (h0 : J [] e m)
    (hs : ∀ done x r e m, xs = done ++ x :: r → J done e m → ∀ C : DEnv → Mu → Prop, (∀ e m, J (done ++ [x]) e m → C e m) → g (.d (f x)) e m fun e' m' => b { nx := C, rt := E.rt, bk := E.nx, ct := C } e' m') (hd : ∀ e m, J xs e m → E.nx e m) :
    ∃ I : List PyData → DEnv → Mu → Prop, I L e m ∧ (∀ x r e m, I (x :: r) e m → g (.d x) e m fun e' m' => b { nx := I r, rt := E.rt, bk := E.nx, ct := I r } e' m') ∧ ∀ e m, I [] e m → E.nx e m := by
  subst hL
  exact forL f xs J h0 hs hd
/-! ### xs[i] = v -/
theorem DaL.set {G : Hp} {v : V} {z : PyData} (hv : Da G v z) : ∀ {xs : List V} {ds : List PyData} (j : Nat), DaL G xs ds → DaL G (xs.set j v) (ds.set j z)
  | _, _, _, .nil => .nil
  | _, _, 0, .cons _ t => .cons hv t
  | _, _, j + 1, .cons h t => .cons h (DaL.set hv j t)
def dSetL (i : Nat) (v b : DE) : DS := fun E e m => v e m fun x m1 => match x, lk e i with
  | .d z, some (.p j) => b e m1 fun y m2 => match y with
    | .d (.int n) => ∃ ds t, m2[j]? = some (.lst ds) ∧ ixN ds.length n = some t ∧ E.nx e (m2.set j (.lst (ds.set t z)))
    | _ => False
  | _, _ => False
theorem ss_setL {tb tv : TE} {db dv : DE} (i : Nat) (hv : SE tv dv) (hb : SE tb db) : SS (tAsg tv (gSub (tVar i) tb rSetL)) (dSetL i dv db) := fun c G pl σ H e m D E hL sr d KK => by
  refine hv _ _ _ _ _ _ _ _ _ sr d fun x m1 G1 pl1 H1 v1 d1 l1 sr1 r1 => ?_
  split at d1
  · rename_i z j q
    obtain ⟨v, h1, h2⟩ := sr1.env.get i _ q
    obtain ⟨hj, rfl⟩ := h2
    refine ⟨_, h1, hb _ _ _ _ _ _ _ _ _ sr1 d1 fun y m2 G2 pl2 H2 v2 d2 l2 sr2 r2 => ?_⟩
    split at d2
    · rename_i n
      obtain ⟨ds, t, q1, hz, d2⟩ := d2
      obtain ⟨xs, hx, hd⟩ := sr2.hp.mo _ _ q1
      cases r2.int_inv
      have hy : Da G2 v1 z := r1.le l2
      have pj : pl2 j = pl1 j := l2.p j hj
      rw [pj] at hx
      refine ⟨_, xs, n, t, rfl, rfl, hx, by rw [hd.length]; exact hz, ?_⟩
      have hp := sr2.hp.put (o' := .lst (ds.set t z)) (ob := .lst (xs.set t v1)) q1 rfl rfl rfl rfl ⟨_, upd_same, DaL.set hy t hd⟩
      rw [pj] at hp
      have l3 : ∀ o, Le G2 pl2 m2.length G2 pl2 (m2.set j o).length := fun o => ⟨.refl _, fun _ _ => rfl, by simp⟩
      exact KK.nx _ _ _ _ _ _ d2 ((l1.trans l2).trans (l3 _)) ⟨sr2.env.le (l3 _), hp⟩
    · exact d2.elim
  · exact d1.elim
/-! ### a new list among several values, changed later on -/
def dConsO (da : DL) (dr : DA) : DA := fun e m k => da e m fun ds m1 => dr e (m1 ++ [.lst ds]) fun xs m2 => k (.p m1.length :: xs) m2
theorem sa_consO {ta : TE} {tr : TA} {da : DL} {dr : DA} (ha : SL ta da) (hr : SA tr dr) : SA (tCons ta tr) (dConsO da dr) :=
  fun c G pl σ H e m k Q sr d K => ha _ _ _ _ _ _ _ _ _ sr d fun ds m1 G1 pl1 H1 p xs d1 l1 sr1 hp hx hg hf hc => by
    have l2 := Le.plus G1 pl1 m1 p (.lst ds)
    have h2 : HR c G1 (plus pl1 m1.length p) H1 (m1 ++ [.lst ds]) := sr1.hp.push (o := .lst ds) ⟨xs, hp, hx⟩ rfl hg hf hc
    exact hr _ _ _ _ _ _ _ _ _ ⟨sr1.env.le l2, h2⟩ d1 fun ys m2 G2 pl2 H2 vs d2 l3 sr3 r3 => K _ _ _ _ _ _ d2 ((l1.trans l2).trans l3) sr3 (.cons (RV.le (dv := .p m1.length) l3 ⟨by simp, by rw [plus_new]⟩) r3)
/-! ### t[::-1] -/
def dBack (a : DE) : DE := fun e m k => a e m fun x m1 => ∃ ds, rdT x = some ds ∧ k (.d (.tuple ds.reverse)) m1
theorem se_back (K : PySem.W.Frag) {ta : TE} {da : DE} (h : SE ta da) : SE (tBack K ta) (dBack da) := fun c G pl σ H e m k Q sr d KK => h _ _ _ _ _ _ _ _ _ sr d fun x m1 G1 pl1 H1 v1 d1 l1 sr1 r1 => by
  obtain ⟨ds, h1, d1⟩ := d1
  obtain ⟨a, xs, e1, e2, e3⟩ := sr1.tup r1 h1
  exact ⟨a, xs, e1, .inl (.inl e2), fun q hq => (KK.le l1).tup sr1 hq d1 e3.rev⟩
def dRevL (a : DE) : DL := fun e m k => a e m fun x m1 => ∃ ds, rdL m1 x = some ds ∧ k ds.reverse m1
theorem sl_revL (K : PySem.W.Frag) {ta : TE} {da : DE} (h : SE ta da) : SL (tRevL K ta) (dRevL da) := fun c G pl σ H e m k Q sr d KK => h _ _ _ _ _ _ _ _ _ sr d fun x m1 G1 pl1 H1 v1 d1 l1 sr1 r1 => by
  obtain ⟨ds, h1, d1⟩ := d1
  obtain ⟨a, xs, e1, e2, e3⟩ := sr1.list r1 h1
  exact ⟨a, xs, e1, .inl (.inl e2), fun q hq => (KK.le l1).new sr1 hq d1 e3.rev⟩
/-! ### max, min of a list of ints -/
def fMaxL (m : Mu) (xs : List DV) (k : DV → Prop) : Prop := match xs with
  | [x] => ∃ is : List Int, rdL m x = some (is.map PyData.int) ∧ is ≠ [] ∧ ∀ z, z ∈ is → (∀ y ∈ is, y ≤ z) → k (.d (.int z))
  | _ => False
def fMinL (m : Mu) (xs : List DV) (k : DV → Prop) : Prop := match xs with
  | [x] => ∃ is : List Int, rdL m x = some (is.map PyData.int) ∧ is ≠ [] ∧ ∀ z, z ∈ is → (∀ y ∈ is, z ≤ y) → k (.d (.int z))
  | _ => False
theorem cs_max (K : PySem.W.Frag) : CaS (rMax K) fMaxL := fun c G pl σ H e m xs ds k Q sr r d KK => by
  unfold fMaxL at d
  split at d
  · cases r with
    | cons h t =>
      cases t
      obtain ⟨is, h1, h2, d⟩ := d
      obtain ⟨a, xs, e1, e2, e3⟩ := sr.list h h1
      cases DaL.ints e3
      exact ⟨a, is, by rw [e1], .inl (.inl e2), List.length_pos_iff.mpr h2, fun z z1 z2 => KK.val sr (d z z1 z2) (show RV G pl m.length (.int z) (.d (.int z)) from .int z)⟩
  · exact d.elim
theorem cs_min (K : PySem.W.Frag) : CaS (rMin K) fMinL := fun c G pl σ H e m xs ds k Q sr r d KK => by
  unfold fMinL at d
  split at d
  · cases r with
    | cons h t =>
      cases t
      obtain ⟨is, h1, h2, d⟩ := d
      obtain ⟨a, xs, e1, e2, e3⟩ := sr.list h h1
      cases DaL.ints e3
      exact ⟨a, is, by rw [e1], .inl (.inl e2), List.length_pos_iff.mpr h2, fun z z1 z2 => KK.val sr (d z z1 z2) (show RV G pl m.length (.int z) (.d (.int z)) from .int z)⟩
  · exact d.elim
/-! ### tuple(range(n)) -/
def dTupRg (a : DE) : DE := fun e m k => a e m fun x m1 => match x with
  | .d (.int n) => (0 ≤ n ∧ n ≤ 1000000) ∧ k (.d (.tuple (rgD 0 n.toNat))) m1
  | _ => False
theorem se_tupRg {ta : TE} {da : DE} (h : SE ta da) : SE (tTupRg (tRg1 ta)) (dTupRg da) := fun c G pl σ H e m k Q sr d KK => h _ _ _ _ _ _ _ _ _ sr d fun x m1 G1 pl1 H1 v1 d1 l1 sr1 r1 => by
  split at d1
  · rename_i n
    cases r1.int_inv
    obtain ⟨⟨n0, n1⟩, d1⟩ := d1
    exact ⟨n, rfl, ⟨by decide, by decide, by omega, by omega, by omega⟩, fun q hq => (KK.le l1).tup sr1 hq d1 (DaL_rg G1 n)⟩
  · exact d1.elim
end PM

namespace PM
open PySem PySem.Spec PyProof.Rows L2 RZ
/-! ### is True, is not True -/
def fIsB (m : Mu) (x y : DV) (k : DV → Prop) : Prop := match x, y with
  | .d (.bool a), .d (.bool b) => k (.d (.bool (decide (a = b))))
  | _, _ => False
def fNotB (m : Mu) (x y : DV) (k : DV → Prop) : Prop := match x, y with
  | .d (.bool a), .d (.bool b) => k (.d (.bool (!decide (a = b))))
  | _, _ => False
theorem os_isB : OpS rIsB fIsB := fun c G pl σ H e m x y dx dy k Q sr rx ry d KK => by
  unfold fIsB at d
  split at d
  · exact ⟨_, _, rx.bl_inv, ry.bl_inv, KK.val sr d (show Da G _ _ from .bl _)⟩
  · exact d.elim
theorem os_notB : OpS rNotB fNotB := fun c G pl σ H e m x y dx dy k Q sr rx ry d KK => by
  unfold fNotB at d
  split at d
  · exact ⟨_, _, rx.bl_inv, ry.bl_inv, KK.val sr d (show Da G _ _ from .bl _)⟩
  · exact d.elim
/-- what follows several ways -/
theorem thenN {A B : Prop} (h : A → B) (a : A) : B := h a
/-! ### promises of five arguments -/
def sn4 (F : Nat → PyData → PyData → PyData → PyData → (DV → Nat → Prop) → Prop) : SpN := fun j ds k => match ds with
  | [a, b, c, d] => F j a b c d k
  | _ => False
theorem sn4_inv {F} {j : Nat} {ds : List PyData} {k : DV → Nat → Prop} (h : sn4 F j ds k) : ∃ a b c d, ds = [a, b, c, d] ∧ F j a b c d k := by
  unfold sn4 at h
  split at h
  · exact ⟨_, _, _, _, rfl, h⟩
  · exact h.elim
theorem sn4_len {F} {j : Nat} {ds : List PyData} {k : DV → Nat → Prop} (h : sn4 F j ds k) : ds.length = 4 := by
  obtain ⟨_, _, _, _, rfl, _⟩ := sn4_inv h
  rfl
def sp5 (F : PyData → PyData → PyData → PyData → PyData → (DV → Prop) → Prop) : SpP := fun ds k => match ds with
  | [a, b, c, d, e] => F a b c d e k
  | _ => False
theorem sp5_inv {F} {ds : List PyData} {k : DV → Prop} (h : sp5 F ds k) : ∃ a b c d e, ds = [a, b, c, d, e] ∧ F a b c d e k := by
  unfold sp5 at h
  split at h
  · exact ⟨_, _, _, _, _, rfl, h⟩
  · exact h.elim
theorem sp5_len {F} {ds : List PyData} {k : DV → Prop} (h : sp5 F ds k) : ds.length = 5 := by
  obtain ⟨_, _, _, _, _, rfl, _⟩ := sp5_inv h
  rfl
/-! ### [x, ..] * n, changed later on -/
def dRepL (a b : DE) : DL := fun e m k => a e m fun x m1 => b e m1 fun y m2 => match y with
  | .d (.int j) => ∃ xs, rdL m2 x = some xs ∧ (-(2 ^ 63) ≤ j ∧ j < 2 ^ 63) ∧ xs.length * j.toNat ≤ 1000000 ∧ k (List.replicate j.toNat xs).flatten m2
  | _ => False
theorem sl_rep (K : PySem.W.Frag) {ta tb : TE} {da db : DE} (ha : SE ta da) (hb : SE tb db) : SL (tOp (rMulA K) ta tb) (dRepL da db) := fun c G pl σ H e m k Q sr d KK =>
  ha _ _ _ _ _ _ _ _ _ sr d fun x m1 G1 pl1 H1 v1 d1 l1 sr1 r1 => hb _ _ _ _ _ _ _ _ _ sr1 d1 fun y m2 G2 pl2 H2 v2 d2 l2 sr2 r2 => by
    split at d2
    · obtain ⟨xs, h1, hj, hz, d2⟩ := d2
      obtain ⟨a, us, e1, e2, e3⟩ := sr2.list (r1.le l2) h1
      exact .inr ⟨a, _, us, e1, r2.int_inv, e2, hj.1, hj.2, by rw [e3.length]; exact bigS hz, fun p hp => (KK.le (l1.trans l2)).new sr2 hp d2 (e3.rep _)⟩
    · exact d2.elim
end PM

namespace PM
open PySem PySem.Spec PyProof.Rows L2 RZ
def topS (i : Nat) : Stmt := PySem.Challenge.pw_poolmarks_k73_formatted_texts.main.body.getD i (.Pass ⟨0, 0, 0, 0⟩)
section
variable {P : Program} {w : World} {K : PySem.W.Frag} {mg : Str → Option Value} {base : Heap}
/-! ### the next drawn number -/
abbrev s__law_next : Stmt := topS 34
abbrev N__law_next : List Str := ["_law_drawn", "_law_many", "_law_cells", "_law_turn", "_law_rests", "_law_spot", "_law_digit", "_law_mixed", "_law_again"]
abbrev P__law_next : List Str := ["_law_drawn", "_law_many"]
theorem sc__law_next : FnScope N__law_next P__law_next (defScope s__law_next) := ⟨rfl, rfl, rfl, by decide +kernel, rfl, by decide +kernel, by decide +kernel⟩
def sp__law_next : Sp := fun vs H Q _ => ∃ (a c r : Addr) (n : Nat) (m : Int), vs = [.ref a, .int m] ∧ Drw H a c r n ∧ n < 1000000 ∧ 0 < m ∧ m.natAbs.log2 < 9000 ∧
  ∀ (v : Int) H', 0 ≤ v → v < m → Drw H' a c r (n + 1) → Keep a r H H' → Q (.int v) H'
theorem ok__law_next {k : Nat} (d : IsDef K mg "_law_next" s__law_next P__law_next) (m_len : mg "len" = none) : Ok P w K mg base (k + 1) "_law_next" s__law_next P__law_next sp__law_next := by
  obtain ⟨f, fd, D⟩ := d
  refine ⟨f, fd, D, D.F.ok sc__law_next (fun vs H Q E h => ?_) (fun cdv A outer s H vs Q E hr h => ?_)⟩
  · obtain ⟨a, c, r, n, m, rfl, _⟩ := h
    rfl
  · obtain ⟨a, c, r, n, m, rfl, dr, hn, hm, hb, q⟩ := h
    obtain ⟨⟨cells, rests, t, hA, hC, hR, e1, e2, e3, t0, tn⟩, ac, ar, cr⟩ := id dr
    refine ⟨_, (pss_cons (ps_asg (pv 0) (pg_unl (by rfl) (pgs_cons (pg_name (i := 2) sc__law_next.nd rfl (.inl rfl)) (pgs_cons (pg_name (i := 3) sc__law_next.nd rfl (.inl rfl)) (pgs_cons (pg_name (i := 4) sc__law_next.nd rfl (.inl rfl)) pgs_nil)))))
      (pss_cons (ps_set (i := 5) sc__law_next.nd rfl (.inl rfl) (pe_op op_mod (pv 3) (pe_callB call_len_seq (by rfl) m_len (by decide +kernel) (pa_cons (pv 2) pa_nil))))
      (pss_cons (ps_asg (pe_op op_add (pv 3) pe_int) (pg_sub (pv 0) pe_int set_list))
      (pss_cons (ps_if (pt_cmpR op_gt (pe_ix ix_list (pv 4) (pv 5) (fun _ _ => rfl)) pe_int (nomark _)) (pss_cons (ps_set (i := 6) sc__law_next.nd rfl (.inl rfl) (pe_op op_mod (pe_ix ix_list (pv 4) (pv 5) (fun _ _ => rfl)) (pv 1))) (pss_cons (ps_asg (pe_op op_fdivW (pe_ix ix_list (pv 4) (pv 5) (fun _ _ => rfl)) (pv 1)) (pg_sub (pv 4) (pv 5) set_list)) (pss_one (ps_ret (pv 6))))) pss_nil)
      (pss_cons (ps_set (i := 7) sc__law_next.nd rfl (.inl rfl) (pe_op op_mod (pe_op op_pow (pe_op op_add (pe_op op_add (pe_op op_mod (pe_ix ix_list (pv 2) (pv 5) (fun _ _ => rfl)) pe_int) (pe_op op_mul pe_int (pv 3))) pe_int) pe_int) pe_int))
      (pss_cons (ps_set (i := 8) sc__law_next.nd rfl (.inl rfl) (pe_op op_mod (pe_op op_pow (pe_op op_add (pe_op op_add (pv 7) (pe_op op_mul (pe_op op_mul pe_int (pv 3)) (pv 3))) pe_int) pe_int) pe_int))
      (pss_one (ps_ret (pe_op op_mod (pe_op op_mod (pe_op op_add (pe_op op_mul (pv 8) pe_int) (pv 7)) pe_int) (pv 1)))))))))), ?_⟩
    refine ⟨.ref a, rfl, a, _, rfl, .inl (.inl hA), rfl, _, _, rfl, _, _, rfl, _, _, rfl, rfl, ?_⟩
    -- spot
    refine ⟨.int t, rfl, .ref c, rfl, c, _, rfl, .inl (.inl (.inl hC)), _, _, rfl, rfl, ?_, ?_⟩
    · show (0 : Int) < _
      rw [List.length_map]
      omega
    rw [List.length_map]
    obtain ⟨j, ej⟩ : ∃ j : Nat, t % (cells.length : Int) = (j : Int) := ⟨(t % (cells.length : Int)).toNat, by
      have := Int.emod_nonneg t (show (cells.length : Int) ≠ 0 by omega)
      omega⟩
    have hj : j < cells.length := by
      have := Int.emod_lt_of_pos t (show (0 : Int) < (cells.length : Int) by omega)
      omega
    have hj' : j < rests.length := by omega
    dsimp only
    rw [ej]
    -- drawn[1] = turn + 1
    refine ⟨.int t, rfl, _, _, rfl, rfl, .ref a, rfl, a, _, _, 1, rfl, rfl, hA, rfl, ?_⟩
    have hC1 : (upd H a (.lst (List.set [.ref c, .int t, .ref r] 1 (.int (t + 1))))) c = some (.lst (cells.map V.int)) := by
      rw [upd_ne (Ne.symm ac)]
      exact hC
    have hR1 : (upd H a (.lst (List.set [.ref c, .int t, .ref r] 1 (.int (t + 1))))) r = some (.lst (rests.map V.int)) := by
      rw [upd_ne (Ne.symm ar)]
      exact hR
    have gc : atI (cells.map V.int) (j : Int) = some (.int cells[j]) := atI_nat (by rw [List.getElem?_map, List.getElem?_eq_getElem hj]; rfl)
    have gr : atI (rests.map V.int) (j : Int) = some (.int rests[j]) := atI_nat (by rw [List.getElem?_map, List.getElem?_eq_getElem hj']; rfl)
    refine ⟨.ref r, rfl, .int j, rfl, r, _, _, _, rfl, rfl, .inl (.inl hR1), gr, _, _, rfl, rfl, _, rfl, ite2 (fun e => ?_) (fun e => ?_)⟩
    · -- a digit of a great number
      refine ⟨.ref r, rfl, .int j, rfl, r, _, _, _, rfl, rfl, .inl (.inl hR1), gr, .int m, rfl, _, _, rfl, rfl, hm, ?_⟩
      refine ⟨.ref r, rfl, .int j, rfl, r, _, _, _, rfl, rfl, .inl (.inl hR1), gr, .int m, rfl, _, _, rfl, rfl, ⟨hm, hb⟩, .ref r, rfl, .int j, rfl, r, _, _, j, rfl, rfl, hR1, ?_, ?_⟩
      · rw [List.length_map]
        exact place_ok hj'
      refine ⟨_, rfl, q _ _ (Int.emod_nonneg _ (by omega)) (Int.emod_lt_of_pos _ hm) ?_ ?_⟩
      · refine ⟨⟨cells, rests.set j (rests[j] / m), t + 1, ?_, ?_, ?_, ?_, e2, e3, by omega, by omega⟩, ac, ar, cr⟩
        · rw [upd_ne ar, upd_same]
          rfl
        · rw [upd_ne cr]
          exact hC1
        · rw [upd_same, List.map_set]
        · rw [List.length_set]
          exact e1
      · intro b o ba br hb
        rw [upd_ne br, upd_ne ba]
        exact hb
    · -- a mixed number
      have gp : ∀ x y : Int, 0 < y → 0 ≤ x % y ∧ x % y < y := fun x y h => ⟨Int.emod_nonneg _ (by omega), Int.emod_lt_of_pos _ h⟩
      have t1 : t < 1000000 := by omega
      have b1 := gp cells[j] 2147483629 (by decide)
      refine ⟨.ref c, rfl, .int j, rfl, c, _, _, _, rfl, rfl, .inl (.inl hC1), gc, _, _, rfl, rfl, (by show (0 : Int) < 2147483629; decide), .int t, rfl, _, _, rfl, rfl, .inl ⟨by decide, by decide⟩, _, _, rfl, rfl, _, _, rfl, rfl, _, _, rfl, rfl, ⟨by decide, by decide, ?_⟩, _, _, rfl, rfl, (by show (0 : Int) < 2147483587; decide), ?_⟩
      · omega
      obtain ⟨x, hx, x0, x1⟩ : ∃ x : Int, (cells[j] % 2147483629 + 39119 * t + 9901) ^ Int.toNat 3 % 2147483587 = x ∧ 0 ≤ x ∧ x < 2147483587 := ⟨_, rfl, gp _ _ (by decide)⟩
      change gName 7 (.int ((cells[j] % 2147483629 + 39119 * t + 9901) ^ Int.toNat 3 % 2147483587)) _ _ _
      rw [hx]
      have tt : 0 ≤ 7001 * t * t ∧ 7001 * t * t < 7001 * 1000000 * 1000000 := by
        have h1 : 0 ≤ t * t := Int.mul_nonneg t0 t0
        have h2 : t * t ≤ 1000000 * 1000000 - 1 := by
          have := Int.mul_le_mul (show t ≤ 999999 by omega) (show t ≤ 999999 by omega) t0 (by omega)
          omega
        rw [Int.mul_assoc]
        omega
      refine ⟨.int x, rfl, .int t, rfl, _, _, rfl, rfl, .inl ⟨by decide, by decide⟩, .int t, rfl, _, _, rfl, rfl, .inl ⟨?_, ?_⟩, _, _, rfl, rfl, _, _, rfl, rfl, _, _, rfl, rfl, ⟨by decide, by decide, ?_⟩, _, _, rfl, rfl, (by show (0 : Int) < 2147483563; decide), ?_⟩
      · omega
      · omega
      · omega
      obtain ⟨y, hy, y0, y1⟩ : ∃ y : Int, (x + 7001 * t * t + 41) ^ Int.toNat 3 % 2147483563 = y ∧ 0 ≤ y ∧ y < 2147483563 := ⟨_, rfl, gp _ _ (by decide)⟩
      change gName 8 (.int ((x + 7001 * t * t + 41) ^ Int.toNat 3 % 2147483563)) _ _ _
      rw [hy]
      refine ⟨.int y, rfl, _, _, rfl, rfl, .inl ⟨by omega, by omega⟩, .int x, rfl, _, _, rfl, rfl, _, _, rfl, rfl, (by show (0 : Int) < 4611686018427387847; decide), .int m, rfl, _, _, rfl, rfl, hm, ?_⟩
      refine q _ _ (Int.emod_nonneg _ (by omega)) (Int.emod_lt_of_pos _ hm) ?_ ?_
      · refine ⟨⟨cells, rests, t + 1, ?_, hC1, hR1, e1, e2, e3, by omega, by omega⟩, ac, ar, cr⟩
        rw [upd_same]
        rfl
      · intro b o ba br hb
        rw [upd_ne ba]
        exact hb
theorem okD__law_next (d : IsDef K mg "_law_next" s__law_next P__law_next) (m_len : mg "len" = none) : Ok P w K mg base 1 "_law_next" s__law_next P__law_next (prN S__law_next) := by
  obtain ⟨f, fd, D, F⟩ := ok__law_next (P := P) (w := w) (K := K) (mg := mg) (base := base) (k := 0) d m_len
  refine ⟨f, fd, D, F.imp fun vs H Q E h => ?_⟩
  obtain ⟨G, a, c, r, j, ws, ds, k, rfl, dr, ga, gc, gr, sub, rs, hS, KK⟩ := h
  obtain ⟨x, rfl, m, rfl, hj, m0, m9, hk⟩ := sn1_inv hS
  cases rs with
  | cons rx t =>
    cases t
    cases rx
    refine ⟨a, c, r, j, m, rfl, dr, by omega, m0, m9, fun v H' v0 v1 d' kp => ?_⟩
    have up : ∀ b, H b ≠ none → H' b ≠ none := fun b hb => by
      by_cases z : b = a ∨ b = c ∨ b = r
      · obtain ⟨⟨cells, rests, t, h1, h2, h3, _⟩, _⟩ := d'
        rcases z with z | z | z <;> rw [z]
        · rw [h1]; exact fun w => nomatch w
        · rw [h2]; exact fun w => nomatch w
        · rw [h3]; exact fun w => nomatch w
      · cases q : H b with
        | none => exact absurd q hb
        | some o => rw [kp b o (fun w => z (.inl w)) (fun w => z (.inr (.inr w))) q]; exact fun w => nomatch w
    have sub' : Same G H' := fun b o e => kp b o (fun z => by rw [z, ga] at e; cases e) (fun z => by rw [z, gr] at e; cases e) (sub _ _ e)
    exact KK (.d (.int v)) (j + 1) G H' (.int v) (hk v v0 v1) (.refl G) sub' (fun b o n1 n2 n3 e => kp b o n1 n3 e) up (fun b e => .inl e) d' (.int v)
/-! ### the drawn numbers are laid -/
abbrev s__law_draws : Stmt := topS 33
abbrev N__law_draws : List Str := ["_law_script", "_law_cells", "_law_cell"]
abbrev P__law_draws : List Str := ["_law_script"]
theorem sc__law_draws : FnScope N__law_draws P__law_draws (defScope s__law_draws) := ⟨rfl, rfl, rfl, by decide +kernel, rfl, by decide +kernel, by decide +kernel⟩
def sp__law_draws (K : PySem.W.Frag) : Sp := fun vs H Q _ => ∃ (a : Addr) (ns : List Int), vs = [.ref a] ∧ SqL K H a (ns.map V.int) ∧ ns.length ≤ 63 ∧
  ∀ H' p c r, Same H H' → H p = none → H c = none → H r = none → Drw H' p c r 0 → Q (.ref p) H'
theorem ok__law_draws {k : Nat} (d : IsDef K mg "_law_draws" s__law_draws P__law_draws) (m_len : mg "len" = none) (m_int : mg "int" = none) (m_list : mg "list" = none) : Ok P w K mg base (k + 1) "_law_draws" s__law_draws P__law_draws (sp__law_draws K) := by
  obtain ⟨f, fd, D⟩ := d
  refine ⟨f, fd, D, D.F.ok sc__law_draws (fun vs H Q E h => ?_) (fun cdv A outer s H vs Q E hr h => ?_)⟩
  · obtain ⟨a, ns, rfl, _⟩ := h
    rfl
  · obtain ⟨a, ns, rfl, hS, hlen, q⟩ := h
    refine ⟨_, (pss_cons (ps_set (i := 1) sc__law_draws.nd rfl (.inl rfl) (pe_op op_cat (pe_callTy call_list_of (by rfl) m_list (by decide +kernel) (pa_cons (pe_slice sl_list (pv 0) po_none (po_some pe_int)) pa_nil)) (pe_op op_rep (pe_lst (pa_cons pe_int pa_nil)) (pe_callTy call_int1 (by rfl) m_int (by decide +kernel) (pa_cons (pe_cmpR op_eq (pe_callB call_len_seq (by rfl) m_len (by decide +kernel) (pa_cons (pv 0) pa_nil)) pe_int (nomark _)) pa_nil)))))
      (pss_one (ps_ret (pe_lst (pa_cons (pv 1) (pa_cons pe_int (pa_cons (pe_lc (own := [("_law_cell", 2)]) (g := gName 2) (by rfl) sc__law_draws.nd (pi_list (pv 1)) (blkOk_by (own := [("_law_cell", 2)]) (N := N__law_draws) (sc := defScope s__law_draws) (by decide +kernel)) (fun _ _ _ _ _ => by exact (pg_name (i := 2) sc__law_draws.nd rfl (.inl rfl))) (fun _ _ _ _ _ => pts_nil) (fun _ _ _ _ _ => by exact (pe_op op_mul (pv 2) (pe_callTy call_int1 (by rfl) m_int (by decide +kernel) (pa_cons (pe_cmpR op_ge (pv 2) (pe_op op_pow pe_int pe_int) (nomark _)) pa_nil))))) pa_nil))))))), ?_⟩
    refine ⟨.ref a, rfl, 63, rfl, a, _, rfl, hS, fun p1 n1 => ?_⟩
    rw [cut63 (by rw [List.length_map]; exact hlen)]
    have s1 := same_upd (ob := .lst (ns.map V.int)) n1
    refine ⟨p1, _, rfl, .inl (.inl (.inl upd_same)), fun p2 n2 => ?_⟩
    have s2 := s1.trans (same_upd (ob := .lst (ns.map V.int)) n2)
    refine ⟨toks (by decide), fun p3 n3 => ?_⟩
    have s3 := s2.trans (same_upd (ob := .lst [.int 0]) n3)
    have z2 := same_upd (ob := .lst [.int 0]) n3
    refine ⟨.ref a, rfl, a, _, rfl, .inl (s3.seq hS), rfl, .inr ⟨_, rfl, ?_⟩⟩
    obtain ⟨zs, hz, lz, ez⟩ : ∃ zs : List Int, zs.length ≤ 1 ∧ 0 < (ns ++ zs).length ∧ (List.replicate (if decide (V.int ((ns.map V.int).length : Int) = V.int 0) = true then (1 : Int) else 0).toNat [V.int 0]).flatten = zs.map V.int := by
      cases ns with
      | nil => exact ⟨[0], by decide, by decide, rfl⟩
      | cons x l =>
        refine ⟨[], by decide, by simp, ?_⟩
        rw [if_neg]
        · rfl
        · intro e
          have e := V.int.inj (of_decide_eq_true e)
          rw [List.length_map, List.length_cons] at e
          omega
    refine ⟨p3, _, [.int 0], rfl, rfl, upd_same, ?_, ?_, ?_, fun p4 n4 => ?_⟩
    · split <;> omega
    · split <;> omega
    · split <;> exact toks (by decide)
    rw [ez]
    have s4 := s3.trans (same_upd (ob := .lst (zs.map V.int)) n4)
    have z3 := z2.trans (same_upd (ob := .lst (zs.map V.int)) n4)
    refine ⟨p2, p4, _, _, rfl, rfl, z3 _ _ upd_same, upd_same, ?_, fun p5 n5 => ?_⟩
    · rw [List.length_map, List.length_map]
      exact toks (by omega)
    rw [← List.map_append]
    have s5 := s4.trans (same_upd (ob := .lst ((ns ++ zs).map V.int)) n5)
    have hlc : (ns ++ zs).length ≤ 64 := by
      rw [List.length_append]
      omega
    generalize hcells : ns ++ zs = cells at *
    generalize hH5 : upd _ p5 (HO.lst (cells.map V.int)) = H5 at *
    have h5 : H5 p5 = some (.lst (cells.map V.int)) := by
      rw [← hH5, upd_same]
    have np5 := s4.free n5
    refine ⟨.ref p5, rfl, .ref p5, rfl, p5, rfl, ⟨_, .inl (.inl h5)⟩, fun D nD => ?_⟩
    have dp : D ≠ p5 := fun e => by
      rw [e, h5] at nD
      cases nD
    refine lc_list (K := K) (xs := cells.map V.int) (fun i H' => Same H5 H' ∧ H' D = some (.lst (((cells.take i).map fun c => c * (if decide ((10 : Int) ^ Int.toNat 18 ≤ c) = true then 1 else 0)).map V.int))) ⟨same_upd nD, upd_same⟩ (fun i H' _ p => .inl (.inl (p.1 _ _ h5))) (fun i x H' hx p => ?_) (fun H' p => ?_)
    · rw [List.getElem?_map] at hx
      cases hc : cells[i]? with
      | none =>
        rw [hc] at hx
        cases hx
      | some y =>
        rw [hc] at hx
        have hx : x = .int y := (Option.some.inj hx).symm
        subst hx
        refine ⟨rfl, ?_⟩
        refine ⟨.int y, rfl, .int y, rfl, _, _, rfl, rfl, ⟨by decide, by decide, by decide⟩, _, _, rfl, rfl, .inr ⟨_, rfl, _, _, rfl, rfl, .inr ?_, _, p.2, ?_, ?_, ?_⟩⟩
        · split <;> decide
        · rw [List.length_map, List.length_map, List.length_take]
          exact small1000 (by omega)
        · intro b o e
          rw [upd_ne (show b ≠ D from fun z => by rw [z, nD] at e; cases e)]
          exact p.1 _ _ e
        · rw [upd_same, List.take_add_one, hc, List.map_append, List.map_append]
          rfl
    · obtain ⟨p1, p2⟩ := p
      rw [List.length_map, List.take_length] at p2
      obtain ⟨rests, hrs, lrs⟩ : ∃ rests : List Int, (cells.map fun c => c * (if decide ((10 : Int) ^ Int.toNat 18 ≤ c) = true then 1 else 0)) = rests ∧ rests.length = cells.length := ⟨_, rfl, by rw [List.length_map]⟩
      rw [hrs] at p2
      refine ⟨toks (by show 3 ≤ 1000; decide), fun pa na => ?_⟩
      have nD1 : H D = none := s5.free nD
      have na1 : H5 pa = none := p1.free na
      refine q _ pa p5 D ((s5.trans p1).trans (same_upd na)) (s5.free na1) np5 nD1 ⟨⟨cells, rests, 0, upd_same, ?_, ?_, lrs, lz, hlc, by decide, by decide⟩, ?_, ?_, Ne.symm dp⟩
      · rw [upd_ne (ne_of_none (p1 _ _ h5) na)]
        exact p1 _ _ h5
      · rw [upd_ne (ne_of_none p2 na)]
        exact p2
      · exact Ne.symm (ne_of_none (p1 _ _ h5) na)
      · exact Ne.symm (ne_of_none p2 na)
theorem okD__law_draws (d : IsDef K mg "_law_draws" s__law_draws P__law_draws) (m_len : mg "len" = none) (m_int : mg "int" = none) (m_list : mg "list" = none) : Ok P w K mg base 1 "_law_draws" s__law_draws P__law_draws (sp__law_draws K) := ok__law_draws (k := 0) d m_len m_int m_list
/-! ### equal as values of the same kinds -/
abbrev s__law_equal : Stmt := topS 35
abbrev N__law_equal : List Str := ["_law_one", "_law_other", "_law_a", "_law_b"]
abbrev P__law_equal : List Str := ["_law_one", "_law_other"]
theorem sc__law_equal : FnScope N__law_equal P__law_equal (defScope s__law_equal) := ⟨rfl, rfl, rfl, by decide +kernel, rfl, by decide +kernel, by decide +kernel⟩
def sp__law_equal (n : Nat) : Sp := fun vs H Q _ => ∃ (v v' : V) (d d' : PyData), vs = [v, v'] ∧ Da H v d ∧ Da H v' d' ∧ plainD d = true ∧ plainD d' = true ∧ dep d < n ∧ n ≤ 20 ∧ ∀ H', Same H H' → Q (.bl (deq d d')) H'
theorem ok__law_equal (D : IsDef K mg "_law_equal" s__law_equal P__law_equal) (m_isinstance : mg "isinstance" = none) (m_tuple : mg "tuple" = none) (m_bool : mg "bool" = none) (m_int : mg "int" = none) (m_str : mg "str" = none) (m_len : mg "len" = none) (m_all : mg "all" = none) (m_zip : mg "zip" = none) :
    ∀ n, Ok P w K mg base n "_law_equal" s__law_equal P__law_equal (sp__law_equal n)
  | 0 => by
    obtain ⟨f, fd, D⟩ := D
    exact ⟨f, fd, D, fn_none fun vs H Q E h => by
      obtain ⟨_, _, _, _, _, _, _, _, _, z, _⟩ := h
      omega⟩
  | n + 1 => by
    obtain ⟨f__law_equal, fd__law_equal, ⟨F__law_equal, b__law_equal, g__law_equal⟩, G__law_equal⟩ := ok__law_equal D m_isinstance m_tuple m_bool m_int m_str m_len m_all m_zip n
    refine ⟨_, _, ⟨F__law_equal, b__law_equal, g__law_equal⟩, F__law_equal.ok sc__law_equal (fun vs H Q E h => ?_) (fun cdv A outer s H vs Q E hr h => ?_)⟩
    · obtain ⟨v, v', d, d', rfl, _⟩ := h
      rfl
    · obtain ⟨v, v', d, d', rfl, hv, hv', pd, pd', hd, hn, q⟩ := h
      refine ⟨_, (pss_cons (ps_if (PW.pt (pw_and (pt_val (pe_callB call_isi (by rfl) m_isinstance (by decide +kernel) (pa_cons (pv 0) (pa_cons (pe_bltn (v := .ty "tuple") (by rfl) m_tuple (by decide +kernel) rfl) pa_nil)))) (pw_and1 (pt_val (pe_callB call_isi (by rfl) m_isinstance (by decide +kernel) (pa_cons (pv 1) (pa_cons (pe_bltn (v := .ty "tuple") (by rfl) m_tuple (by decide +kernel) rfl) pa_nil))))))) (pss_one (ps_ret (pe_and (pe_cmpR op_eq (pe_callB call_len_seq (by rfl) m_len (by decide +kernel) (pa_cons (pv 0) pa_nil)) (pe_callB call_len_seq (by rfl) m_len (by decide +kernel) (pa_cons (pv 1) pa_nil)) (nomark _)) (pe_one (pe_callB (cr_all (by rfl)) (by rfl) m_all (by decide +kernel) (pa_cons (pe_lc (own := [("_law_a", 2), ("_law_b", 3)]) (g := gTup _ 2 (gCons (gName 2) (gCons (gName 3) gNil))) (by rfl) sc__law_equal.nd (pi_zipA (by rfl) m_zip (pa_cons (pv 0) (pa_cons (pv 1) pa_nil))) (blkOk_by (own := [("_law_a", 2), ("_law_b", 3)]) (N := N__law_equal) (sc := defScope s__law_equal) (by decide +kernel)) (fun _ _ _ _ _ => by exact (pg_tup (by rfl) (pgs_cons (pg_name (i := 2) sc__law_equal.nd rfl (.inl rfl)) (pgs_cons (pg_name (i := 3) sc__law_equal.nd rfl (.inl rfl)) pgs_nil)))) (fun _ _ _ _ _ => pts_nil) (fun _ _ _ _ _ => by exact (pe_call G__law_equal (hr.mono (by omega)) (by rfl) g__law_equal F__law_equal.kp b__law_equal .nil pass0 (pa_cons (pv 2) (pa_cons (pv 3) pa_nil))))) pa_nil)))))) pss_nil)
      (pss_cons (ps_if (PW.pt (pw_or (pt_val (pe_callB call_isi (by rfl) m_isinstance (by decide +kernel) (pa_cons (pv 0) (pa_cons (pe_bltn (v := .ty "bool") (by rfl) m_bool (by decide +kernel) rfl) pa_nil)))) (pw_or1 (pt_val (pe_callB call_isi (by rfl) m_isinstance (by decide +kernel) (pa_cons (pv 1) (pa_cons (pe_bltn (v := .ty "bool") (by rfl) m_bool (by decide +kernel) rfl) pa_nil))))))) (pss_one (ps_ret (pe_and (pe_callB call_isi (by rfl) m_isinstance (by decide +kernel) (pa_cons (pv 0) (pa_cons (pe_bltn (v := .ty "bool") (by rfl) m_bool (by decide +kernel) rfl) pa_nil))) (pe_and (pe_callB call_isi (by rfl) m_isinstance (by decide +kernel) (pa_cons (pv 1) (pa_cons (pe_bltn (v := .ty "bool") (by rfl) m_bool (by decide +kernel) rfl) pa_nil))) (pe_one (pe_cmpR (op_eqD hr.units) (pv 0) (pv 1) (nomark _))))))) pss_nil)
      (pss_cons (ps_if (pt_cmpR op_ne (pe_callB call_isi (by rfl) m_isinstance (by decide +kernel) (pa_cons (pv 0) (pa_cons (pe_bltn (v := .ty "tuple") (by rfl) m_tuple (by decide +kernel) rfl) pa_nil))) (pe_callB call_isi (by rfl) m_isinstance (by decide +kernel) (pa_cons (pv 1) (pa_cons (pe_bltn (v := .ty "tuple") (by rfl) m_tuple (by decide +kernel) rfl) pa_nil))) (nomark _)) (pss_one (ps_ret pe_bl)) pss_nil)
      (pss_cons (ps_if (pt_cmpR op_ne (pe_callB call_isi (by rfl) m_isinstance (by decide +kernel) (pa_cons (pv 0) (pa_cons (pe_bltn (v := .ty "int") (by rfl) m_int (by decide +kernel) rfl) pa_nil))) (pe_callB call_isi (by rfl) m_isinstance (by decide +kernel) (pa_cons (pv 1) (pa_cons (pe_bltn (v := .ty "int") (by rfl) m_int (by decide +kernel) rfl) pa_nil))) (nomark _)) (pss_one (ps_ret pe_bl)) pss_nil)
      (pss_one (ps_ret (pe_and (pe_cmpR op_eq (pe_callB call_isi (by rfl) m_isinstance (by decide +kernel) (pa_cons (pv 0) (pa_cons (pe_bltn (v := .ty "str") (by rfl) m_str (by decide +kernel) rfl) pa_nil))) (pe_callB call_isi (by rfl) m_isinstance (by decide +kernel) (pa_cons (pv 1) (pa_cons (pe_bltn (v := .ty "str") (by rfl) m_str (by decide +kernel) rfl) pa_nil))) (nomark _)) (pe_one (pe_cmpR (op_eqD hr.units) (pv 0) (pv 1) (nomark _)))))))))), ?_⟩
      -- two tuples
      refine ⟨v, rfl, v, .ty "tuple", _, _, isT d, rfl, .ty "tuple", hv.ty, kitT hv, _, rfl, ite2 (fun e1 => ?A) (fun e1 => ?B)⟩
      case' A =>
        refine ⟨v', rfl, v', .ty "tuple", _, _, isT d', rfl, .ty "tuple", hv'.ty, kitT hv', _, rfl, ite2 (fun e2 => ?C) (fun e2 => ?D)⟩
        case C =>
          cases hv with
          | @tup a xs ds ha hxs =>
            cases hv' with
            | @tup b ys es hb hys =>
              refine ⟨.ref a, rfl, a, _, rfl, .inr (.inl (.inl ha)), .ref b, rfl, b, _, rfl, .inr (.inl (.inl hb)), rfl, _, rfl, ite2 (fun e => ?_) (fun e => ?_)⟩
              · have el : xs.length = ys.length := by
                  have := V.int.inj (of_decide_eq_true e)
                  omega
                have eds : ds.length = es.length := by rw [← hxs.length, ← hys.length, el]
                refine ⟨.ref a, rfl, .ref b, rfl, a, b, xs, ys, rfl, .inr ⟨.inl (.inl ha), .inl (.inl hb), fun D nD => ?_⟩⟩
                have sD := same_upd (ob := .lst []) nD
                refine lc_it (walk_zipT (xs := xs) (ys := ys) rfl el) (fun i H' => Same H H' ∧ H' D = some (.lst ((((List.zip ds es).take i).map fun p => deq p.1 p.2).map V.bl))) ⟨sD, upd_same⟩ (fun i H' _ p => ⟨.inl (.inl (p.1 _ _ ha)), .inl (.inl (p.1 _ _ hb))⟩) (fun i x H1 H2 hi p y => ?_) (fun H1 p => ?_)
                · obtain ⟨T, x1, y1, rfl, nT, rfl, g1, g2⟩ := y
                  obtain ⟨dx, gx, hx⟩ := hxs.get i g1
                  obtain ⟨dy, gy, hy⟩ := hys.get i g2
                  have sT : Same H1 (upd H1 T (.tup [x1, y1])) := same_upd nT
                  have s1 := p.1.trans sT
                  have tD : D ≠ T := ne_of_none p.2 nT
                  refine ⟨T, [x1, y1], rfl, .inl (.inl upd_same), rfl, x1, [y1], rfl, y1, [], rfl, rfl, rfl, ?_⟩
                  refine ⟨x1, rfl, y1, rfl, x1, y1, dx, dy, rfl, hx.same s1, hy.same s1, plain_get (plain_tup pd).2 gx, plain_get (plain_tup pd').2 gy, ?_, by omega, fun H3 s3 => ?_⟩
                  · have h1 := dep_get gx
                    have h2 : dep.depL ds + 1 < n + 1 := hd
                    omega
                  refine ⟨_, s3 _ _ (by rw [upd_ne tD]; exact p.2), ?_, fun c o hc => ?_, ?_⟩
                  · rw [List.length_map, List.length_map, List.length_take]
                    have h1 := (plain_tup pd).1
                    have h2 := hxs.length
                    exact small1000 (by omega)
                  · rw [upd_ne (ne_of_none hc nD)]
                    exact s3 _ _ (s1 _ _ hc)
                  · rw [upd_same, List.take_add_one, List.map_append, List.map_append]
                    have ez : (List.zip ds es)[i]? = some (dx, dy) := by
                      rw [List.getElem?_zip_eq_some]
                      exact ⟨gx, gy⟩
                    rw [ez]
                    rfl
                · have el2 : xs.length = (List.zip ds es).length := by
                    rw [List.length_zip, ← hxs.length, ← hys.length, ← el, Nat.min_self]
                  obtain ⟨s1, hD⟩ := p
                  rw [el2, List.take_length] at hD
                  refine ⟨D, _, rfl, .inl (.inl hD), ?_⟩
                  rw [← deqL_all eds]
                  exact q _ s1
              · have el : ds.length ≠ es.length := fun z => e (by
                  rw [hxs.length, hys.length, z]
                  exact decide_eq_true rfl)
                have := q _ (Same.refl H)
                unfold deq at this
                rw [deqL_len el] at this
                exact this
            | non => cases e2
            | bl => cases e2
            | int => cases e2
            | str => cases e2
            | lst => cases e2
            | dic => cases e2
          | non => cases e1
          | bl => cases e1
          | int => cases e1
          | str => cases e1
          | lst => cases e1
          | dic => cases e1
        case' D => have e3 : isT d = false ∨ isT d' = false := .inr (by simpa using e2)
      case' B => have e3 : isT d = false ∨ isT d' = false := .inl (by simpa using e1)
      all_goals
        have q0 := q _ (Same.refl H)
        refine ⟨v, rfl, v, .ty "bool", _, _, isB d, rfl, .ty "bool", hv.ty, kitBo hv, _, rfl, ite2 (fun e4 => ?_) (fun e4 => ?_)⟩
        · refine ⟨v, rfl, v, .ty "bool", _, _, isB d, rfl, .ty "bool", hv.ty, kitBo hv, _, rfl, ite2 (fun _ => ?_) (fun e => absurd e4 e)⟩
          refine ⟨v', rfl, v', .ty "bool", _, _, isB d', rfl, .ty "bool", hv'.ty, kitBo hv', _, rfl, ite2 (fun e5 => ?_) (fun e5 => ?_)⟩
          · refine ⟨v, rfl, v', rfl, d, d', hv.dp (plain_nd pd), hv'.dp (plain_nd pd'), ?_, ?_, ?_⟩
            · cases d <;> first | rfl | cases e4
            · cases d' <;> first | rfl | cases e5
            · rw [deq_bb e4 e5]
              exact q0
          · rw [deq_nb (by rw [e4]; exact fun z => e5 z.symm)] at q0
            exact q0
        · replace e4 : isB d = false := by simpa using e4
          refine ⟨v', rfl, v', .ty "bool", _, _, isB d', rfl, .ty "bool", hv'.ty, kitBo hv', _, rfl, ite2 (fun e5 => ?_) (fun e5 => ?_)⟩
          · refine ⟨v, rfl, v, .ty "bool", _, _, isB d, rfl, .ty "bool", hv.ty, kitBo hv, _, rfl, ite2 (fun e => ?_) (fun _ => ?_)⟩
            · rw [e4] at e
              cases e
            · rw [deq_nb (by rw [e4, e5]; decide)] at q0
              exact q0
          · replace e5 : isB d' = false := by simpa using e5
            refine ⟨v, rfl, v, .ty "tuple", _, _, isT d, rfl, .ty "tuple", hv.ty, kitT hv, v', rfl, v', .ty "tuple", _, _, isT d', rfl, .ty "tuple", hv'.ty, kitT hv', rfl, _, rfl, ite2 (fun e => ?_) (fun e => ?_)⟩
            · rw [deq_nt (fun z => by rw [z, decide_eq_true rfl] at e; cases e)] at q0
              exact q0
            · have et : isT d = isT d' := by
                refine Decidable.byContradiction fun z => e ?_
                rw [decide_eq_false (fun w => z (V.bl.inj w))]
                rfl
              have t1 : isT d = false := by
                rcases e3 with e3 | e3
                · exact e3
                · rw [et, e3]
              have t2 : isT d' = false := by rw [← et, t1]
              refine ⟨v, rfl, v, .ty "int", _, _, isI d, rfl, .ty "int", hv.ty, kitI hv, v', rfl, v', .ty "int", _, _, isI d', rfl, .ty "int", hv'.ty, kitI hv', rfl, _, rfl, ite2 (fun e => ?_) (fun e => ?_)⟩
              · rw [deq_ni (fun z => by rw [z, decide_eq_true rfl] at e; cases e)] at q0
                exact q0
              · have ei : isI d = isI d' := by
                  refine Decidable.byContradiction fun z => e ?_
                  rw [decide_eq_false (fun w => z (V.bl.inj w))]
                  rfl
                refine ⟨v, rfl, v, .ty "str", _, _, isS d, rfl, .ty "str", hv.ty, kitS hv, v', rfl, v', .ty "str", _, _, isS d', rfl, .ty "str", hv'.ty, kitS hv', rfl, _, rfl, ite2 (fun e => ?_) (fun e => ?_)⟩
                · have es : isS d = isS d' := V.bl.inj (of_decide_eq_true e)
                  refine ⟨v, rfl, v', rfl, d, d', hv.dp (plain_nd pd), hv'.dp (plain_nd pd'), shaped_flat pd t1, shaped_flat pd' t2, ?_⟩
                  rw [deq_rest pd pd' e4 e5 t1 t2 ei es]
                  exact q0
                · rw [deq_ns (fun z => e (by rw [z]; exact decide_eq_true rfl))] at q0
                  exact q0
theorem okD__law_equal (d : IsDef K mg "_law_equal" s__law_equal P__law_equal) (m_isinstance : mg "isinstance" = none) (m_tuple : mg "tuple" = none) (m_bool : mg "bool" = none) (m_int : mg "int" = none) (m_str : mg "str" = none) (m_len : mg "len" = none) (m_all : mg "all" = none) (m_zip : mg "zip" = none) :
    Ok P w K mg base 8 "_law_equal" s__law_equal P__law_equal (prP S__law_equal) := by
  obtain ⟨f, fd, D, F⟩ := ok__law_equal (P := P) (w := w) (K := K) (mg := mg) (base := base) d m_isinstance m_tuple m_bool m_int m_str m_len m_all m_zip 8
  refine ⟨f, fd, D, F.imp fun vs H Q E h => ?_⟩
  obtain ⟨G, ds, k, sub, rs, hS, KK⟩ := h
  obtain ⟨x, y, rfl, px, py, dx, hk⟩ := sp2_inv hS
  cases rs with
  | cons rx t =>
    cases t with
    | cons ry t =>
      cases t
      exact ⟨_, _, x, y, rfl, rx.same sub, ry.same sub, px, py, dx, by decide, fun H' s => KK (.d (.bool (deq x y))) G H' _ hk (.refl G) (sub.trans s) s (fun b e => .inl e) (.bl _)⟩
/-! ### the greatest common divisor -/
abbrev S_common_divisor : SpP := sp2 fun a b k => ∃ x y : Int, a = .int x ∧ b = .int y ∧ k (.d (.int (Int.gcd x y : Int)))
abbrev s_common_divisor : Stmt := topS 9
abbrev N_common_divisor : List Str := ["one", "other"]
abbrev P_common_divisor : List Str := ["one", "other"]
theorem sc_common_divisor : FnScope N_common_divisor P_common_divisor (defScope s_common_divisor) := ⟨rfl, rfl, rfl, by decide +kernel, rfl, by decide +kernel, by decide +kernel⟩
set_option maxHeartbeats 8000000 in
theorem okD_common_divisor (d : IsDef K mg "common_divisor" s_common_divisor P_common_divisor) (m_abs : mg "abs" = none) : Ok P w K mg base 1 "common_divisor" s_common_divisor P_common_divisor (prP S_common_divisor) := by
  obtain ⟨f0_, fd0_, D⟩ := d
  refine ⟨f0_, fd0_, D, D.F.ok sc_common_divisor (fun vs H Q E h => ?_) (fun cdv A outer s H vs Q E hr h => ?_)⟩
  · obtain ⟨G, ds, k, _, rs, hS, _⟩ := h
    rw [rs.length]
    exact sp2_len hS
  · obtain ⟨G, ds, k, sub, rs, hS, KK⟩ := h
    refine ⟨_, (pss_cons (ps_par (i := 0) (j := 1) (by rfl) sc_common_divisor.nd rfl rfl (by decide) rfl rfl (pa_cons (pe_callB call_abs (by rfl) m_abs (by decide +kernel) (pa_cons (pv 0) pa_nil)) (pa_cons (pe_callB call_abs (by rfl) m_abs (by decide +kernel) (pa_cons (pv 1) pa_nil)) pa_nil)) (by rfl))
      (pss_cons (ps_while PassesOwn.never (pt_cmpR (show OpR _ _ (rNeA K) from op_neA hr.units) (pv 1) pe_int (nomark _)) (pss_one (ps_par (i := 0) (j := 1) (by rfl) sc_common_divisor.nd rfl rfl (by decide) rfl rfl (pa_cons (pv 1) (pa_cons (pe_op op_mod (pv 0) (pv 1)) pa_nil)) (by rfl))))
      (pss_one (ps_ret (pv 0))))), runP (N := N_common_divisor) (ss_seq (ss_par 0 1 (sa_cons (se_cb cs_abs (sa_cons (se_var 0) sa_nil)) (sa_cons (se_cb cs_abs (sa_cons (se_var 1) sa_nil)) sa_nil)))
      (ss_seq (ss_while (st_test (se_op (os_ne _) (se_var 1) (se_int _))) (ss_par 0 1 (sa_cons (se_var 1) (sa_cons (se_op os_mod (se_var 0) (se_var 1)) sa_nil))))
      (ss_ret (se_var 0)))) sub rs KK ?_⟩
    clear KK rs sub hr
    replace hS := sp2_inv hS
    obtain ⟨x1, x2, rfl, hS⟩ := hS
    obtain ⟨n, d, rfl, rfl, hk⟩ := hS
    refine ⟨fun t e m => m = [] ∧ ∃ x y : Int, 0 ≤ x ∧ 0 ≤ y ∧ t = y.toNat ∧ e = [some (.d (.int x)), some (.d (.int y))] ∧ Int.gcd x y = Int.gcd n d, ⟨_, rfl, (if n < 0 then -n else n), (if d < 0 then -d else d), by split <;> omega, by split <;> omega, rfl, rfl, ?_⟩, ?_⟩
    · split <;> split <;> simp
    · rintro t e m ⟨rfl, x, y, x0, y0, rfl, rfl, hg⟩
      refine ⟨trivial, fun z => ?_, fun z => ?_⟩
      · have yp : 0 < y := by
          have : y ≠ 0 := fun w => by rw [w] at z; exact absurd z (by decide)
          omega
        have l1 := Int.emod_nonneg x (show y ≠ 0 by omega)
        have l2 := Int.emod_lt_of_pos x yp
        exact ⟨yp, (x % y).toNat, by omega, rfl, y, x % y, y0, l1, rfl, rfl, by rw [Fr.gcd_step x0 y0]; exact hg⟩
      · have y00 : y = 0 := by simpa [eqB] using z
        subst y00
        have ex : x = (Int.gcd n d : Int) := by rw [← hg, Fr.gcd_zero x0]
        rw [ex]
        exact hk
/-! ### lowest terms, as the law finds them -/
abbrev S__law_lowest : SpP := sp2 fun a b k => ∃ (n d : Int) (z : Nat), a = .int n ∧ b = .int d ∧ 0 < d ∧ d.natAbs < 2 ^ z ∧ 0 < z ∧ z ≤ 9000 ∧ k (.d (fd (Fr.red n d)))
abbrev s__law_lowest : Stmt := topS 36
abbrev N__law_lowest : List Str := ["_law_numerator", "_law_denominator", "_law_one", "_law_other"]
abbrev P__law_lowest : List Str := ["_law_numerator", "_law_denominator"]
theorem sc__law_lowest : FnScope N__law_lowest P__law_lowest (defScope s__law_lowest) := ⟨rfl, rfl, rfl, by decide +kernel, rfl, by decide +kernel, by decide +kernel⟩
set_option maxHeartbeats 8000000 in
theorem okD__law_lowest (d : IsDef K mg "_law_lowest" s__law_lowest P__law_lowest) (m_abs : mg "abs" = none) : Ok P w K mg base 1 "_law_lowest" s__law_lowest P__law_lowest (prP S__law_lowest) := by
  obtain ⟨f0_, fd0_, D⟩ := d
  refine ⟨f0_, fd0_, D, D.F.ok sc__law_lowest (fun vs H Q E h => ?_) (fun cdv A outer s H vs Q E hr h => ?_)⟩
  · obtain ⟨G, ds, k, _, rs, hS, _⟩ := h
    rw [rs.length]
    exact sp2_len hS
  · obtain ⟨G, ds, k, sub, rs, hS, KK⟩ := h
    refine ⟨_, (pss_cons (ps_par (i := 2) (j := 3) (by rfl) sc__law_lowest.nd rfl rfl (by decide) rfl rfl (pa_cons (pe_callB call_abs (by rfl) m_abs (by decide +kernel) (pa_cons (pv 0) pa_nil)) (pa_cons (pv 1) pa_nil)) (by rfl))
      (pss_cons (ps_while PassesOwn.never (pt_cmpR op_gt (pv 3) pe_int (nomark _)) (pss_one (ps_par (i := 2) (j := 3) (by rfl) sc__law_lowest.nd rfl rfl (by decide) rfl rfl (pa_cons (pv 3) (pa_cons (pe_op op_mod (pv 2) (pv 3)) pa_nil)) (by rfl))))
      (pss_one (ps_ret (pe_tup (pa_cons (pe_op op_fdivZ (pv 0) (pv 2)) (pa_cons (pe_op op_fdivZ (pv 1) (pv 2)) pa_nil))))))), runP (N := N__law_lowest) (ss_seq (ss_par 2 3 (sa_cons (se_cb cs_abs (sa_cons (se_var 0) sa_nil)) (sa_cons (se_var 1) sa_nil)))
      (ss_seq (ss_while (st_test (se_op os_gt (se_var 3) (se_int _))) (ss_par 2 3 (sa_cons (se_var 3) (sa_cons (se_op os_mod (se_var 2) (se_var 3)) sa_nil))))
      (ss_ret (se_tup (sa_cons (se_op os_div (se_var 0) (se_var 2)) (sa_cons (se_op os_div (se_var 1) (se_var 2)) sa_nil)))))) sub rs KK ?_⟩
    clear KK rs sub hr
    replace hS := sp2_inv hS
    obtain ⟨x1, x2, rfl, hS⟩ := hS
    obtain ⟨n, d, b, rfl, rfl, d0, db, b0, b9, hk⟩ := hS
    refine ⟨fun t e m => m = [] ∧ ∃ x y : Int, 0 ≤ x ∧ 0 ≤ y ∧ t = y.toNat ∧ e = [some (.d (.int n)), some (.d (.int d)), some (.d (.int x)), some (.d (.int y))] ∧ Int.gcd x y = Int.gcd n d, ⟨_, rfl, (if n < 0 then -n else n), d, by split <;> omega, by omega, rfl, rfl, ?_⟩, ?_⟩
    · split <;> simp
    · rintro t e m ⟨rfl, x, y, x0, y0, rfl, rfl, hg⟩
      refine ⟨fun z => ?_, fun z => ?_⟩
      · have yp : 0 < y := of_decide_eq_true z
        have l1 := Int.emod_nonneg x (show y ≠ 0 by omega)
        have l2 := Int.emod_lt_of_pos x yp
        exact ⟨yp, (x % y).toNat, by omega, rfl, y, x % y, y0, l1, rfl, rfl, by rw [Fr.gcd_step x0 y0]; exact hg⟩
      · have y00 : y = 0 := by
          have := of_decide_eq_false z
          omega
        subst y00
        have ex : x = (Int.gcd n d : Int) := by rw [← hg, Fr.gcd_zero x0]
        have xp : 0 < (Int.gcd n d : Int) := Fr.gcd_pos (by omega)
        have xd : (Int.gcd n d : Int).natAbs < 2 ^ b := by
          refine Nat.lt_of_le_of_lt ?_ db
          rw [Int.natAbs_natCast]
          exact Nat.le_of_dvd (by omega) (Nat.gcd_dvd_right _ _)
        have C := log9 xd b0 b9
        rw [ex]
        refine ⟨⟨by omega, C⟩, ⟨by omega, C⟩, by show 2 ≤ 1000000; decide, ?_⟩
        have e1 : n.fdiv (Int.gcd n d : Int) = (Fr.red n d).1 := Int.fdiv_eq_ediv_of_nonneg _ (by omega)
        have e2 : d.fdiv (Int.gcd n d : Int) = (Fr.red n d).2 := Int.fdiv_eq_ediv_of_nonneg _ (by omega)
        have hk : k (.d (.tuple [.int (Fr.red n d).1, .int (Fr.red n d).2])) := hk
        rw [← e1, ← e2] at hk
        exact hk
/-! ### a drawn fraction -/
abbrev S__law_fraction : SpN := sn0 fun j k => j + 3 < 900000 ∧ ∀ x : Int × Int, Fr.IsF x → Fr.Sz 100 x → k (.d (fd x)) (j + 3)
abbrev s__law_fraction : Stmt := topS 37
abbrev N__law_fraction : List Str := ["_law_drawn", "_law_great"]
abbrev P__law_fraction : List Str := ["_law_drawn"]
theorem sc__law_fraction : FnScope N__law_fraction P__law_fraction (defScope s__law_fraction) := ⟨rfl, rfl, rfl, by decide +kernel, rfl, by decide +kernel, by decide +kernel⟩
set_option maxHeartbeats 8000000 in
theorem okD__law_fraction (d : IsDef K mg "_law_fraction" s__law_fraction P__law_fraction) (h__law_lowest : Ok P w K mg base 1 "_law_lowest" s__law_lowest P__law_lowest (prP S__law_lowest)) (h__law_next : Ok P w K mg base 1 "_law_next" s__law_next P__law_next (prN S__law_next)) : Ok P w K mg base 2 "_law_fraction" s__law_fraction P__law_fraction (prN S__law_fraction) := by
  obtain ⟨f0_, fd0_, D⟩ := d
  obtain ⟨f__law_lowest, fd__law_lowest, ⟨F__law_lowest, b__law_lowest, g__law_lowest⟩, G__law_lowest⟩ := h__law_lowest
  obtain ⟨f__law_next, fd__law_next, ⟨F__law_next, b__law_next, g__law_next⟩, G__law_next⟩ := h__law_next
  refine ⟨f0_, fd0_, D, D.F.ok sc__law_fraction (fun vs H Q E h => ?_) (fun cdv A outer s H vs Q E hr h => ?_)⟩
  · obtain ⟨G, a, c, r, j, ws, ds, k, rfl, _, _, _, _, _, rs, hS, _⟩ := h
    rw [List.length_cons, rs.length]
    exact congrArg (· + 1) (sn0_len hS)
  · obtain ⟨G, a, c, r, j, ws, ds, k, rfl, dr, ga, gc, gr, sub, rs, hS, KK⟩ := h
    refine ⟨_, (pss_cons (ps_set (i := 1) sc__law_fraction.nd rfl (.inl rfl) (pe_ix (show IxR _ (rIx K) from ix_seq) (pe_lst (pa_cons pe_int (pa_cons pe_int (pa_cons (pe_op op_pow pe_int pe_int) (pa_cons (pe_op op_pow pe_int pe_int) pa_nil))))) (pe_call G__law_next (hr.mono (by omega)) (by rfl) g__law_next F__law_next.kp b__law_next .nil pass0 (pa_cons (pv 0) (pa_cons pe_int pa_nil))) (fun _ _ => rfl)))
      (pss_one (ps_ret (pe_call G__law_lowest (hr.mono (by omega)) (by rfl) g__law_lowest F__law_lowest.kp b__law_lowest .nil pass0 (pa_cons (pe_op op_sub (pe_call G__law_next (hr.mono (by omega)) (by rfl) g__law_next F__law_next.kp b__law_next .nil pass0 (pa_cons (pv 0) (pa_cons (pe_op (show OpR _ _ (rAddA K) from op_addA) (pe_op (show OpR _ _ (rMulA K) from op_mulA) pe_int (pv 1)) pe_int) pa_nil))) (pv 1)) (pa_cons (pe_op (show OpR _ _ (rAddA K) from op_addA) pe_int (pe_call G__law_next (hr.mono (by omega)) (by rfl) g__law_next F__law_next.kp b__law_next .nil pass0 (pa_cons (pv 0) (pa_cons (pv 1) pa_nil)))) pa_nil)))))), runN (N := N__law_fraction) (ss_seq (ss_asg (se_op (os_ix _) (SL.se (sl_lst (sa_cons (se_int _) (sa_cons (se_int _) (sa_cons (se_op os_pow (se_int _) (se_int _)) (sa_cons (se_op os_pow (se_int _) (se_int _)) sa_nil)))))) (se_callN (sa_cons (se_var 0) (sa_cons (se_int _) sa_nil)))) (sg_name 1))
      (ss_ret (se_callP (sa_cons (se_op os_sub (se_callN (sa_cons (se_var 0) (sa_cons (se_op (os_addA _) (se_op (os_mulA _) (se_int _) (se_var 1)) (se_int _)) sa_nil))) (se_var 1)) (sa_cons (se_op (os_addA _) (se_int _) (se_callN (sa_cons (se_var 0) (sa_cons (se_var 1) sa_nil)))) sa_nil))))) dr ga gc gr sub rs KK ?_⟩
    clear KK rs sub ga gc gr dr hr
    replace hS := sn0_inv hS
    obtain ⟨rfl, hS⟩ := hS
    obtain ⟨hj, hk⟩ := hS
    refine ⟨⟨by decide, by decide, by decide⟩, ⟨by decide, by decide, by decide⟩, by show 4 ≤ 1000000; decide, _, rfl, by omega, by decide, lg (b := 3) (by decide), fun t t0 t1 => ?_⟩
    obtain ⟨g, hg, g0, g1⟩ : ∃ g : Int, atI [PyData.int 3, .int 9, .int (10 ^ Int.toNat 6), .int (10 ^ Int.toNat 29)] t = some (.int g) ∧ 1 ≤ g ∧ g ≤ 10 ^ 29 := by
      have e : t = 0 ∨ t = 1 ∨ t = 2 ∨ t = 3 := by omega
      rcases e with rfl | rfl | rfl | rfl
      · exact ⟨3, rfl, by decide, by decide⟩
      · exact ⟨9, rfl, by decide, by decide⟩
      · exact ⟨_, rfl, by decide, by decide⟩
      · exact ⟨_, rfl, by decide, by decide⟩
    refine ⟨_, _, rfl, hg, mw (a := 2) (b := 97) (by decide) (by omega), _, rfl, by omega, by omega, lg (b := 99) (by omega), fun u u0 u1 => ?_⟩
    refine ⟨_, rfl, by omega, by omega, lg (b := 97) (by omega), fun v v0 v1 => ?_⟩
    exact ⟨_, _, 100, rfl, rfl, by omega, by omega, by decide, by decide, hk _ (Fr.red_isF (by omega)) (Fr.red_sz (by omega) (by omega))⟩
/-! ### a drawn size -/
abbrev S__law_size : SpN := sn1 fun j a k => ∃ g : Int, a = .int g ∧ 0 ≤ g ∧ g < 2 ^ 100 ∧ j + 3 < 900000 ∧ ∀ v : Int, 0 ≤ v → v ≤ g → k (.d (.int v)) (j + 3)
abbrev s__law_size : Stmt := topS 38
abbrev N__law_size : List Str := ["_law_drawn", "_law_great", "_law_few"]
abbrev P__law_size : List Str := ["_law_drawn", "_law_great"]
theorem sc__law_size : FnScope N__law_size P__law_size (defScope s__law_size) := ⟨rfl, rfl, rfl, by decide +kernel, rfl, by decide +kernel, by decide +kernel⟩
set_option maxHeartbeats 8000000 in
theorem okD__law_size (d : IsDef K mg "_law_size" s__law_size P__law_size) (h__law_next : Ok P w K mg base 1 "_law_next" s__law_next P__law_next (prN S__law_next)) (m_min : mg "min" = none) : Ok P w K mg base 2 "_law_size" s__law_size P__law_size (prN S__law_size) := by
  obtain ⟨f0_, fd0_, D⟩ := d
  obtain ⟨f__law_next, fd__law_next, ⟨F__law_next, b__law_next, g__law_next⟩, G__law_next⟩ := h__law_next
  refine ⟨f0_, fd0_, D, D.F.ok sc__law_size (fun vs H Q E h => ?_) (fun cdv A outer s H vs Q E hr h => ?_)⟩
  · obtain ⟨G, a, c, r, j, ws, ds, k, rfl, _, _, _, _, _, rs, hS, _⟩ := h
    rw [List.length_cons, rs.length]
    exact congrArg (· + 1) (sn1_len hS)
  · obtain ⟨G, a, c, r, j, ws, ds, k, rfl, dr, ga, gc, gr, sub, rs, hS, KK⟩ := h
    refine ⟨_, (pss_cons (ps_set (i := 2) sc__law_size.nd rfl (.inl rfl) (pe_call G__law_next (hr.mono (by omega)) (by rfl) g__law_next F__law_next.kp b__law_next .nil pass0 (pa_cons (pv 0) (pa_cons (pe_op (show OpR _ _ (rAddA K) from op_addA) (pe_callB (call_min2 rfl) (by rfl) m_min (by decide +kernel) (pa_cons (pv 1) (pa_cons pe_int pa_nil))) pe_int) pa_nil))))
      (pss_one (ps_ret (pe_ix (show IxR _ (rIx K) from ix_seq) (pe_lst (pa_cons (pv 2) (pa_cons (pe_op op_sub (pv 1) (pv 2)) (pa_cons (pe_call G__law_next (hr.mono (by omega)) (by rfl) g__law_next F__law_next.kp b__law_next .nil pass0 (pa_cons (pv 0) (pa_cons (pe_op (show OpR _ _ (rAddA K) from op_addA) (pv 1) pe_int) pa_nil))) pa_nil)))) (pe_call G__law_next (hr.mono (by omega)) (by rfl) g__law_next F__law_next.kp b__law_next .nil pass0 (pa_cons (pv 0) (pa_cons pe_int pa_nil))) (fun _ _ => rfl))))), runN (N := N__law_size) (ss_seq (ss_asg (se_callN (sa_cons (se_var 0) (sa_cons (se_op (os_addA _) (se_cb cs_min2 (sa_cons (se_var 1) (sa_cons (se_int _) sa_nil))) (se_int _)) sa_nil))) (sg_name 2))
      (ss_ret (se_op (os_ix _) (SL.se (sl_lst (sa_cons (se_var 2) (sa_cons (se_op os_sub (se_var 1) (se_var 2)) (sa_cons (se_callN (sa_cons (se_var 0) (sa_cons (se_op (os_addA _) (se_var 1) (se_int _)) sa_nil))) sa_nil))))) (se_callN (sa_cons (se_var 0) (sa_cons (se_int _) sa_nil)))))) dr ga gc gr sub rs KK ?_⟩
    clear KK rs sub ga gc gr dr hr
    replace hS := sn1_inv hS
    obtain ⟨x1, rfl, hS⟩ := hS
    obtain ⟨g, rfl, g0, g1, hj, hk⟩ := hS
    refine ⟨_, rfl, by omega, by split <;> omega, lg (b := 101) (by split <;> omega), fun v v0 v1 => ?_⟩
    have v3 : v ≤ g := by
      have v1 : v < (if 3 < g then 3 else g) + 1 := v1
      split at v1 <;> omega
    refine ⟨_, rfl, by omega, by omega, lg (b := 101) (by omega), fun u u0 u1 => ?_⟩
    refine ⟨by show 3 ≤ 1000000; decide, _, rfl, by omega, by decide, lg (b := 2) (by decide), fun t t0 t1 => ?_⟩
    have e : t = 0 ∨ t = 1 ∨ t = 2 := by omega
    rcases e with rfl | rfl | rfl
    · exact ⟨_, _, rfl, rfl, hk v v0 v3⟩
    · exact ⟨_, _, rfl, rfl, hk (g - v) (by omega) (by omega)⟩
    · exact ⟨_, _, rfl, rfl, hk u u0 (by omega)⟩
/-! ### drawn items -/
abbrev S__law_items : SpN := sn1 fun j a k => ∃ n : Nat, a = .int n ∧ n ≤ 100 ∧ j + 700 < 900000 ∧ ∀ its : List (Int × Int), its.length = n → ItsOk its → k (.d (.tuple (its.map itD))) (j + 2 + 6 * n)
abbrev s__law_items : Stmt := topS 39
abbrev N__law_items : List Str := ["_law_drawn", "_law_count", "_law_great", "_law_heavy", "_law_found", "_law_k"]
abbrev P__law_items : List Str := ["_law_drawn", "_law_count"]
theorem sc__law_items : FnScope N__law_items P__law_items (defScope s__law_items) := ⟨rfl, rfl, rfl, by decide +kernel, rfl, by decide +kernel, by decide +kernel⟩
set_option maxHeartbeats 8000000 in
theorem okD__law_items (d : IsDef K mg "_law_items" s__law_items P__law_items) (h__law_next : Ok P w K mg base 1 "_law_next" s__law_next P__law_next (prN S__law_next)) (h__law_size : Ok P w K mg base 2 "_law_size" s__law_size P__law_size (prN S__law_size)) (m_tuple : mg "tuple" = none) (m_range : mg "range" = none) : Ok P w K mg base 3 "_law_items" s__law_items P__law_items (prN S__law_items) := by
  obtain ⟨f0_, fd0_, D⟩ := d
  obtain ⟨f__law_next, fd__law_next, ⟨F__law_next, b__law_next, g__law_next⟩, G__law_next⟩ := h__law_next
  obtain ⟨f__law_size, fd__law_size, ⟨F__law_size, b__law_size, g__law_size⟩, G__law_size⟩ := h__law_size
  refine ⟨f0_, fd0_, D, D.F.ok sc__law_items (fun vs H Q E h => ?_) (fun cdv A outer s H vs Q E hr h => ?_)⟩
  · obtain ⟨G, a, c, r, j, ws, ds, k, rfl, _, _, _, _, _, rs, hS, _⟩ := h
    rw [List.length_cons, rs.length]
    exact congrArg (· + 1) (sn1_len hS)
  · obtain ⟨G, a, c, r, j, ws, ds, k, rfl, dr, ga, gc, gr, sub, rs, hS, KK⟩ := h
    refine ⟨_, (pss_cons (ps_set (i := 2) sc__law_items.nd rfl (.inl rfl) (pe_ix (show IxR _ (rIx K) from ix_seq) (pe_lst (pa_cons pe_int (pa_cons pe_int (pa_cons (pe_op op_pow pe_int pe_int) pa_nil)))) (pe_call G__law_next (hr.mono (by omega)) (by rfl) g__law_next F__law_next.kp b__law_next .nil pass0 (pa_cons (pv 0) (pa_cons pe_int pa_nil))) (fun _ _ => rfl)))
      (pss_cons (ps_set (i := 3) sc__law_items.nd rfl (.inl rfl) (pe_ix (show IxR _ (rIx K) from ix_seq) (pe_lst (pa_cons pe_int (pa_cons pe_int (pa_cons (pe_op op_pow pe_int pe_int) pa_nil)))) (pe_call G__law_next (hr.mono (by omega)) (by rfl) g__law_next F__law_next.kp b__law_next .nil pass0 (pa_cons (pv 0) (pa_cons pe_int pa_nil))) (fun _ _ => rfl)))
      (pss_cons (ps_set (i := 4) sc__law_items.nd rfl (.inl rfl) (pe_lst pa_nil))
      (pss_cons (ps_for PassesOwn.never rfl (pi_range1 (by rfl) m_range (pa_cons (pv 1) pa_nil)) (pg_name (i := 5) sc__law_items.nd rfl (.inl rfl)) (pss_one (ps_expr (pe_bm PySem.F.plainAttrs_list PySem.F.slot_list_append PySem.F.type_list_append mt_append (pv 4) (pa_cons (pe_tup (pa_cons (pe_op op_sub (pe_call G__law_size (hr.mono (by omega)) (by rfl) g__law_size F__law_size.kp b__law_size .nil pass0 (pa_cons (pv 0) (pa_cons (pe_op (show OpR _ _ (rMulA K) from op_mulA) pe_int (pv 2)) pa_nil))) (pv 2)) (pa_cons (pe_op (show OpR _ _ (rAddA K) from op_addA) pe_int (pe_call G__law_size (hr.mono (by omega)) (by rfl) g__law_size F__law_size.kp b__law_size .nil pass0 (pa_cons (pv 0) (pa_cons (pe_op op_sub (pv 3) pe_int) pa_nil)))) pa_nil))) pa_nil)))))
      (pss_one (ps_ret (pe_callTy (show CallR _ _ (rTupK K) from call_tupK) (by rfl) m_tuple (by decide +kernel) (pa_cons (pv 4) pa_nil)))))))), runN (N := N__law_items) (ss_seq (ss_asg (se_op (os_ix _) (SL.se (sl_lst (sa_cons (se_int _) (sa_cons (se_int _) (sa_cons (se_op os_pow (se_int _) (se_int _)) sa_nil))))) (se_callN (sa_cons (se_var 0) (sa_cons (se_int _) sa_nil)))) (sg_name 2))
      (ss_seq (ss_asg (se_op (os_ix _) (SL.se (sl_lst (sa_cons (se_int _) (sa_cons (se_int _) (sa_cons (se_op os_pow (se_int _) (se_int _)) sa_nil))))) (se_callN (sa_cons (se_var 0) (sa_cons (se_int _) sa_nil)))) (sg_name 3))
      (ss_seq (ss_own 4 (sl_lst sa_nil))
      (ss_seq (ss_for (si_rng1 (sa_cons (se_var 1) sa_nil)) (sg_name 5) (ss_app _ 4 (se_tup (sa_cons (se_op os_sub (se_callN (sa_cons (se_var 0) (sa_cons (se_op (os_mulA _) (se_int _) (se_var 2)) sa_nil))) (se_var 2)) (sa_cons (se_op (os_addA _) (se_int _) (se_callN (sa_cons (se_var 0) (sa_cons (se_op os_sub (se_var 3) (se_int _)) sa_nil)))) sa_nil)))))
      (ss_ret (se_cb (cs_tup _) (sa_cons (se_var 4) sa_nil))))))) dr ga gc gr sub rs KK ?_⟩
    clear KK rs sub ga gc gr dr hr
    replace hS := sn1_inv hS
    obtain ⟨x1, rfl, hS⟩ := hS
    obtain ⟨n, rfl, hn, hj, hk⟩ := hS
    refine ⟨⟨by decide, by decide, by decide⟩, by show 3 ≤ 1000000; decide, _, rfl, by omega, by decide, lg (b := 2) (by decide), fun t t0 t1 => ?_⟩
    obtain ⟨g, hg, g0, g1⟩ : ∃ g : Int, atI [PyData.int 2, .int 9, .int (10 ^ Int.toNat 9)] t = some (.int g) ∧ 2 ≤ g ∧ g ≤ 1000000000 := by
      have e : t = 0 ∨ t = 1 ∨ t = 2 := by omega
      rcases e with rfl | rfl | rfl
      · exact ⟨2, rfl, by decide, by decide⟩
      · exact ⟨9, rfl, by decide, by decide⟩
      · exact ⟨_, rfl, by decide, by decide⟩
    refine ⟨_, _, rfl, hg, ⟨by decide, by decide, by decide⟩, by show 3 ≤ 1000000; decide, _, rfl, by omega, by decide, lg (b := 2) (by decide), fun t t0 t1 => ?_⟩
    obtain ⟨h, hh, h0, h1⟩ : ∃ h : Int, atI [PyData.int 1, .int 3, .int (10 ^ Int.toNat 6)] t = some (.int h) ∧ 1 ≤ h ∧ h ≤ 1000000 := by
      have e : t = 0 ∨ t = 1 ∨ t = 2 := by omega
      rcases e with rfl | rfl | rfl
      · exact ⟨1, rfl, by decide, by decide⟩
      · exact ⟨3, rfl, by decide, by decide⟩
      · exact ⟨_, rfl, by decide, by decide⟩
    refine ⟨_, _, rfl, hh, by show 0 ≤ 1000000; decide, ⟨by omega, by omega⟩, ?_⟩
    refine forL (fun i : Nat => .int (0 + (i : Nat))) (List.range n) (fun done e m => ∃ its : List (Int × Int), its.length = done.length ∧ ItsOk its ∧ m = [.drw (j + 2 + 6 * done.length), .lst (its.map itD)] ∧ ∃ y5, e = [some (.p 0), some (.d (.int n)), some (.d (.int g)), some (.d (.int h)), some (.p 1), y5]) ⟨[], rfl, (fun q hq => nomatch hq), rfl, none, rfl⟩ (fun done x r e m hx hJ C hC => ?_) (fun e m hJ => ?_)
    · obtain ⟨its, hl, ok, rfl, y5, rfl⟩ := hJ
      have hlen : done.length < n := by
        have := congrArg List.length hx
        rw [List.length_range, List.length_append, List.length_cons] at this
        omega
      refine ⟨⟨_, rfl⟩, mw (a := 2) (b := 30) (by decide) (by omega), _, rfl, by omega, by omega, by omega, fun v v0 v1 => ?_⟩
      refine ⟨_, rfl, by omega, by omega, by omega, fun u u0 u1 => ?_⟩
      refine ⟨by show 2 ≤ 1000000; decide, _, rfl, by rw [List.length_map]; omega, hC _ _ ⟨its ++ [(v - g, 1 + u)], ?_, ?_, ?_, _, rfl⟩⟩
      · rw [List.length_append, List.length_append, hl]
        rfl
      · intro q hq
        rcases List.mem_append.mp hq with hq | hq
        · exact ok q hq
        · rw [List.mem_singleton.mp hq]
          exact ⟨⟨by show -1000000000 ≤ v - g; omega, by show v - g ≤ 1000000000; omega⟩, by show 1 ≤ 1 + u; omega, by show 1 + u ≤ 1000000; omega⟩
      · rw [List.map_append, List.length_append]
        rw [show j + 2 + 6 * (done.length + [x].length) = j + 2 + 6 * done.length + 3 + 3 by simp only [List.length_cons, List.length_nil]; omega]
        rfl
    · obtain ⟨its, hl, ok, rfl, y5, rfl⟩ := hJ
      rw [List.length_range] at hl
      refine ⟨_, rfl, ?_⟩
      have := hk its hl ok
      rw [← hl] at this
      show k _ (j + 2 + 6 * (List.range n).length)
      rw [List.length_range, ← hl]
      exact this
/-! ### drawn rules -/
abbrev S__law_rules : SpN := sn1 fun j a k => ∃ n : Nat, a = .int n ∧ 1 ≤ n ∧ n ≤ 8 ∧ j + 40 < 900000 ∧ ∀ (rls : List (Nat × Nat)) (j' : Nat), j' ≤ j + 34 → rls.length ≤ 16 → (∀ q ∈ rls, q.1 < n ∧ q.2 < n ∧ q.1 ≠ q.2) → k (.d (.tuple (rls.map rlD))) j'
abbrev s__law_rules : Stmt := topS 40
abbrev N__law_rules : List Str := ["_law_drawn", "_law_count", "_law_found", "_law_way", "_law_k", "_law_one", "_law_other"]
abbrev P__law_rules : List Str := ["_law_drawn", "_law_count"]
theorem sc__law_rules : FnScope N__law_rules P__law_rules (defScope s__law_rules) := ⟨rfl, rfl, rfl, by decide +kernel, rfl, by decide +kernel, by decide +kernel⟩
set_option maxHeartbeats 8000000 in
theorem okD__law_rules (d : IsDef K mg "_law_rules" s__law_rules P__law_rules) (h__law_next : Ok P w K mg base 1 "_law_next" s__law_next P__law_next (prN S__law_next)) (m_tuple : mg "tuple" = none) (m_int : mg "int" = none) (m_range : mg "range" = none) (m_max : mg "max" = none) (m_min : mg "min" = none) : Ok P w K mg base 2 "_law_rules" s__law_rules P__law_rules (prN S__law_rules) := by
  obtain ⟨f0_, fd0_, D⟩ := d
  obtain ⟨f__law_next, fd__law_next, ⟨F__law_next, b__law_next, g__law_next⟩, G__law_next⟩ := h__law_next
  refine ⟨f0_, fd0_, D, D.F.ok sc__law_rules (fun vs H Q E h => ?_) (fun cdv A outer s H vs Q E hr h => ?_)⟩
  · obtain ⟨G, a, c, r, j, ws, ds, k, rfl, _, _, _, _, _, rs, hS, _⟩ := h
    rw [List.length_cons, rs.length]
    exact congrArg (· + 1) (sn1_len hS)
  · obtain ⟨G, a, c, r, j, ws, ds, k, rfl, dr, ga, gc, gr, sub, rs, hS, KK⟩ := h
    refine ⟨_, (pss_cons (ps_set (i := 2) sc__law_rules.nd rfl (.inl rfl) (pe_lst pa_nil))
      (pss_cons (ps_set (i := 3) sc__law_rules.nd rfl (.inl rfl) (pe_call G__law_next (hr.mono (by omega)) (by rfl) g__law_next F__law_next.kp b__law_next .nil pass0 (pa_cons (pv 0) (pa_cons pe_int pa_nil))))
      (pss_cons (ps_for PassesOwn.never rfl (pi_range1 (by rfl) m_range (pa_cons (pe_op (show OpR _ _ (rMulA K) from op_mulA) (pe_ix (show IxR _ (rIx K) from ix_seq) (pe_lst (pa_cons pe_int (pa_cons pe_int (pa_cons pe_int (pa_cons pe_int (pa_cons pe_int (pa_cons pe_int pa_nil))))))) (pe_call G__law_next (hr.mono (by omega)) (by rfl) g__law_next F__law_next.kp b__law_next .nil pass0 (pa_cons (pv 0) (pa_cons pe_int pa_nil))) (fun _ _ => rfl)) (pe_callTy call_int1 (by rfl) m_int (by decide +kernel) (pa_cons (pe_cmpR op_gt (pv 1) pe_int (nomark _)) pa_nil))) pa_nil)) (pg_name (i := 4) sc__law_rules.nd rfl (.inl rfl)) (pss_cons (ps_set (i := 5) sc__law_rules.nd rfl (.inl rfl) (pe_call G__law_next (hr.mono (by omega)) (by rfl) g__law_next F__law_next.kp b__law_next .nil pass0 (pa_cons (pv 0) (pa_cons (pv 1) pa_nil))))
      (pss_cons (ps_set (i := 6) sc__law_rules.nd rfl (.inl rfl) (pe_op op_mod (pe_op (show OpR _ _ (rAddA K) from op_addA) (pe_op (show OpR _ _ (rAddA K) from op_addA) (pv 5) pe_int) (pe_call G__law_next (hr.mono (by omega)) (by rfl) g__law_next F__law_next.kp b__law_next .nil pass0 (pa_cons (pv 0) (pa_cons (pe_op op_sub (pv 1) pe_int) pa_nil)))) (pv 1)))
      (pss_one (ps_expr (pe_bm PySem.F.plainAttrs_list PySem.F.slot_list_append PySem.F.type_list_append mt_append (pv 2) (pa_cons (pe_ifExp (pt_cmpR (show OpR _ _ (rEqA K) from op_eqA hr.units) (pv 3) pe_int (nomark _)) (pe_tup (pa_cons (pv 5) (pa_cons (pv 6) pa_nil))) (pe_tup (pa_cons (pe_callB (call_min2 rfl) (by rfl) m_min (by decide +kernel) (pa_cons (pv 5) (pa_cons (pv 6) pa_nil))) (pa_cons (pe_callB (call_max2 rfl) (by rfl) m_max (by decide +kernel) (pa_cons (pv 5) (pa_cons (pv 6) pa_nil))) pa_nil)))) pa_nil)))))))
      (pss_one (ps_ret (pe_callTy (show CallR _ _ (rTupK K) from call_tupK) (by rfl) m_tuple (by decide +kernel) (pa_cons (pv 2) pa_nil))))))), runN (N := N__law_rules) (ss_seq (ss_own 2 (sl_lst sa_nil))
      (ss_seq (ss_asg (se_callN (sa_cons (se_var 0) (sa_cons (se_int _) sa_nil))) (sg_name 3))
      (ss_seq (ss_for (si_rng1 (sa_cons (se_op (os_mulA _) (se_op (os_ix _) (SL.se (sl_lst (sa_cons (se_int _) (sa_cons (se_int _) (sa_cons (se_int _) (sa_cons (se_int _) (sa_cons (se_int _) (sa_cons (se_int _) sa_nil)))))))) (se_callN (sa_cons (se_var 0) (sa_cons (se_int _) sa_nil)))) (se_cb cs_int1 (sa_cons (se_op os_gt (se_var 1) (se_int _)) sa_nil))) sa_nil)) (sg_name 4) (ss_seq (ss_asg (se_callN (sa_cons (se_var 0) (sa_cons (se_var 1) sa_nil))) (sg_name 5))
      (ss_seq (ss_asg (se_op os_mod (se_op (os_addA _) (se_op (os_addA _) (se_var 5) (se_int _)) (se_callN (sa_cons (se_var 0) (sa_cons (se_op os_sub (se_var 1) (se_int _)) sa_nil)))) (se_var 1)) (sg_name 6))
      (ss_app _ 2 (se_if (st_test (se_op (os_eq _) (se_var 3) (se_int _))) (se_tup (sa_cons (se_var 5) (sa_cons (se_var 6) sa_nil))) (se_tup (sa_cons (se_cb cs_min2 (sa_cons (se_var 5) (sa_cons (se_var 6) sa_nil))) (sa_cons (se_cb cs_max2 (sa_cons (se_var 5) (sa_cons (se_var 6) sa_nil))) sa_nil))))))))
      (ss_ret (se_cb (cs_tup _) (sa_cons (se_var 2) sa_nil)))))) dr ga gc gr sub rs KK ?_⟩
    clear KK rs sub ga gc gr dr hr
    replace hS := sn1_inv hS
    obtain ⟨x1, rfl, hS⟩ := hS
    obtain ⟨n, rfl, n1, n8, hj, hk⟩ := hS
    refine ⟨by show 0 ≤ 1000000; decide, _, rfl, by omega, by decide, lg (b := 2) (by decide), fun way w0 w1 => ?_⟩
    refine ⟨by show 6 ≤ 1000000; decide, _, rfl, by omega, by decide, lg (b := 3) (by decide), fun t t0 t1 => ?_⟩
    obtain ⟨g, hg, g0, g1⟩ : ∃ g : Int, atI [PyData.int 0, .int 1, .int 2, .int 4, .int 7, .int 16] t = some (.int g) ∧ 0 ≤ g ∧ g ≤ 16 := by
      have e : t = 0 ∨ t = 1 ∨ t = 2 ∨ t = 3 ∨ t = 4 ∨ t = 5 := by omega
      rcases e with rfl | rfl | rfl | rfl | rfl | rfl
      · exact ⟨0, rfl, by decide, by decide⟩
      · exact ⟨1, rfl, by decide, by decide⟩
      · exact ⟨2, rfl, by decide, by decide⟩
      · exact ⟨4, rfl, by decide, by decide⟩
      · exact ⟨7, rfl, by decide, by decide⟩
      · exact ⟨16, rfl, by decide, by decide⟩
    refine ⟨_, _, rfl, hg, mw (a := 5) (b := 1) (by omega) (by split <;> decide), ?_⟩
    obtain ⟨c, hc, c16, c2⟩ : ∃ c : Nat, g * (if decide ((1 : Int) < (n : Nat)) = true then (1 : Int) else 0) = (c : Int) ∧ c ≤ 16 ∧ (0 < c → 2 ≤ n) := by
      by_cases z : (1 : Int) < (n : Nat)
      · rw [if_pos (decide_eq_true z)]
        exact ⟨g.toNat, by omega, by omega, fun _ => by omega⟩
      · rw [if_neg (by rw [decide_eq_false z]; exact Bool.false_ne_true)]
        exact ⟨0, by omega, by decide, fun h => absurd h (by decide)⟩
    show (_ ∧ _) ∧ _
    rw [hc]
    refine ⟨⟨by omega, by omega⟩, ?_⟩
    refine forL (fun i : Nat => .int (0 + (i : Nat))) (List.range c) (fun done e m => ∃ rls : List (Nat × Nat), rls.length = done.length ∧ (∀ q ∈ rls, q.1 < n ∧ q.2 < n ∧ q.1 ≠ q.2) ∧ m = [.drw (j + 2 + 2 * done.length), .lst (rls.map rlD)] ∧ ∃ y4 y5 y6, e = [some (.p 0), some (.d (.int n)), some (.p 1), some (.d (.int way)), y4, y5, y6]) ⟨[], rfl, (fun q hq => nomatch hq), rfl, none, none, none, rfl⟩ (fun done x r e m hx hJ C hC => ?_) (fun e m hJ => ?_)
    · obtain ⟨rls, hl, ok, rfl, y4, y5, y6, rfl⟩ := hJ
      have hlen : done.length < c := by
        have := congrArg List.length hx
        rw [List.length_range, List.length_append, List.length_cons] at this
        omega
      have n2 : 2 ≤ n := c2 (by omega)
      refine ⟨_, rfl, by omega, by omega, lg (b := 10) (by omega), fun v v0 v1 => ?_⟩
      refine ⟨_, rfl, by omega, by omega, lg (b := 10) (by omega), fun u u0 u1 => ?_⟩
      refine ⟨by omega, ?_⟩
      obtain ⟨a, rfl⟩ := Int.eq_ofNat_of_zero_le v0
      have hb0 := Int.emod_nonneg ((a : Int) + 1 + u) (show ((n : Nat) : Int) ≠ 0 by omega)
      have hb1 := Int.emod_lt_of_pos ((a : Int) + 1 + u) (show (0 : Int) < ((n : Nat) : Int) by omega)
      obtain ⟨b, hb⟩ := Int.eq_ofNat_of_zero_le hb0
      have hab : a ≠ b := by
        have := Int.emod_add_mul_ediv ((a : Int) + 1 + u) ((n : Nat) : Int)
        intro z
        subst z
        rw [hb] at this
        have hq : ((n : Nat) : Int) * (((a : Int) + 1 + u) / ((n : Nat) : Int)) = 1 + u := by omega
        have q1 : 0 < ((a : Int) + 1 + u) / ((n : Nat) : Int) := by
          by_cases h : 0 < ((a : Int) + 1 + u) / ((n : Nat) : Int)
          · exact h
          · replace h : ((a : Int) + 1 + u) / ((n : Nat) : Int) ≤ 0 := by omega
            have := Int.mul_nonpos_of_nonneg_of_nonpos (show (0 : Int) ≤ ((n : Nat) : Int) by omega) h
            omega
        have := Int.mul_le_mul_of_nonneg_left (show (1 : Int) ≤ ((a : Int) + 1 + u) / ((n : Nat) : Int) by omega) (show (0 : Int) ≤ ((n : Nat) : Int) by omega)
        omega
      rw [hb] at hb1
      dsimp only
      rw [hb]
      have fin : ∀ q : Nat × Nat, q.1 < n → q.2 < n → q.1 ≠ q.2 → C [some (.p 0), some (.d (.int n)), some (.p 1), some (.d (.int way)), some (.d (.int (0 + (x : Nat)))), some (.d (.int a)), some (.d (.int b))] [.drw (j + 2 + 2 * done.length + 1 + 1), .lst (rls.map rlD ++ [rlD q])] := fun q q1 q2 q3 => by
        refine hC _ _ ⟨rls ++ [q], ?_, ?_, ?_, _, _, _, rfl⟩
        · rw [List.length_append, List.length_append, hl]
          rfl
        · intro q' hq
          rcases List.mem_append.mp hq with hq | hq
          · exact ok q' hq
          · rw [List.mem_singleton.mp hq]
            exact ⟨q1, q2, q3⟩
        · rw [List.map_append, List.length_append]
          rw [show j + 2 + 2 * (done.length + [x].length) = j + 2 + 2 * done.length + 1 + 1 by simp only [List.length_cons, List.length_nil]; omega]
          rfl
      have lt : (rls.map rlD).length < 1000000 := by rw [List.length_map]; omega
      have e1 : ((if (b : Int) < (a : Int) then (b : Int) else (a : Int)) : Int) = ((min a b : Nat) : Int) := by
        split <;> omega
      have e2 : ((if (b : Int) > (a : Int) then (b : Int) else (a : Int)) : Int) = ((max a b : Nat) : Int) := by
        split <;> omega
      refine ⟨⟨_, rfl⟩, trivial, fun z => ⟨by show 2 ≤ 1000000; decide, _, rfl, lt, ?_⟩, fun z => ⟨by show 2 ≤ 1000000; decide, _, rfl, lt, ?_⟩⟩
      · exact fin (a, b) (by omega) (by omega) hab
      · have := fin (min a b, max a b) (by show min a b < n; omega) (by show max a b < n; omega) (by show min a b ≠ max a b; omega)
        dsimp only
        rw [e1, e2]
        exact this
    · obtain ⟨rls, hl, ok, rfl, y4, y5, y6, rfl⟩ := hJ
      rw [List.length_range] at hl
      refine ⟨_, rfl, ?_⟩
      exact hk rls _ (by rw [List.length_range]; omega) (by omega) ok
/-! ### a drawn panel -/
abbrev S__law_panel : SpN := sn1 fun j a k => ∃ n : Nat, a = .int n ∧ 1 ≤ n ∧ n ≤ 8 ∧ j + 800 < 900000 ∧ ∀ (its : List (Int × Int)) (rls : List (Nat × Nat)) (j' : Nat), j' ≤ j + 100 → PanOk n its rls → k (.d (pnD its rls)) j'
abbrev s__law_panel : Stmt := topS 41
abbrev N__law_panel : List Str := ["_law_drawn", "_law_most", "_law_count"]
abbrev P__law_panel : List Str := ["_law_drawn", "_law_most"]
theorem sc__law_panel : FnScope N__law_panel P__law_panel (defScope s__law_panel) := ⟨rfl, rfl, rfl, by decide +kernel, rfl, by decide +kernel, by decide +kernel⟩
set_option maxHeartbeats 8000000 in
theorem okD__law_panel (d : IsDef K mg "_law_panel" s__law_panel P__law_panel) (h__law_next : Ok P w K mg base 1 "_law_next" s__law_next P__law_next (prN S__law_next)) (h__law_items : Ok P w K mg base 3 "_law_items" s__law_items P__law_items (prN S__law_items)) (h__law_rules : Ok P w K mg base 2 "_law_rules" s__law_rules P__law_rules (prN S__law_rules)) : Ok P w K mg base 4 "_law_panel" s__law_panel P__law_panel (prN S__law_panel) := by
  obtain ⟨f0_, fd0_, D⟩ := d
  obtain ⟨f__law_next, fd__law_next, ⟨F__law_next, b__law_next, g__law_next⟩, G__law_next⟩ := h__law_next
  obtain ⟨f__law_items, fd__law_items, ⟨F__law_items, b__law_items, g__law_items⟩, G__law_items⟩ := h__law_items
  obtain ⟨f__law_rules, fd__law_rules, ⟨F__law_rules, b__law_rules, g__law_rules⟩, G__law_rules⟩ := h__law_rules
  refine ⟨f0_, fd0_, D, D.F.ok sc__law_panel (fun vs H Q E h => ?_) (fun cdv A outer s H vs Q E hr h => ?_)⟩
  · obtain ⟨G, a, c, r, j, ws, ds, k, rfl, _, _, _, _, _, rs, hS, _⟩ := h
    rw [List.length_cons, rs.length]
    exact congrArg (· + 1) (sn1_len hS)
  · obtain ⟨G, a, c, r, j, ws, ds, k, rfl, dr, ga, gc, gr, sub, rs, hS, KK⟩ := h
    refine ⟨_, (pss_cons (ps_set (i := 2) sc__law_panel.nd rfl (.inl rfl) (pe_op (show OpR _ _ (rAddA K) from op_addA) pe_int (pe_call G__law_next (hr.mono (by omega)) (by rfl) g__law_next F__law_next.kp b__law_next .nil pass0 (pa_cons (pv 0) (pa_cons (pv 1) pa_nil)))))
      (pss_one (ps_ret (pe_tup (pa_cons (pe_call G__law_items (hr.mono (by omega)) (by rfl) g__law_items F__law_items.kp b__law_items .nil pass0 (pa_cons (pv 0) (pa_cons (pv 2) pa_nil))) (pa_cons (pe_call G__law_rules (hr.mono (by omega)) (by rfl) g__law_rules F__law_rules.kp b__law_rules .nil pass0 (pa_cons (pv 0) (pa_cons (pv 2) pa_nil))) pa_nil)))))), runN (N := N__law_panel) (ss_seq (ss_asg (se_op (os_addA _) (se_int _) (se_callN (sa_cons (se_var 0) (sa_cons (se_var 1) sa_nil)))) (sg_name 2))
      (ss_ret (se_tup (sa_cons (se_callN (sa_cons (se_var 0) (sa_cons (se_var 2) sa_nil))) (sa_cons (se_callN (sa_cons (se_var 0) (sa_cons (se_var 2) sa_nil))) sa_nil))))) dr ga gc gr sub rs KK ?_⟩
    clear KK rs sub ga gc gr dr hr
    replace hS := sn1_inv hS
    obtain ⟨x1, rfl, hS⟩ := hS
    obtain ⟨n, rfl, n1, n8, hj, hk⟩ := hS
    refine ⟨_, rfl, by omega, by omega, lg (b := 10) (by omega), fun v v0 v1 => ?_⟩
    obtain ⟨c, rfl⟩ := Int.eq_ofNat_of_zero_le v0
    refine ⟨1 + c, congrArg PyData.int (show (1 : Int) + (c : Int) = ((1 + c : Nat) : Int) by omega), by omega, by omega, fun its hl ok => ?_⟩
    refine ⟨1 + c, congrArg PyData.int (show (1 : Int) + (c : Int) = ((1 + c : Nat) : Int) by omega), by omega, by omega, by omega, fun rls j' hj' r16 rl => ?_⟩
    exact ⟨by show 2 ≤ 1000000; decide, hk its rls j' (by omega) ⟨by omega, by omega, fun q hq => (ok q hq).1, fun q hq => (ok q hq).2, r16, by rw [hl]; exact rl⟩⟩
end
end PM

set_option maxHeartbeats 4000000
/-! text * int, sep.join(reversed(list)), a starred target -/
namespace PM
open PySem PySem.Spec PyProof.Rows L2
/-! ### text * int -/
def repS (a : Str) (n : Nat) : Str := ⟨(List.replicate n a.cps).foldl (· ++ ·) #[]⟩
theorem repS_fold (z : Array Nat) : ∀ (n : Nat) (acc : Array Nat), ((List.replicate n z).foldl (· ++ ·) acc).toList = acc.toList ++ (List.replicate n z.toList).flatten
  | 0, acc => by simp
  | n + 1, acc => by
    rw [List.replicate_succ, List.foldl_cons, repS_fold z n, List.replicate_succ, List.flatten_cons]
    simp
theorem tl_repS (a : Str) (n : Nat) : TL.tl (repS a n) = (List.replicate n (TL.tl a)).flatten := by
  show ((List.replicate n a.cps).foldl (· ++ ·) #[]).toList = _
  rw [repS_fold]
  simp [TL.tl]
def rMulStr : R2 := fun x y H Q => ∃ (a : Str) (n : Int), x = .str a ∧ y = .int n ∧ -(2 ^ 63) ≤ n ∧ n < 2 ^ 63 ∧ a.length * n.toNat ≤ 1000000 ∧ Q (.str (repS a n.toNat)) H
theorem op_mulStr {X : Cx} : OpR X (binaryOp .Mult) rMulStr := by
  intro pins s σ H x y v u Q I rx ry h
  obtain ⟨a, n, rfl, rfl, h1, h2, h3, q⟩ := h
  obtain ⟨t, rfl⟩ := rx
  obtain ⟨t', rfl⟩ := ry
  refine PySem.P.mul_str (by
      rw [decide_eq_false (show ¬ n < -(2 ^ 63) by omega), decide_eq_false (show ¬ n ≥ 2 ^ 63 by omega)]; rfl) (fun z _ w => ?_) (fun z _ => ?_) ?_
  · have hn : (n.toNat : Int) = n := Int.toNat_of_nonneg (by omega)
    have h4 : (a.length : Int) * n ≤ 1000000 := by rw [← hn, ← Int.natCast_mul]; omega
    have : (a.length : Int) ≤ (2 ^ 63 - 1) / n := (Int.le_ediv_iff_mul_le (by omega)).mpr (Int.le_trans h4 (by decide))
    omega
  · unfold Builtin.Str.tooLong
    simp only [decide_eq_false_iff_not]
    have : sizeLine ≥ 1000000 := by rw [sizeLine_eq]; decide
    omega
  · by_cases z : n < 1
    · rw [if_pos z]
      have e : n.toNat = 0 := by omega
      rw [e] at q
      exact ⟨by decide, .str Str.empty, H, I.tok _, ⟨_, rfl⟩, q⟩
    · rw [if_neg z]
      by_cases z2 : (n == 1 || a.length == 0) = true
      · rw [if_pos z2]
        have e : repS a n.toNat = a := by
          refine TL.ext_tl ?_
          rw [tl_repS]
          rcases Bool.or_eq_true_iff.mp z2 with z2 | z2
          · have : n.toNat = 1 := by have := eq_of_beq z2; omega
            rw [this]; simp
          · have : TL.tl a = [] := (TL.len0_tl a).mp (eq_of_beq z2)
            rw [this]; simp
        rw [e] at q
        exact ⟨.str a, H, I.tok _, ⟨_, rfl⟩, q⟩
      · rw [if_neg z2]
        refine ⟨?_, .str (repS a n.toNat), H, I.tok _, ⟨_, rfl⟩, q⟩
        show (repS a n.toNat).length ≤ sizeLine
        rw [TL.len_tl, tl_repS]
        have : (List.replicate n.toNat (TL.tl a)).flatten.length = n.toNat * a.length := by simp [TL.len_tl]
        rw [this, Nat.mul_comm]
        have : sizeLine ≥ 1000000 := by rw [sizeLine_eq]; decide
        omega
/-! ### sep.join(reversed(list)) -/
section
variable {prog : Program} {w : World} {A : Around} {E : Value → Shared → Prop} {s : Shared}
open PySem.Builtin PySem.Builtin.Str in
theorem joinRev_run {sep : Str} {tk : Tok} {zs : List Str} {it src : Addr} {its : Array Value} {R : Value → Shared → Prop} (calm : A.handled = none)
    (at0 : s.heap.IsRevIter it src ((its.size : Int) - 1)) (lst : s.heap.IsList src its) (ne : src ≠ it) (fits : its.size ≤ sizeLine)
    (txts : ∀ got : Array Value, ItemsOf (fun j y => its[its.size - 1 - j]? = some y) got its.size → StrsAre got.toList zs) (small : (zs.map (·.length)).sum + zs.length * sep.length ≤ 16777216)
    (fin : ∀ h' t' k, (∀ b o, b ≠ it → s.heap.get? b = some o → h'.get? b = some o) → R (.str (Txt.join sep zs) t') { s with heap := h', toks := k }) :
    wpAny (model prog w) A (call (.builtin "str.join") [.str sep tk, .ref it]) R E s := by
  have calm1 : A.in1.handled = none := calm
  have ty : s.TypeIs (.ref it) "list_reverseiterator" := at0.typeIs
  refine wpAny_call (codeAny_call_builtin F.slot_str_join.plain F.entry_str_join (F.slot_str_join.check _ _ _ _ _ _ _ _ (typeIs_str s sep tk) (F.args_str_join_2 (.str sep tk) (.ref it)) ?_))
  rw [join_tree_other sep tk it]
  refine wpAny_bind (wpAny_typeOf ty ?_)
  show wpAny _ A.in1 ((pyIter (.ref it)).tryCatch _ >>= fun w1 => collect w1 >>= fun got => joinTail sep got) _ _ s
  refine wpAny_bind (wpAny_tryCatch (wpAny_pyIter_revIter at0 ?_))
  refine wpAny_bind (RT.collect_rev calm1 at0 lst ne fits fun h' k got old items => ?_)
  obtain ⟨parts, eqv, two⟩ := strsAre_values (txts got items)
  subst two
  rw [eqv]
  have ok := joinOk_of small
  unfold JoinOk at ok
  rw [Bool.not_eq_true'] at ok
  have all : Gives (joinTail sep (strValues parts)) (joinMade sep parts) := by
    have one := gives_joinTail sep parts ok
    cases parts with
    | nil => exact one
    | cons u more => cases more <;> exact one
  exact all prog w A (wants R E) _ (post_join parts ⟨joinFit_length ok, fun t' k' => fin h' t' k' old⟩)
end
section
variable {X : Cx}
theorem strs_rev {xs : List Str} {its : List Value} {got : Array Value} (r : Vals (xs.map V.str) its) (h : ItemsOf (fun i v => its.toArray[its.toArray.size - 1 - i]? = some v) got its.toArray.size) : StrsAre got.toList xs.reverse := by
  have z := RT.vals_rev r h
  rw [← List.map_reverse] at z
  exact strs_of_vals z
def tJoinRev (K : PySem.W.Frag) (to te : TE) : TE := fun σ H Q => to σ H fun x H1 => (∃ a, x = .str a) ∧ te σ H1 fun y H2 => ∃ (a : Str) (q : Addr) (zs : List Str),
  x = .str a ∧ y = .ref q ∧ SqL K H2 q (zs.map V.str) ∧ (zs.map (·.length)).sum + zs.length * a.length ≤ 16777216 ∧ Q (.str (Txt.join a zs.reverse)) H2
theorem pe_joinRev {o e : Expr} {to te : TE} {apos pos p pos2 : Pos} (hc : X.calm = true) (ho : PE X o to) (hg : Gl X "reversed") (hm : X.mg "reversed" = none) (he : PE X e te)
    (hs1 : starEach [.Call (.Name "reversed" p) [e] [] pos2] X.env = [(false, eval (.Call (.Name "reversed" p) [e] [] pos2) X.env)] := by rfl)
    (hs : starEach [e] X.env = (false, eval e X.env) :: starEach [] X.env := by rfl)
    (hbase : attributeBase o "join" X.env (eval o X.env) = eval o X.env := by rfl) (hline : (apos.endLine == pos.line) = true := by rfl) :
    PE X (.Call (.Attribute o "join" apos) [.Call (.Name "reversed" p) [e] [] pos2] [] pos) (tJoinRev X.K to te) := by
  refine ⟨fun pins s σ H Q I h => ?_⟩
  refine PySem.Call_method1 hbase hs1 hline (thn (ho.run pins s σ H _ I h) fun v s1 ⟨x, H1, I1, r1, q1⟩ => ?_)
  obtain ⟨⟨a, rfl⟩, q1⟩ := q1
  obtain ⟨t, rfl⟩ := _root_.id r1
  refine ⟨"str", _, F.plainAttrs_str, F.slot_str_join, F.type_str_join, typeIs_str _ _ _, (fun _ e => nomatch e), Calls.callWith_builtin rfl (Calls.evalArgs_plain (Calls.spliced_cons ?_))⟩
  refine Call_ (ld_blt I1 hg hm PyProof.Rows.boot_reversed (PyProof.Rows.callWith_type1 (args_cons (thn (he.run pins s1 σ H1 _ I1 q1) fun u s2 ⟨y, H2, I2, r2, q2⟩ => args_nil ?_) hs) hs rfl))
  obtain ⟨a', q, zs, ea, ey, hq, hz, q2⟩ := q2
  cases ea
  subst ey
  obtain rfl : u = Value.ref q := r2
  obtain ⟨its, rv, pl, hsz⟩ := I2.list hq
  have isl := pl.isList
  obtain ⟨ol, hol, _⟩ := _root_.id isl
  have hlen : its.length = zs.length := by rw [← rv.length, List.length_map]
  refine call_reversed_list isl (Calls.spliced_nil ?_)
  have k0 : ∀ b o, s2.heap.get? b = some o → (s2.heap.push (revObj q ((its.toArray.size : Int) - 1))).get? b = some o := fun b o e => Heap.get?_push_of_some _ e
  have I3 : Inv X pins σ H2 { s2 with heap := s2.heap.push (revObj q ((its.toArray.size : Int) - 1)) } := I2.kept (t' := s2.toks) k0
  obtain ⟨f0, f1, f2, f3, f4, f5⟩ := I2.fpOk (H' := H2) (b := s2.heap.objs.size) (Nat.le_refl _) (I2.hok.fresh (Nat.le_refl _))
  refine joinRev_run (s := { s2 with heap := s2.heap.push (revObj q ((its.toArray.size : Int) - 1)) }) (I2.ok.hd hc) ⟨_, Heap.get?_push_size _ rfl, rfl, rfl⟩ (isl.push _) (Nat.ne_of_lt (Heap.lt_size hol)) (by simp only [List.size_toArray]; rw [List.length_map] at hsz; omega) (fun got hgot => strs_rev rv hgot) (by
    rw [List.map_reverse, List.sum_reverse, List.length_reverse]; exact hz) fun h' t' k hk => ?_
  exact ⟨.str _, H2, I3.turned (t' := k) (fun b o hb e => hk b o hb e) f0 f1 f3 f4 f5, ⟨t', rfl⟩, q2⟩
end
end PM

set_option maxHeartbeats 4000000
/-! a starred target: (a, .., *b, .., c) = a list or a tuple -/
namespace PM
open PySem PySem.Spec PyProof.Rows L2
def midV {α : Type} (xs : List α) (n i : Nat) : List α := (xs.drop i).take (xs.length + 1 - n)
def restV {α : Type} (xs : List α) (n i : Nat) : List α := (xs.drop i).drop (xs.length + 1 - n)
section
variable {prog : Program} {w : World} {A : Around} {E : Value → Shared → Prop} {s : Shared}
/-- what becomes of the heap: all that stood stands; the new list is the last object -/
def StarEnd (s : Shared) (its : Array Value) (n i : Nat) (R : List Value → Shared → Prop) : Prop :=
  ∀ (h' : Heap) (tk : Nat), (∀ b o, s.heap.get? b = some o → h'.get? b = some o) → R (its.toList.take i ++ [.ref h'.objs.size] ++ restV its.toList n i) { s with heap := h'.push { cls := .type "list", data := .seq (midV its.toList n i).toArray }, toks := tk }
theorem star_mid {it src : Addr} {T : String} {its : Array Value} {n i : Nat} {st : Nat → Heap → Prop} {R : List Value → Shared → Prop} {h1 : Heap} (lt : it = s.heap.objs.size)
    (kind : T = "str_ascii_iterator" ∨ T = "str_iterator" ∨ T = "list_iterator" ∨ T = "tuple_iterator") (wk : Walks prog w A.in1 it [it, src] [it] its.size (fun j y => its[j]? = some y) st)
    (ty : ∀ j (u : Shared), st j u.heap → u.TypeIs (.ref it) T) (hi : i < n) (hn : n ≤ its.size + 1) (at1 : st i h1) (l1 : it < h1.objs.size) (l2 : src < h1.objs.size) (fits : its.size ≤ sizeLine)
    (old : ∀ b o, s.heap.get? b = some o → h1.get? b = some o) (fin : StarEnd s its n i R) {rest : List Value → Sem (List Value)}
    (re : ∀ more, more.length = its.size - i → rest more = (newList (more.take (more.length - (n - 1 - i))) >>= fun d => pure (its.toList.take i ++ [d] ++ more.drop (more.length - (n - 1 - i))))) :
    wpAny (model prog w) A (holding (its.toList.take i) (collect (.ref it))) (fun more s' => wpAny (model prog w) A (rest more) R E s') E { s with heap := h1 } := by
  refine wpAny_holding (PySem.W.kun_collect (s := { s with heap := h1 }) kind wk ty (k := i) (by omega) at1 l1 l2 (fun h2 tk keep => ?_) fits)
  have len : (its.toList.drop i).length = its.size - i := by rw [List.length_drop, Array.length_toList]
  have cut : (its.toList.drop i).length - (n - 1 - i) = its.toList.length + 1 - n := by rw [len, Array.length_toList]; omega
  rw [re _ len, cut]
  refine wpAny_bind (PySem.wpAny_newList (s := { s with heap := h2, toks := tk }) ?_ ?_)
  · refine wpAny_pure (fin h2 tk fun b o e => keep b o ?_ (old b o e))
    rw [lt]
    exact Nat.ne_of_lt (Heap.lt_size e)
  · rw [List.length_take, len, Array.length_toList]; omega
theorem starL_run {l : Addr} {its : Array Value} {n i : Nat} {R : List Value → Shared → Prop} (lst : s.heap.IsList l its) (calm : A.handled = none) (hi : i < n) (hn : n ≤ its.size + 1) (fits : its.size ≤ sizeLine) (fin : StarEnd s its n i R) :
    wpAny (model prog w) A (unpackItems (.ref l) n (some i)) R E s := by
  have below : l < s.heap.objs.size := by obtain ⟨ob, e, _⟩ := lst; exact Heap.lt_size e
  have ne := Nat.ne_of_lt below
  unfold unpackItems notIterableAtAll
  refine wpAny_bind (wpAny_bind (wpAny_specialOf lst.typeIs PySem.F.slot_list_iter.lookup (wpAny_pure ?_)))
  simp only [Bool.false_eq_true, ↓reduceIte]
  refine wpAny_bind (wpAny_holding (wpAny_pyIter_list lst (wpAny_bind (wpAny_holding (PySem.W.kun_draw ne i 0 _ _ ⟨_, Heap.get?_push_size _ rfl, rfl, rfl⟩ (lst.push _) (by omega) fun h1 at1 same => ?_)))))
  have lst1 : h1.IsList l its := (lst.push _).extBut same.extBut ne
  rw [Nat.zero_add] at at1
  have l2 : l < h1.objs.size := by obtain ⟨ob, e, _⟩ := _root_.id lst1; exact Heap.lt_size e
  have l1 : s.heap.objs.size < h1.objs.size := by obtain ⟨ob, e, _⟩ := _root_.id at1; exact Heap.lt_size e
  have few : ¬ ((its.toList.take i).length < i) := by rw [List.length_take, Array.length_toList]; omega
  rw [List.drop_zero, if_neg few]
  refine wpAny_bind (star_mid (src := l) (T := "list_iterator") rfl (.inr (.inr (.inl rfl))) (Walks.list (A := A.in1) calm s.heap.objs.size l ne its) (fun j u z => z.1.typeIs) hi hn ⟨at1, lst1⟩ l1 l2 fits
    (fun b o e => same.extBut b o (Nat.ne_of_lt (Heap.lt_size e)) (Heap.get?_push_of_some _ e)) fin fun more z => ?_)
  rw [if_neg (by omega)]
theorem starT_run {l : Addr} {its : Array Value} {n i : Nat} {R : List Value → Shared → Prop} (tup : IsTup s.heap l its) (calm : A.handled = none) (hi : i < n) (hn : n ≤ its.size + 1) (fits : its.size ≤ sizeLine) (fin : StarEnd s its n i R) :
    wpAny (model prog w) A (unpackItems (.ref l) n (some i)) R E s := by
  have below : l < s.heap.objs.size := by obtain ⟨ob, e, _⟩ := tup; exact Heap.lt_size e
  have ne := Nat.ne_of_lt below
  have ty : s.TypeIs (.ref l) "tuple" := let ⟨ob, e, c, _⟩ := tup; ⟨ob, e, c⟩
  unfold unpackItems notIterableAtAll
  refine wpAny_bind (wpAny_bind (wpAny_specialOf ty PySem.F.slot_tuple_iter.lookup (wpAny_pure ?_)))
  simp only [Bool.false_eq_true, ↓reduceIte]
  refine wpAny_bind (wpAny_holding (iter_tuple tup (wpAny_bind (wpAny_holding (draw_tuple ne i 0 _ _ ⟨_, Heap.get?_push_size _ rfl, rfl, rfl⟩ (tup.push _) (by omega) fun h1 at1 same => ?_)))))
  have tup1 : IsTup h1 l its := (tup.push _).extBut same.extBut ne
  rw [Nat.zero_add] at at1
  have l2 : l < h1.objs.size := by obtain ⟨ob, e, _⟩ := _root_.id tup1; exact Heap.lt_size e
  have l1 : s.heap.objs.size < h1.objs.size := by obtain ⟨ob, e, _⟩ := _root_.id at1; exact Heap.lt_size e
  have few : ¬ ((its.toList.take i).length < i) := by rw [List.length_take, Array.length_toList]; omega
  rw [List.drop_zero, if_neg few]
  refine wpAny_bind (star_mid (src := l) (T := "tuple_iterator") rfl (.inr (.inr (.inr rfl))) (Walks.tuple (A := A.in1) calm s.heap.objs.size l ne its) (fun j u z => z.1.typeIs) hi hn ⟨at1, tup1⟩ l1 l2 fits
    (fun b o e => same.extBut b o (Nat.ne_of_lt (Heap.lt_size e)) (Heap.get?_push_of_some _ e)) fin fun more z => ?_)
  rw [if_neg (by omega)]
end
section
variable {X : Cx}
theorem valsDrop {xs : List V} {us : List Value} : ∀ (k : Nat), Vals xs us → Vals (xs.drop k) (us.drop k)
  | 0, h => h
  | k + 1, .nil => .nil
  | k + 1, .cons _ t => valsDrop k t
theorem valsTake {xs : List V} {us : List Value} : ∀ (k : Nat), Vals xs us → Vals (xs.take k) (us.take k)
  | 0, _ => .nil
  | k + 1, .nil => .nil
  | k + 1, .cons h t => .cons h (valsTake k t)
/-- the targets as a tuple with one star: n of them, the star at place i; its list is new -/
def gStar (K : PySem.W.Frag) (n i : Nat) (t : TGs) : TG := fun v σ H Q => ∃ a xs, v = .ref a ∧ (SqL K H a xs ∨ SqT K H a xs) ∧ n ≤ xs.length + 1 ∧
  ∀ p, H p = none → t (xs.take i ++ [.ref p] ++ restV xs n i) σ (upd H p (.lst (midV xs n i))) Q
theorem pg_star {es : List Expr} {k : Nat} {t : TGs} {n i : Nat} {pos : Pos} (hc : X.calm = true) (h : PGs X es t) (hi : i < n := by decide)
    (hn : (assignEach es X.env).length = n := by rfl) (hst : (assignEach es X.env).findIdx? (·.1) = some i := by rfl) : PG X (.Tuple es k pos) (gStar X.K n i t) := by
  refine ⟨fun pins s σ H v u Q I r hw => ?_⟩
  obtain ⟨a, xs, rfl, hq, hl, hw⟩ := hw
  cases r
  rw [PyProof.Rows.assign_Tuple]
  refine wpAny_bind (wpAny_standAt ?_)
  unfold unpack
  rw [hn, hst]
  have fin : ∀ {its : List Value}, Vals xs its → its.length ≤ sizeLine → StarEnd s its.toArray n i fun us s1 => wpAny (model X.prog X.w) X.A (assignInOrder ((assignEach es X.env).map (·.2)) us) (fun _ s' => ∃ σ' H', Inv X pins σ' H' s' ∧ Q σ' H') X.xe s1 := fun {its} rv hz h' tk old => by
    have e1 : midV its n i = (its.drop i).take (its.length + 1 - n) := rfl
    have len := rv.length
    have mid : Vals (midV xs n i) (midV its n i) := by unfold midV; rw [len]; exact valsTake _ (valsDrop _ rv)
    have res : Vals (restV xs n i) (restV its n i) := by unfold restV; rw [len]; exact valsDrop _ (valsDrop _ rv)
    have I1 : Inv X pins σ H { s with heap := h' } := I.kept (t' := s.toks) old
    have I2 : Inv X pins σ (upd H h'.objs.size (.lst (midV xs n i))) { s with heap := h'.push { cls := .type "list", data := .seq (midV its n i).toArray }, toks := tk } :=
      I1.laid (t' := tk) (fun b o e => Heap.get?_push_of_some _ e) (Nat.le_refl _) (show ObjOk X.prog X.w _ _ _ (.lst (midV xs n i)) from ⟨by
        rw [mid.length, e1, List.length_take, List.length_drop]; omega, midV its n i, 0, mid, Heap.get?_push_size _ rfl⟩)
    have app := Vals.append (Vals.append (valsTake i rv) (.cons (show RelV (.ref h'.objs.size) (.ref h'.objs.size) from rfl) .nil)) res
    exact h.run pins _ σ _ _ _ Q I2 app (hw _ (I1.hok.fresh (Nat.le_refl _)))
  rcases hq with hq | hq
  · obtain ⟨its, rv, pl, hz⟩ := I.list hq
    have len := rv.length
    refine wpAny_bind (wpAny_holding (starL_run pl.isList (I.ok.hd hc) hi (by simp only [List.size_toArray]; omega) (by simp only [List.size_toArray]; omega) (fin rv (by omega))))
  · obtain ⟨its, rv, pl, hz⟩ := I.tuple hq
    have len := rv.length
    refine wpAny_bind (wpAny_holding (starT_run pl (I.ok.hd hc) hi (by simp only [List.size_toArray]; omega) (by simp only [List.size_toArray]; omega) (fin rv (by omega))))
theorem pgs_star {e : Expr} {es : List Expr} {t : TG} {u : TGs} {p : Pos} (h1 : PG X e t) (h2 : PGs X es u)
    (hs : (assignEach (.Starred e p :: es) X.env).map (·.2) = assign e X.env :: (assignEach es X.env).map (·.2) := by rfl) : PGs X (.Starred e p :: es) (gCons t u) := by
  refine ⟨fun pins s σ H vs us Q I r ⟨v, more, ev, h⟩ => ?_⟩
  subst ev
  cases r with
  | cons r0 rr =>
    rw [hs]
    exact assignInOrder_cons (thn (h1.run pins s σ H _ _ _ I r0 h) fun _ s1 ⟨σ1, H1, I1, q1⟩ => h2.run pins s1 σ1 H1 _ _ Q I1 rr q1)
end
end PM

/-! texts as data -/
namespace PM
open PySem PySem.Spec PyProof.Rows L2 RZ
theorem RV.str_inv {G : Hp} {pl : Nat → Pl} {n : Nat} {v : V} {z : Str} (h : RV G pl n v (.d (.str z))) : v = .str z := by
  cases (show Da G v (.str z) from h)
  rfl
/-- + of texts -/
def rAddS : R2 := fun x y H Q => ∃ i j, x = .str i ∧ y = .str j ∧ i.length + j.length ≤ sizeLine ∧ Q (.str (i ++ j)) H
def fAddS (m : Mu) (x y : DV) (k : DV → Prop) : Prop := match x, y with
  | .d (.str a), .d (.str b) => a.length + b.length ≤ 1000000 ∧ k (.d (.str (a ++ b)))
  | _, _ => False
theorem os_addS : OpS rAddS fAddS := fun c G pl σ H e m x y dx dy k Q sr rx ry d KK => by
  unfold fAddS at d
  split at d
  · exact ⟨_, _, rx.str_inv, ry.str_inv, bigS d.1, KK.val sr d.2 (show Da G _ _ from .str _)⟩
  · exact d.elim
/-- text * int -/
def fMulS (m : Mu) (x y : DV) (k : DV → Prop) : Prop := match x, y with
  | .d (.str a), .d (.int n) => (-(2 ^ 63) ≤ n ∧ n < 2 ^ 63 ∧ a.length * n.toNat ≤ 1000000) ∧ k (.d (.str (repS a n.toNat)))
  | _, _ => False
theorem os_mulS : OpS rMulStr fMulS := fun c G pl σ H e m x y dx dy k Q sr rx ry d KK => by
  unfold fMulS at d
  split at d
  · exact ⟨_, _, rx.str_inv, ry.int_inv, d.1.1, d.1.2.1, d.1.2.2, KK.val sr d.2 (show Da G _ _ from .str _)⟩
  · exact d.elim
/-- str(int) -/
def strI (i : Int) : Str := Str.ofString (toString i)
def fStrI (m : Mu) (xs : List DV) (k : DV → Prop) : Prop := match xs with
  | [.d (.int i)] => i.natAbs.log2 < 1920 ∧ k (.d (.str (strI i)))
  | _ => False
theorem cs_strI : CaS (fun xs H Q => ∃ i : Int, xs = [.int i] ∧ i.natAbs.log2 < 1920 ∧ Q (.str (toString i)) H) fStrI := fun c G pl σ H e m xs ds k Q sr r d KK => by
  unfold fStrI at d
  split at d
  · cases r with
    | cons ra t =>
      cases t
      cases ra.int_inv
      exact ⟨_, rfl, d.1, KK.val sr d.2 (show Da G _ _ from .str _)⟩
  · exact d.elim
/-- len(text) -/
def fLenS (m : Mu) (xs : List DV) (k : DV → Prop) : Prop := match xs with
  | [.d (.str z)] => z.length ≤ 1000000 ∧ k (.d (.int (z.length : Nat)))
  | _ => False
theorem cs_lenS : CaS (fun xs H Q => ∃ z, xs = [.str z] ∧ z.length ≤ sizeLine ∧ Q (.int z.length) H) fLenS := fun c G pl σ H e m xs ds k Q sr r d KK => by
  unfold fLenS at d
  split at d
  · cases r with
    | cons ra t =>
      cases t
      cases ra.str_inv
      exact ⟨_, rfl, bigS d.1, KK.val sr d.2 (show Da G _ _ from .int _)⟩
  · exact d.elim
/-- int(text) -/
def fIntS (m : Mu) (xs : List DV) (k : DV → Prop) : Prop := match xs with
  | [.d (.str z)] => ∃ n, PySem.intText? z = some n ∧ z.length ≤ 640 ∧ k (.d (.int n))
  | _ => False
theorem cs_intS : CaS (fun xs H Q => ∃ a n, xs = [.str a] ∧ PySem.intText? a = some n ∧ a.length ≤ 640 ∧ Q (.int n) H) fIntS := fun c G pl σ H e m xs ds k Q sr r d KK => by
  unfold fIntS at d
  split at d
  · cases r with
    | cons ra t =>
      cases t
      cases ra.str_inv
      obtain ⟨n, h1, h2, d⟩ := d
      exact ⟨_, n, rfl, h1, h2, KK.val sr d (show Da G _ _ from .int _)⟩
  · exact d.elim
/-- methods without arguments -/
def dM0 (C : Str → Prop) (g : Str → PyData) (a : DE) : DE := fun e m k => a e m fun x m1 => match x with
  | .d (.str z) => C z ∧ k (.d (g z)) m1
  | _ => False
theorem se_m0 {gv : Str → V} {g : Str → PyData} {C : Str → Prop} (hg : ∀ G z, Da G (gv z) (g z)) {ta : TE} {da : DE} (h : SE ta da) : SE (tM0 (fun x xs H Q => ∃ a, x = .str a ∧ xs = [] ∧ C a ∧ Q (gv a) H) ta) (dM0 C g da) :=
  fun c G pl σ H e m k Q sr d KK => h _ _ _ _ _ _ _ _ _ sr d fun x m1 G1 pl1 H1 v1 d1 l1 sr1 r1 => by
    split at d1
    · cases r1.str_inv
      exact ⟨⟨_, rfl⟩, _, rfl, rfl, d1.1, (KK.le l1).val sr1 d1.2 (show RV _ _ _ _ (.d (g _)) from hg _ _)⟩
    · exact d1.elim
/-- methods with a text -/
def dM1 (C : Str → Str → Prop) (g : Str → Str → PyData) (a b : DE) : DE := fun e m k => a e m fun x m1 => match x with
  | .d (.str z) => b e m1 fun y m2 => match y with
    | .d (.str w) => C z w ∧ k (.d (g z w)) m2
    | _ => False
  | _ => False
theorem se_m1C {gv : Str → Str → V} {g : Str → Str → PyData} {Cv C : Str → Str → Prop} (hc : ∀ z w, C z w → Cv z w) (hg : ∀ G z w, Da G (gv z w) (g z w)) {ta tb : TE} {da db : DE} (h : SE ta da) (hb : SE tb db) : SE (tM1 (fun x xs H Q => ∃ a b, x = .str a ∧ xs = [.str b] ∧ Cv a b ∧ Q (gv a b) H) ta tb) (dM1 C g da db) :=
  fun c G pl σ H e m k Q sr d KK => h _ _ _ _ _ _ _ _ _ sr d fun x m1 G1 pl1 H1 v1 d1 l1 sr1 r1 => by
    split at d1
    · cases r1.str_inv
      refine ⟨⟨_, rfl⟩, hb _ _ _ _ _ _ _ _ _ sr1 d1 fun y m2 G2 pl2 H2 v2 d2 l2 sr2 r2 => ?_⟩
      split at d2
      · cases r2.str_inv
        exact ⟨_, _, rfl, rfl, hc _ _ d2.1, (KK.le (l1.trans l2)).val sr2 d2.2 (show RV _ _ _ _ (.d (g _ _)) from hg _ _ _)⟩
      · exact d2.elim
    · exact d1.elim
theorem se_m1 {gv : Str → Str → V} {g : Str → Str → PyData} (hg : ∀ G z w, Da G (gv z w) (g z w)) {ta tb : TE} {da db : DE} (h : SE ta da) (hb : SE tb db) : SE (tM1 (fun x xs H Q => ∃ a b, x = .str a ∧ xs = [.str b] ∧ Q (gv a b) H) ta tb) (dM1 (fun _ _ => True) g da db) :=
  fun c G pl σ H e m k Q sr d KK => h _ _ _ _ _ _ _ _ _ sr d fun x m1 G1 pl1 H1 v1 d1 l1 sr1 r1 => by
    split at d1
    · cases r1.str_inv
      refine ⟨⟨_, rfl⟩, hb _ _ _ _ _ _ _ _ _ sr1 d1 fun y m2 G2 pl2 H2 v2 d2 l2 sr2 r2 => ?_⟩
      split at d2
      · cases r2.str_inv
        exact ⟨_, _, rfl, rfl, (KK.le (l1.trans l2)).val sr2 d2.2 (show RV _ _ _ _ (.d (g _ _)) from hg _ _ _)⟩
      · exact d2.elim
    · exact d1.elim
abbrev dIsdigit := dM0 (fun _ => True) fun z => .bool (Txt.isdigit z)
abbrev dIsascii := dM0 (fun _ => True) fun z => .bool (Txt.isascii z)
abbrev dStarts := dM1 (fun _ _ => True) fun z w => .bool (Txt.startswith z w)
abbrev dRemPre := dM1 (fun z _ => z.length ≤ 1000000) fun z w => .str (Txt.removeprefix z w)
theorem se_isdigit {ta : TE} {da : DE} (h : SE ta da) : SE (tM0 (fun x xs H Q => ∃ a, x = .str a ∧ xs = [] ∧ True ∧ Q (.bl (Txt.isdigit a)) H) ta) (dIsdigit da) := se_m0 (C := fun _ => True) (fun _ _ => .bl _) h
theorem se_isascii {ta : TE} {da : DE} (h : SE ta da) : SE (tM0 (fun x xs H Q => ∃ a, x = .str a ∧ xs = [] ∧ True ∧ Q (.bl (Txt.isascii a)) H) ta) (dIsascii da) := se_m0 (C := fun _ => True) (fun _ _ => .bl _) h
theorem se_starts {ta tb : TE} {da db : DE} (h : SE ta da) (hb : SE tb db) : SE (tM1 (fun x xs H Q => ∃ a b, x = .str a ∧ xs = [.str b] ∧ Q (.bl (Txt.startswith a b)) H) ta tb) (dStarts da db) := se_m1 (fun _ _ _ => .bl _) h hb
theorem se_rempre {ta tb : TE} {da db : DE} (h : SE ta da) (hb : SE tb db) : SE (tM1 (fun x xs H Q => ∃ a b, x = .str a ∧ xs = [.str b] ∧ a.length ≤ sizeLine ∧ Q (.str (Txt.removeprefix a b)) H) ta tb) (dRemPre da db) := se_m1C (Cv := fun a _ => a.length ≤ sizeLine) (fun _ _ z => bigS z) (fun _ _ _ => .str _) h hb
/-- split: a new list of texts -/
def dSplit (a b : DE) : DL := fun e m k => a e m fun x m1 => match x with
  | .d (.str z) => b e m1 fun y m2 => match y with
    | .d (.str w) => (w.length ≠ 0 ∧ z.length ≤ 1000000) ∧ k ((Txt.split z w).map PyData.str) m2
    | _ => False
  | _ => False
theorem DaL.strs (G : Hp) : ∀ ys : List Str, DaL G (ys.map V.str) (ys.map PyData.str)
  | [] => .nil
  | _ :: ys => .cons (.str _) (DaL.strs G ys)
theorem DaL.strs_inv {G : Hp} : ∀ {ys : List Str} {xs : List V}, DaL G xs (ys.map PyData.str) → xs = ys.map V.str
  | [], _, .nil => rfl
  | y :: ys, _, .cons h t => by
    cases h
    rw [DaL.strs_inv t]
    rfl
theorem sl_split {ta tb : TE} {da db : DE} (h : SE ta da) (hb : SE tb db) : SL (tM1 (fun x xs H Q => ∃ a b, x = .str a ∧ xs = [.str b] ∧ (b.length == 0) = false ∧ a.length + 2 ≤ sizeLine ∧ rNewStrs (Txt.split a b) H Q) ta tb) (dSplit da db) :=
  fun c G pl σ H e m k Q sr d KK => h _ _ _ _ _ _ _ _ _ sr d fun x m1 G1 pl1 H1 v1 d1 l1 sr1 r1 => by
    split at d1
    · cases r1.str_inv
      refine ⟨⟨_, rfl⟩, hb _ _ _ _ _ _ _ _ _ sr1 d1 fun y m2 G2 pl2 H2 v2 d2 l2 sr2 r2 => ?_⟩
      split at d2
      · cases r2.str_inv
        exact ⟨_, _, rfl, rfl, beq_eq_false_iff_ne.mpr d2.1.1, by have := d2.1.2; rw [sizeLine_eq]; omega, fun p hp => (KK.le (l1.trans l2)).new sr2 hp d2.2 (DaL.strs _ _)⟩
      · exact d2.elim
    · exact d1.elim
/-- partition: a new tuple -/
def prtD (z w : Str) : PyData := .tuple [.str (Txt.partition z w).1, .str (Txt.partition z w).2.1, .str (Txt.partition z w).2.2]
def dPart (a b : DE) : DE := fun e m k => a e m fun x m1 => match x with
  | .d (.str z) => b e m1 fun y m2 => match y with
    | .d (.str w) => (w.length ≠ 0 ∧ z.length ≤ 1000000) ∧ k (.d (prtD z w)) m2
    | _ => False
  | _ => False
theorem se_part {ta tb : TE} {da db : DE} (h : SE ta da) (hb : SE tb db) : SE (tM1 (fun x xs H Q => ∃ a b, x = .str a ∧ xs = [.str b] ∧ (b.length == 0) = false ∧ a.length ≤ sizeLine ∧
    ∀ p, H p = none → Q (.ref p) (upd H p (.tup [.str (Txt.partition a b).1, .str (Txt.partition a b).2.1, .str (Txt.partition a b).2.2]))) ta tb) (dPart da db) :=
  fun c G pl σ H e m k Q sr d KK => h _ _ _ _ _ _ _ _ _ sr d fun x m1 G1 pl1 H1 v1 d1 l1 sr1 r1 => by
    split at d1
    · cases r1.str_inv
      refine ⟨⟨_, rfl⟩, hb _ _ _ _ _ _ _ _ _ sr1 d1 fun y m2 G2 pl2 H2 v2 d2 l2 sr2 r2 => ?_⟩
      split at d2
      · cases r2.str_inv
        exact ⟨_, _, rfl, rfl, beq_eq_false_iff_ne.mpr d2.1.1, bigS d2.1.2, fun p hp => (KK.le (l1.trans l2)).tup sr2 hp d2.2 (.cons (.str _) (.cons (.str _) (.cons (.str _) .nil)))⟩
      · exact d2.elim
    · exact d1.elim
abbrev rJoinK (K : PySem.W.Frag) : V → List V → Hp → VK → Prop := fun x xs H Q => ∃ a p, ∃ ys : List Str, x = .str a ∧ xs = [.ref p] ∧ (SqL K H p (ys.map V.str) ∨ SqT K H p (ys.map V.str)) ∧
    (ys.map (·.length)).sum + ys.length * a.length ≤ 16777216 ∧ Q (.str (Txt.join a ys)) H
/-- join of a list or a tuple of texts -/
def dJoin (a b : DE) : DE := fun e m k => a e m fun x m1 => match x with
  | .d (.str z) => b e m1 fun y m2 => ∃ ys : List Str, rdS m2 y = some (ys.map PyData.str) ∧ (ys.map (·.length)).sum + ys.length * z.length ≤ 1000000 ∧ k (.d (.str (Txt.join z ys))) m2
  | _ => False
theorem se_join (K : PySem.W.Frag) {ta tb : TE} {da db : DE} (h : SE ta da) (hb : SE tb db) : SE (tM1 (rJoinK K) ta tb) (dJoin da db) :=
  fun c G pl σ H e m k Q sr d KK => h _ _ _ _ _ _ _ _ _ sr d fun x m1 G1 pl1 H1 v1 d1 l1 sr1 r1 => by
    split at d1
    · cases r1.str_inv
      refine ⟨⟨_, rfl⟩, hb _ _ _ _ _ _ _ _ _ sr1 d1 fun y m2 G2 pl2 H2 v2 d2 l2 sr2 r2 => ?_⟩
      obtain ⟨ys, h1, h2, d2⟩ := d2
      obtain ⟨a, us, e1, e2, e3⟩ := sr2.seq K r2 h1
      cases e3.strs_inv
      exact ⟨_, a, ys, rfl, by rw [e1], e2, by omega, (KK.le (l1.trans l2)).val sr2 d2 (show Da G2 _ _ from .str _)⟩
    · exact d1.elim
def dJoinRev (a b : DE) : DE := fun e m k => a e m fun x m1 => match x with
  | .d (.str z) => b e m1 fun y m2 => ∃ ys : List Str, rdL m2 y = some (ys.map PyData.str) ∧ (ys.map (·.length)).sum + ys.length * z.length ≤ 1000000 ∧ k (.d (.str (Txt.join z ys.reverse))) m2
  | _ => False
theorem se_joinRev (K : PySem.W.Frag) {ta tb : TE} {da db : DE} (h : SE ta da) (hb : SE tb db) : SE (tJoinRev K ta tb) (dJoinRev da db) :=
  fun c G pl σ H e m k Q sr d KK => h _ _ _ _ _ _ _ _ _ sr d fun x m1 G1 pl1 H1 v1 d1 l1 sr1 r1 => by
    split at d1
    · cases r1.str_inv
      refine ⟨⟨_, rfl⟩, hb _ _ _ _ _ _ _ _ _ sr1 d1 fun y m2 G2 pl2 H2 v2 d2 l2 sr2 r2 => ?_⟩
      obtain ⟨ys, h1, h2, d2⟩ := d2
      obtain ⟨a, us, e1, e2, e3⟩ := sr2.list r2 h1
      cases e3.strs_inv
      exact ⟨_, a, ys, rfl, e1, .inl (.inl e2), by omega, (KK.le (l1.trans l2)).val sr2 d2 (show Da G2 _ _ from .str _)⟩
    · exact d1.elim
/-- text[lo:hi], text[i] -/
def dSlS (a : DE) (lo hi : DO) : DE := fun e m k => a e m fun x m1 => lo e m1 fun i m2 => hi e m2 fun j m3 => match x with
  | .d (.str z) => z.length ≤ 1000000 ∧ k (.d (.str (L2.cutS z i j))) m3
  | _ => False
theorem se_slS {ta : TE} {tl th : TO} {da : DE} {dl dh : DO} (ha : SE ta da) (hl : SO tl dl) (hh : SO th dh) : SE (L2.tSl L2.rSlS ta tl th) (dSlS da dl dh) := fun c G pl σ H e m k Q sr d KK =>
  ha _ _ _ _ _ _ _ _ _ sr d fun x m1 G1 pl1 H1 v1 d1 l1 sr1 r1 => hl _ _ _ _ _ _ _ _ _ sr1 d1 fun lo m2 G2 pl2 H2 lo' d2 l2 sr2 r2 => hh _ _ _ _ _ _ _ _ _ sr2 d2 fun hi m3 G3 pl3 H3 hi' d3 l3 sr3 r3 => by
    subst r2 r3
    have lw := (l1.trans l2).trans l3
    split at d3
    · cases r1.str_inv
      exact ⟨_, rfl, bigS d3.1, (KK.le lw).val sr3 d3.2 (show Da G3 _ _ from .str _)⟩
    · exact d3.elim
def fIxS (m : Mu) (x y : DV) (k : DV → Prop) : Prop := match x, y with
  | .d (.str z), .d (.int i) => ∃ c, z.length ≤ 1000000 ∧ L2.atI z.cps.toList i = some c ∧ k (.d (.str ⟨#[c]⟩))
  | _, _ => False
theorem os_ixS : OpS L2.rIxS fIxS := fun c G pl σ H e m x y dx dy k Q sr rx ry d KK => by
  unfold fIxS at d
  split at d
  · obtain ⟨cp, h1, h2, d⟩ := d
    exact ⟨_, _, cp, rx.str_inv, ry.int_inv, bigS h1, h2, KK.val sr d (show Da G _ _ from .str _)⟩
  · exact d.elim
/-- one sign in a text -/
def fInSg (neg : Bool) (m : Mu) (x y : DV) (k : DV → Prop) : Prop := ∃ (c : Nat) (z : Str), x = .d (.str ⟨#[c]⟩) ∧ y = .d (.str z) ∧ k (.d (.bool (if neg then !decide (c ∈ z.cps.toList) else decide (c ∈ z.cps.toList))))
theorem os_inSg : OpS (fun x y H Q => ∃ (c : Nat) (z : Str), x = .str ⟨#[c]⟩ ∧ y = .str z ∧ Q (.bl (decide (c ∈ z.cps.toList))) H) (fInSg false) := fun c G pl σ H e m x y dx dy k Q sr rx ry d KK => by
  obtain ⟨cp, z, rfl, rfl, d⟩ := d
  exact ⟨cp, z, rx.str_inv, ry.str_inv, KK.val sr d (show Da G _ _ from .bl _)⟩
theorem os_notInSg : OpS (fun x y H Q => ∃ (c : Nat) (z : Str), x = .str ⟨#[c]⟩ ∧ y = .str z ∧ Q (.bl (!decide (c ∈ z.cps.toList))) H) (fInSg true) := fun c G pl σ H e m x y dx dy k Q sr rx ry d KK => by
  obtain ⟨cp, z, rfl, rfl, d⟩ := d
  exact ⟨cp, z, rx.str_inv, ry.str_inv, KK.val sr d (show Da G _ _ from .bl _)⟩
/-- a text sign by sign -/
def sgnD (c : Nat) : PyData := .str ⟨#[c]⟩
def diStr (a : DE) : DI := fun e m k => a e m fun x m1 => match x with
  | .d (.str z) => k (z.cps.toList.map sgnD) m1
  | _ => False
theorem wk_str {G : Hp} {z : Str} : WK (Its z) G (z.cps.toList.map sgnD) := by
  have len : (z.cps.toList.map sgnD).length = z.cps.size := by simp
  refine ⟨fun i H hi s => by rw [len] at hi; exact hi, fun H s => by rw [len]; exact Nat.le_refl _, fun i H x H' hi s y => ?_⟩
  obtain ⟨e1, cp, e2, e3⟩ := y
  refine ⟨sgnD cp, ?_, .inl ⟨e1, by rw [e3]; exact .str _⟩⟩
  rw [List.getElem?_map, Array.getElem?_toList, e2]
  rfl
theorem si_str {te : TE} {de : DE} (h : SE te de) : SI (iStr te) (diStr de) := fun c G pl σ H e m k R sr d KK => h _ _ _ _ _ _ _ _ _ sr d fun x m1 G1 pl1 H1 v1 d1 l1 sr1 r1 => by
  split at d1
  · cases r1.str_inv
    exact ⟨_, rfl, KK _ _ _ _ _ _ d1 l1 sr1 wk_str⟩
  · exact d1.elim
/-! ### f-strings -/
def dFmt (a : DE) : DE := fun e m k => a e m fun x m1 => match x with
  | .d (.str z) => z.length ≤ 1000000 ∧ k (.d (.str z)) m1
  | .d (.int i) => i.natAbs.log2 < 1920 ∧ k (.d (.str (strI i))) m1
  | _ => False
theorem se_fmt {ta : TE} {da : DE} (h : SE ta da) : SE (tFmt ta) (dFmt da) := fun c G pl σ H e m k Q sr d KK => h _ _ _ _ _ _ _ _ _ sr d fun x m1 G1 pl1 H1 v1 d1 l1 sr1 r1 => by
  split at d1
  · exact .inl ⟨_, r1.str_inv, bigS d1.1, (KK.le l1).val sr1 d1.2 (show Da G1 _ _ from .str _)⟩
  · exact .inr ⟨_, r1.int_inv, d1.1, (KK.le l1).val sr1 d1.2 (show Da G1 _ _ from .str _)⟩
  · exact d1.elim
inductive SJ : List TE → List DE → Prop where
  | nil : SJ [] []
  | cons {t : TE} {ts : List TE} {d : DE} {ds : List DE} : SE t d → SJ ts ds → SJ (t :: ts) (d :: ds)
def dJs : List DE → Str → DE
  | [], acc => fun _ m k => k (.d (.str acc)) m
  | d :: ds, acc => fun e m k => d e m fun x m1 => match x with
    | .d (.str y) => (acc ++ y).length ≤ 1000000 ∧ dJs ds (acc ++ y) e m1 k
    | _ => False
theorem se_js {ts : List TE} {ds : List DE} (h : SJ ts ds) : ∀ acc : Str, SE (fun σ H Q => tJs ts acc σ H fun out H1 => Q (.str out) H1) (dJs ds acc) := by
  induction h with
  | nil => exact fun acc c G pl σ H e m k Q sr d KK => KK.val sr d (show Da G _ _ from .str _)
  | cons h t ih =>
    intro acc c G pl σ H e m k Q sr d KK
    refine h _ _ _ _ _ _ _ _ _ sr d fun x m1 G1 pl1 H1 v1 d1 l1 sr1 r1 => ?_
    split at d1
    · exact ⟨_, r1.str_inv, bigS d1.1, ih _ _ _ _ _ _ _ _ _ _ sr1 d1.2 (KK.le l1)⟩
    · exact d1.elim
/-! ### a starred target -/
theorem DaL.mid {G : Hp} {xs : List V} {ds : List PyData} (h : DaL G xs ds) (n i : Nat) : DaL G (midV xs n i) (midV ds n i) := by
  unfold midV
  rw [h.length]
  exact (h.drop _).take _
theorem DaL.res {G : Hp} {xs : List V} {ds : List PyData} (h : DaL G xs ds) (n i : Nat) : DaL G (restV xs n i) (restV ds n i) := by
  unfold restV
  rw [h.length]
  exact (h.drop _).drop _
/-- the new list stays as it is -/
def dgStar (n i : Nat) (b : DGs) : DG := fun v e m k => ∃ ds, rdS m v = some ds ∧ n ≤ ds.length + 1 ∧ b ((ds.take i).map DV.d ++ [.d (.list (midV ds n i))] ++ (restV ds n i).map DV.d) e m k
theorem sg_star (K : PySem.W.Frag) {n i : Nat} {gs : TGs} {b : DGs} (hb : SGs gs b) : SG (gStar K n i gs) (dgStar n i b) := fun c G pl σ H e m v dv k Q sr r d KK => by
  obtain ⟨ds, h1, h2, d⟩ := d
  obtain ⟨a, xs, e1, e2, e3⟩ := sr.seq K r h1
  refine ⟨a, xs, e1, e2, by rw [e3.length]; exact h2, fun p hp => ?_⟩
  obtain ⟨f1, f2, f3⟩ := sr.hp.fresh hp
  have l : Le G pl m.length (upd G p (.lst (midV xs n i))) pl m.length := ⟨same_upd f1, fun _ _ => rfl, Nat.le_refl _⟩
  have e4 := e3.same l.g
  exact hb _ _ _ _ _ _ _ _ _ _ _ (sr.le l (sr.hp.new hp)) (((RVs.ofL (e4.take i)).append (.cons (show RV _ _ _ _ (.d (.list (midV ds n i))) from (.lst upd_same (e4.mid n i) : Da _ _ _)) .nil)).append (.ofL (e4.res n i))) d
    fun e' σ' G' pl' H' m' q l2 => KK _ _ _ _ _ _ q (l.trans l2)
/-- the def goes on to change it -/
def dgStarO (n i : Nat) (b : DGs) : DG := fun v e m k => ∃ ds, rdS m v = some ds ∧ n ≤ ds.length + 1 ∧ b ((ds.take i).map DV.d ++ [.p m.length] ++ (restV ds n i).map DV.d) e (m ++ [.lst (midV ds n i)]) k
theorem sg_starO (K : PySem.W.Frag) {n i : Nat} {gs : TGs} {b : DGs} (hb : SGs gs b) : SG (gStar K n i gs) (dgStarO n i b) := fun c G pl σ H e m v dv k Q sr r d KK => by
  obtain ⟨ds, h1, h2, d⟩ := d
  obtain ⟨a, xs, e1, e2, e3⟩ := sr.seq K r h1
  refine ⟨a, xs, e1, e2, by rw [e3.length]; exact h2, fun p hp => ?_⟩
  obtain ⟨f1, f2, f3⟩ := sr.hp.fresh hp
  have l := Le.plus G pl m p (.lst (midV ds n i))
  have hh : HR c G pl (upd H p (.lst (midV xs n i))) m := sr.hp.grow fun b x _ e => by rw [upd_ne (ne_of_none e hp)]; exact e
  have h4 : HR c G (plus pl m.length p) (upd H p (.lst (midV xs n i))) (m ++ [.lst (midV ds n i)]) := hh.push (o := .lst (midV ds n i)) ⟨_, upd_same, e3.mid n i⟩ rfl f1 f3 f2
  exact hb _ _ _ _ _ _ _ _ _ _ _ (⟨sr.env.le l, h4⟩ : SR c G (plus pl m.length p) σ _ e _) (((RVs.ofL (e3.take i)).append (.cons (show RV _ _ _ _ (.p m.length) from ⟨by simp, by rw [plus_new]⟩) .nil)).append (.ofL (e3.res n i))) d
    fun e' σ' G' pl' H' m' q l2 => KK _ _ _ _ _ _ q (l.trans l2)
end PM

namespace PM
open PySem PySem.Spec PyProof.Rows L2 RZ
/-! ### averages of groups: order and change -/
def sgI (z : Int) : Int := if z < 0 then -1 else if 0 < z then 1 else 0
theorem sgI_mul {z g : Int} (h : 0 < g) : sgI (z * g) = sgI z := by
  unfold sgI
  have a : z * g < 0 ↔ z < 0 := ⟨fun q => by
    rcases Int.lt_or_le z 0 with y | y
    · exact y
    · exact absurd (Int.mul_nonneg y (Int.le_of_lt h)) (by omega), fun q => Int.mul_neg_of_neg_of_pos q h⟩
  have b : 0 < z * g ↔ 0 < z := ⟨fun q => by
    rcases Int.lt_or_le 0 z with y | y
    · exact y
    · have := Int.mul_nonpos_of_nonpos_of_nonneg y (Int.le_of_lt h)
      omega, fun q => Int.mul_pos q h⟩
  by_cases h1 : z < 0
  · rw [if_pos (a.mpr h1), if_pos h1]
  · rw [if_neg (fun q => h1 (a.mp q)), if_neg h1]
    by_cases h2 : 0 < z
    · rw [if_pos (b.mpr h2), if_pos h2]
    · rw [if_neg (fun q => h2 (b.mp q)), if_neg h2]
theorem cmp_sg (x y : Int × Int) : Fr.cmp x y = sgI (x.1 * y.2 - y.1 * x.2) := by
  unfold Fr.cmp sgI
  by_cases h1 : x.1 * y.2 < y.1 * x.2
  · rw [if_pos h1, if_pos (Int.sub_neg_of_lt h1)]
  · rw [if_neg h1, if_neg (fun z => h1 (Int.lt_of_sub_neg z))]
    by_cases h2 : y.1 * x.2 < x.1 * y.2
    · rw [if_pos h2, if_pos (Int.sub_pos_of_lt h2)]
    · rw [if_neg h2, if_neg (fun z => h2 (Int.lt_of_sub_pos z))]
theorem gcd_pos' {n d : Int} (h : 0 < d) : (0 : Int) < (Int.gcd n d : Int) := by
  have : Int.gcd n d ≠ 0 := fun z => by
    rw [Int.gcd_eq_zero_iff] at z
    omega
  omega
theorem cmp_red {n d n' d' : Int} (hd : 0 < d) (hd' : 0 < d') : Fr.cmp (Fr.red n d) (Fr.red n' d') = sgI (n * d' - n' * d) := by
  rw [cmp_sg]
  obtain ⟨a, ha⟩ : ∃ a, a = Fr.red n d := ⟨_, rfl⟩
  obtain ⟨b, hb⟩ : ∃ b, b = Fr.red n' d' := ⟨_, rfl⟩
  obtain ⟨g, hg⟩ : ∃ g : Int, g = (Int.gcd n d : Int) := ⟨_, rfl⟩
  obtain ⟨g', hg'⟩ : ∃ g : Int, g = (Int.gcd n' d' : Int) := ⟨_, rfl⟩
  have e1 := Fr.red_mul1 n d
  have e2 := Fr.red_mul2 n d
  have e3 := Fr.red_mul1 n' d'
  have e4 := Fr.red_mul2 n' d'
  have p1 := gcd_pos' (n := n) hd
  have p2 := gcd_pos' (n := n') hd'
  rw [← ha, ← hg] at e1 e2
  rw [← hb, ← hg'] at e3 e4
  rw [← hg] at p1
  rw [← hg'] at p2
  rw [← ha, ← hb, ← sgI_mul (Int.mul_pos p1 p2), ← e1, ← e2, ← e3, ← e4]
  congr 1
  grind
/-- what the laws change in a panel's items -/
def tf (A T V : Int) (q : Int × Int) : Int × Int := (q.1 * T + A, q.2 * V)
theorem itm_map (f : Int × Int → Int × Int) {its : List (Int × Int)} {i : Nat} (h : i < its.length) : itm (its.map f) i = f (itm its i) := by
  have h1 := itm_get h
  have h2 : i < (its.map f).length := by rw [List.length_map]; exact h
  have h3 := itm_get h2
  rw [List.getElem?_map, h1] at h3
  exact (Option.some.inj h3).symm
theorem wsum_tf {its : List (Int × Int)} (A T V : Int) : ∀ {is : List Nat}, (∀ i ∈ is, i < its.length) → wsum (its.map (tf A T V)) is = V * (T * wsum its is + A * wgt its is) ∧ wgt (its.map (tf A T V)) is = V * wgt its is
  | [], _ => by simp [wsum, wgt]
  | i :: is, h => by
    have ih := wsum_tf A T V (is := is) fun j hj => h j (List.mem_cons_of_mem _ hj)
    have e := itm_map (tf A T V) (h i List.mem_cons_self)
    unfold wsum wgt at ih ⊢
    rw [List.map_cons, List.map_cons, List.map_cons, List.map_cons, List.sum_cons, List.sum_cons, List.sum_cons, List.sum_cons, ih.1, ih.2, e]
    unfold tf
    constructor <;> grind
theorem sum_perm {xs ys : List Int} (h : xs.Perm ys) : xs.sum = ys.sum := by
  induction h with
  | nil => rfl
  | cons x _ ih => rw [List.sum_cons, List.sum_cons, ih]
  | swap x y l => rw [List.sum_cons, List.sum_cons, List.sum_cons, List.sum_cons]; omega
  | trans _ _ a b => exact a.trans b
theorem wsum_perm {its : List (Int × Int)} {is js : List Nat} (h : is.Perm js) : wsum its is = wsum its js := sum_perm (h.map _)
theorem wgt_perm {its : List (Int × Int)} {is js : List Nat} (h : is.Perm js) : wgt its is = wgt its js := sum_perm (h.map _)
theorem sum_app (xs ys : List Int) : (xs ++ ys).sum = xs.sum + ys.sum := by
  induction xs with
  | nil => simp
  | cons x xs ih => rw [List.cons_append, List.sum_cons, List.sum_cons, ih]; omega
theorem wsum_app (its : List (Int × Int)) (is js : List Nat) : wsum its (is ++ js) = wsum its is + wsum its js := by
  unfold wsum
  rw [List.map_append, sum_app]
theorem wgt_app (its : List (Int × Int)) (is js : List Nat) : wgt its (is ++ js) = wgt its is + wgt its js := by
  unfold wgt
  rw [List.map_append, sum_app]
/-- items of a moderate size -/
def Wide (its : List (Int × Int)) : Prop := ∀ q ∈ its, q.1.natAbs < 2 ^ 60 ∧ 1 ≤ q.2 ∧ q.2 < 2 ^ 40
theorem Wide.sz {its : List (Int × Int)} (h : Wide its) : ∀ q ∈ its, q.1.natAbs < 2 ^ 100 ∧ q.2.natAbs < 2 ^ 100 := fun q hq => by
  have := h q hq
  omega
theorem Wide.sums {its : List (Int × Int)} (h : Wide its) : ∀ {is : List Nat}, (∀ i ∈ is, i < its.length) → (is.length : Int) ≤ wgt its is ∧ wgt its is ≤ is.length * 2 ^ 40 ∧ (wsum its is).natAbs ≤ is.length * 2 ^ 100
  | [], _ => by simp [wgt, wsum]
  | i :: is, hi => by
    obtain ⟨a, b, c⟩ := Wide.sums h (is := is) fun j hj => hi j (List.mem_cons_of_mem _ hj)
    obtain ⟨q1, q2, q3⟩ := h _ (itm_mem (hi i List.mem_cons_self))
    have e1 : wgt its (i :: is) = (itm its i).2 + wgt its is := by unfold wgt; rw [List.map_cons, List.sum_cons]
    have e2 : wsum its (i :: is) = (itm its i).2 * (itm its i).1 + wsum its is := by unfold wsum; rw [List.map_cons, List.sum_cons]
    rw [e1, e2, List.length_cons]
    have q4 : ((itm its i).2 * (itm its i).1).natAbs ≤ 2 ^ 100 := by
      rw [Int.natAbs_mul]
      exact Nat.le_trans (Nat.mul_le_mul (show _ ≤ 2 ^ 40 by omega) (show _ ≤ 2 ^ 60 by omega)) (by decide)
    refine ⟨by omega, by omega, ?_⟩
    omega
theorem Wide.pos {its : List (Int × Int)} (h : Wide its) {is : List Nat} (hi : ∀ i ∈ is, i < its.length) (ne : is ≠ []) (h9 : is.length ≤ 100) : 0 < wgt its is ∧ (wgt its is).natAbs < 2 ^ 110 ∧ (wsum its is).natAbs < 2 ^ 110 := by
  obtain ⟨a, b, c⟩ := h.sums hi
  have : 0 < is.length := List.length_pos_iff.mpr ne
  omega
theorem av_sz {its : List (Int × Int)} (h : Wide its) {is : List Nat} (hi : ∀ i ∈ is, i < its.length) (ne : is ≠ []) (h9 : is.length ≤ 100) : Fr.Sz 110 (Fr.red (wsum its is) (wgt its is)) := by
  obtain ⟨a, b, c⟩ := h.pos hi ne h9
  exact Fr.red_sz c b
theorem Wide.pos2 {its : List (Int × Int)} (h : Wide its) {is : List Nat} (hi : ∀ i ∈ is, i < its.length) (ne : is ≠ []) (h9 : is.length ≤ 100) : 0 < wgt its is ∧ (wgt its is).natAbs < 2 ^ 2000 := by
  obtain ⟨a, b, _⟩ := h.pos hi ne h9
  exact ⟨a, Nat.lt_of_lt_of_le b (Nat.pow_le_pow_right (by decide) (by decide))⟩
/-- a common amount on all marks -/
theorem red_shift {S W A : Int} (hw : 0 < W) : Fr.red (1 * (1 * S + A * W)) (1 * W) = Fr.add (Fr.red S W) (A, 1) := by
  have f1 := Fr.red_isF (n := S) hw
  have f2 : Fr.IsF (A, 1) := isF1 A
  have hw' : (W : Rat) ≠ 0 := by
    intro z
    have := Rat.intCast_inj.mp (z.trans (by rfl : (0 : Rat) = ((0 : Int) : Rat)))
    omega
  refine Fr.val_inj (Fr.red_isF (by omega)) (Fr.add_isF f1 f2) ?_
  rw [Fr.red_val (by omega), Fr.add_val f1 f2, Fr.red_val (by omega)]
  unfold Fr.val
  have : ((1 * (1 * S + A * W) : Int) : Rat) = (S : Rat) + (A : Rat) * (W : Rat) := by
    rw [Int.one_mul, Int.one_mul, Rat.intCast_add, Rat.intCast_mul]
  rw [this, Int.one_mul]
  grind
theorem red_times {S W T : Int} (hw : 0 < W) : Fr.red (1 * (T * S + 0 * W)) (1 * W) = Fr.mul (Fr.red S W) (T, 1) := by
  have f1 := Fr.red_isF (n := S) hw
  have f2 : Fr.IsF (T, 1) := isF1 T
  have hw' : (W : Rat) ≠ 0 := by
    intro z
    have := Rat.intCast_inj.mp (z.trans (by rfl : (0 : Rat) = ((0 : Int) : Rat)))
    omega
  refine Fr.val_inj (Fr.red_isF (by omega)) (Fr.mul_isF f1 f2) ?_
  rw [Fr.red_val (by omega), Fr.mul_val f1 f2, Fr.red_val (by omega)]
  unfold Fr.val
  have : ((1 * (T * S + 0 * W) : Int) : Rat) = (T : Rat) * (S : Rat) := by
    rw [Int.one_mul, Int.zero_mul, Int.add_zero, Rat.intCast_mul]
  rw [this, Int.one_mul]
  grind
theorem red_both {S W V : Int} (hw : 0 < W) (hv : 0 < V) : Fr.red (V * (1 * S + 0 * W)) (V * W) = Fr.red S W := by
  have vw := Int.mul_pos hv hw
  rw [Fr.red_eq vw hw]
  grind
/-- one mark greater -/
theorem itm_set {its : List (Int × Int)} {v : Nat} (q : Int × Int) (i : Nat) (h : v < its.length) : itm (its.set v q) i = if i = v then q else itm its i := by
  unfold itm
  rw [List.getD_eq_getElem?_getD, List.getD_eq_getElem?_getD, List.getElem?_set]
  by_cases z : v = i
  · subst z
    rw [if_pos rfl, if_pos h, if_pos rfl]
    rfl
  · rw [if_neg z, if_neg fun y => z y.symm]
theorem wsum_set {its : List (Int × Int)} {v : Nat} {c : Int} (h : v < its.length) : ∀ {is : List Nat}, is.Pairwise (· < ·) → wgt (its.set v ((itm its v).1 + c, (itm its v).2)) is = wgt its is ∧ wsum (its.set v ((itm its v).1 + c, (itm its v).2)) is = wsum its is + if v ∈ is then (itm its v).2 * c else 0
  | [], _ => by simp [wsum, wgt]
  | i :: is, hp => by
    obtain ⟨h1, h2⟩ := wsum_set (c := c) h (List.pairwise_cons.mp hp).2
    have e := itm_set (its := its) ((itm its v).1 + c, (itm its v).2) i h
    unfold wgt at h1
    unfold wsum at h2
    unfold wsum wgt
    rw [List.map_cons, List.map_cons, List.map_cons, List.map_cons, List.sum_cons, List.sum_cons, List.sum_cons, List.sum_cons, h1, h2, e]
    by_cases z : i = v
    · subst z
      have : i ∉ is := fun y => by have := (List.pairwise_cons.mp hp).1 i y; omega
      rw [if_pos rfl, if_neg this, if_pos List.mem_cons_self]
      constructor <;> grind
    · rw [if_neg z]
      by_cases y : v ∈ is
      · rw [if_pos y, if_pos (List.mem_cons_of_mem _ y)]
        constructor <;> omega
      · rw [if_neg y, if_neg fun x => (List.mem_cons.mp x).elim (fun w => z w.symm) y]
        constructor <;> omega
theorem set_parts {α : Type} (xs : List α) (v : Nat) (x : α) (h : v < xs.length) : xs.take v ++ [x] ++ xs.drop (v + 1) = xs.set v x := by
  rw [List.set_eq_take_append_cons_drop, if_pos h]
  simp
/-- ints that are indexes -/
theorem back_nats : ∀ {js : List Int} {is : List Nat}, js.Perm (is.map fun i : Nat => (i : Int)) → ∃ ks : List Nat, js = ks.map (fun i : Nat => (i : Int)) ∧ ks.Perm is := fun {js is} h => by
  refine ⟨js.map Int.toNat, ?_, ?_⟩
  · rw [List.map_map]
    have : ∀ j ∈ js, ((fun i : Nat => (i : Int)) ∘ Int.toNat) j = j := fun j hj => by
      obtain ⟨i, _, rfl⟩ := List.mem_map.mp (h.mem_iff.mp hj)
      rfl
    rw [List.map_congr_left this, List.map_id'']
    exact fun _ => rfl
  · have := h.map Int.toNat
    rw [List.map_map] at this
    rwa [List.map_id''] at this
    exact fun _ => rfl
end PM

namespace PM
open PySem PySem.Spec PyProof.Rows L2 RZ
/-! ### closed groups, in ascending order -/
/-- closed upward: the high item of each rule whose low item it has -/
def clo (rls : List (Nat × Nat)) (g : List Nat) : Bool := rls.all fun q => !decide (q.1 ∈ g) || decide (q.2 ∈ g)
theorem clo_iff {rls : List (Nat × Nat)} {g : List Nat} : clo rls g = true ↔ ∀ q ∈ rls, q.1 ∈ g → q.2 ∈ g := by
  unfold clo
  rw [List.all_eq_true]
  refine ⟨fun h q hq h1 => ?_, fun h q hq => ?_⟩
  · have := h q hq
    simpa [h1] using this
  · by_cases h1 : q.1 ∈ g
    · simp [h1, h q hq h1]
    · simp [h1]
theorem mem_grps {k lo : Nat} {g : List Nat} : g ∈ grps lo k ↔ (∀ i ∈ g, lo ≤ i ∧ i < lo + k) ∧ g.Pairwise (· < ·) := by
  refine ⟨grps_mem lo k g, fun h => ?_⟩
  obtain ⟨h1, h2⟩ := h
  induction k generalizing g lo with
  | zero =>
    cases g with
    | nil => exact List.mem_singleton.mpr rfl
    | cons i g =>
      have := h1 i List.mem_cons_self
      omega
  | succ k ih =>
    simp only [grps, List.mem_cons, List.mem_append, List.mem_map]
    cases g with
    | nil => exact .inl rfl
    | cons i g =>
      right
      obtain ⟨h3, h4⟩ := List.pairwise_cons.mp h2
      have hi := h1 i List.mem_cons_self
      by_cases z : i = lo
      · subst z
        refine .inl ⟨g, ih (fun j hj => ?_) h4, rfl⟩
        have := h3 j hj
        have := h1 j (List.mem_cons_of_mem _ hj)
        omega
      · right
        have m : (i :: g) ∈ grps (lo + 1) k := ih (g := i :: g) (fun j hj => by
          have := h1 j hj
          rcases List.mem_cons.mp hj with rfl | hj
          · omega
          · have := h3 j hj
            omega) h2
        cases k with
        | zero => exact absurd (List.mem_singleton.mp m) (by simp)
        | succ k =>
          simp only [grps, List.mem_cons] at m
          rcases m with m | m
          · cases m
          · exact m
abbrev gI (g : List Nat) : List Int := g.map fun i : Nat => (i : Int)
theorem in_gr (i : Nat) (is : List Nat) : decide (((i : Nat) : Int) ∈ gI is) = decide (i ∈ is) := by
  apply decide_eq_decide.mpr
  rw [List.mem_map]
  exact ⟨fun ⟨j, hj, e⟩ => by rw [← Int.ofNat.inj e]; exact hj, fun h => ⟨i, h, rfl⟩⟩
theorem gr_ints (is : List Nat) : is.map nD = (gI is).map PyData.int := by rw [List.map_map]; rfl
theorem tsD_gI (g : List Nat) : tsD (gI g) = grD g := by
  unfold tsD gI grD
  rw [List.map_map]
  rfl
theorem lex_cons_nat (i j : Nat) (g h : List Nat) : HT.lexLt (gI (i :: g)) (gI (j :: h)) = if i = j then HT.lexLt (gI g) (gI h) else decide (i < j) := by
  show (if (i : Int) = (j : Int) then HT.lexLt (gI g) (gI h) else decide ((i : Int) < (j : Int))) = _
  by_cases z : i = j
  · rw [if_pos (by omega), if_pos z]
  · rw [if_neg (by omega), if_neg z]
    exact decide_eq_decide.mpr (by omega)
theorem grps_up : ∀ (k lo : Nat), (grps lo k).Pairwise fun g h => HT.lexLt (gI g) (gI h) = true
  | 0, lo => List.pairwise_singleton _ _
  | k + 1, lo => by
    have ih := grps_up k (lo + 1)
    have hd : ∃ t, grps (lo + 1) k = [] :: t := by
      cases k with
      | zero => exact ⟨[], rfl⟩
      | succ k => exact ⟨_, rfl⟩
    obtain ⟨t, ht⟩ := hd
    have hm := grps_mem (lo + 1) k
    simp only [grps]
    rw [ht] at ih hm ⊢
    obtain ⟨i1, i2⟩ := List.pairwise_cons.mp ih
    have tn : ∀ x ∈ t, x ≠ [] := fun x hx z => by
      have := i1 x hx
      subst z
      cases this
    refine List.pairwise_cons.mpr ⟨fun x hx => ?_, List.pairwise_append.mpr ⟨?_, i2, fun x hx y hy => ?_⟩⟩
    · rcases List.mem_append.mp hx with h | h
      · obtain ⟨g, _, rfl⟩ := List.mem_map.mp h
        rfl
      · cases x with
        | nil => exact absurd rfl (tn _ h)
        | cons i x => rfl
    · refine List.pairwise_map.mpr (ih.imp fun {a b} h => ?_)
      rw [lex_cons_nat, if_pos rfl]
      exact h
    · obtain ⟨g, _, rfl⟩ := List.mem_map.mp hx
      cases y with
      | nil => exact absurd rfl (tn _ hy)
      | cons i y =>
        have := ((hm (i :: y) (List.mem_cons_of_mem _ hy)).1 i List.mem_cons_self).1
        rw [lex_cons_nat, if_neg (by omega)]
        exact decide_eq_true (by omega)
theorem grps_nodup (lo k : Nat) : (grps lo k).Nodup := (grps_up k lo).imp fun {a b} h z => by
  subst z
  rw [lexLt_asym h] at h
  cases h
/-- all groups, the way the program makes them -/
def subsF (is : List Nat) : List (List Nat) := is.foldl (fun G i => G ++ G.map (· ++ [i])) [[]]
theorem subsF_snoc (is : List Nat) (i : Nat) : subsF (is ++ [i]) = subsF is ++ (subsF is).map (· ++ [i]) := by
  unfold subsF
  rw [List.foldl_append]
  rfl
theorem subsF_head (is : List Nat) : ∃ t, subsF is = [] :: t := by
  have : ∀ (is : List Nat) (G : List (List Nat)), (∃ t, G = [] :: t) → ∃ t, is.foldl (fun G i => G ++ G.map (· ++ [i])) G = [] :: t := by
    intro is
    induction is with
    | nil => exact fun G h => h
    | cons i is ih =>
      rintro G ⟨t, rfl⟩
      exact ih _ ⟨_, rfl⟩
  exact this is _ ⟨[], rfl⟩
theorem subsF_len (is : List Nat) : (subsF is).length = 2 ^ is.length := by
  have : ∀ (is : List Nat) (G : List (List Nat)), (is.foldl (fun G i => G ++ G.map (· ++ [i])) G).length = G.length * 2 ^ is.length := by
    intro is
    induction is with
    | nil => intro G; simp
    | cons i is ih =>
      intro G
      rw [List.foldl_cons, ih, List.length_append, List.length_map, List.length_cons, Nat.pow_succ, ← Nat.two_mul]
      grind
  unfold subsF
  rw [this]
  simp
theorem subsF_mem : ∀ {n : Nat} {g : List Nat}, g ∈ subsF (List.range n) ↔ (∀ i ∈ g, i < n) ∧ g.Pairwise (· < ·)
  | 0, g => by
    show g ∈ [[]] ↔ _
    rw [List.mem_singleton]
    refine ⟨fun h => by subst h; exact ⟨(fun i h => nomatch h), .nil⟩, fun h => ?_⟩
    cases g with
    | nil => rfl
    | cons i g => exact absurd (h.1 i List.mem_cons_self) (by omega)
  | n + 1, g => by
    have ih := @subsF_mem n
    rw [List.range_succ, subsF_snoc, List.mem_append, List.mem_map]
    constructor
    · rintro (h | ⟨g', h, rfl⟩)
      · obtain ⟨h1, h2⟩ := ih.mp h
        exact ⟨fun i hi => by have := h1 i hi; omega, h2⟩
      · obtain ⟨h1, h2⟩ := ih.mp h
        refine ⟨fun i hi => ?_, List.pairwise_append.mpr ⟨h2, List.pairwise_singleton _ _, fun a ha b hb => ?_⟩⟩
        · rcases List.mem_append.mp hi with hi | hi
          · have := h1 i hi
            omega
          · rw [List.mem_singleton.mp hi]
            omega
        · rw [List.mem_singleton.mp hb]
          exact h1 a ha
    · rintro ⟨h1, h2⟩
      by_cases z : n ∈ g
      · right
        obtain ⟨a, b, rfl⟩ := List.append_of_mem z
        obtain ⟨p1, p2, p3⟩ := List.pairwise_append.mp h2
        have bn : b = [] := by
          cases b with
          | nil => rfl
          | cons x b =>
            have := (List.pairwise_cons.mp p2).1 x List.mem_cons_self
            have := h1 x (by simp)
            omega
        subst bn
        exact ⟨a, ih.mpr ⟨fun i hi => p3 i hi n List.mem_cons_self, p1⟩, rfl⟩
      · exact .inl (ih.mpr ⟨fun i hi => by
          have := h1 i hi
          have : i ≠ n := fun e => z (e ▸ hi)
          omega, h2⟩)
theorem subsF_nodup : ∀ n : Nat, (subsF (List.range n)).Nodup
  | 0 => by show [[]].Nodup; simp
  | n + 1 => by
    have ih := subsF_nodup n
    rw [List.range_succ, subsF_snoc]
    refine List.pairwise_append.mpr ⟨ih, List.pairwise_map.mpr (ih.imp fun {a b} h z => h (List.append_cancel_right z)), fun a ha b hb z => ?_⟩
    obtain ⟨b', _, rfl⟩ := List.mem_map.mp hb
    have := (subsF_mem.mp ha).1 n (by rw [z]; simp)
    omega
theorem subs_perm (n : Nat) : (subsF (List.range n)).Perm (grps 0 n) := by
  refine (List.perm_ext_iff_of_nodup (subsF_nodup n) (grps_nodup 0 n)).mpr fun g => ?_
  rw [subsF_mem, mem_grps (lo := 0)]
  simp
/-- the closed groups of n items, ascending -/
def upsets (n : Nat) (rls : List (Nat × Nat)) : List (List Nat) := (grps 0 n).filter (clo rls)
theorem lex_anti : ∀ {xs ys : List Int}, HT.lexLt xs ys = false → HT.lexLt ys xs = false → xs = ys
  | [], [], _, _ => rfl
  | [], _ :: _, h, _ => nomatch h
  | _ :: _, [], _, h => nomatch h
  | x :: xs, y :: ys, h1, h2 => by
    rw [HT.lexLt_cons] at h1 h2
    by_cases z : x = y
    · rw [if_pos z] at h1
      rw [if_pos z.symm] at h2
      rw [z, lex_anti h1 h2]
    · rw [if_neg z] at h1
      rw [if_neg fun e => z e.symm] at h2
      have := of_decide_eq_false h1
      have := of_decide_eq_false h2
      omega
/-- what sorting makes of them -/
theorem sorted_subs {n : Nat} {rls : List (Nat × Nat)} {hs : List (List Int)} (p : hs.Perm (((subsF (List.range n)).filter (clo rls)).map gI)) (u : UpL hs) : hs = (upsets n rls).map gI := by
  refine List.Perm.eq_of_pairwise (le := fun a b => HT.lexLt b a = false) (fun a b _ _ h1 h2 => lex_anti h2 h1) u ?_ (p.trans (((subs_perm n).filter _).map _))
  refine List.pairwise_map.mpr (((grps_up n 0).filter _).imp fun {a b} h => lexLt_asym h)
theorem mem_upsets {n : Nat} {rls : List (Nat × Nat)} {g : List Nat} : g ∈ upsets n rls ↔ (∀ i ∈ g, i < n) ∧ g.Pairwise (· < ·) ∧ ∀ q ∈ rls, q.1 ∈ g → q.2 ∈ g := by
  unfold upsets
  rw [List.mem_filter, mem_grps (lo := 0), clo_iff]
  simp [and_assoc]
theorem upsets_len (n : Nat) (rls : List (Nat × Nat)) : (upsets n rls).length ≤ 2 ^ n := Nat.le_trans (List.length_filter_le _ _) (by rw [grps_len]; exact Nat.le_refl _)
theorem up_len : ∀ {g : List Nat} {lo n : Nat}, g.Pairwise (· < ·) → (∀ i ∈ g, lo ≤ i ∧ i < n) → lo + g.length ≤ max lo n
  | [], lo, n, _, _ => by simp; omega
  | i :: g, lo, n, h, hi => by
    obtain ⟨h1, h2⟩ := List.pairwise_cons.mp h
    have a := hi i List.mem_cons_self
    have := up_len (lo := i + 1) (n := n) h2 fun j hj => ⟨h1 j hj, (hi j (List.mem_cons_of_mem _ hj)).2⟩
    rw [List.length_cons]
    omega
theorem up_short {g : List Nat} {n : Nat} (h : g.Pairwise (· < ·)) (hi : ∀ i ∈ g, i < n) : g.length ≤ n := by
  have := up_len (lo := 0) h fun i hj => ⟨Nat.zero_le _, hi i hj⟩
  omega
theorem plains_map : ∀ xs : List PyData, plains (xs.map DV.d) = some xs
  | [] => rfl
  | x :: xs => by
    rw [List.map_cons]
    unfold plains
    rw [plains_map xs]
/-- all closed groups, as the program hands them back -/
def upD (n : Nat) (rls : List (Nat × Nat)) : PyData := .tuple ((upsets n rls).map grD)
theorem gr_plain {g : List Nat} (h : g.length ≤ 1000) : plainD (grD g) = true := Bool.and_eq_true_iff.mpr ⟨decide_eq_true (by rw [List.length_map]; exact h), plain_map fun i _ => rfl⟩
theorem gr_dep (g : List Nat) : dep (grD g) ≤ 1 := Nat.add_le_add_right (depL_map (n := 0) fun i _ => Nat.le_refl _) 1
theorem up_plain {n : Nat} {rls : List (Nat × Nat)} (h : n ≤ 8) : plainD (upD n rls) = true := by
  refine Bool.and_eq_true_iff.mpr ⟨decide_eq_true ?_, plain_map fun g hg => gr_plain ?_⟩
  · rw [List.length_map]
    exact Nat.le_trans (upsets_len n rls) (Nat.le_trans (Nat.pow_le_pow_right (by decide) h) (by decide))
  · obtain ⟨h1, h2, _⟩ := mem_upsets.mp hg
    have := up_short h2 h1
    omega
theorem up_dep (n : Nat) (rls : List (Nat × Nat)) : dep (upD n rls) < 8 := Nat.lt_of_le_of_lt (Nat.add_le_add_right (depL_map (n := 1) fun g _ => gr_dep g) 1) (by decide)
end PM

namespace PM
/-! ### sums over lists of items -/
def rs (f : Nat → Rat) (g : List Nat) : Rat := (g.map f).sum
theorem rs_nil (f : Nat → Rat) : rs f [] = 0 := rfl
theorem rs_cons (f : Nat → Rat) (i : Nat) (g : List Nat) : rs f (i :: g) = f i + rs f g := by
  unfold rs
  rw [List.map_cons, List.sum_cons]
theorem rs_app (f : Nat → Rat) (g h : List Nat) : rs f (g ++ h) = rs f g + rs f h := by
  induction g with
  | nil => rw [List.nil_append, rs_nil]; grind
  | cons i g ih => rw [List.cons_append, rs_cons, rs_cons, ih]; grind
theorem rs_add (f h : Nat → Rat) (g : List Nat) : rs (fun i => f i + h i) g = rs f g + rs h g := by
  induction g with
  | nil => rw [rs_nil, rs_nil, rs_nil]; grind
  | cons i g ih => rw [rs_cons, rs_cons, rs_cons, ih]; grind
theorem rs_mul (c : Rat) (f : Nat → Rat) (g : List Nat) : rs (fun i => c * f i) g = c * rs f g := by
  induction g with
  | nil => rw [rs_nil, rs_nil]; grind
  | cons i g ih => rw [rs_cons, rs_cons, ih]; grind
theorem rs_sub (f h : Nat → Rat) (g : List Nat) : rs (fun i => f i - h i) g = rs f g - rs h g := by
  induction g with
  | nil => rw [rs_nil, rs_nil, rs_nil]; grind
  | cons i g ih => rw [rs_cons, rs_cons, rs_cons, ih]; grind
theorem rs_congr {f h : Nat → Rat} {g : List Nat} (e : ∀ i ∈ g, f i = h i) : rs f g = rs h g := by
  induction g with
  | nil => rfl
  | cons i g ih => rw [rs_cons, rs_cons, e i List.mem_cons_self, ih fun j hj => e j (List.mem_cons_of_mem _ hj)]
theorem rs_perm (f : Nat → Rat) {g h : List Nat} (p : g.Perm h) : rs f g = rs f h := by
  induction p with
  | nil => rfl
  | cons x _ ih => rw [rs_cons, rs_cons, ih]
  | swap x y l => rw [rs_cons, rs_cons, rs_cons, rs_cons]; grind
  | trans _ _ a b => exact a.trans b
theorem rs_split (f : Nat → Rat) (p : Nat → Bool) (g : List Nat) : rs f (g.filter p) + rs f (g.filter fun i => !p i) = rs f g := by
  induction g with
  | nil => rw [List.filter_nil, List.filter_nil, rs_nil]; grind
  | cons i g ih =>
    cases h : p i with
    | true => rw [List.filter_cons_of_pos h, List.filter_cons_of_neg (by rw [h]; decide), rs_cons, rs_cons, ← ih]; grind
    | false => rw [List.filter_cons_of_neg (by rw [h]; decide), List.filter_cons_of_pos (by rw [h]; rfl), rs_cons, rs_cons, ← ih]; grind
theorem rs_nonneg {f : Nat → Rat} {g : List Nat} (h : ∀ i ∈ g, 0 ≤ f i) : 0 ≤ rs f g := by
  induction g with
  | nil => rw [rs_nil]; grind
  | cons i g ih =>
    rw [rs_cons]
    have a := h i List.mem_cons_self
    have b := ih fun j hj => h j (List.mem_cons_of_mem _ hj)
    grind
theorem rs_zero {f : Nat → Rat} {g : List Nat} (h : ∀ i ∈ g, 0 ≤ f i) (z : rs f g ≤ 0) : ∀ i ∈ g, f i = 0 := by
  induction g with
  | nil => exact fun i hi => nomatch hi
  | cons i g ih =>
    rw [rs_cons] at z
    have a := h i List.mem_cons_self
    have b := rs_nonneg fun j hj => h j (List.mem_cons_of_mem _ hj)
    intro j hj
    rcases List.mem_cons.mp hj with rfl | hj
    · grind
    · exact ih (fun j hj => h j (List.mem_cons_of_mem _ hj)) (by grind) j hj
theorem least_of (s : Nat → Rat) : ∀ {L : List Nat}, L ≠ [] → ∃ i ∈ L, ∀ j ∈ L, s i ≤ s j
  | [], h => absurd rfl h
  | [i], _ => ⟨i, List.mem_cons_self, fun j hj => by rw [List.mem_singleton.mp hj]; exact Rat.le_refl⟩
  | i :: k :: L, _ => by
    obtain ⟨a, ha, h⟩ := least_of s (L := k :: L) (by simp)
    rcases Rat.le_total (a := s i) (b := s a) with z | z
    · refine ⟨i, List.mem_cons_self, fun j hj => ?_⟩
      rcases List.mem_cons.mp hj with rfl | hj
      · exact Rat.le_refl
      · exact Rat.le_trans z (h j hj)
    · refine ⟨a, List.mem_cons_of_mem _ ha, fun j hj => ?_⟩
      rcases List.mem_cons.mp hj with rfl | hj
      · exact z
      · exact h j hj
theorem filter_filter' (p q : Nat → Bool) (L : List Nat) : (L.filter p).filter q = L.filter fun i => q i && p i := by
  rw [List.filter_filter]
/-- sums by levels -/
theorem layers {f s : Nat → Rat} : ∀ (k : Nat) (L : List Nat) (b : Rat), L.length ≤ k → (∀ c, rs f (L.filter fun i => decide (c ≤ s i)) ≤ 0) → (∀ i ∈ L, b ≤ s i) → rs (fun i => f i * (s i - b)) L ≤ 0
  | 0, L, b, hk, _, _ => by
    have : L = [] := List.length_eq_zero_iff.mp (by omega)
    subst this
    rw [rs_nil]
    exact Rat.le_refl
  | k + 1, L, b, hk, h, hb => by
    by_cases e : L = []
    · subst e
      rw [rs_nil]
      exact Rat.le_refl
    · obtain ⟨a, ha, hm⟩ := least_of s e
      have all : ∀ c, c ≤ s a → L.filter (fun i => decide (c ≤ s i)) = L := fun c hc => List.filter_eq_self.mpr fun i hi => decide_eq_true (Rat.le_trans hc (hm i hi))
      have h1 := h (s a)
      rw [all _ Rat.le_refl] at h1
      have hlen : (L.filter fun i => !decide (s i = s a)).length ≤ k := by
        have : (L.filter fun i => !decide (s i = s a)).length < L.length := by
          rcases Nat.lt_or_ge (L.filter fun i => !decide (s i = s a)).length L.length with z | z
          · exact z
          · have e2 := List.length_filter_eq_length_iff.mp (Nat.le_antisymm (List.length_filter_le _ _) z)
            have := e2 a ha
            simp at this
        omega
      have ih := layers (f := f) (s := s) k (L.filter fun i => !decide (s i = s a)) (s a) hlen (fun c => ?_) fun i hi => hm i (List.mem_filter.mp hi).1
      · have e1 : rs (fun i => f i * (s i - b)) L = rs (fun i => f i * (s i - s a)) L + (s a - b) * rs f L := by
          rw [← rs_mul, ← rs_add]
          exact rs_congr fun i _ => by grind
        have e2 := rs_split (fun i => f i * (s i - s a)) (fun i => decide (s i = s a)) L
        have e3 : rs (fun i => f i * (s i - s a)) (L.filter fun i => decide (s i = s a)) = 0 := by
          have : rs (fun i => f i * (s i - s a)) (L.filter fun i => decide (s i = s a)) = rs (fun i => 0 * f i) (L.filter fun i => decide (s i = s a)) := rs_congr fun i hi => by
            have := of_decide_eq_true (List.mem_filter.mp hi).2
            rw [this]
            grind
          rw [this, rs_mul]
          grind
        have h2 : 0 ≤ s a - b := by
          have := hb a ha
          grind
        have h3 : (s a - b) * rs f L ≤ 0 := by
          have := Rat.mul_le_mul_of_nonneg_left h1 h2
          grind
        rw [e1, ← e2, e3]
        grind
      · rw [filter_filter']
        by_cases z : c ≤ s a
        · have e4 : (L.filter fun i => decide (c ≤ s i) && !decide (s i = s a)) = L.filter fun i => !decide (s i = s a) := List.filter_congr fun i hi => by
            rw [decide_eq_true (Rat.le_trans z (hm i hi))]
            rfl
          rw [e4]
          by_cases e5 : (L.filter fun i => !decide (s i = s a)) = []
          · rw [e5, rs_nil]
            exact Rat.le_refl
          · obtain ⟨a2, ha2, hm2⟩ := least_of s e5
            have e6 : (L.filter fun i => !decide (s i = s a)) = L.filter fun i => decide (s a2 ≤ s i) := List.filter_congr fun i hi => by
              obtain ⟨q1, q2⟩ := List.mem_filter.mp ha2
              have q2 : s a2 ≠ s a := by simpa using q2
              have q3 := hm a2 q1
              by_cases y : s i = s a
              · rw [decide_eq_true y, decide_eq_false (by grind)]
                rfl
              · rw [decide_eq_false y, decide_eq_true (hm2 i (List.mem_filter.mpr ⟨hi, by rw [decide_eq_false y]; rfl⟩))]
                rfl
            rw [e6]
            exact h _
        · have e4 : (L.filter fun i => decide (c ≤ s i) && !decide (s i = s a)) = L.filter fun i => decide (c ≤ s i) := List.filter_congr fun i hi => by
            by_cases y : c ≤ s i
            · rw [decide_eq_true y, decide_eq_false (fun x : s i = s a => z (by rw [← x]; exact y))]
              rfl
            · rw [decide_eq_false y]
              rfl
          rw [e4]
          exact h c
/-- each level's sum is 0: so is the sum with any factor that the levels have -/
theorem by_levels {f s : Nat → Rat} (φ : Rat → Rat) : ∀ (k : Nat) (L : List Nat), L.length ≤ k → (∀ c, rs f (L.filter fun i => decide (s i = c)) = 0) → rs (fun i => f i * φ (s i)) L = 0
  | 0, L, hk, _ => by
    have : L = [] := List.length_eq_zero_iff.mp (by omega)
    subst this
    exact rs_nil _
  | k + 1, [], _, _ => rs_nil _
  | k + 1, a :: L, hk, h => by
    rw [← rs_split _ (fun i => decide (s i = s a))]
    have e1 : rs (fun i => f i * φ (s i)) ((a :: L).filter fun i => decide (s i = s a)) = φ (s a) * rs f ((a :: L).filter fun i => decide (s i = s a)) := by
      rw [← rs_mul]
      refine rs_congr fun i hi => ?_
      rw [of_decide_eq_true (List.mem_filter.mp hi).2]
      grind
    rw [e1, h]
    have e2 : ((a :: L).filter fun i => !decide (s i = s a)) = L.filter fun i => !decide (s i = s a) := List.filter_cons_of_neg (by simp)
    have ih := by_levels (f := f) (s := s) φ k (L.filter fun i => !decide (s i = s a)) (Nat.le_trans (List.length_filter_le _ _) (by rw [List.length_cons] at hk; omega)) fun c => ?_
    · rw [e2, ih]
      grind
    · by_cases z : c = s a
      · have : ((L.filter fun i => !decide (s i = s a)).filter fun i => decide (s i = c)) = [] := List.filter_eq_nil_iff.mpr fun i hi => by
          have := (List.mem_filter.mp hi).2
          rw [z]
          simpa using this
        rw [this, rs_nil]
      · have := h c
        rw [List.filter_cons_of_neg (by simpa using fun y => z y.symm)] at this
        rw [filter_filter']
        have e3 : (L.filter fun i => decide (s i = c) && !decide (s i = s a)) = L.filter fun i => decide (s i = c) := List.filter_congr fun i hi => by
          by_cases y : s i = c
          · rw [decide_eq_true y, decide_eq_false (fun x => z (y.symm.trans x))]
            rfl
          · rw [decide_eq_false y]
            rfl
        rw [e3]
        exact this
/-! ### the best rating -/
def Wt (its : List (Int × Int)) (i : Nat) : Rat := ((itm its i).2 : Rat)
def Mk (its : List (Int × Int)) (i : Nat) : Rat := ((itm its i).1 : Rat)
/-- weight times (mark - rating) -/
def Fo (its : List (Int × Int)) (r : Nat → Rat) (i : Nat) : Rat := Wt its i * (Mk its i - r i)
structure Best (its : List (Int × Int)) (rls : List (Nat × Nat)) (r : Nat → Rat) : Prop where
  obey : ∀ q ∈ rls, r q.1 ≤ r q.2
  up : ∀ g ∈ upsets its.length rls, rs (Fo its r) g ≤ 0
  lev : ∀ c, rs (Fo its r) ((List.range its.length).filter fun i => decide (r i = c)) = 0
/-- what a panel's items and rules are known to be -/
structure PnOk (its : List (Int × Int)) (rls : List (Nat × Nat)) : Prop where
  wt : ∀ q ∈ its, 1 ≤ q.2
  rl : ∀ q ∈ rls, q.1 < its.length ∧ q.2 < its.length
theorem PnOk.pos {its : List (Int × Int)} {rls : List (Nat × Nat)} (h : PnOk its rls) {i : Nat} (hi : i < its.length) : 0 < Wt its i := by
  have := h.wt _ (itm_mem hi)
  unfold Wt
  exact Rat.intCast_pos.mpr (by omega)
theorem range_mem_up {n : Nat} {rls : List (Nat × Nat)} (p : Nat → Bool) (h : ∀ q ∈ rls, p q.1 = true → q.2 < n ∧ p q.2 = true) : (List.range n).filter p ∈ upsets n rls := by
  refine mem_upsets.mpr ⟨fun i hi => List.mem_range.mp (List.mem_filter.mp hi).1, List.pairwise_lt_range.filter _, fun q hq h1 => ?_⟩
  obtain ⟨_, h2⟩ := List.mem_filter.mp h1
  exact List.mem_filter.mpr ⟨List.mem_range.mpr (h q hq h2).1, (h q hq h2).2⟩
section
variable {its : List (Int × Int)} {rls : List (Nat × Nat)} {r s : Nat → Rat}
theorem Best.all0 (b : Best its rls r) : rs (Fo its r) (List.range its.length) = 0 := by
  have := by_levels (f := Fo its r) (s := r) (fun _ => 1) _ (List.range its.length) (Nat.le_refl _) b.lev
  rw [← this]
  exact rs_congr fun i _ => by grind
theorem Best.own0 (b : Best its rls r) : rs (fun i => Fo its r i * r i) (List.range its.length) = 0 := by_levels (f := Fo its r) (s := r) (fun x => x) _ (List.range its.length) (Nat.le_refl _) b.lev
/-- against any rating that obeys -/
theorem Best.vi (b : Best its rls r) (ok : PnOk its rls) (hs : ∀ q ∈ rls, s q.1 ≤ s q.2) : rs (fun i => Fo its r i * (s i - r i)) (List.range its.length) ≤ 0 := by
  by_cases e : List.range its.length = []
  · rw [e, rs_nil]
    exact Rat.le_refl
  · obtain ⟨a, ha, hm⟩ := least_of s e
    have h1 := layers (f := Fo its r) (s := s) _ (List.range its.length) (s a) (Nat.le_refl _) (fun c => b.up _ (range_mem_up _ fun q hq h => ⟨(ok.rl q hq).2, decide_eq_true (Rat.le_trans (of_decide_eq_true h) (hs q hq))⟩)) hm
    have h2 := b.all0
    have h3 := b.own0
    have e1 : rs (fun i => Fo its r i * (s i - r i)) (List.range its.length) = rs (fun i => Fo its r i * (s i - s a)) (List.range its.length) + s a * rs (Fo its r) (List.range its.length) - rs (fun i => Fo its r i * r i) (List.range its.length) := by
      rw [← rs_mul, ← rs_add, ← rs_sub]
      exact rs_congr fun i _ => by grind
    rw [e1, h2, h3]
    grind
/-- its cost is the least, by the distance -/
theorem Best.cost (b : Best its rls r) (ok : PnOk its rls) (hs : ∀ q ∈ rls, s q.1 ≤ s q.2) :
    rs (fun i => Wt its i * ((r i - Mk its i) * (r i - Mk its i))) (List.range its.length) + rs (fun i => Wt its i * ((s i - r i) * (s i - r i))) (List.range its.length) ≤ rs (fun i => Wt its i * ((s i - Mk its i) * (s i - Mk its i))) (List.range its.length) := by
  have h := b.vi ok hs
  have e1 : rs (fun i => Wt its i * ((s i - Mk its i) * (s i - Mk its i))) (List.range its.length) = rs (fun i => Wt its i * ((r i - Mk its i) * (r i - Mk its i))) (List.range its.length) + rs (fun i => Wt its i * ((s i - r i) * (s i - r i))) (List.range its.length) - 2 * rs (fun i => Fo its r i * (s i - r i)) (List.range its.length) := by
    rw [← rs_mul, ← rs_add, ← rs_sub]
    exact rs_congr fun i _ => by unfold Fo; grind
  rw [e1]
  grind
theorem Best.uniq (b : Best its rls r) (b' : Best its rls s) (ok : PnOk its rls) : ∀ i, i < its.length → r i = s i := by
  have h1 := b.vi ok b'.obey
  have h2 := b'.vi ok b.obey
  have e : rs (fun i => Wt its i * ((s i - r i) * (s i - r i))) (List.range its.length) = rs (fun i => Fo its r i * (s i - r i)) (List.range its.length) + rs (fun i => Fo its s i * (r i - s i)) (List.range its.length) := by
    rw [← rs_add]
    exact rs_congr fun i _ => by unfold Fo; grind
  have nn : ∀ i ∈ List.range its.length, 0 ≤ Wt its i * ((s i - r i) * (s i - r i)) := fun i hi => Rat.mul_nonneg (Rat.le_of_lt (ok.pos (List.mem_range.mp hi))) (by
    rcases Rat.nonneg_total (s i - r i) with z | z
    · exact Rat.mul_nonneg z z
    · have := Rat.mul_nonneg z z
      grind)
  have z := rs_zero nn (by rw [e]; grind)
  intro i hi
  have h := z i (List.mem_range.mpr hi)
  have p := ok.pos hi
  have q : (s i - r i) * (s i - r i) = 0 := by
    rcases Rat.mul_eq_zero.mp h with y | y
    · rw [y] at p
      exact absurd p (by decide)
    · exact y
  rcases Rat.mul_eq_zero.mp q with y | y <;> grind
end
end PM

namespace PM
/-! ### amounts on rules whose ends are rated alike -/
def ov (i : Nat) (p : (Nat × Nat) × Rat) : Rat := (if p.1.1 = i then p.2 else 0) - (if p.1.2 = i then p.2 else 0)
def oSum (ps : List ((Nat × Nat) × Rat)) (i : Nat) : Rat := (ps.map (ov i)).sum
theorem oSum_nil (i : Nat) : oSum [] i = 0 := rfl
theorem oSum_cons (p : (Nat × Nat) × Rat) (ps : List ((Nat × Nat) × Rat)) (i : Nat) : oSum (p :: ps) i = ov i p + oSum ps i := by
  unfold oSum
  rw [List.map_cons, List.sum_cons]
theorem rs_one {g : List Nat} (h : g.Nodup) (j : Nat) (a : Rat) : rs (fun i => if j = i then a else 0) g = if j ∈ g then a else 0 := by
  induction g with
  | nil => rw [rs_nil, if_neg (by simp)]
  | cons i g ih =>
    obtain ⟨h1, h2⟩ := List.nodup_cons.mp h
    rw [rs_cons, ih h2]
    by_cases z : j = i
    · subst z
      rw [if_pos rfl, if_neg h1, if_pos List.mem_cons_self]
      grind
    · rw [if_neg z]
      by_cases y : j ∈ g
      · rw [if_pos y, if_pos (List.mem_cons_of_mem _ y)]
        grind
      · rw [if_neg y, if_neg fun x => (List.mem_cons.mp x).elim z y]
        grind
theorem rs_flow {g : List Nat} (h : g.Nodup) : ∀ ps : List ((Nat × Nat) × Rat), rs (oSum ps) g = (ps.map fun p => (if p.1.1 ∈ g then p.2 else 0) - (if p.1.2 ∈ g then p.2 else 0)).sum
  | [] => by
    have : rs (oSum []) g = rs (fun i => 0 * (0 : Rat)) g := rs_congr fun i _ => by rw [oSum_nil]; grind
    rw [this, rs_mul]
    simp only [List.map_nil, List.sum_nil]
    grind
  | p :: ps => by
    have : rs (oSum (p :: ps)) g = rs (fun i => ov i p + oSum ps i) g := rs_congr fun i _ => oSum_cons p ps i
    rw [this, rs_add, rs_flow h ps, List.map_cons, List.sum_cons]
    have e : rs (fun i => ov i p) g = (if p.1.1 ∈ g then p.2 else 0) - (if p.1.2 ∈ g then p.2 else 0) := by
      rw [← rs_one h p.1.1 p.2, ← rs_one h p.1.2 p.2, ← rs_sub]
      rfl
    rw [e]
theorem sum_le0 : ∀ {xs : List Rat}, (∀ x ∈ xs, x ≤ 0) → xs.sum ≤ 0
  | [], _ => Rat.le_refl
  | x :: xs, h => by
    rw [List.sum_cons]
    have a := h x List.mem_cons_self
    have b := sum_le0 fun y hy => h y (List.mem_cons_of_mem _ hy)
    grind
theorem sum_eq0 : ∀ {xs : List Rat}, (∀ x ∈ xs, x = 0) → xs.sum = 0
  | [], _ => rfl
  | x :: xs, h => by
    rw [List.sum_cons, h x List.mem_cons_self, sum_eq0 fun y hy => h y (List.mem_cons_of_mem _ hy)]
    grind
theorem up_nodup {g : List Nat} (h : g.Pairwise (· < ·)) : g.Nodup := h.imp fun {a b} x z => by omega
/-- a rating that amounts support is the best one -/
theorem Best.of_flow {its : List (Int × Int)} {rls : List (Nat × Nat)} {r : Nat → Rat} (ps : List ((Nat × Nat) × Rat)) (obey : ∀ q ∈ rls, r q.1 ≤ r q.2) (ok : PnOk its rls) (mem : ∀ p ∈ ps, p.1 ∈ rls) (nn : ∀ p ∈ ps, 0 ≤ p.2) (tight : ∀ p ∈ ps, p.2 ≠ 0 → r p.1.1 = r p.1.2) (fl : ∀ i, i < its.length → Fo its r i = oSum ps i) : Best its rls r where
  obey := obey
  up := fun g hg => by
    obtain ⟨g1, g2, g3⟩ := mem_upsets.mp hg
    rw [rs_congr fun i hi => fl i (g1 i hi), rs_flow (up_nodup g2)]
    refine sum_le0 fun x hx => ?_
    obtain ⟨p, hp, rfl⟩ := List.mem_map.mp hx
    have a := nn p hp
    by_cases z : p.1.1 ∈ g
    · rw [if_pos z, if_pos (g3 _ (mem p hp) z)]
      grind
    · rw [if_neg z]
      by_cases y : p.1.2 ∈ g
      · rw [if_pos y]
        grind
      · rw [if_neg y]
        grind
  lev := fun c => by
    rw [rs_congr fun i hi => fl i (List.mem_range.mp (List.mem_filter.mp hi).1), rs_flow (up_nodup (List.pairwise_lt_range.filter _))]
    refine sum_eq0 fun x hx => ?_
    obtain ⟨p, hp, rfl⟩ := List.mem_map.mp hx
    by_cases e : p.2 = 0
    · rw [e]
      split <;> split <;> grind
    · have t := tight p hp e
      obtain ⟨l1, l2⟩ := ok.rl _ (mem p hp)
      by_cases z : r p.1.1 = c
      · rw [if_pos (List.mem_filter.mpr ⟨List.mem_range.mpr l1, decide_eq_true z⟩), if_pos (List.mem_filter.mpr ⟨List.mem_range.mpr l2, decide_eq_true (t ▸ z)⟩)]
        grind
      · have n1 : p.1.1 ∉ (List.range its.length).filter fun i => decide (r i = c) := fun y => z (by simpa using (List.mem_filter.mp y).2)
        have n2 : p.1.2 ∉ (List.range its.length).filter fun i => decide (r i = c) := fun y => z (t.trans (by simpa using (List.mem_filter.mp y).2))
        rw [if_neg n1, if_neg n2]
        grind
/-! ### the levels, as the program finds them -/
def better (its : List (Int × Int)) (b g : List Nat) : List Nat :=
  if 0 < wsum its g * wgt its b - wsum its b * wgt its g ∨ (wsum its g * wgt its b - wsum its b * wgt its g = 0 ∧ b.length < g.length) then g else b
def hiG (its : List (Int × Int)) : List (List Nat) → List Nat
  | [] => []
  | g :: gs => (g :: gs).foldl (better its) g
def restG (top g : List Nat) : List Nat := g.filter fun i => !decide (i ∈ top)
def keepG (top g : List Nat) : Bool := decide (0 < (restG top g).length) && decide (g.length = (restG top g).length + top.length)
def beyond (gs : List (List Nat)) (top : List Nat) : List (List Nat) := (gs.filter (keepG top)).map (restG top)
def avF (its : List (Int × Int)) (g : List Nat) : Int × Int := Fr.red (wsum its g) (wgt its g)
def levLoop (its : List (Int × Int)) : Nat → List (List Nat) → List ((Int × Int) × List Nat)
  | 0, _ => []
  | _ + 1, [] => []
  | k + 1, g :: gs => (avF its (hiG its (g :: gs)), hiG its (g :: gs)) :: levLoop its k (beyond (g :: gs) (hiG its (g :: gs)))
def ups1 (n : Nat) (rls : List (Nat × Nat)) : List (List Nat) := (upsets n rls).filter fun g => decide (0 < g.length)
/-- the levels, values falling -/
def levD (its : List (Int × Int)) (rls : List (Nat × Nat)) : List ((Int × Int) × List Nat) := levLoop its (ups1 its.length rls).length (ups1 its.length rls)
/-- average as a number -/
def avR (its : List (Int × Int)) (g : List Nat) : Rat := rs (fun i => Wt its i * Mk its i) g / rs (Wt its) g
theorem wsum_rs (its : List (Int × Int)) : ∀ g : List Nat, ((wsum its g : Int) : Rat) = rs (fun i => Wt its i * Mk its i) g
  | [] => rfl
  | i :: g => by
    have ih := wsum_rs its g
    rw [rs_cons, ← ih]
    unfold wsum Wt Mk
    rw [List.map_cons, List.sum_cons, Rat.intCast_add, Rat.intCast_mul]
theorem wgt_rs (its : List (Int × Int)) : ∀ g : List Nat, ((wgt its g : Int) : Rat) = rs (Wt its) g
  | [] => rfl
  | i :: g => by
    have ih := wgt_rs its g
    rw [rs_cons, ← ih]
    unfold wgt Wt
    rw [List.map_cons, List.sum_cons, Rat.intCast_add]
section
variable {its : List (Int × Int)} {rls : List (Nat × Nat)}
theorem PnOk.wpos (ok : PnOk its rls) : ∀ {g : List Nat}, (∀ i ∈ g, i < its.length) → g ≠ [] → 0 < rs (Wt its) g
  | [], _, h => absurd rfl h
  | [i], hi, _ => by
    rw [rs_cons, rs_nil]
    have := ok.pos (hi i List.mem_cons_self)
    grind
  | i :: j :: g, hi, _ => by
    rw [rs_cons]
    have a := ok.pos (hi i List.mem_cons_self)
    have b := PnOk.wpos ok (g := j :: g) (fun k hk => hi k (List.mem_cons_of_mem _ hk)) (by simp)
    grind
theorem PnOk.wposI (ok : PnOk its rls) {g : List Nat} (hi : ∀ i ∈ g, i < its.length) (h : g ≠ []) : 0 < wgt its g := by
  have := ok.wpos hi h
  rw [← wgt_rs] at this
  exact Rat.intCast_pos.mp this
theorem avF_val (ok : PnOk its rls) {g : List Nat} (hi : ∀ i ∈ g, i < its.length) (h : g ≠ []) : Fr.IsF (avF its g) ∧ Fr.val (avF its g) = avR its g := by
  have w := ok.wposI hi h
  refine ⟨Fr.red_isF w, ?_⟩
  unfold avF avR
  rw [Fr.red_val (by omega), wsum_rs, wgt_rs]
/-- comparing averages by cross products -/
theorem av_lt (ok : PnOk its rls) {g h : List Nat} (hg : ∀ i ∈ g, i < its.length) (hh : ∀ i ∈ h, i < its.length) (ng : g ≠ []) (nh : h ≠ []) :
    (0 < wsum its g * wgt its h - wsum its h * wgt its g ↔ avR its h < avR its g) ∧ (wsum its g * wgt its h - wsum its h * wgt its g = 0 ↔ avR its g = avR its h) := by
  have w1 := ok.wpos hg ng
  have w2 := ok.wpos hh nh
  have e : (((wsum its g * wgt its h - wsum its h * wgt its g) : Int) : Rat) = (avR its g - avR its h) * (rs (Wt its) g * rs (Wt its) h) := by
    rw [Rat.intCast_sub, Rat.intCast_mul, Rat.intCast_mul, wsum_rs, wsum_rs, wgt_rs, wgt_rs]
    unfold avR
    have n1 : rs (Wt its) g ≠ 0 := fun z => by rw [z] at w1; exact absurd w1 (by decide)
    have n2 : rs (Wt its) h ≠ 0 := fun z => by rw [z] at w2; exact absurd w2 (by decide)
    grind
  have p := Rat.mul_pos w1 w2
  refine ⟨?_, ?_⟩
  · rw [← Rat.intCast_pos, e, Rat.mul_pos_iff_of_pos_right p]
    constructor <;> intro z <;> grind
  · have : (wsum its g * wgt its h - wsum its h * wgt its g = 0) ↔ (((wsum its g * wgt its h - wsum its h * wgt its g) : Int) : Rat) = 0 := by
      constructor
      · intro z; rw [z]; rfl
      · intro z
        exact Rat.intCast_inj.mp z
    rw [this, e, Rat.mul_eq_zero]
    constructor
    · rintro (z | z)
      · grind
      · rw [z] at p
        exact absurd p (by decide)
    · intro z
      left
      grind
/-- b is at least as good a top as g -/
def Geq (its : List (Int × Int)) (b g : List Nat) : Prop := avR its g < avR its b ∨ (avR its g = avR its b ∧ g.length ≤ b.length)
theorem Geq.refl (b : List Nat) : Geq its b b := .inr ⟨rfl, Nat.le_refl _⟩
theorem Geq.trans {a b c : List Nat} (h : Geq its a b) (h' : Geq its b c) : Geq its a c := by
  rcases h with h | ⟨h, l⟩ <;> rcases h' with h' | ⟨h', l'⟩
  · exact .inl (by grind)
  · exact .inl (by grind)
  · exact .inl (by grind)
  · exact .inr ⟨by grind, by omega⟩
theorem better_geq (ok : PnOk its rls) {b g : List Nat} (hb : ∀ i ∈ b, i < its.length) (hg : ∀ i ∈ g, i < its.length) (nb : b ≠ []) (ng : g ≠ []) : Geq its (better its b g) b ∧ Geq its (better its b g) g := by
  obtain ⟨c1, c2⟩ := av_lt ok hg hb ng nb
  unfold better
  split
  · rename_i z
    refine ⟨?_, Geq.refl _⟩
    rcases z with z | ⟨z, l⟩
    · exact .inl (c1.mp z)
    · exact .inr ⟨(c2.mp z).symm, by omega⟩
  · rename_i z
    refine ⟨Geq.refl _, ?_⟩
    have z1 : ¬ avR its b < avR its g := fun y => z (.inl (c1.mpr y))
    rcases Rat.le_total (a := avR its g) (b := avR its b) with y | y
    · by_cases x : avR its g = avR its b
      · refine .inr ⟨x, ?_⟩
        rcases Nat.lt_or_ge b.length g.length with u | u
        · exact absurd (.inr ⟨c2.mpr x, u⟩) z
        · exact u
      · exact .inl (by grind)
    · have : avR its g = avR its b := by grind
      refine .inr ⟨this, ?_⟩
      rcases Nat.lt_or_ge b.length g.length with u | u
      · exact absurd (.inr ⟨c2.mpr this, u⟩) z
      · exact u
theorem hiG_spec (ok : PnOk its rls) {gs : List (List Nat)} (hs : ∀ g ∈ gs, (∀ i ∈ g, i < its.length) ∧ g ≠ []) (ne : gs ≠ []) : hiG its gs ∈ gs ∧ ∀ g ∈ gs, Geq its (hiG its gs) g := by
  have go : ∀ (l : List (List Nat)) (b : List Nat), (∀ g ∈ l, (∀ i ∈ g, i < its.length) ∧ g ≠ []) → ((∀ i ∈ b, i < its.length) ∧ b ≠ []) → (l.foldl (better its) b = b ∨ l.foldl (better its) b ∈ l) ∧ Geq its (l.foldl (better its) b) b ∧ ∀ g ∈ l, Geq its (l.foldl (better its) b) g := by
    intro l
    induction l with
    | nil => exact fun b _ _ => ⟨.inl rfl, Geq.refl _, fun g hg => nomatch hg⟩
    | cons g l ih =>
      intro b hl hb
      have hg := hl g List.mem_cons_self
      have bet := better_geq ok hb.1 hg.1 hb.2 hg.2
      have hb' : better its b g = b ∨ better its b g = g := by
        unfold better
        split
        · exact .inr rfl
        · exact .inl rfl
      obtain ⟨i1, i2, i3⟩ := ih (better its b g) (fun x hx => hl x (List.mem_cons_of_mem _ hx)) (by rcases hb' with z | z <;> rw [z] <;> assumption)
      rw [List.foldl_cons]
      refine ⟨?_, i2.trans bet.1, fun x hx => ?_⟩
      · rcases i1 with z | z
        · rw [z]
          rcases hb' with y | y <;> rw [y]
          · exact .inl rfl
          · exact .inr List.mem_cons_self
        · exact .inr (List.mem_cons_of_mem _ z)
      · rcases List.mem_cons.mp hx with rfl | hx
        · exact i2.trans bet.2
        · exact i3 x hx
  match gs, ne, hs with
  | g :: gs, _, hs =>
    obtain ⟨h1, _, h3⟩ := go (g :: gs) g hs (hs g List.mem_cons_self)
    refine ⟨?_, h3⟩
    rcases h1 with z | z
    · show (g :: gs).foldl (better its) g ∈ g :: gs
      rw [z]
      exact List.mem_cons_self
    · exact z
end
/-! ### what the levels are -/
theorem asc_ext {g h : List Nat} (hg : g.Pairwise (· < ·)) (hh : h.Pairwise (· < ·)) (e : ∀ i, i ∈ g ↔ i ∈ h) : g = h :=
  List.Perm.eq_of_pairwise (le := fun a b => a < b) (fun a b _ _ h1 h2 => by omega) hg hh ((List.perm_ext_iff_of_nodup (up_nodup hg) (up_nodup hh)).mpr e)
theorem restG_mem {top g : List Nat} {i : Nat} : i ∈ restG top g ↔ i ∈ g ∧ i ∉ top := by
  unfold restG
  rw [List.mem_filter]
  simp
theorem restG_asc {top g : List Nat} (h : g.Pairwise (· < ·)) : (restG top g).Pairwise (· < ·) := h.filter _
theorem restG_len (top g : List Nat) : g.length = (restG top g).length + (g.filter fun i => decide (i ∈ top)).length := by
  unfold restG
  induction g with
  | nil => rfl
  | cons i g ih =>
    by_cases z : i ∈ top
    · rw [List.filter_cons_of_neg (by simp [z]), List.filter_cons_of_pos (by simp [z]), List.length_cons, List.length_cons, ih]
      omega
    · rw [List.filter_cons_of_pos (by simp [z]), List.filter_cons_of_neg (by simp [z]), List.length_cons, List.length_cons, ih]
      omega
theorem keep_iff {top g : List Nat} (ht : top.Nodup) (hg : g.Nodup) : keepG top g = true ↔ restG top g ≠ [] ∧ ∀ i ∈ top, i ∈ g := by
  unfold keepG
  rw [Bool.and_eq_true_iff, decide_eq_true_eq, decide_eq_true_eq, List.length_pos_iff]
  refine and_congr_right fun _ => ?_
  have e := restG_len top g
  have nd : (g.filter fun i => decide (i ∈ top)).Nodup := hg.filter _
  have sub : (g.filter fun i => decide (i ∈ top)) ⊆ top := fun i hi => by simpa using (List.mem_filter.mp hi).2
  constructor
  · intro h i hi
    by_cases z : i ∈ g
    · exact z
    · have n2 : i ∉ g.filter fun i => decide (i ∈ top) := fun y => z (List.mem_filter.mp y).1
      have := List.Nodup.length_le_of_subset (List.nodup_cons.mpr ⟨n2, nd⟩) (l₂ := top) fun j hj => by
        rcases List.mem_cons.mp hj with rfl | hj
        · exact hi
        · exact sub hj
      rw [List.length_cons] at this
      omega
  · intro h
    have := ((List.perm_ext_iff_of_nodup nd ht).mpr fun i => ⟨fun hi => sub hi, fun hi => List.mem_filter.mpr ⟨h i hi, by simpa using hi⟩⟩).length_eq
    omega
/-- what is left of the closed groups that contain T -/
def RestOf (n : Nat) (rls : List (Nat × Nat)) (T : List Nat) (gs : List (List Nat)) : Prop := ∀ h, h ∈ gs ↔ ∃ g ∈ upsets n rls, (∀ i ∈ T, i ∈ g) ∧ h = restG T g ∧ h ≠ []
theorem RestOf.first (n : Nat) (rls : List (Nat × Nat)) : RestOf n rls [] (ups1 n rls) := fun h => by
  have e : ∀ g : List Nat, restG [] g = g := fun g => List.filter_eq_self.mpr fun i _ => by simp
  unfold ups1
  rw [List.mem_filter]
  constructor
  · rintro ⟨h1, h2⟩
    exact ⟨h, h1, (fun i hi => nomatch hi), (e h).symm, List.length_pos_iff.mp (of_decide_eq_true h2)⟩
  · rintro ⟨g, h1, _, rfl, h2⟩
    rw [e] at h2 ⊢
    exact ⟨h1, decide_eq_true (List.length_pos_iff.mpr h2)⟩
theorem RestOf.asc {n : Nat} {rls : List (Nat × Nat)} {T : List Nat} {gs : List (List Nat)} (R : RestOf n rls T gs) {h : List Nat} (hm : h ∈ gs) : h.Pairwise (· < ·) ∧ (∀ i ∈ h, i < n ∧ i ∉ T) ∧ h ≠ [] := by
  obtain ⟨g, h1, _, rfl, h3⟩ := (R h).mp hm
  obtain ⟨g1, g2, _⟩ := mem_upsets.mp h1
  exact ⟨restG_asc g2, fun i hi => ⟨g1 i (restG_mem.mp hi).1, (restG_mem.mp hi).2⟩, h3⟩
theorem RestOf.step {n : Nat} {rls : List (Nat × Nat)} {T top g0 : List Nat} {gs : List (List Nat)} (R : RestOf n rls T gs) (ht : top ∈ gs) (h0 : g0 ∈ upsets n rls) (hT : ∀ i ∈ T, i ∈ g0) (e : top = restG T g0) : RestOf n rls g0 (beyond gs top) := fun x => by
  have at' := R.asc ht
  have mt : ∀ i, i ∈ g0 ↔ i ∈ T ∨ i ∈ top := fun i => by
    rw [e, restG_mem]
    by_cases z : i ∈ T
    · simp [z, hT i z]
    · simp [z]
  have rr : ∀ g : List Nat, restG top (restG T g) = restG g0 g := fun g => by
    unfold restG
    rw [List.filter_filter]
    refine List.filter_congr fun i _ => ?_
    have := mt i
    by_cases a : i ∈ T <;> by_cases b : i ∈ top <;> simp [a, b, this]
  unfold beyond
  rw [List.mem_map]
  constructor
  · rintro ⟨h, hm, rfl⟩
    obtain ⟨h1, h2⟩ := List.mem_filter.mp hm
    obtain ⟨k1, k2⟩ := (keep_iff (up_nodup at'.1) (up_nodup (R.asc h1).1)).mp h2
    obtain ⟨g, g1, g2, rfl, g4⟩ := (R h).mp h1
    rw [rr] at k1 ⊢
    refine ⟨g, g1, fun i hi => ?_, rfl, k1⟩
    rcases (mt i).mp hi with z | z
    · exact g2 i z
    · exact (restG_mem.mp (k2 i z)).1
  · rintro ⟨g, g1, g2, rfl, g4⟩
    have ne : restG T g ≠ [] := fun z => by
      rw [← rr, z] at g4
      exact g4 rfl
    have hm : restG T g ∈ gs := (R _).mpr ⟨g, g1, fun i hi => g2 i ((mt i).mpr (.inl hi)), rfl, ne⟩
    refine ⟨restG T g, List.mem_filter.mpr ⟨hm, (keep_iff (up_nodup at'.1) (up_nodup (R.asc hm).1)).mpr ⟨by rw [rr]; exact g4, fun i hi => ?_⟩⟩, rr g⟩
    exact restG_mem.mpr ⟨g2 i ((mt i).mpr (.inr hi)), (at'.2.1 i hi).2⟩
theorem beyond_short {gs : List (List Nat)} {top : List Nat} (h : top ∈ gs) : (beyond gs top).length < gs.length := by
  unfold beyond
  rw [List.length_map]
  rcases Nat.lt_or_ge (gs.filter (keepG top)).length gs.length with z | z
  · exact z
  · have e := List.length_filter_eq_length_iff.mp (Nat.le_antisymm (List.length_filter_le _ _) z) top h
    have : restG top top = [] := List.filter_eq_nil_iff.mpr fun i hi => by simp [hi]
    unfold keepG at e
    rw [this] at e
    simp at e
structure LvOk (its : List (Int × Int)) (rls : List (Nat × Nat)) (T : List Nat) (lv : List ((Int × Int) × List Nat)) : Prop where
  each : ∀ x ∈ lv, x.1 = avF its x.2 ∧ x.2 ≠ [] ∧ x.2.Pairwise (· < ·) ∧ ∀ i ∈ x.2, i < its.length ∧ i ∉ T
  desc : lv.Pairwise fun x y => avR its y.2 < avR its x.2 ∧ ∀ i ∈ x.2, i ∉ y.2
  cover : ∀ i, i < its.length → i ∈ T ∨ ∃ x ∈ lv, i ∈ x.2
  up : ∀ x ∈ lv, ∀ g ∈ upsets its.length rls, rs (fun i => Wt its i * (Mk its i - avR its x.2)) (g.filter fun i => decide (i ∈ x.2)) ≤ 0
  rule : ∀ q ∈ rls, ∀ x ∈ lv, q.1 ∈ x.2 → q.2 ∈ T ∨ ∃ y ∈ lv, q.2 ∈ y.2 ∧ avR its x.2 ≤ avR its y.2
theorem rs_dev (its : List (Int × Int)) (c : Rat) (g : List Nat) : rs (fun i => Wt its i * (Mk its i - c)) g = rs (fun i => Wt its i * Mk its i) g - c * rs (Wt its) g := by
  rw [← rs_mul, ← rs_sub]
  exact rs_congr fun i _ => by grind
section
variable {its : List (Int × Int)} {rls : List (Nat × Nat)}
theorem avR_mul (ok : PnOk its rls) {g : List Nat} (hi : ∀ i ∈ g, i < its.length) (h : g ≠ []) : rs (fun i => Wt its i * Mk its i) g = avR its g * rs (Wt its) g := by
  have w := ok.wpos hi h
  have n1 : rs (Wt its) g ≠ 0 := fun z => by rw [z] at w; exact absurd w (by decide)
  unfold avR
  grind
theorem lev_ok (ok : PnOk its rls) : ∀ (k : Nat) (T : List Nat) (gs : List (List Nat)), gs.length ≤ k → T ∈ upsets its.length rls → RestOf its.length rls T gs →
    LvOk its rls T (levLoop its k gs) ∧ ∀ B : Rat, (∀ h ∈ gs, avR its h < B) → ∀ x ∈ levLoop its k gs, avR its x.2 < B
  | k, T, [], hk, hT, R => by
    have e : levLoop its k [] = [] := by cases k <;> rfl
    rw [e]
    refine ⟨⟨(fun x hx => nomatch hx), .nil, fun i hi => .inl ?_, (fun x hx => nomatch hx), fun q _ x hx => nomatch hx⟩, fun B _ x hx => nomatch hx⟩
    by_cases z : i ∈ T
    · exact z
    · obtain ⟨t1, t2, t3⟩ := mem_upsets.mp hT
      have full : (List.range its.length).filter (fun _ => true) ∈ upsets its.length rls := range_mem_up _ fun q hq _ => ⟨(ok.rl q hq).2, rfl⟩
      have m : i ∈ restG T ((List.range its.length).filter fun _ => true) := restG_mem.mpr ⟨List.mem_filter.mpr ⟨List.mem_range.mpr hi, rfl⟩, z⟩
      have := (R (restG T ((List.range its.length).filter fun _ => true))).mpr ⟨_, full, fun j hj => List.mem_filter.mpr ⟨List.mem_range.mpr (t1 j hj), rfl⟩, rfl, fun y => by rw [y] at m; exact nomatch m⟩
      exact nomatch this
  | 0, T, g :: gs, hk, _, _ => absurd hk (by rw [List.length_cons]; omega)
  | k + 1, T, g :: gs, hk, hT, R => by
    obtain ⟨ht, hb⟩ := hiG_spec ok (gs := g :: gs) (fun h hh => ⟨fun i hi => ((R.asc hh).2.1 i hi).1, (R.asc hh).2.2⟩) (by simp)
    obtain ⟨top, etop⟩ : ∃ top, top = hiG its (g :: gs) := ⟨_, rfl⟩
    have el : levLoop its (k + 1) (g :: gs) = (avF its top, top) :: levLoop its k (beyond (g :: gs) top) := by rw [etop]; rfl
    rw [← etop] at ht hb
    rw [el]
    obtain ⟨g0, h0, hT0, et, tne⟩ := (R top).mp ht
    have at' := R.asc ht
    have ti : ∀ i ∈ top, i < its.length := fun i hi => (at'.2.1 i hi).1
    have mt : ∀ i, i ∈ g0 ↔ i ∈ T ∨ i ∈ top := fun i => by
      rw [et, restG_mem]
      by_cases z : i ∈ T
      · simp [z, hT0 i z]
      · simp [z]
    have R' := R.step ht h0 hT0 et
    have sh := beyond_short ht
    obtain ⟨L, Bd⟩ := lev_ok ok k g0 (beyond (g :: gs) top) (by omega) h0 R'
    -- what comes after is lower
    have low : ∀ h ∈ beyond (g :: gs) top, avR its h < avR its top := fun h hh => by
      obtain ⟨h', hm, rfl⟩ := List.mem_map.mp hh
      obtain ⟨h1, h2⟩ := List.mem_filter.mp hm
      obtain ⟨k1, k2⟩ := (keep_iff (up_nodup at'.1) (up_nodup (R.asc h1).1)).mp h2
      have ah := R.asc h1
      have hi : ∀ i ∈ h', i < its.length := fun i hi => (ah.2.1 i hi).1
      have ri : ∀ i ∈ restG top h', i < its.length := fun i hi' => hi i (restG_mem.mp hi').1
      have pm : h'.Perm (top ++ restG top h') := (List.perm_ext_iff_of_nodup (up_nodup ah.1) (List.nodup_append.mpr ⟨up_nodup at'.1, up_nodup (restG_asc ah.1), fun a ha b hb z => (restG_mem.mp (z ▸ hb)).2 ha⟩)).mpr fun i => by
        rw [List.mem_append, restG_mem]
        by_cases z : i ∈ top
        · simp [z, k2 i z]
        · simp [z]
      have s1 := rs_perm (fun i => Wt its i * Mk its i) pm
      have s2 := rs_perm (Wt its) pm
      rw [rs_app] at s1 s2
      have a1 := avR_mul ok hi ah.2.2
      have a2 := avR_mul ok ti tne
      have a3 := avR_mul ok ri k1
      have w1 := ok.wpos ti tne
      have w2 := ok.wpos ri k1
      have w3 := ok.wpos hi ah.2.2
      have len := pm.length_eq
      rw [List.length_append] at len
      have l0 := List.length_pos_iff.mpr k1
      have ge := hb h' h1
      rcases Rat.le_total (a := avR its top) (b := avR its (restG top h')) with z | z
      · exfalso
        -- then the greater group were at least as good, and longer
        have m := Rat.mul_le_mul_of_nonneg_right z (Rat.le_of_lt w2)
        have m2 : avR its top * rs (Wt its) h' ≤ avR its h' * rs (Wt its) h' := by
          rw [← a1, s1, s2, a2, a3]
          grind
        have m3 := Rat.le_of_mul_le_mul_right m2 w3
        rcases ge with y | ⟨_, y⟩
        · grind
        · omega
      · by_cases y : avR its (restG top h') = avR its top
        · exfalso
          have m2 : avR its top * rs (Wt its) h' ≤ avR its h' * rs (Wt its) h' := by
            rw [← a1, s1, s2, a2, a3, y]
            grind
          have m3 := Rat.le_of_mul_le_mul_right m2 w3
          rcases ge with x | ⟨_, x⟩
          · grind
          · omega
        · grind
    have tl := Bd (avR its top) low
    refine ⟨⟨fun x hx => ?_, List.pairwise_cons.mpr ⟨fun x hx => ⟨tl x hx, fun i hi => fun hi' => ((L.each x hx).2.2.2 i hi').2 ((mt i).mpr (.inr hi))⟩, L.desc⟩, fun i hi => ?_, fun x hx G hG => ?_, fun q hq x hx h1 => ?_⟩, fun B hB x hx => ?_⟩
    · rcases List.mem_cons.mp hx with rfl | hx
      · exact ⟨rfl, tne, at'.1, at'.2.1⟩
      · obtain ⟨e1, e2, e3, e4⟩ := L.each x hx
        exact ⟨e1, e2, e3, fun i hi => ⟨(e4 i hi).1, fun z => (e4 i hi).2 (hT0 i z)⟩⟩
    · rcases L.cover i hi with z | ⟨x, hx, z⟩
      · rcases (mt i).mp z with y | y
        · exact .inl y
        · exact .inr ⟨_, List.mem_cons_self, y⟩
      · exact .inr ⟨x, List.mem_cons_of_mem _ hx, z⟩
    · rcases List.mem_cons.mp hx with rfl | hx
      · dsimp only
        obtain ⟨G1, G2, G3⟩ := mem_upsets.mp hG
        obtain ⟨_, _, u3⟩ := mem_upsets.mp h0
        obtain ⟨t1, _, t3⟩ := mem_upsets.mp hT
        by_cases ne : (G.filter fun i => decide (i ∈ top)) = []
        · rw [ne, rs_nil]
          exact Rat.le_refl
        · have gm : (List.range its.length).filter (fun i => decide (i ∈ T) || (decide (i ∈ G) && decide (i ∈ g0))) ∈ upsets its.length rls := range_mem_up _ fun q hq h => by
            refine ⟨(ok.rl q hq).2, ?_⟩
            have h : q.1 ∈ T ∨ (q.1 ∈ G ∧ q.1 ∈ g0) := by simpa using h
            have : q.2 ∈ T ∨ (q.2 ∈ G ∧ q.2 ∈ g0) := by
              rcases h with y | ⟨y1, y2⟩
              · exact .inl (t3 q hq y)
              · exact .inr ⟨G3 q hq y1, u3 q hq y2⟩
            simpa using this
          have e : (G.filter fun i => decide (i ∈ top)) = restG T ((List.range its.length).filter fun i => decide (i ∈ T) || (decide (i ∈ G) && decide (i ∈ g0))) := by
            refine asc_ext (G2.filter _) (restG_asc (List.pairwise_lt_range.filter _)) fun i => ?_
            rw [restG_mem, List.mem_filter, List.mem_filter, List.mem_range]
            have m := mt i
            have a1 := G1 i
            have a2 := ti i
            have a3 := fun y => (at'.2.1 i y).2
            simp only [decide_eq_true_eq, Bool.or_eq_true, Bool.and_eq_true]
            constructor
            · rintro ⟨y1, y2⟩
              exact ⟨⟨a1 y1, .inr ⟨y1, m.mpr (.inr y2)⟩⟩, a3 y2⟩
            · rintro ⟨⟨y1, y2 | ⟨y2, y3⟩⟩, y4⟩
              · exact absurd y2 y4
              · exact ⟨y2, (m.mp y3).resolve_left y4⟩
          have mem : (G.filter fun i => decide (i ∈ top)) ∈ g :: gs := (R _).mpr ⟨_, gm, fun i hi => List.mem_filter.mpr ⟨List.mem_range.mpr (t1 i hi), by simp [hi]⟩, e, ne⟩
          have ge := hb _ mem
          have fi : ∀ i ∈ G.filter (fun i => decide (i ∈ top)), i < its.length := fun i hi => G1 i (List.mem_filter.mp hi).1
          rw [rs_dev, avR_mul ok fi ne]
          have w := ok.wpos fi ne
          have le : avR its (G.filter fun i => decide (i ∈ top)) ≤ avR its top := by
            rcases ge with y | ⟨y, _⟩
            · exact Rat.le_of_lt y
            · rw [y]
              exact Rat.le_refl
          have := Rat.mul_le_mul_of_nonneg_right le (Rat.le_of_lt w)
          grind
      · exact L.up x hx G hG
    · rcases List.mem_cons.mp hx with rfl | hx
      · obtain ⟨_, _, u3⟩ := mem_upsets.mp h0
        rcases (mt q.2).mp (u3 q hq ((mt q.1).mpr (.inr h1))) with y | y
        · exact .inl y
        · exact .inr ⟨_, List.mem_cons_self, y, Rat.le_refl⟩
      · rcases L.rule q hq x hx h1 with y | ⟨y, hy, y1, y2⟩
        · rcases (mt q.2).mp y with z | z
          · exact .inl z
          · exact .inr ⟨_, List.mem_cons_self, z, Rat.le_of_lt (tl x hx)⟩
        · exact .inr ⟨y, List.mem_cons_of_mem _ hy, y1, y2⟩
    · have b1 := hB top ht
      rcases List.mem_cons.mp hx with rfl | hx
      · exact b1
      · have := tl x hx
        grind
theorem levD_ok (ok : PnOk its rls) : LvOk its rls [] (levD its rls) :=
  (lev_ok ok _ [] (ups1 its.length rls) (Nat.le_refl _) (mem_upsets.mpr ⟨(fun i hi => nomatch hi), .nil, fun q _ h => nomatch h⟩) (RestOf.first _ _)).1
end
end PM

namespace PM
open PySem PySem.Spec PyProof.Rows L2 RZ
/-! ### the rating that levels make -/
def ratL (lv : List ((Int × Int) × List Nat)) (i : Nat) : Int × Int := ((lv.find? fun x => decide (i ∈ x.2)).map (·.1)).getD (0, 1)
def bestF (its : List (Int × Int)) (rls : List (Nat × Nat)) : List (Int × Int) := (List.range its.length).map (ratL (levD its rls))
def bestR (its : List (Int × Int)) (rls : List (Nat × Nat)) (i : Nat) : Rat := Fr.val (ratL (levD its rls) i)
section
variable {its : List (Int × Int)} {rls : List (Nat × Nat)}
theorem find_lv {T : List Nat} : ∀ {lv : List ((Int × Int) × List Nat)} {x : (Int × Int) × List Nat} {i : Nat}, lv.Pairwise (fun x y => avR its y.2 < avR its x.2 ∧ ∀ i ∈ x.2, i ∉ y.2) → x ∈ lv → i ∈ x.2 → lv.find? (fun x => decide (i ∈ x.2)) = some x
  | [], x, i, _, h, _ => nomatch h
  | y :: lv, x, i, hp, h, hi => by
    obtain ⟨p1, p2⟩ := List.pairwise_cons.mp hp
    rcases List.mem_cons.mp h with rfl | h
    · exact List.find?_cons_of_pos (by simpa using hi)
    · rw [List.find?_cons_of_neg (by simpa using fun z => (p1 x h).2 i z hi)]
      exact find_lv (T := T) p2 h hi
theorem LvOk.rat {lv : List ((Int × Int) × List Nat)} (L : LvOk its rls [] lv) {x : (Int × Int) × List Nat} {i : Nat} (hx : x ∈ lv) (hi : i ∈ x.2) : ratL lv i = x.1 := by
  unfold ratL
  rw [find_lv (T := []) L.desc hx hi]
  rfl
theorem LvOk.at {lv : List ((Int × Int) × List Nat)} (L : LvOk its rls [] lv) {i : Nat} (hi : i < its.length) : ∃ x ∈ lv, i ∈ x.2 := (L.cover i hi).resolve_left fun h => nomatch h
theorem LvOk.vals (ok : PnOk its rls) {lv : List ((Int × Int) × List Nat)} (L : LvOk its rls [] lv) {x : (Int × Int) × List Nat} (hx : x ∈ lv) : Fr.IsF x.1 ∧ Fr.val x.1 = avR its x.2 := by
  obtain ⟨e1, e2, e3, e4⟩ := L.each x hx
  have := avF_val ok (fun i hi => (e4 i hi).1) e2
  rw [e1]
  exact this
/-- each item of a group is in one of the levels -/
theorem rs_parts (f : Nat → Rat) : ∀ (lv : List ((Int × Int) × List Nat)) (g : List Nat), lv.Pairwise (fun x y => ∀ i ∈ x.2, i ∉ y.2) → (∀ i ∈ g, ∃ x ∈ lv, i ∈ x.2) → rs f g = (lv.map fun x => rs f (g.filter fun i => decide (i ∈ x.2))).sum
  | [], g, _, h => by
    cases g with
    | nil => rfl
    | cons i g =>
      obtain ⟨x, hx, _⟩ := h i List.mem_cons_self
      exact nomatch hx
  | x :: lv, g, hp, h => by
    obtain ⟨p1, p2⟩ := List.pairwise_cons.mp hp
    have ih := rs_parts f lv (g.filter fun i => !decide (i ∈ x.2)) p2 fun i hi => by
      obtain ⟨h1, h2⟩ := List.mem_filter.mp hi
      obtain ⟨y, hy, h3⟩ := h i h1
      rcases List.mem_cons.mp hy with rfl | hy
      · simp [h3] at h2
      · exact ⟨y, hy, h3⟩
    rw [List.map_cons, List.sum_cons, ← rs_split f (fun i => decide (i ∈ x.2)) g, ih]
    congr 2
    refine List.map_congr_left fun y hy => ?_
    rw [filter_filter']
    congr 1
    refine List.filter_congr fun i _ => ?_
    by_cases z : i ∈ y.2
    · have : i ∉ x.2 := fun w => p1 y hy i w z
      simp [z, this]
    · simp [z]
theorem lv_inj : ∀ {lv : List ((Int × Int) × List Nat)} {x y : (Int × Int) × List Nat}, lv.Pairwise (fun x y => avR its y.2 < avR its x.2 ∧ ∀ i ∈ x.2, i ∉ y.2) → x ∈ lv → y ∈ lv → avR its x.2 = avR its y.2 → x = y
  | [], x, y, _, h, _, _ => nomatch h
  | z :: lv, x, y, hp, hx, hy, e => by
    obtain ⟨p1, p2⟩ := List.pairwise_cons.mp hp
    rcases List.mem_cons.mp hx with e1 | h1 <;> rcases List.mem_cons.mp hy with e2 | h2
    · rw [e1, e2]
    · subst e1
      have := (p1 y h2).1
      rw [e] at this
      exact absurd this (Rat.lt_irrefl)
    · subst e2
      have := (p1 x h1).1
      rw [e] at this
      exact absurd this (Rat.lt_irrefl)
    · exact lv_inj p2 h1 h2 e
theorem LvOk.best (ok : PnOk its rls) {lv : List ((Int × Int) × List Nat)} (L : LvOk its rls [] lv) : Best its rls fun i => Fr.val (ratL lv i) where
  obey := fun q hq => by
    obtain ⟨x, hx, h1⟩ := L.at (ok.rl q hq).1
    rcases L.rule q hq x hx h1 with z | ⟨y, hy, h2, h3⟩
    · exact nomatch z
    · show Fr.val (ratL lv q.1) ≤ Fr.val (ratL lv q.2)
      rw [L.rat hx h1, L.rat hy h2, (L.vals ok hx).2, (L.vals ok hy).2]
      exact h3
  up := fun g hg => by
    obtain ⟨g1, _, _⟩ := mem_upsets.mp hg
    rw [rs_parts _ lv g (L.desc.imp fun {a b} h => h.2) fun i hi => L.at (g1 i hi)]
    refine sum_le0 fun r hr => ?_
    obtain ⟨x, hx, rfl⟩ := List.mem_map.mp hr
    have := L.up x hx g hg
    rw [← rs_congr (f := Fo its fun i => Fr.val (ratL lv i)) fun i hi => ?_] at this
    · exact this
    · have hi : i ∈ x.2 := by simpa using (List.mem_filter.mp hi).2
      show Wt its i * (Mk its i - Fr.val (ratL lv i)) = _
      rw [L.rat hx hi, (L.vals ok hx).2]
  lev := fun c => by
    by_cases ex : ∃ x ∈ lv, Fr.val x.1 = c
    · obtain ⟨x, hx, hc⟩ := ex
      obtain ⟨e1, e2, e3, e4⟩ := L.each x hx
      have xi : ∀ i ∈ x.2, i < its.length := fun i hi => (e4 i hi).1
      have e : (List.range its.length).filter (fun i => decide (Fr.val (ratL lv i) = c)) = x.2 := by
        refine asc_ext (List.pairwise_lt_range.filter _) e3 fun i => ?_
        rw [List.mem_filter, List.mem_range, decide_eq_true_eq]
        constructor
        · rintro ⟨h1, h2⟩
          obtain ⟨y, hy, h3⟩ := L.at h1
          rw [L.rat hy h3, (L.vals ok hy).2, ← hc, (L.vals ok hx).2] at h2
          by_cases z : y = x
          · exact z ▸ h3
          · exfalso
            exact z (lv_inj L.desc hy hx h2)
        · intro h
          exact ⟨xi i h, by rw [L.rat hx h]; exact hc⟩
      rw [e, rs_congr (h := fun i => Wt its i * (Mk its i - avR its x.2)) fun i hi => by show Wt its i * (Mk its i - Fr.val (ratL lv i)) = _; rw [L.rat hx hi, (L.vals ok hx).2], rs_dev, avR_mul ok xi e2]
      grind
    · have e : (List.range its.length).filter (fun i => decide (Fr.val (ratL lv i) = c)) = [] := List.filter_eq_nil_iff.mpr fun i hi => by
        obtain ⟨x, hx, h1⟩ := L.at (List.mem_range.mp hi)
        rw [L.rat hx h1]
        simpa using fun z => ex ⟨x, hx, z⟩
      rw [e, rs_nil]
theorem best_ok (ok : PnOk its rls) : Best its rls (bestR its rls) := (levD_ok ok).best ok
theorem ratL_isF (ok : PnOk its rls) {i : Nat} (hi : i < its.length) : Fr.IsF (ratL (levD its rls) i) := by
  have L := levD_ok ok
  obtain ⟨x, hx, h1⟩ := L.at hi
  rw [L.rat hx h1]
  exact (L.vals ok hx).1
/-- a rating that is known to be the best one is what comes out -/
theorem bestF_eq (ok : PnOk its rls) {r : Nat → Int × Int} (hf : ∀ i, i < its.length → Fr.IsF (r i)) (b : Best its rls fun i => Fr.val (r i)) : bestF its rls = (List.range its.length).map r := by
  unfold bestF
  refine List.map_congr_left fun i hi => ?_
  have hi := List.mem_range.mp hi
  exact Fr.val_inj (ratL_isF ok hi) (hf i hi) ((best_ok ok).uniq b ok i hi)
end
theorem PanOk.wide {most : Nat} {its : List (Int × Int)} {rls : List (Nat × Nat)} (h : PanOk most its rls) : Wide its := fun q hq => ⟨by have := h.mrk q hq; omega, (h.wt q hq).1, by have := h.wt q hq; omega⟩
theorem PanOk.pn {most : Nat} {its : List (Int × Int)} {rls : List (Nat × Nat)} (h : PanOk most its rls) : PnOk its rls := ⟨fun q hq => (h.wt q hq).1, fun q hq => ⟨(h.rl q hq).1, (h.rl q hq).2.1⟩⟩
theorem bestF_len (its : List (Int × Int)) (rls : List (Nat × Nat)) : (bestF its rls).length = its.length := by
  unfold bestF
  rw [List.length_map, List.length_range]
/-! ### how many levels, how great their values -/
theorem levLoop_len (its : List (Int × Int)) : ∀ (k : Nat) (gs : List (List Nat)), (levLoop its k gs).length ≤ k
  | 0, _ => Nat.le_refl _
  | k + 1, [] => Nat.zero_le _
  | k + 1, g :: gs => Nat.succ_le_succ (levLoop_len its k _)
theorem levD_len {its : List (Int × Int)} {rls : List (Nat × Nat)} (h : its.length ≤ 10) : (levD its rls).length ≤ 1024 := by
  refine Nat.le_trans (levLoop_len _ _ _) (Nat.le_trans (List.length_filter_le _ _) (Nat.le_trans (upsets_len _ _) ?_))
  exact Nat.le_trans (Nat.pow_le_pow_right (by decide) h) (by decide)
def lvD (x : (Int × Int) × List Nat) : PyData := .tuple [fd x.1, grD x.2]
/-! ### a dict and its values -/
theorem valD_snoc (k j : Int) (d : PyData) : ∀ kvs : List (Int × PyData), (kvs.any fun kv => decide (kv.1 = k)) = false → valD (kvs ++ [(k, d)]) j = if j = k then some d else valD kvs j
  | [], _ => by
    unfold valD
    by_cases e : j = k
    · rw [if_pos e]
      simp [e]
    · rw [if_neg e]
      have e' : ¬ k = j := fun z => e z.symm
      simp [e']
  | p :: r, h => by
    rw [List.any_cons, Bool.or_eq_false_iff] at h
    have ih := valD_snoc k j d r h.2
    have hp : p.1 ≠ k := of_decide_eq_false h.1
    unfold valD at ih ⊢
    rw [List.cons_append]
    by_cases e : p.1 = j
    · rw [List.find?_cons_of_pos (by simpa using e), List.find?_cons_of_pos (by simpa using e), if_neg (fun z => hp (e.trans z))]
    · rw [List.find?_cons_of_neg (by simpa using e), List.find?_cons_of_neg (by simpa using e)]
      exact ih
theorem valD_map (k j : Int) (d : PyData) : ∀ kvs : List (Int × PyData), valD (kvs.map fun kv => if kv.1 = k then (kv.1, d) else kv) j = (valD kvs j).map fun x => if j = k then d else x
  | [] => rfl
  | p :: r => by
    have ih := valD_map k j d r
    unfold valD at ih ⊢
    rw [List.map_cons]
    by_cases h : p.1 = k
    · rw [if_pos h]
      by_cases e : p.1 = j
      · rw [List.find?_cons_of_pos (by simpa using e), List.find?_cons_of_pos (by simpa using e)]
        simp [e.symm.trans h]
      · rw [List.find?_cons_of_neg (by simpa using e), List.find?_cons_of_neg (by simpa using e)]
        exact ih
    · rw [if_neg h]
      by_cases e : p.1 = j
      · rw [List.find?_cons_of_pos (by simpa using e), List.find?_cons_of_pos (by simpa using e)]
        have e' : ¬ j = k := fun z => h (e.trans z)
        simp [e']
      · rw [List.find?_cons_of_neg (by simpa using e), List.find?_cons_of_neg (by simpa using e)]
        exact ih
theorem valD_any {kvs : List (Int × PyData)} {k : Int} : (kvs.any fun kv => decide (kv.1 = k)) = (valD kvs k).isSome := by
  unfold valD
  rw [Option.isSome_map]
  induction kvs with
  | nil => rfl
  | cons p r ih =>
    rw [List.any_cons]
    by_cases e : p.1 = k
    · rw [List.find?_cons_of_pos (by simpa using e)]
      simp [e]
    · rw [List.find?_cons_of_neg (by simpa using e), ← ih]
      simp [e]
theorem valD_put (kvs : List (Int × PyData)) (k j : Int) (d : PyData) : valD (putD kvs k d) j = if j = k then some d else valD kvs j := by
  unfold putD
  by_cases h : (kvs.any fun kv => decide (kv.1 = k)) = true
  · rw [if_pos h, valD_map]
    by_cases e : j = k
    · rw [if_pos e]
      rw [valD_any] at h
      rw [e]
      obtain ⟨x, hx⟩ := Option.isSome_iff_exists.mp h
      rw [hx]
      simp
    · rw [if_neg e]
      cases valD kvs j <;> simp [e]
  · rw [if_neg h, valD_snoc _ _ _ _ (Bool.not_eq_true _ ▸ h)]
theorem putD_len (kvs : List (Int × PyData)) (k : Int) (d : PyData) : (putD kvs k d).length ≤ kvs.length + 1 := by
  unfold putD
  split
  · rw [List.length_map]
    omega
  · rw [List.length_append]
    exact Nat.le_refl _
end PM

namespace PM
/-! ### the best rating by averages of closed groups -/
def turn (rls : List (Nat × Nat)) : List (Nat × Nat) := rls.map fun q => (q.2, q.1)
theorem mem_turn {rls : List (Nat × Nat)} {a b : Nat} : (a, b) ∈ turn rls ↔ (b, a) ∈ rls := by
  unfold turn
  rw [List.mem_map]
  constructor
  · rintro ⟨⟨x, y⟩, h, e⟩
    cases e
    exact h
  · intro h
    exact ⟨(b, a), h, rfl⟩
theorem mem_dn {n : Nat} {rls : List (Nat × Nat)} {g : List Nat} : g ∈ upsets n (turn rls) ↔ (∀ i ∈ g, i < n) ∧ g.Pairwise (· < ·) ∧ ∀ q ∈ rls, q.2 ∈ g → q.1 ∈ g := by
  rw [mem_upsets]
  refine and_congr Iff.rfl (and_congr Iff.rfl ⟨fun h q hq => h (q.2, q.1) (mem_turn.mpr hq), fun h q hq => ?_⟩)
  obtain ⟨a, b⟩ := q
  exact h (b, a) (mem_turn.mp hq)
theorem rs_filter (f : Nat → Rat) (p : Nat → Bool) (L : List Nat) : rs f (L.filter p) = rs (fun i => f i * (if p i = true then 1 else 0)) L := by
  induction L with
  | nil => rfl
  | cons i L ih =>
    rw [rs_cons]
    cases h : p i with
    | true => rw [List.filter_cons_of_pos h, rs_cons, ih, if_pos rfl]; grind
    | false => rw [List.filter_cons_of_neg (by rw [h]; decide), ih, if_neg (by decide)]; grind
section
variable {its : List (Int × Int)} {rls : List (Nat × Nat)} {r : Nat → Rat}
theorem Best.cut0 (b : Best its rls r) (p : Rat → Bool) : rs (Fo its r) ((List.range its.length).filter fun j => p (r j)) = 0 := by
  rw [rs_filter]
  exact by_levels (f := Fo its r) (s := r) (fun x => if p x = true then 1 else 0) _ (List.range its.length) (Nat.le_refl _) b.lev
theorem avR_of (ok : PnOk its rls) {g : List Nat} (hi : ∀ i ∈ g, i < its.length) (ne : g ≠ []) (c : Rat) : (0 ≤ rs (fun j => Wt its j * (Mk its j - c)) g → c ≤ avR its g) ∧ (rs (fun j => Wt its j * (Mk its j - c)) g ≤ 0 → avR its g ≤ c) := by
  have w := ok.wpos hi ne
  rw [rs_dev, avR_mul ok hi ne]
  refine ⟨fun h => ?_, fun h => ?_⟩
  · exact Rat.le_of_mul_le_mul_right (c := rs (Wt its) g) (by grind) w
  · exact Rat.le_of_mul_le_mul_right (c := rs (Wt its) g) (by grind) w
theorem Best.max_ge (b : Best its rls r) (ok : PnOk its rls) {i : Nat} (hi : i < its.length) {D : List Nat} (hD : ∀ q ∈ rls, q.2 ∈ D → q.1 ∈ D) (iD : i ∈ D) : r i ≤ avR its (((List.range its.length).filter fun j => decide (r i ≤ r j)).filter fun j => decide (j ∈ D)) := by
  have gi : ∀ j ∈ ((List.range its.length).filter fun j => decide (r i ≤ r j)).filter (fun j => decide (j ∈ D)), j < its.length ∧ r i ≤ r j := fun j hj => by
    obtain ⟨h1, h2⟩ := List.mem_filter.mp hj
    obtain ⟨h3, h4⟩ := List.mem_filter.mp h1
    exact ⟨List.mem_range.mp h3, of_decide_eq_true h4⟩
  have ne : ((List.range its.length).filter fun j => decide (r i ≤ r j)).filter (fun j => decide (j ∈ D)) ≠ [] := fun z => by
    have : i ∈ ((List.range its.length).filter fun j => decide (r i ≤ r j)).filter (fun j => decide (j ∈ D)) := List.mem_filter.mpr ⟨List.mem_filter.mpr ⟨List.mem_range.mpr hi, decide_eq_true Rat.le_refl⟩, decide_eq_true iD⟩
    rw [z] at this
    exact nomatch this
  refine (avR_of ok (fun j hj => (gi j hj).1) ne (r i)).1 ?_
  have e : rs (fun j => Wt its j * (Mk its j - r i)) (((List.range its.length).filter fun j => decide (r i ≤ r j)).filter fun j => decide (j ∈ D)) = rs (Fo its r) (((List.range its.length).filter fun j => decide (r i ≤ r j)).filter fun j => decide (j ∈ D)) + rs (fun j => Wt its j * (r j - r i)) (((List.range its.length).filter fun j => decide (r i ≤ r j)).filter fun j => decide (j ∈ D)) := by
    rw [← rs_add]
    exact rs_congr fun j _ => by unfold Fo; grind
  have nn : 0 ≤ rs (fun j => Wt its j * (r j - r i)) (((List.range its.length).filter fun j => decide (r i ≤ r j)).filter fun j => decide (j ∈ D)) := rs_nonneg fun j hj => by
    obtain ⟨h1, h2⟩ := gi j hj
    exact Rat.mul_nonneg (Rat.le_of_lt (ok.pos h1)) (by grind)
  have s := rs_split (Fo its r) (fun j => decide (j ∈ D)) ((List.range its.length).filter fun j => decide (r i ≤ r j))
  rw [b.cut0 fun x => decide (r i ≤ x)] at s
  have up : rs (Fo its r) (((List.range its.length).filter fun j => decide (r i ≤ r j)).filter fun j => !decide (j ∈ D)) ≤ 0 := by
    rw [filter_filter']
    refine b.up _ (range_mem_up _ fun q hq h => ⟨(ok.rl q hq).2, ?_⟩)
    obtain ⟨h1, h2⟩ := Bool.and_eq_true_iff.mp h
    have h1 : q.1 ∉ D := by simpa using h1
    refine Bool.and_eq_true_iff.mpr ⟨by simpa using fun z => h1 (hD q hq z), decide_eq_true (Rat.le_trans (of_decide_eq_true h2) (b.obey q hq))⟩
  rw [e]
  grind
theorem Best.min_le (b : Best its rls r) (ok : PnOk its rls) {i : Nat} (hi : i < its.length) {U : List Nat} (hU : U ∈ upsets its.length rls) (iU : i ∈ U) : avR its (U.filter fun j => decide (j ∈ (List.range its.length).filter fun j => decide (r j ≤ r i))) ≤ r i := by
  obtain ⟨u1, u2, u3⟩ := mem_upsets.mp hU
  have gi : ∀ j, j ∈ U.filter (fun j => decide (j ∈ (List.range its.length).filter fun j => decide (r j ≤ r i))) ↔ j ∈ U ∧ r j ≤ r i := fun j => by
    rw [List.mem_filter, decide_eq_true_eq, List.mem_filter, List.mem_range, decide_eq_true_eq]
    exact ⟨fun h => ⟨h.1, h.2.2⟩, fun h => ⟨h.1, u1 j h.1, h.2⟩⟩
  have ne : U.filter (fun j => decide (j ∈ (List.range its.length).filter fun j => decide (r j ≤ r i))) ≠ [] := fun z => by
    have := (gi i).mpr ⟨iU, Rat.le_refl⟩
    rw [z] at this
    exact nomatch this
  refine (avR_of ok (fun j hj => u1 j ((gi j).mp hj).1) ne (r i)).2 ?_
  have e : rs (fun j => Wt its j * (Mk its j - r i)) (U.filter fun j => decide (j ∈ (List.range its.length).filter fun j => decide (r j ≤ r i))) = rs (Fo its r) (U.filter fun j => decide (j ∈ (List.range its.length).filter fun j => decide (r j ≤ r i))) - rs (fun j => Wt its j * (r i - r j)) (U.filter fun j => decide (j ∈ (List.range its.length).filter fun j => decide (r j ≤ r i))) := by
    rw [← rs_sub]
    exact rs_congr fun j _ => by unfold Fo; grind
  have nn : 0 ≤ rs (fun j => Wt its j * (r i - r j)) (U.filter fun j => decide (j ∈ (List.range its.length).filter fun j => decide (r j ≤ r i))) := rs_nonneg fun j hj => by
    obtain ⟨h1, h2⟩ := (gi j).mp hj
    exact Rat.mul_nonneg (Rat.le_of_lt (ok.pos (u1 j h1))) (by grind)
  have s := rs_split (Fo its r) (fun j => decide (r i < r j)) ((List.range its.length).filter fun j => decide (j ∈ U) || decide (r i < r j))
  have V : rs (Fo its r) ((List.range its.length).filter fun j => decide (j ∈ U) || decide (r i < r j)) ≤ 0 := b.up _ (range_mem_up _ fun q hq h => ⟨(ok.rl q hq).2, by
    rcases Bool.or_eq_true_iff.mp h with h | h
    · exact Bool.or_eq_true_iff.mpr (.inl (decide_eq_true (u3 q hq (of_decide_eq_true h))))
    · exact Bool.or_eq_true_iff.mpr (.inr (decide_eq_true (Std.lt_of_lt_of_le (of_decide_eq_true h) (b.obey q hq))))⟩)
  have e1 : (((List.range its.length).filter fun j => decide (j ∈ U) || decide (r i < r j)).filter fun j => decide (r i < r j)) = (List.range its.length).filter fun j => decide (r i < r j) := by
    rw [filter_filter']
    refine List.filter_congr fun j _ => ?_
    cases decide (r i < r j) <;> simp
  have e2 : (((List.range its.length).filter fun j => decide (j ∈ U) || decide (r i < r j)).filter fun j => !decide (r i < r j)) = U.filter fun j => decide (j ∈ (List.range its.length).filter fun j => decide (r j ≤ r i)) := by
    refine asc_ext ((List.pairwise_lt_range.filter _).filter _) (u2.filter _) fun j => ?_
    rw [gi j, List.mem_filter, List.mem_filter, List.mem_range]
    constructor
    · rintro ⟨⟨h1, h2⟩, h3⟩
      have h3 : ¬ r i < r j := by simpa using h3
      rcases Bool.or_eq_true_iff.mp h2 with h | h
      · exact ⟨of_decide_eq_true h, by grind⟩
      · exact absurd (of_decide_eq_true h) h3
    · rintro ⟨h1, h2⟩
      have h3 : ¬ r i < r j := by grind
      exact ⟨⟨u1 j h1, by simp [h1]⟩, by simpa using h3⟩
  rw [e1, e2, b.cut0 fun x => decide (r i < x)] at s
  rw [e]
  grind
end
/-! ### the least of some, the greatest of the least -/
section
variable (A : List Nat → List Nat → Rat)
def LeastOf (U : List Nat) (done : List (List Nat)) (o : Option (Int × Int)) : Prop := (done = [] ∧ o = none) ∨ ∃ x, o = some x ∧ Fr.IsF x ∧ Fr.Sz 110 x ∧ (∃ D ∈ done, Fr.val x = A U D) ∧ ∀ D ∈ done, Fr.val x ≤ A U D
def GreatOf (downs done : List (List Nat)) (o : Option (Int × Int)) : Prop := (done = [] ∧ o = none) ∨ ∃ x, o = some x ∧ Fr.IsF x ∧ Fr.Sz 110 x ∧ (∃ U ∈ done, ∀ D ∈ downs, Fr.val x ≤ A U D) ∧ ∀ U ∈ done, ∃ D ∈ downs, A U D ≤ Fr.val x
variable {A}
theorem LeastOf.take {U : List Nat} {done : List (List Nat)} {o : Option (Int × Int)} {D : List Nat} {y : Int × Int} (h : LeastOf A U done o) (fy : Fr.IsF y) (sy : Fr.Sz 110 y) (vy : Fr.val y = A U D) (lt : ∀ x, o = some x → Fr.val y < Fr.val x) : LeastOf A U (done ++ [D]) (some y) := by
  refine .inr ⟨y, rfl, fy, sy, ⟨D, by simp, vy⟩, fun E hE => ?_⟩
  rcases List.mem_append.mp hE with hE | hE
  · rcases h with ⟨h, _⟩ | ⟨x, e, _, _, _, h⟩
    · rw [h] at hE
      exact nomatch hE
    · exact Rat.le_trans (Rat.le_of_lt (lt x e)) (h E hE)
  · rw [List.mem_singleton.mp hE, vy]
    exact Rat.le_refl
theorem LeastOf.leave {U : List Nat} {done : List (List Nat)} {x : Int × Int} {D : List Nat} {y : Int × Int} (h : LeastOf A U done (some x)) (vy : Fr.val y = A U D) (lt : ¬ Fr.val y < Fr.val x) : LeastOf A U (done ++ [D]) (some x) := by
  rcases h with ⟨_, h⟩ | ⟨x', e, fx, sx, ⟨D0, h0, v0⟩, h⟩
  · cases h
  · cases e
    refine .inr ⟨x, rfl, fx, sx, ⟨D0, by simp [h0], v0⟩, fun E hE => ?_⟩
    rcases List.mem_append.mp hE with hE | hE
    · exact h E hE
    · rw [List.mem_singleton.mp hE, ← vy]
      grind
theorem GreatOf.take {downs done : List (List Nat)} {o : Option (Int × Int)} {U : List Nat} {y : Int × Int} (h : GreatOf A downs done o) (fy : Fr.IsF y) (sy : Fr.Sz 110 y) (ly : LeastOf A U downs (some y)) (lt : ∀ x, o = some x → Fr.val x < Fr.val y) : GreatOf A downs (done ++ [U]) (some y) := by
  rcases ly with ⟨_, ly⟩ | ⟨y', e, _, _, ⟨D0, hD0, v0⟩, ly⟩
  · cases ly
  · cases e
    refine .inr ⟨y, rfl, fy, sy, ⟨U, by simp, ly⟩, fun V hV => ?_⟩
    rcases List.mem_append.mp hV with hV | hV
    · rcases h with ⟨h, _⟩ | ⟨x, e, _, _, _, h⟩
      · rw [h] at hV
        exact nomatch hV
      · obtain ⟨D, hD, z⟩ := h V hV
        exact ⟨D, hD, Rat.le_trans z (Rat.le_of_lt (lt x e))⟩
    · rw [List.mem_singleton.mp hV]
      exact ⟨D0, hD0, by rw [v0]; exact Rat.le_refl⟩
theorem GreatOf.leave {downs done : List (List Nat)} {x : Int × Int} {U : List Nat} {y : Int × Int} (h : GreatOf A downs done (some x)) (ly : LeastOf A U downs (some y)) (lt : ¬ Fr.val x < Fr.val y) : GreatOf A downs (done ++ [U]) (some x) := by
  rcases ly with ⟨_, ly⟩ | ⟨y', e, _, _, ⟨D0, hD0, v0⟩, ly⟩
  · cases ly
  · cases e
    rcases h with ⟨_, h⟩ | ⟨x', e, fx, sx, ⟨U0, h0, v0'⟩, h⟩
    · cases h
    · cases e
      refine .inr ⟨x, rfl, fx, sx, ⟨U0, by simp [h0], v0'⟩, fun V hV => ?_⟩
      rcases List.mem_append.mp hV with hV | hV
      · exact h V hV
      · rw [List.mem_singleton.mp hV]
        exact ⟨D0, hD0, by grind⟩
end
/-- the items that two groups have in common -/
abbrev capA (its : List (Int × Int)) (U D : List Nat) : Rat := avR its (U.filter fun j => decide (j ∈ D))
/-- what the search through all closed groups finds -/
theorem great_val {its : List (Int × Int)} {rls : List (Nat × Nat)} {r : Nat → Rat} (b : Best its rls r) (ok : PnOk its rls) {i : Nat} (hi : i < its.length) {x : Int × Int} (h : GreatOf (capA its) ((upsets its.length (turn rls)).filter fun g => decide (i ∈ g)) ((upsets its.length rls).filter fun g => decide (i ∈ g)) (some x)) : Fr.val x = r i := by
  rcases h with ⟨_, h⟩ | ⟨x', e, fx, _, ⟨U, hU, h1⟩, h2⟩
  · cases h
  · cases e
    obtain ⟨u1, u2⟩ := List.mem_filter.mp hU
    have mi : ∀ p : Nat → Bool, p i = true → decide (i ∈ (List.range its.length).filter p) = true := fun p h => decide_eq_true (List.mem_filter.mpr ⟨List.mem_range.mpr hi, h⟩)
    have dm0 : (List.range its.length).filter (fun j => decide (r j ≤ r i)) ∈ upsets its.length (turn rls) := range_mem_up (fun j => decide (r j ≤ r i)) fun q hq h => by
      have hq : (q.2, q.1) ∈ rls := mem_turn.mp hq
      exact ⟨(ok.rl _ hq).1, decide_eq_true (Rat.le_trans (b.obey _ hq) (of_decide_eq_true h))⟩
    have um0 : (List.range its.length).filter (fun j => decide (r i ≤ r j)) ∈ upsets its.length rls := range_mem_up (fun j => decide (r i ≤ r j)) fun q hq h => ⟨(ok.rl _ hq).2, decide_eq_true (Rat.le_trans (of_decide_eq_true h) (b.obey _ hq))⟩
    have dm := (List.mem_filter (p := fun g => decide (i ∈ g))).mpr ⟨dm0, mi _ (decide_eq_true Rat.le_refl)⟩
    have um := (List.mem_filter (p := fun g => decide (i ∈ g))).mpr ⟨um0, mi _ (decide_eq_true Rat.le_refl)⟩
    have le : Fr.val x ≤ r i := Rat.le_trans (h1 _ dm) (b.min_le ok hi u1 (of_decide_eq_true u2))
    obtain ⟨D, hD, h3⟩ := h2 _ um
    obtain ⟨d1, d2⟩ := List.mem_filter.mp hD
    have ge : r i ≤ Fr.val x := Rat.le_trans (b.max_ge ok hi (mem_dn.mp d1).2.2 (of_decide_eq_true d2)) h3
    exact Rat.le_antisymm le ge
theorem great_best {its : List (Int × Int)} {rls : List (Nat × Nat)} (ok : PnOk its rls) {i : Nat} (hi : i < its.length) {x : Int × Int} (h : GreatOf (capA its) ((upsets its.length (turn rls)).filter fun g => decide (i ∈ g)) ((upsets its.length rls).filter fun g => decide (i ∈ g)) (some x)) : x = ratL (levD its rls) i := by
  have fx : Fr.IsF x := by
    rcases h with ⟨_, h⟩ | ⟨x', e, fx, _⟩
    · cases h
    · cases e
      exact fx
  exact Fr.val_inj fx (ratL_isF ok hi) (great_val (best_ok ok) ok hi h)
/-- None or a fraction -/
def oD : Option (Int × Int) → PySem.PyData
  | none => .none
  | some x => fd x
theorem isN_oD (o : Option (Int × Int)) : isN (.d (oD o)) = o.isNone := by cases o <;> rfl
end PM

namespace PM
/-! ### surpluses over a threshold -/
/-- the surplus of a group over a threshold, times the threshold's denominator -/
def srp (its : List (Int × Int)) (x : Int × Int) (g : List Nat) : Int := (g.map fun i => (itm its i).2 * ((itm its i).1 * x.2 - x.1)).sum
def SpR (its : List (Int × Int)) (c : Rat) (g : List Nat) : Rat := rs (fun i => Wt its i * (Mk its i - c)) g
section
variable {its : List (Int × Int)} {rls : List (Nat × Nat)} {r : Nat → Rat}
theorem srp_cast {x : Int × Int} (hx : 0 < x.2) : ∀ g : List Nat, ((srp its x g : Int) : Rat) = (x.2 : Rat) * SpR its (Fr.val x) g
  | [] => by
    show ((0 : Int) : Rat) = _
    unfold SpR
    rw [rs_nil]
    simp
  | i :: g => by
    have ih := srp_cast hx g
    have e : srp its x (i :: g) = (itm its i).2 * ((itm its i).1 * x.2 - x.1) + srp its x g := by
      unfold srp
      rw [List.map_cons, List.sum_cons]
    have q : SpR its (Fr.val x) (i :: g) = Wt its i * (Mk its i - Fr.val x) + SpR its (Fr.val x) g := rs_cons _ _ _
    have hx' : (x.2 : Rat) ≠ 0 := Fr.cast_ne (by omega)
    rw [e, q, Rat.intCast_add, ih, Rat.intCast_mul, Rat.intCast_sub, Rat.intCast_mul]
    show (Wt its i) * (Mk its i * (x.2 : Rat) - (x.1 : Rat)) + _ = _
    have v : (x.1 : Rat) = Fr.val x * (x.2 : Rat) := by
      unfold Fr.val
      grind
    rw [v]
    grind
theorem SpR_split (c : Rat) (g : List Nat) : SpR its c g = rs (Fo its r) g + rs (fun i => Wt its i * (r i - c)) g := by
  unfold SpR
  rw [← rs_add]
  exact rs_congr fun i _ => by unfold Fo; grind
/-- what the ratings above the threshold give -/
def Mx (its : List (Int × Int)) (r : Nat → Rat) (c : Rat) : Rat := rs (fun i => Wt its i * (r i - c)) ((List.range its.length).filter fun j => decide (c < r j))
theorem rs_ge_part (ok : PnOk its rls) (c : Rat) {g : List Nat} (g1 : ∀ i ∈ g, i < its.length) (g2 : g.Pairwise (· < ·)) : rs (fun i => Wt its i * (r i - c)) g ≤ Mx its r c ∧ (Mx its r c ≤ rs (fun i => Wt its i * (r i - c)) g → (∀ i, i < its.length → c < r i → i ∈ g) ∧ ∀ i ∈ g, c ≤ r i) := by
  -- by membership, over all items
  have e1 : g = (List.range its.length).filter fun j => decide (j ∈ g) := asc_ext g2 (List.pairwise_lt_range.filter _) fun i => by
    rw [List.mem_filter, List.mem_range, decide_eq_true_eq]
    exact ⟨fun h => ⟨g1 i h, h⟩, fun h => h.2⟩
  have e2 : rs (fun i => Wt its i * (r i - c)) g = rs (fun i => Wt its i * (r i - c) * (if decide (i ∈ g) = true then 1 else 0)) (List.range its.length) := by
    conv => lhs; rw [e1]
    rw [rs_filter]
  have e3 : Mx its r c = rs (fun i => Wt its i * (r i - c) * (if decide (c < r i) = true then 1 else 0)) (List.range its.length) := by
    unfold Mx
    rw [rs_filter]
  have d : Mx its r c - rs (fun i => Wt its i * (r i - c)) g = rs (fun i => Wt its i * (r i - c) * ((if decide (c < r i) = true then 1 else 0) - (if decide (i ∈ g) = true then 1 else 0))) (List.range its.length) := by
    rw [e2, e3, ← rs_sub]
    exact rs_congr fun i _ => by grind
  have nn : ∀ i ∈ List.range its.length, 0 ≤ Wt its i * (r i - c) * ((if decide (c < r i) = true then 1 else 0) - (if decide (i ∈ g) = true then 1 else 0)) := fun i hi => by
    have w := ok.pos (List.mem_range.mp hi)
    by_cases h1 : c < r i
    · have h0 : 0 ≤ Wt its i * (r i - c) := Rat.mul_nonneg (Rat.le_of_lt w) (by grind)
      by_cases h2 : i ∈ g
      · simp only [h1, h2, decide_true, if_true]; grind
      · simp only [h1, h2, decide_true, decide_false, if_true]; grind
    · have h0 : 0 ≤ Wt its i * (c - r i) := Rat.mul_nonneg (Rat.le_of_lt w) (by grind)
      by_cases h2 : i ∈ g
      · simp only [h1, h2, decide_true, decide_false, if_true]; grind
      · simp only [h1, h2, decide_false]; grind
  have t := rs_nonneg nn
  refine ⟨by grind, fun h => ?_⟩
  have z := rs_zero nn (by rw [← d]; grind)
  refine ⟨fun i hi h1 => ?_, fun i hi => ?_⟩
  · have q := z i (List.mem_range.mpr hi)
    have w := ok.pos hi
    by_cases h2 : i ∈ g
    · exact h2
    · exfalso
      simp only [h1, h2, decide_true, decide_false, if_true] at q
      have p := Rat.mul_pos w (show 0 < r i - c by grind)
      grind
  · have q := z i (List.mem_range.mpr (g1 i hi))
    have w := ok.pos (g1 i hi)
    by_cases h1 : c ≤ r i
    · exact h1
    · exfalso
      have h3 : ¬ c < r i := by grind
      simp only [h3, hi, decide_true, decide_false, if_true] at q
      have p := Rat.mul_pos w (show 0 < c - r i by grind)
      grind
/-- no closed group has more -/
theorem Best.sp_le (b : Best its rls r) (ok : PnOk its rls) (c : Rat) {g : List Nat} (hg : g ∈ upsets its.length rls) : SpR its c g ≤ Mx its r c ∧ (Mx its r c ≤ SpR its c g → (∀ i, i < its.length → c < r i → i ∈ g) ∧ ∀ i ∈ g, c ≤ r i) := by
  obtain ⟨g1, g2, _⟩ := mem_upsets.mp hg
  obtain ⟨h1, h2⟩ := rs_ge_part (r := r) ok c g1 g2
  have h3 := b.up g hg
  have e := SpR_split (its := its) (r := r) c g
  exact ⟨by grind, fun h => h2 (by grind)⟩
theorem Best.sp_gt (b : Best its rls r) (ok : PnOk its rls) (c : Rat) : (List.range its.length).filter (fun j => decide (c < r j)) ∈ upsets its.length rls ∧ SpR its c ((List.range its.length).filter fun j => decide (c < r j)) = Mx its r c := by
  refine ⟨range_mem_up (fun j => decide (c < r j)) fun q hq h => ⟨(ok.rl q hq).2, decide_eq_true (Std.lt_of_lt_of_le (of_decide_eq_true h) (b.obey q hq))⟩, ?_⟩
  rw [SpR_split (r := r), b.cut0 fun x => decide (c < x)]
  unfold Mx
  grind
theorem Best.sp_ge (b : Best its rls r) (ok : PnOk its rls) (c : Rat) : (List.range its.length).filter (fun j => decide (c ≤ r j)) ∈ upsets its.length rls ∧ SpR its c ((List.range its.length).filter fun j => decide (c ≤ r j)) = Mx its r c := by
  refine ⟨range_mem_up (fun j => decide (c ≤ r j)) fun q hq h => ⟨(ok.rl q hq).2, decide_eq_true (Rat.le_trans (of_decide_eq_true h) (b.obey q hq))⟩, ?_⟩
  rw [SpR_split (r := r), b.cut0 fun x => decide (c ≤ x)]
  have e : rs (fun i => Wt its i * (r i - c)) ((List.range its.length).filter fun j => decide (c ≤ r j)) = Mx its r c := by
    unfold Mx
    rw [rs_filter, rs_filter]
    refine rs_congr fun i _ => ?_
    by_cases h1 : c < r i
    · have h2 : c ≤ r i := Rat.le_of_lt h1
      simp only [h1, h2, decide_true]
    · by_cases h2 : c ≤ r i
      · have : r i - c = 0 := by grind
        simp only [h1, h2, decide_true, decide_false, this]
        grind
      · simp only [h1, h2, decide_false]
  rw [e]
  grind
/-- the items in all, and in some, of the closed groups with the greatest surplus -/
theorem Best.tops (b : Best its rls r) (ok : PnOk its rls) {x : Int × Int} (hx : 0 < x.2) {z : Int} (hz : ∃ g ∈ upsets its.length rls, srp its x g = z) (hm : ∀ g ∈ upsets its.length rls, srp its x g ≤ z) {i : Nat} (hi : i < its.length) :
    ((∀ g ∈ upsets its.length rls, srp its x g = z → i ∈ g) ↔ Fr.val x < r i) ∧ ((∃ g ∈ upsets its.length rls, srp its x g = z ∧ i ∈ g) ↔ Fr.val x ≤ r i) := by
  have px : (0 : Rat) < (x.2 : Rat) := Rat.intCast_pos.mpr hx
  have cast : ∀ g, ((srp its x g : Int) : Rat) = (x.2 : Rat) * SpR its (Fr.val x) g := srp_cast hx
  -- z is the greatest one
  have zM : (z : Rat) = (x.2 : Rat) * Mx its r (Fr.val x) := by
    obtain ⟨g, hg, e⟩ := hz
    obtain ⟨m1, m2⟩ := b.sp_gt ok (Fr.val x)
    have h1 := hm _ m1
    have h1 : ((srp its x ((List.range its.length).filter fun j => decide (Fr.val x < r j)) : Int) : Rat) ≤ (z : Rat) := Rat.intCast_le_intCast.mpr h1
    rw [cast, m2] at h1
    have h2 := (b.sp_le ok (Fr.val x) hg).1
    have h3 : (z : Rat) = (x.2 : Rat) * SpR its (Fr.val x) g := by rw [← e, cast]
    have h4 := Rat.mul_le_mul_of_nonneg_left h2 (Rat.le_of_lt px)
    rw [h3] at h1 ⊢
    exact Rat.le_antisymm h4 h1
  have top : ∀ g ∈ upsets its.length rls, srp its x g = z → (∀ i, i < its.length → Fr.val x < r i → i ∈ g) ∧ ∀ i ∈ g, Fr.val x ≤ r i := fun g hg e => by
    refine (b.sp_le ok (Fr.val x) hg).2 ?_
    have h : (x.2 : Rat) * Mx its r (Fr.val x) = (x.2 : Rat) * SpR its (Fr.val x) g := by rw [← zM, ← e, cast]
    have := Rat.le_of_mul_le_mul_left (show (x.2 : Rat) * Mx its r (Fr.val x) ≤ (x.2 : Rat) * SpR its (Fr.val x) g by rw [h]; exact Rat.le_refl) px
    exact this
  have is : ∀ g, SpR its (Fr.val x) g = Mx its r (Fr.val x) → srp its x g = z := fun g e => by
    have : ((srp its x g : Int) : Rat) = (z : Rat) := by rw [cast, e, zM]
    exact Rat.intCast_inj.mp this
  obtain ⟨a1, a2⟩ := b.sp_gt ok (Fr.val x)
  obtain ⟨c1, c2⟩ := b.sp_ge ok (Fr.val x)
  refine ⟨⟨fun h => ?_, fun h g hg e => (top g hg e).1 i hi h⟩, ⟨fun ⟨g, hg, e, h⟩ => (top g hg e).2 i h, fun h => ⟨_, c1, is _ c2, List.mem_filter.mpr ⟨List.mem_range.mpr hi, decide_eq_true h⟩⟩⟩⟩
  exact of_decide_eq_true (List.mem_filter.mp (h _ a1 (is _ a2))).2
end
theorem srp_eq (its : List (Int × Int)) (x : Int × Int) : ∀ g : List Nat, srp its x g = wsum its g * x.2 - wgt its g * x.1
  | [] => by simp [srp, wsum, wgt]
  | i :: g => by
    have ih := srp_eq its x g
    unfold srp wsum wgt at *
    rw [List.map_cons, List.sum_cons, List.map_cons, List.sum_cons, List.map_cons, List.sum_cons, ih]
    grind
theorem Wide.bnd {its : List (Int × Int)} (h : Wide its) {is : List Nat} (hi : ∀ i ∈ is, i < its.length) (h9 : is.length ≤ 100) : (wsum its is).natAbs < 2 ^ 110 ∧ (wgt its is).natAbs < 2 ^ 110 := by
  by_cases e : is = []
  · subst e
    exact ⟨by show (0 : Int).natAbs < 2 ^ 110; decide, by show (0 : Int).natAbs < 2 ^ 110; decide⟩
  · have := h.pos hi e h9
    exact ⟨this.2.2, this.2.1⟩
theorem srp_split (its : List (Int × Int)) (x : Int × Int) (p : Nat → Bool) : ∀ g : List Nat, srp its x (g.filter p) + srp its x (g.filter fun i => !p i) = srp its x g
  | [] => rfl
  | i :: g => by
    have ih := srp_split its x p g
    have e : ∀ h : List Nat, srp its x (i :: h) = (itm its i).2 * ((itm its i).1 * x.2 - x.1) + srp its x h := fun h => by
      unfold srp
      rw [List.map_cons, List.sum_cons]
    cases h : p i with
    | true => rw [List.filter_cons_of_pos h, List.filter_cons_of_neg (by rw [h]; decide), e, e, ← ih]; omega
    | false => rw [List.filter_cons_of_neg (by rw [h]; decide), List.filter_cons_of_pos (by rw [h]; rfl), e, e, ← ih]; omega
theorem srp_sz {its : List (Int × Int)} {x : Int × Int} {n : Nat} (wd : Wide its) {g : List Nat} (hi : ∀ i ∈ g, i < its.length) (h9 : g.length ≤ 100) (sx : Fr.Sz n x) : (srp its x g).natAbs < 2 ^ (110 + n + 1) := by
  have b := wd.bnd hi h9
  rw [srp_eq]
  have h1 := Fr.mul_lt2 b.1 sx.2
  have h2 := Fr.mul_lt2 b.2 sx.1
  have h3 := Fr.add_lt2 h1 (show (-(wgt its g * x.1)).natAbs < 2 ^ (110 + n) by rw [Int.natAbs_neg]; exact h2)
  rw [Int.sub_eq_add_neg]
  exact h3
theorem red_cross {n d : Int} (hd : 0 < d) : (Fr.red n d).1 * d = n * (Fr.red n d).2 := by
  have f := Fr.red_isF (n := n) hd
  have e : Fr.red (Fr.red n d).1 (Fr.red n d).2 = Fr.red n d := Fr.red_self f
  exact (Fr.red_eq f.1 hd).mp e
theorem pair_id {a1 a2 c1 c2 x1 x2 y1 y2 W w : Int} (ca : a1 * x2 = (W * x2 - w * x1) * a2) (cc : c1 * y2 = (W * y2 - w * y1) * c2) : (a1 * c2 - c1 * a2) * x2 * y2 = w * (y1 * x2 - x1 * y2) * a2 * c2 := by
  have e : (a1 * c2 - c1 * a2) * x2 * y2 = (a1 * x2) * (c2 * y2) - (c1 * y2) * (a2 * x2) := by clear ca cc; grind
  rw [e, ca, cc]
  clear ca cc e
  grind
theorem sub_lt2 {a b : Int} {n : Nat} (ha : a.natAbs < 2 ^ n) (hb : b.natAbs < 2 ^ n) : (a - b).natAbs < 2 ^ (n + 1) := by
  have := Fr.add_lt2 ha (show (-b).natAbs < 2 ^ n by rw [Int.natAbs_neg]; exact hb)
  rw [Int.sub_eq_add_neg]
  exact this
theorem bestF_sz {its : List (Int × Int)} {rls : List (Nat × Nat)} (wd : Wide its) (ok : PnOk its rls) (l10 : its.length ≤ 100) : ∀ y ∈ bestF its rls, Fr.Sz 110 y := fun y hy => by
  unfold bestF at hy
  obtain ⟨i, hi, rfl⟩ := List.mem_map.mp hy
  have L := levD_ok ok
  obtain ⟨x, hx, h⟩ := L.at (List.mem_range.mp hi)
  rw [L.rat hx h]
  obtain ⟨e1, e2, e3, e4⟩ := L.each x hx
  rw [e1]
  have := up_short e3 fun i hi => (e4 i hi).1
  exact av_sz wd (fun i hi => (e4 i hi).1) e2 (by omega)
theorem cmp_pos {x y : Int × Int} (hx : 0 < x.2) (hy : 0 < y.2) : 0 < Fr.cmp x y ↔ Fr.val y < Fr.val x := by
  have l1 := Fr.lt_iff hx hy
  have l2 := Fr.lt_iff hy hx
  rw [← l2]
  unfold Fr.cmp
  split
  · exact ⟨fun h => absurd h (by decide), fun h => by omega⟩
  · split
    · exact ⟨fun _ => by omega, fun _ => by decide⟩
    · exact ⟨fun h => absurd h (by decide), fun h => by omega⟩
theorem cmp_nonneg {x y : Int × Int} (hx : 0 < x.2) (hy : 0 < y.2) : 0 ≤ Fr.cmp x y ↔ Fr.val y ≤ Fr.val x := by
  have l1 := Fr.lt_iff hx hy
  have e : Fr.val y ≤ Fr.val x ↔ ¬ Fr.val x < Fr.val y := ⟨fun h z => by grind, fun h => by grind⟩
  rw [e, ← l1]
  unfold Fr.cmp
  split
  · exact ⟨fun h => absurd h (by decide), fun h => by omega⟩
  · split
    · exact ⟨fun _ => by omega, fun _ => by decide⟩
    · exact ⟨fun _ => by omega, fun _ => by decide⟩
end PM

namespace PM
open PySem PySem.Spec PyProof.Rows L2 RZ
theorem enum_range (f : Nat → PyData) (n : Nat) : enumD 0 ((List.range n).map f) = (List.range n).map fun i => .tuple [nD i, f i] := by
  rw [enum_map f 0]
  simp only [Nat.zero_add, List.length_range]
  refine List.map_congr_left fun i hi => ?_
  rw [List.getD_eq_getElem?_getD, List.getElem?_range (List.mem_range.mp hi)]
  rfl
theorem cmp_nonpos {x y : Int × Int} (hx : 0 < x.2) (hy : 0 < y.2) : Fr.cmp x y ≤ 0 ↔ Fr.val x ≤ Fr.val y := by
  have := cmp_pos hx hy
  constructor
  · intro h
    have : ¬ Fr.val y < Fr.val x := fun z => by have := this.mpr z; omega
    grind
  · intro h
    have : ¬ 0 < Fr.cmp x y := fun z => by have := this.mp z; grind
    omega
/-- what witnesses are, as data -/
def upG (its : List (Int × Int)) (rls : List (Nat × Nat)) (i : Nat) : List Nat := (List.range its.length).filter fun j => decide (bestR its rls i ≤ bestR its rls j)
def dnG (its : List (Int × Int)) (rls : List (Nat × Nat)) (i : Nat) : List Nat := (List.range its.length).filter fun j => decide (bestR its rls j ≤ bestR its rls i)
def witD (its : List (Int × Int)) (rls : List (Nat × Nat)) (i : Nat) : PyData := .tuple [fd (ratL (levD its rls) i), grD (upG its rls i), grD (dnG its rls i)]
theorem upG_len (its : List (Int × Int)) (rls : List (Nat × Nat)) (i : Nat) : (upG its rls i).length ≤ its.length := Nat.le_trans (List.length_filter_le _ _) (by rw [List.length_range]; exact Nat.le_refl _)
theorem dnG_len (its : List (Int × Int)) (rls : List (Nat × Nat)) (i : Nat) : (dnG its rls i).length ≤ its.length := Nat.le_trans (List.length_filter_le _ _) (by rw [List.length_range]; exact Nat.le_refl _)
theorem wit_plain {its : List (Int × Int)} (rls : List (Nat × Nat)) (i : Nat) (h : its.length ≤ 1000) : plainD (witD its rls i) = true := by
  show (decide (3 ≤ 1000) && (plainD (fd (ratL (levD its rls) i)) && (plainD (grD (upG its rls i)) && (plainD (grD (dnG its rls i)) && true)))) = true
  rw [gr_plain (Nat.le_trans (upG_len _ _ _) h), gr_plain (Nat.le_trans (dnG_len _ _ _) h)]
  rfl
theorem wit_dep (its : List (Int × Int)) (rls : List (Nat × Nat)) (i : Nat) : dep (witD its rls i) < 8 := by
  have a := gr_dep (upG its rls i)
  have b := gr_dep (dnG its rls i)
  have c := dep_fd (ratL (levD its rls) i)
  show max (dep (fd (ratL (levD its rls) i))) (max (dep (grD (upG its rls i))) (max (dep (grD (dnG its rls i))) 0)) + 1 < 8
  omega
end PM

namespace PM
open PySem PySem.Spec PyProof.Rows L2 RZ
/-! ### what a value of any kind is -/
def pInt : PyData → Bool
  | .int _ => true
  | _ => false
def isFr : PyData → Bool
  | .tuple [.int n, .int d] => decide (1 ≤ d) && decide (Int.gcd n d = 1)
  | _ => false
def isIx (n : Int) : PyData → Bool
  | .int i => decide (0 ≤ i) && decide (i < n)
  | _ => false
def grOk (n : Int) : Int → List PyData → Bool
  | _, [] => true
  | l, x :: r => match x with
    | .int i => if 0 ≤ i ∧ i < n ∧ l ≤ i then grOk n (i + 1) r else false
    | _ => false
def isGr (n : Int) : PyData → Bool
  | .tuple ds => grOk n 0 ds
  | _ => false
def natD : PyData → Nat
  | .int i => i.toNat
  | _ => 0
def natsOf : PyData → List Nat
  | .tuple ds => ds.map natD
  | _ => []
theorem isFr_iff {v : PyData} : isFr v = true ↔ ∃ x : Int × Int, v = fd x ∧ Fr.IsF x := by
  constructor
  · intro h
    unfold isFr at h
    split at h
    · rename_i n d
      obtain ⟨h1, h2⟩ := Bool.and_eq_true_iff.mp h
      exact ⟨(n, d), rfl, by show (0 : Int) < d; have := of_decide_eq_true h1; omega, of_decide_eq_true h2⟩
    · cases h
  · rintro ⟨x, rfl, h1, h2⟩
    show (decide (1 ≤ x.2) && decide (Int.gcd x.1 x.2 = 1)) = true
    rw [decide_eq_true (show (1 : Int) ≤ x.2 by omega), decide_eq_true h2]
    rfl
theorem grOk_iff {n : Nat} : ∀ {ds : List PyData} {l : Int}, grOk n l ds = true ↔ ∃ g : List Nat, ds = g.map nD ∧ (∀ i ∈ g, i < n ∧ l ≤ i) ∧ g.Pairwise (· < ·)
  | [], l => ⟨fun _ => ⟨[], rfl, (fun i hi => nomatch hi), .nil⟩, fun _ => rfl⟩
  | x :: r, l => by
    constructor
    · intro h
      cases x with
      | int i =>
        simp only [grOk] at h
        split at h
        · rename_i z
          obtain ⟨g, rfl, g1, g2⟩ := grOk_iff.mp h
          obtain ⟨a, rfl⟩ := Int.eq_ofNat_of_zero_le z.1
          refine ⟨a :: g, rfl, fun j hj => ?_, List.pairwise_cons.mpr ⟨fun j hj => ?_, g2⟩⟩
          · rcases List.mem_cons.mp hj with rfl | hj
            · exact ⟨by omega, z.2.2⟩
            · have := g1 j hj
              exact ⟨this.1, by omega⟩
          · have := (g1 j hj).2
            omega
        · cases h
      | _ => simp [grOk] at h
    · rintro ⟨g, e, g1, g2⟩
      cases g with
      | nil => cases e
      | cons a g =>
        rw [List.map_cons] at e
        injection e with e1 e2
        subst e1
        obtain ⟨p1, p2⟩ := List.pairwise_cons.mp g2
        have ha := g1 a List.mem_cons_self
        show (if (0 : Int) ≤ (a : Int) ∧ (a : Int) < n ∧ l ≤ (a : Int) then grOk n ((a : Int) + 1) r else false) = true
        rw [if_pos ⟨by omega, by omega, ha.2⟩]
        exact grOk_iff.mpr ⟨g, e2, fun j hj => ⟨(g1 j (List.mem_cons_of_mem _ hj)).1, by have := p1 j hj; omega⟩, p2⟩
theorem isGr_iff {n : Nat} {v : PyData} : isGr n v = true ↔ ∃ g : List Nat, v = grD g ∧ (∀ i ∈ g, i < n) ∧ g.Pairwise (· < ·) := by
  constructor
  · intro h
    cases v with
    | tuple ds =>
      obtain ⟨g, rfl, g1, g2⟩ := grOk_iff.mp h
      exact ⟨g, rfl, fun i hi => (g1 i hi).1, g2⟩
    | _ => cases h
  · rintro ⟨g, rfl, g1, g2⟩
    exact grOk_iff.mpr ⟨g, rfl, fun i hi => ⟨g1 i hi, by omega⟩, g2⟩
theorem natsOf_gr (g : List Nat) : natsOf (grD g) = g := by
  show (g.map nD).map natD = g
  rw [List.map_map]
  exact (List.map_congr_left (g := id) fun i _ => rfl).trans (List.map_id g)
def isUp (n : Nat) (rls : List (Nat × Nat)) (v : PyData) : Bool := isGr n v && clo rls (natsOf v)
theorem isUp_iff {n : Nat} {rls : List (Nat × Nat)} {v : PyData} : isUp n rls v = true ↔ ∃ g ∈ upsets n rls, v = grD g := by
  unfold isUp
  rw [Bool.and_eq_true_iff, isGr_iff]
  constructor
  · rintro ⟨⟨g, rfl, g1, g2⟩, h⟩
    rw [natsOf_gr] at h
    exact ⟨g, mem_upsets.mpr ⟨g1, g2, clo_iff.mp h⟩, rfl⟩
  · rintro ⟨g, h, rfl⟩
    obtain ⟨g1, g2, g3⟩ := mem_upsets.mp h
    rw [natsOf_gr]
    exact ⟨⟨g, rfl, g1, g2⟩, clo_iff.mpr g3⟩
/-! ### witnesses of any kind -/
structure WitOk (its : List (Int × Int)) (rls : List (Nat × Nat)) (it : Nat) (x : Int × Int) (U D : List Nat) : Prop where
  fr : Fr.IsF x
  up : U ∈ upsets its.length rls
  iu : it ∈ U
  dn : D ∈ upsets its.length (turn rls)
  id : it ∈ D
  lo : ∀ E ∈ upsets its.length (turn rls), it ∈ E → Fr.val x ≤ avR its (U.filter fun j => decide (j ∈ E))
  hi : ∀ V ∈ upsets its.length rls, it ∈ V → avR its (D.filter fun j => decide (j ∈ V)) ≤ Fr.val x
theorem cap_comm {n : Nat} {U D : List Nat} (h1 : U.Pairwise (· < ·)) (h2 : D.Pairwise (· < ·)) : (U.filter fun j => decide (j ∈ D)) = D.filter fun j => decide (j ∈ U) :=
  asc_ext (h1.filter _) (h2.filter _) fun i => by
    rw [List.mem_filter, List.mem_filter, decide_eq_true_eq, decide_eq_true_eq]
    exact ⟨fun h => ⟨h.2, h.1⟩, fun h => ⟨h.2, h.1⟩⟩
section
variable {its : List (Int × Int)} {rls : List (Nat × Nat)} {r : Nat → Rat} {it : Nat}
theorem Best.dn_mem (b : Best its rls r) (ok : PnOk its rls) : (List.range its.length).filter (fun j => decide (r j ≤ r it)) ∈ upsets its.length (turn rls) := range_mem_up (fun j => decide (r j ≤ r it)) fun q hq h => by
  have hq : (q.2, q.1) ∈ rls := mem_turn.mp hq
  exact ⟨(ok.rl _ hq).1, decide_eq_true (Rat.le_trans (b.obey _ hq) (of_decide_eq_true h))⟩
theorem Best.up_mem (b : Best its rls r) (ok : PnOk its rls) : (List.range its.length).filter (fun j => decide (r it ≤ r j)) ∈ upsets its.length rls := range_mem_up (fun j => decide (r it ≤ r j)) fun q hq h => ⟨(ok.rl _ hq).2, decide_eq_true (Rat.le_trans (of_decide_eq_true h) (b.obey _ hq))⟩
theorem self_le (hi : it < its.length) : it ∈ (List.range its.length).filter (fun j => decide (r j ≤ r it)) ∧ it ∈ (List.range its.length).filter (fun j => decide (r it ≤ r j)) := ⟨List.mem_filter.mpr ⟨List.mem_range.mpr hi, decide_eq_true Rat.le_refl⟩, List.mem_filter.mpr ⟨List.mem_range.mpr hi, decide_eq_true Rat.le_refl⟩⟩
/-- whatever witnesses there are, they have the best rating's value -/
theorem WitOk.valR {x : Int × Int} {U D : List Nat} (w : WitOk its rls it x U D) (b : Best its rls r) (ok : PnOk its rls) (hi : it < its.length) : Fr.val x = r it := by
  obtain ⟨s1, s2⟩ := self_le (r := r) hi
  refine Rat.le_antisymm ?_ ?_
  · exact Rat.le_trans (w.lo _ (b.dn_mem ok) s1) (b.min_le ok hi w.up w.iu)
  · have m := b.max_ge ok hi (mem_dn.mp w.dn).2.2 w.id
    have um0 := b.up_mem (it := it) ok
    have h := w.hi _ um0 s2
    rw [cap_comm (n := 0) (mem_upsets.mp w.dn).2.1 (mem_upsets.mp um0).2.1] at h
    exact Rat.le_trans m h
theorem WitOk.val {x : Int × Int} {U D : List Nat} (w : WitOk its rls it x U D) (ok : PnOk its rls) (hi : it < its.length) : x = ratL (levD its rls) it := Fr.val_inj w.fr (ratL_isF ok hi) (w.valR (best_ok ok) ok hi)
theorem Best.wit (b : Best its rls r) (ok : PnOk its rls) (hi : it < its.length) {x : Int × Int} (fx : Fr.IsF x) (hx : Fr.val x = r it) : WitOk its rls it x ((List.range its.length).filter fun j => decide (r it ≤ r j)) ((List.range its.length).filter fun j => decide (r j ≤ r it)) := by
  obtain ⟨s1, s2⟩ := self_le (r := r) hi
  have dm0 := b.dn_mem (it := it) ok
  refine ⟨fx, b.up_mem ok, s2, dm0, s1, fun E hE hi' => ?_, fun V hV hi' => ?_⟩
  · rw [hx]
    exact b.max_ge ok hi (mem_dn.mp hE).2.2 hi'
  · have := b.min_le ok hi hV hi'
    rw [cap_comm (n := 0) (mem_upsets.mp hV).2.1 (mem_upsets.mp dm0).2.1] at this
    rw [hx]
    exact this
theorem wit_self (ok : PnOk its rls) (hi : it < its.length) : WitOk its rls it (ratL (levD its rls) it) (upG its rls it) (dnG its rls it) := (best_ok ok).wit ok hi (ratL_isF ok hi) rfl
end
/-- a rule in the right order changes nothing -/
theorem Best.more {its : List (Int × Int)} {rls : List (Nat × Nat)} {r : Nat → Rat} (b : Best its rls r) {q : Nat × Nat} (h : r q.1 ≤ r q.2) : Best its (rls ++ [q]) r where
  obey := fun p hp => by
    rcases List.mem_append.mp hp with hp | hp
    · exact b.obey p hp
    · rw [List.mem_singleton.mp hp]
      exact h
  up := fun g hg => by
    obtain ⟨g1, g2, g3⟩ := mem_upsets.mp hg
    exact b.up g (mem_upsets.mpr ⟨g1, g2, fun p hp => g3 p (List.mem_append_left _ hp)⟩)
  lev := b.lev
theorem fd_inj {x y : Int × Int} (h : fd x = fd y) : x = y := by
  unfold fd at h
  simp only [PyData.tuple.injEq, List.cons.injEq, PyData.int.injEq, and_true] at h
  exact Prod.ext h.1 h.2
end PM

namespace PM
open PySem PySem.Spec PyProof.Rows L2 RZ
/-! values of all kinds at the data level: {}, x != () -/
def dDNew : DE := fun _ m k => k (.d (.dict [])) m
theorem se_dnew : SE tDNewK dDNew := fun c G pl σ H e m k Q sr d K p hp => K.new sr hp d (show Da _ _ _ from .dic upd_same)
/-! ### sizes -/
def fine (b : Nat) : PyData → Bool
  | .int i => decide (i.natAbs < 2 ^ b)
  | .tuple ds => fineL b ds
  | .list ds => fineL b ds
  | .dict kvs => kvs.isEmpty
  | _ => true
where fineL (b : Nat) : List PyData → Bool
  | [] => true
  | d :: ds => fine b d && fineL b ds
def shwN : PyData → Nat
  | .none => 4
  | .bool _ => 5
  | .int _ => 1921
  | .str x => (reprText x).length
  | .tuple ds => shwNL ds + 3
  | .list ds => shwNL ds + 3
  | .dict _ => 2
where shwNL : List PyData → Nat
  | [] => 0
  | d :: ds => shwN d + 2 + shwNL ds
mutual
theorem fine_shw {b : Nat} (h0 : 0 < b) (h9 : b ≤ 1920) : ∀ {d : PyData}, fine b d = true → Shw d (shwN d) d.depth
  | .none, _ => ⟨rfl, Nat.le_refl _, by decide⟩
  | .bool x, _ => (Shw.bool x).mono (Nat.le_refl _) (Nat.zero_le _)
  | .int i, h => (Shw.int (of_decide_eq_true h) h0 h9).mono (Nat.le_refl _) (Nat.zero_le _)
  | .str x, _ => (Shw.str (Nat.le_refl _)).mono (Nat.le_refl _) (Nat.zero_le _)
  | .tuple ds, h => by
    have := Shw.tup (fineL_shw h0 h9 (ds := ds) h)
    simp only [PyData.depth]
    exact this.mono (Nat.le_refl _) (by omega)
  | .list ds, h => by
    have := Shw.lst (fineL_shw h0 h9 (ds := ds) h)
    simp only [PyData.depth]
    exact this.mono (Nat.le_refl _) (by omega)
  | .dict kvs, h => by
    cases kvs with
    | nil => exact Shw.dict.mono (Nat.le_refl _) (by decide)
    | cons x y => cases h
theorem fineL_shw {b : Nat} (h0 : 0 < b) (h9 : b ≤ 1920) : ∀ {ds : List PyData}, fine.fineL b ds = true → ShwL ds (shwN.shwNL ds) (PyData.depthAll ds)
  | [], _ => .nil _
  | d :: ds, h => by
    unfold fine.fineL at h
    have h := Bool.and_eq_true_iff.mp h
    have a := fine_shw h0 h9 h.1
    have b := fineL_shw h0 h9 h.2
    have c := ShwL.cons (a.mono (Nat.le_refl _) (show d.depth ≤ PyData.depthAll (d :: ds) by simp only [PyData.depthAll]; exact Nat.le_max_left _ _)) (k := shwN.shwNL ds) ⟨b.sh, Nat.le_trans b.dp (by simp only [PyData.depthAll]; exact Nat.le_max_right _ _), b.ln⟩
    exact c
end
mutual
theorem fine_up {b : Nat} : ∀ {d : PyData}, fine b d = true → fine (b + 1) d = true
  | .none, _ => rfl
  | .bool _, _ => rfl
  | .int i, h => decide_eq_true (by have := of_decide_eq_true h; rw [Nat.pow_succ]; omega)
  | .str _, _ => rfl
  | .tuple ds, h => fineL_up (ds := ds) h
  | .list ds, h => fineL_up (ds := ds) h
  | .dict _, h => h
theorem fineL_up {b : Nat} : ∀ {ds : List PyData}, fine.fineL b ds = true → fine.fineL (b + 1) ds = true
  | [], _ => rfl
  | d :: ds, h => by
    unfold fine.fineL at h ⊢
    have h := Bool.and_eq_true_iff.mp h
    rw [fine_up h.1, fineL_up h.2]
    rfl
end
theorem fine_low {b : Nat} (hb : 100 ≤ b) {d : PyData} (h : fine 100 d = true) : fine b d = true := by
  obtain ⟨k, rfl⟩ : ∃ k, b = 100 + k := ⟨b - 100, by omega⟩
  clear hb
  induction k with
  | zero => exact h
  | succ k ih => exact fine_up ih
theorem fineL_append {b : Nat} : ∀ {ds es : List PyData}, fine.fineL b ds = true → fine.fineL b es = true → fine.fineL b (ds ++ es) = true
  | [], _, _, k => k
  | d :: ds, es, h, k => by
    unfold fine.fineL at h
    have h := Bool.and_eq_true_iff.mp h
    show (fine b d && fine.fineL b (ds ++ es)) = true
    rw [h.1, fineL_append h.2 k]
    rfl
theorem fineL_take {b : Nat} : ∀ {ds : List PyData} (n : Nat), fine.fineL b ds = true → fine.fineL b (ds.take n) = true
  | _, 0, _ => by simp only [List.take_zero]; rfl
  | [], n + 1, _ => rfl
  | d :: ds, n + 1, h => by
    unfold fine.fineL at h
    have h := Bool.and_eq_true_iff.mp h
    show (fine b d && fine.fineL b (ds.take n)) = true
    rw [h.1, fineL_take n h.2]
    rfl
theorem fineL_drop {b : Nat} : ∀ {ds : List PyData} (n : Nat), fine.fineL b ds = true → fine.fineL b (ds.drop n) = true
  | _, 0, h => h
  | [], n + 1, _ => rfl
  | d :: ds, n + 1, h => by
    unfold fine.fineL at h
    exact fineL_drop n (Bool.and_eq_true_iff.mp h).2
theorem fineL_reverse {b : Nat} : ∀ {ds : List PyData}, fine.fineL b ds = true → fine.fineL b ds.reverse = true
  | [], _ => rfl
  | d :: ds, h => by
    unfold fine.fineL at h
    have h := Bool.and_eq_true_iff.mp h
    rw [List.reverse_cons]
    exact fineL_append (fineL_reverse h.2) (by show (fine b d && true) = true; rw [h.1]; rfl)
theorem fineL_get {b : Nat} : ∀ {ds : List PyData} {i : Nat} {d : PyData}, fine.fineL b ds = true → ds[i]? = some d → fine b d = true
  | [], i, d, _, e => by simp at e
  | x :: xs, 0, d, h, e => by
    have e := Option.some.inj e
    subst e
    unfold fine.fineL at h
    exact (Bool.and_eq_true_iff.mp h).1
  | x :: xs, i + 1, d, h, e => by
    unfold fine.fineL at h
    exact fineL_get (Bool.and_eq_true_iff.mp h).2 e
theorem shwNL_append : ∀ (ds es : List PyData), shwN.shwNL (ds ++ es) = shwN.shwNL ds + shwN.shwNL es
  | [], es => by show shwN.shwNL es = 0 + shwN.shwNL es; omega
  | d :: ds, es => by
    show shwN d + 2 + shwN.shwNL (ds ++ es) = shwN d + 2 + shwN.shwNL ds + shwN.shwNL es
    rw [shwNL_append ds es]
    omega
theorem shwNL_cut (ds : List PyData) (n : Nat) : shwN.shwNL (ds.take n) + shwN.shwNL (ds.drop n) = shwN.shwNL ds := by
  rw [← shwNL_append, List.take_append_drop]
theorem shwNL_reverse : ∀ (ds : List PyData), shwN.shwNL ds.reverse = shwN.shwNL ds
  | [] => rfl
  | d :: ds => by
    rw [List.reverse_cons, shwNL_append, shwNL_reverse ds]
    show shwN.shwNL ds + (shwN d + 2 + 0) = shwN d + 2 + shwN.shwNL ds
    omega
theorem shwNL_get : ∀ {ds : List PyData} {i : Nat} {d : PyData}, ds[i]? = some d → shwN.shwNL ds = shwN.shwNL (ds.take i) + (shwN d + 2) + shwN.shwNL (ds.drop (i + 1))
  | [], i, d, e => by simp at e
  | x :: xs, 0, d, e => by
    have e := Option.some.inj e
    subst e
    show shwN x + 2 + shwN.shwNL xs = 0 + (shwN x + 2) + shwN.shwNL xs
    omega
  | x :: xs, i + 1, d, e => by
    have ih := shwNL_get (ds := xs) (i := i) e
    show shwN x + 2 + shwN.shwNL xs = shwN x + 2 + shwN.shwNL (xs.take i) + (shwN d + 2) + shwN.shwNL (xs.drop (i + 1))
    omega
theorem shwNL_len : ∀ (ds : List PyData), 2 * ds.length ≤ shwN.shwNL ds
  | [] => Nat.le_refl _
  | d :: ds => by
    have := shwNL_len ds
    show 2 * (ds.length + 1) ≤ shwN d + 2 + shwN.shwNL ds
    omega
theorem dpA_append : ∀ (ds es : List PyData), PyData.depthAll (ds ++ es) = max (PyData.depthAll ds) (PyData.depthAll es)
  | [], es => by
    show PyData.depthAll es = max (PyData.depthAll []) (PyData.depthAll es)
    simp [PyData.depthAll]
  | d :: ds, es => by
    show PyData.depthAll (d :: (ds ++ es)) = _
    simp only [PyData.depthAll]
    rw [dpA_append ds es, Nat.max_assoc]
theorem dpA_cut (ds : List PyData) (n : Nat) : PyData.depthAll (ds.take n) ≤ PyData.depthAll ds ∧ PyData.depthAll (ds.drop n) ≤ PyData.depthAll ds := by
  have := dpA_append (ds.take n) (ds.drop n)
  rw [List.take_append_drop] at this
  omega
theorem dpA_reverse : ∀ (ds : List PyData), PyData.depthAll ds.reverse = PyData.depthAll ds
  | [] => rfl
  | d :: ds => by
    rw [List.reverse_cons, dpA_append, dpA_reverse ds]
    simp only [PyData.depthAll]
    omega
theorem dpA_get : ∀ {ds : List PyData} {i : Nat} {d : PyData}, ds[i]? = some d → d.depth ≤ PyData.depthAll ds
  | [], i, d, e => by simp at e
  | x :: xs, 0, d, e => by
    have e := Option.some.inj e
    subst e
    simp only [PyData.depthAll]
    exact Nat.le_max_left _ _
  | x :: xs, i + 1, d, e => by
    simp only [PyData.depthAll]
    exact Nat.le_trans (dpA_get (i := i) e) (Nat.le_max_right _ _)
/-- what a changed value keeps -/
structure Near (b : Nat) (d d' : PyData) : Prop where
  fi : fine (b + 1) d' = true
  sz : shwN d' ≤ 2 * shwN d + 4000
  dp : d'.depth ≤ d.depth + 3
theorem Near.odd {b : Nat} {d d' : PyData} (hb : 100 ≤ b) (f : fine 100 d' = true) (s : shwN d' ≤ 4000) (p : d'.depth ≤ 3) : Near b d d' := ⟨fine_low (by omega) f, by omega, by omega⟩
theorem Near.put {b : Nat} {ds : List PyData} {i : Nat} {x x' : PyData} (f : fine b (.tuple ds) = true) (e : ds[i]? = some x) (n : Near b x x') : Near b (.tuple ds) (.tuple (ds.take i ++ [x'] ++ ds.drop (i + 1))) := by
  have g := shwNL_get e
  have p := dpA_get e
  have c1 := dpA_cut ds i
  have c2 := dpA_cut ds (i + 1)
  refine ⟨?_, ?_, ?_⟩
  · show fine.fineL (b + 1) _ = true
    refine fineL_append (fineL_append (fineL_take i (fineL_up f)) ?_) (fineL_drop (i + 1) (fineL_up f))
    show (fine (b + 1) x' && true) = true
    rw [n.fi]
    rfl
  · show shwN.shwNL (ds.take i ++ [x'] ++ ds.drop (i + 1)) + 3 ≤ 2 * (shwN.shwNL ds + 3) + 4000
    rw [shwNL_append, shwNL_append]
    have := n.sz
    show shwN.shwNL (ds.take i) + (shwN x' + 2 + 0) + shwN.shwNL (ds.drop (i + 1)) + 3 ≤ _
    omega
  · simp only [PyData.depth]
    rw [dpA_append, dpA_append]
    have := n.dp
    simp only [PyData.depthAll]
    omega
theorem Near.lst {b : Nat} {ds : List PyData} (f : fine b (.tuple ds) = true) : Near b (.tuple ds) (.list ds) :=
  ⟨fineL_up f, by show shwN.shwNL ds + 3 ≤ 2 * (shwN.shwNL ds + 3) + 4000; omega, by simp only [PyData.depth]; omega⟩
theorem Near.back {b : Nat} {ds : List PyData} (f : fine b (.tuple ds) = true) : Near b (.tuple ds) (.tuple ds.reverse) :=
  ⟨fineL_reverse (fineL_up f), by show shwN.shwNL ds.reverse + 3 ≤ 2 * (shwN.shwNL ds + 3) + 4000; rw [shwNL_reverse]; omega, by simp only [PyData.depth]; rw [dpA_reverse]; omega⟩
theorem Near.less {b : Nat} {ds : List PyData} (n : Nat) (f : fine b (.tuple ds) = true) : Near b (.tuple ds) (.tuple (ds.take n)) := by
  have c := shwNL_cut ds n
  have d := dpA_cut ds n
  exact ⟨fineL_take n (fineL_up f), by show shwN.shwNL (ds.take n) + 3 ≤ 2 * (shwN.shwNL ds + 3) + 4000; omega, by simp only [PyData.depth]; omega⟩
theorem Near.more {b : Nat} {ds : List PyData} (n : Nat) (f : fine b (.tuple ds) = true) : Near b (.tuple ds) (.tuple (ds ++ ds.take n)) := by
  have c := shwNL_cut ds n
  have d := dpA_cut ds n
  refine ⟨fineL_append (fineL_up f) (fineL_take n (fineL_up f)), ?_, ?_⟩
  · show shwN.shwNL (ds ++ ds.take n) + 3 ≤ 2 * (shwN.shwNL ds + 3) + 4000
    rw [shwNL_append]
    omega
  · simp only [PyData.depth]
    rw [dpA_append]
    omega
theorem Near.num {b : Nat} {i j : Int} (hb : 100 ≤ b) (h : i.natAbs < 2 ^ b) (k : j.natAbs ≤ i.natAbs + 1) : Near b (.int i) (.int j) := by
  refine ⟨decide_eq_true ?_, by show 1921 ≤ 2 * 1921 + 4000; decide, by show (0 : Nat) ≤ 0 + 3; decide⟩
  rw [Nat.pow_succ]
  have : 1 ≤ 2 ^ b := Nat.one_le_two_pow
  omega
/-! ### slices -/
def rNeU (K : PySem.W.Frag) : R2 := fun x y H Q => ∃ p e xs, x = .ref p ∧ y = .ref e ∧ SqT K H p xs ∧ SqT K H e [] ∧ Q (.bl (!xs.isEmpty)) H
section
variable {X : Cx}
/-- t != () -/
theorem op_neU (hu : X.A.units < cLine) : OpR X (compareOp .NotEq) (rNeU X.K) := by
  intro pins s σ H x y v u Q I rx ry h
  obtain ⟨p, e, xs, rfl, rfl, hp, he, q⟩ := h
  cases rx
  cases ry
  obtain ⟨its, r, ht, _⟩ := I.tuple hp
  obtain ⟨its2, r2, ht2, _⟩ := I.tuple he
  cases r2
  refine SeqAt.RcNeAt.tuples (e := fun _ => true) ht ht2 hu (fun j _ h2 => absurd h2 (by simp)) X.prog X.w _ _ ?_
  refine ⟨.bl (!xs.isEmpty), H, I, ?_, q⟩
  have len := r.length
  show Value.bool _ = Value.bool _
  cases xs with
  | nil =>
    cases r
    rfl
  | cons x y =>
    cases r
    simp
end
def fNeU (m : Mu) (x y : DV) (k : DV → Prop) : Prop := match x, y with
  | .d (.tuple ds), .d (.tuple []) => k (.d (.bool (!ds.isEmpty)))
  | _, _ => False
theorem os_neU (K : PySem.W.Frag) : OpS (rNeU K) fNeU := fun c G pl σ H e m x y dx dy k Q sr rx ry d KK => by
  unfold fNeU at d
  split at d
  · rename_i ds
    cases (show Da G x (.tuple ds) from rx) with
    | @tup _ xs1 _ e1 l1 =>
      cases (show Da G y (.tuple []) from ry) with
      | tup e2 l2 =>
        cases l2
        refine ⟨_, _, _, rfl, rfl, .inl (.inl (sr.hp.sub _ _ e1)), .inl (.inl (sr.hp.sub _ _ e2)), ?_⟩
        have : xs1.isEmpty = ds.isEmpty := by
          cases l1 <;> rfl
        rw [this]
        exact KK.val sr d (show Da G _ _ from .bl _)
  · exact d.elim
/-- what is known of an odd value -/
structure OddD (d : PyData) : Prop where
  fi : fine 100 d = true
  sz : shwN d ≤ 4000
  dp : d.depth ≤ 3
def rNeUL (K : PySem.W.Frag) : R2 := fun x y H Q => ∃ p e xs, x = .ref p ∧ y = .ref e ∧ SqL K H p xs ∧ SqL K H e [] ∧ Q (.bl (!xs.isEmpty)) H
theorem op_neUL {X : Cx} (hu : X.A.units < cLine) : OpR X (compareOp .NotEq) (rNeUL X.K) := by
  intro pins s σ H x y v u Q I rx ry h
  obtain ⟨p, e, xs, rfl, rfl, hp, he, q⟩ := h
  cases rx
  cases ry
  obtain ⟨its, r, ht, _⟩ := I.list hp
  obtain ⟨its2, r2, ht2, _⟩ := I.list he
  cases r2
  cases xs with
  | nil =>
    cases r
    refine SeqAt.RcNeAt.lists (e := fun _ => true) ht.isList ht2.isList rfl hu (fun j _ h2 => absurd h2 (by simp)) X.prog X.w _ _ ?_
    exact ⟨.bl false, H, I, rfl, q⟩
  | cons x y =>
    cases r
    refine SeqAt.RcNeAt.lists_lengths ht.isList ht2.isList (by simp) hu X.prog X.w _ _ ?_
    exact ⟨.bl true, H, I, rfl, q⟩
def fNeUL (m : Mu) (x y : DV) (k : DV → Prop) : Prop := match x, y with
  | .d (.list ds), .d (.list []) => k (.d (.bool (!ds.isEmpty)))
  | _, _ => False
theorem os_neUL (K : PySem.W.Frag) : OpS (rNeUL K) fNeUL := fun c G pl σ H e m x y dx dy k Q sr rx ry d KK => by
  unfold fNeUL at d
  split at d
  · rename_i ds
    cases (show Da G x (.list ds) from rx) with
    | @lst _ xs1 _ e1 l1 =>
      cases (show Da G y (.list []) from ry) with
      | lst e2 l2 =>
        cases l2
        refine ⟨_, _, _, rfl, rfl, .inl (.inl (sr.hp.sub _ _ e1)), .inl (.inl (sr.hp.sub _ _ e2)), ?_⟩
        have : xs1.isEmpty = ds.isEmpty := by
          cases l1 <;> rfl
        rw [this]
        exact KK.val sr d (show Da G _ _ from .bl _)
  · exact d.elim
/-- values small enough to be shown -/
structure ValD (b n m : Nat) (d : PyData) : Prop where
  fi : fine b d = true
  sz : shwN d ≤ n
  dp : d.depth ≤ m
end PM

/-! small values, by what they are made of -/
namespace PM
open PySem PySem.Spec PyProof.Rows L2 RZ
theorem vdL {b n m : Nat} : ∀ {ds : List PyData}, (∀ d ∈ ds, ValD b n m d) → fine.fineL b ds = true ∧ shwN.shwNL ds ≤ (n + 2) * ds.length ∧ PyData.depthAll ds ≤ m
  | [], _ => ⟨rfl, Nat.zero_le _, by simp [PyData.depthAll]⟩
  | d :: ds, h => by
    have a := h d List.mem_cons_self
    obtain ⟨h1, h2, h3⟩ := vdL (ds := ds) fun x hx => h x (List.mem_cons_of_mem _ hx)
    refine ⟨?_, ?_, ?_⟩
    · show (fine b d && fine.fineL b ds) = true
      rw [a.fi, h1]
      rfl
    · show shwN d + 2 + shwN.shwNL ds ≤ (n + 2) * (ds.length + 1)
      have := a.sz
      rw [Nat.mul_succ]
      omega
    · simp only [PyData.depthAll]
      have := a.dp
      omega
theorem ValD.tup {b n m : Nat} {ds : List PyData} (h : ∀ d ∈ ds, ValD b n m d) : ValD b ((n + 2) * ds.length + 3) (m + 1) (.tuple ds) := by
  obtain ⟨h1, h2, h3⟩ := vdL h
  exact ⟨h1, by show shwN.shwNL ds + 3 ≤ _; omega, by simp only [PyData.depth]; omega⟩
theorem ValD.lst {b n m : Nat} {ds : List PyData} (h : ∀ d ∈ ds, ValD b n m d) : ValD b ((n + 2) * ds.length + 3) (m + 1) (.list ds) := by
  obtain ⟨h1, h2, h3⟩ := vdL h
  exact ⟨h1, by show shwN.shwNL ds + 3 ≤ _; omega, by simp only [PyData.depth]; omega⟩
theorem ValD.tupM {α : Type} {b n m l : Nat} {f : α → PyData} {xs : List α} (h : ∀ x ∈ xs, ValD b n m (f x)) (hl : xs.length ≤ l) : ValD b ((n + 2) * l + 3) (m + 1) (.tuple (xs.map f)) := by
  have := ValD.tup (ds := xs.map f) fun d hd => by
    obtain ⟨x, hx, rfl⟩ := List.mem_map.mp hd
    exact h x hx
  rw [List.length_map] at this
  exact ⟨this.fi, Nat.le_trans this.sz (Nat.add_le_add_right (Nat.mul_le_mul_left _ hl) 3), this.dp⟩
theorem ValD.lstM {α : Type} {b n m l : Nat} {f : α → PyData} {xs : List α} (h : ∀ x ∈ xs, ValD b n m (f x)) (hl : xs.length ≤ l) : ValD b ((n + 2) * l + 3) (m + 1) (.list (xs.map f)) := by
  have := ValD.lst (ds := xs.map f) fun d hd => by
    obtain ⟨x, hx, rfl⟩ := List.mem_map.mp hd
    exact h x hx
  rw [List.length_map] at this
  exact ⟨this.fi, Nat.le_trans this.sz (Nat.add_le_add_right (Nat.mul_le_mul_left _ hl) 3), this.dp⟩
theorem fine_more {b c : Nat} (hc : b ≤ c) {d : PyData} (h : fine b d = true) : fine c d = true := by
  obtain ⟨k, rfl⟩ : ∃ k, c = b + k := ⟨c - b, by omega⟩
  clear hc
  induction k with
  | zero => exact h
  | succ k ih => exact fine_up ih
theorem ValD.mono {b n m b' n' m' : Nat} {d : PyData} (h : ValD b n m d) (hb : b ≤ b') (hn : n ≤ n') (hm : m ≤ m') : ValD b' n' m' d := ⟨fine_more hb h.fi, Nat.le_trans h.sz hn, Nat.le_trans h.dp hm⟩
theorem ValD.int {b : Nat} {i : Int} (h : i.natAbs < 2 ^ b) : ValD b 1921 0 (.int i) := ⟨decide_eq_true h, Nat.le_refl _, Nat.le_refl _⟩
theorem ValD.two {b n m : Nat} {x y : PyData} (hx : ValD b n m x) (hy : ValD b n m y) : ValD b (2 * n + 7) (m + 1) (.tuple [x, y]) := by
  have := ValD.tup (ds := [x, y]) (b := b) (n := n) (m := m) fun d hd => by
    simp only [List.mem_cons, List.not_mem_nil, or_false] at hd
    rcases hd with rfl | rfl
    · exact hx
    · exact hy
  exact ⟨this.fi, by have := this.sz; simp only [List.length_cons, List.length_nil] at this; omega, this.dp⟩
theorem ValD.fd {b : Nat} {x : Int × Int} (h : Fr.Sz b x) : ValD b 3849 1 (fd x) := ValD.two (n := 1921) (m := 0) (.int h.1) (.int h.2)
theorem ValD.shw {b n m : Nat} {d : PyData} (h : ValD b n m d) (h0 : 0 < b) (h9 : b ≤ 1920) : Shw d n m := (fine_shw h0 h9 h.fi).mono h.sz h.dp
theorem OddD.vd {d : PyData} (h : OddD d) : ValD 100 4000 3 d := ⟨h.fi, h.sz, h.dp⟩
theorem Near.val {b n m : Nat} {d d' : PyData} (h : Near b d d') (v : ValD b n m d) : ValD (b + 1) (2 * n + 4000) (m + 3) d' := ⟨h.fi, by have := h.sz; have := v.sz; omega, by have := h.dp; have := v.dp; omega⟩
theorem fine_fd {b : Nat} {x : Int × Int} (h : fine b (PM.fd x) = true) : Fr.Sz b x := by
  have h : (decide (x.1.natAbs < 2 ^ b) && (decide (x.2.natAbs < 2 ^ b) && true)) = true := h
  obtain ⟨h1, h2⟩ := Bool.and_eq_true_iff.mp h
  exact ⟨of_decide_eq_true h1, of_decide_eq_true (Bool.and_eq_true_iff.mp h2).1⟩
theorem PanOk.vd {most : Nat} {its : List (Int × Int)} {rls : List (Nat × Nat)} (h : PanOk most its rls) (hm : most ≤ 8) : ValD 100 62000 2 (.tuple (its.map itD)) ∧ ValD 100 62000 2 (.tuple (rls.map rlD)) ∧ ValD 100 130000 3 (pnD its rls) := by
  have n8 := h.n8
  have a : ValD 100 62000 2 (.tuple (its.map itD)) := (ValD.tupM (b := 100) (n := 3849) (m := 1) (l := 16) (fun q hq => ValD.two (.int (by have := h.mrk q hq; omega)) (.int (by have := h.wt q hq; omega))) (by omega)).mono (Nat.le_refl _) (by decide) (by decide)
  have b : ValD 100 62000 2 (.tuple (rls.map rlD)) := (ValD.tupM (b := 100) (n := 3849) (m := 1) (l := 16) (fun q hq => ValD.two (.int (by have := h.rl q hq; omega)) (.int (by have := h.rl q hq; omega))) h.r16).mono (Nat.le_refl _) (by decide) (by decide)
  exact ⟨a, b, (ValD.two a b).mono (Nat.le_refl _) (by decide) (by decide)⟩
theorem tgt0 {A : Prop} (h : A) : A := h
theorem fineL_mem {b : Nat} : ∀ {ds : List PyData}, fine.fineL b ds = true → ∀ d ∈ ds, fine b d = true
  | d :: ds, h, x, hx => by
    unfold fine.fineL at h
    obtain ⟨h1, h2⟩ := Bool.and_eq_true_iff.mp h
    rcases List.mem_cons.mp hx with rfl | hx
    · exact h1
    · exact fineL_mem h2 x hx
end PM

/-! the first fault of a value as a panel -/
namespace PM
open PySem PySem.Spec PyProof.Rows L2 RZ
def inI (lo hi : Int) : PyData → Bool
  | .int i => decide (lo ≤ i) && decide (i ≤ hi)
  | _ => false
def flt (p : List Nat) (s : Str) : PyData := .tuple [.tuple (p.map nD), .str s]
def fltW : List Str := ["panel", "items", "rules", "item", "rule", "mark", "weight", "low", "high"]
def itF (n : Nat) (v : PyData) : PyData := match v with
  | .tuple [m, w] => if inI (-1000000000) 1000000000 m = true then (if inI 1 1000000 w = true then .none else flt [0, n, 1] "weight") else flt [0, n, 0] "mark"
  | _ => flt [0, n] "item"
def sameI : PyData → PyData → Bool
  | .int i, .int j => decide (i = j)
  | _, _ => false
def rlF (c n : Nat) (v : PyData) : PyData := match v with
  | .tuple [l, h] => if isIx c l = true then (if isIx c h = true ∧ sameI l h = false then .none else flt [1, n, 1] "high") else flt [1, n, 0] "low"
  | _ => flt [1, n] "rule"
def firstF : List PyData → PyData
  | [] => .none
  | .none :: r => firstF r
  | d :: _ => d
def itFs (is : List PyData) : List PyData := (List.range is.length).map fun t => itF t (is.getD t .none)
def rlFs (c : Nat) (rs : List PyData) : List PyData := (List.range rs.length).map fun t => rlF c t (rs.getD t .none)
def fltB (is : List PyData) (b : PyData) : PyData := match b with
  | .tuple rs => if rs.length ≤ 16 then firstF (itFs is ++ rlFs is.length rs) else flt [1] "rules"
  | _ => flt [1] "rules"
def fltP (v : PyData) : PyData := match v with
  | .tuple [a, b] => match a with
    | .tuple is => if 1 ≤ is.length ∧ is.length ≤ 8 then fltB is b else flt [0] "items"
    | _ => flt [0] "items"
  | _ => flt [] "panel"
theorem firstF_nons : ∀ {xs : List PyData} (B : List PyData), (∀ x ∈ xs, x = .none) → firstF (xs ++ B) = firstF B
  | [], _, _ => rfl
  | x :: xs, B, h => by
    have e := h x List.mem_cons_self
    have ih := firstF_nons (xs := xs) B fun y hy => h y (List.mem_cons_of_mem _ hy)
    subst e
    exact ih
theorem firstF_hit {d : PyData} (h : d ≠ .none) (r : List PyData) : firstF (d :: r) = d := by
  cases d <;> first | rfl | exact absurd rfl h
theorem first_at {n t : Nat} (F : Nat → PyData) (B : List PyData) (ht : t < n) (h : ∀ s, s < t → F s = .none) (hf : F t ≠ .none) : firstF ((List.range n).map F ++ B) = F t := by
  obtain ⟨k, rfl⟩ : ∃ k, n = t + (1 + k) := ⟨n - t - 1, by omega⟩
  rw [List.range_add, List.map_append, List.append_assoc, firstF_nons _ fun x hx => by
    obtain ⟨s, hs, rfl⟩ := List.mem_map.mp hx
    exact h s (List.mem_range.mp hs)]
  rw [show 1 + k = k + 1 by omega, List.range_succ_eq_map, List.map_cons, List.map_cons, List.cons_append, Nat.add_zero]
  exact firstF_hit hf _
theorem first_none {n : Nat} (F : Nat → PyData) (B : List PyData) (h : ∀ s, s < n → F s = .none) : firstF ((List.range n).map F ++ B) = firstF B := firstF_nons _ fun x hx => by
  obtain ⟨s, hs, rfl⟩ := List.mem_map.mp hx
  exact h s (List.mem_range.mp hs)
theorem flt_ne {p : List Nat} {s : Str} : flt p s ≠ .none := fun h => by cases h
theorem itF_ok (n : Nat) (v : PyData) : itF n v = .none ∨ ∃ p s, itF n v = flt p s ∧ p.length ≤ 3 ∧ (∀ i ∈ p, i ≤ n + 1) ∧ s ∈ fltW := by
  have key : ∀ p s, p.length ≤ 3 → (∀ i ∈ p, i ≤ n + 1) → s ∈ fltW → flt p s = .none ∨ ∃ p' s', flt p s = flt p' s' ∧ p'.length ≤ 3 ∧ (∀ i ∈ p', i ≤ n + 1) ∧ s' ∈ fltW := fun p s h1 h2 h3 => .inr ⟨p, s, rfl, h1, h2, h3⟩
  unfold itF
  split
  · split
    · split
      · exact .inl rfl
      · exact key _ _ (by simp) (by simp) (by simp [fltW])
    · exact key _ _ (by simp) (by simp) (by simp [fltW])
  · exact key _ _ (by simp) (by simp) (by simp [fltW])
theorem rlF_ok (c n : Nat) (v : PyData) : rlF c n v = .none ∨ ∃ p s, rlF c n v = flt p s ∧ p.length ≤ 3 ∧ (∀ i ∈ p, i ≤ n + 1) ∧ s ∈ fltW := by
  have key : ∀ p s, p.length ≤ 3 → (∀ i ∈ p, i ≤ n + 1) → s ∈ fltW → flt p s = .none ∨ ∃ p' s', flt p s = flt p' s' ∧ p'.length ≤ 3 ∧ (∀ i ∈ p', i ≤ n + 1) ∧ s' ∈ fltW := fun p s h1 h2 h3 => .inr ⟨p, s, rfl, h1, h2, h3⟩
  unfold rlF
  split
  · split
    · split
      · exact .inl rfl
      · exact key _ _ (by simp) (by simp) (by simp [fltW])
    · exact key _ _ (by simp) (by simp) (by simp [fltW])
  · exact key _ _ (by simp) (by simp) (by simp [fltW])
theorem firstF_in : ∀ (xs : List PyData), firstF xs = .none ∨ firstF xs ∈ xs
  | [] => .inl rfl
  | d :: r => by
    by_cases h : d = .none
    · subst h
      rcases firstF_in r with e | e
      · exact .inl e
      · exact .inr (List.mem_cons_of_mem _ e)
    · rw [firstF_hit h]
      exact .inr List.mem_cons_self
theorem fltP_ok (v : PyData) : fltP v = .none ∨ ∃ p s, fltP v = flt p s ∧ p.length ≤ 3 ∧ (∀ i ∈ p, i ≤ 20) ∧ s ∈ fltW := by
  have key : ∀ p s, p.length ≤ 3 → (∀ i ∈ p, i ≤ 20) → s ∈ fltW → flt p s = .none ∨ ∃ p' s', flt p s = flt p' s' ∧ p'.length ≤ 3 ∧ (∀ i ∈ p', i ≤ 20) ∧ s' ∈ fltW := fun p s h1 h2 h3 => .inr ⟨p, s, rfl, h1, h2, h3⟩
  unfold fltP
  split
  · split
    · split
      · unfold fltB
        split
        · split
          · rename_i is hi b rs hr
            rcases firstF_in (itFs is ++ rlFs is.length rs) with e | e
            · exact .inl e
            · rcases List.mem_append.mp e with h | h
              · obtain ⟨t, ht, e2⟩ := List.mem_map.mp h
                have ht := List.mem_range.mp ht
                rw [← e2]
                rcases itF_ok t (is.getD t .none) with o | ⟨p, s, o, h1, h2, h3⟩
                · exact .inl o
                · rw [o]
                  exact key _ _ h1 (fun i hi => by have := h2 i hi; omega) h3
              · obtain ⟨t, ht, e2⟩ := List.mem_map.mp h
                have ht := List.mem_range.mp ht
                rw [← e2]
                rcases rlF_ok is.length t (rs.getD t .none) with o | ⟨p, s, o, h1, h2, h3⟩
                · exact .inl o
                · rw [o]
                  exact key _ _ h1 (fun i hi => by have := h2 i hi; omega) h3
          · exact key _ _ (by simp) (by simp) (by simp [fltW])
        · exact key _ _ (by simp) (by simp) (by simp [fltW])
      · exact key _ _ (by simp) (by simp) (by simp [fltW])
    · exact key _ _ (by simp) (by simp) (by simp [fltW])
  · exact key _ _ (by simp) (by simp) (by simp [fltW])
theorem plain_nats (p : List Nat) : plainD.plainL (p.map nD) = true := by
  induction p with
  | nil => rfl
  | cons a r ih =>
    show (true && plainD.plainL (r.map nD)) = true
    rw [ih]
    rfl
theorem dep_nats (p : List Nat) : dep.depL (p.map nD) = 0 := by
  induction p with
  | nil => rfl
  | cons a r ih =>
    show max 0 (dep.depL (r.map nD)) = 0
    rw [ih]
    rfl
theorem fltW_ok {s : Str} (h : s ∈ fltW) : PyData.strOk s = true ∧ shwN (.str s) ≤ 100 := by
  simp only [fltW, List.mem_cons, List.not_mem_nil, or_false] at h
  rcases h with rfl | rfl | rfl | rfl | rfl | rfl | rfl | rfl | rfl <;> exact ⟨by decide +kernel, by decide +kernel⟩
theorem fltP_plain (v : PyData) : plainD (fltP v) = true ∧ dep (fltP v) < 8 ∧ ValD 100 20000 2 (fltP v) := by
  rcases fltP_ok v with e | ⟨p, s, e, h1, h2, h3⟩
  · rw [e]
    exact ⟨rfl, by decide, rfl, by decide, by decide⟩
  · rw [e]
    obtain ⟨w1, w2⟩ := fltW_ok h3
    refine ⟨?_, ?_, ?_⟩
    · show (decide (2 ≤ 1000) && ((decide ((p.map nD).length ≤ 1000) && plainD.plainL (p.map nD)) && (PyData.strOk s && true))) = true
      rw [plain_nats, w1, decide_eq_true (show (p.map nD).length ≤ 1000 by rw [List.length_map]; omega)]
      rfl
    · show max (dep.depL (p.map nD) + 1) (max 0 0) + 1 < 8
      rw [dep_nats]
      decide
    · refine (ValD.two (b := 100) (n := 6000) (m := 1) ((ValD.tupM (n := 1921) (m := 0) (l := 3) (fun i hi => ValD.int (by have := h2 i hi; omega)) h1).mono (Nat.le_refl _) (by decide) (by decide)) ⟨rfl, Nat.le_trans w2 (by decide), by simp [PyData.depth]⟩).mono (Nat.le_refl _) (by decide) (by decide)
end PM

/-! texts of ints, fractions, ratings and panels; and their reading -/
namespace PM
open PySem PySem.Spec PyProof.Rows L2 RZ SX
/-! ### constants -/
theorem cS (s : String) (l : List Nat) (h : s.toList.map Char.toNat = l) : Str.ofString s = S l := TL.ext_tl (by rw [TL.tl_ofString, h])
theorem c_slash : ("/" : Str) = S [47] := cS _ _ rfl
theorem c_minus : ("-" : Str) = S [45] := cS _ _ rfl
theorem c_zero : ("0" : Str) = S [48] := cS _ _ rfl
theorem c_mzero : ("-0" : Str) = S [45, 48] := cS _ _ rfl
theorem c_nil : ("" : Str) = S [] := cS _ _ rfl
theorem c_sp : (" " : Str) = S [32] := cS _ _ rfl
theorem c_nl : ("\n" : Str) = S [10] := cS _ _ rfl
theorem c_item : ("item" : Str) = S [105, 116, 101, 109] := cS _ _ rfl
theorem c_rule : ("rule" : Str) = S [114, 117, 108, 101] := cS _ _ rfl
theorem c_items : ("item " : Str) = S [105, 116, 101, 109, 32] := cS _ _ rfl
theorem c_rules : ("rule " : Str) = S [114, 117, 108, 101, 32] := cS _ _ rfl
theorem S_eq {a b : List Nat} : (S a = S b) ↔ a = b := ⟨S_inj, fun h => by rw [h]⟩
theorem dS_eq {a b : List Nat} : decide (S a = S b) = decide (a = b) := decide_eq_decide.mpr S_eq
theorem eqB_S (a b : List Nat) : eqB (.str (S a)) (.str (S b)) = decide (a = b) := dS_eq
/-! ### ints -/
def intL (i : Int) : List Nat := if i < 0 then 45 :: TL.numL i.natAbs else TL.numL i.natAbs
theorem strI_nat (n : Nat) : strI (n : Int) = S (TL.numL n) := num_S n
theorem strI_eq (i : Int) : strI i = S (intL i) := by
  unfold intL
  by_cases h : i < 0
  · rw [if_pos h]
    obtain ⟨n, rfl⟩ : ∃ n : Nat, i = Int.negSucc n := by cases i with | ofNat n => exact absurd h (by simp) | negSucc n => exact ⟨n, rfl⟩
    refine TL.ext_tl ?_
    unfold strI
    rw [TL.tl_ofString]
    have e : (toString (Int.negSucc n)).toList = '-' :: (toString (n + 1)).toList := by
      show ("-" ++ (n + 1).repr).toList = _
      rw [String.toList_append]
      rfl
    rw [e, List.map_cons]
    have e2 := TL.tl_num (n + 1)
    rw [TL.tl_ofString] at e2
    have e3 : (toString ((n + 1 : Nat) : Int)) = toString (n + 1) := rfl
    rw [e3] at e2
    rw [e2]
    rfl
  · rw [if_neg h]
    obtain ⟨n, rfl⟩ := Int.eq_ofNat_of_zero_le (Int.not_lt.mp h)
    exact num_S n
theorem intL_len {i : Int} {k : Nat} (hk : 0 < k) (h : i.natAbs < 10 ^ k) : (intL i).length ≤ k + 1 := by
  unfold intL
  have := TL.numL_len hk h
  split
  · rw [List.length_cons]; omega
  · omega
theorem intL_abs (i : Int) : S (intL i) = (if i < 0 then S [45] else S []) ++ S (TL.numL i.natAbs) := by
  unfold intL
  split
  · rw [S_cat]; rfl
  · rw [S_cat]; rfl
theorem intL_free {i : Int} {c : Nat} (h : c < 45 ∨ (45 < c ∧ c < 48) ∨ 57 < c) : c ∉ intL i := by
  unfold intL
  have := TL.numL_free (n := i.natAbs) (s := c) (by omega)
  split
  · rw [List.mem_cons]; rintro (z | z)
    · omega
    · exact this z
  · exact this
theorem lg19 {i : Int} {b : Nat} (h : i.natAbs < 2 ^ b) (b0 : 0 < b := by decide) (b9 : b ≤ 1920 := by decide) : i.natAbs.log2 < 1920 := Nat.lt_of_lt_of_le (PySem.Flt.log2_lt_of b0 h) b9
/-! ### digits -/
def isDg (c : Nat) : Bool := decide (48 ≤ c) && decide (c ≤ 57)
def isDec (l : List Nat) : Bool := l.all isDg && !l.isEmpty && (decide (l = [48]) || !decide (l.head? = some 48))
def dv (l : List Nat) : Int := (NumText.digitsVal l : Nat)
theorem dv_num (n : Nat) : dv (TL.numL n) = n := by unfold dv; rw [TL.numL_val]
theorem numL_dg (n : Nat) : (TL.numL n).all isDg = true := List.all_eq_true.mpr fun c hc => by
  have := TL.numL_digits n c hc
  unfold isDg; simp only [Bool.and_eq_true, decide_eq_true_eq]; exact this
theorem numL_head : ∀ {n : Nat}, 0 < n → (TL.numL n).head? ≠ some 48 := by
  intro n
  induction n using Nat.strongRecOn with
  | _ n ih =>
    intro h
    by_cases z : n < 10
    · rw [TL.numL_lt z]
      simp only [List.head?_cons]
      intro w; have := Option.some.inj w; omega
    · rw [TL.numL_step (by omega), List.head?_append]
      have := ih (n / 10) (by omega) (by omega)
      cases q : (TL.numL (n / 10)).head? with
      | none => exact absurd (List.head?_eq_none_iff.mp q) (TL.numL_ne _)
      | some c => rw [q] at this; exact this
theorem isDec_num (n : Nat) : isDec (TL.numL n) = true := by
  unfold isDec
  have h2 : (TL.numL n).isEmpty = false := by rw [List.isEmpty_eq_false_iff]; exact TL.numL_ne n
  rw [numL_dg, h2]
  simp only [Bool.not_false, Bool.and_self, Bool.true_and, Bool.or_eq_true, decide_eq_true_eq, Bool.not_eq_true', decide_eq_false_iff_not]
  by_cases z : n = 0
  · subst z; exact .inl (TL.numL_lt (by decide))
  · exact .inr (numL_head (by omega))
theorem dec_inv {l : List Nat} (h : isDec l = true) : l.all isDg = true ∧ l ≠ [] ∧ (l = [48] ∨ l.head? ≠ some 48) := by
  unfold isDec at h
  simp only [Bool.and_eq_true, Bool.not_eq_true', Bool.or_eq_true, decide_eq_true_eq, decide_eq_false_iff_not, List.isEmpty_eq_false_iff] at h
  exact ⟨h.1.1, h.1.2, h.2⟩
theorem isAscii_S (l : List Nat) : Txt.isascii (S l) = l.all fun c => decide (c < 128) := by
  show (l.toArray).all (· < 128) = _
  rw [List.all_toArray]
theorem uniDg : ∀ c : Nat, c < 128 → Unicode.isDigit c = isDg c := by decide +kernel
theorem isDigit_S {l : List Nat} (h : l.all (fun c => decide (c < 128)) = true) : Txt.isdigit (S l) = (!l.isEmpty && l.all isDg) := by
  have e : Txt.isdigit (S l) = (decide ((S l).length > 0) && (l.toArray).all Unicode.isDigit) := rfl
  rw [e, S_len, List.all_toArray]
  have e2 : l.all Unicode.isDigit = l.all isDg := by
    have lt : ∀ c ∈ l, c < 128 := fun c hc => of_decide_eq_true (List.all_eq_true.mp h c hc)
    rw [Bool.eq_iff_iff, List.all_eq_true, List.all_eq_true]
    exact ⟨fun z c hc => by rw [← uniDg c (lt c hc)]; exact z c hc, fun z c hc => by rw [uniDg c (lt c hc)]; exact z c hc⟩
  rw [e2]
  cases l <;> simp
theorem dg_ascii {l : List Nat} (h : l.all isDg = true) : l.all (fun c => decide (c < 128)) = true := List.all_eq_true.mpr fun c hc => by
  have := List.all_eq_true.mp h c hc
  unfold isDg at this
  simp only [Bool.and_eq_true, decide_eq_true_eq] at this
  exact decide_eq_true (by omega)
theorem beq_dec (d c : Nat) : (d == c) = decide (c = d) := by
  by_cases h : c = d
  · subst h; simp
  · rw [decide_eq_false h, beq_eq_false_iff_ne.mpr (Ne.symm h)]
theorem starts_S (l : List Nat) (c : Nat) : Txt.startswith (S l) (S [c]) = decide (l.head? = some c) := by
  have e : Txt.startswith (S l) (S [c]) = (decide (0 + (S [c]).length ≤ (S l).length) && PySem.Builtin.Str.subAt (S l) (S [c]) 0) := rfl
  rw [e, PySem.StrLaws.subAt_eq, S_len, S_len]
  cases l with
  | nil => simp
  | cons d r => simp [eq_comm]; exact beq_dec d c
theorem subAt_one (l : List Nat) (c : Nat) : PySem.Builtin.Str.subAt (S l) (S [c]) 0 = decide (l.head? = some c) := by
  rw [PySem.StrLaws.subAt_eq, S_len]
  cases l with
  | nil => simp
  | cons d r => simp [eq_comm]; exact beq_dec d c
theorem rempre_S (l : List Nat) (c : Nat) : Txt.removeprefix (S l) (S [c]) = S (if l.head? = some c then l.tail else l) := by
  have e : Txt.removeprefix (S l) (S [c]) = Txt.affix (S l) (if PySem.Builtin.Str.subAt (S l) (S [c]) 0 = true then some ((S [c]).length, (S l).length) else none) := rfl
  rw [e, subAt_one]
  by_cases h : l.head? = some c
  · rw [if_pos h, if_pos (decide_eq_true h)]
    refine TL.ext_tl ?_
    cases l with
    | nil => cases h
    | cons d r =>
      show TL.tl (if ((S (d :: r)).length - (S [c]).length == (S (d :: r)).length) = true then _ else _) = _
      rw [if_neg (by simp [S_len]), TL.tl_strSub_end]
      rfl
  · rw [if_neg h, if_neg (by rw [decide_eq_false h]; exact Bool.false_ne_true)]
    rfl
/-! ### reading ints and fractions -/
def optD : Option Int → PyData
  | none => .none
  | some i => .int i
def optF : Option (Int × Int) → PyData
  | none => .none
  | some x => fd x
/-- a word without its sign -/
def unS (l : List Nat) : List Nat := if l.head? = some 45 then l.tail else l
def pI (l : List Nat) : Option Int := if l = [45, 48] then none else if isDec (unS l) = true then some (if unS l = l then dv (unS l) else -dv (unS l)) else none
theorem numL_zero : TL.numL 0 = [48] := TL.numL_lt (by decide)
theorem head45 (n : Nat) : (TL.numL n).head? ≠ some 45 := fun h => by
  have := TL.numL_free (n := n) (s := 45) (by omega)
  exact this (List.mem_of_mem_head? h)
theorem pI_int (i : Int) : pI (intL i) = some i := by
  unfold intL
  by_cases h : i < 0
  · rw [if_pos h]
    have u : unS (45 :: TL.numL i.natAbs) = TL.numL i.natAbs := rfl
    have n0 : ¬ (45 :: TL.numL i.natAbs = [45, 48]) := fun z => by
      have z := (List.cons.inj z).2
      rw [← numL_zero] at z
      have := TL.numL_inj z
      omega
    have ne : ¬ (TL.numL i.natAbs = 45 :: TL.numL i.natAbs) := fun z => by
      have := congrArg List.length z
      simp at this
    unfold pI
    rw [if_neg n0, u, if_pos (isDec_num _), if_neg ne, dv_num]
    congr 1
    omega
  · rw [if_neg h]
    have hd := head45 i.natAbs
    have u : unS (TL.numL i.natAbs) = TL.numL i.natAbs := if_neg hd
    unfold pI
    rw [if_neg (fun z => by rw [z] at hd; exact hd rfl), u, if_pos (isDec_num _), if_pos rfl, dv_num]
    congr 1
    omega
def pF (l : List Nat) : Option (Int × Int) := match TL.par [47] [] l with
  | none => (pI l).map fun n => (n, 1)
  | some (a, b) => match pI a, pI b with
    | some n, some d => if d ≠ 1 ∧ isFr (fd (n, d)) = true then some (n, d) else none
    | _, _ => none
def frL (x : Int × Int) : List Nat := intL x.1 ++ (if x.2 = 1 then [] else 47 :: intL x.2)
theorem frL_free {x : Int × Int} {c : Nat} (h : c < 45 ∨ 57 < c) : c ∉ frL x := by
  unfold frL
  have h1 := intL_free (i := x.1) (c := c) (by omega)
  have h2 := intL_free (i := x.2) (c := c) (by omega)
  split
  · rw [List.append_nil]; exact h1
  · rw [List.mem_append, List.mem_cons]
    rintro (z | z | z)
    · exact h1 z
    · omega
    · exact h2 z
theorem pF_fr {x : Int × Int} (h : Fr.IsF x) : pF (frL x) = some x := by
  unfold frL pF
  have fr1 : 47 ∉ intL x.1 := intL_free (by omega)
  by_cases z : x.2 = 1
  · rw [if_pos z, List.append_nil, par_head_none fr1]
    simp only [pI_int, Option.map_some]
    rw [← z]
  · rw [if_neg z]
    have e := par_head (sep := []) (intL x.2) fr1
    simp only [List.cons_append, List.nil_append] at e
    rw [e]
    simp only [pI_int]
    rw [if_pos ⟨z, isFr_iff.mpr ⟨x, rfl, h⟩⟩]
theorem frL_len {x : Int × Int} {k : Nat} (hk : 0 < k) (h1 : x.1.natAbs < 10 ^ k) (h2 : x.2.natAbs < 10 ^ k) : (frL x).length ≤ 2 * k + 3 := by
  unfold frL
  have e1 := intL_len hk h1
  have e2 := intL_len hk h2
  rw [List.length_append]
  split
  · rw [List.length_nil]; omega
  · rw [List.length_cons]; omega
/-! ### ratings -/
def rtL (xs : List (Int × Int)) : List Nat := TL.joinL [32] (xs.map frL)
theorem words_rt {xs : List (Int × Int)} (h : xs ≠ []) : TL.spl [32] 0 [] (rtL xs) = xs.map frL :=
  SX.spl_join (by simpa using h) fun p hp => by
    obtain ⟨x, _, rfl⟩ := List.mem_map.mp hp
    exact frL_free (by omega)
/-! ### panels -/
def itW (q : Int × Int) : List Nat := TL.joinL [32] [[105, 116, 101, 109], intL q.1, intL q.2]
def rlW (q : Nat × Nat) : List Nat := TL.joinL [32] [[114, 117, 108, 101], intL q.1, intL q.2]
def pnW (its : List (Int × Int)) (rls : List (Nat × Nat)) : List (List Nat) := its.map itW ++ rls.map rlW
/-- lines, each with its end -/
def lnL (ps : List (List Nat)) : List Nat := (ps.map (· ++ [10])).flatten
def pnL (its : List (Int × Int)) (rls : List (Nat × Nat)) : List Nat := lnL (pnW its rls)
theorem spl_lines : ∀ {ps : List (List Nat)}, (∀ p ∈ ps, 10 ∉ p) → ∀ r, TL.spl [10] 0 [] (lnL ps ++ r) = ps ++ TL.spl [10] 0 [] r
  | [], _, r => rfl
  | p :: ps, h, r => by
    have ih := spl_lines (ps := ps) (fun q hq => h q (List.mem_cons_of_mem _ hq)) r
    have e : lnL (p :: ps) ++ r = p ++ ([10] ++ (lnL ps ++ r)) := by unfold lnL; simp
    rw [e, TL.spl_part1 (S := []) (h p List.mem_cons_self), ih]
    rfl
theorem words3 {a b c : List Nat} (ha : 32 ∉ a) (hb : 32 ∉ b) (hc : 32 ∉ c) : TL.spl [32] 0 [] (TL.joinL [32] [a, b, c]) = [a, b, c] :=
  SX.spl_join (by simp) fun p hp => by
    simp only [List.mem_cons, List.not_mem_nil, or_false] at hp
    rcases hp with rfl | rfl | rfl <;> assumption
theorem join3_free {a b c : List Nat} {s : Nat} (hs : s ≠ 32) (ha : s ∉ a) (hb : s ∉ b) (hc : s ∉ c) : s ∉ TL.joinL [32] [a, b, c] := by
  show s ∉ a ++ ([32] ++ (b ++ ([32] ++ c)))
  simp only [List.mem_append, List.mem_singleton]
  rintro (z | z | z | z | z) <;> first | exact hs z | exact ha z | exact hb z | exact hc z
theorem itW_words (q : Int × Int) : TL.spl [32] 0 [] (itW q) = [[105, 116, 101, 109], intL q.1, intL q.2] := words3 (by decide) (intL_free (by omega)) (intL_free (by omega))
theorem rlW_words (q : Nat × Nat) : TL.spl [32] 0 [] (rlW q) = [[114, 117, 108, 101], intL q.1, intL q.2] := words3 (by decide) (intL_free (by omega)) (intL_free (by omega))
theorem pnW_free {its : List (Int × Int)} {rls : List (Nat × Nat)} : ∀ p ∈ pnW its rls, 10 ∉ p := fun p hp => by
  rcases List.mem_append.mp hp with h | h <;> obtain ⟨q, _, rfl⟩ := List.mem_map.mp h
  · exact join3_free (by decide) (by decide) (intL_free (by omega)) (intL_free (by omega))
  · exact join3_free (by decide) (by decide) (intL_free (by omega)) (intL_free (by omega))
theorem lines_pn (its : List (Int × Int)) (rls : List (Nat × Nat)) : TL.spl [10] 0 [] (pnL its rls) = pnW its rls ++ [[]] := by
  have := spl_lines (ps := pnW its rls) pnW_free []
  rw [List.append_nil] at this
  exact this
theorem itW_inj {p q : Int × Int} (h : itW p = itW q) : p = q := by
  have e := congrArg (TL.spl [32] 0 []) h
  rw [itW_words, itW_words] at e
  simp only [List.cons.injEq, true_and, and_true] at e
  have e1 := congrArg pI e.1
  have e2 := congrArg pI e.2
  rw [pI_int, pI_int] at e1 e2
  exact Prod.ext (Option.some.inj e1) (Option.some.inj e2)
theorem rlW_inj {p q : Nat × Nat} (h : rlW p = rlW q) : p = q := by
  have e := congrArg (TL.spl [32] 0 []) h
  rw [rlW_words, rlW_words] at e
  simp only [List.cons.injEq, true_and, and_true] at e
  have e1 := congrArg pI e.1
  have e2 := congrArg pI e.2
  rw [pI_int, pI_int] at e1 e2
  exact Prod.ext (Int.ofNat.inj (Option.some.inj e1)) (Int.ofNat.inj (Option.some.inj e2))
theorem map_injL {α β : Type} {f : α → β} (hf : ∀ a b, f a = f b → a = b) : ∀ {xs ys : List α}, xs.map f = ys.map f → xs = ys
  | [], [], _ => rfl
  | [], _ :: _, h => by cases h
  | _ :: _, [], h => by cases h
  | x :: xs, y :: ys, h => by
    rw [List.map_cons, List.map_cons] at h
    injection h with h1 h2
    rw [hf _ _ h1, map_injL hf h2]
theorem pnL_inj {its its' : List (Int × Int)} {rls rls' : List (Nat × Nat)} (h : pnL its rls = pnL its' rls') : its = its' ∧ rls = rls' := by
  have e := congrArg (TL.spl [10] 0 []) h
  rw [lines_pn, lines_pn] at e
  have e : its.map itW ++ rls.map rlW = its'.map itW ++ rls'.map rlW := List.append_cancel_right e
  have hi : ∀ l : List (Int × Int), (l.map itW).filter (fun w => decide (w.head? = some 105)) = l.map itW := fun l => List.filter_eq_self.mpr fun w hw => by
    obtain ⟨q, _, rfl⟩ := List.mem_map.mp hw; rfl
  have hr : ∀ l : List (Nat × Nat), (l.map rlW).filter (fun w => decide (w.head? = some 105)) = [] := fun l => List.filter_eq_nil_iff.mpr fun w hw => by
    obtain ⟨q, _, rfl⟩ := List.mem_map.mp hw; simp [rlW, TL.joinL]
  have f := congrArg (List.filter fun w => decide (w.head? = some 105)) e
  rw [List.filter_append, List.filter_append, hi, hi, hr, hr, List.append_nil, List.append_nil] at f
  rw [f] at e
  exact ⟨map_injL (fun _ _ => itW_inj) f, map_injL (fun _ _ => rlW_inj) (List.append_cancel_left e)⟩
/-! ### f-strings -/
theorem b64 {i : Int} (h : i.natAbs < 10 ^ 64) : i.natAbs < 2 ^ 300 := Nat.lt_of_lt_of_le h (by decide)
theorem js_c {ds : List DE} {acc y : Str} {e : DEnv} {m : Mu} {k : DV → Mu → Prop} (h : (acc ++ y).length ≤ 1000000) (hk : dJs ds (acc ++ y) e m k) : dJs (dC (.str y) :: ds) acc e m k := ⟨h, hk⟩
theorem js_i {ds : List DE} {acc : Str} {e : DEnv} {m : Mu} {k : DV → Mu → Prop} {p : Nat} {i : Int} (h1 : lk e p = some (.d (.int i))) (z : i.natAbs < 10 ^ 64) (h : (acc ++ strI i).length ≤ 1000000) (hk : dJs ds (acc ++ strI i) e m k) : dJs (dFmt (dVar p) :: ds) acc e m k := by
  unfold dJs dFmt dVar
  rw [h1]
  exact ⟨lg19 (b64 z), h, hk⟩
/-! ### digits in parts of 64 -/
open NumText in
theorem dv_append (a b : List Nat) : digitsVal (a ++ b) = digitsVal a * 10 ^ b.length + digitsVal b := by
  unfold digitsVal
  have gen : ∀ (l : List Nat) (z : Nat), l.foldl (fun acc c => acc * 10 + (c - 48)) z = z * 10 ^ l.length + l.foldl (fun acc c => acc * 10 + (c - 48)) 0 := by
    intro l
    induction l with
    | nil => intro z; simp
    | cons c l ih =>
      intro z
      rw [List.foldl_cons, List.foldl_cons, ih, ih (0 * 10 + (c - 48)), List.length_cons, Nat.pow_succ]
      generalize 10 ^ l.length = t
      rw [Nat.zero_mul, Nat.zero_add, Nat.add_mul, Nat.mul_assoc, Nat.mul_comm t 10]
      omega
  rw [List.foldl_append, gen]
open NumText in
theorem dv_zeros (l : List Nat) : ∀ p, digitsVal (List.replicate p 48 ++ l) = digitsVal l
  | 0 => rfl
  | p + 1 => by
    have := dv_zeros l p
    rw [List.replicate_succ, List.cons_append]
    unfold digitsVal at *
    rw [List.foldl_cons]
    exact this
open NumText in
theorem dv_lt : ∀ {l : List Nat}, l.all isDg = true → digitsVal l < 10 ^ l.length := by
  intro l
  induction l with
  | nil => intro _; decide
  | cons c l ih =>
    intro h
    rw [List.all_cons, Bool.and_eq_true] at h
    have e : c :: l = [c] ++ l := rfl
    rw [e, dv_append, List.length_append, Nat.pow_add]
    have h1 := ih h.2
    have h2 : digitsVal [c] ≤ 9 := by
      show 0 * 10 + (c - 48) ≤ 9
      have := h.1
      unfold isDg at this
      simp only [Bool.and_eq_true, decide_eq_true_eq] at this
      omega
    show _ < 10 ^ 1 * _
    generalize 10 ^ l.length = t at h1 ⊢
    have : digitsVal [c] * t ≤ 9 * t := Nat.mul_le_mul_right _ h2
    omega
theorem rg64 (q : Nat) (h : q ≤ 1000000) : RgC 0 ((64 * q : Nat) : Int) 64 q := by
  have e : Builtin.Range.rangeSize 0 ((64 * q : Nat) : Int) 64 = q := by
    unfold Builtin.Range.rangeSize
    rw [if_pos (by decide)]
    split <;> omega
  have fit : ∀ i : Int, -(2 ^ 63) ≤ i → i < 2 ^ 63 → Builtin.Range.rangeFitsLong i = true := fun i h1 h2 => by
    unfold Builtin.Range.rangeFitsLong
    rw [decide_eq_true h1, decide_eq_true h2]
    rfl
  refine ⟨by decide, by decide, ?_, e⟩
  unfold Builtin.Range.small
  rw [e, fit 0 (by decide) (by decide), fit _ (by omega) (by omega), fit 64 (by decide) (by decide), fit (q : Int) (by omega) (by omega), if_pos (by decide), fit _ (by omega) (by omega), Bool.or_true]
  rfl
theorem cut_S (l : List Nat) (a n : Nat) (h : a + n ≤ l.length) : L2.cutS (S l) (some (a : Int)) (some ((a : Int) + (n : Int))) = S ((l.drop a).take n) := by
  unfold L2.cutS
  have e1 : HT.sIx (S l).length 0 (some (a : Int)) = a := by rw [HT.sIx_nat, S_len]; omega
  have e2 : HT.sIx (S l).length (S l).length (some ((a : Int) + (n : Int))) = a + n := by
    rw [← Int.natCast_add, HT.sIx_nat, S_len]; omega
  rw [e1, e2, Nat.add_sub_cancel_left]
theorem ten_two (n : Nat) : 10 ^ n ≤ 2 ^ (4 * n) := by
  rw [Nat.pow_mul]
  exact Nat.pow_le_pow_left (by decide) n
theorem rep48 (p : Nat) : repS (S [48]) p = S (List.replicate p 48) := TL.ext_tl (by
  rw [tl_repS]
  show (List.replicate p [48]).flatten = List.replicate p 48
  induction p with
  | zero => rfl
  | succ p ih => rw [List.replicate_succ, List.flatten_cons, ih, List.replicate_succ]; rfl)
theorem dv_lt2 {l : List Nat} (h : l.all isDg = true) {n : Nat} (hn : l.length ≤ n) : (dv l).natAbs < 2 ^ (4 * n) := by
  show (NumText.digitsVal l) < _
  exact Nat.lt_of_lt_of_le (dv_lt h) (Nat.le_trans (Nat.pow_le_pow_right (by decide) hn) (ten_two n))
theorem dv_next {L : List Nat} {t : Nat} (h : 64 * t + 64 ≤ L.length) : dv (L.take (64 * t)) * 10000000000000000000000000000000000000000000000000000000000000000 + dv ((L.drop (64 * t)).take 64) = dv (L.take (64 * (t + 1))) := by
  have e : L.take (64 * (t + 1)) = L.take (64 * t) ++ (L.drop (64 * t)).take 64 := by
    rw [show 64 * (t + 1) = 64 * t + 64 by omega, List.take_add]
  have len : ((L.drop (64 * t)).take 64).length = 64 := by rw [List.length_take, List.length_drop]; omega
  unfold dv
  rw [e, dv_append, len]
  have p : (10 ^ 64 : Nat) = 10000000000000000000000000000000000000000000000000000000000000000 := by decide
  rw [p, Int.natCast_add, Int.natCast_mul]
  rfl
theorem par_len {c : Nat} : ∀ {l acc a b : List Nat}, TL.par [c] acc l = some (a, b) → a.length + b.length + 1 = acc.length + l.length
  | [], _, _, _, h => by cases h
  | d :: r, acc, a, b, h => by
    cases q : TL.pre [c] (d :: r) with
    | true =>
      rw [TL.par_hit q] at h
      cases h
      simp only [List.length_drop, List.length_cons, List.length_nil]
      omega
    | false =>
      rw [TL.par_miss q] at h
      have := par_len h
      rw [List.length_append, List.length_singleton] at this
      rw [List.length_cons]
      omega
/-! ### words and lines -/
theorem spl_len {c : Nat} : ∀ {l acc : List Nat}, ∀ p ∈ TL.spl [c] 0 acc l, p.length ≤ acc.length + l.length
  | [], acc, p, h => by
    rw [TL.spl_nil] at h
    rw [List.mem_singleton.mp h, List.length_nil]
    exact Nat.le_refl _
  | d :: r, acc, p, h => by
    cases q : TL.pre [c] (d :: r) with
    | true =>
      rw [TL.spl_hit q] at h
      rcases List.mem_cons.mp h with z | z
      · rw [z]; omega
      · have := spl_len (acc := []) (l := r) p z
        rw [List.length_nil] at this
        rw [List.length_cons]; omega
    | false =>
      rw [TL.spl_miss q] at h
      have := spl_len p h
      rw [List.length_append, List.length_singleton] at this
      rw [List.length_cons]; omega
theorem spl_num {c : Nat} : ∀ {l acc : List Nat}, (TL.spl [c] 0 acc l).length ≤ 1 + l.length
  | [], acc => by rw [TL.spl_nil]; exact Nat.le_refl _
  | d :: r, acc => by
    cases q : TL.pre [c] (d :: r) with
    | true =>
      rw [TL.spl_hit q]
      have := spl_num (c := c) (acc := []) (l := r)
      show (TL.spl [c] 0 [] r).length + 1 ≤ 1 + (r.length + 1)
      omega
    | false =>
      rw [TL.spl_miss q]
      have := spl_num (c := c) (acc := acc ++ [d]) (l := r)
      rw [List.length_cons]; omega
theorem spl_ne {c : Nat} : ∀ {l acc : List Nat}, TL.spl [c] 0 acc l ≠ []
  | [], acc => by rw [TL.spl_nil]; simp
  | d :: r, acc => by
    cases q : TL.pre [c] (d :: r) with
    | true => rw [TL.spl_hit q]; simp
    | false => rw [TL.spl_miss q]; exact spl_ne
theorem split_D (l : List Nat) (c : Nat) (hc : c < 256) : (Txt.split (S l) (S [c])).map PyData.str = (TL.spl [c] 0 [] l).map fun w => .str (S w) := by
  rw [SX.split_S (by simp) (by simp; exact hc), List.map_map]
  rfl
theorem optF_lay : ∀ os : List (Option (Int × Int)), PyData.canLayAll0 (os.map optF) = true
  | [] => rfl
  | o :: os => by
    rw [List.map_cons]
    unfold PyData.canLayAll0
    rw [optF_lay os, Bool.and_true]
    cases o <;> rfl
theorem optF_any : ∀ os : List (Option (Int × Int)), (os.map optF).any (fun z => PyData.eqv z .none) = os.any Option.isNone
  | [] => rfl
  | o :: os => by
    rw [List.map_cons, List.any_cons, List.any_cons, optF_any os]
    cases o <;> rfl
/-- what parse_line makes of a line -/
def lnD (l : List Nat) : PyData := match TL.spl [32] 0 [] l with
  | [w, a, b] => .tuple [.str (S w), .tuple [optD (pI a), optD (pI b)]]
  | _ => .tuple [.str (S []), .tuple []]
theorem lnD_it (q : Int × Int) : lnD (itW q) = .tuple [.str (S [105, 116, 101, 109]), itD q] := by
  unfold lnD
  rw [itW_words]
  simp only [pI_int]
  rfl
theorem lnD_rl (q : Nat × Nat) : lnD (rlW q) = .tuple [.str (S [114, 117, 108, 101]), rlD q] := by
  unfold lnD
  rw [rlW_words]
  simp only [pI_int]
  rfl
end PM

namespace PM
open PySem PySem.Spec PyProof.Rows L2 RZ
section
variable {P : Program} {w : World} {K : PySem.W.Frag} {mg : Str → Option Value} {base : Heap}
open SX
/-! ### integers that are no bools -/
abbrev S_is_plain_integer : SpP := sp1 fun a k => k (.d (.bool (pInt a)))
abbrev s_is_plain_integer : Stmt := topS 8
abbrev N_is_plain_integer : List Str := ["value"]
abbrev P_is_plain_integer : List Str := ["value"]
theorem sc_is_plain_integer : FnScope N_is_plain_integer P_is_plain_integer (defScope s_is_plain_integer) := ⟨rfl, rfl, rfl, by decide +kernel, rfl, by decide +kernel, by decide +kernel⟩
set_option maxHeartbeats 8000000 in
theorem okD_is_plain_integer (d : IsDef K mg "is_plain_integer" s_is_plain_integer P_is_plain_integer) (m_bool : mg "bool" = none) (m_isinstance : mg "isinstance" = none) (m_int : mg "int" = none) : Ok P w K mg base 1 "is_plain_integer" s_is_plain_integer P_is_plain_integer (prP S_is_plain_integer) := by
  obtain ⟨f0_, fd0_, D⟩ := d
  refine ⟨f0_, fd0_, D, D.F.ok sc_is_plain_integer (fun vs H Q E h => ?_) (fun cdv A outer s H vs Q E hr h => ?_)⟩
  · obtain ⟨G, ds, k, _, rs, hS, _⟩ := h
    rw [rs.length]
    exact sp1_len hS
  · obtain ⟨G, ds, k, sub, rs, hS, KK⟩ := h
    refine ⟨_, (pss_one (ps_ret (pe_and (pe_callB (show CallR _ _ (rIsi K) from call_isi) (by rfl) m_isinstance (by decide +kernel) (pa_cons (pv 0) (pa_cons (pe_bltn (v := .ty "int") (by rfl) m_int (by decide +kernel) rfl) pa_nil))) (pe_one (pe_not (pe_callB (show CallR _ _ (rIsi K) from call_isi) (by rfl) m_isinstance (by decide +kernel) (pa_cons (pv 0) (pa_cons (pe_bltn (v := .ty "bool") (by rfl) m_bool (by decide +kernel) rfl) pa_nil)))))))), runP (N := N_is_plain_integer) (ss_ret (se_and (se_isI _ (se_var 0)) (se_not (se_isB _ (se_var 0))))) sub rs KK ?_⟩
    clear KK rs sub hr
    replace hS := sp1_inv hS
    obtain ⟨x1, rfl, hS⟩ := hS
    cases x1 with
    | int i => exact ⟨fun _ => hS, fun z => nomatch z⟩
    | bool b => exact ⟨fun _ => hS, fun z => nomatch z⟩
    | none => exact ⟨(fun z => nomatch z), fun _ => hS⟩
    | str s => exact ⟨(fun z => nomatch z), fun _ => hS⟩
    | list s => exact ⟨(fun z => nomatch z), fun _ => hS⟩
    | tuple s => exact ⟨(fun z => nomatch z), fun _ => hS⟩
    | dict s => exact ⟨(fun z => nomatch z), fun _ => hS⟩
/-! ### whether any value is an index, a group -/
abbrev S_is_index : SpP := sp2 fun a s k => ∃ n : Int, s = .int n ∧ k (.d (.bool (isIx n a)))
abbrev s_is_index : Stmt := topS 14
abbrev N_is_index : List Str := ["value", "size"]
abbrev P_is_index : List Str := ["value", "size"]
theorem sc_is_index : FnScope N_is_index P_is_index (defScope s_is_index) := ⟨rfl, rfl, rfl, by decide +kernel, rfl, by decide +kernel, by decide +kernel⟩
set_option maxHeartbeats 8000000 in
theorem okD_is_index (d : IsDef K mg "is_index" s_is_index P_is_index) (h_is_plain_integer : Ok P w K mg base 1 "is_plain_integer" s_is_plain_integer P_is_plain_integer (prP S_is_plain_integer)) : Ok P w K mg base 2 "is_index" s_is_index P_is_index (prP S_is_index) := by
  obtain ⟨f0_, fd0_, D⟩ := d
  obtain ⟨f_is_plain_integer, fd_is_plain_integer, ⟨F_is_plain_integer, b_is_plain_integer, g_is_plain_integer⟩, G_is_plain_integer⟩ := h_is_plain_integer
  refine ⟨f0_, fd0_, D, D.F.ok sc_is_index (fun vs H Q E h => ?_) (fun cdv A outer s H vs Q E hr h => ?_)⟩
  · obtain ⟨G, ds, k, _, rs, hS, _⟩ := h
    rw [rs.length]
    exact sp2_len hS
  · obtain ⟨G, ds, k, sub, rs, hS, KK⟩ := h
    refine ⟨_, (pss_one (ps_ret (pe_and (pe_call G_is_plain_integer (hr.mono (by omega)) (by rfl) g_is_plain_integer F_is_plain_integer.kp b_is_plain_integer .nil pass0 (pa_cons (pv 0) pa_nil)) (pe_one (pe_chain op_le op_lt pe_int (pv 0) (pv 1)))))), runP (N := N_is_index) (ss_ret (se_and (se_callP (sa_cons (se_var 0) sa_nil)) (se_chain os_le os_lt (se_int _) (se_var 0) (se_var 1)))) sub rs KK ?_⟩
    clear KK rs sub hr
    replace hS := sp2_inv hS
    obtain ⟨x1, x2, rfl, hS⟩ := hS
    obtain ⟨n, rfl, hk⟩ := hS
    refine ⟨fun z => ?_, fun z => ?_⟩
    · cases x1 with
      | int i =>
        have hk : k (.d (.bool (decide (0 ≤ i) && decide (i < n)))) := hk
        refine ⟨fun z => ?_, fun z => ?_⟩
        · rw [z, Bool.true_and] at hk
          exact hk
        · rw [z, Bool.false_and] at hk
          exact hk
      | _ => cases z
    · have : isIx n x1 = false := by cases x1 <;> first | rfl | cases z
      rw [this] at hk
      exact hk
/-! ### faults of items and rules; needs Flt and is_index -/
abbrev S_is_mark : SpP := sp1 fun a k => k (.d (.bool (inI (-1000000000) 1000000000 a)))
abbrev s_is_mark : Stmt := topS 12
abbrev N_is_mark : List Str := ["value"]
abbrev P_is_mark : List Str := ["value"]
theorem sc_is_mark : FnScope N_is_mark P_is_mark (defScope s_is_mark) := ⟨rfl, rfl, rfl, by decide +kernel, rfl, by decide +kernel, by decide +kernel⟩
set_option maxHeartbeats 8000000 in
theorem okD_is_mark (d : IsDef K mg "is_mark" s_is_mark P_is_mark) (h_is_plain_integer : Ok P w K mg base 1 "is_plain_integer" s_is_plain_integer P_is_plain_integer (prP S_is_plain_integer)) {t_MARK : Tok} (g_MARK : mg "MARK" = some (.int (1000000000) t_MARK)) : Ok P w K mg base 2 "is_mark" s_is_mark P_is_mark (prP S_is_mark) := by
  obtain ⟨f0_, fd0_, D⟩ := d
  obtain ⟨f_is_plain_integer, fd_is_plain_integer, ⟨F_is_plain_integer, b_is_plain_integer, g_is_plain_integer⟩, G_is_plain_integer⟩ := h_is_plain_integer
  refine ⟨f0_, fd0_, D, D.F.ok sc_is_mark (fun vs H Q E h => ?_) (fun cdv A outer s H vs Q E hr h => ?_)⟩
  · obtain ⟨G, ds, k, _, rs, hS, _⟩ := h
    rw [rs.length]
    exact sp1_len hS
  · obtain ⟨G, ds, k, sub, rs, hS, KK⟩ := h
    refine ⟨_, (pss_one (ps_ret (pe_and (pe_call G_is_plain_integer (hr.mono (by omega)) (by rfl) g_is_plain_integer F_is_plain_integer.kp b_is_plain_integer .nil pass0 (pa_cons (pv 0) pa_nil)) (pe_one (pe_chain op_le op_le (pe_un un_neg (pe_glob (v := .int (1000000000)) rfl g_MARK ⟨_, rfl⟩)) (pv 0) (pe_glob (v := .int (1000000000)) rfl g_MARK ⟨_, rfl⟩)))))), runP (N := N_is_mark) (ss_ret (se_and (se_callP (sa_cons (se_var 0) sa_nil)) (se_chain os_le os_le (se_un us_neg (se_int _)) (se_var 0) (se_int _)))) sub rs KK ?_⟩
    clear KK rs sub hr
    replace hS := sp1_inv hS
    obtain ⟨x1, rfl, hS⟩ := hS
    cases x1 with
    | int i =>
      have hS : k (.d (.bool (decide (-1000000000 ≤ i) && decide (i ≤ 1000000000)))) := hS
      refine ⟨fun _ => ⟨fun z => ?_, fun z => ?_⟩, fun z => nomatch z⟩
      · rw [z, Bool.true_and] at hS
        exact hS
      · rw [z, Bool.false_and] at hS
        exact hS
    | _ => exact ⟨(fun z => nomatch z), fun _ => hS⟩
abbrev S_is_weight : SpP := sp1 fun a k => k (.d (.bool (inI 1 1000000 a)))
abbrev s_is_weight : Stmt := topS 13
abbrev N_is_weight : List Str := ["value"]
abbrev P_is_weight : List Str := ["value"]
theorem sc_is_weight : FnScope N_is_weight P_is_weight (defScope s_is_weight) := ⟨rfl, rfl, rfl, by decide +kernel, rfl, by decide +kernel, by decide +kernel⟩
set_option maxHeartbeats 8000000 in
theorem okD_is_weight (d : IsDef K mg "is_weight" s_is_weight P_is_weight) (h_is_plain_integer : Ok P w K mg base 1 "is_plain_integer" s_is_plain_integer P_is_plain_integer (prP S_is_plain_integer)) {t_WEIGHT : Tok} (g_WEIGHT : mg "WEIGHT" = some (.int (1000000) t_WEIGHT)) : Ok P w K mg base 2 "is_weight" s_is_weight P_is_weight (prP S_is_weight) := by
  obtain ⟨f0_, fd0_, D⟩ := d
  obtain ⟨f_is_plain_integer, fd_is_plain_integer, ⟨F_is_plain_integer, b_is_plain_integer, g_is_plain_integer⟩, G_is_plain_integer⟩ := h_is_plain_integer
  refine ⟨f0_, fd0_, D, D.F.ok sc_is_weight (fun vs H Q E h => ?_) (fun cdv A outer s H vs Q E hr h => ?_)⟩
  · obtain ⟨G, ds, k, _, rs, hS, _⟩ := h
    rw [rs.length]
    exact sp1_len hS
  · obtain ⟨G, ds, k, sub, rs, hS, KK⟩ := h
    refine ⟨_, (pss_one (ps_ret (pe_and (pe_call G_is_plain_integer (hr.mono (by omega)) (by rfl) g_is_plain_integer F_is_plain_integer.kp b_is_plain_integer .nil pass0 (pa_cons (pv 0) pa_nil)) (pe_one (pe_chain op_le op_le pe_int (pv 0) (pe_glob (v := .int (1000000)) rfl g_WEIGHT ⟨_, rfl⟩)))))), runP (N := N_is_weight) (ss_ret (se_and (se_callP (sa_cons (se_var 0) sa_nil)) (se_chain os_le os_le (se_int _) (se_var 0) (se_int _)))) sub rs KK ?_⟩
    clear KK rs sub hr
    replace hS := sp1_inv hS
    obtain ⟨x1, rfl, hS⟩ := hS
    cases x1 with
    | int i =>
      have hS : k (.d (.bool (decide (1 ≤ i) && decide (i ≤ 1000000)))) := hS
      refine ⟨fun _ => ⟨fun z => ?_, fun z => ?_⟩, fun z => nomatch z⟩
      · rw [z, Bool.true_and] at hS
        exact hS
      · rw [z, Bool.false_and] at hS
        exact hS
    | _ => exact ⟨(fun z => nomatch z), fun _ => hS⟩
def isP2 : PyData → Bool
  | .tuple ds => decide ((ds.length : Int) = 2)
  | _ => false
abbrev S_is_pair : SpP := sp1 fun a k => k (.d (.bool (isP2 a)))
abbrev s_is_pair : Stmt := topS 15
abbrev N_is_pair : List Str := ["value"]
abbrev P_is_pair : List Str := ["value"]
theorem sc_is_pair : FnScope N_is_pair P_is_pair (defScope s_is_pair) := ⟨rfl, rfl, rfl, by decide +kernel, rfl, by decide +kernel, by decide +kernel⟩
set_option maxHeartbeats 8000000 in
theorem okD_is_pair (d : IsDef K mg "is_pair" s_is_pair P_is_pair) (m_len : mg "len" = none) (m_tuple : mg "tuple" = none) (m_isinstance : mg "isinstance" = none) : Ok P w K mg base 1 "is_pair" s_is_pair P_is_pair (prP S_is_pair) := by
  obtain ⟨f0_, fd0_, D⟩ := d
  refine ⟨f0_, fd0_, D, D.F.ok sc_is_pair (fun vs H Q E h => ?_) (fun cdv A outer s H vs Q E hr h => ?_)⟩
  · obtain ⟨G, ds, k, _, rs, hS, _⟩ := h
    rw [rs.length]
    exact sp1_len hS
  · obtain ⟨G, ds, k, sub, rs, hS, KK⟩ := h
    refine ⟨_, (pss_one (ps_ret (pe_and (pe_callB (show CallR _ _ (rIsi K) from call_isi) (by rfl) m_isinstance (by decide +kernel) (pa_cons (pv 0) (pa_cons (pe_bltn (v := .ty "tuple") (by rfl) m_tuple (by decide +kernel) rfl) pa_nil))) (pe_one (pe_cmpR (show OpR _ _ (rEqA K) from op_eqA hr.units) (pe_callB (show CallR _ _ (rLenK K) from call_lenK) (by rfl) m_len (by decide +kernel) (pa_cons (pv 0) pa_nil)) pe_int (nomark _)))))), runP (N := N_is_pair) (ss_ret (se_and (se_isT _ (se_var 0)) (se_op (os_eq _) (se_cb (cs_len _) (sa_cons (se_var 0) sa_nil)) (se_int _)))) sub rs KK ?_⟩
    clear KK rs sub hr
    replace hS := sp1_inv hS
    obtain ⟨x1, rfl, hS⟩ := hS
    cases x1 with
    | tuple ds => exact ⟨fun _ => ⟨_, rfl, trivial, hS⟩, fun z => nomatch z⟩
    | _ => exact ⟨(fun z => nomatch z), fun _ => hS⟩
theorem p2_inv {v : PyData} (h : (!isP2 v) = false) : ∃ a b, v = .tuple [a, b] := by
  cases v with
  | tuple ds =>
    have h : (!decide ((ds.length : Int) = 2)) = false := h
    have : ds.length = 2 := by
      by_cases e : (ds.length : Int) = 2
      · omega
      · rw [decide_eq_false e] at h; cases h
    match ds, this with
    | [a, b], _ => exact ⟨a, b, rfl⟩
  | _ => cases h
theorem p2_no {v : PyData} (h : (!isP2 v) = true) : ∀ a b, v ≠ .tuple [a, b] := fun a b e => by
  subst e
  cases h
abbrev S_item_fault : SpP := sp2 fun a v k => ∃ n : Nat, a = .int n ∧ k (.d (itF n v))
abbrev s_item_fault : Stmt := topS 16
abbrev N_item_fault : List Str := ["at", "value", "mark", "weight"]
abbrev P_item_fault : List Str := ["at", "value"]
theorem sc_item_fault : FnScope N_item_fault P_item_fault (defScope s_item_fault) := ⟨rfl, rfl, rfl, by decide +kernel, rfl, by decide +kernel, by decide +kernel⟩
set_option maxHeartbeats 8000000 in
theorem okD_item_fault (d : IsDef K mg "item_fault" s_item_fault P_item_fault) (h_is_pair : Ok P w K mg base 1 "is_pair" s_is_pair P_is_pair (prP S_is_pair)) (h_is_mark : Ok P w K mg base 2 "is_mark" s_is_mark P_is_mark (prP S_is_mark)) (h_is_weight : Ok P w K mg base 2 "is_weight" s_is_weight P_is_weight (prP S_is_weight)) : Ok P w K mg base 3 "item_fault" s_item_fault P_item_fault (prP S_item_fault) := by
  obtain ⟨f0_, fd0_, D⟩ := d
  obtain ⟨f_is_pair, fd_is_pair, ⟨F_is_pair, b_is_pair, g_is_pair⟩, G_is_pair⟩ := h_is_pair
  obtain ⟨f_is_mark, fd_is_mark, ⟨F_is_mark, b_is_mark, g_is_mark⟩, G_is_mark⟩ := h_is_mark
  obtain ⟨f_is_weight, fd_is_weight, ⟨F_is_weight, b_is_weight, g_is_weight⟩, G_is_weight⟩ := h_is_weight
  refine ⟨f0_, fd0_, D, D.F.ok sc_item_fault (fun vs H Q E h => ?_) (fun cdv A outer s H vs Q E hr h => ?_)⟩
  · obtain ⟨G, ds, k, _, rs, hS, _⟩ := h
    rw [rs.length]
    exact sp2_len hS
  · obtain ⟨G, ds, k, sub, rs, hS, KK⟩ := h
    refine ⟨_, (pss_cons (ps_if (pt_not (pt_val (pe_call G_is_pair (hr.mono (by omega)) (by rfl) g_is_pair F_is_pair.kp b_is_pair .nil pass0 (pa_cons (pv 1) pa_nil)))) (pss_one (ps_ret (pe_tup (pa_cons (pe_tup (pa_cons pe_int (pa_cons (pv 0) pa_nil))) (pa_cons pe_str pa_nil))))) pss_nil)
      (pss_cons (ps_asg (pv 1) (show PG _ _ (gTup K 2 _) from pg_tup (n := 2) (by rfl) (pgs_cons (pg_name (i := 2) sc_item_fault.nd rfl (.inl rfl)) (pgs_cons (pg_name (i := 3) sc_item_fault.nd rfl (.inl rfl)) pgs_nil))))
      (pss_cons (ps_if (pt_not (pt_val (pe_call G_is_mark (hr.mono (by omega)) (by rfl) g_is_mark F_is_mark.kp b_is_mark .nil pass0 (pa_cons (pv 2) pa_nil)))) (pss_one (ps_ret (pe_tup (pa_cons (pe_tup (pa_cons pe_int (pa_cons (pv 0) (pa_cons pe_int pa_nil)))) (pa_cons pe_str pa_nil))))) pss_nil)
      (pss_cons (ps_if (pt_not (pt_val (pe_call G_is_weight (hr.mono (by omega)) (by rfl) g_is_weight F_is_weight.kp b_is_weight .nil pass0 (pa_cons (pv 3) pa_nil)))) (pss_one (ps_ret (pe_tup (pa_cons (pe_tup (pa_cons pe_int (pa_cons (pv 0) (pa_cons pe_int pa_nil)))) (pa_cons pe_str pa_nil))))) pss_nil)
      (pss_one (ps_ret pe_non)))))), runP (N := N_item_fault) (ss_seq (ss_if (st_not (st_b (se_callP (sa_cons (se_var 1) sa_nil)))) (ss_ret (se_tup (sa_cons (se_tup (sa_cons (se_int _) (sa_cons (se_var 0) sa_nil))) (sa_cons (se_str _) sa_nil)))) ss_nil)
      (ss_seq (ss_asg (se_var 1) (sg_tup _ (sg_cons (sg_name 2) (sg_cons (sg_name 3) sg_nil))))
      (ss_seq (ss_if (st_not (st_b (se_callP (sa_cons (se_var 2) sa_nil)))) (ss_ret (se_tup (sa_cons (se_tup (sa_cons (se_int _) (sa_cons (se_var 0) (sa_cons (se_int _) sa_nil)))) (sa_cons (se_str _) sa_nil)))) ss_nil)
      (ss_seq (ss_if (st_not (st_b (se_callP (sa_cons (se_var 3) sa_nil)))) (ss_ret (se_tup (sa_cons (se_tup (sa_cons (se_int _) (sa_cons (se_var 0) (sa_cons (se_int _) sa_nil)))) (sa_cons (se_str _) sa_nil)))) ss_nil)
      (ss_ret se_non))))) sub rs KK ?_⟩
    clear KK rs sub hr
    replace hS := sp2_inv hS
    obtain ⟨x1, x2, rfl, hS⟩ := hS
    obtain ⟨n, rfl, hk⟩ := hS
    refine ⟨fun z => ?_, fun z => ?_⟩
    · have : itF n x2 = flt [0, n] "item" := by
        unfold itF
        split
        · exact absurd rfl (p2_no z _ _)
        · rfl
      rw [this] at hk
      exact ⟨by show 2 ≤ 1000000; decide, by show 2 ≤ 1000000; decide, hk⟩
    · obtain ⟨a, b, rfl⟩ := p2_inv z
      have hk : k (.d (if inI (-1000000000) 1000000000 a = true then (if inI 1 1000000 b = true then .none else flt [0, n, 1] "weight") else flt [0, n, 0] "mark")) := hk
      refine ⟨_, rfl, rfl, fun z => ?_, fun z => ?_⟩
      · rw [if_neg (by intro h; rw [h] at z; cases z)] at hk
        exact ⟨by show 3 ≤ 1000000; decide, by show 2 ≤ 1000000; decide, hk⟩
      · rw [if_pos (by cases h : inI (-1000000000) 1000000000 a <;> rw [h] at z <;> first | rfl | cases z)] at hk
        refine ⟨fun z => ?_, fun z => ?_⟩
        · rw [if_neg (by intro h; rw [h] at z; cases z)] at hk
          exact ⟨by show 3 ≤ 1000000; decide, by show 2 ≤ 1000000; decide, hk⟩
        · rw [if_pos (by cases h : inI 1 1000000 b <;> rw [h] at z <;> first | rfl | cases z)] at hk
          exact hk
abbrev S_rule_fault : SpP := sp3 fun a v s k => ∃ n c : Nat, a = .int n ∧ s = .int c ∧ k (.d (rlF c n v))
abbrev s_rule_fault : Stmt := topS 17
abbrev N_rule_fault : List Str := ["at", "value", "size", "low", "high"]
abbrev P_rule_fault : List Str := ["at", "value", "size"]
theorem sc_rule_fault : FnScope N_rule_fault P_rule_fault (defScope s_rule_fault) := ⟨rfl, rfl, rfl, by decide +kernel, rfl, by decide +kernel, by decide +kernel⟩
set_option maxHeartbeats 8000000 in
theorem okD_rule_fault (d : IsDef K mg "rule_fault" s_rule_fault P_rule_fault) (h_is_pair : Ok P w K mg base 1 "is_pair" s_is_pair P_is_pair (prP S_is_pair)) (h_is_index : Ok P w K mg base 2 "is_index" s_is_index P_is_index (prP S_is_index)) : Ok P w K mg base 3 "rule_fault" s_rule_fault P_rule_fault (prP S_rule_fault) := by
  obtain ⟨f0_, fd0_, D⟩ := d
  obtain ⟨f_is_pair, fd_is_pair, ⟨F_is_pair, b_is_pair, g_is_pair⟩, G_is_pair⟩ := h_is_pair
  obtain ⟨f_is_index, fd_is_index, ⟨F_is_index, b_is_index, g_is_index⟩, G_is_index⟩ := h_is_index
  refine ⟨f0_, fd0_, D, D.F.ok sc_rule_fault (fun vs H Q E h => ?_) (fun cdv A outer s H vs Q E hr h => ?_)⟩
  · obtain ⟨G, ds, k, _, rs, hS, _⟩ := h
    rw [rs.length]
    exact sp3_len hS
  · obtain ⟨G, ds, k, sub, rs, hS, KK⟩ := h
    refine ⟨_, (pss_cons (ps_if (pt_not (pt_val (pe_call G_is_pair (hr.mono (by omega)) (by rfl) g_is_pair F_is_pair.kp b_is_pair .nil pass0 (pa_cons (pv 1) pa_nil)))) (pss_one (ps_ret (pe_tup (pa_cons (pe_tup (pa_cons pe_int (pa_cons (pv 0) pa_nil))) (pa_cons pe_str pa_nil))))) pss_nil)
      (pss_cons (ps_asg (pv 1) (show PG _ _ (gTup K 2 _) from pg_tup (n := 2) (by rfl) (pgs_cons (pg_name (i := 3) sc_rule_fault.nd rfl (.inl rfl)) (pgs_cons (pg_name (i := 4) sc_rule_fault.nd rfl (.inl rfl)) pgs_nil))))
      (pss_cons (ps_if (pt_not (pt_val (pe_call G_is_index (hr.mono (by omega)) (by rfl) g_is_index F_is_index.kp b_is_index .nil pass0 (pa_cons (pv 3) (pa_cons (pv 2) pa_nil))))) (pss_one (ps_ret (pe_tup (pa_cons (pe_tup (pa_cons pe_int (pa_cons (pv 0) (pa_cons pe_int pa_nil)))) (pa_cons pe_str pa_nil))))) pss_nil)
      (pss_cons (ps_if (PW.pt (pw_or (pt_not (pt_val (pe_call G_is_index (hr.mono (by omega)) (by rfl) g_is_index F_is_index.kp b_is_index .nil pass0 (pa_cons (pv 4) (pa_cons (pv 2) pa_nil))))) (pw_or1 (pt_cmpR (show OpR _ _ (rEqA K) from op_eqA hr.units) (pv 4) (pv 3) (nomark _))))) (pss_one (ps_ret (pe_tup (pa_cons (pe_tup (pa_cons pe_int (pa_cons (pv 0) (pa_cons pe_int pa_nil)))) (pa_cons pe_str pa_nil))))) pss_nil)
      (pss_one (ps_ret pe_non)))))), runP (N := N_rule_fault) (ss_seq (ss_if (st_not (st_b (se_callP (sa_cons (se_var 1) sa_nil)))) (ss_ret (se_tup (sa_cons (se_tup (sa_cons (se_int _) (sa_cons (se_var 0) sa_nil))) (sa_cons (se_str _) sa_nil)))) ss_nil)
      (ss_seq (ss_asg (se_var 1) (sg_tup _ (sg_cons (sg_name 3) (sg_cons (sg_name 4) sg_nil))))
      (ss_seq (ss_if (st_not (st_b (se_callP (sa_cons (se_var 3) (sa_cons (se_var 2) sa_nil))))) (ss_ret (se_tup (sa_cons (se_tup (sa_cons (se_int _) (sa_cons (se_var 0) (sa_cons (se_int _) sa_nil)))) (sa_cons (se_str _) sa_nil)))) ss_nil)
      (ss_seq (ss_if (st_or (st_not (st_b (se_callP (sa_cons (se_var 4) (sa_cons (se_var 2) sa_nil))))) (st_test (se_op (os_eq _) (se_var 4) (se_var 3)))) (ss_ret (se_tup (sa_cons (se_tup (sa_cons (se_int _) (sa_cons (se_var 0) (sa_cons (se_int _) sa_nil)))) (sa_cons (se_str _) sa_nil)))) ss_nil)
      (ss_ret se_non))))) sub rs KK ?_⟩
    clear KK rs sub hr
    replace hS := sp3_inv hS
    obtain ⟨x1, x2, x3, rfl, hS⟩ := hS
    obtain ⟨n, c, rfl, rfl, hk⟩ := hS
    refine ⟨fun z => ?_, fun z => ?_⟩
    · have : rlF c n x2 = flt [1, n] "rule" := by
        unfold rlF
        split
        · exact absurd rfl (p2_no z _ _)
        · rfl
      rw [this] at hk
      exact ⟨by show 2 ≤ 1000000; decide, by show 2 ≤ 1000000; decide, hk⟩
    · obtain ⟨a, b, rfl⟩ := p2_inv z
      have hk : k (.d (if isIx c a = true then (if isIx c b = true ∧ sameI a b = false then .none else flt [1, n, 1] "high") else flt [1, n, 0] "low")) := hk
      refine ⟨_, rfl, rfl, _, rfl, fun z => ?_, fun z => ?_⟩
      · rw [if_neg (by intro h; rw [h] at z; cases z)] at hk
        exact ⟨by show 3 ≤ 1000000; decide, by show 2 ≤ 1000000; decide, hk⟩
      · have ha : isIx c a = true := by cases h : isIx c a <;> rw [h] at z <;> first | rfl | cases z
        rw [if_pos ha] at hk
        refine ⟨_, rfl, fun z => ⟨fun _ => ?_, fun z => nomatch z⟩, fun z => ?_⟩
        · rw [if_neg (by rintro ⟨h, _⟩; rw [h] at z; cases z)] at hk
          exact ⟨by show 3 ≤ 1000000; decide, by show 2 ≤ 1000000; decide, hk⟩
        · have hb : isIx c b = true := by cases h : isIx c b <;> rw [h] at z <;> first | rfl | cases z
          cases a with
          | int i =>
            cases b with
            | int j =>
              have e : ∀ p : Bool, p = decide (j = i) → (sameI (.int i) (.int j) = !(!p)) := fun p hp => by
                rw [hp]
                show decide (i = j) = _
                by_cases h : i = j
                · subst h; simp
                · rw [decide_eq_false h, decide_eq_false (fun w => h w.symm)]; rfl
              refine ⟨trivial, fun z => ?_, fun z => ?_⟩
              · have z : j = i := of_decide_eq_true z
                rw [if_neg (by rintro ⟨_, h⟩; have h : decide (i = j) = false := h; exact absurd z.symm (of_decide_eq_false h))] at hk
                exact ⟨by show 3 ≤ 1000000; decide, by show 2 ≤ 1000000; decide, hk⟩
              · have z : ¬ j = i := of_decide_eq_false z
                rw [if_pos ⟨hb, decide_eq_false fun h => z h.symm⟩] at hk
                exact hk
            | _ => cases hb
          | _ => cases ha
/-! ### whether any value is a fraction -/
abbrev S_is_fraction : SpP := sp1 fun a k => k (.d (.bool (isFr a)))
abbrev s_is_fraction : Stmt := topS 10
abbrev N_is_fraction : List Str := ["value", "numerator", "denominator"]
abbrev P_is_fraction : List Str := ["value"]
theorem sc_is_fraction : FnScope N_is_fraction P_is_fraction (defScope s_is_fraction) := ⟨rfl, rfl, rfl, by decide +kernel, rfl, by decide +kernel, by decide +kernel⟩
set_option maxHeartbeats 8000000 in
theorem okD_is_fraction (d : IsDef K mg "is_fraction" s_is_fraction P_is_fraction) (h_is_plain_integer : Ok P w K mg base 1 "is_plain_integer" s_is_plain_integer P_is_plain_integer (prP S_is_plain_integer)) (h_common_divisor : Ok P w K mg base 1 "common_divisor" s_common_divisor P_common_divisor (prP S_common_divisor)) (m_len : mg "len" = none) (m_tuple : mg "tuple" = none) (m_isinstance : mg "isinstance" = none) : Ok P w K mg base 2 "is_fraction" s_is_fraction P_is_fraction (prP S_is_fraction) := by
  obtain ⟨f0_, fd0_, D⟩ := d
  obtain ⟨f_is_plain_integer, fd_is_plain_integer, ⟨F_is_plain_integer, b_is_plain_integer, g_is_plain_integer⟩, G_is_plain_integer⟩ := h_is_plain_integer
  obtain ⟨f_common_divisor, fd_common_divisor, ⟨F_common_divisor, b_common_divisor, g_common_divisor⟩, G_common_divisor⟩ := h_common_divisor
  refine ⟨f0_, fd0_, D, D.F.ok sc_is_fraction (fun vs H Q E h => ?_) (fun cdv A outer s H vs Q E hr h => ?_)⟩
  · obtain ⟨G, ds, k, _, rs, hS, _⟩ := h
    rw [rs.length]
    exact sp1_len hS
  · obtain ⟨G, ds, k, sub, rs, hS, KK⟩ := h
    refine ⟨_, (pss_cons (ps_if (PW.pt (pw_or (pt_not (pt_val (pe_callB (show CallR _ _ (rIsi K) from call_isi) (by rfl) m_isinstance (by decide +kernel) (pa_cons (pv 0) (pa_cons (pe_bltn (v := .ty "tuple") (by rfl) m_tuple (by decide +kernel) rfl) pa_nil))))) (pw_or1 (pt_cmpR (show OpR _ _ (rNeA K) from op_neA hr.units) (pe_callB (show CallR _ _ (rLenK K) from call_lenK) (by rfl) m_len (by decide +kernel) (pa_cons (pv 0) pa_nil)) pe_int (nomark _))))) (pss_one (ps_ret pe_bl)) pss_nil)
      (pss_cons (ps_asg (pv 0) (show PG _ _ (gTup K 2 _) from pg_tup (n := 2) (by rfl) (pgs_cons (pg_name (i := 1) sc_is_fraction.nd rfl (.inl rfl)) (pgs_cons (pg_name (i := 2) sc_is_fraction.nd rfl (.inl rfl)) pgs_nil))))
      (pss_cons (ps_if (PW.pt (pw_or (pt_not (pt_val (pe_call G_is_plain_integer (hr.mono (by omega)) (by rfl) g_is_plain_integer F_is_plain_integer.kp b_is_plain_integer .nil pass0 (pa_cons (pv 1) pa_nil)))) (pw_or1 (pt_not (pt_val (pe_call G_is_plain_integer (hr.mono (by omega)) (by rfl) g_is_plain_integer F_is_plain_integer.kp b_is_plain_integer .nil pass0 (pa_cons (pv 2) pa_nil))))))) (pss_one (ps_ret pe_bl)) pss_nil)
      (pss_one (ps_ret (pe_and (pe_cmpR op_ge (pv 2) pe_int (nomark _)) (pe_one (pe_cmpR (show OpR _ _ (rEqA K) from op_eqA hr.units) (pe_call G_common_divisor (hr.mono (by omega)) (by rfl) g_common_divisor F_common_divisor.kp b_common_divisor .nil pass0 (pa_cons (pv 1) (pa_cons (pv 2) pa_nil))) pe_int (nomark _))))))))), runP (N := N_is_fraction) (ss_seq (ss_if (st_or (st_not (st_b (se_isT _ (se_var 0)))) (st_test (se_op (os_ne _) (se_cb (cs_len _) (sa_cons (se_var 0) sa_nil)) (se_int _)))) (ss_ret (se_bl _)) ss_nil)
      (ss_seq (ss_asg (se_var 0) (sg_tup _ (sg_cons (sg_name 1) (sg_cons (sg_name 2) sg_nil))))
      (ss_seq (ss_if (st_or (st_not (st_b (se_callP (sa_cons (se_var 1) sa_nil)))) (st_not (st_b (se_callP (sa_cons (se_var 2) sa_nil))))) (ss_ret (se_bl _)) ss_nil)
      (ss_ret (se_and (se_op os_ge (se_var 2) (se_int _)) (se_op (os_eq _) (se_callP (sa_cons (se_var 1) (sa_cons (se_var 2) sa_nil))) (se_int _))))))) sub rs KK ?_⟩
    clear KK rs sub hr
    replace hS := sp1_inv hS
    obtain ⟨x1, rfl, hS⟩ := hS
    have no : isFr x1 = false → k (.d (.bool false)) := fun h => by rw [h] at hS; exact hS
    cases x1 with
    | tuple ds =>
      refine ⟨(fun z => nomatch z), fun _ => ⟨_, rfl, trivial, fun z => no ?_, fun z => ?_⟩⟩
      · unfold isFr
        split
        · rename_i h
          cases h
          cases z
        · rfl
      · have z : (!decide ((ds.length : Int) = 2)) = false := z
        have z : ds.length = 2 := by
          by_cases h : (ds.length : Int) = 2
          · omega
          · rw [decide_eq_false h] at z
            cases z
        match ds, z with
        | [a, b], _ =>
          refine ⟨_, rfl, rfl, fun z => ⟨fun _ => no ?_, fun z => nomatch z⟩, fun z => ⟨fun z2 => no ?_, fun z2 => ?_⟩⟩
          · cases a <;> first | rfl | cases z
          · cases a <;> first | rfl | (cases b <;> first | rfl | cases z2 | cases z)
          · cases a with
            | int n =>
              cases b with
              | int d =>
                have hS : k (.d (.bool (decide (1 ≤ d) && decide (Int.gcd n d = 1)))) := hS
                refine ⟨fun z => ⟨_, _, rfl, rfl, trivial, ?_⟩, fun z => ?_⟩
                · have e : eqB (.int (Int.gcd n d : Int)) (.int 1) = decide (Int.gcd n d = 1) := decide_eq_decide.mpr (by omega)
                  rw [e]
                  rw [z, Bool.true_and] at hS
                  exact hS
                · rw [z, Bool.false_and] at hS
                  exact hS
              | _ => cases z2
            | _ => cases z
    | _ => exact ⟨(fun _ => ⟨fun _ => no rfl, fun z => nomatch z⟩), fun z => nomatch z⟩
end
end PM

namespace PM
open PySem PySem.Spec PyProof.Rows L2 RZ
section
variable {P : Program} {w : World} {K : PySem.W.Frag} {mg : Str → Option Value} {base : Heap}
open SX
/-! ### texts of small ints, of fractions, ratings, panels; needs Tm -/
theorem join1 (a x : Str) : Txt.join a [x] = x := by rw [TL.join_eq]; rfl
abbrev S_format_integer : SpP := sp1 fun a k => ∃ i : Int, a = .int i ∧ i.natAbs < 10 ^ 64 ∧ k (.d (.str (S (intL i))))
abbrev s_format_integer : Stmt := topS 21
abbrev N_format_integer : List Str := ["value", "left", "parts", "part", "sign"]
abbrev P_format_integer : List Str := ["value"]
theorem sc_format_integer : FnScope N_format_integer P_format_integer (defScope s_format_integer) := ⟨rfl, rfl, rfl, by decide +kernel, rfl, by decide +kernel, by decide +kernel⟩
set_option maxHeartbeats 8000000 in
theorem okD_format_integer (d : IsDef K mg "format_integer" s_format_integer P_format_integer) (m_reversed : mg "reversed" = none) (m_str : mg "str" = none) (m_abs : mg "abs" = none) {t_PART : Tok} (g_PART : mg "PART" = some (.int (10000000000000000000000000000000000000000000000000000000000000000) t_PART)) : Ok P w K mg base 1 "format_integer" s_format_integer P_format_integer (prP S_format_integer) := by
  obtain ⟨f0_, fd0_, D⟩ := d
  refine ⟨f0_, fd0_, D, D.F.ok sc_format_integer (fun vs H Q E h => ?_) (fun cdv A outer s H vs Q E hr h => ?_)⟩
  · obtain ⟨G, ds, k, _, rs, hS, _⟩ := h
    rw [rs.length]
    exact sp1_len hS
  · obtain ⟨G, ds, k, sub, rs, hS, KK⟩ := h
    refine ⟨_, (pss_cons (ps_set (i := 1) sc_format_integer.nd rfl (.inl rfl) (pe_callB call_abs (by rfl) m_abs (by decide +kernel) (pa_cons (pv 0) pa_nil)))
      (pss_cons (ps_set (i := 2) sc_format_integer.nd rfl (.inl rfl) (pe_lst pa_nil))
      (pss_cons (ps_while PassesOwn.never (pt_cmpR op_ge (pv 1) (pe_glob (v := .int (10000000000000000000000000000000000000000000000000000000000000000)) rfl g_PART ⟨_, rfl⟩) (nomark _)) (pss_cons ps_never
      (pss_one ps_never)))
      (pss_cons (ps_expr (pe_bm PySem.F.plainAttrs_list PySem.F.slot_list_append PySem.F.type_list_append mt_append (pv 2) (pa_cons (pe_callTy call_str_int (by rfl) m_str (by decide +kernel) (pa_cons (pv 1) pa_nil)) pa_nil)))
      (pss_cons (ps_set (i := 4) sc_format_integer.nd rfl (.inl rfl) (pe_ifExp (pt_cmpR op_lt (pv 0) pe_int (nomark _)) pe_str pe_str))
      (pss_one (ps_ret (pe_op (show OpR _ _ rAddS from op_add_str) (pv 4) (show PE _ _ (tJoinRev K _ _) from pe_joinRev rfl pe_str (by rfl) m_reversed (pv 2)))))))))), runP (N := N_format_integer) (ss_seq (ss_asg (se_cb cs_abs (sa_cons (se_var 0) sa_nil)) (sg_name 1))
      (ss_seq (ss_own 2 (sl_lst sa_nil))
      (ss_seq (ss_while (st_test (se_op os_ge (se_var 1) (se_int _))) (ss_seq ss_never
      ss_never))
      (ss_seq (ss_app _ 2 (se_cb cs_strI (sa_cons (se_var 1) sa_nil)))
      (ss_seq (ss_asg (se_if (st_test (se_op os_lt (se_var 0) (se_int _))) (se_str _) (se_str _)) (sg_name 4))
      (ss_ret (se_op os_addS (se_var 4) (se_joinRev _ (se_str _) (se_var 2))))))))) sub rs KK ?_⟩
    clear KK rs sub hr
    replace hS := sp1_inv hS
    obtain ⟨x1, rfl, hS⟩ := hS
    obtain ⟨i, rfl, hi, hk⟩ := hS
    have ea : (if i < 0 then -i else i) = (i.natAbs : Int) := by split <;> omega
    have nl := TL.numL_len (k := 64) (by decide) hi
    have b2 : ((i.natAbs : Int)).natAbs < 2 ^ 300 := Nat.lt_of_lt_of_le (show _ < 10 ^ 64 from by omega) (by decide)
    refine ⟨by show 0 ≤ 1000000; decide, ?_⟩
    dsimp only [dgName]
    rw [ea]
    refine ⟨fun _ e m => m = [.lst []] ∧ e = [some (.d (.int i)), some (.d (.int (i.natAbs : Int))), some (.p 0), none, none], ⟨0, rfl, rfl⟩, ?_⟩
    rintro n e m ⟨rfl, rfl⟩
    refine ⟨fun z => absurd (of_decide_eq_true z) (by omega), fun _ => ⟨⟨_, rfl⟩, lg19 b2, _, rfl, by show 0 < 1000000; decide, ?_⟩⟩
    have last : ∀ sg : List Nat, sg.length ≤ 1 → (S sg ++ S (TL.numL i.natAbs) = S (intL i)) → (S sg).length + (Txt.join (S []) [strI (i.natAbs : Int)]).length ≤ 1000000 ∧ k (.d (.str (S sg ++ Txt.join (S []) [strI (i.natAbs : Int)]))) := fun sg hs e => by
      rw [join1, strI_nat, e]
      exact ⟨by rw [S_len, S_len]; omega, hk⟩
    have sm : (([strI (i.natAbs : Int)].map (·.length)).sum + [strI (i.natAbs : Int)].length * (S []).length) ≤ 1000000 := by
      rw [strI_nat]
      simp only [List.map_cons, List.map_nil, List.sum_cons, List.sum_nil, S_len, List.length_cons, List.length_nil]
      omega
    rw [c_minus, c_nil]
    refine ⟨fun z => ⟨[strI (i.natAbs : Int)], rfl, sm, last [45] (by decide) ?_⟩, fun z => ⟨[strI (i.natAbs : Int)], rfl, sm, last [] (by decide) ?_⟩⟩
    · rw [intL_abs, if_pos (of_decide_eq_true z)]
    · rw [intL_abs, if_neg (of_decide_eq_false z)]
abbrev S_format_fraction : SpP := sp1 fun a k => ∃ x : Int × Int, a = fd x ∧ x.1.natAbs < 10 ^ 64 ∧ x.2.natAbs < 10 ^ 64 ∧ k (.d (.str (S (frL x))))
abbrev s_format_fraction : Stmt := topS 22
abbrev N_format_fraction : List Str := ["fraction", "numerator", "denominator"]
abbrev P_format_fraction : List Str := ["fraction"]
theorem sc_format_fraction : FnScope N_format_fraction P_format_fraction (defScope s_format_fraction) := ⟨rfl, rfl, rfl, by decide +kernel, rfl, by decide +kernel, by decide +kernel⟩
set_option maxHeartbeats 8000000 in
theorem okD_format_fraction (d : IsDef K mg "format_fraction" s_format_fraction P_format_fraction) (h_format_integer : Ok P w K mg base 1 "format_integer" s_format_integer P_format_integer (prP S_format_integer)) : Ok P w K mg base 2 "format_fraction" s_format_fraction P_format_fraction (prP S_format_fraction) := by
  obtain ⟨f0_, fd0_, D⟩ := d
  obtain ⟨f_format_integer, fd_format_integer, ⟨F_format_integer, b_format_integer, g_format_integer⟩, G_format_integer⟩ := h_format_integer
  refine ⟨f0_, fd0_, D, D.F.ok sc_format_fraction (fun vs H Q E h => ?_) (fun cdv A outer s H vs Q E hr h => ?_)⟩
  · obtain ⟨G, ds, k, _, rs, hS, _⟩ := h
    rw [rs.length]
    exact sp1_len hS
  · obtain ⟨G, ds, k, sub, rs, hS, KK⟩ := h
    refine ⟨_, (pss_cons (ps_asg (pv 0) (show PG _ _ (gTup K 2 _) from pg_tup (n := 2) (by rfl) (pgs_cons (pg_name (i := 1) sc_format_fraction.nd rfl (.inl rfl)) (pgs_cons (pg_name (i := 2) sc_format_fraction.nd rfl (.inl rfl)) pgs_nil))))
      (pss_cons (ps_if (pt_cmpR (show OpR _ _ (rEqA K) from op_eqA hr.units) (pv 2) pe_int (nomark _)) (pss_one (ps_ret (pe_call G_format_integer (hr.mono (by omega)) (by rfl) g_format_integer F_format_integer.kp b_format_integer .nil pass0 (pa_cons (pv 1) pa_nil)))) pss_nil)
      (pss_one (ps_ret (pe_op (show OpR _ _ rAddS from op_add_str) (pe_op (show OpR _ _ rAddS from op_add_str) (pe_call G_format_integer (hr.mono (by omega)) (by rfl) g_format_integer F_format_integer.kp b_format_integer .nil pass0 (pa_cons (pv 1) pa_nil)) pe_str) (pe_call G_format_integer (hr.mono (by omega)) (by rfl) g_format_integer F_format_integer.kp b_format_integer .nil pass0 (pa_cons (pv 2) pa_nil))))))), runP (N := N_format_fraction) (ss_seq (ss_asg (se_var 0) (sg_tup _ (sg_cons (sg_name 1) (sg_cons (sg_name 2) sg_nil))))
      (ss_seq (ss_if (st_test (se_op (os_eq _) (se_var 2) (se_int _))) (ss_ret (se_callP (sa_cons (se_var 1) sa_nil))) ss_nil)
      (ss_ret (se_op os_addS (se_op os_addS (se_callP (sa_cons (se_var 1) sa_nil)) (se_str _)) (se_callP (sa_cons (se_var 2) sa_nil)))))) sub rs KK ?_⟩
    clear KK rs sub hr
    replace hS := sp1_inv hS
    obtain ⟨x1, rfl, hS⟩ := hS
    obtain ⟨x, rfl, h1, h2, hk⟩ := hS
    refine ⟨_, rfl, rfl, trivial, fun z => ⟨_, rfl, h1, ?_⟩, fun z => ⟨_, rfl, h1, ?_⟩⟩
    · have e : frL x = intL x.1 := by unfold frL; rw [if_pos (of_decide_eq_true z), List.append_nil]
      rw [e] at hk
      exact hk
    · have e : frL x = intL x.1 ++ [47] ++ intL x.2 := by unfold frL; rw [if_neg (of_decide_eq_false z), List.append_assoc]; rfl
      have l1 := intL_len (k := 64) (by decide) h1
      have l2 := intL_len (k := 64) (by decide) h2
      rw [c_slash]
      refine ⟨by rw [S_len, S_len]; show _ + 1 ≤ _; omega, _, rfl, h2, by rw [S_cat, S_len, S_len, List.length_append]; show _ + 1 + _ ≤ _; omega, ?_⟩
      rw [S_cat, S_cat, ← e]
      exact hk
theorem sumLe {B : Nat} : ∀ {l : List Nat}, (∀ x ∈ l, x ≤ B) → l.sum ≤ l.length * B
  | [], _ => Nat.zero_le _
  | x :: l, h => by
    have h1 := h x List.mem_cons_self
    have h2 := sumLe (l := l) fun y hy => h y (List.mem_cons_of_mem _ hy)
    rw [List.sum_cons, List.length_cons, Nat.succ_mul]
    omega
theorem lenS {α : Type} (f : α → List Nat) {B : Nat} {xs : List α} (h : ∀ x ∈ xs, (f x).length ≤ B) : (((xs.map f).map S).map (·.length)).sum ≤ xs.length * B := by
  have := sumLe (B := B) (l := ((xs.map f).map S).map (·.length)) fun z hz => by
    obtain ⟨y, hy, rfl⟩ := List.mem_map.mp hz
    obtain ⟨l, hl, e⟩ := List.mem_map.mp hy
    obtain ⟨x, hx, rfl⟩ := List.mem_map.mp hl
    rw [← e]
    show (S (f x)).length ≤ B
    rw [S_len]
    exact h x hx
  simpa using this
abbrev S_format_rating : SpP := sp1 fun a k => ∃ xs : List (Int × Int), a = .tuple (xs.map fd) ∧ xs.length ≤ 1000 ∧ (∀ x ∈ xs, x.1.natAbs < 10 ^ 64 ∧ x.2.natAbs < 10 ^ 64) ∧ k (.d (.str (S (rtL xs))))
abbrev s_format_rating : Stmt := topS 23
abbrev N_format_rating : List Str := ["rating", "fraction"]
abbrev P_format_rating : List Str := ["rating"]
theorem sc_format_rating : FnScope N_format_rating P_format_rating (defScope s_format_rating) := ⟨rfl, rfl, rfl, by decide +kernel, rfl, by decide +kernel, by decide +kernel⟩
set_option maxHeartbeats 8000000 in
theorem okD_format_rating (d : IsDef K mg "format_rating" s_format_rating P_format_rating) (h_format_fraction : Ok P w K mg base 2 "format_fraction" s_format_fraction P_format_fraction (prP S_format_fraction)) : Ok P w K mg base 3 "format_rating" s_format_rating P_format_rating (prP S_format_rating) := by
  obtain ⟨f0_, fd0_, D⟩ := d
  obtain ⟨f_format_fraction, fd_format_fraction, ⟨F_format_fraction, b_format_fraction, g_format_fraction⟩, G_format_fraction⟩ := h_format_fraction
  refine ⟨f0_, fd0_, D, D.F.ok sc_format_rating (fun vs H Q E h => ?_) (fun cdv A outer s H vs Q E hr h => ?_)⟩
  · obtain ⟨G, ds, k, _, rs, hS, _⟩ := h
    rw [rs.length]
    exact sp1_len hS
  · obtain ⟨G, ds, k, sub, rs, hS, KK⟩ := h
    refine ⟨_, (pss_one (ps_ret (show PE _ _ (tM1 (rJoinK K) _ _) from pe_join pe_str (pe_lc (own := [("fraction", 1)]) (g := (gName 1)) (by rfl) sc_format_rating.nd (show PI _ _ _ (iSeq K _) from pi_seq (pv 0)) (blkOk_by (own := [("fraction", 1)]) (N := N_format_rating) (sc := defScope s_format_rating) (by decide +kernel)) (fun _ _ _ _ _ => by exact (pg_name (i := 1) sc_format_rating.nd rfl (by first | exact .inl rfl | exact .inr rfl))) (fun _ _ _ _ _ => pts_nil) (fun _ _ _ _ _ => by exact (pe_call G_format_fraction (hr.mono (by omega)) (by rfl) g_format_fraction F_format_fraction.kp b_format_fraction .nil pass0 (pa_cons (pv 1) pa_nil))))))), runP (N := N_format_rating) (ss_ret (se_join _ (se_str _) (SL.se (sl_lc (vs := [1]) (si_seq _ (se_var 0)) (sg_name 1) (gw_name (i := 1) (by decide)) st_yes (se_callP (sa_cons (se_var 1) sa_nil)))))) sub rs KK ?_⟩
    clear KK rs sub hr
    replace hS := sp1_inv hS
    obtain ⟨x1, rfl, hS⟩ := hS
    obtain ⟨xs, rfl, hl, hz, hk⟩ := hS
    refine lcM fd (fun x => .str (S (frL x))) xs (by omega) (fun x hx C _ h2 => ⟨fun _ => ⟨x, rfl, (hz x hx).1, (hz x hx).2, h2⟩, fun z => nomatch z⟩) ?_
    have le := lenS frL (B := 131) (xs := xs) fun x hx => frL_len (k := 64) (by decide) (hz x hx).1 (hz x hx).2
    refine ⟨(xs.map frL).map S, by rw [List.map_map, List.map_map]; rfl, ?_, ?_⟩
    · rw [c_sp, S_len, List.length_map, List.length_map]
      show _ + xs.length * 1 ≤ _
      omega
    · rw [c_sp, join_S]
      exact hk
theorem joinNil : ∀ ps : List (List Nat), TL.joinL [] ps = ps.flatten
  | [] => rfl
  | [p] => by simp [TL.joinL]
  | p :: q :: r => by
    show p ++ ([] ++ TL.joinL [] (q :: r)) = _
    rw [joinNil (q :: r)]
    simp
abbrev S_format_panel : SpP := sp1 fun a k => ∃ (its : List (Int × Int)) (rls : List (Nat × Nat)), a = pnD its rls ∧ its.length ≤ 1000 ∧ rls.length ≤ 1000 ∧ (∀ q ∈ its, q.1.natAbs < 10 ^ 64 ∧ q.2.natAbs < 10 ^ 64) ∧ (∀ q ∈ rls, q.1 < 10 ^ 64 ∧ q.2 < 10 ^ 64) ∧ k (.d (.str (S (pnL its rls))))
theorem js_line {e : DEnv} {m : Mu} {k : DV → Mu → Prop} {p q : Nat} {i j : Int} {a : Str} {w : List Nat} (ha : a = S w) (h1 : lk e p = some (.d (.int i))) (h2 : lk e q = some (.d (.int j))) (z1 : i.natAbs < 10 ^ 64) (z2 : j.natAbs < 10 ^ 64) (hw : w.length ≤ 100)
    (hk : k (.d (.str (S (w ++ intL i ++ [32] ++ intL j ++ [10])))) m) : dJs [dC (.str a), dFmt (dVar p), dC (.str (" " : Str)), dFmt (dVar q), dC (.str ("\n" : Str))] Str.empty e m k := by
  subst ha
  have m1 := intL_len (k := 64) (by decide) z1
  have m2 := intL_len (k := 64) (by decide) z2
  have e0 : Str.empty = S [] := rfl
  rw [c_sp, c_nl, e0]
  refine js_c (by rw [S_cat, S_len]; simp only [List.length_append, List.length_nil]; omega) (js_i h1 z1 ?_ (js_c ?_ (js_i h2 z2 ?_ (js_c ?_ ?_))))
  all_goals simp only [strI_eq, S_cat, S_len, List.length_append, List.length_cons, List.length_nil, List.nil_append]
  · omega
  · omega
  · omega
  · omega
  · exact hk
theorem itW_cat (q : Int × Int) : [105, 116, 101, 109, 32] ++ intL q.1 ++ [32] ++ intL q.2 ++ [10] = itW q ++ [10] := by
  show _ = ([105, 116, 101, 109] ++ ([32] ++ (intL q.1 ++ ([32] ++ intL q.2)))) ++ [10]
  simp
theorem rlW_cat (q : Nat × Nat) : [114, 117, 108, 101, 32] ++ intL q.1 ++ [32] ++ intL q.2 ++ [10] = rlW q ++ [10] := by
  show _ = ([114, 117, 108, 101] ++ ([32] ++ (intL q.1 ++ ([32] ++ intL q.2)))) ++ [10]
  simp
theorem itW_len {q : Int × Int} (h : q.1.natAbs < 10 ^ 64 ∧ q.2.natAbs < 10 ^ 64) : (itW q ++ [10]).length ≤ 140 := by
  rw [← itW_cat]
  have m1 := intL_len (k := 64) (by decide) h.1
  have m2 := intL_len (k := 64) (by decide) h.2
  simp only [List.length_append, List.length_cons, List.length_nil]; omega
theorem rlW_len {q : Nat × Nat} (h : q.1 < 10 ^ 64 ∧ q.2 < 10 ^ 64) : (rlW q ++ [10]).length ≤ 140 := by
  rw [← rlW_cat]
  have m1 := intL_len (i := (q.1 : Int)) (k := 64) (by decide) (by omega)
  have m2 := intL_len (i := (q.2 : Int)) (k := 64) (by decide) (by omega)
  simp only [List.length_append, List.length_cons, List.length_nil]; omega
abbrev s_format_panel : Stmt := topS 24
abbrev N_format_panel : List Str := ["panel", "items", "rules", "lines", "mark", "weight", "low", "high"]
abbrev P_format_panel : List Str := ["panel"]
theorem sc_format_panel : FnScope N_format_panel P_format_panel (defScope s_format_panel) := ⟨rfl, rfl, rfl, by decide +kernel, rfl, by decide +kernel, by decide +kernel⟩
set_option maxHeartbeats 8000000 in
theorem okD_format_panel (d : IsDef K mg "format_panel" s_format_panel P_format_panel)  : Ok P w K mg base 1 "format_panel" s_format_panel P_format_panel (prP S_format_panel) := by
  obtain ⟨f0_, fd0_, D⟩ := d
  refine ⟨f0_, fd0_, D, D.F.ok sc_format_panel (fun vs H Q E h => ?_) (fun cdv A outer s H vs Q E hr h => ?_)⟩
  · obtain ⟨G, ds, k, _, rs, hS, _⟩ := h
    rw [rs.length]
    exact sp1_len hS
  · obtain ⟨G, ds, k, sub, rs, hS, KK⟩ := h
    refine ⟨_, (pss_cons (ps_asg (pv 0) (show PG _ _ (gTup K 2 _) from pg_tup (n := 2) (by rfl) (pgs_cons (pg_name (i := 1) sc_format_panel.nd rfl (.inl rfl)) (pgs_cons (pg_name (i := 2) sc_format_panel.nd rfl (.inl rfl)) pgs_nil))))
      (pss_cons (ps_setLc (i := 3) (own := [("mark", 4), ("weight", 5)]) (g := (gTup K 2 (gCons (gName 4) (gCons (gName 5) gNil)))) (by rfl) sc_format_panel.nd rfl rfl (sw_true rfl rfl rfl (by decide +kernel)) (show PI _ _ _ (iSeq K _) from pi_seq (pv 1)) (blkOk_by (own := [("mark", 4), ("weight", 5)]) (N := N_format_panel) (sc := defScope s_format_panel) (by decide +kernel)) (fun _ _ _ _ _ => by exact (show PG _ _ (gTup K 2 _) from pg_tup (n := 2) (by rfl) (pgs_cons (pg_name (i := 4) sc_format_panel.nd rfl (by first | exact .inl rfl | exact .inr rfl)) (pgs_cons (pg_name (i := 5) sc_format_panel.nd rfl (by first | exact .inl rfl | exact .inr rfl)) pgs_nil)))) (fun _ _ _ _ _ => pts_nil) (fun _ _ _ _ _ => by exact (pe_joined (PJ.cons pe_str (PJ.cons (pe_fmt (pv 4)) (PJ.cons pe_str (PJ.cons (pe_fmt (pv 5)) (PJ.cons pe_str PJ.nil))))))))
      (pss_cons (ps_aug (i := 3) sc_format_panel.nd rfl (.inl rfl) (pe_lc (own := [("low", 6), ("high", 7)]) (g := (gTup K 2 (gCons (gName 6) (gCons (gName 7) gNil)))) (by rfl) sc_format_panel.nd (show PI _ _ _ (iSeq K _) from pi_seq (pv 2)) (blkOk_by (own := [("low", 6), ("high", 7)]) (N := N_format_panel) (sc := defScope s_format_panel) (by decide +kernel)) (fun _ _ _ _ _ => by exact (show PG _ _ (gTup K 2 _) from pg_tup (n := 2) (by rfl) (pgs_cons (pg_name (i := 6) sc_format_panel.nd rfl (by first | exact .inl rfl | exact .inr rfl)) (pgs_cons (pg_name (i := 7) sc_format_panel.nd rfl (by first | exact .inl rfl | exact .inr rfl)) pgs_nil)))) (fun _ _ _ _ _ => pts_nil) (fun _ _ _ _ _ => by exact (pe_joined (PJ.cons pe_str (PJ.cons (pe_fmt (pv 6)) (PJ.cons pe_str (PJ.cons (pe_fmt (pv 7)) (PJ.cons pe_str PJ.nil)))))))) iop_ext)
      (pss_one (ps_ret (show PE _ _ (tM1 (rJoinK K) _ _) from pe_join pe_str (pv 3))))))), runP (N := N_format_panel) (ss_seq (ss_asg (se_var 0) (sg_tup _ (sg_cons (sg_name 1) (sg_cons (sg_name 2) sg_nil))))
      (ss_seq (ss_own 3 (sl_lc (vs := [4, 5]) (si_seq _ (se_var 1)) (sg_tup _ (sg_cons (sg_name 4) (sg_cons (sg_name 5) sg_nil))) (gw_tup (gw_cons (gw_name (i := 4) (by decide)) (gm_name 4) (gm_cons (gm_name 5) gm_nil) (gw_cons (gw_name (i := 5) (by decide)) (gm_name 5) gm_nil gw_nil))) st_yes (se_js (SJ.cons (se_str _) (SJ.cons (se_fmt (se_var 4)) (SJ.cons (se_str _) (SJ.cons (se_fmt (se_var 5)) (SJ.cons (se_str _) SJ.nil))))) _)))
      (ss_seq (ss_augL 3 (SL.se (sl_lc (vs := [6, 7]) (si_seq _ (se_var 2)) (sg_tup _ (sg_cons (sg_name 6) (sg_cons (sg_name 7) sg_nil))) (gw_tup (gw_cons (gw_name (i := 6) (by decide)) (gm_name 6) (gm_cons (gm_name 7) gm_nil) (gw_cons (gw_name (i := 7) (by decide)) (gm_name 7) gm_nil gw_nil))) st_yes (se_js (SJ.cons (se_str _) (SJ.cons (se_fmt (se_var 6)) (SJ.cons (se_str _) (SJ.cons (se_fmt (se_var 7)) (SJ.cons (se_str _) SJ.nil))))) _))))
      (ss_ret (se_join _ (se_str _) (se_var 3)))))) sub rs KK ?_⟩
    clear KK rs sub hr
    replace hS := sp1_inv hS
    obtain ⟨x1, rfl, hS⟩ := hS
    obtain ⟨its, rls, rfl, l1, l2, h1, h2, hk⟩ := hS
    refine ⟨_, rfl, rfl, ?_⟩
    refine lcM itD (fun q => .str (S (itW q ++ [10]))) its (by omega) (fun q hq C _ hc => ?_) ?_
    · exact ⟨_, rfl, rfl, fun _ => js_line c_items rfl rfl (h1 q hq).1 (h1 q hq).2 (by decide) (by rw [itW_cat]; exact hc), fun z => nomatch z⟩
    · refine lcM rlD (fun q => .str (S (rlW q ++ [10]))) rls (by omega) (fun q hq C _ hc => ?_) ?_
      · have z := h2 q hq
        exact ⟨_, rfl, rfl, fun _ => js_line (i := (q.1 : Int)) (j := (q.2 : Int)) c_rules rfl rfl (by omega) (by omega) (by decide) (by rw [rlW_cat]; exact hc), fun z => nomatch z⟩
      · refine ⟨_, _, rfl, rfl, by rw [List.length_map, List.length_map]; omega, (fun _ z => nomatch z), ?_⟩
        have le1 := lenS (fun q => itW q ++ [10]) (B := 140) (xs := its) fun q hq => itW_len (h1 q hq)
        have le2 := lenS (fun q => rlW q ++ [10]) (B := 140) (xs := rls) fun q hq => rlW_len (h2 q hq)
        refine ⟨((its.map fun q => itW q ++ [10]) ++ (rls.map fun q => rlW q ++ [10])).map S, ?_, ?_, ?_⟩
        · rw [List.map_append, List.map_append, List.map_map, List.map_map, List.map_map, List.map_map]; rfl
        · rw [List.map_append, List.map_append, List.sum_append]
          rw [c_nil, S_len]
          show _ + _ * 0 ≤ _
          omega
        · rw [c_nil, join_S, joinNil]
          have e : ((its.map fun q => itW q ++ [10]) ++ (rls.map fun q => rlW q ++ [10])).flatten = pnL its rls := by
            unfold pnL lnL pnW
            rw [List.map_append, List.map_map, List.map_map]; rfl
          rw [e]
          exact hk
end
end PM

/-! range(a, b, c) -/
namespace PM
open PySem PySem.Spec PyProof.Rows L2 RZ
def rgC (lo c : Int) (n : Nat) : List PyData := (List.range n).map fun t : Nat => .int (lo + (t : Nat) * c)
theorem rgC_len (lo c : Int) (n : Nat) : (rgC lo c n).length = n := by unfold rgC; rw [List.length_map, List.length_range]
theorem wk_rangeC {G : Hp} {lo c : Int} {n : Nat} : WK (Itc lo c n) G (rgC lo c n) := by
  refine ⟨fun i H hi s => by rw [rgC_len] at hi; exact hi, fun H s => by rw [rgC_len]; exact Nat.le_refl _, fun i H x H' hi s y => ?_⟩
  rw [rgC_len] at hi
  obtain ⟨e1, e2⟩ := y
  refine ⟨.int (lo + (i : Nat) * c), ?_, .inl ⟨e1, by rw [e2]; exact .int _⟩⟩
  unfold rgC
  rw [List.getElem?_map, List.getElem?_range hi]
  rfl
def diRng3 (a : DA) : DI := fun e m k => a e m fun xs m1 => match xs with
  | [.d (.int i), .d (.int j), .d (.int c)] => ∃ n, RgC i j c n ∧ k (rgC i c n) m1
  | _ => False
theorem si_rng3 {ta : TA} {da : DA} (h : SA ta da) : SI (iRng3 ta) (diRng3 da) := fun c G pl σ H e m k R sr d KK => h _ _ _ _ _ _ _ _ _ sr d fun xs m1 G1 pl1 H1 vs d1 l1 sr1 r1 => by
  split at d1
  · cases r1 with
    | cons ra t =>
      cases t with
      | cons rb t =>
        cases t with
        | cons rc t =>
          cases t
          cases ra.int_inv
          cases rb.int_inv
          cases rc.int_inv
          obtain ⟨n, hn, d1⟩ := d1
          exact ⟨_, _, _, n, rfl, hn, KK _ _ _ _ _ _ d1 l1 sr1 wk_rangeC⟩
  · exact d1.elim
theorem rgC5 : ∀ n, n ≤ 16 → ∃ k, RgC 0 (n : Nat) (1 + (n : Int) / 5) k ∧ ∀ t, t < k → t * (1 + n / 5) < n := by
  have : ∀ n : Fin 17, ∃ k : Fin 20, RgC 0 (n.val : Nat) (1 + ((n.val : Nat) : Int) / 5) k.val ∧ ∀ t : Fin 20, t.val < k.val → t.val * (1 + n.val / 5) < n.val := by
    unfold RgC
    decide
  intro n hn
  obtain ⟨k, h1, h2⟩ := this ⟨n, by omega⟩
  exact ⟨k.val, h1, fun t ht => h2 ⟨t, by omega⟩ ht⟩
end PM

/-! x in t, t a tuple of data -/
namespace PM
open PySem PySem.Spec PyProof.Rows L2 RZ
def rInT (K : PySem.W.Frag) (neg : Bool) : R2 := fun x y H Q => ∃ d ds, Dp K H x d ∧ Dp K H y (.tuple ds) ∧ d.canLay0 = true ∧ d.depth ≤ 60 ∧ PyData.canLayAll0 ds = true ∧ Q (.bl (if neg then !(ds.any fun z => PyData.eqv z d) else ds.any fun z => PyData.eqv z d)) H
theorem op_inT {X : Cx} (hu : X.A.units + 64 < cLine) : OpR X (compareOp .In) (rInT X.K false) := by
  intro pins s σ H x y v u Q I rx ry h
  obtain ⟨d, ds, hd, he, sd, dd, se, q⟩ := h
  obtain ⟨as, r1⟩ := Dp.reads I d x v hd rx
  obtain ⟨bs, r2⟩ := Dp.reads I (.tuple ds) y u he ry
  exact SeqAt.in_tuple_reads r2 r1 se sd (by omega) ⟨.bl _, H, I, rfl, q⟩
theorem op_notInT {X : Cx} (hu : X.A.units + 64 < cLine) : OpR X (compareOp .NotIn) (rInT X.K true) := by
  intro pins s σ H x y v u Q I rx ry h
  obtain ⟨d, ds, hd, he, sd, dd, se, q⟩ := h
  obtain ⟨as, r1⟩ := Dp.reads I d x v hd rx
  obtain ⟨bs, r2⟩ := Dp.reads I (.tuple ds) y u he ry
  exact SeqAt.notIn_tuple_reads r2 r1 se sd (by omega) ⟨.bl _, H, I, rfl, q⟩
def fInT (neg : Bool) (m : Mu) (x y : DV) (k : DV → Prop) : Prop := match rdV m x, rdV m y with
  | some a, some (.tuple ds) => a.canLay0 = true ∧ a.depth ≤ 60 ∧ PyData.canLayAll0 ds = true ∧ k (.d (.bool (if neg then !(ds.any fun z => PyData.eqv z a) else ds.any fun z => PyData.eqv z a)))
  | _, _ => False
theorem os_inT (K : PySem.W.Frag) (neg : Bool) : OpS (rInT K neg) (fInT neg) := fun c G pl σ H e m x y dx dy k Q sr rx ry d KK => by
  unfold fInT at d
  split at d
  · rename_i a ds ha hb
    have h1 := sr.data rx ha
    have h2 := sr.data ry hb
    obtain ⟨d1, d2, d3, d⟩ := d
    have e1 : a.hasDict = false := shaped_nd.canLay0_nd d1
    have e2 : (PyData.tuple ds).hasDict = false := shaped_nd.canLay0_nd (d := .tuple ds) (by unfold PyData.canLay0; exact d3)
    exact ⟨a, ds, Da.dp h1 e1, Da.dp h2 e2, d1, d2, d3, KK.val sr d (show Da G _ _ from .bl _)⟩
  · exact d.elim
end PM

/-! x in t, t a list of data -/
namespace PM
open PySem PySem.Spec PyProof.Rows L2 RZ
def rInL (K : PySem.W.Frag) (neg : Bool) : R2 := fun x y H Q => ∃ d ds, Dp K H x d ∧ Dp K H y (.list ds) ∧ d.canLay0 = true ∧ d.depth ≤ 60 ∧ PyData.canLayAll0 ds = true ∧ Q (.bl (if neg then !(ds.any fun z => PyData.eqv z d) else ds.any fun z => PyData.eqv z d)) H
theorem op_inL {X : Cx} (hu : X.A.units + 64 < cLine) : OpR X (compareOp .In) (rInL X.K false) := by
  intro pins s σ H x y v u Q I rx ry h
  obtain ⟨d, ds, hd, he, sd, dd, se, q⟩ := h
  obtain ⟨as, r1⟩ := Dp.reads I d x v hd rx
  obtain ⟨bs, r2⟩ := Dp.reads I (.list ds) y u he ry
  exact SeqAt.in_list_reads r2 r1 se sd (by omega) ⟨.bl _, H, I, rfl, q⟩
theorem op_notInL {X : Cx} (hu : X.A.units + 64 < cLine) : OpR X (compareOp .NotIn) (rInL X.K true) := by
  intro pins s σ H x y v u Q I rx ry h
  obtain ⟨d, ds, hd, he, sd, dd, se, q⟩ := h
  obtain ⟨as, r1⟩ := Dp.reads I d x v hd rx
  obtain ⟨bs, r2⟩ := Dp.reads I (.list ds) y u he ry
  exact SeqAt.notIn_list_reads r2 r1 se sd (by omega) ⟨.bl _, H, I, rfl, q⟩
def fInL (neg : Bool) (m : Mu) (x y : DV) (k : DV → Prop) : Prop := match rdV m x, rdV m y with
  | some a, some (.list ds) => a.canLay0 = true ∧ a.depth ≤ 60 ∧ PyData.canLayAll0 ds = true ∧ k (.d (.bool (if neg then !(ds.any fun z => PyData.eqv z a) else ds.any fun z => PyData.eqv z a)))
  | _, _ => False
theorem os_inL (K : PySem.W.Frag) (neg : Bool) : OpS (rInL K neg) (fInL neg) := fun c G pl σ H e m x y dx dy k Q sr rx ry d KK => by
  unfold fInL at d
  split at d
  · rename_i a ds ha hb
    have h1 := sr.data rx ha
    have h2 := sr.data ry hb
    obtain ⟨d1, d2, d3, d⟩ := d
    have e1 : a.hasDict = false := shaped_nd.canLay0_nd d1
    have e2 : (PyData.list ds).hasDict = false := shaped_nd.canLay0_nd (d := .list ds) (by unfold PyData.canLay0; exact d3)
    exact ⟨a, ds, Da.dp h1 e1, Da.dp h2 e2, d1, d2, d3, KK.val sr d (show Da G _ _ from .bl _)⟩
  · exact d.elim
end PM

namespace PM
open PySem PySem.Spec PyProof.Rows L2 RZ
section
variable {P : Program} {w : World} {K : PySem.W.Frag} {mg : Str → Option Value} {base : Heap}
open SX
/-! ### reading ints and fractions; needs Tm, Rg3 and the piece any_fraction -/
abbrev S_is_decimal : SpP := sp1 fun a k => ∃ l : List Nat, a = .str (S l) ∧ k (.d (.bool (isDec l)))
abbrev s_is_decimal : Stmt := topS 25
abbrev N_is_decimal : List Str := ["text"]
abbrev P_is_decimal : List Str := ["text"]
theorem sc_is_decimal : FnScope N_is_decimal P_is_decimal (defScope s_is_decimal) := ⟨rfl, rfl, rfl, by decide +kernel, rfl, by decide +kernel, by decide +kernel⟩
set_option maxHeartbeats 8000000 in
theorem okD_is_decimal (d : IsDef K mg "is_decimal" s_is_decimal P_is_decimal)  : Ok P w K mg base 1 "is_decimal" s_is_decimal P_is_decimal (prP S_is_decimal) := by
  obtain ⟨f0_, fd0_, D⟩ := d
  refine ⟨f0_, fd0_, D, D.F.ok sc_is_decimal (fun vs H Q E h => ?_) (fun cdv A outer s H vs Q E hr h => ?_)⟩
  · obtain ⟨G, ds, k, _, rs, hS, _⟩ := h
    rw [rs.length]
    exact sp1_len hS
  · obtain ⟨G, ds, k, sub, rs, hS, KK⟩ := h
    refine ⟨_, (pss_cons (ps_if (PW.pt (pw_or (pt_not (pt_val (pe_m0 PySem.F.slot_str_isascii PySem.F.type_str_isascii mt_isascii (pv 0)))) (pw_or1 (pt_not (pt_val (pe_m0 PySem.F.slot_str_isdigit PySem.F.type_str_isdigit mt_isdigit (pv 0))))))) (pss_one (ps_ret pe_bl)) pss_nil)
      (pss_one (ps_ret (pe_or (pe_cmpR (show OpR _ _ (rEqA K) from op_eqA hr.units) (pv 0) pe_str (nomark _)) (pe_one (pe_not (pe_m1 PySem.F.slot_str_startswith PySem.F.type_str_startswith mt_startswith (pv 0) pe_str))))))), runP (N := N_is_decimal) (ss_seq (ss_if (st_or (st_not (st_b (se_isascii (se_var 0)))) (st_not (st_b (se_isdigit (se_var 0))))) (ss_ret (se_bl _)) ss_nil)
      (ss_ret (se_or (se_op (os_eq _) (se_var 0) (se_str _)) (se_not (se_starts (se_var 0) (se_str _)))))) sub rs KK ?_⟩
    clear KK rs sub hr
    replace hS := sp1_inv hS
    obtain ⟨x1, rfl, hS⟩ := hS
    obtain ⟨l, rfl, hk⟩ := hS
    have no : (l.all isDg && !l.isEmpty) = false → k (.d (.bool false)) := fun h => by unfold isDec at hk; rw [h, Bool.false_and] at hk; exact hk
    refine ⟨trivial, fun z => ⟨fun _ => no ?_, fun z => nomatch z⟩, fun z => ⟨trivial, fun z2 => no ?_, fun z2 => ?_⟩⟩
    · rw [isAscii_S, Bool.not_eq_true'] at z
      cases h : l.all isDg with
      | false => rfl
      | true => rw [dg_ascii h] at z; cases z
    all_goals
      rw [isAscii_S, Bool.not_eq_false'] at z
      rw [isDigit_S z, Bool.and_comm] at z2
    · rw [Bool.not_eq_true'] at z2
      exact z2
    · rw [Bool.not_eq_false'] at z2
      unfold isDec at hk
      rw [z2, Bool.true_and] at hk
      rw [c_zero]
      refine ⟨trivial, fun z3 => ?_, fun z3 => ⟨trivial, ?_⟩⟩
      all_goals rw [eqB_S] at z3
      · rw [z3, Bool.true_or] at hk
        exact hk
      · rw [z3, Bool.false_or] at hk
        show k (.d (.bool (!Txt.startswith (S l) (S [48]))))
        rw [starts_S]
        exact hk
abbrev S_read_digits : SpP := sp1 fun a k => ∃ l : List Nat, a = .str (S l) ∧ l ≠ [] ∧ l.all isDg = true ∧ l.length ≤ 10000 ∧ k (.d (.int (dv l)))
abbrev s_read_digits : Stmt := topS 26
abbrev N_read_digits : List Str := ["digits", "padded", "value", "at"]
abbrev P_read_digits : List Str := ["digits"]
theorem sc_read_digits : FnScope N_read_digits P_read_digits (defScope s_read_digits) := ⟨rfl, rfl, rfl, by decide +kernel, rfl, by decide +kernel, by decide +kernel⟩
set_option maxHeartbeats 8000000 in
theorem okD_read_digits (d : IsDef K mg "read_digits" s_read_digits P_read_digits) (m_len : mg "len" = none) (m_range : mg "range" = none) (m_int : mg "int" = none) {t_PART_DIGITS : Tok} (g_PART_DIGITS : mg "PART_DIGITS" = some (.int (64) t_PART_DIGITS)) {t_PART : Tok} (g_PART : mg "PART" = some (.int (10000000000000000000000000000000000000000000000000000000000000000) t_PART)) : Ok P w K mg base 1 "read_digits" s_read_digits P_read_digits (prP S_read_digits) := by
  obtain ⟨f0_, fd0_, D⟩ := d
  refine ⟨f0_, fd0_, D, D.F.ok sc_read_digits (fun vs H Q E h => ?_) (fun cdv A outer s H vs Q E hr h => ?_)⟩
  · obtain ⟨G, ds, k, _, rs, hS, _⟩ := h
    rw [rs.length]
    exact sp1_len hS
  · obtain ⟨G, ds, k, sub, rs, hS, KK⟩ := h
    refine ⟨_, (pss_cons (ps_set (i := 1) sc_read_digits.nd rfl (.inl rfl) (pe_op (show OpR _ _ rAddS from op_add_str) (pe_op op_mulStr pe_str (pe_op op_mod (pe_un un_neg (pe_callB call_len_str (by rfl) m_len (by decide +kernel) (pa_cons (pv 0) pa_nil))) (pe_glob (v := .int (64)) rfl g_PART_DIGITS ⟨_, rfl⟩))) (pv 0)))
      (pss_cons (ps_set (i := 2) sc_read_digits.nd rfl (.inl rfl) pe_int)
      (pss_cons (ps_for PassesOwn.never rfl (pi_range3 (by rfl) m_range (pa_cons pe_int (pa_cons (pe_callB call_len_str (by rfl) m_len (by decide +kernel) (pa_cons (pv 1) pa_nil)) (pa_cons (pe_glob (v := .int (64)) rfl g_PART_DIGITS ⟨_, rfl⟩) pa_nil)))) (pg_name (i := 3) sc_read_digits.nd rfl (.inl rfl)) (pss_one (ps_set (i := 2) sc_read_digits.nd rfl (.inl rfl) (pe_op (show OpR _ _ (rAddA K) from op_addA) (pe_op (show OpR _ _ (rMulA K) from op_mulA) (pv 2) (pe_glob (v := .int (10000000000000000000000000000000000000000000000000000000000000000)) rfl g_PART ⟨_, rfl⟩)) (pe_callTy call_int_str (by rfl) m_int (by decide +kernel) (pa_cons (pe_slice (show SlR _ L2.rSlS from sl_str) (pv 1) (po_some (pv 3)) (po_some (pe_op (show OpR _ _ (rAddA K) from op_addA) (pv 3) (pe_glob (v := .int (64)) rfl g_PART_DIGITS ⟨_, rfl⟩)))) pa_nil))))))
      (pss_one (ps_ret (pv 2)))))), runP (N := N_read_digits) (ss_seq (ss_asg (se_op os_addS (se_op os_mulS (se_str _) (se_op os_mod (se_un us_neg (se_cb cs_lenS (sa_cons (se_var 0) sa_nil))) (se_int _))) (se_var 0)) (sg_name 1))
      (ss_seq (ss_asg (se_int _) (sg_name 2))
      (ss_seq (ss_for (si_rng3 (sa_cons (se_int _) (sa_cons (se_cb cs_lenS (sa_cons (se_var 1) sa_nil)) (sa_cons (se_int _) sa_nil)))) (sg_name 3) (ss_asg (se_op (os_addA _) (se_op (os_mulA _) (se_var 2) (se_int _)) (se_cb cs_intS (sa_cons (se_slS (se_var 1) (so_some (se_var 3)) (so_some (se_op (os_addA _) (se_var 3) (se_int _)))) sa_nil))) (sg_name 2)))
      (ss_ret (se_var 2))))) sub rs KK ?_⟩
    clear KK rs sub hr
    replace hS := sp1_inv hS
    obtain ⟨x1, rfl, hS⟩ := hS
    obtain ⟨l, rfl, ne, dg, hl, hk⟩ := hS
    obtain ⟨p, hp⟩ : ∃ p : Nat, (p : Int) = -((l.length : Nat) : Int) % 64 := ⟨(-((l.length : Nat) : Int) % 64).toNat, by omega⟩
    obtain ⟨q, hq⟩ : ∃ q : Nat, p + l.length = 64 * q := ⟨(p + l.length) / 64, by omega⟩
    obtain ⟨L, hL⟩ : ∃ L, L = List.replicate p 48 ++ l := ⟨_, rfl⟩
    have Ldg : L.all isDg = true := by
      rw [hL, List.all_append, dg, Bool.and_true, List.all_eq_true]
      intro c hc
      rw [List.eq_of_mem_replicate hc]
      decide
    have Llen : L.length = 64 * q := by rw [hL, List.length_append, List.length_replicate]; omega
    refine ⟨by rw [S_len]; omega, (show (0 : Int) < 64 by decide), ?_⟩
    dsimp only
    rw [c_zero, S_len, ← hp]
    refine ⟨⟨by omega, by omega, by show 1 * _ ≤ _; rw [Int.toNat_natCast]; omega⟩, ?_⟩
    rw [Int.toNat_natCast, rep48]
    refine ⟨by rw [S_len, S_len, List.length_replicate]; omega, ?_⟩
    rw [S_cat, ← hL]
    refine ⟨by rw [S_len]; omega, q, by rw [S_len, Llen]; exact rg64 q (by omega), ?_⟩
    refine forL (fun t : Nat => .int (0 + (t : Nat) * 64)) (List.range q) (fun done e m => m = [] ∧ ∃ y3, e = [some (.d (.str (S l))), some (.d (.str (S L))), some (.d (.int (dv (L.take (64 * done.length))))), y3]) ⟨rfl, none, rfl⟩ (fun done x r e m hx hJ C hC => ?_) (fun e m hJ => ?_)
    · obtain ⟨rfl, y3, rfl⟩ := hJ
      obtain ⟨rfl, hd⟩ := range_at hx
      have at_ : (0 + (done.length : Int) * 64) = ((64 * done.length : Nat) : Int) := by omega
      have fit : 64 * done.length + 64 ≤ L.length := by omega
      have cdg : ((L.drop (64 * done.length)).take 64).all isDg = true := List.all_eq_true.mpr fun c hc => List.all_eq_true.mp Ldg c (List.mem_of_mem_drop (List.mem_of_mem_take hc))
      have clen : ((L.drop (64 * done.length)).take 64).length = 64 := by rw [List.length_take, List.length_drop]; omega
      have hc := hC [some (.d (.str (S l))), some (.d (.str (S L))), some (.d (.int (dv (L.take (64 * (done.length + 1)))))), some (.d (.int ((64 * done.length : Nat) : Int)))] [] ⟨rfl, _, by rw [List.length_append]; rfl⟩
      refine ⟨wide_mul (dv_lt2 (n := 10100) (List.all_eq_true.mpr fun c hc => List.all_eq_true.mp Ldg c (List.mem_of_mem_take hc)) (by rw [List.length_take]; omega)) (show _ < 2 ^ 300 by decide) (by decide) (by decide) (by decide), by rw [S_len]; omega, ?_⟩
      rw [at_]
      rw [show ((64 * done.length : Nat) : Int) + 64 = ((64 * done.length : Nat) : Int) + ((64 : Nat) : Int) from rfl, cut_S L _ 64 fit]
      refine ⟨_, int_S cdg (by intro z; rw [z] at clen; cases clen) (by omega), by rw [S_len, clen]; decide, ?_⟩
      have nx := dv_next fit
      show C [some (.d (.str (S l))), some (.d (.str (S L))), some (.d (.int (dv (L.take (64 * done.length)) * 10000000000000000000000000000000000000000000000000000000000000000 + dv ((L.drop (64 * done.length)).take 64)))), some (.d (.int ((64 * done.length : Nat) : Int)))] []
      rw [nx]
      exact hc
    · obtain ⟨rfl, y3, rfl⟩ := hJ
      show k (.d (.int (dv (L.take (64 * (List.range q).length)))))
      have e : dv (L.take (64 * (List.range q).length)) = dv l := by
        rw [List.length_range, List.take_of_length_le (by omega), hL]
        unfold dv
        rw [dv_zeros]
      rw [e]
      exact hk
abbrev S_parse_integer : SpP := sp1 fun a k => ∃ l : List Nat, a = .str (S l) ∧ l.length ≤ 10000 ∧ k (.d (optD (pI l)))
abbrev s_parse_integer : Stmt := topS 27
abbrev N_parse_integer : List Str := ["word", "digits"]
abbrev P_parse_integer : List Str := ["word"]
theorem sc_parse_integer : FnScope N_parse_integer P_parse_integer (defScope s_parse_integer) := ⟨rfl, rfl, rfl, by decide +kernel, rfl, by decide +kernel, by decide +kernel⟩
set_option maxHeartbeats 8000000 in
theorem okD_parse_integer (d : IsDef K mg "parse_integer" s_parse_integer P_parse_integer) (h_is_decimal : Ok P w K mg base 1 "is_decimal" s_is_decimal P_is_decimal (prP S_is_decimal)) (h_read_digits : Ok P w K mg base 1 "read_digits" s_read_digits P_read_digits (prP S_read_digits)) : Ok P w K mg base 2 "parse_integer" s_parse_integer P_parse_integer (prP S_parse_integer) := by
  obtain ⟨f0_, fd0_, D⟩ := d
  obtain ⟨f_is_decimal, fd_is_decimal, ⟨F_is_decimal, b_is_decimal, g_is_decimal⟩, G_is_decimal⟩ := h_is_decimal
  obtain ⟨f_read_digits, fd_read_digits, ⟨F_read_digits, b_read_digits, g_read_digits⟩, G_read_digits⟩ := h_read_digits
  refine ⟨f0_, fd0_, D, D.F.ok sc_parse_integer (fun vs H Q E h => ?_) (fun cdv A outer s H vs Q E hr h => ?_)⟩
  · obtain ⟨G, ds, k, _, rs, hS, _⟩ := h
    rw [rs.length]
    exact sp1_len hS
  · obtain ⟨G, ds, k, sub, rs, hS, KK⟩ := h
    refine ⟨_, (pss_cons (ps_if (pt_cmpR (show OpR _ _ (rEqA K) from op_eqA hr.units) (pv 0) pe_str (nomark _)) (pss_one (ps_ret pe_non)) pss_nil)
      (pss_cons (ps_set (i := 1) sc_parse_integer.nd rfl (.inl rfl) (pe_m1 PySem.F.slot_str_removeprefix PySem.F.type_str_removeprefix mt_removeprefix (pv 0) pe_str))
      (pss_cons (ps_if (pt_not (pt_val (pe_call G_is_decimal (hr.mono (by omega)) (by rfl) g_is_decimal F_is_decimal.kp b_is_decimal .nil pass0 (pa_cons (pv 1) pa_nil)))) (pss_one (ps_ret pe_non)) pss_nil)
      (pss_one (ps_ret (pe_ifExp (pt_cmpR (show OpR _ _ (rEqA K) from op_eqA hr.units) (pv 1) (pv 0) (nomark _)) (pe_call G_read_digits (hr.mono (by omega)) (by rfl) g_read_digits F_read_digits.kp b_read_digits .nil pass0 (pa_cons (pv 1) pa_nil)) (pe_un un_neg (pe_call G_read_digits (hr.mono (by omega)) (by rfl) g_read_digits F_read_digits.kp b_read_digits .nil pass0 (pa_cons (pv 1) pa_nil))))))))), runP (N := N_parse_integer) (ss_seq (ss_if (st_test (se_op (os_eq _) (se_var 0) (se_str _))) (ss_ret se_non) ss_nil)
      (ss_seq (ss_asg (se_rempre (se_var 0) (se_str _)) (sg_name 1))
      (ss_seq (ss_if (st_not (st_b (se_callP (sa_cons (se_var 1) sa_nil)))) (ss_ret se_non) ss_nil)
      (ss_ret (se_if (st_test (se_op (os_eq _) (se_var 1) (se_var 0))) (se_callP (sa_cons (se_var 1) sa_nil)) (se_un us_neg (se_callP (sa_cons (se_var 1) sa_nil)))))))) sub rs KK ?_⟩
    clear KK rs sub hr
    replace hS := sp1_inv hS
    obtain ⟨x1, rfl, hS⟩ := hS
    obtain ⟨l, rfl, hl, hk⟩ := hS
    rw [c_mzero, c_minus]
    refine ⟨trivial, fun z => ?_, fun z => ⟨by show (S l).length ≤ 1000000; rw [S_len]; omega, ?_⟩⟩
    all_goals rw [eqB_S] at z
    · have e : pI l = none := by unfold pI; rw [if_pos (of_decide_eq_true z)]
      rw [e] at hk
      exact hk
    · have e0 : ¬ (l = [45, 48]) := of_decide_eq_false z
      have er : Txt.removeprefix (S l) (S [45]) = S (unS l) := rempre_S l 45
      have ul : (unS l).length ≤ l.length := by unfold unS; split <;> simp
      have e1 : pI l = if isDec (unS l) = true then some (if unS l = l then dv (unS l) else -dv (unS l)) else none := by unfold pI; rw [if_neg e0]
      dsimp only [dgName]
      rw [er]
      refine ⟨_, rfl, fun z2 => ?_, fun z2 => ⟨trivial, fun z3 => ?_, fun z3 => ?_⟩⟩
      · have z2 : isDec (unS l) = false := by rw [Bool.not_eq_true'] at z2; exact z2
        rw [e1, z2, if_neg Bool.false_ne_true] at hk
        exact hk
      all_goals
        have z2 : isDec (unS l) = true := by rw [Bool.not_eq_false'] at z2; exact z2
        rw [e1, if_pos z2] at hk
        rw [eqB_S] at z3
        obtain ⟨d1, d2, d3⟩ := dec_inv z2
      · rw [if_pos (of_decide_eq_true z3)] at hk
        exact ⟨_, rfl, d2, d1, by omega, hk⟩
      · rw [if_neg (of_decide_eq_false z3)] at hk
        exact ⟨_, rfl, d2, d1, by omega, hk⟩
abbrev S_parse_fraction : SpP := sp1 fun a k => ∃ l : List Nat, a = .str (S l) ∧ l.length ≤ 10000 ∧ k (.d (optF (pF l)))
abbrev s_parse_fraction : Stmt := topS 28
abbrev N_parse_fraction : List Str := ["word", "top", "slash", "bottom", "numerator", "denominator", "fraction"]
abbrev P_parse_fraction : List Str := ["word"]
theorem sc_parse_fraction : FnScope N_parse_fraction P_parse_fraction (defScope s_parse_fraction) := ⟨rfl, rfl, rfl, by decide +kernel, rfl, by decide +kernel, by decide +kernel⟩
set_option maxHeartbeats 8000000 in
theorem okD_parse_fraction (d : IsDef K mg "parse_fraction" s_parse_fraction P_parse_fraction) (h_parse_integer : Ok P w K mg base 2 "parse_integer" s_parse_integer P_parse_integer (prP S_parse_integer)) (h_is_fraction : Ok P w K mg base 2 "is_fraction" s_is_fraction P_is_fraction (prP S_is_fraction)) : Ok P w K mg base 3 "parse_fraction" s_parse_fraction P_parse_fraction (prP S_parse_fraction) := by
  obtain ⟨f0_, fd0_, D⟩ := d
  obtain ⟨f_parse_integer, fd_parse_integer, ⟨F_parse_integer, b_parse_integer, g_parse_integer⟩, G_parse_integer⟩ := h_parse_integer
  obtain ⟨f_is_fraction, fd_is_fraction, ⟨F_is_fraction, b_is_fraction, g_is_fraction⟩, G_is_fraction⟩ := h_is_fraction
  refine ⟨f0_, fd0_, D, D.F.ok sc_parse_fraction (fun vs H Q E h => ?_) (fun cdv A outer s H vs Q E hr h => ?_)⟩
  · obtain ⟨G, ds, k, _, rs, hS, _⟩ := h
    rw [rs.length]
    exact sp1_len hS
  · obtain ⟨G, ds, k, sub, rs, hS, KK⟩ := h
    refine ⟨_, (pss_cons (ps_asg (pe_partition (pv 0) pe_str) (show PG _ _ (gTup K 3 _) from pg_tup (n := 3) (by rfl) (pgs_cons (pg_name (i := 1) sc_parse_fraction.nd rfl (.inl rfl)) (pgs_cons (pg_name (i := 2) sc_parse_fraction.nd rfl (.inl rfl)) (pgs_cons (pg_name (i := 3) sc_parse_fraction.nd rfl (.inl rfl)) pgs_nil)))))
      (pss_cons (ps_set (i := 4) sc_parse_fraction.nd rfl (.inl rfl) (pe_call G_parse_integer (hr.mono (by omega)) (by rfl) g_parse_integer F_parse_integer.kp b_parse_integer .nil pass0 (pa_cons (pv 1) pa_nil)))
      (pss_cons (ps_set (i := 5) sc_parse_fraction.nd rfl (.inl rfl) (pe_ifExp (pt_cmpR (show OpR _ _ (rEqA K) from op_eqA hr.units) (pv 2) pe_str (nomark _)) (pe_call G_parse_integer (hr.mono (by omega)) (by rfl) g_parse_integer F_parse_integer.kp b_parse_integer .nil pass0 (pa_cons (pv 3) pa_nil)) pe_int))
      (pss_cons (ps_if (PW.pt (pw_and (pt_cmpR (show OpR _ _ (rEqA K) from op_eqA hr.units) (pv 2) pe_str (nomark _)) (pw_and1 (pt_cmpR (show OpR _ _ (rEqA K) from op_eqA hr.units) (pv 5) pe_int (nomark _))))) (pss_one (ps_ret pe_non)) pss_nil)
      (pss_cons (ps_set (i := 6) sc_parse_fraction.nd rfl (.inl rfl) (pe_tup (pa_cons (pv 4) (pa_cons (pv 5) pa_nil))))
      (pss_one (ps_ret (pe_ifExp (pt_val (pe_call G_is_fraction (hr.mono (by omega)) (by rfl) g_is_fraction F_is_fraction.kp b_is_fraction .nil pass0 (pa_cons (pv 6) pa_nil))) (pv 6) pe_non)))))))), runP (N := N_parse_fraction) (ss_seq (ss_asg (se_part (se_var 0) (se_str _)) (sg_tup _ (sg_cons (sg_name 1) (sg_cons (sg_name 2) (sg_cons (sg_name 3) sg_nil)))))
      (ss_seq (ss_asg (se_callP (sa_cons (se_var 1) sa_nil)) (sg_name 4))
      (ss_seq (ss_asg (se_if (st_test (se_op (os_eq _) (se_var 2) (se_str _))) (se_callP (sa_cons (se_var 3) sa_nil)) (se_int _)) (sg_name 5))
      (ss_seq (ss_if (st_and (st_test (se_op (os_eq _) (se_var 2) (se_str _))) (st_test (se_op (os_eq _) (se_var 5) (se_int _)))) (ss_ret se_non) ss_nil)
      (ss_seq (ss_asg (se_tup (sa_cons (se_var 4) (sa_cons (se_var 5) sa_nil))) (sg_name 6))
      (ss_ret (se_if (st_b (se_callP (sa_cons (se_var 6) sa_nil))) (se_var 6) se_non))))))) sub rs KK ?_⟩
    clear KK rs sub hr
    replace hS := sp1_inv hS
    obtain ⟨x1, rfl, hS⟩ := hS
    obtain ⟨l, rfl, hl, hk⟩ := hS
    rw [c_slash]
    refine ⟨⟨by decide, by rw [S_len]; omega⟩, ?_⟩
    cases q : TL.par [47] [] l with
    | none =>
      have e : prtD (S l) (S [47]) = .tuple [.str (S l), .str (S []), .str (S [])] := by unfold prtD; rw [SX.partition_none (by decide) q]
      have ep : pF l = (pI l).map fun n => (n, 1) := by unfold pF; rw [q]
      rw [ep] at hk
      dsimp only
      rw [e]
      refine ⟨_, rfl, rfl, _, rfl, hl, trivial, (fun z => ?_), (fun _ => ?_)⟩
      · rw [eqB_S] at z; cases z
      · refine ⟨trivial, (fun z => ?_), (fun _ => ⟨(fun z => nomatch z), fun _ => ⟨by show 2 ≤ 1000000; decide, ?_⟩⟩)⟩
        · rw [eqB_S] at z; cases z
        · cases hp : pI l with
          | none =>
            rw [hp] at hk
            exact ⟨(fun z => nomatch z), fun _ => hk⟩
          | some n =>
            rw [hp] at hk
            have fr : isFr (fd (n, 1)) = true := isFr_iff.mpr ⟨(n, 1), rfl, by show (0 : Int) < 1; decide, by show Int.gcd n 1 = 1; simp⟩
            exact ⟨fun _ => hk, fun z => by rw [show isFr (.tuple [optD (some n), .int 1]) = true from fr] at z; cases z⟩
    | some ab =>
      obtain ⟨a, b⟩ := ab
      have e : prtD (S l) (S [47]) = .tuple [.str (S a), .str (S [47]), .str (S b)] := by unfold prtD; rw [SX.partition_some (by decide) q]
      have le : a.length ≤ 10000 ∧ b.length ≤ 10000 := by
        have := par_len q
        rw [List.length_nil] at this
        omega
      have ep : pF l = match pI a, pI b with
        | some n, some d => if d ≠ 1 ∧ isFr (fd (n, d)) = true then some (n, d) else none
        | _, _ => none := by
        unfold pF; rw [q] <;> rfl
      rw [ep] at hk
      dsimp only
      rw [e]
      refine ⟨_, rfl, rfl, _, rfl, le.1, trivial, (fun _ => ⟨_, rfl, le.2, trivial, fun _ => ?_, fun z => by rw [eqB_S] at z; cases z⟩), (fun z => by rw [eqB_S] at z; cases z)⟩
      cases hb : pI b with
      | none =>
        have hk : k (.d .none) := by rw [hb] at hk; cases ha : pI a <;> rw [ha] at hk <;> exact hk
        refine ⟨⟨rfl, rfl⟩, (fun z => nomatch (show false = true from z)), fun _ => ⟨by show 2 ≤ 1000000; decide, ?_⟩⟩
        have no : isFr (.tuple [optD (pI a), .none]) = false := by cases pI a <;> rfl
        exact ⟨(fun z => by rw [show isFr (.tuple [optD (pI a), optD none]) = false from no] at z; cases z), fun _ => hk⟩
      | some d =>
        rw [hb] at hk
        refine ⟨trivial, fun z => ?_, fun z => ⟨by show 2 ≤ 1000000; decide, ?_⟩⟩
        · have z : d = 1 := of_decide_eq_true z
          have hk : k (.d .none) := by
            cases ha : pI a with
            | none => rw [ha] at hk; exact hk
            | some n =>
              rw [ha] at hk
              dsimp only at hk
              rw [if_neg (by rintro ⟨w, _⟩; exact w z)] at hk
              exact hk
          exact hk
        · have z : ¬ d = 1 := of_decide_eq_false z
          cases ha : pI a with
          | none =>
            rw [ha] at hk
            exact ⟨(fun z => nomatch z), fun _ => hk⟩
          | some n =>
            rw [ha] at hk
            dsimp only at hk
            refine ⟨fun w => ?_, fun w => ?_⟩
            · have w : isFr (fd (n, d)) = true := w
              rw [if_pos ⟨z, w⟩] at hk
              exact hk
            · have w : isFr (fd (n, d)) = false := w
              rw [if_neg (by rintro ⟨_, v⟩; rw [w] at v; cases v)] at hk
              exact hk
end
end PM

set_option maxHeartbeats 2100000
namespace PM
open PySem PySem.Spec PyProof.Rows L2 RZ
open PySem.Sem (wp)
/-! ### sequences of both kinds and what walks them -/
def SIt (t : Bool) (h : Heap) (a l : Addr) (i : Nat) : Prop := if t = true then h.IsTupleIter a l i else h.IsListIter a l i
def SSq (t : Bool) (h : Heap) (l : Addr) (xs : Array Value) : Prop := if t = true then h.IsTuple l xs else h.IsList l xs
theorem SIt.ext {t : Bool} {h g : Heap} {a b l : Addr} {i : Nat} (x : SIt t h a l i) (e : Heap.ExtBut b h g) (ne : a ≠ b) : SIt t g a l i := by
  cases t with
  | true => exact Heap.IsTupleIter.extBut x e ne
  | false => exact Heap.IsListIter.extBut x e ne
theorem SSq.ext {t : Bool} {h g : Heap} {b l : Addr} {xs : Array Value} (x : SSq t h l xs) (e : Heap.ExtBut b h g) (ne : l ≠ b) : SSq t g l xs := by
  cases t with
  | true => exact Heap.IsTuple.extBut x e ne
  | false => exact Heap.IsList.extBut x e ne
theorem SIt.to {t : Bool} {h g : Heap} {a l : Addr} {i : Nat} (x : SIt t h a l i) (e : ∀ o, h.get? a = some o → g.get? a = some o) : SIt t g a l i := by
  cases t with
  | true => exact Heap.IsTupleIter.at x e
  | false => exact Heap.IsListIter.at x e
theorem SIt.obj {t : Bool} {h : Heap} {a l : Addr} {i : Nat} (x : SIt t h a l i) : ∃ ob, h.get? a = some ob ∧ ∀ v, ob.data ≠ .cell v := by
  cases t with
  | true =>
    obtain ⟨ob, h1, _, h3⟩ := (show h.IsTupleIter a l i from x)
    exact ⟨ob, h1, fun v z => by rw [h3] at z; cases z⟩
  | false =>
    obtain ⟨ob, h1, _, h3⟩ := (show h.IsListIter a l i from x)
    exact ⟨ob, h1, fun v z => by rw [h3] at z; cases z⟩
theorem SSq.lt {t : Bool} {h : Heap} {l : Addr} {xs : Array Value} (x : SSq t h l xs) : l < h.objs.size := by
  cases t with
  | true =>
    obtain ⟨ob, h1, _⟩ := (show h.IsTuple l xs from x)
    exact Heap.lt_size h1
  | false =>
    obtain ⟨ob, h1, _⟩ := (show h.IsList l xs from x)
    exact Heap.lt_size h1
theorem SSq.push {t : Bool} {h : Heap} {l : Addr} {xs : Array Value} (x : SSq t h l xs) (ob : Obj) : SSq t (h.push ob) l xs := by
  cases t with
  | true => exact Heap.IsTuple.push x ob
  | false => exact Heap.IsList.push x ob
def itO (t : Bool) (l : Addr) : Obj := { cls := .type (if t then "tuple_iterator" else "list_iterator"), data := .fields #[.ref l, .int 0 0] }
abbrev IsT (h : Heap) (T : Addr) (vs : Array Value) : Prop := h.get? T = some { cls := .type "tuple", data := .seq vs }
section
variable {s : Shared} {prog : Program} {w : World} {A : Around} {E : Value → Shared → Prop}
theorem nextS_item {t : Bool} {a l : Addr} {i : Nat} {xs : Array Value} {x : Value} {Q : Value → Shared → Prop} (h1 : SIt t s.heap a l i) (h2 : SSq t s.heap l xs) (hx : xs[i]? = some x)
    (k : ∀ g, SIt t g a l (i + 1) → Heap.SameBut a s.heap g → Q x { s with heap := g }) : wpAny (model prog w) A (Builtin.SmallTypes.nextOf (.ref a)) Q E s := by
  cases t with
  | true => exact nextOf_tuple_item h1 h2 hx k
  | false => exact wpAny_nextOf_list_item h1 h2 hx k
theorem nextS_end {t : Bool} {a l : Addr} {i : Nat} {xs : Array Value} {Q : Value → Shared → Prop} (hh : A.handled = none) (h1 : SIt t s.heap a l i) (h2 : SSq t s.heap l xs) (hx : xs[i]? = none)
    (k : ∀ g e, Heap.ExtBut a s.heap g → (∃ ob, g.get? e = some ob ∧ ob.cls = .type "StopIteration") → E (.ref e) { s with heap := g }) : wpAny (model prog w) A (Builtin.SmallTypes.nextOf (.ref a)) Q E s := by
  cases t with
  | true => exact nextOf_tuple_end hh h1 h2 hx k
  | false => exact wpAny_nextOf_list_end hh h1 h2 hx k
theorem pyIterS {t : Bool} {l : Addr} {xs : Array Value} {Q : Value → Shared → Prop} (q : SSq t s.heap l xs) (k : Q (.ref s.heap.objs.size) { s with heap := s.heap.push (itO t l) }) : wpAny (model prog w) A (pyIter (.ref l)) Q E s := by
  cases t with
  | true => exact wpAny_pyIter_tuple q k
  | false => exact wpAny_pyIter_list q k
theorem updT {T : Addr} {vs : Array Value} {x : Value} {j : Nat} {Q : Unit → Shared → Prop} (hT : IsT s.heap T vs) (sm : vs.size ≤ 8)
    (k : ∀ g, IsT g T (vs.setIfInBounds j x) → Heap.SameBut T s.heap g → Q () { s with heap := g }) : wpAny (model prog w) A (updateSeq T (·.setIfInBounds j x)) Q E s := by
  refine wpAny_updateSeq hT rfl (k _ ?_ (Heap.SameBut.update ..)) (Nat.le_trans sm (by decide)) (by rw [Array.size_setIfInBounds]; exact Nat.le_trans sm (by decide))
  unfold IsT
  rw [Heap.get?_update_self _ hT rfl]; simp [Obj.mapSeq]
abbrev Kp (L : List Addr) (h g : Heap) : Prop := ∀ c ob, c ∉ L → h.get? c = some ob → g.get? c = some ob
theorem Kp.step {L : List Addr} {h g g' : Heap} {a : Addr} (k : Kp L h g) (e : Heap.ExtBut a g g') (m : a ∈ L) : Kp L h g' := fun c ob hc x => e c ob (fun z => hc (z ▸ m)) (k c ob hc x)
end
/-! ### zip of 2 -/
structure Ap2 (z tI tO i1 i2 l1 l2 : Addr) : Prop where
  z_tI : z ≠ tI
  z_tO : z ≠ tO
  z_i1 : z ≠ i1
  z_i2 : z ≠ i2
  tI_z : tI ≠ z
  tI_tO : tI ≠ tO
  tI_i1 : tI ≠ i1
  tI_i2 : tI ≠ i2
  tO_z : tO ≠ z
  tO_tI : tO ≠ tI
  tO_i1 : tO ≠ i1
  tO_i2 : tO ≠ i2
  i1_z : i1 ≠ z
  i1_tI : i1 ≠ tI
  i1_tO : i1 ≠ tO
  i1_i2 : i1 ≠ i2
  i2_z : i2 ≠ z
  i2_tI : i2 ≠ tI
  i2_tO : i2 ≠ tO
  i2_i1 : i2 ≠ i1
  l1_z : l1 ≠ z
  l1_tO : l1 ≠ tO
  l1_i1 : l1 ≠ i1
  l1_i2 : l1 ≠ i2
  l2_z : l2 ≠ z
  l2_tO : l2 ≠ tO
  l2_i1 : l2 ≠ i1
  l2_i2 : l2 ≠ i2
section
variable {s : Shared} {prog : Program} {w : World} {A : Around} {E : Value → Shared → Prop}
theorem zz2_item {z tI tO i1 i2 l1 l2 : Addr} {k : Nat} {t1 t2 : Bool} {xs1 xs2 : Array Value} {x1 x2 : Value} {ov : Array Value} {Q : Value → Shared → Prop} (D : Ap2 z tI tO i1 i2 l1 l2) (Z : IsZip s.heap z tI tO .none) (NI : IsT s.heap tI #[.ref i1, .ref i2]) (NO : IsT s.heap tO ov) (ol : ov.size = 2) (G1 : SIt t1 s.heap i1 l1 k) (S1 : SSq t1 s.heap l1 xs1) (G2 : SIt t2 s.heap i2 l2 k) (S2 : SSq t2 s.heap l2 xs2) (e1 : xs1[k]? = some x1) (e2 : xs2[k]? = some x2)
    (fin : ∀ g, IsZip g z tI tO (rawInt s.heap.objs.size) → IsT g tO #[x1, x2] → SIt t1 g i1 l1 (k + 1) → SIt t2 g i2 l2 (k + 1) → IsT g s.heap.objs.size #[x1, x2] → g.objs.size = s.heap.objs.size + 1 → Kp [z, tO, i1, i2] s.heap g → Q (.ref s.heap.objs.size) { s with heap := g }) :
    wpAny (model prog w) A (Builtin.«zip.__next__» ⟨[.ref z], []⟩) (fun fi s2 => ∃ v, fi = .done (.ret v) ∧ Q v s2) E s := by
  show wpAny _ _ (field (.ref z) 2 >>= fun _ => _) _ _ _; refine wpAny_bind (wpAny_field Z rfl (x := .bool false) rfl ?_)
  show wpAny _ _ (field (.ref z) 3 >>= fun _ => _) _ _ _; refine wpAny_bind (wpAny_field Z rfl (x := .ref tI) rfl ?_)
  refine wpAny_bind (wpAny_seqItems NI rfl ?_); show wpAny _ _ (Builtin.SmallTypes.ownedTupleIsFree (.ref z) >>= fun _ => _) _ _ _
  refine wpAny_bind ?_; unfold Builtin.SmallTypes.ownedTupleIsFree; refine wpAny_bind (wpAny_field Z rfl (x := .none) rfl (wpAny_pure ?_))
  simp only [if_true]; refine wpAny_bind (wpAny_rule ?_); refine wpAny_bind (wpAny_field Z rfl (x := .ref tO) rfl ?_)
  refine wpAny_bind (wpAny_setField_rec Z (by simp) fun h0 Z0 B0 => ?_); replace Z0 : IsZip h0 z tI tO .ellipsis := Z0
  have K0 : Kp [z, tO, i1, i2] s.heap h0 := fun c ob hc x => B0.extBut c ob (fun z => hc (by simp [z])) x
  have NO0 := B0.extBut _ _ D.tO_z NO
  have G1_0 := G1.ext B0.extBut D.i1_z; have S1_0 := S1.ext B0.extBut D.l1_z
  have G2_0 := G2.ext B0.extBut D.i2_z; have S2_0 := S2.ext B0.extBut D.l2_z
  refine wpAny_bind ?_; simp only [List.zipIdx_cons, List.zipIdx_nil, List.forIn_cons, List.forIn_nil]
  refine wpAny_bind (wpAny_bind (wpAny_onRaise ?_)); show wpAny _ _ (Builtin.SmallTypes.nextOf (.ref i1) >>= fun _ => _) _ _ _
  refine wpAny_bind (nextS_item G1_0 S1_0 e1 fun h1 H1 B1 => wpAny_pure ?_)
  have NO1 := B1.extBut _ _ D.tO_i1 NO0; have Z1 := B1.extBut _ _ D.z_i1 Z0; have K1 := K0.step B1.extBut (by simp)
  have G1_1 := H1; have S1_1 := S1_0.ext B1.extBut D.l1_i1
  have G2_1 := G2_0.ext B1.extBut D.i2_i1; have S2_1 := S2_0.ext B1.extBut D.l2_i1
  refine wpAny_bind (wpAny_seqItems NO1 rfl ?_); refine wpAny_bind (updT NO1 (by first | (rw [ol]; decide) | (simp only [Array.size_setIfInBounds, ol]; decide)) fun h2 NO2 B2 => ?_)
  have Z2 := B2.extBut _ _ D.z_tO Z1; have K2 := K1.step B2.extBut (by simp)
  have G1_2 := G1_1.ext B2.extBut D.i1_tO; have S1_2 := S1_1.ext B2.extBut D.l1_tO
  have G2_2 := G2_1.ext B2.extBut D.i2_tO; have S2_2 := S2_1.ext B2.extBut D.l2_tO
  refine wpAny_bind (wpAny_letGo (wpAny_pure ?_)) -- 2
  refine wpAny_bind (wpAny_bind (wpAny_onRaise ?_)); show wpAny _ _ (Builtin.SmallTypes.nextOf (.ref i2) >>= fun _ => _) _ _ _
  refine wpAny_bind (nextS_item G2_2 S2_2 e2 fun h3 H3 B3 => wpAny_pure ?_)
  have NO3 := B3.extBut _ _ D.tO_i2 NO2; have Z3 := B3.extBut _ _ D.z_i2 Z2; have K3 := K2.step B3.extBut (by simp)
  have G1_3 := G1_2.ext B3.extBut D.i1_i2; have S1_3 := S1_2.ext B3.extBut D.l1_i2
  have G2_3 := H3; have S2_3 := S2_2.ext B3.extBut D.l2_i2
  refine wpAny_bind (wpAny_seqItems NO3 rfl ?_); refine wpAny_bind (updT NO3 (by first | (rw [ol]; decide) | (simp only [Array.size_setIfInBounds, ol]; decide)) fun h4 NO4 B4 => ?_)
  have Z4 := B4.extBut _ _ D.z_tO Z3; have K4 := K3.step B4.extBut (by simp)
  have G1_4 := G1_3.ext B4.extBut D.i1_tO; have S1_4 := S1_3.ext B4.extBut D.l1_tO
  have G2_4 := G2_3.ext B4.extBut D.i2_tO; have S2_4 := S2_3.ext B4.extBut D.l2_tO
  refine wpAny_bind (wpAny_letGo (wpAny_pure (wpAny_pure ?_))) -- 2
  have vals : ((ov.setIfInBounds 0 x1).setIfInBounds 1 x2) = #[x1, x2] := by
    obtain ⟨vl⟩ := ov
    match vl, ol with
    | [_, _], _ => rfl
  rw [vals] at NO4
  refine wpAny_bind (wpAny_seqItems NO4 rfl ?_); refine wpAny_bind (wpAny_newTuple ?_)
  have sz : h4.objs.size = s.heap.objs.size := by rw [B4.1, B3.1, B2.1, B1.1, B0.1]
  have zl : z < h4.objs.size := Heap.lt_size Z4
  show wpAny _ _ (Builtin.SmallTypes.ownedTupleHandOut (.ref z) (.ref h4.objs.size) >>= fun _ => _) _ _ _
  refine wpAny_bind ?_; unfold Builtin.SmallTypes.ownedTupleHandOut
  have ZZ : IsZip (h4.push { cls := .type "tuple", data := .seq #[x1, x2] }) z tI tO .ellipsis := Heap.get?_push_of_some _ Z4
  refine wpAny_bind (wpAny_setField_rec ZZ (by simp) fun hA ZA BA => ?_); replace ZA : IsZip hA z tI tO (rawInt h4.objs.size) := ZA
  refine wpAny_setField_rec ZA (by simp) fun hB ZB BB => ?_; replace ZB : IsZip hB z tI tO (rawInt h4.objs.size) := ZB
  have up : ∀ b ob, b ≠ z → h4.get? b = some ob → hB.get? b = some ob := fun b ob nb e => BB.extBut _ _ nb (BA.extBut _ _ nb (Heap.get?_push_of_some _ e))
  have TB : IsT hB h4.objs.size #[x1, x2] := BB.extBut _ _ (Nat.ne_of_gt zl) (BA.extBut _ _ (Nat.ne_of_gt zl) (Heap.get?_push_size _ rfl))
  have sB : hB.objs.size = h4.objs.size + 1 := by rw [BB.1, BA.1, Heap.size_push]
  rw [sz] at ZB TB sB
  refine wpAny_pure ⟨_, rfl, ?_⟩; show Q (.ref h4.objs.size) _; rw [sz]
  exact fin hB ZB (up _ _ D.tO_z NO4) (G1_4.to fun ob e => up _ ob D.i1_z e) (G2_4.to fun ob e => up _ ob D.i2_z e) TB sB fun b ob hb e => up b ob (fun q => hb (by simp [q])) (K4 b ob hb e)
theorem zz2_end {z tI tO i1 i2 l1 l2 : Addr} {k : Nat} {t1 t2 : Bool} {xs1 xs2 : Array Value} {ov : Array Value} {Q : Fin → Shared → Prop} (hh : A.handled = none) (D : Ap2 z tI tO i1 i2 l1 l2) (Z : IsZip s.heap z tI tO .none) (NI : IsT s.heap tI #[.ref i1, .ref i2]) (NO : IsT s.heap tO ov) (ol : ov.size = 2) (G1 : SIt t1 s.heap i1 l1 k) (S1 : SSq t1 s.heap l1 xs1) (G2 : SIt t2 s.heap i2 l2 k) (S2 : SSq t2 s.heap l2 xs2) (en : xs1[k]? = none ∨ xs2[k]? = none)
    (fin : ∀ g e, Kp [z, tO, i1, i2] s.heap g → (∃ ob, g.get? e = some ob ∧ ob.cls = .type "StopIteration") → E (.ref e) { s with heap := g }) : wpAny (model prog w) A (Builtin.«zip.__next__» ⟨[.ref z], []⟩) Q E s := by
  show wpAny _ _ (field (.ref z) 2 >>= fun _ => _) _ _ _; refine wpAny_bind (wpAny_field Z rfl (x := .bool false) rfl ?_)
  show wpAny _ _ (field (.ref z) 3 >>= fun _ => _) _ _ _; refine wpAny_bind (wpAny_field Z rfl (x := .ref tI) rfl ?_)
  refine wpAny_bind (wpAny_seqItems NI rfl ?_); show wpAny _ _ (Builtin.SmallTypes.ownedTupleIsFree (.ref z) >>= fun _ => _) _ _ _
  refine wpAny_bind ?_; unfold Builtin.SmallTypes.ownedTupleIsFree; refine wpAny_bind (wpAny_field Z rfl (x := .none) rfl (wpAny_pure ?_))
  simp only [if_true]; refine wpAny_bind (wpAny_rule ?_); refine wpAny_bind (wpAny_field Z rfl (x := .ref tO) rfl ?_)
  refine wpAny_bind (wpAny_setField_rec Z (by simp) fun h0 Z0 B0 => ?_); replace Z0 : IsZip h0 z tI tO .ellipsis := Z0
  have K0 : Kp [z, tO, i1, i2] s.heap h0 := fun c ob hc x => B0.extBut c ob (fun z => hc (by simp [z])) x
  have NO0 := B0.extBut _ _ D.tO_z NO
  have G1_0 := G1.ext B0.extBut D.i1_z; have S1_0 := S1.ext B0.extBut D.l1_z
  have G2_0 := G2.ext B0.extBut D.i2_z; have S2_0 := S2.ext B0.extBut D.l2_z
  refine wpAny_bind ?_; simp only [List.zipIdx_cons, List.zipIdx_nil, List.forIn_cons, List.forIn_nil]
  cases e1 : xs1[k]? with
  | none =>
    refine wpAny_bind (wpAny_bind (wpAny_onRaise ?_)); show wpAny _ _ (Builtin.SmallTypes.nextOf (.ref i1) >>= fun _ => _) _ _ _
    refine wpAny_bind (nextS_end hh G1_0 S1_0 e1 fun g e B he => ?_); obtain ⟨oe, hoe, hce⟩ := he
    have ZE : IsZip g z tI tO .ellipsis := B _ _ D.z_i1 Z0; have ez : e ≠ z := fun x => by subst x; rw [ZE] at hoe; cases hoe; simp at hce
    refine wpAny_setField_rec ZE (by simp) fun g2 _ B2 => fin g2 e ((K0.step B (by simp)).step B2.extBut (by simp)) ⟨oe, B2.extBut _ _ ez hoe, hce⟩
  | some x1 =>
    refine wpAny_bind (wpAny_bind (wpAny_onRaise ?_)); show wpAny _ _ (Builtin.SmallTypes.nextOf (.ref i1) >>= fun _ => _) _ _ _
    refine wpAny_bind (nextS_item G1_0 S1_0 e1 fun h1 H1 B1 => wpAny_pure ?_)
    have NO1 := B1.extBut _ _ D.tO_i1 NO0; have Z1 := B1.extBut _ _ D.z_i1 Z0; have K1 := K0.step B1.extBut (by simp)
    have G1_1 := H1; have S1_1 := S1_0.ext B1.extBut D.l1_i1
    have G2_1 := G2_0.ext B1.extBut D.i2_i1; have S2_1 := S2_0.ext B1.extBut D.l2_i1
    refine wpAny_bind (wpAny_seqItems NO1 rfl ?_); refine wpAny_bind (updT NO1 (by first | (rw [ol]; decide) | (simp only [Array.size_setIfInBounds, ol]; decide)) fun h2 NO2 B2 => ?_)
    have Z2 := B2.extBut _ _ D.z_tO Z1; have K2 := K1.step B2.extBut (by simp)
    have G1_2 := G1_1.ext B2.extBut D.i1_tO; have S1_2 := S1_1.ext B2.extBut D.l1_tO
    have G2_2 := G2_1.ext B2.extBut D.i2_tO; have S2_2 := S2_1.ext B2.extBut D.l2_tO
    refine wpAny_bind (wpAny_letGo (wpAny_pure ?_)) -- 2
    cases e2 : xs2[k]? with
    | none =>
      refine wpAny_bind (wpAny_bind (wpAny_onRaise ?_)); show wpAny _ _ (Builtin.SmallTypes.nextOf (.ref i2) >>= fun _ => _) _ _ _
      refine wpAny_bind (nextS_end hh G2_2 S2_2 e2 fun g e B he => ?_); obtain ⟨oe, hoe, hce⟩ := he
      have ZE : IsZip g z tI tO .ellipsis := B _ _ D.z_i2 Z2; have ez : e ≠ z := fun x => by subst x; rw [ZE] at hoe; cases hoe; simp at hce
      refine wpAny_setField_rec ZE (by simp) fun g2 _ B2 => fin g2 e ((K2.step B (by simp)).step B2.extBut (by simp)) ⟨oe, B2.extBut _ _ ez hoe, hce⟩
    | some x2 =>
      rcases en with q | q
      · rw [e1] at q; cases q
      · rw [e2] at q; cases q
theorem nx2_item {z tI tO i1 i2 l1 l2 : Addr} {k : Nat} {t1 t2 : Bool} {xs1 xs2 : Array Value} {x1 x2 : Value} {ov : Array Value} {Q : Option Value → Shared → Prop} (D : Ap2 z tI tO i1 i2 l1 l2) (Z : IsZip s.heap z tI tO .none) (NI : IsT s.heap tI #[.ref i1, .ref i2]) (NO : IsT s.heap tO ov) (ol : ov.size = 2) (G1 : SIt t1 s.heap i1 l1 k) (S1 : SSq t1 s.heap l1 xs1) (G2 : SIt t2 s.heap i2 l2 k) (S2 : SSq t2 s.heap l2 xs2) (e1 : xs1[k]? = some x1) (e2 : xs2[k]? = some x2)
    (fin : ∀ g, IsZip g z tI tO (rawInt s.heap.objs.size) → IsT g tO #[x1, x2] → SIt t1 g i1 l1 (k + 1) → SIt t2 g i2 l2 (k + 1) → IsT g s.heap.objs.size #[x1, x2] → g.objs.size = s.heap.objs.size + 1 → Kp [z, tO, i1, i2] s.heap g → Q (some (.ref s.heap.objs.size)) { s with heap := g }) : wpAny (model prog w) A (pyNext (.ref z)) Q E s := by
  have ty : s.TypeIs (.ref z) "zip" := ⟨_, Z, rfl⟩; unfold pyNext
  exact wpAny_bind (wpAny_attempt (wpAny_callSpecial?_slot (name := Str.ofString "__next__") ty F.slot_zip_next (wpAny_call_entry F.slot_zip_next ty F.entry_zip_next (zz2_item D Z NI NO ol G1 S1 G2 S2 e1 e2 fun g p0 p1 p2 p3 p4 p5 p6 => wpAny_pure (fin g p0 p1 p2 p3 p4 p5 p6)) (F.args_zip_next_1 _))))
theorem nx2_end {z tI tO i1 i2 l1 l2 : Addr} {k : Nat} {t1 t2 : Bool} {xs1 xs2 : Array Value} {ov : Array Value} {Q : Option Value → Shared → Prop} (hh : A.handled = none) (D : Ap2 z tI tO i1 i2 l1 l2) (Z : IsZip s.heap z tI tO .none) (NI : IsT s.heap tI #[.ref i1, .ref i2]) (NO : IsT s.heap tO ov) (ol : ov.size = 2) (G1 : SIt t1 s.heap i1 l1 k) (S1 : SSq t1 s.heap l1 xs1) (G2 : SIt t2 s.heap i2 l2 k) (S2 : SSq t2 s.heap l2 xs2) (en : xs1[k]? = none ∨ xs2[k]? = none)
    (fin : ∀ g, Kp [z, tO, i1, i2] s.heap g → Q none { s with heap := g }) : wpAny (model prog w) A (pyNext (.ref z)) Q E s := by
  have ty : s.TypeIs (.ref z) "zip" := ⟨_, Z, rfl⟩; unfold pyNext
  refine wpAny_bind (wpAny_attempt (wpAny_callSpecial?_slot (name := Str.ofString "__next__") ty F.slot_zip_next (wpAny_call_entry F.slot_zip_next ty F.entry_zip_next (zz2_end hh D Z NI NO ol G1 S1 G2 S2 en fun g e kp he => ?_) (F.args_zip_next_1 _))))
  obtain ⟨ob, hob, hcl⟩ := he; exact wpAny_bind (wpAny_isInstance (T := "StopIteration") (b := true) ⟨ob, hob, hcl⟩ isSubtype_stop (wpAny_pure (fin _ kp)))
end
abbrev zm2_1 (h : Heap) (t1 : Bool) (l1 : Addr) : Heap := h.push (itO t1 l1)
abbrev zm2_2 (h : Heap) (t1 : Bool) (t2 : Bool) (l1 : Addr) (l2 : Addr) : Heap := (zm2_1 h t1 l1).push (itO t2 l2)
abbrev zmI2 (h : Heap) (t1 : Bool) (t2 : Bool) (l1 : Addr) (l2 : Addr) : Heap := (zm2_2 h t1 t2 l1 l2).push { cls := .type "tuple", data := .seq #[.ref h.objs.size, .ref (zm2_1 h t1 l1).objs.size] }
abbrev zmO2 (h : Heap) (t1 : Bool) (t2 : Bool) (l1 : Addr) (l2 : Addr) : Heap := (zmI2 h t1 t2 l1 l2).push { cls := .type "tuple", data := .seq #[.none, .none] }
abbrev zmZ2 (h : Heap) (t1 : Bool) (t2 : Bool) (l1 : Addr) (l2 : Addr) : Heap := (zmO2 h t1 t2 l1 l2).push { cls := .type "zip", data := .fields #[.none, .bool false, .bool false, .ref (zm2_2 h t1 t2 l1 l2).objs.size, .ref (zmI2 h t1 t2 l1 l2).objs.size] }
theorem zm2_new (t1 : Bool) (t2 : Bool) (l1 : Addr) (l2 : Addr) (xs1 xs2 : Array Value) : Meets (Builtin.«zip.__new__» ⟨[.type "zip", .ref l1, .ref l2], []⟩) (fun _ R s => SSq t1 s.heap l1 xs1 ∧ SSq t2 s.heap l2 xs2 ∧ R (.ok (.ret (.ref (zmO2 s.heap t1 t2 l1 l2).objs.size))) { s with heap := zmZ2 s.heap t1 t2 l1 l2 }) :=
  Meets.of_wp fun prog w A R s h => by
    obtain ⟨hp, gl, dd, tk, os⟩ := s; obtain ⟨q1, q2, h⟩ := h; have su := sub_zip
    have Q1 : SSq t1 (Shared.heap ⟨hp, gl, dd, tk, os⟩) l1 xs1 := q1
    have Q2 : SSq t2 (Shared.heap ⟨(hp).push (itO t1 l1), gl, dd, tk, os⟩) l2 xs2 := (SSq.push q2 _)
    wp_walk using pyIterS Q1, pyIterS Q2
    exact ⟨_, rfl, h⟩
theorem zm2_t (a1 a2 : Value) : checkTypeCall "zip" ⟨[a1, a2], []⟩ = pure () := by kernel_rfl
theorem zm2_n (a1 a2 : Value) : checkBuiltinCall "zip.__new__" ⟨[.type "zip", a1, a2], []⟩ = pure () := by kernel_rfl
theorem zm2_i (b a1 a2 : Value) : argsOk "object.__init__" ⟨[b, a1, a2], []⟩ := by
  unfold argsOk; rw [signature?_of (id := "object.__init__") (n := ['_', '_', 't', 'i', 'n', 'i', '_', '_']) (o := ['t', 'c', 'e', 'j', 'b', 'o']) (by kernel_rfl) F.owner_object]; kernel_rfl
section
variable {s : Shared} {prog : Program} {w : World} {A : Around} {E : Value → Shared → Prop}
theorem zm2_call {t1 t2 : Bool} {l1 l2 : Addr} {xs1 xs2 : Array Value} {Q : Value → Shared → Prop} (q1 : SSq t1 s.heap l1 xs1) (q2 : SSq t2 s.heap l2 xs2)
    (fin : ∀ g, IsZip g (s.heap.objs.size + 4) (s.heap.objs.size + 2) (s.heap.objs.size + 3) .none → IsT g (s.heap.objs.size + 2) #[.ref s.heap.objs.size, .ref (s.heap.objs.size + 1)] → IsT g (s.heap.objs.size + 3) #[.none, .none] → SIt t1 g s.heap.objs.size l1 0 → SIt t2 g (s.heap.objs.size + 1) l2 0 → g.objs.size = s.heap.objs.size + 5 → (∀ c ob, s.heap.get? c = some ob → g.get? c = some ob) → Q (.ref (s.heap.objs.size + 4)) { s with heap := g }) :
      wpAny (model prog w) A (call (.type "zip") [.ref l1, .ref l2]) Q E s := by -- 2
  refine callType_new F.called_zip (by decide) (zm2_t _ _) (zm2_n _ _) (fun ob => zm2_i ob _ _) F.entry_zip_new (zm2_new t1 t2 l1 l2 xs1 xs2) ⟨q1, q2, ?_⟩
  have y1 : (zm2_1 s.heap t1 l1).objs.size = s.heap.objs.size + 1 := by rw [Heap.size_push]
  have y2 : (zm2_2 s.heap t1 t2 l1 l2).objs.size = s.heap.objs.size + 2 := by rw [Heap.size_push, y1]
  have y3 : (zmI2 s.heap t1 t2 l1 l2).objs.size = s.heap.objs.size + 3 := by rw [Heap.size_push, y2]
  have y4 : (zmO2 s.heap t1 t2 l1 l2).objs.size = s.heap.objs.size + 4 := by rw [Heap.size_push, y3]
  have y5 : (zmZ2 s.heap t1 t2 l1 l2).objs.size = s.heap.objs.size + 5 := by rw [Heap.size_push, y4]
  have g0 : (zmZ2 s.heap t1 t2 l1 l2).get? s.heap.objs.size = some _ := Heap.get?_push_of_some _ (Heap.get?_push_of_some _ (Heap.get?_push_of_some _ (Heap.get?_push_of_some _ (Heap.get?_push_size _ rfl))))
  have g1 : (zmZ2 s.heap t1 t2 l1 l2).get? (zm2_1 s.heap t1 l1).objs.size = some _ := Heap.get?_push_of_some _ (Heap.get?_push_of_some _ (Heap.get?_push_of_some _ (Heap.get?_push_size _ rfl)))
  have g2 : (zmZ2 s.heap t1 t2 l1 l2).get? (zm2_2 s.heap t1 t2 l1 l2).objs.size = some _ := Heap.get?_push_of_some _ (Heap.get?_push_of_some _ (Heap.get?_push_size _ rfl))
  have g3 : (zmZ2 s.heap t1 t2 l1 l2).get? (zmI2 s.heap t1 t2 l1 l2).objs.size = some _ := Heap.get?_push_of_some _ (Heap.get?_push_size _ rfl)
  have g4 : (zmZ2 s.heap t1 t2 l1 l2).get? (zmO2 s.heap t1 t2 l1 l2).objs.size = some _ := Heap.get?_push_size _ rfl
  show _ ∧ _
  rw [y1] at g1
  rw [y2] at g2
  rw [y3] at g3
  rw [y4] at g4
  rw [y1] at g2
  rw [y2, y3] at g4
  rw [y4]
  exact ⟨⟨_, g4, rfl⟩, fin _ g4 g2 g3 (by cases t1 <;> exact ⟨_, g0, rfl, rfl⟩) (by cases t2 <;> exact ⟨_, g1, rfl, rfl⟩) y5 fun c ob x => Heap.get?_push_of_some _ (Heap.get?_push_of_some _ (Heap.get?_push_of_some _ (Heap.get?_push_of_some _ (Heap.get?_push_of_some _ (x)))))⟩
end
/-! ### zip of 3 -/
structure Ap3 (z tI tO i1 i2 i3 l1 l2 l3 : Addr) : Prop where
  z_tI : z ≠ tI
  z_tO : z ≠ tO
  z_i1 : z ≠ i1
  z_i2 : z ≠ i2
  z_i3 : z ≠ i3
  tI_z : tI ≠ z
  tI_tO : tI ≠ tO
  tI_i1 : tI ≠ i1
  tI_i2 : tI ≠ i2
  tI_i3 : tI ≠ i3
  tO_z : tO ≠ z
  tO_tI : tO ≠ tI
  tO_i1 : tO ≠ i1
  tO_i2 : tO ≠ i2
  tO_i3 : tO ≠ i3
  i1_z : i1 ≠ z
  i1_tI : i1 ≠ tI
  i1_tO : i1 ≠ tO
  i1_i2 : i1 ≠ i2
  i1_i3 : i1 ≠ i3
  i2_z : i2 ≠ z
  i2_tI : i2 ≠ tI
  i2_tO : i2 ≠ tO
  i2_i1 : i2 ≠ i1
  i2_i3 : i2 ≠ i3
  i3_z : i3 ≠ z
  i3_tI : i3 ≠ tI
  i3_tO : i3 ≠ tO
  i3_i1 : i3 ≠ i1
  i3_i2 : i3 ≠ i2
  l1_z : l1 ≠ z
  l1_tO : l1 ≠ tO
  l1_i1 : l1 ≠ i1
  l1_i2 : l1 ≠ i2
  l1_i3 : l1 ≠ i3
  l2_z : l2 ≠ z
  l2_tO : l2 ≠ tO
  l2_i1 : l2 ≠ i1
  l2_i2 : l2 ≠ i2
  l2_i3 : l2 ≠ i3
  l3_z : l3 ≠ z
  l3_tO : l3 ≠ tO
  l3_i1 : l3 ≠ i1
  l3_i2 : l3 ≠ i2
  l3_i3 : l3 ≠ i3
section
variable {s : Shared} {prog : Program} {w : World} {A : Around} {E : Value → Shared → Prop}
theorem zz3_item {z tI tO i1 i2 i3 l1 l2 l3 : Addr} {k : Nat} {t1 t2 t3 : Bool} {xs1 xs2 xs3 : Array Value} {x1 x2 x3 : Value} {ov : Array Value} {Q : Value → Shared → Prop} (D : Ap3 z tI tO i1 i2 i3 l1 l2 l3) (Z : IsZip s.heap z tI tO .none) (NI : IsT s.heap tI #[.ref i1, .ref i2, .ref i3]) (NO : IsT s.heap tO ov) (ol : ov.size = 3) (G1 : SIt t1 s.heap i1 l1 k) (S1 : SSq t1 s.heap l1 xs1) (G2 : SIt t2 s.heap i2 l2 k) (S2 : SSq t2 s.heap l2 xs2) (G3 : SIt t3 s.heap i3 l3 k) (S3 : SSq t3 s.heap l3 xs3) (e1 : xs1[k]? = some x1) (e2 : xs2[k]? = some x2) (e3 : xs3[k]? = some x3)
    (fin : ∀ g, IsZip g z tI tO (rawInt s.heap.objs.size) → IsT g tO #[x1, x2, x3] → SIt t1 g i1 l1 (k + 1) → SIt t2 g i2 l2 (k + 1) → SIt t3 g i3 l3 (k + 1) → IsT g s.heap.objs.size #[x1, x2, x3] → g.objs.size = s.heap.objs.size + 1 → Kp [z, tO, i1, i2, i3] s.heap g → Q (.ref s.heap.objs.size) { s with heap := g }) :
    wpAny (model prog w) A (Builtin.«zip.__next__» ⟨[.ref z], []⟩) (fun fi s2 => ∃ v, fi = .done (.ret v) ∧ Q v s2) E s := by
  show wpAny _ _ (field (.ref z) 2 >>= fun _ => _) _ _ _; refine wpAny_bind (wpAny_field Z rfl (x := .bool false) rfl ?_)
  show wpAny _ _ (field (.ref z) 3 >>= fun _ => _) _ _ _; refine wpAny_bind (wpAny_field Z rfl (x := .ref tI) rfl ?_)
  refine wpAny_bind (wpAny_seqItems NI rfl ?_); show wpAny _ _ (Builtin.SmallTypes.ownedTupleIsFree (.ref z) >>= fun _ => _) _ _ _
  refine wpAny_bind ?_; unfold Builtin.SmallTypes.ownedTupleIsFree; refine wpAny_bind (wpAny_field Z rfl (x := .none) rfl (wpAny_pure ?_))
  simp only [if_true]; refine wpAny_bind (wpAny_rule ?_); refine wpAny_bind (wpAny_field Z rfl (x := .ref tO) rfl ?_)
  refine wpAny_bind (wpAny_setField_rec Z (by simp) fun h0 Z0 B0 => ?_); replace Z0 : IsZip h0 z tI tO .ellipsis := Z0
  have K0 : Kp [z, tO, i1, i2, i3] s.heap h0 := fun c ob hc x => B0.extBut c ob (fun z => hc (by simp [z])) x
  have NO0 := B0.extBut _ _ D.tO_z NO
  have G1_0 := G1.ext B0.extBut D.i1_z; have S1_0 := S1.ext B0.extBut D.l1_z
  have G2_0 := G2.ext B0.extBut D.i2_z; have S2_0 := S2.ext B0.extBut D.l2_z
  have G3_0 := G3.ext B0.extBut D.i3_z; have S3_0 := S3.ext B0.extBut D.l3_z
  refine wpAny_bind ?_; simp only [List.zipIdx_cons, List.zipIdx_nil, List.forIn_cons, List.forIn_nil]
  refine wpAny_bind (wpAny_bind (wpAny_onRaise ?_)); show wpAny _ _ (Builtin.SmallTypes.nextOf (.ref i1) >>= fun _ => _) _ _ _
  refine wpAny_bind (nextS_item G1_0 S1_0 e1 fun h1 H1 B1 => wpAny_pure ?_)
  have NO1 := B1.extBut _ _ D.tO_i1 NO0; have Z1 := B1.extBut _ _ D.z_i1 Z0; have K1 := K0.step B1.extBut (by simp)
  have G1_1 := H1; have S1_1 := S1_0.ext B1.extBut D.l1_i1
  have G2_1 := G2_0.ext B1.extBut D.i2_i1; have S2_1 := S2_0.ext B1.extBut D.l2_i1
  have G3_1 := G3_0.ext B1.extBut D.i3_i1; have S3_1 := S3_0.ext B1.extBut D.l3_i1
  refine wpAny_bind (wpAny_seqItems NO1 rfl ?_); refine wpAny_bind (updT NO1 (by first | (rw [ol]; decide) | (simp only [Array.size_setIfInBounds, ol]; decide)) fun h2 NO2 B2 => ?_)
  have Z2 := B2.extBut _ _ D.z_tO Z1; have K2 := K1.step B2.extBut (by simp)
  have G1_2 := G1_1.ext B2.extBut D.i1_tO; have S1_2 := S1_1.ext B2.extBut D.l1_tO
  have G2_2 := G2_1.ext B2.extBut D.i2_tO; have S2_2 := S2_1.ext B2.extBut D.l2_tO
  have G3_2 := G3_1.ext B2.extBut D.i3_tO; have S3_2 := S3_1.ext B2.extBut D.l3_tO
  refine wpAny_bind (wpAny_letGo (wpAny_pure ?_)) -- 3
  refine wpAny_bind (wpAny_bind (wpAny_onRaise ?_)); show wpAny _ _ (Builtin.SmallTypes.nextOf (.ref i2) >>= fun _ => _) _ _ _
  refine wpAny_bind (nextS_item G2_2 S2_2 e2 fun h3 H3 B3 => wpAny_pure ?_)
  have NO3 := B3.extBut _ _ D.tO_i2 NO2; have Z3 := B3.extBut _ _ D.z_i2 Z2; have K3 := K2.step B3.extBut (by simp)
  have G1_3 := G1_2.ext B3.extBut D.i1_i2; have S1_3 := S1_2.ext B3.extBut D.l1_i2
  have G2_3 := H3; have S2_3 := S2_2.ext B3.extBut D.l2_i2
  have G3_3 := G3_2.ext B3.extBut D.i3_i2; have S3_3 := S3_2.ext B3.extBut D.l3_i2
  refine wpAny_bind (wpAny_seqItems NO3 rfl ?_); refine wpAny_bind (updT NO3 (by first | (rw [ol]; decide) | (simp only [Array.size_setIfInBounds, ol]; decide)) fun h4 NO4 B4 => ?_)
  have Z4 := B4.extBut _ _ D.z_tO Z3; have K4 := K3.step B4.extBut (by simp)
  have G1_4 := G1_3.ext B4.extBut D.i1_tO; have S1_4 := S1_3.ext B4.extBut D.l1_tO
  have G2_4 := G2_3.ext B4.extBut D.i2_tO; have S2_4 := S2_3.ext B4.extBut D.l2_tO
  have G3_4 := G3_3.ext B4.extBut D.i3_tO; have S3_4 := S3_3.ext B4.extBut D.l3_tO
  refine wpAny_bind (wpAny_letGo (wpAny_pure ?_)) -- 3
  refine wpAny_bind (wpAny_bind (wpAny_onRaise ?_)); show wpAny _ _ (Builtin.SmallTypes.nextOf (.ref i3) >>= fun _ => _) _ _ _
  refine wpAny_bind (nextS_item G3_4 S3_4 e3 fun h5 H5 B5 => wpAny_pure ?_)
  have NO5 := B5.extBut _ _ D.tO_i3 NO4; have Z5 := B5.extBut _ _ D.z_i3 Z4; have K5 := K4.step B5.extBut (by simp)
  have G1_5 := G1_4.ext B5.extBut D.i1_i3; have S1_5 := S1_4.ext B5.extBut D.l1_i3
  have G2_5 := G2_4.ext B5.extBut D.i2_i3; have S2_5 := S2_4.ext B5.extBut D.l2_i3
  have G3_5 := H5; have S3_5 := S3_4.ext B5.extBut D.l3_i3
  refine wpAny_bind (wpAny_seqItems NO5 rfl ?_); refine wpAny_bind (updT NO5 (by first | (rw [ol]; decide) | (simp only [Array.size_setIfInBounds, ol]; decide)) fun h6 NO6 B6 => ?_)
  have Z6 := B6.extBut _ _ D.z_tO Z5; have K6 := K5.step B6.extBut (by simp)
  have G1_6 := G1_5.ext B6.extBut D.i1_tO; have S1_6 := S1_5.ext B6.extBut D.l1_tO
  have G2_6 := G2_5.ext B6.extBut D.i2_tO; have S2_6 := S2_5.ext B6.extBut D.l2_tO
  have G3_6 := G3_5.ext B6.extBut D.i3_tO; have S3_6 := S3_5.ext B6.extBut D.l3_tO
  refine wpAny_bind (wpAny_letGo (wpAny_pure (wpAny_pure ?_))) -- 3
  have vals : (((ov.setIfInBounds 0 x1).setIfInBounds 1 x2).setIfInBounds 2 x3) = #[x1, x2, x3] := by
    obtain ⟨vl⟩ := ov
    match vl, ol with
    | [_, _, _], _ => rfl
  rw [vals] at NO6
  refine wpAny_bind (wpAny_seqItems NO6 rfl ?_); refine wpAny_bind (wpAny_newTuple ?_)
  have sz : h6.objs.size = s.heap.objs.size := by rw [B6.1, B5.1, B4.1, B3.1, B2.1, B1.1, B0.1]
  have zl : z < h6.objs.size := Heap.lt_size Z6
  show wpAny _ _ (Builtin.SmallTypes.ownedTupleHandOut (.ref z) (.ref h6.objs.size) >>= fun _ => _) _ _ _
  refine wpAny_bind ?_; unfold Builtin.SmallTypes.ownedTupleHandOut
  have ZZ : IsZip (h6.push { cls := .type "tuple", data := .seq #[x1, x2, x3] }) z tI tO .ellipsis := Heap.get?_push_of_some _ Z6
  refine wpAny_bind (wpAny_setField_rec ZZ (by simp) fun hA ZA BA => ?_); replace ZA : IsZip hA z tI tO (rawInt h6.objs.size) := ZA
  refine wpAny_setField_rec ZA (by simp) fun hB ZB BB => ?_; replace ZB : IsZip hB z tI tO (rawInt h6.objs.size) := ZB
  have up : ∀ b ob, b ≠ z → h6.get? b = some ob → hB.get? b = some ob := fun b ob nb e => BB.extBut _ _ nb (BA.extBut _ _ nb (Heap.get?_push_of_some _ e))
  have TB : IsT hB h6.objs.size #[x1, x2, x3] := BB.extBut _ _ (Nat.ne_of_gt zl) (BA.extBut _ _ (Nat.ne_of_gt zl) (Heap.get?_push_size _ rfl))
  have sB : hB.objs.size = h6.objs.size + 1 := by rw [BB.1, BA.1, Heap.size_push]
  rw [sz] at ZB TB sB
  refine wpAny_pure ⟨_, rfl, ?_⟩; show Q (.ref h6.objs.size) _; rw [sz]
  exact fin hB ZB (up _ _ D.tO_z NO6) (G1_6.to fun ob e => up _ ob D.i1_z e) (G2_6.to fun ob e => up _ ob D.i2_z e) (G3_6.to fun ob e => up _ ob D.i3_z e) TB sB fun b ob hb e => up b ob (fun q => hb (by simp [q])) (K6 b ob hb e)
theorem zz3_end {z tI tO i1 i2 i3 l1 l2 l3 : Addr} {k : Nat} {t1 t2 t3 : Bool} {xs1 xs2 xs3 : Array Value} {ov : Array Value} {Q : Fin → Shared → Prop} (hh : A.handled = none) (D : Ap3 z tI tO i1 i2 i3 l1 l2 l3) (Z : IsZip s.heap z tI tO .none) (NI : IsT s.heap tI #[.ref i1, .ref i2, .ref i3]) (NO : IsT s.heap tO ov) (ol : ov.size = 3) (G1 : SIt t1 s.heap i1 l1 k) (S1 : SSq t1 s.heap l1 xs1) (G2 : SIt t2 s.heap i2 l2 k) (S2 : SSq t2 s.heap l2 xs2) (G3 : SIt t3 s.heap i3 l3 k) (S3 : SSq t3 s.heap l3 xs3) (en : xs1[k]? = none ∨ xs2[k]? = none ∨ xs3[k]? = none)
    (fin : ∀ g e, Kp [z, tO, i1, i2, i3] s.heap g → (∃ ob, g.get? e = some ob ∧ ob.cls = .type "StopIteration") → E (.ref e) { s with heap := g }) : wpAny (model prog w) A (Builtin.«zip.__next__» ⟨[.ref z], []⟩) Q E s := by
  show wpAny _ _ (field (.ref z) 2 >>= fun _ => _) _ _ _; refine wpAny_bind (wpAny_field Z rfl (x := .bool false) rfl ?_)
  show wpAny _ _ (field (.ref z) 3 >>= fun _ => _) _ _ _; refine wpAny_bind (wpAny_field Z rfl (x := .ref tI) rfl ?_)
  refine wpAny_bind (wpAny_seqItems NI rfl ?_); show wpAny _ _ (Builtin.SmallTypes.ownedTupleIsFree (.ref z) >>= fun _ => _) _ _ _
  refine wpAny_bind ?_; unfold Builtin.SmallTypes.ownedTupleIsFree; refine wpAny_bind (wpAny_field Z rfl (x := .none) rfl (wpAny_pure ?_))
  simp only [if_true]; refine wpAny_bind (wpAny_rule ?_); refine wpAny_bind (wpAny_field Z rfl (x := .ref tO) rfl ?_)
  refine wpAny_bind (wpAny_setField_rec Z (by simp) fun h0 Z0 B0 => ?_); replace Z0 : IsZip h0 z tI tO .ellipsis := Z0
  have K0 : Kp [z, tO, i1, i2, i3] s.heap h0 := fun c ob hc x => B0.extBut c ob (fun z => hc (by simp [z])) x
  have NO0 := B0.extBut _ _ D.tO_z NO
  have G1_0 := G1.ext B0.extBut D.i1_z; have S1_0 := S1.ext B0.extBut D.l1_z
  have G2_0 := G2.ext B0.extBut D.i2_z; have S2_0 := S2.ext B0.extBut D.l2_z
  have G3_0 := G3.ext B0.extBut D.i3_z; have S3_0 := S3.ext B0.extBut D.l3_z
  refine wpAny_bind ?_; simp only [List.zipIdx_cons, List.zipIdx_nil, List.forIn_cons, List.forIn_nil]
  cases e1 : xs1[k]? with
  | none =>
    refine wpAny_bind (wpAny_bind (wpAny_onRaise ?_)); show wpAny _ _ (Builtin.SmallTypes.nextOf (.ref i1) >>= fun _ => _) _ _ _
    refine wpAny_bind (nextS_end hh G1_0 S1_0 e1 fun g e B he => ?_); obtain ⟨oe, hoe, hce⟩ := he
    have ZE : IsZip g z tI tO .ellipsis := B _ _ D.z_i1 Z0; have ez : e ≠ z := fun x => by subst x; rw [ZE] at hoe; cases hoe; simp at hce
    refine wpAny_setField_rec ZE (by simp) fun g2 _ B2 => fin g2 e ((K0.step B (by simp)).step B2.extBut (by simp)) ⟨oe, B2.extBut _ _ ez hoe, hce⟩
  | some x1 =>
    refine wpAny_bind (wpAny_bind (wpAny_onRaise ?_)); show wpAny _ _ (Builtin.SmallTypes.nextOf (.ref i1) >>= fun _ => _) _ _ _
    refine wpAny_bind (nextS_item G1_0 S1_0 e1 fun h1 H1 B1 => wpAny_pure ?_)
    have NO1 := B1.extBut _ _ D.tO_i1 NO0; have Z1 := B1.extBut _ _ D.z_i1 Z0; have K1 := K0.step B1.extBut (by simp)
    have G1_1 := H1; have S1_1 := S1_0.ext B1.extBut D.l1_i1
    have G2_1 := G2_0.ext B1.extBut D.i2_i1; have S2_1 := S2_0.ext B1.extBut D.l2_i1
    have G3_1 := G3_0.ext B1.extBut D.i3_i1; have S3_1 := S3_0.ext B1.extBut D.l3_i1
    refine wpAny_bind (wpAny_seqItems NO1 rfl ?_); refine wpAny_bind (updT NO1 (by first | (rw [ol]; decide) | (simp only [Array.size_setIfInBounds, ol]; decide)) fun h2 NO2 B2 => ?_)
    have Z2 := B2.extBut _ _ D.z_tO Z1; have K2 := K1.step B2.extBut (by simp)
    have G1_2 := G1_1.ext B2.extBut D.i1_tO; have S1_2 := S1_1.ext B2.extBut D.l1_tO
    have G2_2 := G2_1.ext B2.extBut D.i2_tO; have S2_2 := S2_1.ext B2.extBut D.l2_tO
    have G3_2 := G3_1.ext B2.extBut D.i3_tO; have S3_2 := S3_1.ext B2.extBut D.l3_tO
    refine wpAny_bind (wpAny_letGo (wpAny_pure ?_)) -- 3
    cases e2 : xs2[k]? with
    | none =>
      refine wpAny_bind (wpAny_bind (wpAny_onRaise ?_)); show wpAny _ _ (Builtin.SmallTypes.nextOf (.ref i2) >>= fun _ => _) _ _ _
      refine wpAny_bind (nextS_end hh G2_2 S2_2 e2 fun g e B he => ?_); obtain ⟨oe, hoe, hce⟩ := he
      have ZE : IsZip g z tI tO .ellipsis := B _ _ D.z_i2 Z2; have ez : e ≠ z := fun x => by subst x; rw [ZE] at hoe; cases hoe; simp at hce
      refine wpAny_setField_rec ZE (by simp) fun g2 _ B2 => fin g2 e ((K2.step B (by simp)).step B2.extBut (by simp)) ⟨oe, B2.extBut _ _ ez hoe, hce⟩
    | some x2 =>
      refine wpAny_bind (wpAny_bind (wpAny_onRaise ?_)); show wpAny _ _ (Builtin.SmallTypes.nextOf (.ref i2) >>= fun _ => _) _ _ _
      refine wpAny_bind (nextS_item G2_2 S2_2 e2 fun h3 H3 B3 => wpAny_pure ?_)
      have NO3 := B3.extBut _ _ D.tO_i2 NO2; have Z3 := B3.extBut _ _ D.z_i2 Z2; have K3 := K2.step B3.extBut (by simp)
      have G1_3 := G1_2.ext B3.extBut D.i1_i2; have S1_3 := S1_2.ext B3.extBut D.l1_i2
      have G2_3 := H3; have S2_3 := S2_2.ext B3.extBut D.l2_i2
      have G3_3 := G3_2.ext B3.extBut D.i3_i2; have S3_3 := S3_2.ext B3.extBut D.l3_i2
      refine wpAny_bind (wpAny_seqItems NO3 rfl ?_); refine wpAny_bind (updT NO3 (by first | (rw [ol]; decide) | (simp only [Array.size_setIfInBounds, ol]; decide)) fun h4 NO4 B4 => ?_)
      have Z4 := B4.extBut _ _ D.z_tO Z3; have K4 := K3.step B4.extBut (by simp)
      have G1_4 := G1_3.ext B4.extBut D.i1_tO; have S1_4 := S1_3.ext B4.extBut D.l1_tO
      have G2_4 := G2_3.ext B4.extBut D.i2_tO; have S2_4 := S2_3.ext B4.extBut D.l2_tO
      have G3_4 := G3_3.ext B4.extBut D.i3_tO; have S3_4 := S3_3.ext B4.extBut D.l3_tO
      refine wpAny_bind (wpAny_letGo (wpAny_pure ?_)) -- 3
      cases e3 : xs3[k]? with
      | none =>
        refine wpAny_bind (wpAny_bind (wpAny_onRaise ?_)); show wpAny _ _ (Builtin.SmallTypes.nextOf (.ref i3) >>= fun _ => _) _ _ _
        refine wpAny_bind (nextS_end hh G3_4 S3_4 e3 fun g e B he => ?_); obtain ⟨oe, hoe, hce⟩ := he
        have ZE : IsZip g z tI tO .ellipsis := B _ _ D.z_i3 Z4; have ez : e ≠ z := fun x => by subst x; rw [ZE] at hoe; cases hoe; simp at hce
        refine wpAny_setField_rec ZE (by simp) fun g2 _ B2 => fin g2 e ((K4.step B (by simp)).step B2.extBut (by simp)) ⟨oe, B2.extBut _ _ ez hoe, hce⟩
      | some x3 =>
        rcases en with q | q | q
        · rw [e1] at q; cases q
        · rw [e2] at q; cases q
        · rw [e3] at q; cases q
theorem nx3_item {z tI tO i1 i2 i3 l1 l2 l3 : Addr} {k : Nat} {t1 t2 t3 : Bool} {xs1 xs2 xs3 : Array Value} {x1 x2 x3 : Value} {ov : Array Value} {Q : Option Value → Shared → Prop} (D : Ap3 z tI tO i1 i2 i3 l1 l2 l3) (Z : IsZip s.heap z tI tO .none) (NI : IsT s.heap tI #[.ref i1, .ref i2, .ref i3]) (NO : IsT s.heap tO ov) (ol : ov.size = 3) (G1 : SIt t1 s.heap i1 l1 k) (S1 : SSq t1 s.heap l1 xs1) (G2 : SIt t2 s.heap i2 l2 k) (S2 : SSq t2 s.heap l2 xs2) (G3 : SIt t3 s.heap i3 l3 k) (S3 : SSq t3 s.heap l3 xs3) (e1 : xs1[k]? = some x1) (e2 : xs2[k]? = some x2) (e3 : xs3[k]? = some x3)
    (fin : ∀ g, IsZip g z tI tO (rawInt s.heap.objs.size) → IsT g tO #[x1, x2, x3] → SIt t1 g i1 l1 (k + 1) → SIt t2 g i2 l2 (k + 1) → SIt t3 g i3 l3 (k + 1) → IsT g s.heap.objs.size #[x1, x2, x3] → g.objs.size = s.heap.objs.size + 1 → Kp [z, tO, i1, i2, i3] s.heap g → Q (some (.ref s.heap.objs.size)) { s with heap := g }) : wpAny (model prog w) A (pyNext (.ref z)) Q E s := by
  have ty : s.TypeIs (.ref z) "zip" := ⟨_, Z, rfl⟩; unfold pyNext
  exact wpAny_bind (wpAny_attempt (wpAny_callSpecial?_slot (name := Str.ofString "__next__") ty F.slot_zip_next (wpAny_call_entry F.slot_zip_next ty F.entry_zip_next (zz3_item D Z NI NO ol G1 S1 G2 S2 G3 S3 e1 e2 e3 fun g p0 p1 p2 p3 p4 p5 p6 p7 => wpAny_pure (fin g p0 p1 p2 p3 p4 p5 p6 p7)) (F.args_zip_next_1 _))))
theorem nx3_end {z tI tO i1 i2 i3 l1 l2 l3 : Addr} {k : Nat} {t1 t2 t3 : Bool} {xs1 xs2 xs3 : Array Value} {ov : Array Value} {Q : Option Value → Shared → Prop} (hh : A.handled = none) (D : Ap3 z tI tO i1 i2 i3 l1 l2 l3) (Z : IsZip s.heap z tI tO .none) (NI : IsT s.heap tI #[.ref i1, .ref i2, .ref i3]) (NO : IsT s.heap tO ov) (ol : ov.size = 3) (G1 : SIt t1 s.heap i1 l1 k) (S1 : SSq t1 s.heap l1 xs1) (G2 : SIt t2 s.heap i2 l2 k) (S2 : SSq t2 s.heap l2 xs2) (G3 : SIt t3 s.heap i3 l3 k) (S3 : SSq t3 s.heap l3 xs3) (en : xs1[k]? = none ∨ xs2[k]? = none ∨ xs3[k]? = none)
    (fin : ∀ g, Kp [z, tO, i1, i2, i3] s.heap g → Q none { s with heap := g }) : wpAny (model prog w) A (pyNext (.ref z)) Q E s := by
  have ty : s.TypeIs (.ref z) "zip" := ⟨_, Z, rfl⟩; unfold pyNext
  refine wpAny_bind (wpAny_attempt (wpAny_callSpecial?_slot (name := Str.ofString "__next__") ty F.slot_zip_next (wpAny_call_entry F.slot_zip_next ty F.entry_zip_next (zz3_end hh D Z NI NO ol G1 S1 G2 S2 G3 S3 en fun g e kp he => ?_) (F.args_zip_next_1 _))))
  obtain ⟨ob, hob, hcl⟩ := he; exact wpAny_bind (wpAny_isInstance (T := "StopIteration") (b := true) ⟨ob, hob, hcl⟩ isSubtype_stop (wpAny_pure (fin _ kp)))
end
abbrev zm3_1 (h : Heap) (t1 : Bool) (l1 : Addr) : Heap := h.push (itO t1 l1)
abbrev zm3_2 (h : Heap) (t1 : Bool) (t2 : Bool) (l1 : Addr) (l2 : Addr) : Heap := (zm3_1 h t1 l1).push (itO t2 l2)
abbrev zm3_3 (h : Heap) (t1 : Bool) (t2 : Bool) (t3 : Bool) (l1 : Addr) (l2 : Addr) (l3 : Addr) : Heap := (zm3_2 h t1 t2 l1 l2).push (itO t3 l3)
abbrev zmI3 (h : Heap) (t1 : Bool) (t2 : Bool) (t3 : Bool) (l1 : Addr) (l2 : Addr) (l3 : Addr) : Heap := (zm3_3 h t1 t2 t3 l1 l2 l3).push { cls := .type "tuple", data := .seq #[.ref h.objs.size, .ref (zm3_1 h t1 l1).objs.size, .ref (zm3_2 h t1 t2 l1 l2).objs.size] }
abbrev zmO3 (h : Heap) (t1 : Bool) (t2 : Bool) (t3 : Bool) (l1 : Addr) (l2 : Addr) (l3 : Addr) : Heap := (zmI3 h t1 t2 t3 l1 l2 l3).push { cls := .type "tuple", data := .seq #[.none, .none, .none] }
abbrev zmZ3 (h : Heap) (t1 : Bool) (t2 : Bool) (t3 : Bool) (l1 : Addr) (l2 : Addr) (l3 : Addr) : Heap := (zmO3 h t1 t2 t3 l1 l2 l3).push { cls := .type "zip", data := .fields #[.none, .bool false, .bool false, .ref (zm3_3 h t1 t2 t3 l1 l2 l3).objs.size, .ref (zmI3 h t1 t2 t3 l1 l2 l3).objs.size] }
theorem zm3_new (t1 : Bool) (t2 : Bool) (t3 : Bool) (l1 : Addr) (l2 : Addr) (l3 : Addr) (xs1 xs2 xs3 : Array Value) : Meets (Builtin.«zip.__new__» ⟨[.type "zip", .ref l1, .ref l2, .ref l3], []⟩) (fun _ R s => SSq t1 s.heap l1 xs1 ∧ SSq t2 s.heap l2 xs2 ∧ SSq t3 s.heap l3 xs3 ∧ R (.ok (.ret (.ref (zmO3 s.heap t1 t2 t3 l1 l2 l3).objs.size))) { s with heap := zmZ3 s.heap t1 t2 t3 l1 l2 l3 }) :=
  Meets.of_wp fun prog w A R s h => by
    obtain ⟨hp, gl, dd, tk, os⟩ := s; obtain ⟨q1, q2, q3, h⟩ := h; have su := sub_zip
    have Q1 : SSq t1 (Shared.heap ⟨hp, gl, dd, tk, os⟩) l1 xs1 := q1
    have Q2 : SSq t2 (Shared.heap ⟨(hp).push (itO t1 l1), gl, dd, tk, os⟩) l2 xs2 := (SSq.push q2 _)
    have Q3 : SSq t3 (Shared.heap ⟨((hp).push (itO t1 l1)).push (itO t2 l2), gl, dd, tk, os⟩) l3 xs3 := (SSq.push (SSq.push q3 _) _)
    wp_walk using pyIterS Q1, pyIterS Q2, pyIterS Q3
    exact ⟨_, rfl, h⟩
theorem zm3_t (a1 a2 a3 : Value) : checkTypeCall "zip" ⟨[a1, a2, a3], []⟩ = pure () := by kernel_rfl
theorem zm3_n (a1 a2 a3 : Value) : checkBuiltinCall "zip.__new__" ⟨[.type "zip", a1, a2, a3], []⟩ = pure () := by kernel_rfl
theorem zm3_i (b a1 a2 a3 : Value) : argsOk "object.__init__" ⟨[b, a1, a2, a3], []⟩ := by
  unfold argsOk; rw [signature?_of (id := "object.__init__") (n := ['_', '_', 't', 'i', 'n', 'i', '_', '_']) (o := ['t', 'c', 'e', 'j', 'b', 'o']) (by kernel_rfl) F.owner_object]; kernel_rfl
section
variable {s : Shared} {prog : Program} {w : World} {A : Around} {E : Value → Shared → Prop}
theorem zm3_call {t1 t2 t3 : Bool} {l1 l2 l3 : Addr} {xs1 xs2 xs3 : Array Value} {Q : Value → Shared → Prop} (q1 : SSq t1 s.heap l1 xs1) (q2 : SSq t2 s.heap l2 xs2) (q3 : SSq t3 s.heap l3 xs3)
    (fin : ∀ g, IsZip g (s.heap.objs.size + 5) (s.heap.objs.size + 3) (s.heap.objs.size + 4) .none → IsT g (s.heap.objs.size + 3) #[.ref s.heap.objs.size, .ref (s.heap.objs.size + 1), .ref (s.heap.objs.size + 2)] → IsT g (s.heap.objs.size + 4) #[.none, .none, .none] → SIt t1 g s.heap.objs.size l1 0 → SIt t2 g (s.heap.objs.size + 1) l2 0 → SIt t3 g (s.heap.objs.size + 2) l3 0 → g.objs.size = s.heap.objs.size + 6 → (∀ c ob, s.heap.get? c = some ob → g.get? c = some ob) → Q (.ref (s.heap.objs.size + 5)) { s with heap := g }) :
      wpAny (model prog w) A (call (.type "zip") [.ref l1, .ref l2, .ref l3]) Q E s := by -- 3
  refine callType_new F.called_zip (by decide) (zm3_t _ _ _) (zm3_n _ _ _) (fun ob => zm3_i ob _ _ _) F.entry_zip_new (zm3_new t1 t2 t3 l1 l2 l3 xs1 xs2 xs3) ⟨q1, q2, q3, ?_⟩
  have y1 : (zm3_1 s.heap t1 l1).objs.size = s.heap.objs.size + 1 := by rw [Heap.size_push]
  have y2 : (zm3_2 s.heap t1 t2 l1 l2).objs.size = s.heap.objs.size + 2 := by rw [Heap.size_push, y1]
  have y3 : (zm3_3 s.heap t1 t2 t3 l1 l2 l3).objs.size = s.heap.objs.size + 3 := by rw [Heap.size_push, y2]
  have y4 : (zmI3 s.heap t1 t2 t3 l1 l2 l3).objs.size = s.heap.objs.size + 4 := by rw [Heap.size_push, y3]
  have y5 : (zmO3 s.heap t1 t2 t3 l1 l2 l3).objs.size = s.heap.objs.size + 5 := by rw [Heap.size_push, y4]
  have y6 : (zmZ3 s.heap t1 t2 t3 l1 l2 l3).objs.size = s.heap.objs.size + 6 := by rw [Heap.size_push, y5]
  have g0 : (zmZ3 s.heap t1 t2 t3 l1 l2 l3).get? s.heap.objs.size = some _ := Heap.get?_push_of_some _ (Heap.get?_push_of_some _ (Heap.get?_push_of_some _ (Heap.get?_push_of_some _ (Heap.get?_push_of_some _ (Heap.get?_push_size _ rfl)))))
  have g1 : (zmZ3 s.heap t1 t2 t3 l1 l2 l3).get? (zm3_1 s.heap t1 l1).objs.size = some _ := Heap.get?_push_of_some _ (Heap.get?_push_of_some _ (Heap.get?_push_of_some _ (Heap.get?_push_of_some _ (Heap.get?_push_size _ rfl))))
  have g2 : (zmZ3 s.heap t1 t2 t3 l1 l2 l3).get? (zm3_2 s.heap t1 t2 l1 l2).objs.size = some _ := Heap.get?_push_of_some _ (Heap.get?_push_of_some _ (Heap.get?_push_of_some _ (Heap.get?_push_size _ rfl)))
  have g3 : (zmZ3 s.heap t1 t2 t3 l1 l2 l3).get? (zm3_3 s.heap t1 t2 t3 l1 l2 l3).objs.size = some _ := Heap.get?_push_of_some _ (Heap.get?_push_of_some _ (Heap.get?_push_size _ rfl))
  have g4 : (zmZ3 s.heap t1 t2 t3 l1 l2 l3).get? (zmI3 s.heap t1 t2 t3 l1 l2 l3).objs.size = some _ := Heap.get?_push_of_some _ (Heap.get?_push_size _ rfl)
  have g5 : (zmZ3 s.heap t1 t2 t3 l1 l2 l3).get? (zmO3 s.heap t1 t2 t3 l1 l2 l3).objs.size = some _ := Heap.get?_push_size _ rfl
  show _ ∧ _
  rw [y1] at g1
  rw [y2] at g2
  rw [y3] at g3
  rw [y4] at g4
  rw [y5] at g5
  rw [y1, y2] at g3
  rw [y3, y4] at g5
  rw [y5]
  exact ⟨⟨_, g5, rfl⟩, fin _ g5 g3 g4 (by cases t1 <;> exact ⟨_, g0, rfl, rfl⟩) (by cases t2 <;> exact ⟨_, g1, rfl, rfl⟩) (by cases t3 <;> exact ⟨_, g2, rfl, rfl⟩) y6 fun c ob x => Heap.get?_push_of_some _ (Heap.get?_push_of_some _ (Heap.get?_push_of_some _ (Heap.get?_push_of_some _ (Heap.get?_push_of_some _ (Heap.get?_push_of_some _ (x))))))⟩
end
/-! ### zip as what is walked -/
def SqS (K : PySem.W.Frag) (t : Bool) (H : Hp) (a : Addr) (xs : List V) : Prop := if t = true then SqT K H a xs else SqL K H a xs
theorem neA {a b : Nat} (h : a < b ∨ b < a) : a ≠ b := h.elim Nat.ne_of_lt Nat.ne_of_gt
theorem seqS {X : Cx} {pins : List (Addr × Obj)} {σ : L2.St} {H : Hp} {s : Shared} {t : Bool} {a : Addr} {xs : List V} (I : Inv X pins σ H s) (q : SqS X.K t H a xs) : ∃ its : List Value, Vals xs its ∧ SSq t s.heap a its.toArray ∧ ∀ ys, SqS X.K t H a ys → ys = xs := by
  cases t with
  | true =>
    obtain ⟨its, rv, hp, _⟩ := I.tuple q
    exact ⟨its, rv, hp, fun ys hy => I.tuple_inj hy q⟩
  | false =>
    obtain ⟨its, rv, hp, _⟩ := I.list q
    exact ⟨its, rv, hp.isList, fun ys hy => I.list_inj hy q⟩
def Itz2 (K : PySem.W.Frag) (t1 : Bool) (t2 : Bool) (l1 : Addr) (l2 : Addr) : It :=
  ⟨fun k H => ∃ (xs1 xs2 : List V) (x1 x2 : V), SqS K t1 H l1 xs1 ∧ SqS K t2 H l2 xs2 ∧ xs1[k]? = some x1 ∧ xs2[k]? = some x2,
    fun k H v H2 => ∃ T x1 x2, v = .ref T ∧ H T = none ∧ H2 = upd H T (.tup [x1, x2]) ∧ (∀ xs, SqS K t1 H l1 xs → xs[k]? = some x1) ∧ (∀ xs, SqS K t2 H l2 xs → xs[k]? = some x2),
    fun k H => ∃ xs1 xs2 : List V, SqS K t1 H l1 xs1 ∧ SqS K t2 H l2 xs2 ∧ (xs1.length ≤ k ∨ xs2.length ≤ k)⟩
theorem turn_z2 {P : Program} {w : World} {K : PySem.W.Frag} {elts : List Expr} {kk : Nat} {tpos : Pos} {z tI tO i1 i2 l1 l2 : Addr} {t1 t2 : Bool} (D : Ap2 z tI tO i1 i2 l1 l2) :
    Turn P w K (.Tuple elts kk tpos) (Itz2 K t1 t2 l1 l2) [z, tI, tO, i1, i2] z (fun k h => IsZip h z tI tO .none ∧ IsT h tI #[.ref i1, .ref i2] ∧ (∃ ov : Array Value, ov.size = 2 ∧ IsT h tO ov) ∧ SIt t1 h i1 l1 k ∧ SIt t2 h i2 l2 k) where
  mem := by simp
  obj := fun k h st c hc => by
    obtain ⟨Z, NI, ⟨ov, ol, NO⟩, G1, G2⟩ := st; have e : c = z ∨ c = tI ∨ c = tO ∨ c = i1 ∨ c = i2 := by simpa using hc
    rcases e with q | q | q | q | q
    · rw [q]; exact ⟨_, Z, fun v y => nomatch y⟩
    · rw [q]; exact ⟨_, NI, fun v y => nomatch y⟩
    · rw [q]; exact ⟨_, NO, fun v y => nomatch y⟩
    · rw [q]; exact G1.obj
    · rw [q]; exact G2.obj
  keep := fun k h g st kp => by
    obtain ⟨Z, NI, ⟨ov, ol, NO⟩, G1, G2⟩ := st
    exact ⟨kp z (by simp) _ Z, kp tI (by simp) _ NI, ⟨ov, ol, kp tO (by simp) _ NO⟩, G1.to fun ob q => kp i1 (by simp) ob q, G2.to fun ob q => kp i2 (by simp) ob q⟩
  item := by
    intro X eP ew eK calm k pins s σ H E I hf st hg; subst eP ew eK
    obtain ⟨Z, NI, ⟨ov, ol, NO⟩, G1, G2⟩ := st; obtain ⟨xs1, xs2, x1, x2, q1, q2, y1, y2⟩ := hg
    obtain ⟨its1, rv1, p1, in1⟩ := seqS I q1; obtain ⟨u1, hu1, ru1⟩ := rv1.get y1
    obtain ⟨its2, rv2, p2, in2⟩ := seqS I q2; obtain ⟨u2, hu2, ru2⟩ := rv2.get y2
    have zl : z < s.heap.objs.size := Heap.lt_size Z
    refine nx2_item D Z NI NO ol G1 p1 G2 p2 (x1 := u1) (x2 := u2) (by simpa using hu1) (by simpa using hu2) fun g Zg Og F1 F2 Tg sg kp => ?_
    refine ⟨_, rfl, wpAny_letOwnedTupleGo_zip (s := { s with heap := g }) Zg fun g2 Z2 sb => ?_⟩
    have T2 : g2.get? s.heap.objs.size = some { cls := .type "tuple", data := .seq #[u1, u2] } := (sb.2 _ (Nat.ne_of_gt zl)).trans Tg
    have new : ObjOk X.prog X.w (upd H s.heap.objs.size (.tup [x1, x2])) g2 s.heap.objs.size (.tup [x1, x2]) := ⟨by show 2 ≤ sizeLine; decide, [u1, u2], (.cons ru1 (.cons ru2 .nil)), ⟨_, T2, rfl, _, rfl⟩⟩
    have I1 : Inv X pins σ (upd H s.heap.objs.size (.tup [x1, x2])) { s with heap := g2 } := I.turnedNew (t' := s.toks) (ch := [z, tI, tO, i1, i2]) (fun c ob hb q => (sb.2 c (fun y => hb (by simp [y]))).trans (kp c ob (fun y => hb (by simp at y ⊢; rcases y with y | y | y | y <;> simp [y])) q)) hf (Nat.le_refl _) new
    refine ⟨.ref s.heap.objs.size, _, I1, rfl, ⟨_, x1, x2, rfl, I.hok.fresh (Nat.le_refl _), rfl, fun l hl => by rw [in1 l hl]; exact y1, fun l hl => by rw [in2 l hl]; exact y2⟩, ⟨Z2, ?_, ⟨#[u1, u2], rfl, ?_⟩, ?_, ?_⟩, fun c hcm => ?_⟩
    · exact (sb.2 _ D.tI_z).trans (kp _ _ (by simp; exact ⟨D.tI_z, D.tI_tO, D.tI_i1, D.tI_i2⟩) NI)
    · exact (sb.2 _ D.tO_z).trans Og
    · exact F1.to fun ob q => (sb.2 _ D.i1_z).trans q
    · exact F2.to fun ob q => (sb.2 _ D.i2_z).trans q
    · obtain ⟨ob, hob, _⟩ : ∃ ob, s.heap.get? c = some ob ∧ True := by
        have e : c = z ∨ c = tI ∨ c = tO ∨ c = i1 ∨ c = i2 := by simpa using hcm
        rcases e with q | q | q | q | q
        · rw [q]; exact ⟨_, Z, trivial⟩
        · rw [q]; exact ⟨_, NI, trivial⟩
        · rw [q]; exact ⟨_, NO, trivial⟩
        · rw [q]; obtain ⟨ob, h1, _⟩ := G1.obj; exact ⟨ob, h1, trivial⟩
        · rw [q]; obtain ⟨ob, h1, _⟩ := G2.obj; exact ⟨ob, h1, trivial⟩
      rw [upd_ne (Nat.ne_of_lt (Heap.lt_size hob))]; exact (hf c hcm).1
  done := by
    intro X eP ew eK calm k pins s σ H E I hf st hg; subst eP ew eK
    obtain ⟨Z, NI, ⟨ov, ol, NO⟩, G1, G2⟩ := st; obtain ⟨xs1, xs2, q1, q2, en⟩ := hg
    obtain ⟨its1, rv1, p1, _⟩ := seqS I q1; have len1 := rv1.length
    obtain ⟨its2, rv2, p2, _⟩ := seqS I q2; have len2 := rv2.length
    have he : its1.toArray[k]? = none ∨ its2.toArray[k]? = none := by
      rcases en with q | q
      · refine .inl ?_; simp; omega
      · refine .inr (?_); simp; omega
    exact nx2_end (I.ok.hd calm) D Z NI NO ol G1 p1 G2 p2 he fun g kp => ⟨rfl, I.turnedL (t' := s.toks) (ch := [z, tI, tO, i1, i2]) (fun c ob hb q => kp c ob (fun y => hb (by simp at y ⊢; rcases y with y | y | y | y <;> simp [y])) q) hf⟩
  self := fun A k s Q E st h => wpAny_pyIter_zip st.1 h
def iZ2 (K : PySem.W.Frag) (ta : TA) : TI := fun σ H R => ta σ H fun vs H1 => ∃ t1 t2 l1 l2 xs1 xs2, vs = [.ref l1, .ref l2] ∧ SqS K t1 H1 l1 xs1 ∧ SqS K t2 H1 l2 xs2 ∧ R (Itz2 K t1 t2 l1 l2) H1
theorem pi_z2 {X : Cx} {ea eb : Expr} {ta : TA} {p pos tpos : Pos} {elts : List Expr} {kk : Nat} (hg : Gl X "zip") (hm : X.mg "zip" = none) (ha : PA X [ea, eb] ta)
    (hs : starEach [ea, eb] X.env = (false, eval ea X.env) :: starEach [eb] X.env := by rfl) (hpl : (backTo pos (starEach [eb] X.env)).any (·.1) = false := by rfl) :
    PI X (.Tuple elts kk tpos) (.Call (.Name "zip" p) [ea, eb] [] pos) (iZ2 X.K ta) := by
  refine ⟨fun pins s σ H R I h => Call_ (ld_blt I hg hm PyProof.Rows.boot_zip (PyProof.Rows.callWith_type1 (thn (ha.run pos pins s σ H _ I h) fun us s1 ⟨vs, H1, I1, r1, q⟩ => ?_) hs hpl))⟩
  obtain ⟨t1, t2, l1, l2, xs1, xs2, ex, q1, q2, q⟩ := q; subst ex
  cases r1 with
  | cons rv1 r1 =>
    cases r1 with
    | cons rv2 r1 =>
      cases r1; cases rv1; cases rv2
      obtain ⟨its1, _, p1, _⟩ := seqS I1 q1
      obtain ⟨its2, _, p2, _⟩ := seqS I1 q2
      have fr : ∀ c, c ∈ [(s1.heap.objs.size + 4), (s1.heap.objs.size + 2), (s1.heap.objs.size + 3), s1.heap.objs.size, (s1.heap.objs.size + 1)] → FpOk X pins H1 c := fun c hc => by
        have le : s1.heap.objs.size ≤ c := by
          simp only [List.mem_cons, List.not_mem_nil, or_false] at hc; omega
        exact I1.fpOk le (I1.hok.fresh le)
      refine zm2_call p1 p2 fun g Z NI NO G1 G2 sg kp => wpAny_pyIter_zip Z ?_
      have I2 : Inv X pins σ H1 { s1 with heap := g } := I1.kept (t' := s1.toks) kp
      have D : Ap2 (s1.heap.objs.size + 4) (s1.heap.objs.size + 2) (s1.heap.objs.size + 3) s1.heap.objs.size (s1.heap.objs.size + 1) l1 l2 := by
        have b1 : @LT.lt Nat _ l1 s1.heap.objs.size := p1.lt
        have b2 : @LT.lt Nat _ l2 s1.heap.objs.size := p2.lt
        constructor <;> (refine neA ?_; omega)
      exact ⟨_, [(s1.heap.objs.size + 4), (s1.heap.objs.size + 2), (s1.heap.objs.size + 3), s1.heap.objs.size, (s1.heap.objs.size + 1)], _, _, H1, rfl, I2, turn_z2 D, ⟨Z, NI, ⟨_, rfl, NO⟩, G1, G2⟩, fr, q⟩
def Itz3 (K : PySem.W.Frag) (t1 : Bool) (t2 : Bool) (t3 : Bool) (l1 : Addr) (l2 : Addr) (l3 : Addr) : It :=
  ⟨fun k H => ∃ (xs1 xs2 xs3 : List V) (x1 x2 x3 : V), SqS K t1 H l1 xs1 ∧ SqS K t2 H l2 xs2 ∧ SqS K t3 H l3 xs3 ∧ xs1[k]? = some x1 ∧ xs2[k]? = some x2 ∧ xs3[k]? = some x3,
    fun k H v H2 => ∃ T x1 x2 x3, v = .ref T ∧ H T = none ∧ H2 = upd H T (.tup [x1, x2, x3]) ∧ (∀ xs, SqS K t1 H l1 xs → xs[k]? = some x1) ∧ (∀ xs, SqS K t2 H l2 xs → xs[k]? = some x2) ∧ (∀ xs, SqS K t3 H l3 xs → xs[k]? = some x3),
    fun k H => ∃ xs1 xs2 xs3 : List V, SqS K t1 H l1 xs1 ∧ SqS K t2 H l2 xs2 ∧ SqS K t3 H l3 xs3 ∧ (xs1.length ≤ k ∨ xs2.length ≤ k ∨ xs3.length ≤ k)⟩
theorem turn_z3 {P : Program} {w : World} {K : PySem.W.Frag} {elts : List Expr} {kk : Nat} {tpos : Pos} {z tI tO i1 i2 i3 l1 l2 l3 : Addr} {t1 t2 t3 : Bool} (D : Ap3 z tI tO i1 i2 i3 l1 l2 l3) :
    Turn P w K (.Tuple elts kk tpos) (Itz3 K t1 t2 t3 l1 l2 l3) [z, tI, tO, i1, i2, i3] z (fun k h => IsZip h z tI tO .none ∧ IsT h tI #[.ref i1, .ref i2, .ref i3] ∧ (∃ ov : Array Value, ov.size = 3 ∧ IsT h tO ov) ∧ SIt t1 h i1 l1 k ∧ SIt t2 h i2 l2 k ∧ SIt t3 h i3 l3 k) where
  mem := by simp
  obj := fun k h st c hc => by
    obtain ⟨Z, NI, ⟨ov, ol, NO⟩, G1, G2, G3⟩ := st; have e : c = z ∨ c = tI ∨ c = tO ∨ c = i1 ∨ c = i2 ∨ c = i3 := by simpa using hc
    rcases e with q | q | q | q | q | q
    · rw [q]; exact ⟨_, Z, fun v y => nomatch y⟩
    · rw [q]; exact ⟨_, NI, fun v y => nomatch y⟩
    · rw [q]; exact ⟨_, NO, fun v y => nomatch y⟩
    · rw [q]; exact G1.obj
    · rw [q]; exact G2.obj
    · rw [q]; exact G3.obj
  keep := fun k h g st kp => by
    obtain ⟨Z, NI, ⟨ov, ol, NO⟩, G1, G2, G3⟩ := st
    exact ⟨kp z (by simp) _ Z, kp tI (by simp) _ NI, ⟨ov, ol, kp tO (by simp) _ NO⟩, G1.to fun ob q => kp i1 (by simp) ob q, G2.to fun ob q => kp i2 (by simp) ob q, G3.to fun ob q => kp i3 (by simp) ob q⟩
  item := by
    intro X eP ew eK calm k pins s σ H E I hf st hg; subst eP ew eK
    obtain ⟨Z, NI, ⟨ov, ol, NO⟩, G1, G2, G3⟩ := st; obtain ⟨xs1, xs2, xs3, x1, x2, x3, q1, q2, q3, y1, y2, y3⟩ := hg
    obtain ⟨its1, rv1, p1, in1⟩ := seqS I q1; obtain ⟨u1, hu1, ru1⟩ := rv1.get y1
    obtain ⟨its2, rv2, p2, in2⟩ := seqS I q2; obtain ⟨u2, hu2, ru2⟩ := rv2.get y2
    obtain ⟨its3, rv3, p3, in3⟩ := seqS I q3; obtain ⟨u3, hu3, ru3⟩ := rv3.get y3
    have zl : z < s.heap.objs.size := Heap.lt_size Z
    refine nx3_item D Z NI NO ol G1 p1 G2 p2 G3 p3 (x1 := u1) (x2 := u2) (x3 := u3) (by simpa using hu1) (by simpa using hu2) (by simpa using hu3) fun g Zg Og F1 F2 F3 Tg sg kp => ?_
    refine ⟨_, rfl, wpAny_letOwnedTupleGo_zip (s := { s with heap := g }) Zg fun g2 Z2 sb => ?_⟩
    have T2 : g2.get? s.heap.objs.size = some { cls := .type "tuple", data := .seq #[u1, u2, u3] } := (sb.2 _ (Nat.ne_of_gt zl)).trans Tg
    have new : ObjOk X.prog X.w (upd H s.heap.objs.size (.tup [x1, x2, x3])) g2 s.heap.objs.size (.tup [x1, x2, x3]) := ⟨by show 3 ≤ sizeLine; decide, [u1, u2, u3], (.cons ru1 (.cons ru2 (.cons ru3 .nil))), ⟨_, T2, rfl, _, rfl⟩⟩
    have I1 : Inv X pins σ (upd H s.heap.objs.size (.tup [x1, x2, x3])) { s with heap := g2 } := I.turnedNew (t' := s.toks) (ch := [z, tI, tO, i1, i2, i3]) (fun c ob hb q => (sb.2 c (fun y => hb (by simp [y]))).trans (kp c ob (fun y => hb (by simp at y ⊢; rcases y with y | y | y | y | y <;> simp [y])) q)) hf (Nat.le_refl _) new
    refine ⟨.ref s.heap.objs.size, _, I1, rfl, ⟨_, x1, x2, x3, rfl, I.hok.fresh (Nat.le_refl _), rfl, fun l hl => by rw [in1 l hl]; exact y1, fun l hl => by rw [in2 l hl]; exact y2, fun l hl => by rw [in3 l hl]; exact y3⟩, ⟨Z2, ?_, ⟨#[u1, u2, u3], rfl, ?_⟩, ?_, ?_, ?_⟩, fun c hcm => ?_⟩
    · exact (sb.2 _ D.tI_z).trans (kp _ _ (by simp; exact ⟨D.tI_z, D.tI_tO, D.tI_i1, D.tI_i2, D.tI_i3⟩) NI)
    · exact (sb.2 _ D.tO_z).trans Og
    · exact F1.to fun ob q => (sb.2 _ D.i1_z).trans q
    · exact F2.to fun ob q => (sb.2 _ D.i2_z).trans q
    · exact F3.to fun ob q => (sb.2 _ D.i3_z).trans q
    · obtain ⟨ob, hob, _⟩ : ∃ ob, s.heap.get? c = some ob ∧ True := by
        have e : c = z ∨ c = tI ∨ c = tO ∨ c = i1 ∨ c = i2 ∨ c = i3 := by simpa using hcm
        rcases e with q | q | q | q | q | q
        · rw [q]; exact ⟨_, Z, trivial⟩
        · rw [q]; exact ⟨_, NI, trivial⟩
        · rw [q]; exact ⟨_, NO, trivial⟩
        · rw [q]; obtain ⟨ob, h1, _⟩ := G1.obj; exact ⟨ob, h1, trivial⟩
        · rw [q]; obtain ⟨ob, h1, _⟩ := G2.obj; exact ⟨ob, h1, trivial⟩
        · rw [q]; obtain ⟨ob, h1, _⟩ := G3.obj; exact ⟨ob, h1, trivial⟩
      rw [upd_ne (Nat.ne_of_lt (Heap.lt_size hob))]; exact (hf c hcm).1
  done := by
    intro X eP ew eK calm k pins s σ H E I hf st hg; subst eP ew eK
    obtain ⟨Z, NI, ⟨ov, ol, NO⟩, G1, G2, G3⟩ := st; obtain ⟨xs1, xs2, xs3, q1, q2, q3, en⟩ := hg
    obtain ⟨its1, rv1, p1, _⟩ := seqS I q1; have len1 := rv1.length
    obtain ⟨its2, rv2, p2, _⟩ := seqS I q2; have len2 := rv2.length
    obtain ⟨its3, rv3, p3, _⟩ := seqS I q3; have len3 := rv3.length
    have he : its1.toArray[k]? = none ∨ its2.toArray[k]? = none ∨ its3.toArray[k]? = none := by
      rcases en with q | q | q
      · refine .inl ?_; simp; omega
      · refine .inr (.inl ?_); simp; omega
      · refine .inr (.inr (?_)); simp; omega
    exact nx3_end (I.ok.hd calm) D Z NI NO ol G1 p1 G2 p2 G3 p3 he fun g kp => ⟨rfl, I.turnedL (t' := s.toks) (ch := [z, tI, tO, i1, i2, i3]) (fun c ob hb q => kp c ob (fun y => hb (by simp at y ⊢; rcases y with y | y | y | y | y <;> simp [y])) q) hf⟩
  self := fun A k s Q E st h => wpAny_pyIter_zip st.1 h
def iZ3 (K : PySem.W.Frag) (ta : TA) : TI := fun σ H R => ta σ H fun vs H1 => ∃ t1 t2 t3 l1 l2 l3 xs1 xs2 xs3, vs = [.ref l1, .ref l2, .ref l3] ∧ SqS K t1 H1 l1 xs1 ∧ SqS K t2 H1 l2 xs2 ∧ SqS K t3 H1 l3 xs3 ∧ R (Itz3 K t1 t2 t3 l1 l2 l3) H1
theorem pi_z3 {X : Cx} {ea eb ec : Expr} {ta : TA} {p pos tpos : Pos} {elts : List Expr} {kk : Nat} (hg : Gl X "zip") (hm : X.mg "zip" = none) (ha : PA X [ea, eb, ec] ta)
    (hs : starEach [ea, eb, ec] X.env = (false, eval ea X.env) :: starEach [eb, ec] X.env := by rfl) (hpl : (backTo pos (starEach [eb, ec] X.env)).any (·.1) = false := by rfl) :
    PI X (.Tuple elts kk tpos) (.Call (.Name "zip" p) [ea, eb, ec] [] pos) (iZ3 X.K ta) := by
  refine ⟨fun pins s σ H R I h => Call_ (ld_blt I hg hm PyProof.Rows.boot_zip (PyProof.Rows.callWith_type1 (thn (ha.run pos pins s σ H _ I h) fun us s1 ⟨vs, H1, I1, r1, q⟩ => ?_) hs hpl))⟩
  obtain ⟨t1, t2, t3, l1, l2, l3, xs1, xs2, xs3, ex, q1, q2, q3, q⟩ := q; subst ex
  cases r1 with
  | cons rv1 r1 =>
    cases r1 with
    | cons rv2 r1 =>
      cases r1 with
      | cons rv3 r1 =>
        cases r1; cases rv1; cases rv2; cases rv3
        obtain ⟨its1, _, p1, _⟩ := seqS I1 q1
        obtain ⟨its2, _, p2, _⟩ := seqS I1 q2
        obtain ⟨its3, _, p3, _⟩ := seqS I1 q3
        have fr : ∀ c, c ∈ [(s1.heap.objs.size + 5), (s1.heap.objs.size + 3), (s1.heap.objs.size + 4), s1.heap.objs.size, (s1.heap.objs.size + 1), (s1.heap.objs.size + 2)] → FpOk X pins H1 c := fun c hc => by
          have le : s1.heap.objs.size ≤ c := by
            simp only [List.mem_cons, List.not_mem_nil, or_false] at hc; omega
          exact I1.fpOk le (I1.hok.fresh le)
        refine zm3_call p1 p2 p3 fun g Z NI NO G1 G2 G3 sg kp => wpAny_pyIter_zip Z ?_
        have I2 : Inv X pins σ H1 { s1 with heap := g } := I1.kept (t' := s1.toks) kp
        have D : Ap3 (s1.heap.objs.size + 5) (s1.heap.objs.size + 3) (s1.heap.objs.size + 4) s1.heap.objs.size (s1.heap.objs.size + 1) (s1.heap.objs.size + 2) l1 l2 l3 := by
          have b1 : @LT.lt Nat _ l1 s1.heap.objs.size := p1.lt
          have b2 : @LT.lt Nat _ l2 s1.heap.objs.size := p2.lt
          have b3 : @LT.lt Nat _ l3 s1.heap.objs.size := p3.lt
          constructor <;> (refine neA ?_; omega)
        exact ⟨_, [(s1.heap.objs.size + 5), (s1.heap.objs.size + 3), (s1.heap.objs.size + 4), s1.heap.objs.size, (s1.heap.objs.size + 1), (s1.heap.objs.size + 2)], _, _, H1, rfl, I2, turn_z3 D, ⟨Z, NI, ⟨_, rfl, NO⟩, G1, G2, G3⟩, fr, q⟩
/-! ### .. of data -/
def rdQ : DV → Option (List PyData)
  | .d (.tuple ds) => some ds
  | .d (.list ds) => some ds
  | _ => none
theorem seqQ {c : Fr0} {G H : Hp} {pl : Nat → Pl} {σ : L2.St} {e : DEnv} {m : Mu} {x : V} {dx : DV} {ds : List PyData} (K : PySem.W.Frag) (sr : SR c G pl σ H e m) (r : RV G pl m.length x dx) (h : rdQ dx = some ds) : ∃ (t : Bool) (a : Addr) (xs : List V), x = .ref a ∧ (∀ H', Same G H' → SqS K t H' a xs) ∧ DaL G xs ds := by
  unfold rdQ at h
  split at h
  · cases h
    cases (show Da G x _ from r) with
    | tup e1 e2 => exact ⟨true, _, _, rfl, fun H' s => .inl (.inl (s _ _ e1)), e2⟩
  · cases h
    cases (show Da G x _ from r) with
    | lst e1 e2 => exact ⟨false, _, _, rfl, fun H' s => .inl (.inl (s _ _ e1)), e2⟩
  · cases h
def diZ2 (a : DA) : DI := fun e m k => a e m fun xs m1 => match xs with
  | [x, y] => ∃ ds es, rdQ x = some ds ∧ rdQ y = some es ∧ k (pairs ds es) m1
  | _ => False
def trips (xs ys zs : List PyData) : List PyData := (List.zip xs (List.zip ys zs)).map fun p => .tuple [p.1, p.2.1, p.2.2]
def diZ3 (a : DA) : DI := fun e m k => a e m fun xs m1 => match xs with
  | [x, y, z] => ∃ ds es fs, rdQ x = some ds ∧ rdQ y = some es ∧ rdQ z = some fs ∧ k (trips ds es fs) m1
  | _ => False
theorem trips_get {ds es fs : List PyData} {i : Nat} {d d2 d3 : PyData} (h1 : ds[i]? = some d) (h2 : es[i]? = some d2) (h3 : fs[i]? = some d3) : (trips ds es fs)[i]? = some (.tuple [d, d2, d3]) := by
  unfold trips
  have hz : (List.zip es fs)[i]? = some (d2, d3) := List.getElem?_zip_eq_some.mpr ⟨h2, h3⟩
  have hy : (List.zip ds (List.zip es fs))[i]? = some (d, d2, d3) := List.getElem?_zip_eq_some.mpr ⟨h1, hz⟩
  rw [List.getElem?_map, hy]
  rfl
theorem trips_len (ds es fs : List PyData) : (trips ds es fs).length = min ds.length (min es.length fs.length) := by
  unfold trips
  rw [List.length_map, List.length_zip, List.length_zip]
theorem get_lt {α : Type} {xs : List α} {i : Nat} (h : i < xs.length) : ∃ x, xs[i]? = some x := ⟨_, List.getElem?_eq_getElem h⟩
theorem si_z2 (K : PySem.W.Frag) {ta : TA} {da : DA} (h : SA ta da) : SI (iZ2 K ta) (diZ2 da) := fun c G pl σ H e m k R sr d KK => h _ _ _ _ _ _ _ _ _ sr d fun xs m1 G1 pl1 H1 vs d1 l1 sr1 r1 => by
  split at d1
  · cases r1 with
    | cons ra t =>
      cases t with
      | cons rb t =>
        cases t
        obtain ⟨ds, es, h1, h2, d1⟩ := d1
        obtain ⟨t1, a1, xs1, rfl, q1, z1⟩ := seqQ K sr1 ra h1
        obtain ⟨t2, a2, xs2, rfl, q2, z2⟩ := seqQ K sr1 rb h2
        refine ⟨t1, t2, a1, a2, xs1, xs2, rfl, q1 _ sr1.hp.sub, q2 _ sr1.hp.sub, KK _ _ _ _ _ _ d1 l1 sr1 ⟨fun i H hi s => ?_, fun H s => ?_, fun i H x H' hi s y => ?_⟩⟩
        · rw [pairs_len, ← z1.length, ← z2.length] at hi
          obtain ⟨x, hx⟩ := get_lt (show i < xs1.length by omega)
          obtain ⟨y, hy⟩ := get_lt (show i < xs2.length by omega)
          exact ⟨xs1, xs2, x, y, q1 _ s, q2 _ s, hx, hy⟩
        · refine ⟨xs1, xs2, q1 _ s, q2 _ s, ?_⟩
          rw [pairs_len, ← z1.length, ← z2.length]
          omega
        · obtain ⟨T, x1, x2, rfl, f, rfl, y1, y2⟩ := y
          obtain ⟨d, u1, u2⟩ := z1.get i (y1 _ (q1 _ s))
          obtain ⟨d', v1, v2⟩ := z2.get i (y2 _ (q2 _ s))
          exact ⟨_, pairs_get u1 v1, .inr ⟨T, _, _, rfl, f, rfl, .cons u2 (.cons v2 .nil), rfl⟩⟩
  · exact d1.elim
theorem si_z3 (K : PySem.W.Frag) {ta : TA} {da : DA} (h : SA ta da) : SI (iZ3 K ta) (diZ3 da) := fun c G pl σ H e m k R sr d KK => h _ _ _ _ _ _ _ _ _ sr d fun xs m1 G1 pl1 H1 vs d1 l1 sr1 r1 => by
  split at d1
  · cases r1 with
    | cons ra t =>
      cases t with
      | cons rb t =>
        cases t with
        | cons rc t =>
          cases t
          obtain ⟨ds, es, fs, h1, h2, h3, d1⟩ := d1
          obtain ⟨t1, a1, xs1, rfl, q1, z1⟩ := seqQ K sr1 ra h1
          obtain ⟨t2, a2, xs2, rfl, q2, z2⟩ := seqQ K sr1 rb h2
          obtain ⟨t3, a3, xs3, rfl, q3, z3⟩ := seqQ K sr1 rc h3
          refine ⟨t1, t2, t3, a1, a2, a3, xs1, xs2, xs3, rfl, q1 _ sr1.hp.sub, q2 _ sr1.hp.sub, q3 _ sr1.hp.sub, KK _ _ _ _ _ _ d1 l1 sr1 ⟨fun i H hi s => ?_, fun H s => ?_, fun i H x H' hi s y => ?_⟩⟩
          · rw [trips_len, ← z1.length, ← z2.length, ← z3.length] at hi
            obtain ⟨x, hx⟩ := get_lt (show i < xs1.length by omega)
            obtain ⟨y, hy⟩ := get_lt (show i < xs2.length by omega)
            obtain ⟨z, hz⟩ := get_lt (show i < xs3.length by omega)
            exact ⟨xs1, xs2, xs3, x, y, z, q1 _ s, q2 _ s, q3 _ s, hx, hy, hz⟩
          · refine ⟨xs1, xs2, xs3, q1 _ s, q2 _ s, q3 _ s, ?_⟩
            rw [trips_len, ← z1.length, ← z2.length, ← z3.length]
            omega
          · obtain ⟨T, x1, x2, x3, rfl, f, rfl, y1, y2, y3⟩ := y
            obtain ⟨d, u1, u2⟩ := z1.get i (y1 _ (q1 _ s))
            obtain ⟨d', v1, v2⟩ := z2.get i (y2 _ (q2 _ s))
            obtain ⟨d'', w1, w2⟩ := z3.get i (y3 _ (q3 _ s))
            exact ⟨_, trips_get u1 v1 w1, .inr ⟨T, _, _, rfl, f, rfl, .cons u2 (.cons v2 (.cons w2 .nil)), rfl⟩⟩
  · exact d1.elim
end PM

namespace PM
open PySem PySem.Spec PyProof.Rows L2 RZ
section
variable {P : Program} {w : World} {K : PySem.W.Frag} {mg : Str → Option Value} {base : Heap}
open SX
/-! ### a rating's text, read where it is one; needs Tm, InL and text_ints -/
abbrev S_parse_rating : SpP := sp1 fun a k => ∃ (l : List Nat) (xs : List (Int × Int)), a = .str (S l) ∧ l.length ≤ 10000 ∧ (TL.spl [32] 0 [] l).map pF = xs.map some ∧ k (.d (.tuple (xs.map fd)))
abbrev s_parse_rating : Stmt := topS 29
abbrev N_parse_rating : List Str := ["value", "rating", "word"]
abbrev P_parse_rating : List Str := ["value"]
theorem sc_parse_rating : FnScope N_parse_rating P_parse_rating (defScope s_parse_rating) := ⟨rfl, rfl, rfl, by decide +kernel, rfl, by decide +kernel, by decide +kernel⟩
set_option maxHeartbeats 8000000 in
theorem okD_parse_rating (d : IsDef K mg "parse_rating" s_parse_rating P_parse_rating) (h_parse_fraction : Ok P w K mg base 3 "parse_fraction" s_parse_fraction P_parse_fraction (prP S_parse_fraction)) (m_tuple : mg "tuple" = none) (m_str : mg "str" = none) (m_isinstance : mg "isinstance" = none) : Ok P w K mg base 4 "parse_rating" s_parse_rating P_parse_rating (prP S_parse_rating) := by
  obtain ⟨f0_, fd0_, D⟩ := d
  obtain ⟨f_parse_fraction, fd_parse_fraction, ⟨F_parse_fraction, b_parse_fraction, g_parse_fraction⟩, G_parse_fraction⟩ := h_parse_fraction
  refine ⟨f0_, fd0_, D, D.F.ok sc_parse_rating (fun vs H Q E h => ?_) (fun cdv A outer s H vs Q E hr h => ?_)⟩
  · obtain ⟨G, ds, k, _, rs, hS, _⟩ := h
    rw [rs.length]
    exact sp1_len hS
  · obtain ⟨G, ds, k, sub, rs, hS, KK⟩ := h
    refine ⟨_, (pss_cons (ps_if (pt_not (pt_val (pe_callB (show CallR _ _ (rIsi K) from call_isi) (by rfl) m_isinstance (by decide +kernel) (pa_cons (pv 0) (pa_cons (pe_bltn (v := .ty "str") (by rfl) m_str (by decide +kernel) rfl) pa_nil))))) (pss_one ps_never) pss_nil)
      (pss_cons (ps_setLc (i := 1) (own := [("word", 2)]) (g := (gName 2)) (by rfl) sc_parse_rating.nd rfl rfl (sw_true rfl rfl rfl (by decide +kernel)) (show PI _ _ _ (iSeq K _) from pi_seq (pe_split (pv 0) pe_str)) (blkOk_by (own := [("word", 2)]) (N := N_parse_rating) (sc := defScope s_parse_rating) (by decide +kernel)) (fun _ _ _ _ _ => by exact (pg_name (i := 2) sc_parse_rating.nd rfl (by first | exact .inl rfl | exact .inr rfl))) (fun _ _ _ _ _ => pts_nil) (fun _ _ _ _ _ => by exact (pe_call G_parse_fraction (hr.mono (by omega)) (by rfl) g_parse_fraction F_parse_fraction.kp b_parse_fraction .nil pass0 (pa_cons (pv 2) pa_nil))))
      (pss_cons (ps_if (pt_cmpR (show OpR _ _ (rInL K false) from op_inL hr.units) pe_non (pv 1) (by with_unfolding_all rfl)) (pss_one ps_never) pss_nil)
      (pss_one (ps_ret (pe_callTy (show CallR _ _ (rTupK K) from call_tupK) (by rfl) m_tuple (by decide +kernel) (pa_cons (pv 1) pa_nil))))))), runP (N := N_parse_rating) (ss_seq (ss_if (st_not (st_b (se_isS _ (se_var 0)))) ss_never ss_nil)
      (ss_seq (ss_asg (SL.se (sl_lc (vs := [2]) (si_seq _ (SL.se (sl_split (se_var 0) (se_str _)))) (sg_name 2) (gw_name (i := 2) (by decide)) st_yes (se_callP (sa_cons (se_var 2) sa_nil)))) (sg_name 1))
      (ss_seq (ss_if (st_test (se_op (os_inL _ false) se_non (se_var 1))) ss_never ss_nil)
      (ss_ret (se_cb (cs_tup _) (sa_cons (se_var 1) sa_nil)))))) sub rs KK ?_⟩
    clear KK rs sub hr
    replace hS := sp1_inv hS
    obtain ⟨x1, rfl, hS⟩ := hS
    obtain ⟨l, xs, rfl, hl, he, hk⟩ := hS
    rw [c_sp]
    refine ⟨(fun z => nomatch z), fun _ => ⟨⟨by decide, by rw [S_len]; omega⟩, ?_⟩⟩
    have hw := fun p hp => spl_len (c := 32) (l := l) (acc := []) p hp
    refine lcM_eq (fun w => .str (S w)) (fun w => optF (pF w)) (TL.spl [32] 0 [] l) (split_D l 32 (by decide)) (by have := spl_num (c := 32) (l := l) (acc := []); omega) (fun w hw' C _ h2 => ⟨fun _ => ⟨w, rfl, by have := hw w hw'; rw [List.length_nil] at this; omega, h2⟩, fun z => nomatch z⟩) ?_
    have e1 : (TL.spl [32] 0 [] l).map (fun w => optF (pF w)) = (xs.map some).map optF := by rw [← he, List.map_map]; rfl
    have e2 : (xs.map some).map optF = xs.map fd := by rw [List.map_map]; rfl
    have no : (xs.map some).any Option.isNone = false := by
      rw [List.any_eq_false]
      intro o ho
      obtain ⟨x, _, rfl⟩ := List.mem_map.mp ho
      simp
    dsimp only [dgName]
    rw [e1]
    refine ⟨rfl, by decide, optF_lay _, ?_⟩
    dsimp only [Bool.false_eq_true, if_false]
    rw [optF_any, no]
    refine ⟨(fun z => nomatch z), fun _ => ⟨_, rfl, ?_⟩⟩
    rw [e2]
    exact hk
/-! ### a line of a panel's text; needs Tm and text_ints -/
abbrev S_parse_line : SpP := sp1 fun a k => ∃ l : List Nat, a = .str (S l) ∧ l.length ≤ 10000 ∧ k (.d (lnD l))
abbrev s_parse_line : Stmt := topS 30
abbrev N_parse_line : List Str := ["line", "words"]
abbrev P_parse_line : List Str := ["line"]
theorem sc_parse_line : FnScope N_parse_line P_parse_line (defScope s_parse_line) := ⟨rfl, rfl, rfl, by decide +kernel, rfl, by decide +kernel, by decide +kernel⟩
set_option maxHeartbeats 8000000 in
theorem okD_parse_line (d : IsDef K mg "parse_line" s_parse_line P_parse_line) (h_parse_integer : Ok P w K mg base 2 "parse_integer" s_parse_integer P_parse_integer (prP S_parse_integer)) (m_len : mg "len" = none) : Ok P w K mg base 3 "parse_line" s_parse_line P_parse_line (prP S_parse_line) := by
  obtain ⟨f0_, fd0_, D⟩ := d
  obtain ⟨f_parse_integer, fd_parse_integer, ⟨F_parse_integer, b_parse_integer, g_parse_integer⟩, G_parse_integer⟩ := h_parse_integer
  refine ⟨f0_, fd0_, D, D.F.ok sc_parse_line (fun vs H Q E h => ?_) (fun cdv A outer s H vs Q E hr h => ?_)⟩
  · obtain ⟨G, ds, k, _, rs, hS, _⟩ := h
    rw [rs.length]
    exact sp1_len hS
  · obtain ⟨G, ds, k, sub, rs, hS, KK⟩ := h
    refine ⟨_, (pss_cons (ps_set (i := 1) sc_parse_line.nd rfl (.inl rfl) (pe_split (pv 0) pe_str))
      (pss_cons (ps_if (pt_cmpR (show OpR _ _ (rNeA K) from op_neA hr.units) (pe_callB (show CallR _ _ (rLenK K) from call_lenK) (by rfl) m_len (by decide +kernel) (pa_cons (pv 1) pa_nil)) pe_int (nomark _)) (pss_one (ps_ret (pe_tup (pa_cons pe_str (pa_cons (pe_tup pa_nil) pa_nil))))) pss_nil)
      (pss_one (ps_ret (pe_tup (pa_cons (pe_ix (show IxR _ (rIx K) from ix_seq) (pv 1) pe_int (fun _ _ => rfl)) (pa_cons (pe_tup (pa_cons (pe_call G_parse_integer (hr.mono (by omega)) (by rfl) g_parse_integer F_parse_integer.kp b_parse_integer .nil pass0 (pa_cons (pe_ix (show IxR _ (rIx K) from ix_seq) (pv 1) pe_int (fun _ _ => rfl)) pa_nil)) (pa_cons (pe_call G_parse_integer (hr.mono (by omega)) (by rfl) g_parse_integer F_parse_integer.kp b_parse_integer .nil pass0 (pa_cons (pe_ix (show IxR _ (rIx K) from ix_seq) (pv 1) pe_int (fun _ _ => rfl)) pa_nil)) pa_nil))) pa_nil))))))), runP (N := N_parse_line) (ss_seq (ss_asg (SL.se (sl_split (se_var 0) (se_str _))) (sg_name 1))
      (ss_seq (ss_if (st_test (se_op (os_ne _) (se_cb (cs_len _) (sa_cons (se_var 1) sa_nil)) (se_int _))) (ss_ret (se_tup (sa_cons (se_str _) (sa_cons (se_tup sa_nil) sa_nil)))) ss_nil)
      (ss_ret (se_tup (sa_cons (se_op (os_ix _) (se_var 1) (se_int _)) (sa_cons (se_tup (sa_cons (se_callP (sa_cons (se_op (os_ix _) (se_var 1) (se_int _)) sa_nil)) (sa_cons (se_callP (sa_cons (se_op (os_ix _) (se_var 1) (se_int _)) sa_nil)) sa_nil))) sa_nil)))))) sub rs KK ?_⟩
    clear KK rs sub hr
    replace hS := sp1_inv hS
    obtain ⟨x1, rfl, hS⟩ := hS
    obtain ⟨l, rfl, hl, hk⟩ := hS
    rw [c_sp]
    refine ⟨⟨by decide, by rw [S_len]; omega⟩, ?_⟩
    have hw := fun p hp => spl_len (c := 32) (l := l) (acc := []) p hp
    dsimp only [dgName]
    rw [split_D l 32 (by decide)]
    unfold lnD at hk
    refine ⟨_, rfl, trivial, fun z => ?_, fun z => ?_⟩
    · have z : ¬ (TL.spl [32] 0 [] l).length = 3 := by
        intro w
        rw [List.length_map, w] at z
        cases z
      have hk : k (.d (.tuple [.str (S []), .tuple []])) := by
        split at hk
        · rename_i e
          rw [e] at z
          exact absurd rfl z
        · exact hk
      rw [c_nil]
      exact ⟨by show 0 ≤ 1000000; decide, by show 2 ≤ 1000000; decide, hk⟩
    · have z : (TL.spl [32] 0 [] l).length = 3 := by
        rw [List.length_map] at z
        have z : (!decide (((TL.spl [32] 0 [] l).length : Int) = 3)) = false := z
        rw [Bool.not_eq_false', decide_eq_true_eq] at z
        omega
      match q : TL.spl [32] 0 [] l, z with
      | [w, a, b], _ =>
        rw [q] at hk hw
        have ha := hw a (by simp)
        have hb := hw b (by simp)
        rw [List.length_nil] at ha hb
        exact ⟨_, _, rfl, rfl, _, _, rfl, rfl, a, rfl, by omega, _, _, rfl, rfl, b, rfl, by omega, by show 2 ≤ 1000000; decide, by show 2 ≤ 1000000; decide, hk⟩
abbrev S__law_fraction_text : SpP := sp1 fun a k => ∃ x : Int × Int, a = fd x ∧ x.1.natAbs < 10 ^ 64 ∧ x.2.natAbs < 10 ^ 64 ∧ k (.d (.str (S (frL x))))
abbrev s__law_fraction_text : Stmt := topS 42
abbrev N__law_fraction_text : List Str := ["_law_fraction_here"]
abbrev P__law_fraction_text : List Str := ["_law_fraction_here"]
theorem sc__law_fraction_text : FnScope N__law_fraction_text P__law_fraction_text (defScope s__law_fraction_text) := ⟨rfl, rfl, rfl, by decide +kernel, rfl, by decide +kernel, by decide +kernel⟩
set_option maxHeartbeats 8000000 in
theorem okD__law_fraction_text (d : IsDef K mg "_law_fraction_text" s__law_fraction_text P__law_fraction_text) (m_str : mg "str" = none) (m_int : mg "int" = none) : Ok P w K mg base 1 "_law_fraction_text" s__law_fraction_text P__law_fraction_text (prP S__law_fraction_text) := by
  obtain ⟨f0_, fd0_, D⟩ := d
  refine ⟨f0_, fd0_, D, D.F.ok sc__law_fraction_text (fun vs H Q E h => ?_) (fun cdv A outer s H vs Q E hr h => ?_)⟩
  · obtain ⟨G, ds, k, _, rs, hS, _⟩ := h
    rw [rs.length]
    exact sp1_len hS
  · obtain ⟨G, ds, k, sub, rs, hS, KK⟩ := h
    refine ⟨_, (pss_one (ps_ret (pe_op (show OpR _ _ rAddS from op_add_str) (pe_callTy call_str_int (by rfl) m_str (by decide +kernel) (pa_cons (pe_ix (show IxR _ (rIx K) from ix_seq) (pv 0) pe_int (fun _ _ => rfl)) pa_nil)) (pe_ix (show IxR _ (rIx K) from ix_seq) (pe_lst (pa_cons (pe_op (show OpR _ _ rAddS from op_add_str) pe_str (pe_callTy call_str_int (by rfl) m_str (by decide +kernel) (pa_cons (pe_ix (show IxR _ (rIx K) from ix_seq) (pv 0) pe_int (fun _ _ => rfl)) pa_nil))) (pa_cons pe_str pa_nil))) (pe_callTy call_int1 (by rfl) m_int (by decide +kernel) (pa_cons (pe_cmpR (show OpR _ _ (rEqA K) from op_eqA hr.units) (pe_ix (show IxR _ (rIx K) from ix_seq) (pv 0) pe_int (fun _ _ => rfl)) pe_int (nomark _)) pa_nil)) (fun _ _ => rfl))))), runP (N := N__law_fraction_text) (ss_ret (se_op os_addS (se_cb cs_strI (sa_cons (se_op (os_ix _) (se_var 0) (se_int _)) sa_nil)) (se_op (os_ix _) (SL.se (sl_lst (sa_cons (se_op os_addS (se_str _) (se_cb cs_strI (sa_cons (se_op (os_ix _) (se_var 0) (se_int _)) sa_nil))) (sa_cons (se_str _) sa_nil)))) (se_cb cs_int1 (sa_cons (se_op (os_eq _) (se_op (os_ix _) (se_var 0) (se_int _)) (se_int _)) sa_nil))))) sub rs KK ?_⟩
    clear KK rs sub hr
    replace hS := sp1_inv hS
    obtain ⟨x1, rfl, hS⟩ := hS
    obtain ⟨x, rfl, h1, h2, hk⟩ := hS
    have l1 := intL_len (k := 64) (by decide) h1
    have l2 := intL_len (k := 64) (by decide) h2
    rw [c_slash, c_nil]
    refine ⟨_, _, rfl, rfl, lg19 (b64 h1), _, _, rfl, rfl, lg19 (b64 h2), by rw [strI_eq, S_len, S_len]; show 1 + _ ≤ _; omega, by show 2 ≤ 1000000; decide, _, _, rfl, rfl, trivial, ?_⟩
    rw [strI_eq, strI_eq, S_cat]
    by_cases z : x.2 = 1
    · have e : eqB (.int x.2) (.int 1) = true := decide_eq_true z
      rw [e]
      refine ⟨_, .str (S []), rfl, rfl, by rw [S_len, S_len]; show _ + 0 ≤ _; omega, ?_⟩
      rw [S_cat]
      have e : frL x = intL x.1 ++ [] := by unfold frL; rw [if_pos z]
      rw [← e]
      exact hk
    · have e : eqB (.int x.2) (.int 1) = false := decide_eq_false z
      rw [e]
      refine ⟨_, .str (S ([47] ++ intL x.2)), rfl, rfl, by rw [S_len, S_len, List.length_append]; show _ + (1 + _) ≤ _; omega, ?_⟩
      rw [S_cat]
      have e : frL x = intL x.1 ++ ([47] ++ intL x.2) := by unfold frL; rw [if_neg z]; rfl
      rw [← e]
      exact hk
end
end PM

namespace PM
open PySem PySem.Spec PyProof.Rows L2 RZ
section
variable {P : Program} {w : World} {K : PySem.W.Frag} {mg : Str → Option Value} {base : Heap}
open SX
/-! ### a panel's text, read where it is one; needs Tm, text_line, item_fault -/
theorem pnW_it {its : List (Int × Int)} {rls : List (Nat × Nat)} {i : Nat} (h : i < its.length) : (pnW its rls).getD i [] = itW (itm its i) := by
  unfold pnW
  rw [List.getD_eq_getElem?_getD, List.getElem?_append_left (by rw [List.length_map]; exact h), List.getElem?_map, itm_get h]
  rfl
theorem pnW_rl {its : List (Int × Int)} {rls : List (Nat × Nat)} {i : Nat} (h : its.length ≤ i) (h2 : i - its.length < rls.length) : (pnW its rls).getD i [] = rlW (rls.getD (i - its.length) (0, 0)) := by
  unfold pnW
  rw [List.getD_eq_getElem?_getD, List.getElem?_append_right (by rw [List.length_map]; exact h), List.length_map, List.getElem?_map, List.getElem?_eq_getElem h2, List.getD_eq_getElem?_getD, List.getElem?_eq_getElem h2]
  rfl
theorem itF_it {q : Int × Int} (i : Nat) (h : (-1000000000 ≤ q.1 ∧ q.1 ≤ 1000000000) ∧ 1 ≤ q.2 ∧ q.2 ≤ 1000000) : itF i (itD q) = .none := by
  show (if inI (-1000000000) 1000000000 (.int q.1) = true then (if inI 1 1000000 (.int q.2) = true then PyData.none else _) else _) = _
  have h1 : inI (-1000000000) 1000000000 (.int q.1) = true := by
    show (decide (-1000000000 ≤ q.1) && decide (q.1 ≤ 1000000000)) = true
    rw [decide_eq_true h.1.1, decide_eq_true h.1.2]; rfl
  have h2 : inI 1 1000000 (.int q.2) = true := by
    show (decide (1 ≤ q.2) && decide (q.2 ≤ 1000000)) = true
    rw [decide_eq_true h.2.1, decide_eq_true h.2.2]; rfl
  rw [if_pos h1, if_pos h2]
theorem rlF_rl {c : Nat} {q : Nat × Nat} (i : Nat) (h1 : q.1 < c) (h2 : q.2 < c) (ne : q.1 ≠ q.2) : rlF c i (rlD q) = .none := by
  show (if isIx c (.int q.1) = true then (if isIx c (.int q.2) = true ∧ sameI (.int q.1) (.int q.2) = false then PyData.none else _) else _) = _
  have ix : ∀ a : Nat, a < c → isIx c (.int a) = true := fun a ha => by
    show (decide ((0 : Int) ≤ a) && decide ((a : Int) < c)) = true
    rw [decide_eq_true (by omega), decide_eq_true (by omega)]; rfl
  have sm : sameI (.int q.1) (.int q.2) = false := by
    show decide ((q.1 : Int) = (q.2 : Int)) = false
    exact decide_eq_false (by omega)
  rw [if_pos (ix _ h1), if_pos ⟨ix _ h2, sm⟩]
abbrev S_parse_panel : SpP := sp1 fun a k => ∃ its rls, a = .str (S (pnL its rls)) ∧ PanOk 8 its rls ∧ k (.d (pnD its rls))
abbrev s_parse_panel : Stmt := topS 31
abbrev N_parse_panel : List Str := ["value", "lines", "rest", "items", "rules", "at", "line", "word", "pair"]
abbrev P_parse_panel : List Str := ["value"]
theorem sc_parse_panel : FnScope N_parse_panel P_parse_panel (defScope s_parse_panel) := ⟨rfl, rfl, rfl, by decide +kernel, rfl, by decide +kernel, by decide +kernel⟩
set_option maxHeartbeats 8000000 in
theorem okD_parse_panel (d : IsDef K mg "parse_panel" s_parse_panel P_parse_panel) (h_parse_line : Ok P w K mg base 3 "parse_line" s_parse_line P_parse_line (prP S_parse_line)) (h_item_fault : Ok P w K mg base 3 "item_fault" s_item_fault P_item_fault (prP S_item_fault)) (h_rule_fault : Ok P w K mg base 3 "rule_fault" s_rule_fault P_rule_fault (prP S_rule_fault)) (m_tuple : mg "tuple" = none) (m_len : mg "len" = none) (m_enumerate : mg "enumerate" = none) (m_str : mg "str" = none) (m_isinstance : mg "isinstance" = none) {t_ITEMS : Tok} (g_ITEMS : mg "ITEMS" = some (.int (8) t_ITEMS)) {t_RULES : Tok} (g_RULES : mg "RULES" = some (.int (16) t_RULES)) : Ok P w K mg base 4 "parse_panel" s_parse_panel P_parse_panel (prP S_parse_panel) := by
  obtain ⟨f0_, fd0_, D⟩ := d
  obtain ⟨f_parse_line, fd_parse_line, ⟨F_parse_line, b_parse_line, g_parse_line⟩, G_parse_line⟩ := h_parse_line
  obtain ⟨f_item_fault, fd_item_fault, ⟨F_item_fault, b_item_fault, g_item_fault⟩, G_item_fault⟩ := h_item_fault
  obtain ⟨f_rule_fault, fd_rule_fault, ⟨F_rule_fault, b_rule_fault, g_rule_fault⟩, G_rule_fault⟩ := h_rule_fault
  refine ⟨f0_, fd0_, D, D.F.ok sc_parse_panel (fun vs H Q E h => ?_) (fun cdv A outer s H vs Q E hr h => ?_)⟩
  · obtain ⟨G, ds, k, _, rs, hS, _⟩ := h
    rw [rs.length]
    exact sp1_len hS
  · obtain ⟨G, ds, k, sub, rs, hS, KK⟩ := h
    refine ⟨_, (pss_cons (ps_if (pt_not (pt_val (pe_callB (show CallR _ _ (rIsi K) from call_isi) (by rfl) m_isinstance (by decide +kernel) (pa_cons (pv 0) (pa_cons (pe_bltn (v := .ty "str") (by rfl) m_str (by decide +kernel) rfl) pa_nil))))) (pss_one ps_never) pss_nil)
      (pss_cons (ps_asg (pe_split (pv 0) pe_str) (show PG _ _ (gStar K 2 0 _) from pg_star (n := 2) (i := 0) (by rfl) (pgs_star (pg_name (i := 1) sc_parse_panel.nd rfl (.inl rfl)) (pgs_cons (pg_name (i := 2) sc_parse_panel.nd rfl (.inl rfl)) pgs_nil))))
      (pss_cons (ps_if (pt_cmpR (show OpR _ _ (rNeA K) from op_neA hr.units) (pv 2) pe_str (nomark _)) (pss_one (ps_expr (pe_bm PySem.F.plainAttrs_list PySem.F.slot_list_append PySem.F.type_list_append mt_append (pv 1) (pa_cons (pv 2) pa_nil)))) pss_nil)
      (pss_cons (ps_set (i := 3) sc_parse_panel.nd rfl (.inl rfl) (pe_lst pa_nil))
      (pss_cons (ps_set (i := 4) sc_parse_panel.nd rfl (.inl rfl) (pe_lst pa_nil))
      (pss_cons (ps_for PassesOwn.never rfl (show PI _ _ _ (iEnumA K _) from pi_enumA (by rfl) m_enumerate (pa_cons (pv 1) pa_nil)) (show PG _ _ (gTup K 2 _) from pg_tup (n := 2) (by rfl) (pgs_cons (pg_name (i := 5) sc_parse_panel.nd rfl (.inl rfl)) (pgs_cons (pg_name (i := 6) sc_parse_panel.nd rfl (.inl rfl)) pgs_nil))) (pss_cons (ps_asg (pe_call G_parse_line (hr.mono (by omega)) (by rfl) g_parse_line F_parse_line.kp b_parse_line .nil pass0 (pa_cons (pv 6) pa_nil)) (show PG _ _ (gTup K 2 _) from pg_tup (n := 2) (by rfl) (pgs_cons (pg_name (i := 7) sc_parse_panel.nd rfl (.inl rfl)) (pgs_cons (pg_name (i := 8) sc_parse_panel.nd rfl (.inl rfl)) pgs_nil))))
      (pss_one (ps_if (PW.pt (pw_and (pt_cmpR (show OpR _ _ (rEqA K) from op_eqA hr.units) (pv 7) pe_str (nomark _)) (pw_and (pt_cmpR op_lt (pe_callB (show CallR _ _ (rLenK K) from call_lenK) (by rfl) m_len (by decide +kernel) (pa_cons (pv 3) pa_nil)) (pe_glob (v := .int (8)) rfl g_ITEMS ⟨_, rfl⟩) (nomark _)) (pw_and (pt_cmpR (show OpR _ _ (rEqA K) from op_eqA hr.units) (pe_callB (show CallR _ _ (rLenK K) from call_lenK) (by rfl) m_len (by decide +kernel) (pa_cons (pv 4) pa_nil)) pe_int (nomark _)) (pw_and1 (pt_cmpR op_isN (pe_call G_item_fault (hr.mono (by omega)) (by rfl) g_item_fault F_item_fault.kp b_item_fault .nil pass0 (pa_cons (pv 5) (pa_cons (pv 8) pa_nil))) pe_non (nomark _))))))) (pss_one (ps_expr (pe_bm PySem.F.plainAttrs_list PySem.F.slot_list_append PySem.F.type_list_append mt_append (pv 3) (pa_cons (pv 8) pa_nil)))) (pss_one (ps_if (PW.pt (pw_and (pt_cmpR (show OpR _ _ (rEqA K) from op_eqA hr.units) (pv 7) pe_str (nomark _)) (pw_and (pt_cmpR op_lt (pe_callB (show CallR _ _ (rLenK K) from call_lenK) (by rfl) m_len (by decide +kernel) (pa_cons (pv 4) pa_nil)) (pe_glob (v := .int (16)) rfl g_RULES ⟨_, rfl⟩) (nomark _)) (pw_and1 (pt_cmpR op_isN (pe_call G_rule_fault (hr.mono (by omega)) (by rfl) g_rule_fault F_rule_fault.kp b_rule_fault .nil pass0 (pa_cons (pv 5) (pa_cons (pv 8) (pa_cons (pe_callB (show CallR _ _ (rLenK K) from call_lenK) (by rfl) m_len (by decide +kernel) (pa_cons (pv 3) pa_nil)) pa_nil)))) pe_non (nomark _)))))) (pss_one (ps_expr (pe_bm PySem.F.plainAttrs_list PySem.F.slot_list_append PySem.F.type_list_append mt_append (pv 4) (pa_cons (pv 8) pa_nil)))) (pss_one ps_never)))))))
      (pss_cons (ps_if (PW.pt (pw_or (pt_cmpR (show OpR _ _ (rNeA K) from op_neA hr.units) (pv 2) pe_str (nomark _)) (pw_or1 (pt_cmpR (show OpR _ _ (rEqA K) from op_eqA hr.units) (pe_callB (show CallR _ _ (rLenK K) from call_lenK) (by rfl) m_len (by decide +kernel) (pa_cons (pv 3) pa_nil)) pe_int (nomark _))))) (pss_one ps_never) pss_nil)
      (pss_one (ps_ret (pe_tup (pa_cons (pe_callTy (show CallR _ _ (rTupK K) from call_tupK) (by rfl) m_tuple (by decide +kernel) (pa_cons (pv 3) pa_nil)) (pa_cons (pe_callTy (show CallR _ _ (rTupK K) from call_tupK) (by rfl) m_tuple (by decide +kernel) (pa_cons (pv 4) pa_nil)) pa_nil)))))))))))), runP (N := N_parse_panel) (ss_seq (ss_if (st_not (st_b (se_isS _ (se_var 0)))) ss_never ss_nil)
      (ss_seq (ss_asg (SL.se (sl_split (se_var 0) (se_str _))) (sg_starO _ (sg_cons (sg_name 1) (sg_cons (sg_name 2) sg_nil))))
      (ss_seq (ss_if (st_test (se_op (os_ne _) (se_var 2) (se_str _))) (ss_app _ 1 (se_var 2)) ss_nil)
      (ss_seq (ss_own 3 (sl_lst sa_nil))
      (ss_seq (ss_own 4 (sl_lst sa_nil))
      (ss_seq (ss_frz 1 (ss_for (si_enum _ (sa_cons (se_var 1) sa_nil)) (sg_tup _ (sg_cons (sg_name 5) (sg_cons (sg_name 6) sg_nil))) (ss_seq (ss_asg (se_callP (sa_cons (se_var 6) sa_nil)) (sg_tup _ (sg_cons (sg_name 7) (sg_cons (sg_name 8) sg_nil))))
      (ss_if (st_and (st_test (se_op (os_eq _) (se_var 7) (se_str _))) (st_and (st_test (se_op os_lt (se_cb (cs_len _) (sa_cons (se_var 3) sa_nil)) (se_int _))) (st_and (st_test (se_op (os_eq _) (se_cb (cs_len _) (sa_cons (se_var 4) sa_nil)) (se_int _))) (st_test (se_op os_isN (se_callP (sa_cons (se_var 5) (sa_cons (se_var 8) sa_nil))) se_non))))) (ss_app _ 3 (se_var 8)) (ss_if (st_and (st_test (se_op (os_eq _) (se_var 7) (se_str _))) (st_and (st_test (se_op os_lt (se_cb (cs_len _) (sa_cons (se_var 4) sa_nil)) (se_int _))) (st_test (se_op os_isN (se_callP (sa_cons (se_var 5) (sa_cons (se_var 8) (sa_cons (se_cb (cs_len _) (sa_cons (se_var 3) sa_nil)) sa_nil)))) se_non)))) (ss_app _ 4 (se_var 8)) ss_never)))))
      (ss_seq (ss_if (st_or (st_test (se_op (os_ne _) (se_var 2) (se_str _))) (st_test (se_op (os_eq _) (se_cb (cs_len _) (sa_cons (se_var 3) sa_nil)) (se_int _)))) ss_never ss_nil)
      (ss_ret (se_tup (sa_cons (se_cb (cs_tup _) (sa_cons (se_var 3) sa_nil)) (sa_cons (se_cb (cs_tup _) (sa_cons (se_var 4) sa_nil)) sa_nil))))))))))) sub rs KK ?_⟩
    clear KK rs sub hr
    replace hS := sp1_inv hS
    obtain ⟨x1, rfl, hS⟩ := hS
    obtain ⟨its, rls, rfl, ok, hk⟩ := hS
    have n8 := ok.n8
    have r16 := ok.r16
    have ln : (pnW its rls).length = its.length + rls.length := by unfold pnW; rw [List.length_append, List.length_map, List.length_map]
    have lens : ∀ w ∈ pnW its rls, w.length ≤ 140 := fun w hw => by
      rcases List.mem_append.mp hw with h | h <;> obtain ⟨q, hq, rfl⟩ := List.mem_map.mp h
      · have := itW_len (q := q) ⟨by have := ok.mrk q hq; omega, by have := ok.wt q hq; omega⟩
        rw [List.length_append] at this; omega
      · have := rlW_len (q := q) ⟨by have := (ok.rl q hq).1; omega, by have := (ok.rl q hq).2.1; omega⟩
        rw [List.length_append] at this; omega
    have ltx : (pnL its rls).length ≤ 10000 := by
      have := sumLe (B := 141) (l := ((pnW its rls).map (· ++ [10])).map List.length) fun z hz => by
        obtain ⟨y, hy, rfl⟩ := List.mem_map.mp hz
        obtain ⟨w, hw, rfl⟩ := List.mem_map.mp hy
        have := lens w hw
        rw [List.length_append, List.length_singleton]; omega
      unfold pnL lnL
      rw [List.length_flatten]
      rw [List.length_map, List.length_map, ln] at this
      omega
    obtain ⟨W, hW⟩ : ∃ W : List PyData, W = (pnW its rls).map fun w => .str (S w) := ⟨_, rfl⟩
    rw [c_nl, c_nil, c_item, c_rule]
    refine ⟨(fun z => nomatch z), fun _ => ⟨⟨by decide, by rw [S_len]; omega⟩, ?_⟩⟩
    rw [split_D _ 10 (by decide), lines_pn, List.map_append, ← hW]
    have len : W.length = its.length + rls.length := by rw [hW, List.length_map, ln]
    have e1 : midV (W ++ [PyData.str (S [])]) 2 0 = W := by
      unfold midV
      rw [List.length_append, List.length_singleton, List.drop_zero, show W.length + 1 + 1 - 2 = W.length by omega, List.take_left]
    have e2 : restV (W ++ [PyData.str (S [])]) 2 0 = [.str (S [])] := by
      unfold restV
      rw [List.length_append, List.length_singleton, List.drop_zero, show W.length + 1 + 1 - 2 = W.length by omega, List.drop_left]
    refine ⟨_, rfl, by rw [List.length_append]; show 2 ≤ W.length + 1 + 1; omega, ?_⟩
    show dgCons (dgName 1) (dgCons (dgName 2) dgNil) ([] ++ [.p 0] ++ (restV (W ++ [PyData.str (S [])]) 2 0).map DV.d) _ ([] ++ [.lst (midV (W ++ [PyData.str (S [])]) 2 0)]) _
    rw [e1, e2]
    refine ⟨trivial, (fun z => by rw [eqB_S] at z; cases z), fun _ => ⟨by show 0 ≤ 1000000; decide, by show 0 ≤ 1000000; decide, ?_⟩⟩
    subst hW
    refine forE (fun w => PyData.str (S w)) [] (pnW its rls) (fun done e m => m = [.no, .lst ((its.take done.length).map itD), .lst ((rls.take (done.length - its.length)).map rlD)] ∧ ∃ y5 y6 y7 y8, e = [some (.d (.str (S (pnL its rls)))), some (.d (.list ((pnW its rls).map fun w => .str (S w)))), some (.d (.str (S []))), some (.p 1), some (.p 2), y5, y6, y7, y8]) ⟨by simp only [List.length_nil, Nat.zero_sub, List.take_zero, List.map_nil]; rfl, none, none, none, none, rfl⟩ (fun done i r e m hx hJ C hC => ?_) (fun e m hJ => ?_)
    · obtain ⟨rfl, y5, y6, y7, y8, rfl⟩ := hJ
      obtain ⟨rfl, hi⟩ := range_at hx
      rw [ln] at hi
      by_cases hlt : done.length < its.length
      · have t1 : (its.take (done.length + 1)).map itD = (its.take done.length).map itD ++ [itD (itm its done.length)] := by
          rw [List.take_succ, itm_get hlt, List.map_append]; rfl
        have bi := itm_mem hlt
        rw [pnW_it hlt]
        refine ⟨_, rfl, rfl, _, rfl, by have := lens (itW (itm its done.length)) (List.mem_append_left _ (List.mem_map.mpr ⟨_, bi, rfl⟩)); omega, ?_⟩
        rw [lnD_it]
        refine ⟨_, rfl, rfl, trivial, fun _ => ⟨_, rfl, fun _ => ⟨_, rfl, trivial, fun _ => ⟨_, rfl, ?_⟩, fun z => ?_⟩, fun z => ?_⟩, (fun z => by rw [eqB_S] at z; cases z)⟩
        · rw [itF_it _ ⟨ok.mrk _ bi, ok.wt _ bi⟩]
          refine ⟨fun _ => ⟨⟨_, rfl⟩, _, rfl, by rw [List.length_map, List.length_take]; omega, hC _ _ ⟨?_, _, _, _, _, rfl⟩⟩, fun z => nomatch z⟩
          rw [List.length_append, List.length_singleton, t1, show done.length + 1 - its.length = done.length - its.length by omega]
          rfl
        · exfalso
          have : (rls.take (done.length - its.length)).map rlD = [] := by rw [show done.length - its.length = 0 by omega]; rfl
          rw [this] at z
          cases z
        · exfalso
          have z := of_decide_eq_false z
          rw [List.length_map, List.length_take] at z
          omega
      · have hge : its.length ≤ done.length := by omega
        have h2 : done.length - its.length < rls.length := by omega
        have bi : rls.getD (done.length - its.length) (0, 0) ∈ rls := by rw [List.getD_eq_getElem?_getD, List.getElem?_eq_getElem h2]; exact List.getElem_mem h2
        have t1 : (rls.take (done.length + 1 - its.length)).map rlD = (rls.take (done.length - its.length)).map rlD ++ [rlD (rls.getD (done.length - its.length) (0, 0))] := by
          rw [show done.length + 1 - its.length = done.length - its.length + 1 by omega, List.take_succ, List.map_append, List.getD_eq_getElem?_getD, List.getElem?_eq_getElem h2]; rfl
        have t2 : its.take done.length = its := List.take_of_length_le hge
        have t3 : its.take (done.length + 1) = its := List.take_of_length_le (by omega)
        rw [pnW_rl hge h2, t2]
        refine ⟨_, rfl, rfl, _, rfl, by have := lens (rlW (rls.getD (done.length - its.length) (0, 0))) (List.mem_append_right _ (List.mem_map.mpr ⟨_, bi, rfl⟩)); omega, ?_⟩
        rw [lnD_rl]
        refine ⟨_, rfl, rfl, trivial, (fun z => by rw [eqB_S] at z; cases z), fun _ => ⟨(fun z => nomatch z), fun _ => ⟨trivial, fun _ => ⟨_, rfl, fun _ => ⟨_, rfl, _, its.length, rfl, by rw [List.length_map], ?_⟩, fun z => ?_⟩, (fun z => by rw [eqB_S] at z; cases z)⟩⟩⟩
        · obtain ⟨b1, b2, b3⟩ := ok.rl _ bi
          rw [rlF_rl _ b1 b2 b3]
          refine ⟨fun _ => ⟨⟨_, rfl⟩, _, rfl, by rw [List.length_map, List.length_take]; omega, hC _ _ ⟨?_, _, _, _, _, rfl⟩⟩, fun z => nomatch z⟩
          rw [List.length_append, List.length_singleton, t1, t3]
          rfl
        · exfalso
          have z := of_decide_eq_false z
          rw [List.length_map, List.length_take] at z
          omega
    · obtain ⟨rfl, y5, y6, y7, y8, rfl⟩ := hJ
      rw [List.length_range, ln, List.take_of_length_le (by omega), show its.length + rls.length - its.length = rls.length by omega, List.take_of_length_le (Nat.le_refl _)]
      refine ⟨trivial, (fun z => by rw [eqB_S] at z; cases z), fun _ => ⟨_, rfl, trivial, fun z => ?_, fun _ => ⟨_, rfl, _, rfl, by show 2 ≤ 1000000; decide, hk⟩⟩⟩
      have z := of_decide_eq_true z
      rw [List.length_map] at z
      have := ok.n1
      omega
/-! ### the law's own text of a panel -/
theorem row_add {w : List Nat} {base : List Nat} {i j : Int} {e : DEnv} {m : Mu} (E : DEnds) (h1 : lk e 1 = some (.d (.str (S base)))) (h2 : lk e 2 = some (.d (.str (S w)))) (h4 : lk e 4 = some (.d (.int i))) (h5 : lk e 5 = some (.d (.int j))) (z1 : i.natAbs < 10 ^ 64) (z2 : j.natAbs < 10 ^ 64) (hw : w.length ≤ 100) (hb : base.length ≤ 100000)
    (hE : E.nx (stt e 1 (some (.d (.str (S (base ++ (w ++ [32] ++ intL i ++ [32] ++ intL j ++ [10]))))))) m) :
    dAsg (dOp fAddS (dOp fAddS (dOp fAddS (dOp fAddS (dOp fAddS (dOp fAddS (dVar 1) (dVar 2)) (dC (.str (" " : Str)))) (dCB fStrI (dCons (dVar 4) dNil))) (dC (.str (" " : Str)))) (dCB fStrI (dCons (dVar 5) dNil))) (dC (.str ("\n" : Str)))) (dgName 1) E e m := by
  have m1 := intL_len (k := 64) (by decide) z1
  have m2 := intL_len (k := 64) (by decide) z2
  simp only [dAsg, dOp, dCB, dCons, dNil, dVar, dC, dgName, h1, h2, h4, h5, fAddS, fStrI, strI_eq, c_sp, c_nl, S_cat, S_len, List.length_append, List.length_cons, List.length_nil]
  refine ⟨by omega, by omega, lg19 (b64 z1), by omega, by omega, lg19 (b64 z2), by omega, by omega, ?_⟩
  simpa only [List.append_assoc] using hE
abbrev S__law_panel_text : SpP := sp1 fun a k => ∃ its rls, a = pnD its rls ∧ its.length ≤ 100 ∧ rls.length ≤ 100 ∧ (∀ q ∈ its, q.1.natAbs < 10 ^ 64 ∧ q.2.natAbs < 10 ^ 64) ∧ (∀ q ∈ rls, q.1 < 10 ^ 64 ∧ q.2 < 10 ^ 64) ∧ k (.d (.str (S (pnL its rls))))
abbrev s__law_panel_text : Stmt := topS 43
abbrev N__law_panel_text : List Str := ["_law_panel_here", "_law_found", "_law_word", "_law_rows", "_law_one", "_law_other"]
abbrev P__law_panel_text : List Str := ["_law_panel_here"]
theorem sc__law_panel_text : FnScope N__law_panel_text P__law_panel_text (defScope s__law_panel_text) := ⟨rfl, rfl, rfl, by decide +kernel, rfl, by decide +kernel, by decide +kernel⟩
set_option maxHeartbeats 8000000 in
theorem okD__law_panel_text (d : IsDef K mg "_law_panel_text" s__law_panel_text P__law_panel_text) (m_zip : mg "zip" = none) (m_str : mg "str" = none) : Ok P w K mg base 1 "_law_panel_text" s__law_panel_text P__law_panel_text (prP S__law_panel_text) := by
  obtain ⟨f0_, fd0_, D⟩ := d
  refine ⟨f0_, fd0_, D, D.F.ok sc__law_panel_text (fun vs H Q E h => ?_) (fun cdv A outer s H vs Q E hr h => ?_)⟩
  · obtain ⟨G, ds, k, _, rs, hS, _⟩ := h
    rw [rs.length]
    exact sp1_len hS
  · obtain ⟨G, ds, k, sub, rs, hS, KK⟩ := h
    refine ⟨_, (pss_cons (ps_set (i := 1) sc__law_panel_text.nd rfl (.inl rfl) pe_str)
      (pss_cons (ps_for PassesOwn.never rfl (show PI _ _ _ (iZ2 K _) from pi_z2 (by rfl) m_zip (pa_cons (pe_lst (pa_cons pe_str (pa_cons pe_str pa_nil))) (pa_cons (pv 0) pa_nil))) (show PG _ _ (gTup K 2 _) from pg_tup (n := 2) (by rfl) (pgs_cons (pg_name (i := 2) sc__law_panel_text.nd rfl (.inl rfl)) (pgs_cons (pg_name (i := 3) sc__law_panel_text.nd rfl (.inl rfl)) pgs_nil))) (pss_one (ps_for PassesOwn.never rfl (show PI _ _ _ (iSeq K _) from pi_seq (pv 3)) (show PG _ _ (gTup K 2 _) from pg_tup (n := 2) (by rfl) (pgs_cons (pg_name (i := 4) sc__law_panel_text.nd rfl (.inl rfl)) (pgs_cons (pg_name (i := 5) sc__law_panel_text.nd rfl (.inl rfl)) pgs_nil))) (pss_one (ps_set (i := 1) sc__law_panel_text.nd rfl (.inl rfl) (pe_op (show OpR _ _ rAddS from op_add_str) (pe_op (show OpR _ _ rAddS from op_add_str) (pe_op (show OpR _ _ rAddS from op_add_str) (pe_op (show OpR _ _ rAddS from op_add_str) (pe_op (show OpR _ _ rAddS from op_add_str) (pe_op (show OpR _ _ rAddS from op_add_str) (pv 1) (pv 2)) pe_str) (pe_callTy call_str_int (by rfl) m_str (by decide +kernel) (pa_cons (pv 4) pa_nil))) pe_str) (pe_callTy call_str_int (by rfl) m_str (by decide +kernel) (pa_cons (pv 5) pa_nil))) pe_str))))))
      (pss_one (ps_ret (pv 1))))), runP (N := N__law_panel_text) (ss_seq (ss_asg (se_str _) (sg_name 1))
      (ss_seq (ss_for (si_z2 _ (sa_cons (SL.se (sl_lst (sa_cons (se_str _) (sa_cons (se_str _) sa_nil)))) (sa_cons (se_var 0) sa_nil))) (sg_tup _ (sg_cons (sg_name 2) (sg_cons (sg_name 3) sg_nil))) (ss_for (si_seq _ (se_var 3)) (sg_tup _ (sg_cons (sg_name 4) (sg_cons (sg_name 5) sg_nil))) (ss_asg (se_op os_addS (se_op os_addS (se_op os_addS (se_op os_addS (se_op os_addS (se_op os_addS (se_var 1) (se_var 2)) (se_str _)) (se_cb cs_strI (sa_cons (se_var 4) sa_nil))) (se_str _)) (se_cb cs_strI (sa_cons (se_var 5) sa_nil))) (se_str _)) (sg_name 1))))
      (ss_ret (se_var 1)))) sub rs KK ?_⟩
    clear KK rs sub hr
    replace hS := sp1_inv hS
    obtain ⟨x1, rfl, hS⟩ := hS
    obtain ⟨its, rls, rfl, l1, l2, h1, h2, hk⟩ := hS
    have itx : ∀ l : List (Int × Int), (∀ q ∈ l, q.1.natAbs < 10 ^ 64 ∧ q.2.natAbs < 10 ^ 64) → (lnL (l.map itW)).length ≤ l.length * 140 := fun l hl => by
      have := sumLe (B := 140) (l := ((l.map itW).map (· ++ [10])).map List.length) fun z hz => by
        obtain ⟨y, hy, rfl⟩ := List.mem_map.mp hz
        obtain ⟨w, hw, rfl⟩ := List.mem_map.mp hy
        obtain ⟨q, hq, rfl⟩ := List.mem_map.mp hw
        exact itW_len (hl q hq)
      unfold lnL
      rw [List.length_flatten]
      simpa using this
    have rtx : ∀ l : List (Nat × Nat), (∀ q ∈ l, q.1 < 10 ^ 64 ∧ q.2 < 10 ^ 64) → (lnL (l.map rlW)).length ≤ l.length * 140 := fun l hl => by
      have := sumLe (B := 140) (l := ((l.map rlW).map (· ++ [10])).map List.length) fun z hz => by
        obtain ⟨y, hy, rfl⟩ := List.mem_map.mp hz
        obtain ⟨w, hw, rfl⟩ := List.mem_map.mp hy
        obtain ⟨q, hq, rfl⟩ := List.mem_map.mp hw
        exact rlW_len (hl q hq)
      unfold lnL
      rw [List.length_flatten]
      simpa using this
    have lnA : ∀ ps qs : List (List Nat), lnL (ps ++ qs) = lnL ps ++ lnL qs := fun ps qs => by unfold lnL; rw [List.map_append, List.flatten_append]
    have ln1 : ∀ p : List Nat, lnL [p] = p ++ [10] := fun p => by unfold lnL; simp
    rw [c_nil, c_item, c_rule]
    refine ⟨by show 2 ≤ 1000000; decide, _, _, rfl, rfl, ?_⟩
    have pp : pairs [PyData.str (S [105, 116, 101, 109]), .str (S [114, 117, 108, 101])] [.tuple (its.map itD), .tuple (rls.map rlD)] = [0, 1].map fun t : Nat => if t = 0 then .tuple [.str (S [105, 116, 101, 109]), .tuple (its.map itD)] else .tuple [.str (S [114, 117, 108, 101]), .tuple (rls.map rlD)] := rfl
    refine forL_eq (fun t : Nat => if t = 0 then .tuple [.str (S [105, 116, 101, 109]), .tuple (its.map itD)] else .tuple [.str (S [114, 117, 108, 101]), .tuple (rls.map rlD)]) [0, 1] pp (fun done e m => m = [] ∧ ∃ y2 y3 y4 y5, e = [some (.d (pnD its rls)), some (.d (.str (S (if done.length = 0 then [] else if done.length = 1 then lnL (its.map itW) else pnL its rls)))), y2, y3, y4, y5]) ⟨rfl, none, none, none, none, rfl⟩ (fun done t r e m hx hJ C hC => ?_) (fun e m hJ => ?_)
    · obtain ⟨rfl, y2, y3, y4, y5, rfl⟩ := hJ
      match done, hx with
      | [], hx =>
        obtain rfl : t = 0 := by injection hx with a b; exact a.symm
        show dgTup 2 _ (.d (.tuple [.str (S [105, 116, 101, 109]), .tuple (its.map itD)])) _ _ _
        refine ⟨_, rfl, rfl, ?_⟩
        refine forL itD its (fun d2 e m => m = [] ∧ ∃ y4 y5, e = [some (.d (pnD its rls)), some (.d (.str (S (lnL (d2.map itW))))), some (.d (.str (S [105, 116, 101, 109]))), some (.d (.tuple (its.map itD))), y4, y5]) ⟨rfl, _, _, rfl⟩ (fun d2 q r2 e m hx2 hJ C2 hC2 => ?_) (fun e m hJ => ?_)
        · obtain ⟨rfl, y4, y5, rfl⟩ := hJ
          have bq : q ∈ its := by rw [hx2]; simp
          have bl := itx d2 fun q hq => h1 q (by rw [hx2]; exact List.mem_append_left _ hq)
          have dl : d2.length ≤ 100 := by have := congrArg List.length hx2; rw [List.length_append] at this; omega
          have ee : lnL ((d2 ++ [q]).map itW) = lnL (d2.map itW) ++ ([105, 116, 101, 109] ++ [32] ++ intL q.1 ++ [32] ++ intL q.2 ++ [10]) := by
            rw [List.map_append, lnA]
            show _ ++ lnL [itW q] = _
            rw [ln1, ← itW_cat]
            rfl
          refine ⟨_, rfl, rfl, ?_⟩
          dsimp only [List.map_cons, List.map_nil, dgCons, dgNil, dgName, stt, nD]
          refine row_add (w := [105, 116, 101, 109]) (base := lnL (d2.map itW)) (i := q.1) (j := q.2) _ (by rfl) (by rfl) (by rfl) (by rfl) (h1 q bq).1 (h1 q bq).2 (by decide) (by omega) ?_
          rw [← ee]
          exact hC2 _ _ ⟨rfl, _, _, rfl⟩
        · obtain ⟨rfl, y4, y5, rfl⟩ := hJ
          exact hC _ _ ⟨rfl, _, _, _, _, rfl⟩
      | [t0], hx =>
        obtain ⟨rfl, rfl⟩ : t0 = 0 ∧ t = 1 := by injection hx with a b; injection b with b c; exact ⟨a.symm, b.symm⟩
        show dgTup 2 _ (.d (.tuple [.str (S [114, 117, 108, 101]), .tuple (rls.map rlD)])) _ _ _
        refine ⟨_, rfl, rfl, ?_⟩
        refine forL rlD rls (fun d2 e m => m = [] ∧ ∃ y4 y5, e = [some (.d (pnD its rls)), some (.d (.str (S (lnL (its.map itW) ++ lnL (d2.map rlW))))), some (.d (.str (S [114, 117, 108, 101]))), some (.d (.tuple (rls.map rlD))), y4, y5]) ⟨rfl, _, _, by rw [show lnL (([] : List (Nat × Nat)).map rlW) = [] from rfl, List.append_nil]; rfl⟩ (fun d2 q r2 e m hx2 hJ C2 hC2 => ?_) (fun e m hJ => ?_)
        · obtain ⟨rfl, y4, y5, rfl⟩ := hJ
          have bq : q ∈ rls := by rw [hx2]; simp
          have bi := itx its h1
          have bl := rtx d2 fun q hq => h2 q (by rw [hx2]; exact List.mem_append_left _ hq)
          have dl : d2.length ≤ 100 := by have := congrArg List.length hx2; rw [List.length_append] at this; omega
          have ee : lnL (its.map itW) ++ lnL ((d2 ++ [q]).map rlW) = lnL (its.map itW) ++ lnL (d2.map rlW) ++ ([114, 117, 108, 101] ++ [32] ++ intL q.1 ++ [32] ++ intL q.2 ++ [10]) := by
            rw [List.map_append, lnA, List.append_assoc]
            show _ ++ (_ ++ lnL [rlW q]) = _
            rw [ln1, ← rlW_cat]
            rfl
          refine ⟨_, rfl, rfl, ?_⟩
          dsimp only [List.map_cons, List.map_nil, dgCons, dgNil, dgName, stt, nD]
          refine row_add (w := [114, 117, 108, 101]) (base := lnL (its.map itW) ++ lnL (d2.map rlW)) (i := (q.1 : Int)) (j := (q.2 : Int)) _ (by rfl) (by rfl) (by rfl) (by rfl) (by have := (h2 q bq).1; omega) (by have := (h2 q bq).2; omega) (by decide) (by rw [List.length_append]; omega) ?_
          rw [← ee]
          exact hC2 _ _ ⟨rfl, _, _, rfl⟩
        · obtain ⟨rfl, y4, y5, rfl⟩ := hJ
          have e : lnL (its.map itW) ++ lnL (rls.map rlW) = pnL its rls := by unfold pnL pnW; rw [lnA]
          rw [e]
          exact hC _ _ ⟨rfl, _, _, _, _, rfl⟩
      | t0 :: t1 :: d, hx =>
        exfalso
        have := congrArg List.length hx
        simp at this
    · obtain ⟨rfl, y2, y3, y4, y5, rfl⟩ := hJ
      exact hk
end
end PM

/-! panels as data: equality, plainness; texts of signs below 128 -/
namespace PM
open PySem PySem.Spec PyProof.Rows L2 RZ SX
theorem eqv_rl (p q : Nat × Nat) : PyData.eqv (rlD p) (rlD q) = decide (p = q) := by
  have e : PyData.eqv (rlD p) (rlD q) = (((p.1 : Int) == (q.1 : Int)) && (((p.2 : Int) == (q.2 : Int)) && true)) := by
    show PyData.eqv (.tuple [.int _, .int _]) (.tuple [.int _, .int _]) = _
    simp only [PyData.eqv, PyData.eqvAll]
  rw [e]
  obtain ⟨a, b⟩ := p
  obtain ⟨c, d⟩ := q
  rw [Bool.eq_iff_iff]
  simp only [Bool.and_true, Bool.and_eq_true, beq_iff_eq, decide_eq_true_eq, Prod.mk.injEq]
  omega
theorem eqv_pn (p q : List (Int × Int) × List (Nat × Nat)) : PyData.eqv (pnD p.1 p.2) (pnD q.1 q.2) = decide (p = q) := by
  have e : PyData.eqv (pnD p.1 p.2) (pnD q.1 q.2) = (PyData.eqvAll (p.1.map itD) (q.1.map itD) && (PyData.eqvAll (p.2.map rlD) (q.2.map rlD) && true)) := by
    unfold pnD
    simp only [PyData.eqv, PyData.eqvAll]
  rw [e, eqvAll_map eqv_it, eqvAll_map eqv_rl, Bool.and_true]
  obtain ⟨a, b⟩ := p
  obtain ⟨c, d⟩ := q
  by_cases h1 : a = c <;> by_cases h2 : b = d <;> simp [h1, h2]
theorem pn_plain {its : List (Int × Int)} {rls : List (Nat × Nat)} (h1 : its.length ≤ 1000) (h2 : rls.length ≤ 1000) : plainD (pnD its rls) = true := by
  have e1 : plainD (.tuple (its.map itD)) = true := Bool.and_eq_true_iff.mpr ⟨decide_eq_true (by rw [List.length_map]; exact h1), plain_map fun q _ => rfl⟩
  have e2 : plainD (.tuple (rls.map rlD)) = true := Bool.and_eq_true_iff.mpr ⟨decide_eq_true (by rw [List.length_map]; exact h2), plain_map fun q _ => rfl⟩
  show (decide (2 ≤ 1000) && (plainD _ && (plainD _ && true))) = true
  rw [e1, e2]
  rfl
theorem pn_dep (its : List (Int × Int)) (rls : List (Nat × Nat)) : dep (pnD its rls) ≤ 3 := by
  have d1 : dep (.tuple (its.map itD)) ≤ 2 := Nat.add_le_add_right (depL_map (n := 1) fun i _ => by show max 0 (max 0 0) + 1 ≤ 1; decide) 1
  have d2 : dep (.tuple (rls.map rlD)) ≤ 2 := Nat.add_le_add_right (depL_map (n := 1) fun i _ => by show max 0 (max 0 0) + 1 ≤ 1; decide) 1
  show max (dep _) (max (dep _) 0) + 1 ≤ 3
  omega
/-! ### texts of signs below 128 -/
theorem asc_ok {l : List Nat} (h : ∀ c ∈ l, c < 128) : plainD (.str (S l)) = true := by
  show PyData.strOk (S l) = true
  unfold PyData.strOk
  rw [List.all_toArray, List.all_eq_true]
  exact fun c hc => decide_eq_true (by have := h c hc; omega)
theorem intL_asc (i : Int) : ∀ c ∈ intL i, c < 128 := fun c hc => by
  unfold intL at hc
  split at hc
  · rcases List.mem_cons.mp hc with h | h
    · omega
    · have := TL.numL_digits _ c h; omega
  · have := TL.numL_digits _ c hc; omega
theorem frL_asc (x : Int × Int) : ∀ c ∈ frL x, c < 128 := fun c hc => by
  unfold frL at hc
  rcases List.mem_append.mp hc with h | h
  · exact intL_asc _ c h
  · split at h
    · cases h
    · rcases List.mem_cons.mp h with h | h
      · omega
      · exact intL_asc _ c h
theorem joinL_mem {s : Nat} : ∀ {ps : List (List Nat)} {c : Nat}, c ∈ TL.joinL [s] ps → c = s ∨ ∃ p ∈ ps, c ∈ p
  | [], _, h => by cases h
  | [p], _, h => .inr ⟨p, by simp, h⟩
  | p :: q :: r, c, h => by
    have h : c ∈ p ++ ([s] ++ TL.joinL [s] (q :: r)) := h
    rcases List.mem_append.mp h with h | h
    · exact .inr ⟨p, by simp, h⟩
    · rcases List.mem_append.mp h with h | h
      · exact .inl (List.mem_singleton.mp h)
      · rcases joinL_mem h with z | ⟨w, hw, z⟩
        · exact .inl z
        · exact .inr ⟨w, List.mem_cons_of_mem _ hw, z⟩
theorem rtL_asc (xs : List (Int × Int)) : ∀ c ∈ rtL xs, c < 128 := fun c hc => by
  rcases joinL_mem hc with h | ⟨p, hp, h⟩
  · omega
  · obtain ⟨x, _, rfl⟩ := List.mem_map.mp hp
    exact frL_asc x c h
theorem pnL_asc (its : List (Int × Int)) (rls : List (Nat × Nat)) : ∀ c ∈ pnL its rls, c < 128 := fun c hc => by
  unfold pnL lnL at hc
  obtain ⟨l, hl, h⟩ := List.mem_flatten.mp hc
  obtain ⟨p, hp, rfl⟩ := List.mem_map.mp hl
  rcases List.mem_append.mp h with h | h
  · rcases List.mem_append.mp hp with w | w <;> obtain ⟨q, _, rfl⟩ := List.mem_map.mp w
    all_goals
      rcases joinL_mem h with z | ⟨p, hp, z⟩
      · omega
      · simp only [List.mem_cons, List.not_mem_nil, or_false] at hp
        rcases hp with rfl | rfl | rfl
        · simp only [List.mem_cons, List.not_mem_nil, or_false] at z; omega
        · exact intL_asc _ c z
        · exact intL_asc _ c z
  · rw [List.mem_singleton.mp h]; omega
theorem joinL_len {s : Nat} : ∀ ps : List (List Nat), (TL.joinL [s] ps).length ≤ (ps.map List.length).sum + ps.length
  | [] => Nat.zero_le _
  | [p] => by show p.length ≤ (p.length + 0) + 1; omega
  | p :: q :: r => by
    have := joinL_len (s := s) (q :: r)
    show (p ++ ([s] ++ TL.joinL [s] (q :: r))).length ≤ (p.length + ((q :: r).map List.length).sum) + ((q :: r).length + 1)
    rw [List.length_append, List.length_append]
    show _ + (1 + _) ≤ _
    omega
end PM

namespace PM
open PySem PySem.Spec PyProof.Rows L2 RZ
section
variable {P : Program} {w : World} {K : PySem.W.Frag} {mg : Str → Option Value} {base : Heap}
open SX
abbrev s_law : Stmt := topS 44
abbrev N_law : List Str := ["_law_script", "_law_drawn", "_law_some", "_law_turn", "_law_panel_here", "_law_rating", "_law_kept", "_law_text", "_law_fraction_here", "_law_words", "_law_found", "_law_one", "_law_k", "_law_other"]
abbrev P_law : List Str := ["_law_script"]
theorem sc_law : FnScope N_law P_law (defScope s_law) := ⟨rfl, rfl, rfl, by decide +kernel, rfl, by decide +kernel, by decide +kernel⟩
set_option maxHeartbeats 8000000 in
theorem ok_law {fa : Addr} {cdv : Value} {sh : Shared} {H : Hp} {a : Addr} {ns : List Int} (hl : ns.length ≤ 63) (hS : SqL K H a (ns.map V.int)) (hr : Room 9 (callerA.deeper (envOfC "law" (defScope s_law) sh.heap.objs.size fa cdv))) (h__law_draws : Ok P w K mg base 1 "_law_draws" s__law_draws P__law_draws (sp__law_draws K)) (h__law_panel : Ok P w K mg base 4 "_law_panel" s__law_panel P__law_panel (prN S__law_panel)) (h_format_rating : Ok P w K mg base 3 "format_rating" s_format_rating P_format_rating (prP S_format_rating)) (h__law_panel_text : Ok P w K mg base 1 "_law_panel_text" s__law_panel_text P__law_panel_text (prP S__law_panel_text)) (h__law_equal : Ok P w K mg base 8 "_law_equal" s__law_equal P__law_equal (prP S__law_equal)) (h__law_fraction : Ok P w K mg base 2 "_law_fraction" s__law_fraction P__law_fraction (prN S__law_fraction)) (h__law_fraction_text : Ok P w K mg base 1 "_law_fraction_text" s__law_fraction_text P__law_fraction_text (prP S__law_fraction_text)) (h_format_panel : Ok P w K mg base 1 "format_panel" s_format_panel P_format_panel (prP S_format_panel)) (h_parse_panel : Ok P w K mg base 4 "parse_panel" s_parse_panel P_parse_panel (prP S_parse_panel)) (h_parse_rating : Ok P w K mg base 4 "parse_rating" s_parse_rating P_parse_rating (prP S_parse_rating)) (h_format_fraction : Ok P w K mg base 2 "format_fraction" s_format_fraction P_format_fraction (prP S_format_fraction)) (h__law_next : Ok P w K mg base 1 "_law_next" s__law_next P__law_next (prN S__law_next)) (m_range : mg "range" = none) (m_repr : mg "repr" = none) (m_tuple : mg "tuple" = none) :
    ∃ t, PSs (cxOf CX0 P w K mg base N_law "law" (defScope s_law) fa cdv callerA [] sh H E0).nox (defBody s_law) t ∧ t { nx := fun _ _ => V.non = .bl true, rt := fun v _ => v = .bl true } (start N_law [.ref a]) H := by
  obtain ⟨f__law_draws, fd__law_draws, ⟨F__law_draws, b__law_draws, g__law_draws⟩, G__law_draws⟩ := h__law_draws
  obtain ⟨f__law_panel, fd__law_panel, ⟨F__law_panel, b__law_panel, g__law_panel⟩, G__law_panel⟩ := h__law_panel
  obtain ⟨f_format_rating, fd_format_rating, ⟨F_format_rating, b_format_rating, g_format_rating⟩, G_format_rating⟩ := h_format_rating
  obtain ⟨f__law_panel_text, fd__law_panel_text, ⟨F__law_panel_text, b__law_panel_text, g__law_panel_text⟩, G__law_panel_text⟩ := h__law_panel_text
  obtain ⟨f__law_equal, fd__law_equal, ⟨F__law_equal, b__law_equal, g__law_equal⟩, G__law_equal⟩ := h__law_equal
  obtain ⟨f__law_fraction, fd__law_fraction, ⟨F__law_fraction, b__law_fraction, g__law_fraction⟩, G__law_fraction⟩ := h__law_fraction
  obtain ⟨f__law_fraction_text, fd__law_fraction_text, ⟨F__law_fraction_text, b__law_fraction_text, g__law_fraction_text⟩, G__law_fraction_text⟩ := h__law_fraction_text
  obtain ⟨f_format_panel, fd_format_panel, ⟨F_format_panel, b_format_panel, g_format_panel⟩, G_format_panel⟩ := h_format_panel
  obtain ⟨f_parse_panel, fd_parse_panel, ⟨F_parse_panel, b_parse_panel, g_parse_panel⟩, G_parse_panel⟩ := h_parse_panel
  obtain ⟨f_parse_rating, fd_parse_rating, ⟨F_parse_rating, b_parse_rating, g_parse_rating⟩, G_parse_rating⟩ := h_parse_rating
  obtain ⟨f_format_fraction, fd_format_fraction, ⟨F_format_fraction, b_format_fraction, g_format_fraction⟩, G_format_fraction⟩ := h_format_fraction
  obtain ⟨f__law_next, fd__law_next, ⟨F__law_next, b__law_next, g__law_next⟩, G__law_next⟩ := h__law_next
  refine ⟨_, (pss_cons (ps_set (i := 1) sc_law.nd rfl (.inr rfl) (pe_call G__law_draws (hr.mono (by omega)) (by rfl) g__law_draws F__law_draws.kp b__law_draws .nil pass0 (pa_cons (pv 0) pa_nil)))
      (pss_cons (ps_set (i := 2) sc_law.nd rfl (.inl rfl) (pe_lst pa_nil))
      (pss_cons (ps_for PassesOwn.never rfl (pi_range1 (by rfl) m_range (pa_cons pe_int pa_nil)) (pg_name (i := 3) sc_law.nd rfl (.inl rfl)) (pss_cons (ps_set (i := 4) sc_law.nd rfl (.inl rfl) (pe_call G__law_panel (hr.mono (by omega)) (by rfl) g__law_panel F__law_panel.kp b__law_panel .nil pass0 (pa_cons (pv 1) (pa_cons pe_int pa_nil))))
      (pss_cons (ps_set (i := 5) sc_law.nd rfl (.inl rfl) (pe_callTy (show CallR _ _ (rTupK K) from call_tupK) (by rfl) m_tuple (by decide +kernel) (pa_cons (pe_lc (own := [("_law_k", 12)]) (g := (gName 12)) (by rfl) sc_law.nd (pi_range1 (by rfl) m_range (pa_cons (pe_op (show OpR _ _ (rAddA K) from op_addA) pe_int (pe_call G__law_next (hr.mono (by omega)) (by rfl) g__law_next F__law_next.kp b__law_next .nil pass0 (pa_cons (pv 1) (pa_cons pe_int pa_nil)))) pa_nil)) (blkOk_by (own := [("_law_k", 12)]) (N := N_law) (sc := defScope s_law) (by decide +kernel)) (fun _ _ _ _ _ => by exact (pg_name (i := 12) sc_law.nd rfl (by first | exact .inl rfl | exact .inr rfl))) (fun _ _ _ _ _ => pts_nil) (fun _ _ _ _ _ => by exact (pe_call G__law_fraction (hr.mono (by omega)) (by rfl) g__law_fraction F__law_fraction.kp b__law_fraction .nil pass0 (pa_cons (pv 1) pa_nil)))) pa_nil)))
      (pss_cons (ps_par (i := 6) (j := 7) (by rfl) sc_law.nd rfl rfl (by decide) rfl rfl (pa_cons (pe_callB (call_repr rfl hr.units) (by rfl) m_repr (by decide +kernel) (pa_cons (pe_lst (pa_cons (pv 4) (pa_cons (pv 5) pa_nil))) pa_nil)) (pa_cons (pe_call G__law_panel_text (hr.mono (by omega)) (by rfl) g__law_panel_text F__law_panel_text.kp b__law_panel_text .nil pass0 (pa_cons (pv 4) pa_nil)) pa_nil)) (by rfl))
      (pss_cons (ps_if (pt_not (pt_val (pe_call G__law_equal (hr.mono (by omega)) (by rfl) g__law_equal F__law_equal.kp b__law_equal .nil pass0 (pa_cons (pe_tup (pa_cons (pe_call G_format_panel (hr.mono (by omega)) (by rfl) g_format_panel F_format_panel.kp b_format_panel .nil pass0 (pa_cons (pv 4) pa_nil)) (pa_cons (pe_call G_parse_panel (hr.mono (by omega)) (by rfl) g_parse_panel F_parse_panel.kp b_parse_panel .nil pass0 (pa_cons (pv 7) pa_nil)) pa_nil))) (pa_cons (pe_tup (pa_cons (pv 7) (pa_cons (pv 4) pa_nil))) pa_nil))))) (pss_one (ps_ret pe_bl)) pss_nil)
      (pss_cons (ps_set (i := 9) sc_law.nd rfl (.inl rfl) (show PE _ _ (tM1 (rJoinK K) _ _) from pe_join pe_str (pe_lc (own := [("_law_fraction_here", 8)]) (g := (gName 8)) (by rfl) sc_law.nd (show PI _ _ _ (iSeq K _) from pi_seq (pv 5)) (blkOk_by (own := [("_law_fraction_here", 8)]) (N := N_law) (sc := defScope s_law) (by decide +kernel)) (fun _ _ _ _ _ => by exact (pg_name (i := 8) sc_law.nd rfl (by first | exact .inl rfl | exact .inr rfl))) (fun _ _ _ _ _ => pts_nil) (fun _ _ _ _ _ => by exact (pe_call G__law_fraction_text (hr.mono (by omega)) (by rfl) g__law_fraction_text F__law_fraction_text.kp b__law_fraction_text .nil pass0 (pa_cons (pv 8) pa_nil))))))
      (pss_cons (ps_set (i := 10) sc_law.nd rfl (.inl rfl) (pe_call G_format_rating (hr.mono (by omega)) (by rfl) g_format_rating F_format_rating.kp b_format_rating .nil pass0 (pa_cons (pv 5) pa_nil)))
      (pss_cons (ps_if (pt_not (pt_val (pe_call G__law_equal (hr.mono (by omega)) (by rfl) g__law_equal F__law_equal.kp b__law_equal .nil pass0 (pa_cons (pe_tup (pa_cons (pv 10) (pa_cons (pe_call G_parse_rating (hr.mono (by omega)) (by rfl) g_parse_rating F_parse_rating.kp b_parse_rating .nil pass0 (pa_cons (pv 10) pa_nil)) pa_nil))) (pa_cons (pe_tup (pa_cons (pv 9) (pa_cons (pv 5) pa_nil))) pa_nil))))) (pss_one (ps_ret pe_bl)) pss_nil)
      (pss_cons (ps_for PassesOwn.never rfl (show PI _ _ _ (iSeq K _) from pi_seq (pe_op (show OpR _ _ (rAddA K) from op_addA) (pv 5) (pe_tup (pa_cons (pe_tup (pa_cons pe_int (pa_cons pe_int pa_nil))) (pa_cons (pe_tup (pa_cons (pe_un un_neg pe_int) (pa_cons pe_int pa_nil))) (pa_cons (pe_tup (pa_cons (pe_un un_neg pe_int) (pa_cons pe_int pa_nil))) pa_nil)))))) (pg_name (i := 8) sc_law.nd rfl (.inl rfl)) (pss_one (ps_if (pt_not (pt_val (pe_call G__law_equal (hr.mono (by omega)) (by rfl) g__law_equal F__law_equal.kp b__law_equal .nil pass0 (pa_cons (pe_call G_format_fraction (hr.mono (by omega)) (by rfl) g_format_fraction F_format_fraction.kp b_format_fraction .nil pass0 (pa_cons (pv 8) pa_nil)) (pa_cons (pe_call G__law_fraction_text (hr.mono (by omega)) (by rfl) g__law_fraction_text F__law_fraction_text.kp b__law_fraction_text .nil pass0 (pa_cons (pv 8) pa_nil)) pa_nil))))) (pss_one (ps_ret pe_bl)) pss_nil)))
      (pss_cons (ps_if (pt_cmpR (show OpR _ _ (rNeA K) from op_neA hr.units) (pe_callB (call_repr rfl hr.units) (by rfl) m_repr (by decide +kernel) (pa_cons (pe_lst (pa_cons (pv 4) (pa_cons (pv 5) pa_nil))) pa_nil)) (pv 6) (nomark _)) (pss_one (ps_ret pe_bl)) pss_nil)
      (pss_one (ps_expr (pe_bm PySem.F.plainAttrs_list PySem.F.slot_list_append PySem.F.type_list_append mt_append (pv 2) (pa_cons (pv 4) pa_nil))))))))))))))
      (pss_cons (ps_for PassesOwn.never rfl (show PI _ _ _ (iSeq K _) from pi_seq (pv 2)) (pg_name (i := 11) sc_law.nd rfl (.inr rfl)) (pss_one (ps_if (pt_cmpR (show OpR _ _ (rNeA K) from op_neA hr.units) (pe_lc (own := [("_law_other", 13)]) (g := (gName 13)) (by rfl) sc_law.nd (show PI _ _ _ (iSeq K _) from pi_seq (pv 2)) (blkOk_by (own := [("_law_other", 13)]) (N := N_law) (sc := defScope s_law) (by decide +kernel)) (fun _ _ _ _ _ => by exact (pg_name (i := 13) sc_law.nd rfl (by first | exact .inl rfl | exact .inr rfl))) (fun _ _ _ _ _ => (pts_one (pt_cmpR (show OpR _ _ (rNeA K) from op_neA hr.units) (pe_cmpR (show OpR _ _ (rEqA K) from op_eqA hr.units) (pe_call G_format_panel (hr.mono (by omega)) (by rfl) g_format_panel F_format_panel.kp b_format_panel .nil pass0 (pa_cons (pv 11) pa_nil)) (pe_call G_format_panel (hr.mono (by omega)) (by rfl) g_format_panel F_format_panel.kp b_format_panel .nil pass0 (pa_cons (pv 13) pa_nil)) (nomark _)) (pe_cmpR (show OpR _ _ (rEqA K) from op_eqA hr.units) (pv 11) (pv 13) (nomark _)) (nomark _)))) (fun _ _ _ _ _ => by exact pe_int)) (pe_lst pa_nil) (nomark _)) (pss_one (ps_ret pe_bl)) pss_nil)))
      (pss_one (ps_ret pe_bl)))))), ?_⟩
  refine ⟨.ref a, rfl, a, ns, rfl, hS, hl, fun H1 pa c r s1 _ _ _ dr => ?_⟩
  refine runL (n := 12) (ss_seq (ss_own 2 (sl_lst sa_nil))
      (ss_seq (ss_for (si_rng1 (sa_cons (se_int _) sa_nil)) (sg_name 3) (ss_seq (ss_asg (se_callN (sa_cons (se_var 1) (sa_cons (se_int _) sa_nil))) (sg_name 4))
      (ss_seq (ss_asg (se_cb (cs_tup _) (sa_cons (SL.se (sl_lc (vs := [12]) (si_rng1 (sa_cons (se_op (os_addA _) (se_int _) (se_callN (sa_cons (se_var 1) (sa_cons (se_int _) sa_nil)))) sa_nil)) (sg_name 12) (gw_name (i := 12) (by decide)) st_yes (se_callN (sa_cons (se_var 1) sa_nil)))) sa_nil)) (sg_name 5))
      (ss_seq (ss_par 6 7 (sa_cons (se_cb cs_repr (sa_cons (SL.se (sl_lst (sa_cons (se_var 4) (sa_cons (se_var 5) sa_nil)))) sa_nil)) (sa_cons (se_callP (sa_cons (se_var 4) sa_nil)) sa_nil)))
      (ss_seq (ss_if (st_not (st_b (se_callP (sa_cons (se_tup (sa_cons (se_callP (sa_cons (se_var 4) sa_nil)) (sa_cons (se_callP (sa_cons (se_var 7) sa_nil)) sa_nil))) (sa_cons (se_tup (sa_cons (se_var 7) (sa_cons (se_var 4) sa_nil))) sa_nil))))) (ss_ret (se_bl _)) ss_nil)
      (ss_seq (ss_asg (se_join _ (se_str _) (SL.se (sl_lc (vs := [8]) (si_seq _ (se_var 5)) (sg_name 8) (gw_name (i := 8) (by decide)) st_yes (se_callP (sa_cons (se_var 8) sa_nil))))) (sg_name 9))
      (ss_seq (ss_asg (se_callP (sa_cons (se_var 5) sa_nil)) (sg_name 10))
      (ss_seq (ss_if (st_not (st_b (se_callP (sa_cons (se_tup (sa_cons (se_var 10) (sa_cons (se_callP (sa_cons (se_var 10) sa_nil)) sa_nil))) (sa_cons (se_tup (sa_cons (se_var 9) (sa_cons (se_var 5) sa_nil))) sa_nil))))) (ss_ret (se_bl _)) ss_nil)
      (ss_seq (ss_for (si_seq _ (se_op (os_addA _) (se_var 5) (se_tup (sa_cons (se_tup (sa_cons (se_int _) (sa_cons (se_int _) sa_nil))) (sa_cons (se_tup (sa_cons (se_un us_neg (se_int _)) (sa_cons (se_int _) sa_nil))) (sa_cons (se_tup (sa_cons (se_un us_neg (se_int _)) (sa_cons (se_int _) sa_nil))) sa_nil)))))) (sg_name 8) (ss_if (st_not (st_b (se_callP (sa_cons (se_callP (sa_cons (se_var 8) sa_nil)) (sa_cons (se_callP (sa_cons (se_var 8) sa_nil)) sa_nil))))) (ss_ret (se_bl _)) ss_nil))
      (ss_seq (ss_if (st_test (se_op (os_ne _) (se_cb cs_repr (sa_cons (SL.se (sl_lst (sa_cons (se_var 4) (sa_cons (se_var 5) sa_nil)))) sa_nil)) (se_var 6))) (ss_ret (se_bl _)) ss_nil)
      (ss_app _ 2 (se_var 4))))))))))))
      (ss_seq (ss_frz 2 (ss_for (si_seq _ (se_var 2)) (sg_name 11) (ss_if (st_test (se_op (os_ne _) (SL.se (sl_lc (vs := [13]) (si_seq _ (se_var 2)) (sg_name 13) (gw_name (i := 13) (by decide)) (st_test (se_op (os_ne _) (se_op (os_eq _) (se_callP (sa_cons (se_var 11) sa_nil)) (se_callP (sa_cons (se_var 13) sa_nil))) (se_op (os_eq _) (se_var 11) (se_var 13)))) (se_int _))) (SL.se (sl_lst sa_nil)))) (ss_ret (se_bl _)) ss_nil)))
      (ss_ret (se_bl _))))) dr rfl rfl ?_
  clear hS hl hr dr s1
  refine ⟨by show 0 ≤ 1000000; decide, ⟨by decide, by decide⟩, ?_⟩
  refine forL (fun i : Nat => .int (0 + (i : Nat))) (List.range 5) (fun done e m => ∃ (j : Nat) (ps : List (List (Int × Int) × List (Nat × Nat))) (y3 y4 y5 y6 y7 y8 y9 y10 y11 y12 y13 : Option DV), j ≤ 1000 * done.length ∧ (∀ p ∈ ps, PanOk 8 p.1 p.2) ∧ ps.length = done.length ∧ m = [.drw j, .lst (ps.map fun p => pnD p.1 p.2)] ∧ e = [none, some (.p 0), some (.p 1), y3, y4, y5, y6, y7, y8, y9, y10, y11, y12, y13]) ⟨0, [], none, none, none, none, none, none, none, none, none, none, none, by decide, (fun p hp => nomatch hp), rfl, rfl, rfl⟩ (fun done x r e m hx hJ C hC => ?_) (fun e m hJ => ?_)
  · obtain ⟨j, ps, y3, y4, y5, y6, y7, y8, y9, y10, y11, y12, y13, hj, hps, lps, rfl, rfl⟩ := hJ
    obtain ⟨rfl, hx5⟩ := range_at hx
    refine ⟨8, rfl, by decide, by decide, by omega, fun its rls j' hj' ok => ?_⟩
    have l8 := ok.n8
    have l16 := ok.r16
    have i64 : ∀ q ∈ its, q.1.natAbs < 10 ^ 64 ∧ q.2.natAbs < 10 ^ 64 := fun q hq => ⟨by have := ok.mrk q hq; omega, by have := ok.wt q hq; omega⟩
    have r64 : ∀ q ∈ rls, q.1 < 10 ^ 64 ∧ q.2 < 10 ^ 64 := fun q hq => ⟨by have := (ok.rl q hq).1; omega, by have := (ok.rl q hq).2.1; omega⟩
    refine ⟨8, rfl, by omega, by decide, by decide, fun v v0 v1 => ⟨⟨by omega, by omega⟩, ?_⟩⟩
    obtain ⟨n, hn⟩ : ∃ n : Nat, n = (1 + v).toNat := ⟨_, rfl⟩
    rw [← hn]
    refine lcJ (fun i : Nat => .int (0 + (i : Nat))) (List.range n) (by rw [List.length_range]; omega) (fun d acc m => ∃ xs : List (Int × Int), xs.length = d.length ∧ (∀ x ∈ xs, Fr.IsF x ∧ Fr.Sz 100 x) ∧ acc = xs.map fd ∧ m = [.drw (j' + 1 + 3 * d.length), .lst (ps.map fun p => pnD p.1 p.2)]) ⟨[], rfl, (fun a h => nomatch h), rfl, rfl⟩ (fun d q r acc m hd hJ C2 C0 h2 h0 => ?_) (fun acc m hJ => ?_)
    · obtain ⟨xs, hl, ha, rfl, rfl⟩ := hJ
      obtain ⟨rfl, hd8⟩ := range_at hd
      refine ⟨fun _ => ⟨by omega, fun y fy zy => h2 _ _ ⟨xs ++ [y], by rw [List.length_append, List.length_append, hl]; rfl, fun r hr' => ?_, by rw [List.map_append]; rfl, ?_⟩⟩, fun z => nomatch z⟩
      · rcases List.mem_append.mp hr' with h | h
        · exact ha r h
        · rw [List.mem_singleton.mp h]
          exact ⟨fy, zy⟩
      · rw [List.length_append, List.length_singleton, show j' + 1 + 3 * (d.length + 1) = j' + 1 + 3 * d.length + 3 by omega]
    obtain ⟨xs, hl, ha, rfl, rfl⟩ := hJ
    rw [List.length_range] at hl ⊢
    have xn : xs ≠ [] := fun e => by rw [e, List.length_nil] at hl; omega
    have x8 : xs.length ≤ 8 := by omega
    have x64 : ∀ x ∈ xs, x.1.natAbs < 10 ^ 64 ∧ x.2.natAbs < 10 ^ 64 := fun x hx => by
      have z := (ha x hx).2
      have t : 2 ^ 100 < 10 ^ 64 := by decide
      exact ⟨Nat.lt_trans z.1 t, Nat.lt_trans z.2 t⟩
    have shw : Shw (.list [pnD its rls, .tuple (xs.map fd)]) 200000 4 := (Shw.lst (.cons ((ok.shw (by decide)).mono (Nat.le_refl _) (Nat.le_refl _)) (.cons ((shw_fds (n := 8) x8 fun r h => (ha r h).2.mono (by decide)).mono (Nat.le_refl _) (by decide)) (.nil 3)))).mono (by decide) (by decide)
    refine ⟨_, rfl, by show 2 ≤ 1000000; decide, _, rfl, shw.sh, shw.deep (by decide), shw.fit (by decide), its, rls, rfl, by omega, by omega, i64, r64, ?_⟩
    have pp : plainD (.tuple [.str (S (pnL its rls)), pnD its rls]) = true := by
      show (decide (2 ≤ 1000) && (plainD _ && (plainD _ && true))) = true
      rw [asc_ok (pnL_asc its rls), pn_plain (by omega) (by omega)]
      rfl
    have pdp : dep (.tuple [.str (S (pnL its rls)), pnD its rls]) < 8 := by
      have := pn_dep its rls
      show max (dep (.str _)) (max (dep _) 0) + 1 < 8
      have e : dep (.str (S (pnL its rls))) = 0 := rfl
      omega
    refine ⟨its, rls, rfl, by omega, by omega, i64, r64, its, rls, rfl, ok, by show 2 ≤ 1000000; decide, by show 2 ≤ 1000000; decide, pp, pp, pdp, ?_⟩
    rw [deq_refl pp]
    refine ⟨(fun z => nomatch z), fun _ => ?_⟩
    refine lcM fd (fun x => .str (S (frL x))) xs (by omega) (fun x hx C _ h2 => ⟨fun _ => ⟨x, rfl, (x64 x hx).1, (x64 x hx).2, h2⟩, fun z => nomatch z⟩) ?_
    have le := lenS frL (B := 131) (xs := xs) fun x hx => frL_len (k := 64) (by decide) (x64 x hx).1 (x64 x hx).2
    have rlen : (rtL xs).length ≤ 10000 := by
      have h1 := joinL_len (s := 32) (xs.map frL)
      have h2 : ((xs.map frL).map S).map (·.length) = (xs.map frL).map List.length := lens _
      rw [h2] at le
      rw [List.length_map] at h1
      unfold rtL
      omega
    refine ⟨(xs.map frL).map S, by rw [List.map_map, List.map_map]; rfl, ?_, ?_⟩
    · rw [c_sp, S_len, List.length_map, List.length_map]
      show _ + xs.length * 1 ≤ _
      omega
    rw [c_sp, join_S, show TL.joinL [32] (xs.map frL) = rtL xs from rfl]
    refine ⟨xs, rfl, by omega, x64, ?_⟩
    have pr : plainD (.tuple [.str (S (rtL xs)), .tuple (xs.map fd)]) = true := by
      show (decide (2 ≤ 1000) && (plainD _ && (plainD _ && true))) = true
      rw [asc_ok (rtL_asc xs), deq_fds (by omega)]
      rfl
    have rdp : dep (.tuple [.str (S (rtL xs)), .tuple (xs.map fd)]) < 8 := by
      show max (dep (.str _)) (max (dep (.tuple _)) 0) + 1 < 8
      have e : dep (.str (S (rtL xs))) = 0 := rfl
      have e2 : dep (.tuple (xs.map fd)) ≤ 2 := Nat.add_le_add_right (depL_map (n := 1) fun i _ => by show max 0 (max 0 0) + 1 ≤ 1; decide) 1
      omega
    refine ⟨rtL xs, xs, rfl, rlen, ?_, by show 2 ≤ 1000000; decide, by show 2 ≤ 1000000; decide, pr, pr, rdp, ?_⟩
    · rw [words_rt xn, List.map_map]
      exact List.map_congr_left fun x hx => pF_fr (ha x hx).1
    dsimp only
    rw [deq_refl pr]
    refine ⟨(fun z => nomatch z), fun _ => ?_⟩
    refine ⟨by show 2 ≤ 1000000; decide, by show 2 ≤ 1000000; decide, by show 2 ≤ 1000000; decide, by show 3 ≤ 1000000; decide, by rw [List.length_map]; show _ + 3 ≤ _; omega, ?_⟩
    refine forL_eq fd (xs ++ [(0, 1), (-7, 1), (-3, 2)]) (by rw [List.map_append]; rfl) (fun d2 e m => m = [.drw (j' + 1 + 3 * n), .lst (ps.map fun p => pnD p.1 p.2)] ∧ ∃ y8 y9 y10 y11 y12 y13, e = [none, some (.p 0), some (.p 1), some (.d (.int (0 + (done.length : Int)))), some (.d (pnD its rls)), some (.d (.tuple (xs.map fd))), some (.d (.str (PyData.list [pnD its rls, .tuple (xs.map fd)]).shown)), some (.d (.str (S (pnL its rls)))), y8, y9, y10, y11, y12, y13]) ⟨rfl, _, _, _, _, _, _, rfl⟩ (fun d2 x r2 e m hx2 hJ C2 hC2 => ?_) (fun e m hJ => ?_)
    · obtain ⟨rfl, y8, y9, y10, y11, y12, y13, rfl⟩ := hJ
      have z : x.1.natAbs < 10 ^ 64 ∧ x.2.natAbs < 10 ^ 64 := by
        have : x ∈ xs ++ [(0, 1), (-7, 1), (-3, 2)] := by rw [hx2]; simp
        rcases List.mem_append.mp this with h | h
        · exact x64 x h
        · simp only [List.mem_cons, List.not_mem_nil, or_false] at h
          rcases h with rfl | rfl | rfl <;> exact ⟨by decide, by decide⟩
      have pf := asc_ok (frL_asc x)
      refine ⟨x, rfl, z.1, z.2, x, rfl, z.1, z.2, pf, pf, by show 0 < 8; decide, ?_⟩
      rw [deq_refl pf]
      exact ⟨(fun z => nomatch z), fun _ => hC2 _ _ ⟨rfl, _, _, _, _, _, _, rfl⟩⟩
    · obtain ⟨rfl, y8, y9, y10, y11, y12, y13, rfl⟩ := hJ
      refine ⟨by show 2 ≤ 1000000; decide, _, rfl, shw.sh, shw.deep (by decide), shw.fit (by decide), trivial, ?_⟩
      have e2 : ∀ x : Str, (!eqB (.str x) (.str x)) = false := fun x => by rw [show eqB (.str x) (.str x) = true from decide_eq_true rfl]; rfl
      rw [e2]
      refine ⟨(fun z => nomatch z), fun _ => ⟨⟨_, rfl⟩, _, rfl, by rw [List.length_map]; omega, hC _ _ ⟨j' + 1 + 3 * n, ps ++ [(its, rls)], _, _, _, _, _, _, _, _, _, _, _, ?_, fun p hp => ?_, ?_, ?_, rfl⟩⟩⟩
      · rw [List.length_append, List.length_singleton]; omega
      · rcases List.mem_append.mp hp with h | h
        · exact hps p h
        · rw [List.mem_singleton.mp h]; exact ok
      · rw [List.length_append, List.length_append, lps]; rfl
      · rw [List.map_append]; rfl
  · obtain ⟨j, ps, y3, y4, y5, y6, y7, y8, y9, y10, y11, y12, y13, hj, hps, lps, rfl, rfl⟩ := hJ
    rw [List.length_range] at lps
    have fmt : ∀ p ∈ ps, (p.1.length ≤ 1000 ∧ p.2.length ≤ 1000) ∧ (∀ q ∈ p.1, q.1.natAbs < 10 ^ 64 ∧ q.2.natAbs < 10 ^ 64) ∧ ∀ q ∈ p.2, q.1 < 10 ^ 64 ∧ q.2 < 10 ^ 64 := fun p hp => by
      have ok := hps p hp
      have l8 := ok.n8
      have l16 := ok.r16
      exact ⟨⟨by omega, by omega⟩, fun q hq => ⟨by have := ok.mrk q hq; omega, by have := ok.wt q hq; omega⟩, fun q hq => ⟨by have := (ok.rl q hq).1; omega, by have := (ok.rl q hq).2.1; omega⟩⟩
    have leq : ∀ p q : List (Int × Int) × List (Nat × Nat), decide (pnL p.1 p.2 = pnL q.1 q.2) = decide (p = q) := fun p q => by
      refine decide_eq_decide.mpr ⟨fun h => ?_, fun h => by rw [h]⟩
      have := pnL_inj h
      exact Prod.ext this.1 this.2
    refine forL (fun p : List (Int × Int) × List (Nat × Nat) => pnD p.1 p.2) ps (fun d2 e m => m = [.drw j, .no] ∧ ∃ y11 y13, e = [none, some (.p 0), some (.d (.list (ps.map fun p => pnD p.1 p.2))), y3, y4, y5, y6, y7, y8, y9, y10, y11, y12, y13]) ⟨rfl, _, _, rfl⟩ (fun d2 p r2 e m hx2 hJ C2 hC2 => ?_) (fun e m hJ => ?_)
    · obtain ⟨rfl, y11, y13, rfl⟩ := hJ
      have hp : p ∈ ps := by rw [hx2]; simp
      obtain ⟨⟨f1, f2⟩, f3, f4⟩ := fmt p hp
      refine lcFM (fun p : List (Int × Int) × List (Nat × Nat) => pnD p.1 p.2) (fun _ => .int 1) (fun _ => false) ps (by omega) (fun q hq C3 C0 h2 h0 => ?_) ?_
      · obtain ⟨⟨g1, g2⟩, g3, g4⟩ := fmt q hq
        refine ⟨p.1, p.2, rfl, f1, f2, f3, f4, q.1, q.2, rfl, g1, g2, g3, g4, trivial, ⟨(Lay.pn p.1 p.2).ok, (Lay.pn q.1 q.2).ok⟩, ⟨rfl, rfl⟩, ?_⟩
        have e1 : eqB (.str (S (pnL p.1 p.2))) (.str (S (pnL q.1 q.2))) = decide (p = q) := (eqB_S _ _).trans (leq p q)
        have e2 : eqB (pnD p.1 p.2) (pnD q.1 q.2) = decide (p = q) := eqv_pn p q
        rw [e1, e2]
        have e3 : (!eqB (.bool (decide (p = q))) (.bool (decide (p = q)))) = false := by cases decide (p = q) <;> rfl
        rw [e3]
        exact ⟨(fun z => nomatch z), fun _ => h0 rfl⟩
      · have nil : ps.filter (fun _ => false) = [] := List.filter_eq_nil_iff.mpr fun _ _ => Bool.false_ne_true
        rw [nil]
        refine ⟨by show 0 ≤ 1000000; decide, ⟨rfl, rfl⟩, (fun z => nomatch (show false = true from z)), fun _ => hC2 _ _ ⟨rfl, _, _, rfl⟩⟩
    · obtain ⟨rfl, y11, y13, rfl⟩ := hJ
      rfl
end
end PM

namespace PM
open PySem PySem.Spec PyProof.Rows L2 RZ
section
variable {P : Program} {w : World} {K : PySem.W.Frag} {mg : Str → Option Value} {base : Heap}
end
/-! ### what the top has written -/
set_option maxHeartbeats 8000000 in
theorem all_mk {l : PySem.W.OpenLaw} {w : World} {K : PySem.W.Frag} {h : Heap} {mg : Str → Option Value} {fa : Addr} {f0 f1 f2 f3 f4 f5 f6 f7 f8 f9 f10 f11 f12 f13 f14 f15 f16 f17 f18 f19 f20 f21 f22 f23 f24 f25 f26 f27 f28 f29 f30 f31 : Addr} (X : K.In h) (G : h.Ns mainGlobals mg) (hfa : mg "law" = some (.ref fa))
    {od0 an0 : Option Addr} {sl0 : Array (Option Value)} {oc0 kV0 dc0 pm0 cd0 ct0 : Value} (a0 : PySem.W.nsIn K mainGlobals "_law_draws" = some (some (.ref f0))) (l0 : K.lookup f0 = some ⟨oc0, od0, .func (PySem.W.fnOf "_law_draws" "_law_draws" (defArgs s__law_draws) (defBody s__law_draws) (defScope s__law_draws) .none kV0 dc0 pm0 an0 cd0 ct0), sl0⟩) (c0 : PySem.W.codeIn K cd0 "_law_draws" = true) (k0 : PySem.W.keepIn K (.ref f0) = true)
    {od1 an1 : Option Addr} {sl1 : Array (Option Value)} {oc1 kV1 dc1 pm1 cd1 ct1 : Value} (a1 : PySem.W.nsIn K mainGlobals "_law_next" = some (some (.ref f1))) (l1 : K.lookup f1 = some ⟨oc1, od1, .func (PySem.W.fnOf "_law_next" "_law_next" (defArgs s__law_next) (defBody s__law_next) (defScope s__law_next) .none kV1 dc1 pm1 an1 cd1 ct1), sl1⟩) (c1 : PySem.W.codeIn K cd1 "_law_next" = true) (k1 : PySem.W.keepIn K (.ref f1) = true)
    {od2 an2 : Option Addr} {sl2 : Array (Option Value)} {oc2 kV2 dc2 pm2 cd2 ct2 : Value} (a2 : PySem.W.nsIn K mainGlobals "_law_size" = some (some (.ref f2))) (l2 : K.lookup f2 = some ⟨oc2, od2, .func (PySem.W.fnOf "_law_size" "_law_size" (defArgs s__law_size) (defBody s__law_size) (defScope s__law_size) .none kV2 dc2 pm2 an2 cd2 ct2), sl2⟩) (c2 : PySem.W.codeIn K cd2 "_law_size" = true) (k2 : PySem.W.keepIn K (.ref f2) = true)
    {od3 an3 : Option Addr} {sl3 : Array (Option Value)} {oc3 kV3 dc3 pm3 cd3 ct3 : Value} (a3 : PySem.W.nsIn K mainGlobals "_law_items" = some (some (.ref f3))) (l3 : K.lookup f3 = some ⟨oc3, od3, .func (PySem.W.fnOf "_law_items" "_law_items" (defArgs s__law_items) (defBody s__law_items) (defScope s__law_items) .none kV3 dc3 pm3 an3 cd3 ct3), sl3⟩) (c3 : PySem.W.codeIn K cd3 "_law_items" = true) (k3 : PySem.W.keepIn K (.ref f3) = true)
    {od4 an4 : Option Addr} {sl4 : Array (Option Value)} {oc4 kV4 dc4 pm4 cd4 ct4 : Value} (a4 : PySem.W.nsIn K mainGlobals "_law_rules" = some (some (.ref f4))) (l4 : K.lookup f4 = some ⟨oc4, od4, .func (PySem.W.fnOf "_law_rules" "_law_rules" (defArgs s__law_rules) (defBody s__law_rules) (defScope s__law_rules) .none kV4 dc4 pm4 an4 cd4 ct4), sl4⟩) (c4 : PySem.W.codeIn K cd4 "_law_rules" = true) (k4 : PySem.W.keepIn K (.ref f4) = true)
    {od5 an5 : Option Addr} {sl5 : Array (Option Value)} {oc5 kV5 dc5 pm5 cd5 ct5 : Value} (a5 : PySem.W.nsIn K mainGlobals "_law_panel" = some (some (.ref f5))) (l5 : K.lookup f5 = some ⟨oc5, od5, .func (PySem.W.fnOf "_law_panel" "_law_panel" (defArgs s__law_panel) (defBody s__law_panel) (defScope s__law_panel) .none kV5 dc5 pm5 an5 cd5 ct5), sl5⟩) (c5 : PySem.W.codeIn K cd5 "_law_panel" = true) (k5 : PySem.W.keepIn K (.ref f5) = true)
    {od6 an6 : Option Addr} {sl6 : Array (Option Value)} {oc6 kV6 dc6 pm6 cd6 ct6 : Value} (a6 : PySem.W.nsIn K mainGlobals "format_integer" = some (some (.ref f6))) (l6 : K.lookup f6 = some ⟨oc6, od6, .func (PySem.W.fnOf "format_integer" "format_integer" (defArgs s_format_integer) (defBody s_format_integer) (defScope s_format_integer) .none kV6 dc6 pm6 an6 cd6 ct6), sl6⟩) (c6 : PySem.W.codeIn K cd6 "format_integer" = true) (k6 : PySem.W.keepIn K (.ref f6) = true)
    {od7 an7 : Option Addr} {sl7 : Array (Option Value)} {oc7 kV7 dc7 pm7 cd7 ct7 : Value} (a7 : PySem.W.nsIn K mainGlobals "format_fraction" = some (some (.ref f7))) (l7 : K.lookup f7 = some ⟨oc7, od7, .func (PySem.W.fnOf "format_fraction" "format_fraction" (defArgs s_format_fraction) (defBody s_format_fraction) (defScope s_format_fraction) .none kV7 dc7 pm7 an7 cd7 ct7), sl7⟩) (c7 : PySem.W.codeIn K cd7 "format_fraction" = true) (k7 : PySem.W.keepIn K (.ref f7) = true)
    {od8 an8 : Option Addr} {sl8 : Array (Option Value)} {oc8 kV8 dc8 pm8 cd8 ct8 : Value} (a8 : PySem.W.nsIn K mainGlobals "format_rating" = some (some (.ref f8))) (l8 : K.lookup f8 = some ⟨oc8, od8, .func (PySem.W.fnOf "format_rating" "format_rating" (defArgs s_format_rating) (defBody s_format_rating) (defScope s_format_rating) .none kV8 dc8 pm8 an8 cd8 ct8), sl8⟩) (c8 : PySem.W.codeIn K cd8 "format_rating" = true) (k8 : PySem.W.keepIn K (.ref f8) = true)
    {od9 an9 : Option Addr} {sl9 : Array (Option Value)} {oc9 kV9 dc9 pm9 cd9 ct9 : Value} (a9 : PySem.W.nsIn K mainGlobals "_law_panel_text" = some (some (.ref f9))) (l9 : K.lookup f9 = some ⟨oc9, od9, .func (PySem.W.fnOf "_law_panel_text" "_law_panel_text" (defArgs s__law_panel_text) (defBody s__law_panel_text) (defScope s__law_panel_text) .none kV9 dc9 pm9 an9 cd9 ct9), sl9⟩) (c9 : PySem.W.codeIn K cd9 "_law_panel_text" = true) (k9 : PySem.W.keepIn K (.ref f9) = true)
    {od10 an10 : Option Addr} {sl10 : Array (Option Value)} {oc10 kV10 dc10 pm10 cd10 ct10 : Value} (a10 : PySem.W.nsIn K mainGlobals "_law_equal" = some (some (.ref f10))) (l10 : K.lookup f10 = some ⟨oc10, od10, .func (PySem.W.fnOf "_law_equal" "_law_equal" (defArgs s__law_equal) (defBody s__law_equal) (defScope s__law_equal) .none kV10 dc10 pm10 an10 cd10 ct10), sl10⟩) (c10 : PySem.W.codeIn K cd10 "_law_equal" = true) (k10 : PySem.W.keepIn K (.ref f10) = true)
    {od11 an11 : Option Addr} {sl11 : Array (Option Value)} {oc11 kV11 dc11 pm11 cd11 ct11 : Value} (a11 : PySem.W.nsIn K mainGlobals "_law_lowest" = some (some (.ref f11))) (l11 : K.lookup f11 = some ⟨oc11, od11, .func (PySem.W.fnOf "_law_lowest" "_law_lowest" (defArgs s__law_lowest) (defBody s__law_lowest) (defScope s__law_lowest) .none kV11 dc11 pm11 an11 cd11 ct11), sl11⟩) (c11 : PySem.W.codeIn K cd11 "_law_lowest" = true) (k11 : PySem.W.keepIn K (.ref f11) = true)
    {od12 an12 : Option Addr} {sl12 : Array (Option Value)} {oc12 kV12 dc12 pm12 cd12 ct12 : Value} (a12 : PySem.W.nsIn K mainGlobals "_law_fraction" = some (some (.ref f12))) (l12 : K.lookup f12 = some ⟨oc12, od12, .func (PySem.W.fnOf "_law_fraction" "_law_fraction" (defArgs s__law_fraction) (defBody s__law_fraction) (defScope s__law_fraction) .none kV12 dc12 pm12 an12 cd12 ct12), sl12⟩) (c12 : PySem.W.codeIn K cd12 "_law_fraction" = true) (k12 : PySem.W.keepIn K (.ref f12) = true)
    {od13 an13 : Option Addr} {sl13 : Array (Option Value)} {oc13 kV13 dc13 pm13 cd13 ct13 : Value} (a13 : PySem.W.nsIn K mainGlobals "_law_fraction_text" = some (some (.ref f13))) (l13 : K.lookup f13 = some ⟨oc13, od13, .func (PySem.W.fnOf "_law_fraction_text" "_law_fraction_text" (defArgs s__law_fraction_text) (defBody s__law_fraction_text) (defScope s__law_fraction_text) .none kV13 dc13 pm13 an13 cd13 ct13), sl13⟩) (c13 : PySem.W.codeIn K cd13 "_law_fraction_text" = true) (k13 : PySem.W.keepIn K (.ref f13) = true)
    {od14 an14 : Option Addr} {sl14 : Array (Option Value)} {oc14 kV14 dc14 pm14 cd14 ct14 : Value} (a14 : PySem.W.nsIn K mainGlobals "format_panel" = some (some (.ref f14))) (l14 : K.lookup f14 = some ⟨oc14, od14, .func (PySem.W.fnOf "format_panel" "format_panel" (defArgs s_format_panel) (defBody s_format_panel) (defScope s_format_panel) .none kV14 dc14 pm14 an14 cd14 ct14), sl14⟩) (c14 : PySem.W.codeIn K cd14 "format_panel" = true) (k14 : PySem.W.keepIn K (.ref f14) = true)
    {od15 an15 : Option Addr} {sl15 : Array (Option Value)} {oc15 kV15 dc15 pm15 cd15 ct15 : Value} (a15 : PySem.W.nsIn K mainGlobals "is_decimal" = some (some (.ref f15))) (l15 : K.lookup f15 = some ⟨oc15, od15, .func (PySem.W.fnOf "is_decimal" "is_decimal" (defArgs s_is_decimal) (defBody s_is_decimal) (defScope s_is_decimal) .none kV15 dc15 pm15 an15 cd15 ct15), sl15⟩) (c15 : PySem.W.codeIn K cd15 "is_decimal" = true) (k15 : PySem.W.keepIn K (.ref f15) = true)
    {od16 an16 : Option Addr} {sl16 : Array (Option Value)} {oc16 kV16 dc16 pm16 cd16 ct16 : Value} (a16 : PySem.W.nsIn K mainGlobals "read_digits" = some (some (.ref f16))) (l16 : K.lookup f16 = some ⟨oc16, od16, .func (PySem.W.fnOf "read_digits" "read_digits" (defArgs s_read_digits) (defBody s_read_digits) (defScope s_read_digits) .none kV16 dc16 pm16 an16 cd16 ct16), sl16⟩) (c16 : PySem.W.codeIn K cd16 "read_digits" = true) (k16 : PySem.W.keepIn K (.ref f16) = true)
    {od17 an17 : Option Addr} {sl17 : Array (Option Value)} {oc17 kV17 dc17 pm17 cd17 ct17 : Value} (a17 : PySem.W.nsIn K mainGlobals "parse_integer" = some (some (.ref f17))) (l17 : K.lookup f17 = some ⟨oc17, od17, .func (PySem.W.fnOf "parse_integer" "parse_integer" (defArgs s_parse_integer) (defBody s_parse_integer) (defScope s_parse_integer) .none kV17 dc17 pm17 an17 cd17 ct17), sl17⟩) (c17 : PySem.W.codeIn K cd17 "parse_integer" = true) (k17 : PySem.W.keepIn K (.ref f17) = true)
    {od18 an18 : Option Addr} {sl18 : Array (Option Value)} {oc18 kV18 dc18 pm18 cd18 ct18 : Value} (a18 : PySem.W.nsIn K mainGlobals "parse_line" = some (some (.ref f18))) (l18 : K.lookup f18 = some ⟨oc18, od18, .func (PySem.W.fnOf "parse_line" "parse_line" (defArgs s_parse_line) (defBody s_parse_line) (defScope s_parse_line) .none kV18 dc18 pm18 an18 cd18 ct18), sl18⟩) (c18 : PySem.W.codeIn K cd18 "parse_line" = true) (k18 : PySem.W.keepIn K (.ref f18) = true)
    {od19 an19 : Option Addr} {sl19 : Array (Option Value)} {oc19 kV19 dc19 pm19 cd19 ct19 : Value} (a19 : PySem.W.nsIn K mainGlobals "is_pair" = some (some (.ref f19))) (l19 : K.lookup f19 = some ⟨oc19, od19, .func (PySem.W.fnOf "is_pair" "is_pair" (defArgs s_is_pair) (defBody s_is_pair) (defScope s_is_pair) .none kV19 dc19 pm19 an19 cd19 ct19), sl19⟩) (c19 : PySem.W.codeIn K cd19 "is_pair" = true) (k19 : PySem.W.keepIn K (.ref f19) = true)
    {od20 an20 : Option Addr} {sl20 : Array (Option Value)} {oc20 kV20 dc20 pm20 cd20 ct20 : Value} (a20 : PySem.W.nsIn K mainGlobals "is_plain_integer" = some (some (.ref f20))) (l20 : K.lookup f20 = some ⟨oc20, od20, .func (PySem.W.fnOf "is_plain_integer" "is_plain_integer" (defArgs s_is_plain_integer) (defBody s_is_plain_integer) (defScope s_is_plain_integer) .none kV20 dc20 pm20 an20 cd20 ct20), sl20⟩) (c20 : PySem.W.codeIn K cd20 "is_plain_integer" = true) (k20 : PySem.W.keepIn K (.ref f20) = true)
    {od21 an21 : Option Addr} {sl21 : Array (Option Value)} {oc21 kV21 dc21 pm21 cd21 ct21 : Value} (a21 : PySem.W.nsIn K mainGlobals "is_mark" = some (some (.ref f21))) (l21 : K.lookup f21 = some ⟨oc21, od21, .func (PySem.W.fnOf "is_mark" "is_mark" (defArgs s_is_mark) (defBody s_is_mark) (defScope s_is_mark) .none kV21 dc21 pm21 an21 cd21 ct21), sl21⟩) (c21 : PySem.W.codeIn K cd21 "is_mark" = true) (k21 : PySem.W.keepIn K (.ref f21) = true)
    {od22 an22 : Option Addr} {sl22 : Array (Option Value)} {oc22 kV22 dc22 pm22 cd22 ct22 : Value} (a22 : PySem.W.nsIn K mainGlobals "is_weight" = some (some (.ref f22))) (l22 : K.lookup f22 = some ⟨oc22, od22, .func (PySem.W.fnOf "is_weight" "is_weight" (defArgs s_is_weight) (defBody s_is_weight) (defScope s_is_weight) .none kV22 dc22 pm22 an22 cd22 ct22), sl22⟩) (c22 : PySem.W.codeIn K cd22 "is_weight" = true) (k22 : PySem.W.keepIn K (.ref f22) = true)
    {od23 an23 : Option Addr} {sl23 : Array (Option Value)} {oc23 kV23 dc23 pm23 cd23 ct23 : Value} (a23 : PySem.W.nsIn K mainGlobals "item_fault" = some (some (.ref f23))) (l23 : K.lookup f23 = some ⟨oc23, od23, .func (PySem.W.fnOf "item_fault" "item_fault" (defArgs s_item_fault) (defBody s_item_fault) (defScope s_item_fault) .none kV23 dc23 pm23 an23 cd23 ct23), sl23⟩) (c23 : PySem.W.codeIn K cd23 "item_fault" = true) (k23 : PySem.W.keepIn K (.ref f23) = true)
    {od24 an24 : Option Addr} {sl24 : Array (Option Value)} {oc24 kV24 dc24 pm24 cd24 ct24 : Value} (a24 : PySem.W.nsIn K mainGlobals "is_index" = some (some (.ref f24))) (l24 : K.lookup f24 = some ⟨oc24, od24, .func (PySem.W.fnOf "is_index" "is_index" (defArgs s_is_index) (defBody s_is_index) (defScope s_is_index) .none kV24 dc24 pm24 an24 cd24 ct24), sl24⟩) (c24 : PySem.W.codeIn K cd24 "is_index" = true) (k24 : PySem.W.keepIn K (.ref f24) = true)
    {od25 an25 : Option Addr} {sl25 : Array (Option Value)} {oc25 kV25 dc25 pm25 cd25 ct25 : Value} (a25 : PySem.W.nsIn K mainGlobals "rule_fault" = some (some (.ref f25))) (l25 : K.lookup f25 = some ⟨oc25, od25, .func (PySem.W.fnOf "rule_fault" "rule_fault" (defArgs s_rule_fault) (defBody s_rule_fault) (defScope s_rule_fault) .none kV25 dc25 pm25 an25 cd25 ct25), sl25⟩) (c25 : PySem.W.codeIn K cd25 "rule_fault" = true) (k25 : PySem.W.keepIn K (.ref f25) = true)
    {od26 an26 : Option Addr} {sl26 : Array (Option Value)} {oc26 kV26 dc26 pm26 cd26 ct26 : Value} (a26 : PySem.W.nsIn K mainGlobals "parse_panel" = some (some (.ref f26))) (l26 : K.lookup f26 = some ⟨oc26, od26, .func (PySem.W.fnOf "parse_panel" "parse_panel" (defArgs s_parse_panel) (defBody s_parse_panel) (defScope s_parse_panel) .none kV26 dc26 pm26 an26 cd26 ct26), sl26⟩) (c26 : PySem.W.codeIn K cd26 "parse_panel" = true) (k26 : PySem.W.keepIn K (.ref f26) = true)
    {od27 an27 : Option Addr} {sl27 : Array (Option Value)} {oc27 kV27 dc27 pm27 cd27 ct27 : Value} (a27 : PySem.W.nsIn K mainGlobals "common_divisor" = some (some (.ref f27))) (l27 : K.lookup f27 = some ⟨oc27, od27, .func (PySem.W.fnOf "common_divisor" "common_divisor" (defArgs s_common_divisor) (defBody s_common_divisor) (defScope s_common_divisor) .none kV27 dc27 pm27 an27 cd27 ct27), sl27⟩) (c27 : PySem.W.codeIn K cd27 "common_divisor" = true) (k27 : PySem.W.keepIn K (.ref f27) = true)
    {od28 an28 : Option Addr} {sl28 : Array (Option Value)} {oc28 kV28 dc28 pm28 cd28 ct28 : Value} (a28 : PySem.W.nsIn K mainGlobals "is_fraction" = some (some (.ref f28))) (l28 : K.lookup f28 = some ⟨oc28, od28, .func (PySem.W.fnOf "is_fraction" "is_fraction" (defArgs s_is_fraction) (defBody s_is_fraction) (defScope s_is_fraction) .none kV28 dc28 pm28 an28 cd28 ct28), sl28⟩) (c28 : PySem.W.codeIn K cd28 "is_fraction" = true) (k28 : PySem.W.keepIn K (.ref f28) = true)
    {od29 an29 : Option Addr} {sl29 : Array (Option Value)} {oc29 kV29 dc29 pm29 cd29 ct29 : Value} (a29 : PySem.W.nsIn K mainGlobals "parse_fraction" = some (some (.ref f29))) (l29 : K.lookup f29 = some ⟨oc29, od29, .func (PySem.W.fnOf "parse_fraction" "parse_fraction" (defArgs s_parse_fraction) (defBody s_parse_fraction) (defScope s_parse_fraction) .none kV29 dc29 pm29 an29 cd29 ct29), sl29⟩) (c29 : PySem.W.codeIn K cd29 "parse_fraction" = true) (k29 : PySem.W.keepIn K (.ref f29) = true)
    {od30 an30 : Option Addr} {sl30 : Array (Option Value)} {oc30 kV30 dc30 pm30 cd30 ct30 : Value} (a30 : PySem.W.nsIn K mainGlobals "parse_rating" = some (some (.ref f30))) (l30 : K.lookup f30 = some ⟨oc30, od30, .func (PySem.W.fnOf "parse_rating" "parse_rating" (defArgs s_parse_rating) (defBody s_parse_rating) (defScope s_parse_rating) .none kV30 dc30 pm30 an30 cd30 ct30), sl30⟩) (c30 : PySem.W.codeIn K cd30 "parse_rating" = true) (k30 : PySem.W.keepIn K (.ref f30) = true)
    {od31 an31 : Option Addr} {sl31 : Array (Option Value)} {oc31 kV31 dc31 pm31 cd31 ct31 : Value} (a31 : PySem.W.nsIn K mainGlobals "law" = some (some (.ref f31))) (l31 : K.lookup f31 = some ⟨oc31, od31, .func (PySem.W.fnOf "law" "law" (defArgs s_law) (defBody s_law) (defScope s_law) .none kV31 dc31 pm31 an31 cd31 ct31), sl31⟩) (c31 : PySem.W.codeIn K cd31 "law" = true) (k31 : PySem.W.keepIn K (.ref f31) = true)
    (z0 : PySem.W.nsIn K mainGlobals "len" = some none)
    (z1 : PySem.W.nsIn K mainGlobals "int" = some none)
    (z2 : PySem.W.nsIn K mainGlobals "list" = some none)
    (z3 : PySem.W.nsIn K mainGlobals "min" = some none)
    (z4 : PySem.W.nsIn K mainGlobals "tuple" = some none)
    (z5 : PySem.W.nsIn K mainGlobals "range" = some none)
    (z6 : PySem.W.nsIn K mainGlobals "max" = some none)
    (z7 : PySem.W.nsIn K mainGlobals "reversed" = some none)
    (z8 : PySem.W.nsIn K mainGlobals "str" = some none)
    (z9 : PySem.W.nsIn K mainGlobals "abs" = some none)
    (z10 : PySem.W.nsIn K mainGlobals "zip" = some none)
    (z11 : PySem.W.nsIn K mainGlobals "isinstance" = some none)
    (z12 : PySem.W.nsIn K mainGlobals "bool" = some none)
    (z13 : PySem.W.nsIn K mainGlobals "all" = some none)
    (z14 : PySem.W.nsIn K mainGlobals "enumerate" = some none)
    (z15 : PySem.W.nsIn K mainGlobals "repr" = some none)
    {t0 : Tok} (y0 : PySem.W.nsIn K mainGlobals "PART" = some (some (.int (10000000000000000000000000000000000000000000000000000000000000000) t0)))
    {t1 : Tok} (y1 : PySem.W.nsIn K mainGlobals "PART_DIGITS" = some (some (.int (64) t1)))
    {t2 : Tok} (y2 : PySem.W.nsIn K mainGlobals "MARK" = some (some (.int (1000000000) t2)))
    {t3 : Tok} (y3 : PySem.W.nsIn K mainGlobals "WEIGHT" = some (some (.int (1000000) t3)))
    {t4 : Tok} (y4 : PySem.W.nsIn K mainGlobals "ITEMS" = some (some (.int (8) t4)))
    {t5 : Tok} (y5 : PySem.W.nsIn K mainGlobals "RULES" = some (some (.int (16) t5)))
    (base : Heap) (H : Hp) (sh : Shared) (scr : Addr) (ns : List Int) (few : ns.length ≤ 63) (inB : K.In base) (glob : base.Ns mainGlobals mg) (seq : SqL K H scr (ns.map V.int)) (e0 : Env0 l.prog w K mg base callerA [] sh H) : codeAny (model l.prog w) callerA (.call (.ref fa) ⟨[.ref scr], []⟩) (CR CX0 [] l.prog w H sh (fun v _ => v = .bl true) E0) sh := by
  have F0 := fun_mk (st := s__law_draws) l0 c0 k0
  have d__law_draws : IsDef K mg "_law_draws" s__law_draws P__law_draws := ⟨_, _, F0, F0.binds (ps := P__law_draws) (fun _ _ _ _ _ _ us hl => match us, hl with | [_], _ => rfl), PySem.W.mg_of X G a0⟩
  have F1 := fun_mk (st := s__law_next) l1 c1 k1
  have d__law_next : IsDef K mg "_law_next" s__law_next P__law_next := ⟨_, _, F1, F1.binds (ps := P__law_next) (fun _ _ _ _ _ _ us hl => match us, hl with | [_, _], _ => rfl), PySem.W.mg_of X G a1⟩
  have F2 := fun_mk (st := s__law_size) l2 c2 k2
  have d__law_size : IsDef K mg "_law_size" s__law_size P__law_size := ⟨_, _, F2, F2.binds (ps := P__law_size) (fun _ _ _ _ _ _ us hl => match us, hl with | [_, _], _ => rfl), PySem.W.mg_of X G a2⟩
  have F3 := fun_mk (st := s__law_items) l3 c3 k3
  have d__law_items : IsDef K mg "_law_items" s__law_items P__law_items := ⟨_, _, F3, F3.binds (ps := P__law_items) (fun _ _ _ _ _ _ us hl => match us, hl with | [_, _], _ => rfl), PySem.W.mg_of X G a3⟩
  have F4 := fun_mk (st := s__law_rules) l4 c4 k4
  have d__law_rules : IsDef K mg "_law_rules" s__law_rules P__law_rules := ⟨_, _, F4, F4.binds (ps := P__law_rules) (fun _ _ _ _ _ _ us hl => match us, hl with | [_, _], _ => rfl), PySem.W.mg_of X G a4⟩
  have F5 := fun_mk (st := s__law_panel) l5 c5 k5
  have d__law_panel : IsDef K mg "_law_panel" s__law_panel P__law_panel := ⟨_, _, F5, F5.binds (ps := P__law_panel) (fun _ _ _ _ _ _ us hl => match us, hl with | [_, _], _ => rfl), PySem.W.mg_of X G a5⟩
  have F6 := fun_mk (st := s_format_integer) l6 c6 k6
  have d_format_integer : IsDef K mg "format_integer" s_format_integer P_format_integer := ⟨_, _, F6, F6.binds (ps := P_format_integer) (fun _ _ _ _ _ _ us hl => match us, hl with | [_], _ => rfl), PySem.W.mg_of X G a6⟩
  have F7 := fun_mk (st := s_format_fraction) l7 c7 k7
  have d_format_fraction : IsDef K mg "format_fraction" s_format_fraction P_format_fraction := ⟨_, _, F7, F7.binds (ps := P_format_fraction) (fun _ _ _ _ _ _ us hl => match us, hl with | [_], _ => rfl), PySem.W.mg_of X G a7⟩
  have F8 := fun_mk (st := s_format_rating) l8 c8 k8
  have d_format_rating : IsDef K mg "format_rating" s_format_rating P_format_rating := ⟨_, _, F8, F8.binds (ps := P_format_rating) (fun _ _ _ _ _ _ us hl => match us, hl with | [_], _ => rfl), PySem.W.mg_of X G a8⟩
  have F9 := fun_mk (st := s__law_panel_text) l9 c9 k9
  have d__law_panel_text : IsDef K mg "_law_panel_text" s__law_panel_text P__law_panel_text := ⟨_, _, F9, F9.binds (ps := P__law_panel_text) (fun _ _ _ _ _ _ us hl => match us, hl with | [_], _ => rfl), PySem.W.mg_of X G a9⟩
  have F10 := fun_mk (st := s__law_equal) l10 c10 k10
  have d__law_equal : IsDef K mg "_law_equal" s__law_equal P__law_equal := ⟨_, _, F10, F10.binds (ps := P__law_equal) (fun _ _ _ _ _ _ us hl => match us, hl with | [_, _], _ => rfl), PySem.W.mg_of X G a10⟩
  have F11 := fun_mk (st := s__law_lowest) l11 c11 k11
  have d__law_lowest : IsDef K mg "_law_lowest" s__law_lowest P__law_lowest := ⟨_, _, F11, F11.binds (ps := P__law_lowest) (fun _ _ _ _ _ _ us hl => match us, hl with | [_, _], _ => rfl), PySem.W.mg_of X G a11⟩
  have F12 := fun_mk (st := s__law_fraction) l12 c12 k12
  have d__law_fraction : IsDef K mg "_law_fraction" s__law_fraction P__law_fraction := ⟨_, _, F12, F12.binds (ps := P__law_fraction) (fun _ _ _ _ _ _ us hl => match us, hl with | [_], _ => rfl), PySem.W.mg_of X G a12⟩
  have F13 := fun_mk (st := s__law_fraction_text) l13 c13 k13
  have d__law_fraction_text : IsDef K mg "_law_fraction_text" s__law_fraction_text P__law_fraction_text := ⟨_, _, F13, F13.binds (ps := P__law_fraction_text) (fun _ _ _ _ _ _ us hl => match us, hl with | [_], _ => rfl), PySem.W.mg_of X G a13⟩
  have F14 := fun_mk (st := s_format_panel) l14 c14 k14
  have d_format_panel : IsDef K mg "format_panel" s_format_panel P_format_panel := ⟨_, _, F14, F14.binds (ps := P_format_panel) (fun _ _ _ _ _ _ us hl => match us, hl with | [_], _ => rfl), PySem.W.mg_of X G a14⟩
  have F15 := fun_mk (st := s_is_decimal) l15 c15 k15
  have d_is_decimal : IsDef K mg "is_decimal" s_is_decimal P_is_decimal := ⟨_, _, F15, F15.binds (ps := P_is_decimal) (fun _ _ _ _ _ _ us hl => match us, hl with | [_], _ => rfl), PySem.W.mg_of X G a15⟩
  have F16 := fun_mk (st := s_read_digits) l16 c16 k16
  have d_read_digits : IsDef K mg "read_digits" s_read_digits P_read_digits := ⟨_, _, F16, F16.binds (ps := P_read_digits) (fun _ _ _ _ _ _ us hl => match us, hl with | [_], _ => rfl), PySem.W.mg_of X G a16⟩
  have F17 := fun_mk (st := s_parse_integer) l17 c17 k17
  have d_parse_integer : IsDef K mg "parse_integer" s_parse_integer P_parse_integer := ⟨_, _, F17, F17.binds (ps := P_parse_integer) (fun _ _ _ _ _ _ us hl => match us, hl with | [_], _ => rfl), PySem.W.mg_of X G a17⟩
  have F18 := fun_mk (st := s_parse_line) l18 c18 k18
  have d_parse_line : IsDef K mg "parse_line" s_parse_line P_parse_line := ⟨_, _, F18, F18.binds (ps := P_parse_line) (fun _ _ _ _ _ _ us hl => match us, hl with | [_], _ => rfl), PySem.W.mg_of X G a18⟩
  have F19 := fun_mk (st := s_is_pair) l19 c19 k19
  have d_is_pair : IsDef K mg "is_pair" s_is_pair P_is_pair := ⟨_, _, F19, F19.binds (ps := P_is_pair) (fun _ _ _ _ _ _ us hl => match us, hl with | [_], _ => rfl), PySem.W.mg_of X G a19⟩
  have F20 := fun_mk (st := s_is_plain_integer) l20 c20 k20
  have d_is_plain_integer : IsDef K mg "is_plain_integer" s_is_plain_integer P_is_plain_integer := ⟨_, _, F20, F20.binds (ps := P_is_plain_integer) (fun _ _ _ _ _ _ us hl => match us, hl with | [_], _ => rfl), PySem.W.mg_of X G a20⟩
  have F21 := fun_mk (st := s_is_mark) l21 c21 k21
  have d_is_mark : IsDef K mg "is_mark" s_is_mark P_is_mark := ⟨_, _, F21, F21.binds (ps := P_is_mark) (fun _ _ _ _ _ _ us hl => match us, hl with | [_], _ => rfl), PySem.W.mg_of X G a21⟩
  have F22 := fun_mk (st := s_is_weight) l22 c22 k22
  have d_is_weight : IsDef K mg "is_weight" s_is_weight P_is_weight := ⟨_, _, F22, F22.binds (ps := P_is_weight) (fun _ _ _ _ _ _ us hl => match us, hl with | [_], _ => rfl), PySem.W.mg_of X G a22⟩
  have F23 := fun_mk (st := s_item_fault) l23 c23 k23
  have d_item_fault : IsDef K mg "item_fault" s_item_fault P_item_fault := ⟨_, _, F23, F23.binds (ps := P_item_fault) (fun _ _ _ _ _ _ us hl => match us, hl with | [_, _], _ => rfl), PySem.W.mg_of X G a23⟩
  have F24 := fun_mk (st := s_is_index) l24 c24 k24
  have d_is_index : IsDef K mg "is_index" s_is_index P_is_index := ⟨_, _, F24, F24.binds (ps := P_is_index) (fun _ _ _ _ _ _ us hl => match us, hl with | [_, _], _ => rfl), PySem.W.mg_of X G a24⟩
  have F25 := fun_mk (st := s_rule_fault) l25 c25 k25
  have d_rule_fault : IsDef K mg "rule_fault" s_rule_fault P_rule_fault := ⟨_, _, F25, F25.binds (ps := P_rule_fault) (fun _ _ _ _ _ _ us hl => match us, hl with | [_, _, _], _ => rfl), PySem.W.mg_of X G a25⟩
  have F26 := fun_mk (st := s_parse_panel) l26 c26 k26
  have d_parse_panel : IsDef K mg "parse_panel" s_parse_panel P_parse_panel := ⟨_, _, F26, F26.binds (ps := P_parse_panel) (fun _ _ _ _ _ _ us hl => match us, hl with | [_], _ => rfl), PySem.W.mg_of X G a26⟩
  have F27 := fun_mk (st := s_common_divisor) l27 c27 k27
  have d_common_divisor : IsDef K mg "common_divisor" s_common_divisor P_common_divisor := ⟨_, _, F27, F27.binds (ps := P_common_divisor) (fun _ _ _ _ _ _ us hl => match us, hl with | [_, _], _ => rfl), PySem.W.mg_of X G a27⟩
  have F28 := fun_mk (st := s_is_fraction) l28 c28 k28
  have d_is_fraction : IsDef K mg "is_fraction" s_is_fraction P_is_fraction := ⟨_, _, F28, F28.binds (ps := P_is_fraction) (fun _ _ _ _ _ _ us hl => match us, hl with | [_], _ => rfl), PySem.W.mg_of X G a28⟩
  have F29 := fun_mk (st := s_parse_fraction) l29 c29 k29
  have d_parse_fraction : IsDef K mg "parse_fraction" s_parse_fraction P_parse_fraction := ⟨_, _, F29, F29.binds (ps := P_parse_fraction) (fun _ _ _ _ _ _ us hl => match us, hl with | [_], _ => rfl), PySem.W.mg_of X G a29⟩
  have F30 := fun_mk (st := s_parse_rating) l30 c30 k30
  have d_parse_rating : IsDef K mg "parse_rating" s_parse_rating P_parse_rating := ⟨_, _, F30, F30.binds (ps := P_parse_rating) (fun _ _ _ _ _ _ us hl => match us, hl with | [_], _ => rfl), PySem.W.mg_of X G a30⟩
  have F31 := fun_mk (st := s_law) l31 c31 k31
  have d_law : IsDef K mg "law" s_law P_law := ⟨_, _, F31, F31.binds (ps := P_law) (fun _ _ _ _ _ _ us hl => match us, hl with | [_], _ => rfl), PySem.W.mg_of X G a31⟩
  have m_len := PySem.W.mg_none_of X G z0
  have m_int := PySem.W.mg_none_of X G z1
  have m_list := PySem.W.mg_none_of X G z2
  have m_min := PySem.W.mg_none_of X G z3
  have m_tuple := PySem.W.mg_none_of X G z4
  have m_range := PySem.W.mg_none_of X G z5
  have m_max := PySem.W.mg_none_of X G z6
  have m_reversed := PySem.W.mg_none_of X G z7
  have m_str := PySem.W.mg_none_of X G z8
  have m_abs := PySem.W.mg_none_of X G z9
  have m_zip := PySem.W.mg_none_of X G z10
  have m_isinstance := PySem.W.mg_none_of X G z11
  have m_bool := PySem.W.mg_none_of X G z12
  have m_all := PySem.W.mg_none_of X G z13
  have m_enumerate := PySem.W.mg_none_of X G z14
  have m_repr := PySem.W.mg_none_of X G z15
  have g_PART := PySem.W.mg_of X G y0
  have g_PART_DIGITS := PySem.W.mg_of X G y1
  have g_MARK := PySem.W.mg_of X G y2
  have g_WEIGHT := PySem.W.mg_of X G y3
  have g_ITEMS := PySem.W.mg_of X G y4
  have g_RULES := PySem.W.mg_of X G y5
  have o__law_draws := okD__law_draws (P := l.prog) (w := w) (K := K) (mg := mg) (base := base) d__law_draws m_len m_int m_list 
  have o__law_next := okD__law_next (P := l.prog) (w := w) (K := K) (mg := mg) (base := base) d__law_next m_len 
  have o__law_size := okD__law_size (P := l.prog) (w := w) (K := K) (mg := mg) (base := base) d__law_size o__law_next m_min 
  have o__law_items := okD__law_items (P := l.prog) (w := w) (K := K) (mg := mg) (base := base) d__law_items o__law_next o__law_size m_tuple m_range 
  have o__law_rules := okD__law_rules (P := l.prog) (w := w) (K := K) (mg := mg) (base := base) d__law_rules o__law_next m_tuple m_int m_range m_max m_min 
  have o__law_panel := okD__law_panel (P := l.prog) (w := w) (K := K) (mg := mg) (base := base) d__law_panel o__law_next o__law_items o__law_rules 
  have o_format_integer := okD_format_integer (P := l.prog) (w := w) (K := K) (mg := mg) (base := base) d_format_integer m_reversed m_str m_abs g_PART 
  have o_format_fraction := okD_format_fraction (P := l.prog) (w := w) (K := K) (mg := mg) (base := base) d_format_fraction o_format_integer 
  have o_format_rating := okD_format_rating (P := l.prog) (w := w) (K := K) (mg := mg) (base := base) d_format_rating o_format_fraction 
  have o__law_panel_text := okD__law_panel_text (P := l.prog) (w := w) (K := K) (mg := mg) (base := base) d__law_panel_text m_zip m_str 
  have o__law_equal := okD__law_equal (P := l.prog) (w := w) (K := K) (mg := mg) (base := base) d__law_equal m_isinstance m_tuple m_bool m_int m_str m_len m_all m_zip 
  have o__law_lowest := okD__law_lowest (P := l.prog) (w := w) (K := K) (mg := mg) (base := base) d__law_lowest m_abs 
  have o__law_fraction := okD__law_fraction (P := l.prog) (w := w) (K := K) (mg := mg) (base := base) d__law_fraction o__law_lowest o__law_next 
  have o__law_fraction_text := okD__law_fraction_text (P := l.prog) (w := w) (K := K) (mg := mg) (base := base) d__law_fraction_text m_str m_int 
  have o_format_panel := okD_format_panel (P := l.prog) (w := w) (K := K) (mg := mg) (base := base) d_format_panel 
  have o_is_decimal := okD_is_decimal (P := l.prog) (w := w) (K := K) (mg := mg) (base := base) d_is_decimal 
  have o_read_digits := okD_read_digits (P := l.prog) (w := w) (K := K) (mg := mg) (base := base) d_read_digits m_len m_range m_int g_PART_DIGITS g_PART 
  have o_parse_integer := okD_parse_integer (P := l.prog) (w := w) (K := K) (mg := mg) (base := base) d_parse_integer o_is_decimal o_read_digits 
  have o_parse_line := okD_parse_line (P := l.prog) (w := w) (K := K) (mg := mg) (base := base) d_parse_line o_parse_integer m_len 
  have o_is_pair := okD_is_pair (P := l.prog) (w := w) (K := K) (mg := mg) (base := base) d_is_pair m_len m_tuple m_isinstance 
  have o_is_plain_integer := okD_is_plain_integer (P := l.prog) (w := w) (K := K) (mg := mg) (base := base) d_is_plain_integer m_bool m_isinstance m_int 
  have o_is_mark := okD_is_mark (P := l.prog) (w := w) (K := K) (mg := mg) (base := base) d_is_mark o_is_plain_integer g_MARK 
  have o_is_weight := okD_is_weight (P := l.prog) (w := w) (K := K) (mg := mg) (base := base) d_is_weight o_is_plain_integer g_WEIGHT 
  have o_item_fault := okD_item_fault (P := l.prog) (w := w) (K := K) (mg := mg) (base := base) d_item_fault o_is_pair o_is_mark o_is_weight 
  have o_is_index := okD_is_index (P := l.prog) (w := w) (K := K) (mg := mg) (base := base) d_is_index o_is_plain_integer 
  have o_rule_fault := okD_rule_fault (P := l.prog) (w := w) (K := K) (mg := mg) (base := base) d_rule_fault o_is_pair o_is_index 
  have o_parse_panel := okD_parse_panel (P := l.prog) (w := w) (K := K) (mg := mg) (base := base) d_parse_panel o_parse_line o_item_fault o_rule_fault m_tuple m_len m_enumerate m_str m_isinstance g_ITEMS g_RULES 
  have o_common_divisor := okD_common_divisor (P := l.prog) (w := w) (K := K) (mg := mg) (base := base) d_common_divisor m_abs 
  have o_is_fraction := okD_is_fraction (P := l.prog) (w := w) (K := K) (mg := mg) (base := base) d_is_fraction o_is_plain_integer o_common_divisor m_len m_tuple m_isinstance 
  have o_parse_fraction := okD_parse_fraction (P := l.prog) (w := w) (K := K) (mg := mg) (base := base) d_parse_fraction o_parse_integer o_is_fraction 
  have o_parse_rating := okD_parse_rating (P := l.prog) (w := w) (K := K) (mg := mg) (base := base) d_parse_rating o_parse_fraction m_tuple m_str m_isinstance 
  have e := hfa.symm.trans (PySem.W.mg_of X G a31)
  cases e
  have room : Room (9 + 1) callerA := ⟨rfl, by decide, by decide⟩
  refine enter_at (N := N_law) (ps := P_law) (us := [.ref scr]) (vs := [.ref scr]) l31 c31 sc_law rfl room e0 (.of_eq rfl) (.cons rfl .nil) ?_
  obtain ⟨t, der, rd⟩ := ok_law (P := l.prog) (w := w) (base := base) (fa := fa) (cdv := cd31) (sh := sh) few seq (room.deeper _) o__law_draws o__law_panel o_format_rating o__law_panel_text o__law_equal o__law_fraction o__law_fraction_text o_format_panel o_parse_panel o_parse_rating o_format_fraction o__law_next m_range m_repr m_tuple 
  exact ⟨t, der.nox, rd⟩
end PM
open PySem PySem.W PyProof.Rows
set_option maxHeartbeats 0 in
theorem PySem.Challenge.cw_poolmarks_k73_formatted_texts_holds : PySem.Challenge.rw_poolmarks_k73_formatted_texts.Holds := by
  w_on; o_law; k_head; (case hw => w_witness2)
  k_fill
  refine PM.walk_at (l := PySem.Challenge.rw_poolmarks_k73_formatted_texts) (n := 63) rfl (by decide) rfl (fun w h Y => PySem.W.kIn_of Y) ?F
  case F =>
    intro w mg fa h KX G hmg
    refine' PM.all_mk KX G hmg ?a0 ?l0 ?c0 ?k0 ?a1 ?l1 ?c1 ?k1 ?a2 ?l2 ?c2 ?k2 ?a3 ?l3 ?c3 ?k3 ?a4 ?l4 ?c4 ?k4 ?a5 ?l5 ?c5 ?k5 ?a6 ?l6 ?c6 ?k6 ?a7 ?l7 ?c7 ?k7 ?a8 ?l8 ?c8 ?k8 ?a9 ?l9 ?c9 ?k9 ?a10 ?l10 ?c10 ?k10 ?a11 ?l11 ?c11 ?k11 ?a12 ?l12 ?c12 ?k12 ?a13 ?l13 ?c13 ?k13 ?a14 ?l14 ?c14 ?k14 ?a15 ?l15 ?c15 ?k15 ?a16 ?l16 ?c16 ?k16 ?a17 ?l17 ?c17 ?k17 ?a18 ?l18 ?c18 ?k18 ?a19 ?l19 ?c19 ?k19 ?a20 ?l20 ?c20 ?k20 ?a21 ?l21 ?c21 ?k21 ?a22 ?l22 ?c22 ?k22 ?a23 ?l23 ?c23 ?k23 ?a24 ?l24 ?c24 ?k24 ?a25 ?l25 ?c25 ?k25 ?a26 ?l26 ?c26 ?k26 ?a27 ?l27 ?c27 ?k27 ?a28 ?l28 ?c28 ?k28 ?a29 ?l29 ?c29 ?k29 ?a30 ?l30 ?c30 ?k30 ?a31 ?l31 ?c31 ?k31 ?z0 ?z1 ?z2 ?z3 ?z4 ?z5 ?z6 ?z7 ?z8 ?z9 ?z10 ?z11 ?z12 ?z13 ?z14 ?z15 ?y0 ?y1 ?y2 ?y3 ?y4 ?y5
    (case a0 => k_is)
    (case l0 => k_is)
    (case c0 => k_is)
    (case k0 => k_is)
    (case a1 => k_is)
    (case l1 => k_is)
    (case c1 => k_is)
    (case k1 => k_is)
    (case a2 => k_is)
    (case l2 => k_is)
    (case c2 => k_is)
    (case k2 => k_is)
    (case a3 => k_is)
    (case l3 => k_is)
    (case c3 => k_is)
    (case k3 => k_is)
    (case a4 => k_is)
    (case l4 => k_is)
    (case c4 => k_is)
    (case k4 => k_is)
    (case a5 => k_is)
    (case l5 => k_is)
    (case c5 => k_is)
    (case k5 => k_is)
    (case a6 => k_is)
    (case l6 => k_is)
    (case c6 => k_is)
    (case k6 => k_is)
    (case a7 => k_is)
    (case l7 => k_is)
    (case c7 => k_is)
    (case k7 => k_is)
    (case a8 => k_is)
    (case l8 => k_is)
    (case c8 => k_is)
    (case k8 => k_is)
    (case a9 => k_is)
    (case l9 => k_is)
    (case c9 => k_is)
    (case k9 => k_is)
    (case a10 => k_is)
    (case l10 => k_is)
    (case c10 => k_is)
    (case k10 => k_is)
    (case a11 => k_is)
    (case l11 => k_is)
    (case c11 => k_is)
    (case k11 => k_is)
    (case a12 => k_is)
    (case l12 => k_is)
    (case c12 => k_is)
    (case k12 => k_is)
    (case a13 => k_is)
    (case l13 => k_is)
    (case c13 => k_is)
    (case k13 => k_is)
    (case a14 => k_is)
    (case l14 => k_is)
    (case c14 => k_is)
    (case k14 => k_is)
    (case a15 => k_is)
    (case l15 => k_is)
    (case c15 => k_is)
    (case k15 => k_is)
    (case a16 => k_is)
    (case l16 => k_is)
    (case c16 => k_is)
    (case k16 => k_is)
    (case a17 => k_is)
    (case l17 => k_is)
    (case c17 => k_is)
    (case k17 => k_is)
    (case a18 => k_is)
    (case l18 => k_is)
    (case c18 => k_is)
    (case k18 => k_is)
    (case a19 => k_is)
    (case l19 => k_is)
    (case c19 => k_is)
    (case k19 => k_is)
    (case a20 => k_is)
    (case l20 => k_is)
    (case c20 => k_is)
    (case k20 => k_is)
    (case a21 => k_is)
    (case l21 => k_is)
    (case c21 => k_is)
    (case k21 => k_is)
    (case a22 => k_is)
    (case l22 => k_is)
    (case c22 => k_is)
    (case k22 => k_is)
    (case a23 => k_is)
    (case l23 => k_is)
    (case c23 => k_is)
    (case k23 => k_is)
    (case a24 => k_is)
    (case l24 => k_is)
    (case c24 => k_is)
    (case k24 => k_is)
    (case a25 => k_is)
    (case l25 => k_is)
    (case c25 => k_is)
    (case k25 => k_is)
    (case a26 => k_is)
    (case l26 => k_is)
    (case c26 => k_is)
    (case k26 => k_is)
    (case a27 => k_is)
    (case l27 => k_is)
    (case c27 => k_is)
    (case k27 => k_is)
    (case a28 => k_is)
    (case l28 => k_is)
    (case c28 => k_is)
    (case k28 => k_is)
    (case a29 => k_is)
    (case l29 => k_is)
    (case c29 => k_is)
    (case k29 => k_is)
    (case a30 => k_is)
    (case l30 => k_is)
    (case c30 => k_is)
    (case k30 => k_is)
    (case a31 => k_is)
    (case l31 => k_is)
    (case c31 => k_is)
    (case k31 => k_is)
    (case z0 => k_is)
    (case z1 => k_is)
    (case z2 => k_is)
    (case z3 => k_is)
    (case z4 => k_is)
    (case z5 => k_is)
    (case z6 => k_is)
    (case z7 => k_is)
    (case z8 => k_is)
    (case z9 => k_is)
    (case z10 => k_is)
    (case z11 => k_is)
    (case z12 => k_is)
    (case z13 => k_is)
    (case z14 => k_is)
    (case z15 => k_is)
    (case y0 => k_is)
    (case y1 => k_is)
    (case y2 => k_is)
    (case y3 => k_is)
    (case y4 => k_is)
    (case y5 => k_is)
