/- Polynomials of one and of two numbers by their lists of coefficients: enough to see that what is left of the rules of sines is small. No statement of the seat is proved here. -/
import Derived.Test.YtohdfialnaegcaaKr
namespace Go.Proofs.Ytohdfialnaegcaa
open Go.RowKit

def ev : List Int → Int → Int
  | [], _ => 0
  | a :: l, x => a + x * ev l x
def addP : List Int → List Int → List Int
  | [], m => m
  | a :: l, [] => a :: l
  | a :: l, b :: m => (a + b) :: addP l m
def sclP (k : Int) : List Int → List Int
  | [] => []
  | a :: l => (k * a) :: sclP k l
def mulP : List Int → List Int → List Int
  | [], _ => []
  | a :: l, m => addP (sclP a m) (0 :: mulP l m)
def absP : List Int → List Int
  | [] => []
  | a :: l => (a.natAbs : Int) :: absP l
def evens : List Int → List Int
  | [] => []
  | a :: l => a :: 0 :: evens l
theorem ev_add (x : Int) : ∀ l m, ev (addP l m) x = ev l x + ev m x
  | [], m => by simp [addP, ev]
  | a :: l, [] => by simp [addP, ev]
  | a :: l, b :: m => by
    show a + b + x * ev (addP l m) x = (a + x * ev l x) + (b + x * ev m x)
    rw [ev_add x l m]
    grind
theorem ev_scl (k x : Int) : ∀ l, ev (sclP k l) x = k * ev l x
  | [] => by simp [sclP, ev]
  | a :: l => by
    show k * a + x * ev (sclP k l) x = k * (a + x * ev l x)
    rw [ev_scl k x l]
    grind
theorem ev_mul (x : Int) : ∀ l m, ev (mulP l m) x = ev l x * ev m x
  | [], m => by simp [mulP, ev]
  | a :: l, m => by
    show ev (addP (sclP a m) (0 :: mulP l m)) x = (a + x * ev l x) * ev m x
    rw [ev_add, ev_scl]
    show a * ev m x + (0 + x * ev (mulP l m) x) = _
    rw [ev_mul x l m]
    grind
theorem ev_app (x : Int) (a : Int) : ∀ l, ev (l ++ [a]) x = ev l x + x ^ l.length * a
  | [] => by simp [ev]
  | b :: l => by
    show b + x * ev (l ++ [a]) x = b + x * ev l x + x ^ (l.length + 1) * a
    rw [ev_app x a l, Int.pow_succ]
    grind
theorem ev_evens (x : Int) : ∀ l, ev (evens l) x = ev l (x * x)
  | [] => rfl
  | a :: l => by
    show a + x * (0 + x * ev (evens l) x) = a + x * x * ev l (x * x)
    rw [ev_evens x l]
    grind
theorem abs_mul_le {x r B R : Int} (h1 : -B ≤ x) (h2 : x ≤ B) (h3 : -R ≤ r) (h4 : r ≤ R) : -(B * R) ≤ x * r ∧ x * r ≤ B * R := by
  have hP : 0 ≤ B * R := Int.mul_nonneg (by omega) (by omega)
  have b := bil (x := ⟨-B, B, false⟩) (y := ⟨-R, R, false⟩) h1 h2 h3 h4
  unfold min4 max4 at b
  have e1 : -B * -R = B * R := by grind
  have e2 : -B * R = -(B * R) := by grind
  have e3 : B * -R = -(B * R) := by grind
  rw [show (⟨-B, B, false⟩ : Sp).lo = -B from rfl, show (⟨-B, B, false⟩ : Sp).hi = B from rfl, show (⟨-R, R, false⟩ : Sp).lo = -R from rfl, show (⟨-R, R, false⟩ : Sp).hi = R from rfl, e1, e2, e3] at b
  generalize B * R = P at *
  generalize x * r = z at *
  omega
theorem ev_abs {x B : Int} (h1 : -B ≤ x) (h2 : x ≤ B) : ∀ l, -ev (absP l) B ≤ ev l x ∧ ev l x ≤ ev (absP l) B
  | [] => by simp [ev, absP]
  | a :: l => by
    obtain ⟨a1, a2⟩ := ev_abs h1 h2 l
    have := abs_mul_le h1 h2 a1 a2
    show -((a.natAbs : Int) + B * ev (absP l) B) ≤ a + x * ev l x ∧ a + x * ev l x ≤ (a.natAbs : Int) + B * ev (absP l) B
    omega
/-- The sums' lists. -/
def hP (q c : Nat) : Nat → List Int
  | 0 => [1]
  | k + 1 => sclP ((mQ q c k : Nat) : Int) (hP q c k) ++ [(-1) ^ (k + 1)]
theorem scl_len (k : Int) : ∀ l, (sclP k l).length = l.length
  | [] => rfl
  | _ :: l => by
    show (sclP k l).length + 1 = l.length + 1
    rw [scl_len k l]
theorem hP_len (q c : Nat) : ∀ k, (hP q c k).length = k + 1
  | 0 => rfl
  | k + 1 => by
    show (sclP _ (hP q c k) ++ [_]).length = _
    rw [List.length_append, scl_len, hP_len q c k]
    rfl
theorem hP_ev (q c : Nat) (p : Int) : ∀ k, ev (hP q c k) p = hV q c p k
  | 0 => by simp [hP, ev, hV]
  | k + 1 => by
    show ev (sclP _ (hP q c k) ++ [_]) p = hV q c p k * ((mQ q c k : Nat) : Int) + (-p) ^ (k + 1)
    rw [ev_app, ev_scl, hP_ev q c p k, scl_len, hP_len, Int.neg_eq_neg_one_mul p, Int.mul_pow, Int.mul_comm (p ^ (k + 1)), Int.mul_comm ((mQ q c k : Nat) : Int)]
/-- Polynomials of two numbers. -/
def ev2 : List (List Int) → Int → Int → Int
  | [], _, _ => 0
  | a :: l, x, y => ev a y + x * ev2 l x y
def add2 : List (List Int) → List (List Int) → List (List Int)
  | [], m => m
  | a :: l, [] => a :: l
  | a :: l, b :: m => addP a b :: add2 l m
def scl2 (k : List Int) : List (List Int) → List (List Int)
  | [] => []
  | a :: l => mulP k a :: scl2 k l
def mul2 : List (List Int) → List (List Int) → List (List Int)
  | [], _ => []
  | a :: l, m => add2 (scl2 a m) ([] :: mul2 l m)
def abs2 : List (List Int) → List (List Int)
  | [] => []
  | a :: l => absP a :: abs2 l
def inX : List Int → List (List Int)
  | [] => []
  | a :: l => [a] :: inX l
def inXY : List Int → List (List Int)
  | [] => []
  | a :: l => add2 [[a]] (mul2 [[0, 1], [1]] (inXY l))
theorem ev2_add (x y : Int) : ∀ l m, ev2 (add2 l m) x y = ev2 l x y + ev2 m x y
  | [], m => by simp [add2, ev2]
  | a :: l, [] => by simp [add2, ev2]
  | a :: l, b :: m => by
    show ev (addP a b) y + x * ev2 (add2 l m) x y = (ev a y + x * ev2 l x y) + (ev b y + x * ev2 m x y)
    rw [ev_add, ev2_add x y l m]
    grind
theorem ev2_scl (k : List Int) (x y : Int) : ∀ l, ev2 (scl2 k l) x y = ev k y * ev2 l x y
  | [] => by simp [scl2, ev2]
  | a :: l => by
    show ev (mulP k a) y + x * ev2 (scl2 k l) x y = ev k y * (ev a y + x * ev2 l x y)
    rw [ev_mul, ev2_scl k x y l]
    grind
theorem ev2_mul (x y : Int) : ∀ l m, ev2 (mul2 l m) x y = ev2 l x y * ev2 m x y
  | [], m => by simp [mul2, ev2]
  | a :: l, m => by
    show ev2 (add2 (scl2 a m) ([] :: mul2 l m)) x y = (ev a y + x * ev2 l x y) * ev2 m x y
    rw [ev2_add, ev2_scl]
    show ev a y * ev2 m x y + (0 + x * ev2 (mul2 l m) x y) = _
    rw [ev2_mul x y l m]
    grind
theorem ev2_inX (x y : Int) : ∀ l, ev2 (inX l) x y = ev l x
  | [] => rfl
  | a :: l => by
    show (a + y * 0) + x * ev2 (inX l) x y = a + x * ev l x
    rw [ev2_inX x y l]
    omega
theorem ev2_inY (x y : Int) (l : List Int) : ev2 [l] x y = ev l y := by
  show ev l y + x * 0 = _
  omega
theorem ev2_inXY (x y : Int) : ∀ l, ev2 (inXY l) x y = ev l (x + y)
  | [] => rfl
  | a :: l => by
    show ev2 (add2 [[a]] (mul2 [[0, 1], [1]] (inXY l))) x y = a + (x + y) * ev l (x + y)
    rw [ev2_add, ev2_mul, ev2_inXY x y l]
    show ((a + y * 0) + x * 0) + ((0 + y * (1 + y * 0)) + x * ((1 + y * 0) + x * 0)) * ev l (x + y) = _
    grind
theorem ev2_abs {x y B : Int} (h1 : -B ≤ x) (h2 : x ≤ B) (h3 : -B ≤ y) (h4 : y ≤ B) : ∀ l, -ev2 (abs2 l) B B ≤ ev2 l x y ∧ ev2 l x y ≤ ev2 (abs2 l) B B
  | [] => by simp [ev2, abs2]
  | a :: l => by
    obtain ⟨a1, a2⟩ := ev2_abs h1 h2 h3 h4 l
    have := abs_mul_le h1 h2 a1 a2
    have := ev_abs h3 h4 a
    show -(ev (absP a) B + B * ev2 (abs2 l) B B) ≤ ev a y + x * ev2 l x y ∧ ev a y + x * ev2 l x y ≤ ev (absP a) B + B * ev2 (abs2 l) B B
    omega
end Go.Proofs.Ytohdfialnaegcaa
