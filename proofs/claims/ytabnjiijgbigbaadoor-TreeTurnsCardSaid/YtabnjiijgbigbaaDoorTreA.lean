/-
  Plain: nodes; what package tree's functions answer. (Template: by-name.py fills it.)
-/
import Derived.Test.YtabnjiijgbigbaaDoorLexK
namespace Go.Proofs.YtabnjiijgbigbaaDoor
open Go.RowKit

/-- A node: its kind, its words and numbers, its kids, where it begins. -/
structure Nd where
  kind : Int
  words : List (List UInt8)
  nums : List Int
  kids : List Int
  pos : Int
deriving DecidableEq

def nd0 : Nd := ⟨0, [], [], [], 0⟩
/-- The node in a place. -/
def ndAt (ns : List Nd) (k : Int) : Nd := (ns[k.toNat]?).getD nd0
def kindAt (ns : List Nd) (k : Int) : Int := (ndAt ns k).kind
/-- The number in a place. -/
def atI (p : List Int) (k : Int) : Int := (p[k.toNat]?).getD (-1)

/-! ### The parents -/
def kidsO (n at_ : Nat) : List Int → List Int → Option (List Int)
  | [], p => some p
  | k :: r, p => if k ≤ (at_ : Int) ∨ (n : Int) ≤ k ∨ 0 ≤ atI p k then none else kidsO n at_ r (p.set k.toNat at_)
def parK (ns : List Nd) : Nat → Option (List Int)
  | 0 => some (List.replicate ns.length (-1))
  | j + 1 => (parK ns j).bind fun p => if 0 < j ∧ atI p j < 0 then none else kidsO ns.length j (ndAt ns j).kids p
def parT (ns : List Nd) : Option (List Int) := if ns.length = 0 ∨ 1500 < ns.length then none else parK ns ns.length
/-! ### The depths -/
def depK (p : List Int) : Nat → List Int
  | 0 => []
  | j + 1 => depK p j ++ [if 0 ≤ atI p j then 1 + atI (depK p j) (atI p j) else 1]
def depT (p : List Int) : List Int := depK p p.length
def maxL : List Int → Int
  | [] => 0
  | x :: r => r.foldl max x
def deepB (ns : List Nd) : Int := match parT ns with
  | none => 0
  | some p => maxL (depT p)

/-! ### One node -/
def stmtB (k : Int) : Bool := decide (8 ≤ k) && decide (k ≤ 19) && !(k == 12) && !(k == 15)
def exprB (k : Int) : Bool := decide (20 ≤ k) && decide (k ≤ 23)
def argB (k : Int) : Bool := k == 15 || exprB k
def namesB (ws : List (List UInt8)) : Bool := ws.all isName
def numbersB (l : List Int) : Bool := l.all fun x => decide (0 ≤ x) && decide (x < 1000000000000000000)
def hasB (n : Nd) (w m : Nat) : Bool := decide (n.words.length = w) && decide (n.nums.length = m)
def isB (ks : List Int) (k : Int) : Bool := ks.contains k
def allB (ns : List Nd) (kids : List Int) (f : Int → Bool) : Bool := kids.all fun k => f (kindAt ns k)
def arePB (ns : List Nd) : List Int → List (Int → Bool) → Bool
  | [], [] => true
  | k :: r, f :: g => f (kindAt ns k) && arePB ns r g
  | _, _ => false
def whichB (ns : List Nd) (k : Int) : Int := match (ndAt ns k).nums with
  | [] => -1
  | x :: _ => x
def risesB (ns : List Nd) : List Int → Bool
  | [] => true
  | [_] => true
  | a :: b :: r => decide (whichB ns a < whichB ns b) && risesB ns (b :: r)
def num (n : Nd) (k : Nat) : Int := (n.nums[k]?).getD 0
def fracB (n : Nd) : Bool := decide (1 ≤ num n 1) && decide (1 ≤ num n 2)
def contractB (ns : List Nd) (n : Nd) : Bool := decide (num n 0 ≤ 4) && ((num n 1 == 0 && num n 2 == 0) || fracB n) && allB ns n.kids (isB [6]) && risesB ns n.kids
def partB (ns : List Nd) (n : Nd) : Bool :=
  !(num n 0 == 0) && decide (num n 0 ≤ 4) && fracB n && (arePB ns n.kids [isB [7]] || arePB ns n.kids [isB [6], isB [7]] && whichB ns (atI n.kids 0) == 2)
def listedB (ns : List Nd) (n : Nd) : Bool :=
  if n.kind = 0 then hasB n 0 0 && allB ns n.kids (isB [1, 4])
  else if n.kind = 1 then hasB n 1 0 && allB ns n.kids (isB [2, 3])
  else if n.kind = 2 then hasB n 1 1 && decide (num n 0 ≤ 1) && arePB ns n.kids []
  else if n.kind = 3 then decide (4 ≤ n.words.length) && decide (n.words.length % 2 = 0) && hasB n n.words.length 0 && arePB ns n.kids []
  else if n.kind = 4 then hasB n 1 0 && allB ns (n.kids.take (n.kids.length - 1)) (isB [5]) && arePB ns (n.kids.drop (n.kids.length - 1)) [isB [7]]
  else if n.kind = 5 then hasB n 1 0 && arePB ns n.kids [] || hasB n 2 3 && contractB ns n
  else if n.kind = 6 then decide (1 ≤ n.words.length) && hasB n n.words.length 1 && decide (num n 0 ≤ 2) && arePB ns n.kids []
  else if n.kind = 7 then hasB n 0 0 && allB ns n.kids stmtB
  else if n.kind = 8 ∨ n.kind = 9 then hasB n 1 0 && arePB ns n.kids [exprB]
  else if n.kind = 10 then hasB n 2 0 && arePB ns n.kids [isB [7], isB [7]]
  else if n.kind = 11 then hasB n 2 0 && allB ns n.kids (isB [12])
  else if n.kind = 12 then hasB n 1 0 && arePB ns n.kids [isB [7]]
  else if n.kind = 13 then hasB n 2 3 && partB ns n
  else if n.kind = 14 then (hasB n 1 0 || hasB n 2 0) && allB ns n.kids argB
  else if n.kind = 15 ∨ n.kind = 21 then hasB n 1 0 && arePB ns n.kids []
  else if n.kind = 16 then hasB n 0 0 && (arePB ns n.kids [exprB, isB [7]] || arePB ns n.kids [exprB, isB [7], isB [7]])
  else if n.kind = 17 then hasB n 0 0 && arePB ns n.kids [exprB, isB [7]]
  else if n.kind = 18 ∨ n.kind = 23 then hasB n 0 0 && arePB ns n.kids [exprB]
  else if n.kind = 19 then hasB n 0 0 && arePB ns n.kids []
  else if n.kind = 20 then hasB n 0 1 && arePB ns n.kids []
  else if n.kind = 22 then hasB n 0 1 && decide (num n 0 ≤ 5) && arePB ns n.kids [exprB, exprB]
  else false
def validB (ns : List Nd) (n : Nd) : Bool := namesB n.words && numbersB n.nums && listedB ns n
def rightN (ns : List Nd) : Bool := match parT ns with
  | none => false
  | some p => kindAt ns 0 == 0 && decide (maxL (depT p) ≤ 24) && ns.all (validB ns)

/-! ### The order of a walk -/
/-- The nodes below one, so deep at most. -/
def preF (ns : List Nd) : Nat → Int → List Int
  | 0, k => [k]
  | d + 1, k => k :: (ndAt ns k).kids.flatMap (preF ns d)
end Go.Proofs.YtabnjiijgbigbaaDoor
