import PyProof.Rows.All
import Wide.All
import OpenK.AllK
import Wide.FinOn
import HandS.ForMost
import HandS.Wide
import HandS.TupAny
import HandS.TupMul
import HandS.IsInst
import HandS.Style
import HandS.Deep
import HandS.Zip
import HandS.TupLe
import PyProof.EnumMake
import PyProof.TupleIter
import KE.GoesZip
import KE.SortData
import HandS.Strs
import HandS.SetFor
import HandS.Dict
import HandS.Conv
import KE.DataAny
import HandS.Gcd
import KE.KMathGC
import HandS.Ends
import HandS.Words
import PySem.Challenge.RW_lightfirst_k11_whole_rings_that_pieces_c
set_option Elab.async false
set_option linter.all false
set_option maxRecDepth 100000
/-! A small evaluator of data, and what ties it to the layer. -/
namespace Ev
open PySem L2

/-! ### data -/
inductive D where
  | non | bl (b : Bool) | int (i : Int) | str (x : Str) | tup (xs : List D) | lst (xs : List D) | ro (xs : List D) | obj (c : Nat) (xs : List D) | dk (ks : List Key) (xs : List D) | ty (n : String) | cls (c : Nat)
  deriving Inhabited

/-- what a variable holds: nothing, data that never changes, a list of the frame's own, such a list while a loop walks it, the mark of a parameter whose list still stands in its variable -/
inductive Slot where
  | un | sh (d : D) | ow (xs : List D) | lk (xs : List D) | att
  deriving Inhabited
/-- what an expression gives: data, a new list, the list of a variable -/
inductive B where
  | d (x : D) | nw (xs : List D) | loc (i : Nat)
  deriving Inhabited
inductive RB where
  | d (x : D) | nw (xs : List D)
  deriving Inhabited
@[reducible] def RB.b : RB → B
  | .d x => .d x
  | .nw xs => .nw xs
structure Env where
  v : List Slot
  o : List Slot
  deriving Inhabited
/-- an exception: its class by number, its fields -/
structure Exc where
  c : Nat
  fs : List D
inductive Res (α : Type) where
  | no | ok (a : α) (ρ : Env) | ex (x : Exc) (ρ : Env)
@[inline] def Res.bind {α β : Type} : Res α → (α → Env → Res β) → Res β
  | .no, _ => .no
  | .ok a ρ, f => f a ρ
  | .ex x ρ, _ => .ex x ρ
inductive FRes where
  | no | ok (r : RB) (o : List Slot) | ex (x : Exc) (o : List Slot)
/-- a def: from what is passed (sh, ow) -/
abbrev Fn := List Slot → FRes

def Env.setv (ρ : Env) (i : Nat) (s : Slot) : Env := { ρ with v := ρ.v.set i s }
/-- x = ..: a parameter's list is told in o from now on -/
def Env.bnd (ρ : Env) (i : Nat) (s : Slot) : Option Env :=
  match ρ.v[i]?, ρ.o[i]? with
  | none, _ => none
  | some (.ow xs), some .att => some { v := ρ.v.set i s, o := ρ.o.set i (.ow xs) }
  | some _, some .att => none
  | some _, _ => some { ρ with v := ρ.v.set i s }
/-- the list of a variable becomes data -/
def Env.frz (ρ : Env) (i : Nat) (xs : List D) : Env :=
  match ρ.o[i]? with
  | some .att => { v := ρ.v.set i (.sh (.lst xs)), o := ρ.o.set i (.sh (.lst xs)) }
  | _ => { ρ with v := ρ.v.set i (.sh (.lst xs)) }

def B.view (ρ : Env) : B → Option D
  | .d x => some x
  | .nw xs => some (.lst xs)
  | .loc i => match ρ.v[i]? with
    | some (.sh x) => some x
    | some (.ow xs) => some (.lst xs)
    | some (.lk xs) => some (.lst xs)
    | _ => none
def views (ρ : Env) : List B → Option (List D)
  | [] => some []
  | b :: bs => match b.view ρ with
    | none => none
    | some d => match views ρ bs with
      | none => none
      | some ds => some (d :: ds)
/-- what is to stand in other data: from now on it is data -/
def B.keep (ρ : Env) : B → Option (D × Env)
  | .d x => some (x, ρ)
  | .nw xs => some (.lst xs, ρ)
  | .loc i => match ρ.v[i]? with
    | some (.sh x) => some (x, ρ)
    | some (.ow xs) => some (.lst xs, ρ.frz i xs)
    | _ => none
/-- what is passed -/
def B.arg (ρ : Env) : B → Option Slot
  | .d x => some (.sh x)
  | .nw xs => some (.ow xs)
  | .loc i => match ρ.v[i]? with
    | some (.sh x) => some (.sh x)
    | some (.ow xs) => some (.ow xs)
    | _ => none
def args (ρ : Env) : List B → Option (List Slot)
  | [] => some []
  | b :: bs => match b.arg ρ with
    | none => none
    | some d => match args ρ bs with
      | none => none
      | some ds => some (d :: ds)
/-- no variable's list is passed twice -/
def noTwice : List B → Bool
  | [] => true
  | .loc i :: bs => (bs.all fun b => match b with | .loc j => i != j | _ => true) && noTwice bs
  | _ :: bs => noTwice bs
def mapI (f : Nat → Slot → Slot) : Nat → List Slot → List Slot
  | _, [] => []
  | n, s :: r => f n s :: mapI f (n + 1) r
def newAt : List B → List Slot → Nat → Option Slot
  | .loc j :: bs, s :: ss, i => if i = j then some s else newAt bs ss i
  | _ :: bs, _ :: ss, i => newAt bs ss i
  | _, _, _ => none
def new1 : Slot → Option Slot → Slot
  | .ow _, some (.ow xs) => .ow xs
  | .ow _, some (.sh d) => .sh d
  | s, _ => s
def newO : Slot → Option Slot → Option Slot → Slot
  | .att, some (.ow _), some (.sh d) => .sh d
  | s, _, _ => s
/-- behind a call: what was passed is as the callee left it -/
def back (ρ : Env) (bs : List B) (ss : List Slot) : Env :=
  { v := mapI (fun i s => new1 s (newAt bs ss i)) 0 ρ.v, o := mapI (fun i s => newO s ρ.v[i]? (newAt bs ss i)) 0 ρ.o }
def hasLoc (i : Nat) : List B → Bool
  | [] => false
  | .loc j :: bs => i == j || hasLoc i bs
  | _ :: bs => hasLoc i bs
def lock1 : Slot → Bool → Slot
  | .ow xs, true => .lk xs
  | s, _ => s
def locks (ρ : Env) (bs : List B) : Env := { ρ with v := mapI (fun i s => lock1 s (hasLoc i bs)) 0 ρ.v }
def unlock1 : Slot → Option Slot → Bool → Slot
  | .lk xs, some (.ow _), true => .ow xs
  | s, _, _ => s
/-- ρ0: ahead of the locks -/
def unlocks (ρ0 ρ : Env) (bs : List B) : Env := { ρ with v := mapI (fun i s => unlock1 s ρ0.v[i]? (hasLoc i bs)) 0 ρ.v }

inductive Tg where
  | n (i : Nat) | t (is : List Nat)
def Tg.is : Tg → List Nat
  | .n i => [i]
  | .t is => is
def bndAll (ρ : Env) : List Nat → List D → Option Env
  | [], [] => some ρ
  | i :: is, d :: ds => match ρ.bnd i (.sh d) with
    | none => none
    | some ρ' => bndAll ρ' is ds
  | _, _ => none
def Tg.set (ρ : Env) (x : D) : Tg → Option Env
  | .n i => ρ.bnd i (.sh x)
  | .t is => match x with
    | .tup ds => bndAll ρ is ds
    | _ => none

def D.truth : D → Option Bool
  | .non => some false
  | .bl b => some b
  | .int i => some (i != 0)
  | .str x => if x.length ≤ 1000000 then some ((x.length : Int) != 0) else none
  | .tup xs => some (!xs.isEmpty)
  | .lst xs => some (!xs.isEmpty)
  | .ro _ => none
  | .obj _ _ => none
  | .dk _ _ => none
  | .ty _ => none
  | .cls _ => none

mutual
inductive E where
  | var (i : Nat) | con (d : D)
  | prim (f : List D → Option RB) (as : Es)
  | tup (as : Es) | lst (as : Es) | dnew
  | call (g : Fn) (as : Es)
  | mut (f : List D → List D → Option (List D × D)) (i : Nat) (as : Es)
  | and (a b : E) | or (a b : E) | notb (a : E)
  | chain (f f' : List D → Option RB) (a b d : E)
  | ite (c : T) (a b : E)
  | lc (own : List Nat) (tg : Tg) (f : List D → Option (List D)) (as : Es) (c : OT) (elt : E)
inductive Es where
  | nil | cons (e : E) (es : Es)
inductive OT where
  | none | some (t : T)
inductive T where
  | e (e : E) | eb (e : E) | and (a b : T) | or (a b : T) | not (a : T)
end
def Es.len : Es → Nat
  | .nil => 0
  | .cons _ es => es.len + 1
inductive Flow where
  | nx | rt (b : B) | brk
mutual
inductive S where
  | asg (tg : Tg) (e : E)
  | par (i j : Nat) (a b : E)
  | seti (i : Nat) (ix v : E)
  | seti2 (i : Nat) (ix1 ix2 v : E)
  | ex (e : E) | ret (e : E) | retN
  | ite (c : T) (a b : Ss)
  | «for» (tg : Tg) (f : List D → Option (List D)) (as : Es) (body : Ss)
  | «while» (c : T) (body : Ss)
  | brk | pass
  | never
inductive Ss where
  | nil | cons (s : S) (ss : Ss)
end

def wipeE (ρ : Env) (own : List Nat) : Env := { ρ with v := mapI (fun i s => if own.contains i then .un else s) 0 ρ.v }
/-- behind a block: its own variables as ahead of it -/
def unwipe (ρ0 ρ : Env) (own : List Nat) : Env := { ρ with v := mapI (fun i s => if own.contains i then ρ0.v.getD i .un else s) 0 ρ.v }

/-- one turn after another of a comprehension -/
def lcLoop (step : D → Env → Res (Option D)) : List D → List D → Env → Res (List D)
  | [], acc, ρ => .ok acc ρ
  | x :: xs, acc, ρ => match step x ρ with
    | .no => .no
    | .ex _ _ => .no
    | .ok none ρ' => lcLoop step xs acc ρ'
    | .ok (some y) ρ' => lcLoop step xs (acc ++ [y]) ρ'

mutual
def evE : E → Env → Res B
  | .var i, ρ => match ρ.v[i]? with
    | some (.sh d) => .ok (.d d) ρ
    | some (.ow _) => .ok (.loc i) ρ
    | some (.lk _) => .ok (.loc i) ρ
    | _ => .no
  | .con d, ρ => .ok (.d d) ρ
  | .prim f as, ρ => (evA as ρ).bind fun bs ρ1 => match views ρ1 bs with
    | none => .no
    | some ds => match f ds with
      | none => .no
      | some r => .ok r.b ρ1
  | .tup as, ρ => (evD as ρ).bind fun ds ρ1 => if ds.length ≤ 1000 then .ok (.d (.tup ds)) ρ1 else .no
  | .lst as, ρ => (evD as ρ).bind fun ds ρ1 => if ds.length ≤ 1000 then .ok (.nw ds) ρ1 else .no
  | .dnew, ρ => .ok (.d (.dk [] [])) ρ
  | .call g as, ρ => (evA as ρ).bind fun bs ρ1 => if noTwice bs then match args ρ1 bs with
    | none => .no
    | some ss => match g ss with
      | .no => .no
      | .ok r o => .ok r.b (back ρ1 bs o)
      | .ex x o => .ex x (back ρ1 bs o) else .no
  | .mut f i as, ρ => match ρ.v[i]? with
    | some (.ow _) => (evD as ρ).bind fun ds ρ2 => match ρ2.v[i]? with
      | some (.ow xs) => match f xs ds with
        | none => .no
        | some (ys, x) => .ok (.d x) (ρ2.setv i (.ow ys))
      | _ => .no
    | _ => .no
  | .and a b, ρ => (evE a ρ).bind fun x ρ1 => match x.view ρ1 with
    | some (.bl c) => if c then evE b ρ1 else .ok (.d (.bl false)) ρ1
    | _ => .no
  | .or a b, ρ => (evE a ρ).bind fun x ρ1 => match x.view ρ1 with
    | some (.bl c) => if c then .ok (.d (.bl true)) ρ1 else evE b ρ1
    | _ => .no
  | .notb a, ρ => (evE a ρ).bind fun x ρ1 => match x.view ρ1 with
    | some (.bl c) => .ok (.d (.bl (!c))) ρ1
    | _ => .no
  | .chain f f' a b d, ρ => (evE a ρ).bind fun x ρ1 => (evE b ρ1).bind fun y ρ2 => match x.view ρ2, y.view ρ2 with
    | some u, some v => (match f [u, v] with
      | some (.d (.bl k)) => (match k with
        | false => .ok (.d (.bl false)) ρ2
        | true => (evE d ρ2).bind fun z ρ3 => match y.view ρ3, z.view ρ3 with
          | some v', some w => (match f' [v', w] with
            | none => .no
            | some r => .ok r.b ρ3)
          | _, _ => .no)
      | _ => .no)
    | _, _ => .no
  | .ite c a b, ρ => (evT c ρ).bind fun k ρ1 => if k then evE a ρ1 else evE b ρ1
  | .lc own tg f as c elt, ρ => (evA as ρ).bind fun bs ρ1 => match views ρ1 bs with
    | none => .no
    | some ds => match f ds with
      | none => .no
      | some items => if items.length ≤ sizeLine ∧ (own.all fun i => match ρ1.o[i]? with | some .att => false | _ => true) = true ∧ (tg.is.all fun i => own.contains i) = true then
        (lcLoop (fun x ρ => match tg.set ρ x with
          | none => .no
          | some ρ' => (evO c ρ').bind fun k ρ'' => if k then (evE elt ρ'').bind fun b ρ2 => match b.keep ρ2 with
              | none => .no
              | some (d, ρ3) => .ok (some d) (wipeE ρ3 own) else .ok none (wipeE ρ'' own)) items [] (wipeE (locks ρ1 bs) own)).bind fun acc ρ3 => .ok (.nw acc) (unlocks ρ1 (unwipe (locks ρ1 bs) ρ3 own) bs) else .no
def evA : Es → Env → Res (List B)
  | .nil, ρ => .ok [] ρ
  | .cons e es, ρ => (evE e ρ).bind fun b ρ1 => (evA es ρ1).bind fun bs ρ2 => .ok (b :: bs) ρ2
def evO : OT → Env → Res Bool
  | .none, ρ => .ok true ρ
  | .some t, ρ => evT t ρ
def evD : Es → Env → Res (List D)
  | .nil, ρ => .ok [] ρ
  | .cons e es, ρ => (evE e ρ).bind fun b ρ1 => match b.keep ρ1 with
    | none => .no
    | some (d, ρ2) => (evD es ρ2).bind fun ds ρ3 => .ok (d :: ds) ρ3
def evT : T → Env → Res Bool
  | .e e, ρ => (evE e ρ).bind fun b ρ1 => match b.view ρ1 with
    | none => .no
    | some d => match d.truth with
      | none => .no
      | some k => .ok k ρ1
  | .eb e, ρ => (evE e ρ).bind fun b ρ1 => match b.view ρ1 with
    | some (.bl k) => .ok k ρ1
    | _ => .no
  | .and a b, ρ => (evT a ρ).bind fun k ρ1 => if k then evT b ρ1 else .ok false ρ1
  | .or a b, ρ => (evT a ρ).bind fun k ρ1 => if k then .ok true ρ1 else evT b ρ1
  | .not a, ρ => (evT a ρ).bind fun k ρ1 => .ok (!k) ρ1
end

def forLoop (step : D → Env → Res Flow) : List D → Env → Res Flow
  | [], ρ => .ok .nx ρ
  | x :: xs, ρ => match step x ρ with
    | .no => .no
    | .ex e ρ' => .ex e ρ'
    | .ok .nx ρ' => forLoop step xs ρ'
    | .ok (.rt b) ρ' => .ok (.rt b) ρ'
    | .ok .brk ρ' => .ok .nx ρ'
def whileLoop (c : Env → Res Bool) (step : Env → Res Flow) : Nat → Env → Res Flow
  | 0, _ => .no
  | n + 1, ρ => match c ρ with
    | .no => .no
    | .ex e ρ' => .ex e ρ'
    | .ok false ρ' => .ok .nx ρ'
    | .ok true ρ' => match step ρ' with
      | .no => .no
      | .ex e ρ'' => .ex e ρ''
      | .ok .nx ρ'' => whileLoop c step n ρ''
      | .ok (.rt b) ρ'' => .ok (.rt b) ρ''
      | .ok .brk ρ'' => .ok .nx ρ''
/-- more turns than any while here takes -/
def FUEL : Nat := 1000000000
/-- a variable's list becomes data, all else stays -/
def B.stab (ρ : Env) : B → Option (B × Env)
  | .d x => some (.d x, ρ)
  | .nw xs => some (.nw xs, ρ)
  | .loc i => match (B.loc i).keep ρ with
    | none => none
    | some (x, ρ') => some (.d x, ρ')
/-- x = b -/
def bindB (ρ : Env) (i : Nat) : B → Option Env
  | .d x => ρ.bnd i (.sh x)
  | .nw xs => ρ.bnd i (.ow xs)
  | .loc _ => none
/-- the list of a variable gets an item -/
def setAt (f : Env → Res B) (i : Nat) (d : D) (ρ : Env) (k : Env → Res Flow) : Res Flow := match ρ.v[i]? with
  | some (.ow _) => (f ρ).bind fun x ρ1 => match x.view ρ1 with
    | some (.int z) => (match ρ1.v[i]? with
      | some (.ow xs) => match ixN xs.length z with
        | none => .no
        | some j => k (ρ1.setv i (.ow (xs.set j d)))
      | _ => .no)
    | _ => .no
  | _ => .no
mutual
def evS : S → Env → Res Flow
  | .asg (.n i) e, ρ => (evE e ρ).bind fun b ρ1 => match b.stab ρ1 with
    | none => .no
    | some (b', ρ2) => match bindB ρ2 i b' with
      | none => .no
      | some ρ3 => .ok .nx ρ3
  | .asg (.t is) e, ρ => (evE e ρ).bind fun b ρ1 => match b.keep ρ1 with
    | some (.tup ds, ρ2) => match bndAll ρ2 is ds with
      | none => .no
      | some ρ3 => .ok .nx ρ3
    | _ => .no
  | .par i j a b, ρ => (evE a ρ).bind fun x ρ1 => (evE b ρ1).bind fun y ρ2 => match x.stab ρ2 with
    | none => .no
    | some (x', ρ3) => match y.stab ρ3 with
      | none => .no
      | some (y', ρ4) => match bindB ρ4 i x' with
        | none => .no
        | some ρ5 => match bindB ρ5 j y' with
          | none => .no
          | some ρ6 => .ok .nx ρ6
  | .seti i ix v, ρ => (evE v ρ).bind fun b ρ1 => match b.keep ρ1 with
    | none => .no
    | some (d, ρ2) => match ρ2.v[i]? with
      | some (.ow _) => (evE ix ρ2).bind fun k ρ3 => match k.view ρ3 with
        | some (.int z) => (match ρ3.v[i]? with
          | some (.ow xs) => match ixN xs.length z with
            | none => .no
            | some j => .ok .nx (ρ3.setv i (.ow (xs.set j d)))
          | _ => .no)
        | _ => .no
      | _ => .no
  | .seti2 i ix1 ix2 v, ρ => (evE v ρ).bind fun b ρ1 => match b.keep ρ1 with
    | some (.tup [d1, d2], ρ2) => setAt (evE ix1) i d1 ρ2 fun ρ3 => setAt (evE ix2) i d2 ρ3 fun ρ4 => .ok .nx ρ4
    | _ => .no
  | .ex e, ρ => (evE e ρ).bind fun _ ρ1 => .ok .nx ρ1
  | .ret e, ρ => (evE e ρ).bind fun b ρ1 => .ok (.rt b) ρ1
  | .retN, ρ => .ok (.rt (.d .non)) ρ
  | .ite c a b, ρ => (evT c ρ).bind fun k ρ1 => if k then evSs a ρ1 else evSs b ρ1
  | .for tg f as body, ρ => (evA as ρ).bind fun bs ρ1 => match views ρ1 bs with
    | none => .no
    | some ds => match f ds with
      | none => .no
      | some items => match forLoop (fun x ρ => match tg.set ρ x with
          | none => .no
          | some ρ' => evSs body ρ') items (locks ρ1 bs) with
        | .no => .no
        | .ex x ρ2 => .ex x (unlocks ρ1 ρ2 bs)
        | .ok fl ρ2 => .ok fl (unlocks ρ1 ρ2 bs)
  | .while c body, ρ => whileLoop (evT c) (evSs body) FUEL ρ
  | .brk, ρ => .ok .brk ρ
  | .pass, ρ => .ok .nx ρ
  | .never, _ => .no
def evSs : Ss → Env → Res Flow
  | .nil, ρ => .ok .nx ρ
  | .cons s ss, ρ => match evS s ρ with
    | .no => .no
    | .ex x ρ' => .ex x ρ'
    | .ok .nx ρ' => evSs ss ρ'
    | .ok (.rt b) ρ' => .ok (.rt b) ρ'
    | .ok .brk ρ' => .ok .brk ρ'
end

/-! ### a def -/
def outOf (ρ : Env) : Nat → List Slot → List Slot
  | _, [] => []
  | j, .att :: r => ρ.v.getD j .un :: outOf ρ (j + 1) r
  | j, s :: r => s :: outOf ρ (j + 1) r
def Env.outs (ρ : Env) : List Slot := outOf ρ 0 ρ.o
/-- what is handed back: a list of the def's own is a new one -/
def retB (ρ : Env) : B → Option (RB × Env)
  | .d x => some (.d x, ρ)
  | .nw xs => some (.nw xs, ρ)
  | .loc i => match ρ.v[i]? with
    | some (.sh x) => some (.d x, ρ)
    | some (.ow xs) => match ρ.o[i]? with
      | some .att => some (.d (.lst xs), ρ.frz i xs)
      | _ => some (.nw xs, ρ)
    | _ => none
def Slot.pass : Slot → Slot
  | .ow _ => .att
  | _ => .un
def start0 (n : Nat) (ss : List Slot) : Env :=
  { v := ss ++ List.replicate (n - ss.length) .un, o := ss.map Slot.pass }
def runFn (n : Nat) (body : Ss) : Fn := fun ss => match evSs body (start0 n ss) with
  | .no => .no
  | .ex x ρ => .ex x ρ.outs
  | .ok .nx ρ => .ok (.d .non) ρ.outs
  | .ok .brk _ => .no
  | .ok (.rt b) ρ => match retB ρ b with
    | none => .no
    | some (r, ρ') => .ok r ρ'.outs
/-- a def that lets no exception out -/
def runFn0 (n : Nat) (body : Ss) : Fn := fun ss => match runFn n body ss with
  | .ex _ _ => .no
  | r => r
end Ev

namespace Ev
open PySem L2

/-! ### data in the heap -/
mutual
inductive Den (K : PySem.W.Frag) (CL : Nat → Addr × List Str) (F : Hp) : V → D → Prop
  | non : Den K CL F .non .non
  | bl (b : Bool) : Den K CL F (.bl b) (.bl b)
  | int (i : Int) : Den K CL F (.int i) (.int i)
  | str (x : Str) : Den K CL F (.str x) (.str x)
  | tup {a : Addr} {vs : List V} {xs : List D} : SqT K F a vs → DenL K CL F vs xs → Den K CL F (.ref a) (.tup xs)
  | lst {a : Addr} {vs : List V} {xs : List D} : F a = some (.lst vs) → DenL K CL F vs xs → Den K CL F (.ref a) (.lst xs)
  | ro {a : Addr} {vs : List V} {xs : List D} : SqL K F a vs → DenL K CL F vs xs → Den K CL F (.ref a) (.ro xs)
  | obj {a dx : Addr} {c : Nat} {vs : List V} {xs : List D} : F a = some (.ins (CL c).1 dx ((CL c).2.zip vs)) → vs.length = (CL c).2.length → DenL K CL F vs xs → Den K CL F (.ref a) (.obj c xs)
  | dk {a : Addr} {ks : List Key} {vs : List V} {xs : List D} : F a = some (.dK (ks.zip vs)) → vs.length = ks.length → DenL K CL F vs xs → Den K CL F (.ref a) (.dk ks xs)
  | ty (n : String) : Den K CL F (.ty n) (.ty n)
  | cls (c : Nat) : Den K CL F (.ref (CL c).1) (.cls c)
inductive DenL (K : PySem.W.Frag) (CL : Nat → Addr × List Str) (F : Hp) : List V → List D → Prop
  | nil : DenL K CL F [] []
  | cons {v : V} {vs : List V} {d : D} {ds : List D} : Den K CL F v d → DenL K CL F vs ds → DenL K CL F (v :: vs) (d :: ds)
end

/-- F' tells all that F tells -/
def Ex (H H' : Hp) : Prop := ∀ a o, H a = some o → H' a = some o
theorem Ex.refl (H : Hp) : Ex H H := fun _ _ h => h
theorem Ex.trans {H H1 H2 : Hp} (a : Ex H H1) (b : Ex H1 H2) : Ex H H2 := fun x o h => b x o (a x o h)
theorem Ex.new {H : Hp} {p : Addr} {o : HO} (h : H p = none) : Ex H (upd H p o) := fun a u e => by
  rw [upd_ne (ne_of_none e h)]
  exact e
theorem Ex.both {F H : Hp} {p : Addr} {o : HO} (h : Ex F H) : Ex (upd F p o) (upd H p o) := fun a u e => by
  by_cases q : a = p
  · subst q; rw [upd_same] at e ⊢; exact e
  · rw [upd_ne q] at e ⊢; exact h a u e
theorem Ex.rd {H H' : Hp} {a : Addr} {u : HO} (e : Ex H H') (h : Rd H a u) : Rd H' a u := by
  rcases h with h | ⟨o, h⟩
  · exact Or.inl (e a _ h)
  · exact Or.inr ⟨o, e a _ h⟩
theorem Ex.l {K : PySem.W.Frag} {H H' : Hp} {a : Addr} {xs : List V} (e : Ex H H') (h : SqL K H a xs) : SqL K H' a xs := by
  rcases h with h | h
  · exact Or.inl (e.rd h)
  · exact Or.inr h
theorem Ex.t {K : PySem.W.Frag} {H H' : Hp} {a : Addr} {xs : List V} (e : Ex H H') (h : SqT K H a xs) : SqT K H' a xs := by
  rcases h with h | h
  · exact Or.inl (e.rd h)
  · exact Or.inr h

section
variable {K : PySem.W.Frag} {CL : Nat → Addr × List Str} {F F' H H' : Hp}
mutual
theorem Den.mono (e : Ex F F') : ∀ (d : D) {v : V}, Den K CL F v d → Den K CL F' v d
  | .non, _, .non => .non
  | .bl _, _, .bl b => .bl b
  | .int _, _, .int i => .int i
  | .str _, _, .str x => .str x
  | .tup xs, _, .tup h l => .tup (e.t h) (DenL.mono e xs l)
  | .lst xs, _, .lst h l => .lst (e _ _ h) (DenL.mono e xs l)
  | .ro xs, _, .ro h l => .ro (e.l h) (DenL.mono e xs l)
  | .obj c xs, _, .obj h z l => .obj (e _ _ h) z (DenL.mono e xs l)
  | .dk ks xs, _, .dk h z l => .dk (e _ _ h) z (DenL.mono e xs l)
  | .ty n, _, h => by cases h; exact .ty n
  | .cls n, _, h => by cases h; exact .cls n
theorem DenL.mono (e : Ex F F') : ∀ (ds : List D) {vs : List V}, DenL K CL F vs ds → DenL K CL F' vs ds
  | [], _, .nil => .nil
  | d :: ds, _, .cons h l => .cons (Den.mono e d h) (DenL.mono e ds l)
end
theorem DenL.length : ∀ {vs : List V} {ds : List D}, DenL K CL F vs ds → vs.length = ds.length
  | _, _, .nil => rfl
  | _, _, .cons _ t => by simp [DenL.length t]
theorem DenL.append : ∀ {vs ws : List V} {ds es : List D}, DenL K CL F vs ds → DenL K CL F ws es → DenL K CL F (vs ++ ws) (ds ++ es)
  | _, _, _, _, .nil, s => s
  | _, _, _, _, .cons r t, s => .cons r (DenL.append t s)
theorem DenL.get : ∀ {vs : List V} {ds : List D} {i : Nat} {d : D}, DenL K CL F vs ds → ds[i]? = some d → ∃ v, vs[i]? = some v ∧ Den K CL F v d
  | _, _, _, _, .nil, e => by simp at e
  | _, _, 0, _, .cons r _, e => by simp at e; subst e; exact ⟨_, rfl, r⟩
  | _, _, i + 1, d, .cons _ t, e => by
    obtain ⟨v, h1, h2⟩ := DenL.get (i := i) (d := d) t (by simpa using e)
    exact ⟨v, by simpa using h1, h2⟩
theorem DenL.getV : ∀ {vs : List V} {ds : List D} {i : Nat} {v : V}, DenL K CL F vs ds → vs[i]? = some v → ∃ d, ds[i]? = some d ∧ Den K CL F v d
  | _, _, _, _, .nil, e => by simp at e
  | _, _, 0, _, .cons r _, e => by simp at e; subst e; exact ⟨_, rfl, r⟩
  | _, _, i + 1, v, .cons _ t, e => by
    obtain ⟨d, h1, h2⟩ := DenL.getV (i := i) (v := v) t (by simpa using e)
    exact ⟨d, by simpa using h1, h2⟩
theorem DenL.set {d : D} {v : V} (r : Den K CL F v d) : ∀ {vs : List V} {ds : List D} (i : Nat), DenL K CL F vs ds → DenL K CL F (vs.set i v) (ds.set i d)
  | _, _, _, .nil => .nil
  | _, _, 0, .cons _ t => .cons r t
  | _, _, i + 1, .cons q t => .cons q (DenL.set r i t)
theorem DenL.take : ∀ {vs : List V} {ds : List D} (n : Nat), DenL K CL F vs ds → DenL K CL F (vs.take n) (ds.take n)
  | _, _, 0, _ => .nil
  | _, _, _ + 1, .nil => .nil
  | _, _, n + 1, .cons r t => .cons r (DenL.take n t)
theorem DenL.drop : ∀ {vs : List V} {ds : List D} (n : Nat), DenL K CL F vs ds → DenL K CL F (vs.drop n) (ds.drop n)
  | _, _, 0, r => r
  | _, _, _ + 1, .nil => .nil
  | _, _, n + 1, .cons _ t => DenL.drop n t
theorem DenL.eraseIdx : ∀ {vs : List V} {ds : List D} (n : Nat), DenL K CL F vs ds → DenL K CL F (vs.eraseIdx n) (ds.eraseIdx n)
  | _, _, _, .nil => .nil
  | _, _, 0, .cons r t => t
  | _, _, n + 1, .cons r t => .cons r (DenL.eraseIdx n t)
end

/-! ### a frame's variables -/
structure Ctx where
  CL : Nat → Addr × List Str
  Ps : List V
  E : XK
def SlotOk (K : PySem.W.Frag) (c : Ctx) (F H : Hp) : Slot → Option (Option V) → Prop
  | .un, _ => True
  | .att, _ => True
  | .sh d, w => ∃ v, w = some (some v) ∧ Den K c.CL F v d
  | .ow xs, w => ∃ a vs, w = some (some (.ref a)) ∧ H a = some (.lst vs) ∧ F a = none ∧ DenL K c.CL F vs xs
  | .lk xs, w => ∃ a vs, w = some (some (.ref a)) ∧ H a = some (.lst vs) ∧ F a = none ∧ DenL K c.CL F vs xs
def Slot.held : Slot → Bool
  | .ow _ => true
  | .lk _ => true
  | _ => false
def Slot.live : Slot → Bool
  | .ow _ => true
  | .lk _ => true
  | .sh _ => true
  | _ => false
/-- in o: what was passed is told of -/
def Slot.told : Slot → Bool
  | .ow _ => true
  | .att => true
  | .sh _ => true
  | _ => false
def sl (ρ : Env) : List Slot := ρ.v ++ ρ.o
def vl (c : Ctx) (σ : St) : St := σ ++ c.Ps.map some
structure Rel (K : PySem.W.Frag) (c : Ctx) (F : Hp) (ρ : Env) (σ : St) (H : Hp) : Prop where
  len : ρ.v.length = σ.length
  lenO : ρ.o.length = c.Ps.length
  ex : Ex F H
  ok : ∀ (k : Nat) (s : Slot), (sl ρ)[k]? = some s → SlotOk K c F H s (vl c σ)[k]?
  apart : ∀ (k k' : Nat) (s s' : Slot) (a : Addr), (sl ρ)[k]? = some s → (sl ρ)[k']? = some s' → s.held = true → s'.held = true → (vl c σ)[k]? = some (some (.ref a)) → (vl c σ)[k']? = some (some (.ref a)) → k = k'
  att : ∀ j : Nat, ρ.o[j]? = some .att → ∃ v s, σ[j]? = some (some v) ∧ c.Ps[j]? = some v ∧ ρ.v[j]? = some s ∧ s.held = true
  noLk : ∀ (j : Nat) (xs : List D), ρ.o[j]? ≠ some (.lk xs)
  fz : ∀ (j : Nat) (d : D) (a : Addr), ρ.o[j]? = some (.sh d) → c.Ps[j]? = some (.ref a) → F a ≠ none
/-- the frame's lists that may change -/
def own (c : Ctx) (ρ : Env) (σ : St) (a : Addr) : Prop := ∃ (k : Nat) (xs : List D), (sl ρ)[k]? = some (.ow xs) ∧ (vl c σ)[k]? = some (some (.ref a))
structure Go (K : PySem.W.Frag) (c : Ctx) (F : Hp) (ρ : Env) (σ : St) (H : Hp) (F' : Hp) (ρ' : Env) (σ' : St) (H' : Hp) : Prop where
  f : Ex F F'
  keep : ∀ a o, H a = some o → ¬ own c ρ σ a → H' a = some o
  fr : ∀ a, F a = none → H a ≠ none → ¬ own c ρ σ a → F' a = none
  ow : ∀ a, own c ρ' σ' a → own c ρ σ a ∨ H a = none
  lk : ∀ (k : Nat) (xs : List D), ρ'.v[k]? = some (.lk xs) → ρ.v[k]? = some (.lk xs) ∧ σ'[k]? = σ[k]?
  grow : ∀ a, H a ≠ none → H' a ≠ none
  tell : ∀ (j : Nat) (s : Slot), ρ.o[j]? = some s → s.told = true → ∃ s', ρ'.o[j]? = some s' ∧ s'.told = true
  atb : ∀ j : Nat, ρ'.o[j]? = some .att → ρ.o[j]? = some .att
/-- an expression: no variable is stored -/
structure GoE (K : PySem.W.Frag) (c : Ctx) (σ : St) (F : Hp) (ρ : Env) (H : Hp) (F' : Hp) (ρ' : Env) (H' : Hp) : Prop where
  f : Ex F F'
  keep : ∀ a o, H a = some o → ¬ own c ρ σ a → H' a = some o
  fr : ∀ a, F a = none → H a ≠ none → ¬ own c ρ σ a → F' a = none
  ow : ∀ a, own c ρ' σ a → own c ρ σ a
  lk : ∀ (k : Nat) (xs : List D), ρ'.v[k]? = some (.lk xs) → ρ.v[k]? = some (.lk xs)
  grow : ∀ a, H a ≠ none → H' a ≠ none
  live : ∀ (k : Nat) (s : Slot), ρ.v[k]? = some s → s.live = true → ∃ s', ρ'.v[k]? = some s' ∧ s'.live = true
  tell : ∀ (j : Nat) (s : Slot), ρ.o[j]? = some s → s.told = true → ∃ s', ρ'.o[j]? = some s' ∧ s'.told = true
  atb : ∀ j : Nat, ρ'.o[j]? = some .att → ρ.o[j]? = some .att

section
variable {K : PySem.W.Frag} {c : Ctx} {F F1 F2 F' H H1 H2 H' : Hp} {ρ ρ1 ρ2 ρ' : Env} {σ σ1 σ2 σ' : St}
theorem own.some (R : Rel K c F ρ σ H) {a : Addr} (h : own c ρ σ a) : ∃ vs, H a = some (.lst vs) ∧ F a = none := by
  obtain ⟨k, xs, h1, h2⟩ := h
  obtain ⟨b, vs, e, h3, h4, _⟩ := R.ok k _ h1
  rw [h2] at e
  cases e
  exact ⟨vs, h3, h4⟩
theorem Go.refl (K : PySem.W.Frag) (c : Ctx) (F : Hp) (ρ : Env) (σ : St) (H : Hp) : Go K c F ρ σ H F ρ σ H :=
  ⟨Ex.refl _, fun _ _ h _ => h, fun _ h _ _ => h, fun _ h => .inl h, fun _ _ h => ⟨h, rfl⟩, fun _ h => h, fun _ s h e => ⟨s, h, e⟩, fun _ h => h⟩
theorem Go.trans (x : Go K c F ρ σ H F1 ρ1 σ1 H1) (y : Go K c F1 ρ1 σ1 H1 F2 ρ2 σ2 H2) : Go K c F ρ σ H F2 ρ2 σ2 H2 where
  f := x.f.trans y.f
  keep := fun a o h n => y.keep a o (x.keep a o h n) fun q => by
    rcases x.ow a q with q | q
    · exact n q
    · rw [h] at q; cases q
  fr := fun a h1 h2 n => y.fr a (x.fr a h1 h2 n) (x.grow a h2) fun q => by
    rcases x.ow a q with q | q
    · exact n q
    · exact h2 q
  ow := fun a q => by
    rcases y.ow a q with q | q
    · exact x.ow a q
    · cases e : H a with
      | none => exact .inr rfl
      | some o => exact absurd q (x.grow a (by rw [e]; simp))
  lk := fun k xs h => let ⟨h1, h2⟩ := y.lk k xs h; let ⟨h3, h4⟩ := x.lk k xs h1; ⟨h3, h2.trans h4⟩
  grow := fun a h => y.grow a (x.grow a h)
  tell := fun k s h e => let ⟨s', h1, e1⟩ := x.tell k s h e; y.tell k s' h1 e1
  atb := fun j h => x.atb j (y.atb j h)
theorem GoE.refl (K : PySem.W.Frag) (c : Ctx) (σ : St) (F : Hp) (ρ : Env) (H : Hp) : GoE K c σ F ρ H F ρ H :=
  ⟨Ex.refl _, fun _ _ h _ => h, fun _ h _ _ => h, fun _ h => h, fun _ _ h => h, fun _ h => h, fun _ s h e => ⟨s, h, e⟩, fun _ s h e => ⟨s, h, e⟩, fun _ h => h⟩
theorem GoE.go (x : GoE K c σ F ρ H F1 ρ1 H1) : Go K c F ρ σ H F1 ρ1 σ H1 := ⟨x.f, x.keep, x.fr, fun a h => .inl (x.ow a h), fun k xs h => ⟨x.lk k xs h, rfl⟩, x.grow, x.tell, x.atb⟩
theorem GoE.trans (x : GoE K c σ F ρ H F1 ρ1 H1) (y : GoE K c σ F1 ρ1 H1 F2 ρ2 H2) : GoE K c σ F ρ H F2 ρ2 H2 where
  f := x.f.trans y.f
  keep := fun a o h n => y.keep a o (x.keep a o h n) fun q => n (x.ow a q)
  fr := fun a h1 h2 n => y.fr a (x.fr a h1 h2 n) (x.grow a h2) fun q => n (x.ow a q)
  ow := fun a q => x.ow a (y.ow a q)
  lk := fun k xs h => x.lk k xs (y.lk k xs h)
  grow := fun a h => y.grow a (x.grow a h)
  live := fun k s h e => let ⟨s', h1, e1⟩ := x.live k s h e; y.live k s' h1 e1
  tell := fun k s h e => let ⟨s', h1, e1⟩ := x.tell k s h e; y.tell k s' h1 e1
  atb := fun j h => x.atb j (y.atb j h)
end
end Ev

namespace Ev
open PySem L2

/-! ### the relation over one list of places -/
structure RelC (K : PySem.W.Frag) (c : Ctx) (F : Hp) (ss : List Slot) (ws : St) (H : Hp) : Prop where
  ok : ∀ (k : Nat) (s : Slot), ss[k]? = some s → SlotOk K c F H s ws[k]?
  apart : ∀ (k k' : Nat) (s s' : Slot) (a : Addr), ss[k]? = some s → ss[k']? = some s' → s.held = true → s'.held = true → ws[k]? = some (some (.ref a)) → ws[k']? = some (some (.ref a)) → k = k'
def ownC (ss : List Slot) (ws : St) (a : Addr) : Prop := ∃ (k : Nat) (xs : List D), ss[k]? = some (.ow xs) ∧ ws[k]? = some (some (.ref a))
section
variable {K : PySem.W.Frag} {c : Ctx} {F F1 F2 F' H H1 H2 H' : Hp} {ρ ρ1 ρ2 ρ' : Env} {σ σ1 σ2 σ' : St} {ss ss' : List Slot} {ws ws' : St}
theorem Ex.ne (f : Ex F F') {a : Addr} (h : F a ≠ none) : F' a ≠ none := by
  cases q : F a with
  | none => exact absurd q h
  | some o => rw [f a o q]; simp
theorem Rel.relc (R : Rel K c F ρ σ H) : RelC K c F (sl ρ) (vl c σ) H := ⟨R.ok, R.apart⟩

theorem SlotOk.grow {s : Slot} {w : Option (Option V)} (h : SlotOk K c F H s w) (f : Ex F F') (hh : ∀ a vs, s.held = true → w = some (some (.ref a)) → H a = some (.lst vs) → F a = none → H' a = some (.lst vs) ∧ F' a = none) : SlotOk K c F' H' s w := by
  cases s with
  | un => trivial
  | att => trivial
  | sh d => obtain ⟨v, e, q⟩ := h; exact ⟨v, e, q.mono f⟩
  | ow xs => obtain ⟨a, vs, e, h1, h2, q⟩ := h; obtain ⟨h3, h4⟩ := hh a vs rfl e h1 h2; exact ⟨a, vs, e, h3, h4, DenL.mono f _ q⟩
  | lk xs => obtain ⟨a, vs, e, h1, h2, q⟩ := h; obtain ⟨h3, h4⟩ := hh a vs rfl e h1 h2; exact ⟨a, vs, e, h3, h4, DenL.mono f _ q⟩
theorem SlotOk.heldAt {s : Slot} {w : Option (Option V)} (h : SlotOk K c F H s w) (e : s.held = true) : ∃ a vs, w = some (some (.ref a)) ∧ H a = some (.lst vs) ∧ F a = none := by
  cases s with
  | ow xs => obtain ⟨a, vs, e, h1, h2, q⟩ := h; exact ⟨a, vs, e, h1, h2⟩
  | lk xs => obtain ⟨a, vs, e, h1, h2, q⟩ := h; exact ⟨a, vs, e, h1, h2⟩
  | un => cases e
  | att => cases e
  | sh _ => cases e
/-- objects are added -/
theorem Rel.grow (R : Rel K c F ρ σ H) (f : Ex F F') (h : Ex H H') (x : Ex F' H') (fr : ∀ a, F a = none → H a ≠ none → F' a = none) : Rel K c F' ρ σ H' :=
  ⟨R.len, R.lenO, x, fun k s e => (R.ok k s e).grow f fun a vs _ _ h1 h2 => ⟨h _ _ h1, fr a h2 (by rw [h1]; simp)⟩, R.apart, R.att, R.noLk, fun j d a e1 e2 => f.ne (R.fz j d a e1 e2)⟩
theorem GoE.grown (c : Ctx) (ρ : Env) (σ : St) (f : Ex F F') (h : Ex H H') (fr : ∀ a, F a = none → H a ≠ none → F' a = none) : GoE K c σ F ρ H F' ρ H' :=
  ⟨f, fun a o e _ => h a o e, fun a h1 h2 _ => fr a h1 h2, fun _ h => h, fun _ _ h => h, fun a e => by
    cases q : H a with
    | none => exact absurd q e
    | some o => rw [h a o q]; simp, fun _ s h e => ⟨s, h, e⟩, fun _ s h e => ⟨s, h, e⟩, fun _ h => h⟩

theorem sl_setv {i : Nat} {s : Slot} (hi : i < ρ.v.length) : sl (ρ.setv i s) = (sl ρ).set i s := by
  unfold sl Env.setv
  simp only [List.set_append, hi, if_true]
theorem vl_set {i : Nat} {w : Option V} (hi : i < σ.length) : vl c (σ.set i w) = (vl c σ).set i w := by
  unfold vl
  simp only [List.set_append, hi, if_true]
theorem sl_v {k : Nat} (hk : k < ρ.v.length) : (sl ρ)[k]? = ρ.v[k]? := by
  unfold sl
  exact List.getElem?_append_left hk
theorem vl_v {k : Nat} (hk : k < σ.length) : (vl c σ)[k]? = σ[k]? := by
  unfold vl
  exact List.getElem?_append_left hk
theorem lt_of_get {α : Type} {l : List α} {i : Nat} {a : α} (h : l[i]? = some a) : i < l.length := by
  rcases Nat.lt_or_ge i l.length with q | q
  · exact q
  · rw [List.getElem?_eq_none q] at h; cases h
theorem Rel.slot (R : Rel K c F ρ σ H) {i : Nat} {s : Slot} (h : ρ.v[i]? = some s) : SlotOk K c F H s σ[i]? := by
  have hi := lt_of_get h
  have := R.ok i s (by rw [sl_v hi]; exact h)
  rwa [vl_v (by rw [← R.len]; exact hi)] at this

/-- a list of the frame's own becomes data: at every place where it stands -/
theorem RelC.frz (R : RelC K c F ss ws H) {a : Addr} {vs : List V} {xs : List D} (h1 : H a = some (.lst vs)) (h2 : F a = none) (l : DenL K c.CL F vs xs)
    (hs : ∀ (k : Nat) (s : Slot), ss'[k]? = some s → (s = .sh (.lst xs) ∧ ws[k]? = some (some (.ref a))) ∨ (ss[k]? = some s ∧ (s.held = true → ws[k]? ≠ some (some (.ref a))))) :
    RelC K c (upd F a (.lst vs)) ss' ws H := by
  have f : Ex F (upd F a (.lst vs)) := Ex.new h2
  refine ⟨fun k s e => ?_, fun k k' s s' b e e' g g' w w' => ?_⟩
  · rcases hs k s e with ⟨rfl, w⟩ | ⟨e, n⟩
    · exact ⟨.ref a, w, .lst upd_same (DenL.mono f _ l)⟩
    · refine (R.ok k s e).grow f fun b us g w h3 h4 => ⟨h3, ?_⟩
      have hb : b ≠ a := fun z => n g (by rw [w, z])
      rw [upd_ne hb]; exact h4
  · rcases hs k s e with ⟨rfl, _⟩ | ⟨e, _⟩
    · cases g
    · rcases hs k' s' e' with ⟨rfl, _⟩ | ⟨e', _⟩
      · cases g'
      · exact R.apart k k' s s' b e e' g g' w w'

theorem Env.frz_v (ρ : Env) (i : Nat) (xs : List D) : (ρ.frz i xs).v = ρ.v.set i (.sh (.lst xs)) := by
  unfold Env.frz
  split <;> rfl
theorem Env.frz_o (ρ : Env) (i : Nat) (xs : List D) : (ρ.frz i xs).o.length = ρ.o.length := by
  unfold Env.frz
  split <;> simp
theorem Env.frz_noLk {i : Nat} {xs : List D} (h : ∀ (j : Nat) (ys : List D), ρ.o[j]? ≠ some (.lk ys)) (j : Nat) (ys : List D) : (ρ.frz i xs).o[j]? ≠ some (.lk ys) := by
  unfold Env.frz
  split
  · intro e
    rw [List.getElem?_set] at e
    split at e
    · first | (cases e; done) | (split at e <;> cases e)
    · exact h j ys e
  · exact h j ys
theorem Rel.frz (R : Rel K c F ρ σ H) {i : Nat} {xs : List D} (hi : ρ.v[i]? = some (.ow xs)) :
    ∃ a vs F', σ[i]? = some (some (.ref a)) ∧ F' = upd F a (.lst vs) ∧ Rel K c F' (ρ.frz i xs) σ H ∧ GoE K c σ F ρ H F' (ρ.frz i xs) H ∧ Den K c.CL F' (.ref a) (.lst xs) := by
  have il := lt_of_get hi
  obtain ⟨a, vs, w, h1, h2, l⟩ := R.slot hi
  have iσ : i < σ.length := by rw [← R.len]; exact il
  have wi : (vl c σ)[i]? = some (some (.ref a)) := by rw [vl_v iσ]; exact w
  have si : (sl ρ)[i]? = some (.ow xs) := by rw [sl_v il]; exact hi
  -- which places change
  have key : ∀ (k : Nat) (s : Slot), (sl (ρ.frz i xs))[k]? = some s → (s = .sh (.lst xs) ∧ (vl c σ)[k]? = some (some (.ref a))) ∨ ((sl ρ)[k]? = some s ∧ (s.held = true → (vl c σ)[k]? ≠ some (some (.ref a))) ∧ k ≠ i) := by
    intro k s e
    have other : k ≠ i → (sl ρ)[k]? = some s → s.held = true → (vl c σ)[k]? ≠ some (some (.ref a)) := fun n e g z => n (R.apart k i s _ a e si g rfl z wi)
    unfold Env.frz at e
    split at e
    · rename_i ha
      have jl := lt_of_get ha
      unfold sl at e
      simp only at e
      rw [List.getElem?_append] at e
      simp only [List.length_set] at e
      split at e
      · rename_i kl
        rw [List.getElem?_set] at e
        split at e
        · rename_i q
          subst q
          first | rw [if_pos kl] at e | skip
          cases e
          exact .inl ⟨rfl, wi⟩
        · rename_i q
          have e' : (sl ρ)[k]? = some s := by rw [sl_v kl]; exact e
          exact .inr ⟨e', other (fun z => q z.symm) e', fun z => q z.symm⟩
      · rename_i kl
        rw [List.getElem?_set] at e
        split at e
        · rename_i q
          first | rw [if_pos jl] at e | skip
          cases e
          refine .inl ⟨rfl, ?_⟩
          obtain ⟨v, s, g1, g2, _⟩ := R.att i ha
          rw [w] at g1
          cases g1
          unfold vl
          rw [List.getElem?_append_right (by rw [← R.len]; omega)]
          rw [← R.len, ← q]
          simp [g2]
        · rename_i q
          have e' : (sl ρ)[k]? = some s := by unfold sl; rw [List.getElem?_append_right (by omega)]; exact e
          exact .inr ⟨e', other (fun z => kl (by omega)) e', fun z => kl (by omega)⟩
    · change (sl (ρ.setv i (.sh (.lst xs))))[k]? = some s at e
      rw [sl_setv il, List.getElem?_set] at e
      split at e
      · rename_i q
        subst q
        split at e
        · cases e
          exact .inl ⟨rfl, wi⟩
        · cases e
      · rename_i q
        exact .inr ⟨e, other (fun z => q z.symm) e, fun z => q z.symm⟩
  have f : Ex F (upd F a (.lst vs)) := Ex.new h2
  have rc := R.relc.frz h1 h2 l (ss' := sl (ρ.frz i xs)) fun k s e => by
    rcases key k s e with q | ⟨q, n, _⟩
    · exact .inl q
    · exact .inr ⟨q, n⟩
  refine ⟨a, vs, _, w, rfl, ⟨by rw [Env.frz_v, List.length_set]; exact R.len, by rw [Env.frz_o]; exact R.lenO, fun b o e => ?_, rc.ok, rc.apart, fun j e => ?_, Env.frz_noLk R.noLk, fun j d b e1 e2 => ?_⟩, ⟨f, fun _ _ h _ => h, fun b g1 g2 n => ?_, fun b ⟨k, ys, e, z⟩ => ?_, fun k ys e => ?_, fun _ h => h, fun k s e g => ?_, fun k s e g => ?_, fun j e => ?_⟩, .lst upd_same (DenL.mono f _ l)⟩
  · by_cases q : b = a
    · subst q; rw [upd_same] at e; cases e; exact h1
    · rw [upd_ne q] at e; exact R.ex b o e
  · -- an attached one is another
    have hj : j ≠ i := by
      intro z
      subst z
      unfold Env.frz at e
      split at e
      · rename_i ha
        have jl := lt_of_get ha
        rw [List.getElem?_set_self jl] at e
        cases e
      · rename_i ha
        exact ha e
    have e' : ρ.o[j]? = some .att := by
      unfold Env.frz at e
      split at e
      · rw [List.getElem?_set_ne (fun z => hj z.symm)] at e
        exact e
      · exact e
    obtain ⟨v, s, g1, g2, g3, g4⟩ := R.att j e'
    exact ⟨v, s, g1, g2, by rw [Env.frz_v, List.getElem?_set_ne (fun z => hj z.symm)]; exact g3, g4⟩
  · by_cases hb : b = a
    · subst hb; rw [upd_same]; simp
    · rw [upd_ne hb]
      have k := key (ρ.v.length + j) (.sh d) (by
        unfold sl
        rw [List.getElem?_append_right (by rw [Env.frz_v, List.length_set]; omega), Env.frz_v, List.length_set]
        simpa using e1)
      rcases k with ⟨_, w2⟩ | ⟨q, _, _⟩
      · exfalso
        apply hb
        unfold vl at w2
        rw [List.getElem?_append_right (by rw [← R.len]; omega), ← R.len] at w2
        simp only [Nat.add_sub_cancel_left, List.getElem?_map, e2, Option.map_some, Option.some.injEq, V.ref.injEq] at w2
        exact w2
      · refine R.fz j d b ?_ e2
        unfold sl at q
        rw [List.getElem?_append_right (by omega)] at q
        simpa using q
  · have hb : b ≠ a := fun z => n (by subst z; exact ⟨i, xs, si, wi⟩)
    rw [upd_ne hb]; exact g1
  · rcases key k _ e with ⟨q, _⟩ | ⟨q, _, _⟩
    · cases q
    · exact ⟨k, ys, q, z⟩
  · rw [Env.frz_v, List.getElem?_set] at e
    split at e
    · first | (cases e; done) | (split at e <;> cases e)
    · exact e
  · rw [Env.frz_v, List.getElem?_set]
    by_cases q : i = k
    · subst q
      exact ⟨_, by rw [if_pos rfl, if_pos il], rfl⟩
    · exact ⟨s, by rw [if_neg q]; exact e, g⟩
  · unfold Env.frz
    split
    · rename_i ha
      show ∃ s', (ρ.o.set i _)[k]? = _ ∧ _
      rw [List.getElem?_set]
      by_cases q : i = k
      · subst q
        exact ⟨_, by rw [if_pos rfl, if_pos (lt_of_get ha)], rfl⟩
      · exact ⟨s, by rw [if_neg q]; exact e, g⟩
    · exact ⟨s, e, g⟩
  · unfold Env.frz at e
    split at e
    · rename_i ha
      rw [List.getElem?_set] at e
      by_cases q : i = j
      · subst q; exact ha
      · rw [if_neg q] at e; exact e
    · exact e
/-- the content of a list of the frame's own changes -/
theorem Rel.setow (R : Rel K c F ρ σ H) {i : Nat} {xs ys : List D} {a : Addr} {vs : List V} (hi : ρ.v[i]? = some (.ow xs)) (w : σ[i]? = some (some (.ref a))) (l : DenL K c.CL F vs ys) :
    Rel K c F (ρ.setv i (.ow ys)) σ (upd H a (.lst vs)) ∧ GoE K c σ F ρ H F (ρ.setv i (.ow ys)) (upd H a (.lst vs)) := by
  have il := lt_of_get hi
  have iσ : i < σ.length := by rw [← R.len]; exact il
  have wi : (vl c σ)[i]? = some (some (.ref a)) := by rw [vl_v iσ]; exact w
  have si : (sl ρ)[i]? = some (.ow xs) := by rw [sl_v il]; exact hi
  obtain ⟨a', us, w', h1, h2, _⟩ := R.slot hi
  rw [w] at w'
  cases w'
  have key : ∀ (k : Nat) (s : Slot), (sl (ρ.setv i (.ow ys)))[k]? = some s → (k = i ∧ s = .ow ys) ∨ (k ≠ i ∧ (sl ρ)[k]? = some s) := fun k s e => by
    rw [sl_setv il, List.getElem?_set] at e
    split at e
    · rename_i q
      split at e
      · cases e; exact .inl ⟨q.symm, rfl⟩
      · cases e
    · rename_i q
      exact .inr ⟨fun z => q z.symm, e⟩
  refine ⟨⟨by show (ρ.v.set i _).length = _; rw [List.length_set]; exact R.len, R.lenO, fun b o e => ?_, fun k s e => ?_, fun k k' s s' b e e' g g' z z' => ?_, fun j e => ?_, R.noLk, R.fz⟩, ⟨Ex.refl _, fun b o e n => ?_, fun b g1 _ _ => g1, fun b ⟨k, zs, e, z⟩ => ?_, fun k zs e => ?_, fun b e => ?_, fun k s e g => ?_, fun _ s h e => ⟨s, h, e⟩, fun _ h => h⟩⟩
  · have hb : b ≠ a := fun z => by subst z; rw [h2] at e; cases e
    rw [upd_ne hb]; exact R.ex b o e
  · rcases key k s e with ⟨rfl, rfl⟩ | ⟨n, e⟩
    · exact ⟨a, vs, wi, upd_same, h2, l⟩
    · refine (R.ok k s e).grow (Ex.refl _) fun b us g z h3 h4 => ⟨?_, h4⟩
      have hb : b ≠ a := fun q => n (R.apart k i s _ a e si g rfl (by rw [z, q]) wi)
      rw [upd_ne hb]; exact h3
  · rcases key k s e with ⟨rfl, rfl⟩ | ⟨n, e1⟩
    · rcases key k' s' e' with ⟨rfl, rfl⟩ | ⟨n', e2⟩
      · rfl
      · exact R.apart k k' _ s' b si e2 rfl g' z z'
    · rcases key k' s' e' with ⟨h0, rfl⟩ | ⟨n', e2⟩
      · subst h0
        exact R.apart k _ s _ b e1 si g rfl z z'
      · exact R.apart k k' s s' b e1 e2 g g' z z'
  · obtain ⟨v, s, g1, g2, g3, g4⟩ := R.att j e
    by_cases q : i = j
    · subst q
      exact ⟨v, .ow ys, g1, g2, by show (ρ.v.set i _)[i]? = _; rw [List.getElem?_set_self il], rfl⟩
    · exact ⟨v, s, g1, g2, by show (ρ.v.set i _)[j]? = _; rw [List.getElem?_set_ne q]; exact g3, g4⟩
  · have hb : b ≠ a := fun z => n (by subst z; exact ⟨i, xs, si, wi⟩)
    rw [upd_ne hb]; exact e
  · rcases key k _ e with ⟨rfl, q⟩ | ⟨n, e⟩
    · exact ⟨k, xs, si, z⟩
    · exact ⟨k, zs, e, z⟩
  · change (ρ.v.set i _)[k]? = _ at e
    rw [List.getElem?_set] at e
    split at e
    · first | (cases e; done) | (split at e <;> cases e)
    · exact e
  · by_cases q : b = a
    · subst q; rw [upd_same]; simp
    · rw [upd_ne q]; exact e
  · change ∃ s', (ρ.v.set i _)[k]? = _ ∧ _
    rw [List.getElem?_set]
    by_cases q : i = k
    · subst q
      exact ⟨_, by rw [if_pos rfl, if_pos il], rfl⟩
    · exact ⟨s, by rw [if_neg q]; exact e, g⟩
end
end Ev

namespace Ev
open PySem L2

/-- how an exception lies: its class, its own dict with its fields, if it has some -/
def XDen (K : PySem.W.Frag) (c : Ctx) (F H : Hp) (x : Exc) (C : Value) (d : Option Addr) : Prop :=
  C = .ref (c.CL x.c).1 ∧ match d with
    | none => x.fs = []
    | some q => ∃ vs, H q = some (.xd ((c.CL x.c).2.zip vs)) ∧ vs.length = (c.CL x.c).2.length ∧ DenL K c.CL F vs x.fs

def BDen (K : PySem.W.Frag) (c : Ctx) (σ : St) (H : Hp) (F' : Hp) (ρ' : Env) (H' : Hp) (v : V) : B → Prop
  | .d x => Den K c.CL F' v x
  | .nw xs => ∃ a vs, v = .ref a ∧ H' a = some (.lst vs) ∧ F' a = none ∧ DenL K c.CL F' vs xs ∧ H a = none
  | .loc i => ∃ s, ρ'.v[i]? = some s ∧ s.live = true ∧ σ[i]? = some (some v)
inductive BDens (K : PySem.W.Frag) (c : Ctx) (σ : St) (H : Hp) (F' : Hp) (ρ' : Env) (H' : Hp) : List V → List B → Prop
  | nil : BDens K c σ H F' ρ' H' [] []
  | cons {v : V} {b : B} {vs : List V} {bs : List B} : BDen K c σ H F' ρ' H' v b → BDens K c σ H F' ρ' H' vs bs →
      (∀ xs : List D, b = B.nw xs → ∀ (i : Nat) (ys : List D), bs[i]? = some (B.nw ys) → vs[i]? ≠ some v) → BDens K c σ H F' ρ' H' (v :: vs) (b :: bs)
/-- what is read of a value: data, or a list as it stands now -/
def View (K : PySem.W.Frag) (c : Ctx) (F H : Hp) (v : V) : D → Prop
  | .lst xs => ∃ a vs, v = .ref a ∧ H a = some (.lst vs) ∧ DenL K c.CL F vs xs
  | d => Den K c.CL F v d
inductive Views (K : PySem.W.Frag) (c : Ctx) (F H : Hp) : List V → List D → Prop
  | nil : Views K c F H [] []
  | cons {v : V} {d : D} {vs : List V} {ds : List D} : View K c F H v d → Views K c F H vs ds → Views K c F H (v :: vs) (d :: ds)
section
variable {K : PySem.W.Frag} {c : Ctx} {F F1 F2 F' H H1 H2 H' : Hp} {ρ ρ1 ρ2 ρ' : Env} {σ : St} {v : V} {b : B} {vs : List V} {bs : List B}

theorem View.of (x : Ex F H) {d : D} (h : Den K c.CL F v d) : View K c F H v d := by
  cases d with
  | lst xs => cases h with | lst h l => exact ⟨_, _, rfl, x _ _ h, l⟩
  | non => exact h
  | bl _ => exact h
  | int _ => exact h
  | str _ => exact h
  | tup _ => exact h
  | obj _ _ => exact h
  | dk _ _ => exact h
  | ro _ => exact h
  | ty _ => exact h
  | cls _ => exact h
theorem View.sq {xs : List D} (x : Ex F H) (h : View K c F H v (.lst xs)) : ∃ a vs, v = .ref a ∧ SqL K H a vs ∧ DenL K c.CL F vs xs := by
  obtain ⟨a, vs, e, h, l⟩ := h
  exact ⟨a, vs, e, .inl (.inl h), l⟩
theorem BDen.view (R : Rel K c F' ρ' σ H') (h : BDen K c σ H F' ρ' H' v b) {d : D} (e : b.view ρ' = some d) : View K c F' H' v d := by
  cases b with
  | d x => cases e; exact View.of R.ex h
  | nw xs => cases e; obtain ⟨a, vs, r, h1, h2, h3, _⟩ := h; exact ⟨a, vs, r, h1, h3⟩
  | loc i =>
    obtain ⟨s, h1, _, h2⟩ := h
    have ok := R.slot h1
    rw [h2] at ok
    unfold B.view at e
    simp only [h1] at e
    cases s with
    | un => cases e
    | att => cases e
    | sh x => cases e; obtain ⟨u, e1, q⟩ := ok; cases e1; exact View.of R.ex q
    | ow xs => cases e; obtain ⟨a, us, e1, q1, q2, q3⟩ := ok; cases e1; exact ⟨a, us, rfl, q1, q3⟩
    | lk xs => cases e; obtain ⟨a, us, e1, q1, q2, q3⟩ := ok; cases e1; exact ⟨a, us, rfl, q1, q3⟩
theorem BDens.views (R : Rel K c F' ρ' σ H') : ∀ {vs : List V} {bs : List B} {ds : List D}, BDens K c σ H F' ρ' H' vs bs → Ev.views ρ' bs = some ds → Views K c F' H' vs ds
  | _, _, _, .nil, e => by cases e; exact .nil
  | _, _, _, .cons (b := b) (bs := bs) h t _, e => by
    unfold Ev.views at e
    split at e
    · cases e
    · rename_i d h1
      split at e
      · cases e
      · rename_i ds h2
        cases e
        exact .cons (h.view R h1) (BDens.views R t h2)

/-- what is bound stays bound while more is evaluated -/
theorem BDen.stay (R : Rel K c F ρ σ H) (g : GoE K c σ F ρ H F1 ρ1 H1) (h : BDen K c σ H F1 ρ1 H1 v b) (g2 : GoE K c σ F1 ρ1 H1 F2 ρ2 H2) : BDen K c σ H F2 ρ2 H2 v b := by
  cases b with
  | d x => exact Den.mono g2.f x h
  | nw xs =>
    obtain ⟨a, vs, r, h1, h2, h3, h4⟩ := h
    have n : ¬ own c ρ1 σ a := fun q => by
      obtain ⟨us, e, _⟩ := own.some R (g.ow a q)
      rw [h4] at e; cases e
    exact ⟨a, vs, r, g2.keep a _ h1 n, g2.fr a h2 (by rw [h1]; simp) n, DenL.mono g2.f _ h3, h4⟩
  | loc i =>
    obtain ⟨s, h1, h2, h3⟩ := h
    obtain ⟨s', h4, h5⟩ := g2.live i s h1 h2
    exact ⟨s', h4, h5, h3⟩
theorem BDen.back (gr : ∀ a, H a ≠ none → H1 a ≠ none) (h : BDen K c σ H1 F' ρ' H' v b) : BDen K c σ H F' ρ' H' v b := by
  cases b with
  | d x => exact h
  | nw xs =>
    obtain ⟨a, vs, r, h1, h2, h3, h4⟩ := h
    refine ⟨a, vs, r, h1, h2, h3, ?_⟩
    cases q : H a with
    | none => rfl
    | some o => exact absurd h4 (gr a (by rw [q]; simp))
  | loc i => exact h
theorem BDens.back (gr : ∀ a, H a ≠ none → H1 a ≠ none) : ∀ {vs : List V} {bs : List B}, BDens K c σ H1 F' ρ' H' vs bs → BDens K c σ H F' ρ' H' vs bs
  | _, _, .nil => .nil
  | _, _, .cons h t n => .cons (h.back gr) (BDens.back gr t) n
theorem BDens.get : ∀ {vs : List V} {bs : List B} {i : Nat} {b : B}, BDens K c σ H F' ρ' H' vs bs → bs[i]? = some b → ∃ v, vs[i]? = some v ∧ BDen K c σ H F' ρ' H' v b
  | _, _, _, _, .nil, e => by simp at e
  | _, _, 0, _, .cons r _ _, e => by simp at e; subst e; exact ⟨_, rfl, r⟩
  | _, _, i + 1, d, .cons _ t _, e => by
    obtain ⟨v, h1, h2⟩ := BDens.get (i := i) (b := d) t (by simpa using e)
    exact ⟨v, by simpa using h1, h2⟩
theorem BDens.length : ∀ {vs : List V} {bs : List B}, BDens K c σ H F' ρ' H' vs bs → vs.length = bs.length
  | _, _, .nil => rfl
  | _, _, .cons _ t _ => by simp [BDens.length t]
/-- one more ahead of some -/
theorem BDens.more (R : Rel K c F ρ σ H) (g : GoE K c σ F ρ H F1 ρ1 H1) (h : BDen K c σ H F1 ρ1 H1 v b) (g2 : GoE K c σ F1 ρ1 H1 F2 ρ2 H2) (t : BDens K c σ H1 F2 ρ2 H2 vs bs) : BDens K c σ H F2 ρ2 H2 (v :: vs) (b :: bs) := by
  refine .cons (h.stay R g g2) (t.back g.grow) ?_
  rintro xs rfl i ys e z
  obtain ⟨a, us, rfl, h1, _⟩ := h
  obtain ⟨w, e2, q⟩ := t.get e
  rw [z] at e2
  cases e2
  obtain ⟨a', us', e3, _, _, _, h4⟩ := q
  cases e3
  rw [h1] at h4
  cases h4

/-- the places that bear a list bear one that stood ahead -/
theorem held_old (R0 : Rel K c F ρ σ H) (g : GoE K c σ F ρ H F1 ρ1 H1) (R : Rel K c F1 ρ1 σ H1) {k : Nat} {s : Slot} {a : Addr} (e : (sl ρ1)[k]? = some s) (hh : s.held = true) (w : (vl c σ)[k]? = some (some (.ref a))) : H a ≠ none := by
  cases s with
  | ow ys =>
    obtain ⟨us, e, _⟩ := own.some R0 (g.ow a ⟨k, ys, e, w⟩)
    rw [e]; simp
  | lk ys =>
    by_cases kl : k < ρ1.v.length
    · have e' : ρ1.v[k]? = some (.lk ys) := by rw [← sl_v kl]; exact e
      obtain ⟨b', us', w', z1, _⟩ := R0.slot (g.lk k ys e')
      rw [vl_v (by rw [← R.len]; exact kl)] at w
      rw [w] at w'
      cases w'
      rw [z1]; simp
    · unfold sl at e
      rw [List.getElem?_append_right (Nat.le_of_not_lt kl)] at e
      exact absurd e (R.noLk _ _)
  | un => cases hh
  | att => cases hh
  | sh _ => cases hh
/-- what is to stand in other data -/
theorem B.keep_ok (R0 : Rel K c F ρ σ H) (g : GoE K c σ F ρ H F1 ρ1 H1) (R : Rel K c F1 ρ1 σ H1) (h : BDen K c σ H F1 ρ1 H1 v b) {d : D} (e : b.keep ρ1 = some (d, ρ2)) :
    ∃ F2, Rel K c F2 ρ2 σ H1 ∧ GoE K c σ F ρ H F2 ρ2 H1 ∧ Den K c.CL F2 v d := by
  cases b with
  | d x => cases e; exact ⟨F1, R, g, h⟩
  | nw xs =>
    cases e
    obtain ⟨a, vs, rfl, h1, h2, h3, h4⟩ := h
    have f : Ex F1 (upd F1 a (.lst vs)) := Ex.new h2
    have ha : H1 a ≠ none := by rw [h1]; simp
    refine ⟨upd F1 a (.lst vs), ⟨R.len, R.lenO, fun b o e => ?_, fun k s e => ?_, R.apart, R.att, R.noLk, fun j d a e1 e2 => f.ne (R.fz j d a e1 e2)⟩, ⟨g.f.trans f, g.keep, fun b g1 g2 g3 => ?_, g.ow, g.lk, g.grow, g.live, g.tell, g.atb⟩, .lst upd_same (DenL.mono f _ h3)⟩
    · by_cases q : b = a
      · subst q; rw [upd_same] at e; cases e; exact h1
      · rw [upd_ne q] at e; exact R.ex b o e
    · refine (R.ok k s e).grow f fun b us hh w q1 q2 => ⟨q1, ?_⟩
      have hb : b ≠ a := fun z => held_old R0 g R e hh w (by rw [z]; exact h4)
      rw [upd_ne hb]; exact q2
    · have hb : b ≠ a := fun z => by subst z; rw [h4] at g2; exact g2 rfl
      rw [upd_ne hb]; exact g.fr b g1 g2 g3
  | loc i =>
    obtain ⟨s, h1, _, h2⟩ := h
    unfold B.keep at e
    simp only [h1] at e
    cases s with
    | un => cases e
    | att => cases e
    | lk xs => cases e
    | sh x =>
      cases e
      obtain ⟨u, e1, q⟩ := R.slot h1
      rw [h2] at e1
      cases e1
      exact ⟨F1, R, g, q⟩
    | ow xs =>
      cases e
      obtain ⟨a, vs, F2, w, _, R2, g2, q⟩ := R.frz h1
      rw [h2] at w
      cases w
      exact ⟨F2, R2, g.trans g2, q⟩
end
end Ev

namespace Ev
open PySem L2

/-- what is wanted behind a piece of evaluation that began at (F, ρ, H) -/
def PostR {α : Type} (K : PySem.W.Frag) (c : Ctx) (σ : St) (F : Hp) (ρ : Env) (H : Hp) (r : Res α) (Ok : Hp → Env → Hp → α → Prop) : Prop :=
  match r with
  | .no => False
  | .ok a ρ' => ∀ F' H', Rel K c F' ρ' σ H' → GoE K c σ F ρ H F' ρ' H' → Ok F' ρ' H' a
  | .ex x ρ' => ∀ F' H' C d, Rel K c F' ρ' σ H' → GoE K c σ F ρ H F' ρ' H' → XDen K c F' H' x C d → c.E C d H'
section
variable {α β : Type} {K : PySem.W.Frag} {c : Ctx} {F F1 F2 F' H H1 H2 H' : Hp} {ρ ρ1 ρ2 ρ' : Env} {σ : St} {v : V} {b : B} {vs : List V} {bs : List B}
theorem PostR.bind {r : Res α} {f : α → Env → Res β} {Ok : Hp → Env → Hp → β → Prop} (h : PostR K c σ F ρ H (r.bind f) Ok) : PostR K c σ F ρ H r fun F1 ρ1 H1 a => PostR K c σ F ρ H (f a ρ1) Ok := by
  cases r with
  | no => exact h
  | ok a ρ' => exact fun F' H' _ _ => h
  | ex x ρ' => exact h
theorem PostR.rebase {r : Res α} {Ok : Hp → Env → Hp → α → Prop} (g : GoE K c σ F ρ H F1 ρ1 H1) (h : PostR K c σ F ρ H r Ok) : PostR K c σ F1 ρ1 H1 r fun F' ρ' H' a => GoE K c σ F ρ H F' ρ' H' ∧ Ok F' ρ' H' a := by
  cases r with
  | no => exact h
  | ok a ρ' => exact fun F' H' R g' => ⟨g.trans g', h F' H' R (g.trans g')⟩
  | ex x ρ' => exact fun F' H' C d R g' q => h F' H' C d R (g.trans g') q
theorem PostR.imp {r : Res α} {Ok Ok' : Hp → Env → Hp → α → Prop} (h : PostR K c σ F ρ H r Ok) (k : ∀ F' ρ' H' a, Rel K c F' ρ' σ H' → GoE K c σ F ρ H F' ρ' H' → Ok F' ρ' H' a → Ok' F' ρ' H' a) : PostR K c σ F ρ H r Ok' := by
  cases r with
  | no => exact h
  | ok a ρ' => exact fun F' H' R g => k _ _ _ _ R g (h F' H' R g)
  | ex x ρ' => exact h

/-! ### readings -/
def OkB (K : PySem.W.Frag) (c : Ctx) (σ : St) (H : Hp) (Q : VK) : Hp → Env → Hp → B → Prop := fun F' ρ' H' b => ∀ v, BDen K c σ H F' ρ' H' v b → Q v H'
def tEv (K : PySem.W.Frag) (c : Ctx) (e : E) : TE := fun σ H Q => ∃ F ρ, Rel K c F ρ σ H ∧ PostR K c σ F ρ H (evE e ρ) (OkB K c σ H Q)
def OkA (K : PySem.W.Frag) (c : Ctx) (σ : St) (H : Hp) (Q : List V → Hp → Prop) : Hp → Env → Hp → List B → Prop := fun F' ρ' H' bs => ∀ vs, BDens K c σ H F' ρ' H' vs bs → Q vs H'
def tEvA (K : PySem.W.Frag) (c : Ctx) (es : Es) : TA := fun σ H Q => ∃ F ρ, Rel K c F ρ σ H ∧ PostR K c σ F ρ H (evA es ρ) (OkA K c σ H Q)
def tEvT (K : PySem.W.Frag) (c : Ctx) (t : T) : TT := fun σ H Q => ∃ F ρ, Rel K c F ρ σ H ∧ PostR K c σ F ρ H (evT t ρ) fun _ _ H' k => Q k H'
abbrev PEv (X : Cx) (c : Ctx) (x : Expr) (e : E) : Prop := PE X x (tEv X.K c e)
abbrev PAv (X : Cx) (c : Ctx) (xs : List Expr) (es : Es) : Prop := PA X xs (tEvA X.K c es)
abbrev PTv (X : Cx) (c : Ctx) (x : Expr) (t : T) : Prop := PT X x (tEvT X.K c t)

theorem PE.wk {X : Cx} {e : Expr} {t t' : TE} (h : PE X e t) (w : ∀ σ H Q, t' σ H Q → t σ H Q) : PE X e t' := ⟨fun pins s σ H Q I q => h.run pins s σ H Q I (w _ _ _ q)⟩
theorem PT.wk {X : Cx} {e : Expr} {t t' : TT} (h : PT X e t) (w : ∀ σ H Q, t' σ H Q → t σ H Q) : PT X e t' := ⟨fun pins s σ H Q I q => h.run pins s σ H Q I (w _ _ _ q)⟩
theorem PW.wk {X : Cx} {e : Expr} {t t' : TT} (h : PW X e t) (w : ∀ σ H Q, t' σ H Q → t σ H Q) : PW X e t' := ⟨fun wh pins s σ H Q I q => h.run wh pins s σ H Q I (w _ _ _ q)⟩
theorem PA.wk {X : Cx} {e : List Expr} {t t' : TA} (h : PA X e t) (w : ∀ σ H Q, t' σ H Q → t σ H Q) : PA X e t' := ⟨fun ps pins s σ H Q I q => h.run ps pins s σ H Q I (w _ _ _ q)⟩
theorem PS.wk {X : Cx} {e : Stmt} {t t' : TS} (h : PS X e t) (w : ∀ D σ H, t' D σ H → t D σ H) : PS X e t' := ⟨fun pins s σ H D I q => h.run pins s σ H D I (w _ _ _ q)⟩
theorem PSs.wk {X : Cx} {e : List Stmt} {t t' : TS} (h : PSs X e t) (w : ∀ D σ H, t' D σ H → t D σ H) : PSs X e t' := ⟨fun pins s σ H D I q => h.run pins s σ H D I (w _ _ _ q)⟩

/-- evaluating e, then what follows -/
theorem tEv_bind {e : E} {f : B → Env → Res β} {Ok : Hp → Env → Hp → β → Prop} {Q : VK} (R : Rel K c F ρ σ H) (P : PostR K c σ F ρ H ((evE e ρ).bind f) Ok)
    (k : ∀ F1 ρ1 H1 b v, Rel K c F1 ρ1 σ H1 → GoE K c σ F ρ H F1 ρ1 H1 → BDen K c σ H F1 ρ1 H1 v b → PostR K c σ F ρ H (f b ρ1) Ok → Q v H1) : tEv K c e σ H Q :=
  ⟨F, ρ, R, P.bind.imp fun F1 ρ1 H1 b R1 g q v hb => k F1 ρ1 H1 b v R1 g hb q⟩
theorem tEvA_bind {es : Es} {f : List B → Env → Res β} {Ok : Hp → Env → Hp → β → Prop} {Q : List V → Hp → Prop} (R : Rel K c F ρ σ H) (P : PostR K c σ F ρ H ((evA es ρ).bind f) Ok)
    (k : ∀ F1 ρ1 H1 bs vs, Rel K c F1 ρ1 σ H1 → GoE K c σ F ρ H F1 ρ1 H1 → BDens K c σ H F1 ρ1 H1 vs bs → PostR K c σ F ρ H (f bs ρ1) Ok → Q vs H1) : tEvA K c es σ H Q :=
  ⟨F, ρ, R, P.bind.imp fun F1 ρ1 H1 b R1 g q v hb => k F1 ρ1 H1 b v R1 g hb q⟩
theorem tEvT_bind {t : T} {f : Bool → Env → Res β} {Ok : Hp → Env → Hp → β → Prop} {Q : Bool → Hp → Prop} (R : Rel K c F ρ σ H) (P : PostR K c σ F ρ H ((evT t ρ).bind f) Ok)
    (k : ∀ F1 ρ1 H1 b, Rel K c F1 ρ1 σ H1 → GoE K c σ F ρ H F1 ρ1 H1 → PostR K c σ F ρ H (f b ρ1) Ok → Q b H1) : tEvT K c t σ H Q :=
  ⟨F, ρ, R, P.bind.imp fun F1 ρ1 H1 b R1 g q => k F1 ρ1 H1 b R1 g q⟩
/-- a piece at the end, moved to its own start -/
theorem tEv_last {e : E} {Q Q' : VK} (R : Rel K c F1 ρ1 σ H1) (g : GoE K c σ F ρ H F1 ρ1 H1) (P : PostR K c σ F ρ H (evE e ρ1) (OkB K c σ H Q)) (k : ∀ v H2, Q v H2 → Q' v H2) : tEv K c e σ H1 Q' :=
  ⟨F1, ρ1, R, (P.rebase g).imp fun F2 ρ2 H2 b R2 g2 q v hb => k v H2 (q.2 v (hb.back g.grow))⟩

/-! ### leaves -/
theorem e_var {X : Cx} {c : Ctx} {i : Nat} {x : Expr} (h : PE X x (tVar i)) : PEv X c x (.var i) := PE.wk h fun σ H Q ⟨F, ρ, R, P⟩ => by
  unfold evE at P
  split at P
  · rename_i d e
    obtain ⟨v, w, q⟩ := R.slot e
    exact ⟨v, w, P F H R (GoE.refl ..) v q⟩
  · rename_i xs e
    obtain ⟨a, vs, w, q⟩ := R.slot e
    exact ⟨_, w, P F H R (GoE.refl ..) _ ⟨_, e, rfl, w⟩⟩
  · rename_i xs e
    obtain ⟨a, vs, w, q⟩ := R.slot e
    exact ⟨_, w, P F H R (GoE.refl ..) _ ⟨_, e, rfl, w⟩⟩
  · exact P.elim
theorem e_con {X : Cx} {c : Ctx} {x : Expr} {v : V} {d : D} (h : PE X x (tC v)) (hd : ∀ F, Den X.K c.CL F v d) : PEv X c x (.con d) := PE.wk h fun σ H Q ⟨F, ρ, R, P⟩ => P F H R (GoE.refl ..) v (hd F)
theorem e_int {X : Cx} {c : Ctx} {i : Int} {j pos} : PEv X c (.Constant (.int i) j pos) (.con (.int i)) := e_con pe_int fun _ => .int i
theorem e_bl {X : Cx} {c : Ctx} {i : Bool} {j pos} : PEv X c (.Constant (.bool i) j pos) (.con (.bl i)) := e_con pe_bl fun _ => .bl i
theorem e_non {X : Cx} {c : Ctx} {j pos} : PEv X c (.Constant .none j pos) (.con .non) := e_con pe_non fun _ => .non
theorem e_str {X : Cx} {c : Ctx} {i : Str} {j pos} : PEv X c (.Constant (.str i) j pos) (.con (.str i)) := e_con pe_str fun _ => .str i
/-- a constant of the module -/
theorem e_glob {X : Cx} {c : Ctx} {x : Str} {v : V} {d : D} {u : Value} {pos : Pos} (hg : Gl X x) (hm : X.mg x = some u) (r : RelV v u) (hd : ∀ F, Den X.K c.CL F v d) (hdb : (x == ("__debug__" : Str)) = false := by decide) : PEv X c (.Name x pos) (.con d) := e_con (pe_glob hg hm r hdb) hd

/-! ### arguments -/
theorem a_nil {X : Cx} {c : Ctx} : PAv X c [] .nil := PA.wk pa_nil fun σ H Q ⟨F, ρ, R, P⟩ => P F H R (GoE.refl ..) [] .nil
theorem a_split {e : E} {es : Es} {Q : List V → Hp → Prop} (h : tEvA K c (.cons e es) σ H Q) : tEv K c e σ H fun v H1 => tEvA K c es σ H1 fun vs H2 => Q (v :: vs) H2 := by
  obtain ⟨F, ρ, R, P⟩ := h
  unfold evA at P
  refine tEv_bind R P fun F1 ρ1 H1 b v R1 g1 hb P1 => ⟨F1, ρ1, R1, ?_⟩
  refine (P1.bind.rebase g1).imp fun F2 ρ2 H2 bs R2 g2 q vs hbs => q.2 F2 H2 R2 q.1 (v :: vs) (BDens.more R g1 hb g2 hbs)
theorem a_cons {X : Cx} {c : Ctx} {x : Expr} {xs : List Expr} {e : E} {es : Es} (h : PEv X c x e) (t : PAv X c xs es) (hs : starEach (x :: xs) X.env = (false, eval x X.env) :: starEach xs X.env := by rfl) : PAv X c (x :: xs) (.cons e es) :=
  PA.wk (pa_cons h t hs) fun σ H Q hw => a_split hw

/-! ### operations on values -/
def RDen (K : PySem.W.Frag) (c : Ctx) (H F' H' : Hp) (v : V) : RB → Prop
  | .d x => Den K c.CL F' v x
  | .nw xs => ∃ a vs, v = .ref a ∧ H' a = some (.lst vs) ∧ F' a = none ∧ DenL K c.CL F' vs xs ∧ H a = none
def Fin (K : PySem.W.Frag) (c : Ctx) (F H : Hp) (res : RB) (Q : VK) : Prop := ∀ v F' H', Ex F F' → Ex H H' → Ex F' H' → (∀ a, F a = none → H a ≠ none → F' a = none) → RDen K c H F' H' v res → Q v H'
/-- r on values does what f does on data -/
def Prim (K : PySem.W.Frag) (c : Ctx) (r : List V → Hp → VK → Prop) (f : List D → Option RB) : Prop := ∀ F H vs ds res Q, Ex F H → Views K c F H vs ds → f ds = some res → Fin K c F H res Q → r vs H Q
theorem prim_go {f : List D → Option RB} {r : List V → Hp → VK → Prop} {es : Es} {Q : VK} (p : Prim K c r f) (h : tEv K c (.prim f es) σ H Q) : tEvA K c es σ H fun vs H1 => r vs H1 Q := by
  obtain ⟨F, ρ, R, P⟩ := h
  unfold evE at P
  refine tEvA_bind R P fun F1 ρ1 H1 bs vs R1 g1 hb P1 => ?_
  split at P1
  · exact P1.elim
  · rename_i ds e1
    split at P1
    · exact P1.elim
    · rename_i res e2
      refine p F1 H1 vs ds res Q R1.ex (hb.views R1 e1) e2 fun v F2 H2 f h x fr rd => ?_
      have g2 := g1.trans (GoE.grown c ρ1 σ f h fr)
      refine P1 F2 H2 (R1.grow f h x fr) g2 v ?_
      cases res with
      | d x => exact rd
      | nw xs =>
        obtain ⟨a, us, q1, q2, q3, q4, q5⟩ := rd
        refine ⟨a, us, q1, q2, q3, q4, ?_⟩
        cases q : H a with
        | none => rfl
        | some o => exact absurd q5 (g1.grow a (by rw [q]; simp))
/-- two operands -/
theorem prim_go2 {f : List D → Option RB} {r : R2} {a b : E} {Q : VK} (p : Prim K c (fun vs H Q => ∃ x y, vs = [x, y] ∧ r x y H Q) f) (h : tEv K c (.prim f (.cons a (.cons b .nil))) σ H Q) : tOp r (tEv K c a) (tEv K c b) σ H Q := by
  have q := a_split (prim_go p h)
  obtain ⟨F, ρ, R, P⟩ := q
  refine ⟨F, ρ, R, P.imp fun F1 ρ1 H1 b R1 g1 k v hv => ?_⟩
  obtain ⟨F2, ρ2, R2, P2⟩ := a_split (k v hv)
  refine ⟨F2, ρ2, R2, P2.imp fun F3 ρ3 H3 b3 R3 g3 k3 w hw => ?_⟩
  obtain ⟨F4, ρ4, R4, P4⟩ := k3 w hw
  obtain ⟨x, y, e, q⟩ := P4 F4 H3 R4 (GoE.refl ..) [] .nil
  cases e
  exact q
theorem prim_go1 {f : List D → Option RB} {r : V → Hp → VK → Prop} {a : E} {Q : VK} (p : Prim K c (fun vs H Q => ∃ x, vs = [x] ∧ r x H Q) f) (h : tEv K c (.prim f (.cons a .nil)) σ H Q) : tUn r (tEv K c a) σ H Q := by
  have q := a_split (prim_go p h)
  obtain ⟨F, ρ, R, P⟩ := q
  refine ⟨F, ρ, R, P.imp fun F1 ρ1 H1 b R1 g1 k v hv => ?_⟩
  obtain ⟨F2, ρ2, R2, P2⟩ := k v hv
  obtain ⟨x, e, q⟩ := P2 F2 H1 R2 (GoE.refl ..) [] .nil
  cases e
  exact q
theorem e_bin {X : Cx} {c : Ctx} {x y : Expr} {a b : E} {op : Operator} {pos : Pos} {r : R2} {f : List D → Option RB} (ho : OpR X (binaryOp op) r) (p : Prim X.K c (fun vs H Q => ∃ x y, vs = [x, y] ∧ r x y H Q) f) (ha : PEv X c x a) (hb : PEv X c y b) :
    PEv X c (.BinOp x op y pos) (.prim f (.cons a (.cons b .nil))) := PE.wk (pe_op ho ha hb) fun _ _ _ h => prim_go2 p h
theorem e_un {X : Cx} {c : Ctx} {x : Expr} {a : E} {op : UnaryOp} {pos : Pos} {r : V → Hp → VK → Prop} {f : List D → Option RB} (ho : UnR X (unaryOp op) r) (p : Prim X.K c (fun vs H Q => ∃ x, vs = [x] ∧ r x H Q) f) (ha : PEv X c x a)  :
    PEv X c (.UnaryOp op x pos) (.prim f (.cons a .nil)) := PE.wk (pe_un ho ha) fun _ _ _ h => prim_go1 p h
theorem e_cmp {X : Cx} {c : Ctx} {x y : Expr} {a b : E} {op : CmpOp} {pos : Pos} {r : R2} {f : List D → Option RB} (ho : OpR X (compareOp op) r) (p : Prim X.K c (fun vs H Q => ∃ x y, vs = [x, y] ∧ r x y H Q) f) (ha : PEv X c x a) (hb : PEv X c y b)
    (hm : behindInMarks op y = false) : PEv X c (.Compare x [op] [y] pos) (.prim f (.cons a (.cons b .nil))) := PE.wk (pe_cmpR ho ha hb hm) fun _ _ _ h => prim_go2 p h
theorem e_ix {X : Cx} {c : Ctx} {x y : Expr} {a b : E} {pos : Pos} {r : R2} {f : List D → Option RB} (ho : IxR X r) (p : Prim X.K c (fun vs H Q => ∃ x y, vs = [x, y] ∧ r x y H Q) f) (ha : PEv X c x a) (hb : PEv X c y b)
    (hm : PlainIx y) : PEv X c (.Subscript x y pos) (.prim f (.cons a (.cons b .nil))) := PE.wk (pe_ix ho ha hb hm) fun _ _ _ h => prim_go2 p h
theorem e_prim {X : Cx} {c : Ctx} {x : Expr} {es : Es} {r : List V → Hp → VK → Prop} {f : List D → Option RB} (p : Prim X.K c r f) (h : PE X x (tCB r (tEvA X.K c es))) : PEv X c x (.prim f es) := PE.wk h fun _ _ _ h => prim_go p h
theorem e_prim0 {X : Cx} {c : Ctx} {x : Expr} {r : List V → Hp → VK → Prop} {f : List D → Option RB} (p : Prim X.K c r f) (h : PE X x (tCB r tNil)) : PEv X c x (.prim f .nil) := PE.wk h fun σ H Q h => by
  obtain ⟨F, ρ, R, P⟩ := prim_go p h
  exact P F H R (GoE.refl ..) [] .nil
theorem chain_go {a b d : E} {r r' : R2} {f f' : List D → Option RB} {Q : VK} (p : Prim K c (fun vs H Q => ∃ x y, vs = [x, y] ∧ r x y H Q) f) (p' : Prim K c (fun vs H Q => ∃ x y, vs = [x, y] ∧ r' x y H Q) f') (h : tEv K c (.chain f f' a b d) σ H Q) :
    tChain r r' (tEv K c a) (tEv K c b) (tEv K c d) σ H Q := by
  obtain ⟨F, ρ, R, P⟩ := h
  unfold evE at P
  refine tEv_bind R P fun F1 ρ1 H1 b1 v1 R1 g1 hb1 P1 => ?_
  refine ⟨F1, ρ1, R1, (P1.bind.rebase g1).imp fun F2 ρ2 H2 b2 R2 g2 q2 v2 hb2 => ?_⟩
  obtain ⟨g02, P2⟩ := q2
  have s1 := hb1.stay R g1 g2
  have s2 := hb2.back g1.grow
  split at P2
  · rename_i d1 d2 e1 e2
    split at P2
    · rename_i k ek
      suffices hq : ∃ x y, [v1, v2] = [x, y] ∧ r x y H2 (fun z H3 => ∃ k, z = .bl k ∧ (if k = true then tEv K c d σ H3 fun w' H4 => r' v2 w' H4 Q else Q (.bl false) H3)) by
        obtain ⟨x, y, e, q⟩ := hq
        cases e
        exact q
      refine p F2 H2 [v1, v2] [d1, d2] _ _ R2.ex (.cons (s1.view R2 e1) (.cons (s2.view R2 e2) .nil)) ek (fun v F3 H3 f3 h3 x3 fr3 rd => ?_)
      have R3 := R2.grow f3 h3 x3 fr3
      have g3 := g02.trans (GoE.grown c ρ2 σ f3 h3 fr3)
      cases rd
      refine ⟨k, rfl, ?_⟩
      cases k with
      | false =>
        rw [if_neg (by decide)]
        exact P2 F3 H3 R3 g3 _ (.bl false)
      | true =>
        rw [if_pos rfl]
        refine ⟨F3, ρ2, R3, (PostR.bind P2 |>.rebase g3).imp fun F4 ρ4 H4 b4 R4 g4 q4 v4 hb4 => ?_⟩
        obtain ⟨g04, P4⟩ := q4
        have s2' := s2.stay R g02 ((GoE.grown c ρ2 σ f3 h3 fr3).trans g4)
        have s4 := hb4.back g3.grow
        split at P4
        · rename_i d3 d4 e3 e4
          split at P4
          · exact P4.elim
          · rename_i res er
            suffices hq : ∃ x y, [v2, v4] = [x, y] ∧ r' x y H4 Q by
              obtain ⟨x, y, e, q⟩ := hq
              cases e
              exact q
            refine p' F4 H4 [v2, v4] [d3, d4] _ Q R4.ex (.cons (s2'.view R4 e3) (.cons (s4.view R4 e4) .nil)) er (fun v F5 H5 f5 h5 x5 fr5 rd5 => ?_)
            refine P4 F5 H5 (R4.grow f5 h5 x5 fr5) (g04.trans (GoE.grown c ρ4 σ f5 h5 fr5)) v ?_
            cases res with
            | d x => exact rd5
            | nw xs =>
              obtain ⟨a, us, q1, q2, q3, q4, q5⟩ := rd5
              refine ⟨a, us, q1, q2, q3, q4, ?_⟩
              cases q : H a with
              | none => rfl
              | some o => exact absurd q5 (g04.grow a (by rw [q]; simp))
        · exact P4.elim
    · exact P2.elim
  · exact P2.elim

/-- a chain of two comparisons: both by values, the middle once -/
theorem e_chain {X : Cx} {c : Ctx} {x : Expr} {a b d : E} {r r' : R2} {f f' : List D → Option RB} (p : Prim X.K c (fun vs H Q => ∃ x y, vs = [x, y] ∧ r x y H Q) f) (p' : Prim X.K c (fun vs H Q => ∃ x y, vs = [x, y] ∧ r' x y H Q) f')
    (h : PE X x (tChain r r' (tEv X.K c a) (tEv X.K c b) (tEv X.K c d))) : PEv X c x (.chain f f' a b d) := PE.wk h fun _ _ _ q => chain_go p p' q


/-! ### displays -/
def tEvD (K : PySem.W.Frag) (c : Ctx) (es : Es) : TA := fun σ H Q => ∃ F ρ, Rel K c F ρ σ H ∧ PostR K c σ F ρ H (evD es ρ) fun F' _ H' ds => ∀ vs, DenL K c.CL F' vs ds → Q vs H'
abbrev PDv (X : Cx) (c : Ctx) (xs : List Expr) (es : Es) : Prop := PA X xs (tEvD X.K c es)
theorem d_nil {X : Cx} {c : Ctx} : PDv X c [] .nil := PA.wk pa_nil fun σ H Q ⟨F, ρ, R, P⟩ => P F H R (GoE.refl ..) [] .nil
theorem d_cons {X : Cx} {c : Ctx} {x : Expr} {xs : List Expr} {e : E} {es : Es} (h : PEv X c x e) (t : PDv X c xs es) (hs : starEach (x :: xs) X.env = (false, eval x X.env) :: starEach xs X.env := by rfl) : PDv X c (x :: xs) (.cons e es) :=
  PA.wk (pa_cons h t hs) fun σ H Q ⟨F, ρ, R, P⟩ => by
    unfold evD at P
    refine tEv_bind R P fun F1 ρ1 H1 b v R1 g1 hb P1 => ?_
    split at P1
    · exact P1.elim
    · rename_i d ρ2 e
      obtain ⟨F2, R2, g2, q⟩ := B.keep_ok R g1 R1 hb e
      exact ⟨F2, ρ2, R2, (P1.bind.rebase g2).imp fun F3 ρ3 H3 ds R3 g3 k vs l => k.2 F3 H3 R3 k.1 (v :: vs) (.cons (Den.mono g3.f _ q) l)⟩
theorem tEvD_bind {es : Es} {f : List D → Env → Res β} {Ok : Hp → Env → Hp → β → Prop} {Q : List V → Hp → Prop} (R : Rel K c F ρ σ H) (P : PostR K c σ F ρ H ((evD es ρ).bind f) Ok)
    (k : ∀ F1 ρ1 H1 ds vs, Rel K c F1 ρ1 σ H1 → GoE K c σ F ρ H F1 ρ1 H1 → DenL K c.CL F1 vs ds → PostR K c σ F ρ H (f ds ρ1) Ok → Q vs H1) : tEvD K c es σ H Q :=
  ⟨F, ρ, R, P.bind.imp fun F1 ρ1 H1 b R1 g q v hb => k F1 ρ1 H1 b v R1 g hb q⟩
theorem sz1000 {n : Nat} (h : n ≤ 1000) : n ≤ sizeLine := Nat.le_trans h (by decide)
theorem GoE.new_of (g : GoE K c σ F ρ H F1 ρ1 H1) {p : Addr} (h : H1 p = none) : H p = none := by
  cases q : H p with
  | none => rfl
  | some o => exact absurd h (g.grow p (by rw [q]; simp))
theorem Rel.noneF (R : Rel K c F ρ σ H) {p : Addr} (h : H p = none) : F p = none := by
  cases q : F p with
  | none => rfl
  | some o => rw [R.ex p o q] at h; cases h
theorem e_tup {X : Cx} {c : Ctx} {xs : List Expr} {es : Es} {k : Nat} {pos : Pos} (h : PE X (.Tuple xs k pos) (tTup (tEvD X.K c es))) : PEv X c (.Tuple xs k pos) (.tup es) := PE.wk h fun σ H Q ⟨F, ρ, R, P⟩ => by
  unfold evE at P
  refine tEvD_bind R P fun F1 ρ1 H1 ds vs R1 g1 l P1 => ?_
  split at P1
  · rename_i hl
    refine ⟨sz1000 (by rw [l.length]; exact hl), fun p hp => ?_⟩
    have hF := R1.noneF hp
    have f : Ex F1 (upd F1 p (.tup vs)) := Ex.new hF
    have fr : ∀ a, F1 a = none → H1 a ≠ none → upd F1 p (.tup vs) a = none := fun a e1 e2 => by rw [upd_ne (fun z => by subst z; exact e2 hp)]; exact e1
    exact P1 (upd F1 p (.tup vs)) _ (R1.grow f (Ex.new hp) (Ex.both R1.ex) fr) (g1.trans (GoE.grown c ρ1 σ f (Ex.new hp) fr)) _ (.tup (.inl (.inl upd_same)) (DenL.mono f _ l))
  · exact P1.elim
/-- {} -/
theorem e_dnew {X : Cx} {c : Ctx} {x : Expr} (h : PE X x tDNewK) : PEv X c x .dnew := PE.wk h fun σ H Q ⟨F, ρ, R, P⟩ => by
  unfold evE at P
  refine fun p hp => ?_
  have hF := R.noneF hp
  have f : Ex F (upd F p (.dK [])) := Ex.new hF
  have fr : ∀ a, F a = none → H a ≠ none → upd F p (.dK []) a = none := fun a e1 e2 => by rw [upd_ne (fun z => by subst z; exact e2 hp)]; exact e1
  exact P (upd F p (.dK [])) _ (R.grow f (Ex.new hp) (Ex.both R.ex) fr) (GoE.grown c ρ σ f (Ex.new hp) fr) _ (.dk (vs := []) upd_same rfl .nil)
theorem e_lst {X : Cx} {c : Ctx} {xs : List Expr} {es : Es} {pos : Pos} (h : PE X (.List xs pos) (tLst (tEvD X.K c es))) : PEv X c (.List xs pos) (.lst es) := PE.wk h fun σ H Q ⟨F, ρ, R, P⟩ => by
  unfold evE at P
  refine tEvD_bind R P fun F1 ρ1 H1 ds vs R1 g1 l P1 => ?_
  split at P1
  · rename_i hl
    refine ⟨sz1000 (by rw [l.length]; exact hl), fun p hp => ?_⟩
    have hF := R1.noneF hp
    have x : Ex F1 (upd H1 p (.lst vs)) := R1.ex.trans (Ex.new hp)
    have fr : ∀ a, F1 a = none → H1 a ≠ none → F1 a = none := fun a e1 e2 => e1
    exact P1 F1 _ (R1.grow (Ex.refl _) (Ex.new hp) x fr) (g1.trans (GoE.grown c ρ1 σ (Ex.refl _) (Ex.new hp) fr)) _ ⟨p, vs, rfl, upd_same, hF, l, g1.new_of hp⟩
  · exact P1.elim

/-! ### and, or, not, if -/
theorem e_and {X : Cx} {c : Ctx} {x : Expr} {a b : E} (h : PE X x (tAndV (tEv X.K c a) (tEv X.K c b))) : PEv X c x (.and a b) := PE.wk h fun σ H Q ⟨F, ρ, R, P⟩ => by
  unfold evE at P
  refine tEv_bind R P fun F1 ρ1 H1 b1 v1 R1 g1 hb1 P1 => ?_
  split at P1
  · rename_i k e
    cases hb1.view R1 e
    refine ⟨k, rfl, ?_⟩
    cases k with
    | true =>
      rw [if_pos rfl]
      rw [if_pos rfl] at P1
      exact tEv_last R1 g1 P1 fun _ _ q => q
    | false =>
      rw [if_neg (by decide)]
      rw [if_neg (by decide)] at P1
      exact P1 F1 H1 R1 g1 _ (.bl false)
  · exact P1.elim
theorem e_or {X : Cx} {c : Ctx} {x : Expr} {a b : E} (h : PE X x (tOrV (tEv X.K c a) (tEv X.K c b))) : PEv X c x (.or a b) := PE.wk h fun σ H Q ⟨F, ρ, R, P⟩ => by
  unfold evE at P
  refine tEv_bind R P fun F1 ρ1 H1 b1 v1 R1 g1 hb1 P1 => ?_
  split at P1
  · rename_i k e
    cases hb1.view R1 e
    refine ⟨k, rfl, ?_⟩
    cases k with
    | true =>
      rw [if_pos rfl]
      rw [if_pos rfl] at P1
      exact P1 F1 H1 R1 g1 _ (.bl true)
    | false =>
      rw [if_neg (by decide)]
      rw [if_neg (by decide)] at P1
      exact tEv_last R1 g1 P1 fun _ _ q => q
  · exact P1.elim
theorem e_one {X : Cx} {c : Ctx} {x : Expr} {op : BoolOp} {pos : Pos} {a : E} (h : PEv X c x a) : PEv X c (.BoolOp op [x] pos) a := pe_one h
theorem e_not {X : Cx} {c : Ctx} {x : Expr} {a : E} {pos : Pos} (h : PEv X c x a) : PEv X c (.UnaryOp .Not x pos) (.notb a) := PE.wk (pe_not h) fun σ H Q ⟨F, ρ, R, P⟩ => by
  unfold evE at P
  refine tEv_bind R P fun F1 ρ1 H1 b1 v1 R1 g1 hb1 P1 => ?_
  split at P1
  · rename_i k e
    cases hb1.view R1 e
    exact ⟨k, rfl, P1 F1 H1 R1 g1 _ (.bl _)⟩
  · exact P1.elim
theorem e_ite {X : Cx} {c : Ctx} {x y z : Expr} {t : T} {a b : E} {pos : Pos} (ht : PTv X c x t) (ha : PEv X c y a) (hb : PEv X c z b) : PEv X c (.IfExp x y z pos) (.ite t a b) := PE.wk (pe_ifExp ht ha hb) fun σ H Q ⟨F, ρ, R, P⟩ => by
  unfold evE at P
  refine tEvT_bind R P fun F1 ρ1 H1 k R1 g1 P1 => ?_
  cases k with
  | true =>
    rw [if_pos rfl]
    rw [if_pos rfl] at P1
    exact tEv_last R1 g1 P1 fun _ _ q => q
  | false =>
    rw [if_neg (by decide)]
    rw [if_neg (by decide)] at P1
    exact tEv_last R1 g1 P1 fun _ _ q => q

/-! ### tests -/
theorem View.truth {H : Hp} {d : D} {k : Bool} (x : Ex F H) (hv : View K c F H v d) (e : d.truth = some k) : TruV K v H k := by
  cases d with
  | non => cases hv; cases e; rfl
  | bl b => cases hv; cases e; rfl
  | int i => cases hv; cases e; rfl
  | str s =>
    cases hv
    have e' : (if s.length ≤ 1000000 then some ((s.length : Int) != 0) else none) = some k := e
    by_cases h : s.length ≤ 1000000
    · rw [if_pos h] at e'
      cases e'
      exact ⟨Nat.le_trans h (by decide), rfl⟩
    · rw [if_neg h] at e'
      cases e'
  | tup xs =>
    cases hv with
    | tup h l =>
      cases e
      refine .inr (.inl ⟨_, x.t h, ?_⟩)
      cases l <;> rfl
  | lst xs =>
    obtain ⟨a, vs, rfl, h, l⟩ := hv.sq x
    cases e
    refine .inl ⟨vs, h, ?_⟩
    cases l <;> rfl
  | obj _ _ => cases e
  | dk _ _ => cases e
  | ro _ => cases e
  | ty _ => cases e
  | cls _ => cases e
/-- a value by its truth -/
theorem t_e {X : Cx} {c : Ctx} {x : Expr} {a : E} (h : PEv X c x a) (he : ∀ whole, isTrue x X.env whole = (do let v ← whole; standAt x.pos; holding [v] (truthy v)) := by intro _; rfl) : PTv X c x (.e a) := PT.wk (pt_truth h he) fun σ H Q ⟨F, ρ, R, P⟩ => by
  unfold evT at P
  refine tEv_bind R P fun F1 ρ1 H1 b1 v1 R1 g1 hb1 P1 => ?_
  split at P1
  · exact P1.elim
  · rename_i d e
    split at P1
    · exact P1.elim
    · rename_i k ek
      exact ⟨k, (hb1.view R1 e).truth R1.ex ek, P1 F1 H1 R1 g1⟩
/-- an expression that gives True or False -/
theorem tEvT_eb {e : E} {Q : Bool → Hp → Prop} (h : tEvT K c (.eb e) σ H Q) : tEv K c e σ H fun x H' => ∃ k, x = .bl k ∧ Q k H' := by
  obtain ⟨F, ρ, R, P⟩ := h
  unfold evT at P
  refine tEv_bind R P fun F1 ρ1 H1 b1 v1 R1 g1 hb1 P1 => ?_
  split at P1
  · rename_i k e
    cases hb1.view R1 e
    exact ⟨k, rfl, P1 F1 H1 R1 g1⟩
  · exact P1.elim
theorem t_cmp {X : Cx} {c : Ctx} {x : Expr} {r : R2} {f : List D → Option RB} {a b : E} (p : Prim X.K c (fun vs H Q => ∃ x y, vs = [x, y] ∧ r x y H Q) f) (h : PT X x (tTest (tOp r (tEv X.K c a) (tEv X.K c b)))) : PTv X c x (.eb (.prim f (.cons a (.cons b .nil)))) :=
  PT.wk h fun _ _ _ q => prim_go2 p (tEvT_eb q)
theorem t_chain {X : Cx} {c : Ctx} {x : Expr} {a b d : E} {r r' : R2} {f f' : List D → Option RB} (p : Prim X.K c (fun vs H Q => ∃ x y, vs = [x, y] ∧ r x y H Q) f) (p' : Prim X.K c (fun vs H Q => ∃ x y, vs = [x, y] ∧ r' x y H Q) f')
    (h : PT X x (tTest (tChain r r' (tEv X.K c a) (tEv X.K c b) (tEv X.K c d)))) : PTv X c x (.eb (.chain f f' a b d)) := PT.wk h fun _ _ _ q => chain_go p p' (tEvT_eb q)
theorem tAnd_go {a b : T} {Q : Bool → Hp → Prop} (h : tEvT K c (.and a b) σ H Q) : tAnd (tEvT K c a) (tEvT K c b) σ H Q := by
  obtain ⟨F, ρ, R, P⟩ := h
  unfold evT at P
  refine tEvT_bind R P fun F1 ρ1 H1 k R1 g1 P1 => ?_
  cases k with
  | true =>
    rw [if_pos rfl]
    rw [if_pos rfl] at P1
    exact ⟨F1, ρ1, R1, (P1.rebase g1).imp fun F2 ρ2 H2 b R2 g2 q => q.2⟩
  | false =>
    rw [if_neg (by decide)]
    rw [if_neg (by decide)] at P1
    exact P1 F1 H1 R1 g1
theorem tOr_go {a b : T} {Q : Bool → Hp → Prop} (h : tEvT K c (.or a b) σ H Q) : tOr (tEvT K c a) (tEvT K c b) σ H Q := by
  obtain ⟨F, ρ, R, P⟩ := h
  unfold evT at P
  refine tEvT_bind R P fun F1 ρ1 H1 k R1 g1 P1 => ?_
  cases k with
  | true =>
    rw [if_pos rfl]
    rw [if_pos rfl] at P1
    exact P1 F1 H1 R1 g1
  | false =>
    rw [if_neg (by decide)]
    rw [if_neg (by decide)] at P1
    exact ⟨F1, ρ1, R1, (P1.rebase g1).imp fun F2 ρ2 H2 b R2 g2 q => q.2⟩
abbrev PWv (X : Cx) (c : Ctx) (x : Expr) (t : T) : Prop := PW X x (tEvT X.K c t)
theorem w_and1 {X : Cx} {c : Ctx} {x : Expr} {t : T} {pos : Pos} (h : PTv X c x t) : PWv X c (.BoolOp .And [x] pos) t := pw_and1 h
theorem w_or1 {X : Cx} {c : Ctx} {x : Expr} {t : T} {pos : Pos} (h : PTv X c x t) : PWv X c (.BoolOp .Or [x] pos) t := pw_or1 h
theorem w_and {X : Cx} {c : Ctx} {x y : Expr} {rest : List Expr} {t u : T} {pos : Pos} (h : PTv X c x t) (h2 : PWv X c (.BoolOp .And (y :: rest) pos) u) : PWv X c (.BoolOp .And (x :: y :: rest) pos) (.and t u) := PW.wk (pw_and h h2) fun _ _ _ q => tAnd_go q
theorem w_or {X : Cx} {c : Ctx} {x y : Expr} {rest : List Expr} {t u : T} {pos : Pos} (h : PTv X c x t) (h2 : PWv X c (.BoolOp .Or (y :: rest) pos) u) : PWv X c (.BoolOp .Or (x :: y :: rest) pos) (.or t u) := PW.wk (pw_or h h2) fun _ _ _ q => tOr_go q
theorem t_w {X : Cx} {c : Ctx} {x : Expr} {t : T} (h : PWv X c x t) : PTv X c x t := h.pt
theorem t_not {X : Cx} {c : Ctx} {x : Expr} {t : T} {pos : Pos} (h : PTv X c x t) : PTv X c (.UnaryOp .Not x pos) (.not t) := PT.wk (pt_not h) fun σ H Q ⟨F, ρ, R, P⟩ => by
  unfold evT at P
  exact tEvT_bind R P fun F1 ρ1 H1 k R1 g1 P1 => P1 F1 H1 R1 g1
end
end Ev

namespace Ev
open PySem L2

theorem mapI_get (f : Nat → Slot → Slot) : ∀ (l : List Slot) (n k : Nat), (mapI f n l)[k]? = l[k]?.map (f (n + k))
  | [], n, k => by simp [mapI]
  | s :: r, n, 0 => by simp [mapI]
  | s :: r, n, k + 1 => by
    unfold mapI
    simp only [List.getElem?_cons_succ]
    rw [mapI_get f r (n + 1) k]
    congr 2
    omega
theorem mapI_length (f : Nat → Slot → Slot) : ∀ (l : List Slot) (n : Nat), (mapI f n l).length = l.length
  | [], n => rfl
  | s :: r, n => by simp [mapI, mapI_length f r]
theorem newAt_some : ∀ {bs : List B} {ss : List Slot} {k : Nat} {s : Slot}, newAt bs ss k = some s → ∃ i : Nat, bs[i]? = some (B.loc k) ∧ ss[i]? = some s
  | [], _, _, _, h => by simp [newAt] at h
  | .d x :: bs, [], _, _, h => by simp [newAt] at h
  | .nw x :: bs, [], _, _, h => by simp [newAt] at h
  | .loc x :: bs, [], _, _, h => by simp [newAt] at h
  | .d x :: bs, s :: ss, k, t, h => let ⟨i, h1, h2⟩ := newAt_some (bs := bs) (ss := ss) (k := k) (s := t) (by simpa [newAt] using h); ⟨i + 1, by simpa using h1, by simpa using h2⟩
  | .nw x :: bs, s :: ss, k, t, h => let ⟨i, h1, h2⟩ := newAt_some (bs := bs) (ss := ss) (k := k) (s := t) (by simpa [newAt] using h); ⟨i + 1, by simpa using h1, by simpa using h2⟩
  | .loc j :: bs, s :: ss, k, t, h => by
    unfold newAt at h
    by_cases e : k = j
    · rw [if_pos e] at h; cases h; subst e; exact ⟨0, rfl, rfl⟩
    · rw [if_neg e] at h
      obtain ⟨i, h1, h2⟩ := newAt_some h
      exact ⟨i + 1, by simpa using h1, by simpa using h2⟩
theorem noTwice_uniq : ∀ {bs : List B} {i i' k : Nat}, noTwice bs = true → bs[i]? = some (.loc k) → bs[i']? = some (.loc k) → i = i'
  | [], _, _, _, _, h, _ => by simp at h
  | .d x :: bs, 0, _, _, _, h, _ => by simp at h
  | .d x :: bs, _, 0, _, _, _, h => by simp at h
  | .d x :: bs, i + 1, i' + 1, k, n, h, h' => congrArg Nat.succ (noTwice_uniq (bs := bs) n (by simpa using h) (by simpa using h'))
  | .nw x :: bs, 0, _, _, _, h, _ => by simp at h
  | .nw x :: bs, _, 0, _, _, _, h => by simp at h
  | .nw x :: bs, i + 1, i' + 1, k, n, h, h' => congrArg Nat.succ (noTwice_uniq (bs := bs) n (by simpa using h) (by simpa using h'))
  | .loc j :: bs, 0, 0, _, _, _, _ => rfl
  | .loc j :: bs, 0, i' + 1, k, n, h, h' => by
    simp at h
    subst h
    unfold noTwice at n
    simp only [Bool.and_eq_true, List.all_eq_true] at n
    have := n.1 (.loc j) (List.mem_of_getElem? (by simpa using h'))
    simp at this
  | .loc j :: bs, i + 1, 0, k, n, h, h' => by
    simp at h'
    subst h'
    unfold noTwice at n
    simp only [Bool.and_eq_true, List.all_eq_true] at n
    have := n.1 (.loc j) (List.mem_of_getElem? (by simpa using h))
    simp at this
  | .loc j :: bs, i + 1, i' + 1, k, n, h, h' => by
    unfold noTwice at n
    simp only [Bool.and_eq_true] at n
    exact congrArg Nat.succ (noTwice_uniq (bs := bs) n.2 (by simpa using h) (by simpa using h'))
theorem newAt_of : ∀ {bs : List B} {ss : List Slot} {i k : Nat} {s : Slot}, noTwice bs = true → bs[i]? = some (.loc k) → ss[i]? = some s → newAt bs ss k = some s
  | [], _, _, _, _, _, h, _ => by simp at h
  | _ :: _, [], _, _, _, _, _, h => by simp at h
  | .d x :: bs, t :: ss, 0, _, _, _, h, _ => by simp at h
  | .nw x :: bs, t :: ss, 0, _, _, _, h, _ => by simp at h
  | .d x :: bs, t :: ss, i + 1, k, s, n, h, h' => by unfold newAt; exact newAt_of n (by simpa using h) (by simpa using h')
  | .nw x :: bs, t :: ss, i + 1, k, s, n, h, h' => by unfold newAt; exact newAt_of n (by simpa using h) (by simpa using h')
  | .loc j :: bs, t :: ss, 0, k, s, n, h, h' => by
    simp at h h'
    subst h; subst h'
    unfold newAt
    rw [if_pos rfl]
  | .loc j :: bs, t :: ss, i + 1, k, s, n, h, h' => by
    have hj : k ≠ j := by
      intro e
      subst e
      have := noTwice_uniq (i := i + 1) (i' := 0) n h rfl
      omega
    unfold newAt
    rw [if_neg hj]
    unfold noTwice at n
    simp only [Bool.and_eq_true] at n
    exact newAt_of n.2 (by simpa using h) (by simpa using h')

/-! ### what is passed, what comes back -/
def pown (vs : List V) (ss : List Slot) (a : Addr) : Prop := ∃ (i : Nat) (xs : List D), ss[i]? = some (.ow xs) ∧ vs[i]? = some (.ref a)
def ArgOk (K : PySem.W.Frag) (CL : Nat → Addr × List Str) (F H : Hp) (v : Option V) : Slot → Prop
  | .sh d => ∃ u, v = some u ∧ Den K CL F u d
  | .ow xs => ∃ a us, v = some (.ref a) ∧ H a = some (.lst us) ∧ F a = none ∧ DenL K CL F us xs
  | _ => False
structure ARel (K : PySem.W.Frag) (CL : Nat → Addr × List Str) (F H : Hp) (vs : List V) (ss : List Slot) : Prop where
  len : vs.length = ss.length
  ex : Ex F H
  ok : ∀ (i : Nat) (s : Slot), ss[i]? = some s → ArgOk K CL F H vs[i]? s
  apart : ∀ (i i' : Nat) (xs ys : List D) (a : Addr), ss[i]? = some (.ow xs) → ss[i']? = some (.ow ys) → vs[i]? = some (.ref a) → vs[i']? = some (.ref a) → i = i'
structure FGo (F H : Hp) (vs : List V) (ss : List Slot) (F' H' : Hp) : Prop where
  f : Ex F F'
  ex : Ex F' H'
  keep : ∀ a o, H a = some o → ¬ pown vs ss a → H' a = some o
  fr : ∀ a, F a = none → H a ≠ none → ¬ pown vs ss a → F' a = none
  grow : ∀ a, H a ≠ none → H' a ≠ none
def ORel (K : PySem.W.Frag) (CL : Nat → Addr × List Str) (F' H' : Hp) (vs : List V) (ss o : List Slot) : Prop := ∀ (i : Nat) (xs : List D), ss[i]? = some (.ow xs) →
  (∃ ys a us, o[i]? = some (.ow ys) ∧ vs[i]? = some (.ref a) ∧ H' a = some (.lst us) ∧ F' a = none ∧ DenL K CL F' us ys) ∨
  (∃ d a, o[i]? = some (.sh d) ∧ vs[i]? = some (.ref a) ∧ Den K CL F' (.ref a) d ∧ F' a ≠ none)
abbrev c0 (CL : Nat → Addr × List Str) : Ctx := ⟨CL, [], fun _ _ _ => False⟩
/-- the promise of a def whose doing is g -/
def spF (K : PySem.W.Frag) (CL : Nat → Addr × List Str) (g : Fn) (n : Nat) : Sp := fun vs H Q E => vs.length = n ∧ ∃ F ss, ARel K CL F H vs ss ∧ match g ss with
  | .no => False
  | .ok r o => ∀ F' v H', FGo F H vs ss F' H' → ORel K CL F' H' vs ss o → RDen K (c0 CL) H F' H' v r → Q v H'
  | .ex x o => ∀ F' H' C d, FGo F H vs ss F' H' → ORel K CL F' H' vs ss o → XDen K (c0 CL) F' H' x C d → E C d H'

section
variable {α β : Type} {K : PySem.W.Frag} {c : Ctx} {F F1 F2 F' H H1 H2 H' : Hp} {ρ ρ1 ρ2 ρ' : Env} {σ : St} {v : V} {b : B} {vs : List V} {bs : List B} {ss o : List Slot}
theorem args_get : ∀ {bs : List B} {ss : List Slot}, args ρ bs = some ss → ss.length = bs.length ∧ ∀ (i : Nat) (s : Slot), ss[i]? = some s → ∃ b, bs[i]? = some b ∧ b.arg ρ = some s
  | [], ss, h => by cases h; exact ⟨rfl, fun i s e => by simp at e⟩
  | b :: bs, ss, h => by
    unfold args at h
    split at h
    · cases h
    · rename_i s hs
      split at h
      · cases h
      · rename_i r hr
        cases h
        obtain ⟨h1, h2⟩ := args_get hr
        refine ⟨by simp [h1], fun i t e => ?_⟩
        cases i with
        | zero => simp at e; subst e; exact ⟨b, rfl, hs⟩
        | succ i => exact h2 i t (by simpa using e)
theorem BDens.nws (h : BDens K c σ H F' ρ' H' vs bs) {i i' : Nat} {xs ys : List D} {v : V} (e : bs[i]? = some (.nw xs)) (e' : bs[i']? = some (.nw ys)) (w : vs[i]? = some v) (w' : vs[i']? = some v) : i = i' := by
  induction h generalizing i i' with
  | nil => simp at e
  | cons _ _ n ih =>
    cases i with
    | zero =>
      cases i' with
      | zero => rfl
      | succ i' =>
        simp at e w
        subst e; subst w
        exact absurd (by simpa using w') (n xs rfl i' ys (by simpa using e'))
    | succ i =>
      cases i' with
      | zero =>
        simp at e' w'
        subst e'; subst w'
        exact absurd (by simpa using w) (n ys rfl i xs (by simpa using e))
      | succ i' => exact congrArg Nat.succ (ih (by simpa using e) (by simpa using e') (by simpa using w) (by simpa using w'))
/-- a list that is passed: a new one, or a variable's -/
theorem passed (R0 : Rel K c F ρ σ H) (g : GoE K c σ F ρ H F1 ρ1 H1) (R : Rel K c F1 ρ1 σ H1) (hb : BDens K c σ H F1 ρ1 H1 vs bs) (ha : args ρ1 bs = some ss) {i : Nat} {xs : List D} {a : Addr} (e : ss[i]? = some (.ow xs)) (w : vs[i]? = some (.ref a)) :
    (bs[i]? = some (.nw xs) ∧ H a = none) ∨ (∃ k : Nat, bs[i]? = some (B.loc k) ∧ ρ1.v[k]? = some (Slot.ow xs) ∧ σ[k]? = some (some (V.ref a)) ∧ (sl ρ1)[k]? = some (Slot.ow xs) ∧ (vl c σ)[k]? = some (some (V.ref a))) := by
  obtain ⟨b, e1, e2⟩ := (args_get ha).2 i _ e
  obtain ⟨v, w1, q⟩ := hb.get e1
  rw [w] at w1
  cases w1
  cases b with
  | d x => cases e2
  | nw ys =>
    cases e2
    obtain ⟨a', us, z, _, _, _, h⟩ := q
    cases z
    exact .inl ⟨e1, h⟩
  | loc k =>
    obtain ⟨s, h1, h2, h3⟩ := q
    unfold B.arg at e2
    simp only [h1] at e2
    cases s with
    | ow ys =>
      cases e2
      have kl := lt_of_get h1
      exact .inr ⟨k, e1, h1, h3, by rw [sl_v kl]; exact h1, by rw [vl_v (by rw [← R.len]; exact kl)]; exact h3⟩
    | sh _ => cases e2
    | lk _ => cases e2
    | un => cases e2
    | att => cases e2
theorem args_ok (R0 : Rel K c F ρ σ H) (g : GoE K c σ F ρ H F1 ρ1 H1) (R : Rel K c F1 ρ1 σ H1) (hb : BDens K c σ H F1 ρ1 H1 vs bs) (ha : args ρ1 bs = some ss) (hn : noTwice bs = true) : ARel K c.CL F1 H1 vs ss := by
  obtain ⟨l1, l2⟩ := args_get ha
  refine ⟨by rw [hb.length, l1], R.ex, fun i s e => ?_, fun i i' xs ys a e e' w w' => ?_⟩
  · obtain ⟨b, e1, e2⟩ := l2 i s e
    obtain ⟨v, w1, q⟩ := hb.get e1
    cases b with
    | d x => cases e2; exact ⟨v, w1, q⟩
    | nw xs => cases e2; obtain ⟨a, us, rfl, h1, h2, h3, _⟩ := q; exact ⟨a, us, w1, h1, h2, h3⟩
    | loc k =>
      obtain ⟨s', h1, h2, h3⟩ := q
      unfold B.arg at e2
      simp only [h1] at e2
      have ok := R.slot h1
      rw [h3] at ok
      cases s' with
      | ow ys => cases e2; obtain ⟨a, us, z, q1, q2, q3⟩ := ok; cases z; exact ⟨a, us, w1, q1, q2, q3⟩
      | sh d => cases e2; obtain ⟨u, z, q1⟩ := ok; cases z; exact ⟨v, w1, q1⟩
      | lk _ => cases e2
      | un => cases e2
      | att => cases e2
  · rcases passed R0 g R hb ha e w with ⟨p1, p2⟩ | ⟨k, p1, p2, p3, p4, p5⟩
    · rcases passed R0 g R hb ha e' w' with ⟨q1, q2⟩ | ⟨k', q1, q2, q3, q4, q5⟩
      · exact hb.nws p1 q1 w w'
      · exact absurd p2 (held_old R0 g R q4 rfl q5)
    · rcases passed R0 g R hb ha e' w' with ⟨q1, q2⟩ | ⟨k', q1, q2, q3, q4, q5⟩
      · exact absurd q2 (held_old R0 g R p4 rfl p5)
      · have := R.apart k k' _ _ a p4 q4 rfl rfl p5 q5
        subst this
        exact noTwice_uniq hn p1 q1

theorem sl_o {j : Nat} : (sl ρ)[ρ.v.length + j]? = ρ.o[j]? := by
  unfold sl
  rw [List.getElem?_append_right (by omega)]
  simp
theorem vl_o (R : Rel K c F ρ σ H) {j : Nat} : (vl c σ)[ρ.v.length + j]? = c.Ps[j]?.map some := by
  unfold vl
  rw [R.len, List.getElem?_append_right (by omega)]
  simp
theorem Rel.slotO (R : Rel K c F ρ σ H) {j : Nat} {s : Slot} (h : ρ.o[j]? = some s) : SlotOk K c F H s (c.Ps[j]?.map some) := by
  have := R.ok (ρ.v.length + j) s (by rw [sl_o]; exact h)
  rwa [vl_o R] at this

/-- behind a call -/
theorem back_ok (R0 : Rel K c F ρ σ H) (g : GoE K c σ F ρ H F1 ρ1 H1) (R : Rel K c F1 ρ1 σ H1) (hb : BDens K c σ H F1 ρ1 H1 vs bs) (ha : args ρ1 bs = some ss) (hn : noTwice bs = true) (fg : FGo F1 H1 vs ss F' H') (or : ORel K c.CL F' H' vs ss o) :
    Rel K c F' (back ρ1 bs o) σ H' ∧ GoE K c σ F ρ H F' (back ρ1 bs o) H' := by
  -- no list that stood ahead and was not passed is changed
  have np : ∀ (k : Nat) (s : Slot) (a : Addr), (sl ρ1)[k]? = some s → s.held = true → (vl c σ)[k]? = some (some (.ref a)) → pown vs ss a → ∃ (i : Nat) (xs : List D), bs[i]? = some (B.loc k) ∧ ss[i]? = some (Slot.ow xs) ∧ s = Slot.ow xs ∧ vs[i]? = some (V.ref a) := by
    rintro k s a e hh w ⟨i, xs, e1, w1⟩
    rcases passed R0 g R hb ha e1 w1 with ⟨p1, p2⟩ | ⟨k', p1, p2, p3, p4, p5⟩
    · exact absurd p2 (held_old R0 g R e hh w)
    · have := R.apart k k' _ _ a e p4 hh rfl w p5
      subst this
      rw [e] at p4
      cases p4
      exact ⟨i, xs, p1, e1, rfl, w1⟩
  have vlen : (back ρ1 bs o).v.length = ρ1.v.length := mapI_length ..
  have olen : (back ρ1 bs o).o.length = ρ1.o.length := mapI_length ..
  have gv : ∀ k, (back ρ1 bs o).v[k]? = ρ1.v[k]?.map fun s => new1 s (newAt bs o k) := fun k => by
    show (mapI _ 0 ρ1.v)[k]? = _
    rw [mapI_get]
    simp
  have go : ∀ k, (back ρ1 bs o).o[k]? = ρ1.o[k]?.map fun s => newO s ρ1.v[k]? (newAt bs o k) := fun k => by
    show (mapI _ 0 ρ1.o)[k]? = _
    rw [mapI_get]
    simp
  -- a place of a variable: what it was, what it is
  have keyv : ∀ (k : Nat) (s' : Slot), (back ρ1 bs o).v[k]? = some s' → ∃ s, ρ1.v[k]? = some s ∧
      ((s' = s ∧ ∀ a, s.held = true → σ[k]? = some (some (.ref a)) → ¬ pown vs ss a) ∨
       (∃ (xs ys : List D) (a : Addr) (us : List V), s = Slot.ow xs ∧ s' = Slot.ow ys ∧ σ[k]? = some (some (V.ref a)) ∧ H' a = some (HO.lst us) ∧ F' a = none ∧ DenL K c.CL F' us ys) ∨
       (∃ (xs : List D) (d : D) (a : Addr), s = Slot.ow xs ∧ s' = Slot.sh d ∧ σ[k]? = some (some (V.ref a)) ∧ Den K c.CL F' (V.ref a) d ∧ F' a ≠ none ∧ newAt bs o k = some (Slot.sh d))) := by
    intro k s' e
    rw [gv] at e
    cases h : ρ1.v[k]? with
    | none => rw [h] at e; cases e
    | some s =>
      rw [h] at e
      simp only [Option.map_some, Option.some.injEq] at e
      refine ⟨s, rfl, ?_⟩
      have kl := lt_of_get h
      have hs : (sl ρ1)[k]? = some s := by rw [sl_v kl]; exact h
      have hw : (vl c σ)[k]? = σ[k]? := vl_v (by rw [← R.len]; exact kl)
      by_cases hp : ∃ a, s.held = true ∧ σ[k]? = some (some (.ref a)) ∧ pown vs ss a
      · obtain ⟨a, hh, w, p⟩ := hp
        obtain ⟨i, xs, b1, b2, rfl, b4⟩ := np k s a hs hh (by rw [hw]; exact w) p
        rcases or i xs b2 with ⟨ys, a', us, q1, q2, q3, q4, q5⟩ | ⟨d, a', q1, q2, q3, q4⟩
        · rw [b4] at q2
          cases q2
          have na : newAt bs o k = some (.ow ys) := newAt_of hn b1 q1
          rw [na] at e
          exact .inr (.inl ⟨xs, ys, a, us, rfl, e.symm, w, q3, q4, q5⟩)
        · rw [b4] at q2
          cases q2
          have na : newAt bs o k = some (.sh d) := newAt_of hn b1 q1
          rw [na] at e
          exact .inr (.inr ⟨xs, d, a, rfl, e.symm, w, q3, q4, na⟩)
      · left
        refine ⟨?_, fun a hh w p => hp ⟨a, hh, w, p⟩⟩
        rw [← e]
        cases s with
        | ow xs =>
          -- it was not passed
          cases q : newAt bs o k with
          | none => rfl
          | some t =>
            exfalso
            obtain ⟨i, b1, b2⟩ := newAt_some q
            obtain ⟨v, w1, s2, z1, z2, z3⟩ := hb.get b1
            obtain ⟨a, us, z4, _⟩ := R.slot h
            rw [z3] at z4
            cases z4
            apply hp
            refine ⟨a, rfl, z3, i, xs, ?_, w1⟩
            have il : i < ss.length := by rw [(args_get ha).1]; exact lt_of_get b1
            obtain ⟨b', c1, c2⟩ := (args_get ha).2 i ss[i] (List.getElem?_eq_getElem il)
            rw [b1] at c1
            cases c1
            unfold B.arg at c2
            simp only [h] at c2
            rw [List.getElem?_eq_getElem il]
            exact c2.symm
        | un => rfl
        | att => rfl
        | sh _ => rfl
        | lk _ => rfl
  have keyo : ∀ (j : Nat) (s' : Slot), (back ρ1 bs o).o[j]? = some s' → ∃ s, ρ1.o[j]? = some s ∧ (s' = s ∨ (∃ (d : D) (a : Addr), s = Slot.att ∧ s' = Slot.sh d ∧ c.Ps[j]? = some (V.ref a) ∧ Den K c.CL F' (V.ref a) d ∧ F' a ≠ none)) := by
    intro j s' e
    rw [go] at e
    cases h : ρ1.o[j]? with
    | none => rw [h] at e; cases e
    | some s =>
      rw [h] at e
      simp only [Option.map_some, Option.some.injEq] at e
      refine ⟨s, rfl, ?_⟩
      cases s with
      | att =>
        obtain ⟨v, t, g1, g2, g3, g4⟩ := R.att j h
        by_cases hd : ∃ d, newAt bs o j = some (.sh d) ∧ ∃ xs, t = .ow xs
        · obtain ⟨d, hd, xs, rfl⟩ := hd
          rw [g3, hd] at e
          have e' : s' = .sh d := e.symm
          subst e'
          obtain ⟨s2, h2, k2⟩ := keyv j (.sh d) (by rw [gv, g3, hd]; rfl)
          rw [g3] at h2
          cases h2
          rcases k2 with ⟨k2, _⟩ | ⟨_, _, _, _, _, k2, _⟩ | ⟨ys, d', a, _, k2, k3, k4, k5, _⟩
          · cases k2
          · cases k2
          · cases k2
            rw [k3] at g1
            cases g1
            exact .inr ⟨d, a, rfl, rfl, g2, k4, k5⟩
        · left
          rw [← e]
          cases q : newAt bs o j with
          | none => cases ρ1.v[j]? with
            | none => rfl
            | some s2 => cases s2 <;> rfl
          | some t2 =>
            rw [g3]
            cases t with
            | ow xs =>
              cases t2 with
              | sh d => exact absurd ⟨d, q, xs, rfl⟩ hd
              | ow _ => rfl
              | lk _ => rfl
              | un => rfl
              | att => rfl
            | lk _ => rfl
            | un => cases g4
            | att => cases g4
            | sh _ => cases g4
      | un => exact .inl e.symm
      | sh _ => exact .inl e.symm
      | ow _ => exact .inl e.symm
      | lk _ => exact .inl e.symm
  -- over all places
  have key : ∀ (k : Nat) (s' : Slot), (sl (back ρ1 bs o))[k]? = some s' → (SlotOk K c F' H' s' (vl c σ)[k]?) ∧ (s'.held = true → ∃ s, (sl ρ1)[k]? = some s ∧ s.held = true ∧ (∀ xs, s' = .ow xs → ∃ ys, s = .ow ys)) := by
    intro k s' e
    have stay : ∀ s : Slot, (sl ρ1)[k]? = some s → (∀ a, s.held = true → (vl c σ)[k]? = some (some (.ref a)) → ¬ pown vs ss a) → SlotOk K c F' H' s (vl c σ)[k]? := fun s hs hnp =>
      (R.ok k s hs).grow fg.f fun a us hh w q1 q2 => ⟨fg.keep a _ q1 (hnp a hh w), fg.fr a q2 (by rw [q1]; simp) (hnp a hh w)⟩
    by_cases kl : k < ρ1.v.length
    · rw [sl_v (by rw [vlen]; exact kl)] at e
      obtain ⟨s, h, q⟩ := keyv k s' e
      have hs : (sl ρ1)[k]? = some s := by rw [sl_v kl]; exact h
      have hw : (vl c σ)[k]? = σ[k]? := vl_v (by rw [← R.len]; exact kl)
      rcases q with ⟨rfl, q⟩ | ⟨xs, ys, a, us, rfl, rfl, w, q1, q2, q3⟩ | ⟨xs, d, a, rfl, rfl, w, q1, q2, _⟩
      · exact ⟨stay s' hs fun a hh w => q a hh (by rw [← hw]; exact w), fun hh => ⟨s', hs, hh, fun xs z => ⟨xs, z⟩⟩⟩
      · exact ⟨⟨a, us, by rw [hw]; exact w, q1, q2, q3⟩, fun _ => ⟨_, hs, rfl, fun _ _ => ⟨xs, rfl⟩⟩⟩
      · exact ⟨⟨.ref a, by rw [hw]; exact w, q1⟩, fun z => nomatch z⟩
    · have ek : k = ρ1.v.length + (k - ρ1.v.length) := by omega
      have e2 : (back ρ1 bs o).o[k - ρ1.v.length]? = some s' := by
        have : (sl (back ρ1 bs o))[(back ρ1 bs o).v.length + (k - ρ1.v.length)]? = some s' := by rw [vlen, ← ek]; exact e
        rwa [sl_o] at this
      obtain ⟨s, h, q⟩ := keyo _ s' e2
      have hs : (sl ρ1)[k]? = some s := by rw [ek, sl_o]; exact h
      rcases q with rfl | ⟨d, a, rfl, rfl, q1, q2, q3⟩
      · refine ⟨stay s' hs fun a hh w p => ?_, fun hh => ⟨s', hs, hh, fun xs z => ⟨xs, z⟩⟩⟩
        obtain ⟨i, xs, b1, b2, _, b4⟩ := np k s' a hs hh w p
        obtain ⟨v, w1, s2, z1, _⟩ := hb.get b1
        exact kl (lt_of_get z1)
      · refine ⟨⟨.ref a, ?_, q2⟩, fun z => nomatch z⟩
        rw [ek, vl_o R, q1]
        rfl
  refine ⟨⟨by rw [vlen]; exact R.len, by rw [olen]; exact R.lenO, fg.ex, fun k s e => (key k s e).1, fun k k' s s' a e e' hh hh' w w' => ?_, fun j e => ?_, fun j xs e => ?_, fun j d a e1 e2 => ?_⟩,
    ⟨g.f.trans fg.f, fun a ob e n => ?_, fun a e1 e2 n => ?_, fun a ⟨k, xs, e, w⟩ => ?_, fun k xs e => ?_, fun a e => fg.grow a (g.grow a e), fun k s e hl => ?_, fun j s e hl => ?_, fun j e => ?_⟩⟩
  · obtain ⟨t, q1, q2, _⟩ := (key k s e).2 hh
    obtain ⟨t', q1', q2', _⟩ := (key k' s' e').2 hh'
    exact R.apart k k' t t' a q1 q1' q2 q2' w w'
  · obtain ⟨s, h, q⟩ := keyo j _ e
    rcases q with rfl | ⟨d, a, rfl, q, _⟩
    · obtain ⟨v, t, g1, g2, g3, g4⟩ := R.att j h
      have e0 := e
      rw [go, h] at e0
      refine ⟨v, new1 t (newAt bs o j), g1, g2, by rw [gv, g3]; rfl, ?_⟩
      cases t with
      | ow xs =>
        cases q : newAt bs o j with
        | none => rfl
        | some t2 =>
          cases t2 with
          | sh d => rw [g3, q] at e0; cases e0
          | ow _ => rfl
          | lk _ => rfl
          | un => rfl
          | att => rfl
      | lk _ => rfl
      | un => cases g4
      | att => cases g4
      | sh _ => cases g4
    · cases q
  · obtain ⟨s, h, q⟩ := keyo j _ e
    rcases q with rfl | ⟨d, a, rfl, q, _⟩
    · exact R.noLk j xs h
    · cases q
  · obtain ⟨s, h, q⟩ := keyo j _ e1
    rcases q with rfl | ⟨d', a', rfl, q, q1, q2, q3⟩
    · exact fg.f.ne (R.fz j d a h e2)
    · rw [e2] at q1
      cases q1
      exact q3
  · refine fg.keep a ob (g.keep a ob e n) fun ⟨i, xs, e1, w1⟩ => ?_
    rcases passed R0 g R hb ha e1 w1 with ⟨_, p2⟩ | ⟨k', p1, p2, p3, p4, p5⟩
    · rw [e] at p2; cases p2
    · exact n (g.ow a ⟨k', xs, p4, p5⟩)
  · refine fg.fr a (g.fr a e1 e2 n) (g.grow a e2) fun ⟨i, xs, e3, w1⟩ => ?_
    rcases passed R0 g R hb ha e3 w1 with ⟨_, p2⟩ | ⟨k', p1, p2, p3, p4, p5⟩
    · exact e2 p2
    · exact n (g.ow a ⟨k', xs, p4, p5⟩)
  · obtain ⟨t, q1, q2, q3⟩ := (key k _ e).2 rfl
    obtain ⟨ys, rfl⟩ := q3 xs rfl
    exact g.ow a ⟨k, ys, q1, w⟩
  · obtain ⟨s, h, q⟩ := keyv k _ e
    rcases q with ⟨rfl, q⟩ | ⟨_, _, _, _, _, q, _⟩ | ⟨_, _, _, _, q, _⟩
    · exact g.lk k xs h
    · cases q
    · cases q
  · obtain ⟨s', h1, h2⟩ := g.live k s e hl
    refine ⟨new1 s' (newAt bs o k), by rw [gv, h1]; rfl, ?_⟩
    cases s' with
    | ow xs =>
      cases newAt bs o k with
      | none => rfl
      | some t2 => cases t2 <;> rfl
    | lk _ => rfl
    | sh _ => rfl
    | un => cases h2
    | att => cases h2
  · obtain ⟨s', h1, h2⟩ := g.tell j s e hl
    refine ⟨newO s' ρ1.v[j]? (newAt bs o j), by rw [go, h1]; rfl, ?_⟩
    cases s' with
    | att => cases ρ1.v[j]? with
      | none => rfl
      | some t => cases t with
        | ow _ => cases newAt bs o j with
          | none => rfl
          | some t2 => cases t2 <;> rfl
        | _ => rfl
    | ow _ => rfl
    | sh _ => rfl
    | un => cases h2
    | lk _ => cases h2
  · obtain ⟨s, h, q⟩ := keyo j _ e
    rcases q with rfl | ⟨_, _, _, q, _⟩
    · exact g.atb j h
    · cases q

theorem evA_len : ∀ {es : Es} {ρ ρ' : Env} {bs : List B}, evA es ρ = .ok bs ρ' → bs.length = es.len
  | .nil, _, _, _, h => by unfold evA at h; cases h; rfl
  | .cons e es, ρ, ρ', bs, h => by
    unfold evA at h
    cases h1 : evE e ρ with
    | no => rw [h1] at h; cases h
    | ex x ρ1 => rw [h1] at h; cases h
    | ok b ρ1 =>
      rw [h1] at h
      have h : (evA es ρ1).bind (fun bs ρ2 => .ok (b :: bs) ρ2) = .ok bs ρ' := h
      cases h2 : evA es ρ1 with
      | no => rw [h2] at h; cases h
      | ex x ρ1 => rw [h2] at h; cases h
      | ok bs2 ρ2 =>
        rw [h2] at h
        cases h
        have := evA_len h2
        simp [Es.len, this]
/-- a call: from the callee's promise -/
theorem call_go {g : Fn} {es : Es} {n : Nat} {Q : VK} {E : XK} (hE : ∀ C d H, c.E C d H → E C d H) (h : tEv K c (.call g es) σ H Q) (hl : es.len = n) : tEvA K c es σ H fun vs H1 => spF K c.CL g n (vs ++ []) H1 Q E := by
  obtain ⟨F, ρ, R, P⟩ := h
  unfold evE at P
  refine ⟨F, ρ, R, ?_⟩
  cases hr : evA es ρ with
  | no => rw [hr] at P; exact P
  | ex x ρ' => rw [hr] at P; exact P
  | ok bs ρ1 =>
    rw [hr] at P
    intro F1 H1 R1 g1 vs hb
    have P1 : PostR K c σ F ρ H (if noTwice bs then match args ρ1 bs with
      | none => .no
      | some ss => match g ss with
        | .no => .no
        | .ok r o => .ok r.b (back ρ1 bs o)
        | .ex x o => .ex x (back ρ1 bs o) else .no) (OkB K c σ H Q) := P
    rw [List.append_nil]
    refine ⟨by rw [hb.length, evA_len hr, hl], ?_⟩
    split at P1
    · rename_i hn
      split at P1
      · exact P1.elim
      · rename_i ss ha
        refine ⟨F1, ss, args_ok R g1 R1 hb ha hn, ?_⟩
        cases hg : g ss with
        | no => rw [hg] at P1; exact P1.elim
        | ok r o =>
          rw [hg] at P1
          intro F' v H' fg or rd
          obtain ⟨R2, g2⟩ := back_ok R g1 R1 hb ha hn fg or
          refine P1 F' H' R2 g2 v ?_
          cases r with
          | d x => exact rd
          | nw xs =>
            obtain ⟨a, us, q1, q2, q3, q4, q5⟩ := rd
            exact ⟨a, us, q1, q2, q3, q4, g1.new_of q5⟩
        | ex x o =>
          rw [hg] at P1
          intro F' H' C d fg or xd
          obtain ⟨R2, g2⟩ := back_ok R g1 R1 hb ha hn fg or
          exact hE _ _ _ (P1 F' H' C d R2 g2 xd)
    · exact P1.elim
theorem e_call {X : Cx} {c : Ctx} {x : Expr} {g : Fn} {es : Es} {n : Nat} {E : XK} (h : PE X x (tCall (spF X.K c.CL g n) [] E (tEvA X.K c es))) (hl : es.len = n) (hE : ∀ C d H, c.E C d H → E C d H) : PEv X c x (.call g es) := PE.wk h fun _ _ _ q => call_go hE q hl
end
end Ev

namespace Ev
open PySem L2

section
variable {α β : Type} {K : PySem.W.Frag} {c : Ctx} {F F1 F2 F' H H1 H2 H' : Hp} {ρ ρ1 ρ2 ρ' : Env} {σ σ1 σ2 σ' : St} {v : V} {b : B} {vs : List V} {bs : List B}

/-! ### a variable is bound -/
theorem Env.bnd_cases {i : Nat} {s : Slot} (h : ρ.bnd i s = some ρ') : i < ρ.v.length ∧ ρ'.v = ρ.v.set i s ∧
    ((ρ'.o = ρ.o ∧ ρ.o[i]? ≠ some .att) ∨ ∃ xs, ρ.v[i]? = some (.ow xs) ∧ ρ.o[i]? = some .att ∧ ρ'.o = ρ.o.set i (.ow xs)) := by
  unfold Env.bnd at h
  split at h
  · cases h
  · rename_i xs h1 h2
    cases h
    exact ⟨lt_of_get h1, rfl, .inr ⟨xs, h1, h2, rfl⟩⟩
  · cases h
  · rename_i s0 h1 h3 h4
    cases h
    exact ⟨lt_of_get h1, rfl, .inl ⟨rfl, fun z => by
      first
        | exact h4 z
        | exact h3 z
        | (cases s0 <;> simp_all)⟩⟩
theorem Rel.bnd (R : Rel K c F ρ σ H) {i : Nat} {s : Slot} {w : V} (h : ρ.bnd i s = some ρ') (hs : SlotOk K c F H s (some (some w))) (hk : ∀ xs, s ≠ .lk xs)
    (fresh : ∀ (a : Addr) (k : Nat) (t : Slot), s.held = true → w = .ref a → (sl ρ)[k]? = some t → t.held = true → (vl c σ)[k]? ≠ some (some (.ref a))) :
    Rel K c F ρ' (σ.set i (some w)) H ∧ (∀ a, own c ρ' (σ.set i (some w)) a → own c ρ σ a ∨ (s.held = true ∧ w = .ref a)) ∧
    (∀ (k : Nat) (xs : List D), ρ'.v[k]? = some (.lk xs) → ρ.v[k]? = some (.lk xs) ∧ (σ.set i (some w))[k]? = σ[k]?) ∧
    (∀ (j : Nat) (t : Slot), ρ.o[j]? = some t → t.told = true → ∃ t', ρ'.o[j]? = some t' ∧ t'.told = true) ∧
    (∀ (k : Nat) (t : Slot) (a : Addr), (sl ρ')[k]? = some t → t.held = true → (vl c (σ.set i (some w)))[k]? = some (some (.ref a)) → (∃ (k' : Nat) (t' : Slot), (sl ρ)[k']? = some t' ∧ t'.held = true ∧ (vl c σ)[k']? = some (some (V.ref a))) ∨ (s.held = true ∧ w = .ref a)) ∧
    (∀ j : Nat, ρ'.o[j]? = some .att → ρ.o[j]? = some .att) := by
  obtain ⟨il, ev, eo⟩ := Env.bnd_cases h
  have iσ : i < σ.length := by rw [← R.len]; exact il
  have vlen : ρ'.v.length = ρ.v.length := by rw [ev, List.length_set]
  have olen : ρ'.o.length = ρ.o.length := by
    rcases eo with ⟨eo, _⟩ | ⟨xs, _, _, eo⟩
    · rw [eo]
    · rw [eo, List.length_set]
  have gv : ∀ k, k < ρ.v.length → (sl ρ')[k]? = if i = k then some s else (sl ρ)[k]? := fun k kl => by
    rw [sl_v (by rw [vlen]; exact kl), ev, List.getElem?_set, sl_v kl]
    by_cases q : i = k
    · rw [if_pos q, if_pos q, if_pos il]
    · rw [if_neg q, if_neg q]
  have wv : ∀ k, (vl c (σ.set i (some w)))[k]? = if i = k then some (some w) else (vl c σ)[k]? := fun k => by
    rw [vl_set iσ, List.getElem?_set]
    have : i < (vl c σ).length := by unfold vl; rw [List.length_append]; omega
    by_cases q : i = k
    · rw [if_pos q, if_pos q, if_pos this]
    · rw [if_neg q, if_neg q]
  -- each place: the new one, one as it was, or the parameter's list moved
  have key : ∀ (k : Nat) (t : Slot), (sl ρ')[k]? = some t → (k = i ∧ t = s) ∨ (k ≠ i ∧ (sl ρ)[k]? = some t) ∨
      (k ≠ i ∧ k = ρ.v.length + i ∧ ∃ xs, t = .ow xs ∧ (sl ρ)[i]? = some (.ow xs) ∧ (vl c σ)[k]? = (vl c σ)[i]?) := by
    intro k t e
    by_cases kl : k < ρ.v.length
    · rw [gv k kl] at e
      by_cases q : i = k
      · rw [if_pos q] at e; cases e; exact .inl ⟨q.symm, rfl⟩
      · rw [if_neg q] at e; exact .inr (.inl ⟨fun z => q z.symm, e⟩)
    · have ki : k ≠ i := by omega
      have ek : k = ρ.v.length + (k - ρ.v.length) := by omega
      have e2 : ρ'.o[k - ρ.v.length]? = some t := by
        have : (sl ρ')[ρ'.v.length + (k - ρ.v.length)]? = some t := by rw [vlen, ← ek]; exact e
        rwa [sl_o] at this
      rcases eo with ⟨eo, _⟩ | ⟨xs, h1, h2, eo⟩
      · rw [eo] at e2
        exact .inr (.inl ⟨ki, by rw [ek, sl_o]; exact e2⟩)
      · rw [eo, List.getElem?_set] at e2
        by_cases q : i = k - ρ.v.length
        · rw [if_pos q, if_pos (lt_of_get h2)] at e2
          cases e2
          refine .inr (.inr ⟨ki, by omega, xs, rfl, by rw [sl_v il]; exact h1, ?_⟩)
          obtain ⟨v, t, g1, g2, _⟩ := R.att i h2
          rw [ek, vl_o R, ← q, g2, vl_v iσ, g1]
          rfl
        · rw [if_neg q] at e2
          exact .inr (.inl ⟨ki, by rw [ek, sl_o]; exact e2⟩)
  refine ⟨⟨by rw [vlen, List.length_set]; exact R.len, by rw [olen]; exact R.lenO, R.ex, fun k t e => ?_, fun k k' t t' a e e' hh hh' q q' => ?_, fun j e => ?_, fun j xs e => ?_, fun j d a e1 e2 => ?_⟩, fun a ⟨k, xs, e, q⟩ => ?_, fun k xs e => ?_, fun j t e ht => ?_, fun k t a e hh q => ?_, fun j e => ?_⟩
  · rw [wv]
    rcases key k t e with ⟨rfl, rfl⟩ | ⟨n, e⟩ | ⟨n, ek, xs, rfl, e, q⟩
    · rw [if_pos rfl]; exact hs
    · rw [if_neg fun z => n z.symm]; exact R.ok k t e
    · rw [if_neg fun z => n z.symm, q]; exact R.ok i _ e
  · -- apart: by the old places
    rw [wv] at q q'
    rcases key k t e with ⟨rfl, rfl⟩ | ⟨n, e⟩ | ⟨n, ek, xs, rfl, e, r⟩
    · rw [if_pos rfl] at q
      cases q
      rcases key k' t' e' with ⟨rfl, rfl⟩ | ⟨n', e'⟩ | ⟨n', ek', ys, rfl, e', r'⟩
      · rfl
      · rw [if_neg fun z => n' z.symm] at q'
        exact absurd q' (fresh a k' t' hh rfl e' hh')
      · rw [if_neg fun z => n' z.symm, r'] at q'
        exact absurd q' (fresh a k _ hh rfl e' rfl)
    · rw [if_neg fun z => n z.symm] at q
      rcases key k' t' e' with ⟨rfl, rfl⟩ | ⟨n', e'⟩ | ⟨n', ek', ys, rfl, e', r'⟩
      · rw [if_pos rfl] at q'
        cases q'
        exact absurd q (fresh a k t hh' rfl e hh)
      · rw [if_neg fun z => n' z.symm] at q'
        exact R.apart k k' t t' a e e' hh hh' q q'
      · rw [if_neg fun z => n' z.symm, r'] at q'
        exact absurd (R.apart k i t _ a e e' hh rfl q q') n
    · rw [if_neg fun z => n z.symm, r] at q
      rcases key k' t' e' with ⟨rfl, rfl⟩ | ⟨n', e'⟩ | ⟨n', ek', ys, rfl, e', r'⟩
      · rw [if_pos rfl] at q'
        cases q'
        exact absurd q (fresh a k' _ hh' rfl e rfl)
      · rw [if_neg fun z => n' z.symm] at q'
        exact absurd (R.apart i k' _ t' a e e' rfl hh' q q').symm n'
      · omega
  · have ji : j ≠ i := by
      intro z
      subst z
      rcases eo with ⟨eo, n⟩ | ⟨xs, h1, h2, eo⟩
      · rw [eo] at e; exact n e
      · rw [eo, List.getElem?_set_self (lt_of_get h2)] at e; cases e
    have e' : ρ.o[j]? = some .att := by
      rcases eo with ⟨eo, n⟩ | ⟨xs, h1, h2, eo⟩
      · rw [eo] at e; exact e
      · rw [eo, List.getElem?_set_ne (fun z => ji z.symm)] at e; exact e
    obtain ⟨v, t, g1, g2, g3, g4⟩ := R.att j e'
    exact ⟨v, t, by rw [List.getElem?_set_ne (fun z => ji z.symm)]; exact g1, g2, by rw [ev, List.getElem?_set_ne (fun z => ji z.symm)]; exact g3, g4⟩
  · rcases eo with ⟨eo, n⟩ | ⟨ys, h1, h2, eo⟩
    · rw [eo] at e; exact R.noLk j xs e
    · rw [eo, List.getElem?_set] at e
      split at e
      · first | (cases e; done) | (split at e <;> cases e)
      · exact R.noLk j xs e
  · rcases eo with ⟨eo, n⟩ | ⟨ys, h1, h2, eo⟩
    · rw [eo] at e1; exact R.fz j d a e1 e2
    · rw [eo, List.getElem?_set] at e1
      split at e1
      · first | (cases e1; done) | (split at e1 <;> cases e1)
      · exact R.fz j d a e1 e2
  · rw [wv] at q
    rcases key k _ e with ⟨rfl, rfl⟩ | ⟨n, e⟩ | ⟨n, ek, ys, hy, e, r⟩
    · rw [if_pos rfl] at q
      cases q
      exact .inr ⟨rfl, rfl⟩
    · rw [if_neg fun z => n z.symm] at q
      exact .inl ⟨k, xs, e, q⟩
    · rw [if_neg fun z => n z.symm, r] at q
      exact .inl ⟨i, ys, e, q⟩
  · rw [ev, List.getElem?_set] at e
    by_cases q : i = k
    · rw [if_pos q, if_pos il] at e
      cases e
      exact absurd rfl (hk xs)
    · rw [if_neg q] at e
      exact ⟨e, List.getElem?_set_ne q⟩
  · rcases eo with ⟨eo, n⟩ | ⟨ys, h1, h2, eo⟩
    · rw [eo]; exact ⟨t, e, ht⟩
    · rw [eo, List.getElem?_set]
      by_cases q : i = j
      · subst q
        exact ⟨_, by rw [if_pos rfl, if_pos (lt_of_get h2)], rfl⟩
      · exact ⟨t, by rw [if_neg q]; exact e, ht⟩
  · rw [wv] at q
    rcases key k t e with ⟨rfl, rfl⟩ | ⟨n, e⟩ | ⟨n, ek, ys, rfl, e, r⟩
    · rw [if_pos rfl] at q
      cases q
      exact .inr ⟨hh, rfl⟩
    · rw [if_neg fun z => n z.symm] at q
      exact .inl ⟨k, t, e, hh, q⟩
    · rw [if_neg fun z => n z.symm, r] at q
      exact .inl ⟨i, _, e, rfl, q⟩
  · rcases eo with ⟨eo, n⟩ | ⟨ys, h1, h2, eo⟩
    · rw [eo] at e; exact e
    · rw [eo, List.getElem?_set] at e
      by_cases q : i = j
      · subst q; exact h2
      · rw [if_neg q] at e; exact e
/-- data is bound -/
theorem Rel.bndSh (R : Rel K c F ρ σ H) {i : Nat} {d : D} {w : V} (h : ρ.bnd i (.sh d) = some ρ') (hd : Den K c.CL F w d) : Rel K c F ρ' (σ.set i (some w)) H ∧ Go K c F ρ σ H F ρ' (σ.set i (some w)) H := by
  obtain ⟨R', o, l, t, _, ab⟩ := R.bnd h ⟨w, rfl, hd⟩ (fun _ z => nomatch z) fun _ _ _ z => nomatch z
  refine ⟨R', ⟨Ex.refl _, fun _ _ h _ => h, fun _ h _ _ => h, fun a q => ?_, l, fun _ h => h, t, ab⟩⟩
  rcases o a q with q | ⟨z, _⟩
  · exact .inl q
  · cases z
/-- a new list is bound -/
theorem Rel.bndOw (R0 : Rel K c F ρ σ H) (g : GoE K c σ F ρ H F1 ρ1 H1) (R : Rel K c F1 ρ1 σ H1) {i : Nat} {xs : List D} (hb : BDen K c σ H F1 ρ1 H1 v (.nw xs)) (h : ρ1.bnd i (.ow xs) = some ρ') : Rel K c F1 ρ' (σ.set i (some v)) H1 ∧ Go K c F ρ σ H F1 ρ' (σ.set i (some v)) H1 := by
  obtain ⟨a, vs, rfl, h1, h2, h3, h4⟩ := hb
  obtain ⟨R', o, l, t, _, ab⟩ := R.bnd h ⟨a, vs, rfl, h1, h2, h3⟩ (fun _ z => nomatch z) fun b k t _ e q hh w => by
    cases e
    exact held_old R0 g R q hh w h4
  refine ⟨R', ⟨g.f, g.keep, g.fr, fun b q => ?_, fun k ys e => ?_, g.grow, fun j s e hs => ?_, fun j e => g.atb j (ab j e)⟩⟩
  · rcases o b q with q | ⟨_, z⟩
    · exact .inl (g.ow b q)
    · cases z; exact .inr h4
  · obtain ⟨q1, q2⟩ := l k ys e
    exact ⟨g.lk k ys q1, q2⟩
  · obtain ⟨s', q1, q2⟩ := g.tell j s e hs
    exact t j s' q1 q2

/-! ### what is wanted behind a statement -/
def PostS (K : PySem.W.Frag) (c : Ctx) (F : Hp) (ρ : Env) (σ : St) (H : Hp) (r : Res Flow) (D : Ends) : Prop :=
  match r with
  | .no => False
  | .ok .nx ρ' => ∀ F' σ' H', Rel K c F' ρ' σ' H' → Go K c F ρ σ H F' ρ' σ' H' → D.nx σ' H'
  | .ok .brk ρ' => ∀ F' σ' H', Rel K c F' ρ' σ' H' → Go K c F ρ σ H F' ρ' σ' H' → D.bk σ' H'
  | .ok (.rt b) ρ' => ∀ F' σ' H' v, Rel K c F' ρ' σ' H' → Go K c F ρ σ H F' ρ' σ' H' → BDen K c σ' H F' ρ' H' v b → D.rt v H'
  | .ex x ρ' => ∀ F' σ' H' C d, Rel K c F' ρ' σ' H' → Go K c F ρ σ H F' ρ' σ' H' → XDen K c F' H' x C d → c.E C d H'
theorem PostS.rebase {r : Res Flow} {D : Ends} (g : Go K c F ρ σ H F1 ρ1 σ1 H1) (h : PostS K c F ρ σ H r D) : PostS K c F1 ρ1 σ1 H1 r D := by
  match r, h with
  | .no, h => exact h
  | .ok .nx ρ', h => exact fun F' σ' H' R g' => h F' σ' H' R (g.trans g')
  | .ok .brk ρ', h => exact fun F' σ' H' R g' => h F' σ' H' R (g.trans g')
  | .ok (.rt b) ρ', h => exact fun F' σ' H' v R g' q => h F' σ' H' v R (g.trans g') (q.back g.grow)
  | .ex x ρ', h => exact fun F' σ' H' C d R g' q => h F' σ' H' C d R (g.trans g') q
def tEvS (K : PySem.W.Frag) (c : Ctx) (s : S) : TS := fun D σ H => ∃ F ρ, Rel K c F ρ σ H ∧ PostS K c F ρ σ H (evS s ρ) D
def tEvSs (K : PySem.W.Frag) (c : Ctx) (s : Ss) : TS := fun D σ H => ∃ F ρ, Rel K c F ρ σ H ∧ PostS K c F ρ σ H (evSs s ρ) D
abbrev PSv (X : Cx) (c : Ctx) (x : Stmt) (s : S) : Prop := PS X x (tEvS X.K c s)
abbrev PSsv (X : Cx) (c : Ctx) (xs : List Stmt) (s : Ss) : Prop := PSs X xs (tEvSs X.K c s)

/-- a statement that begins with the evaluation of an expression -/
theorem PostS.bind {r : Res α} {f : α → Env → Res Flow} {D : Ends} (h : PostS K c F ρ σ H (r.bind f) D) : PostR K c σ F ρ H r fun F1 ρ1 H1 a => PostS K c F ρ σ H (f a ρ1) D := by
  cases r with
  | no => exact h
  | ok a ρ' => exact fun _ _ _ _ => h
  | ex x ρ' => exact fun F' H' C d R g q => h F' σ H' C d R g.go q
theorem sEv_bind {e : E} {f : B → Env → Res Flow} {D : Ends} {Q : VK} (R : Rel K c F ρ σ H) (P : PostS K c F ρ σ H ((evE e ρ).bind f) D)
    (k : ∀ F1 ρ1 H1 b v, Rel K c F1 ρ1 σ H1 → GoE K c σ F ρ H F1 ρ1 H1 → BDen K c σ H F1 ρ1 H1 v b → PostS K c F ρ σ H (f b ρ1) D → Q v H1) : tEv K c e σ H Q :=
  ⟨F, ρ, R, P.bind.imp fun F1 ρ1 H1 b R1 g q v hb => k F1 ρ1 H1 b v R1 g hb q⟩
theorem sEvT_bind {t : T} {f : Bool → Env → Res Flow} {D : Ends} {Q : Bool → Hp → Prop} (R : Rel K c F ρ σ H) (P : PostS K c F ρ σ H ((evT t ρ).bind f) D)
    (k : ∀ F1 ρ1 H1 b, Rel K c F1 ρ1 σ H1 → GoE K c σ F ρ H F1 ρ1 H1 → PostS K c F ρ σ H (f b ρ1) D → Q b H1) : tEvT K c t σ H Q :=
  ⟨F, ρ, R, P.bind.imp fun F1 ρ1 H1 b R1 g q => k F1 ρ1 H1 b R1 g q⟩

theorem ss_nil {X : Cx} {c : Ctx} : PSsv X c [] .nil := PSs.wk pss_nil fun D σ H ⟨F, ρ, R, P⟩ => by
  unfold evSs at P
  exact P F σ H R (Go.refl ..)
theorem seq_go {s : S} {ss : Ss} {D : Ends} (h : tEvSs K c (.cons s ss) D σ H) : tSeq (tEvS K c s) (tEvSs K c ss) D σ H := by
  obtain ⟨F, ρ, R, P⟩ := h
  unfold evSs at P
  refine ⟨F, ρ, R, ?_⟩
  match hr : evS s ρ, P with
  | .no, P => exact P
  | .ex x ρ', P => exact P
  | .ok .nx ρ', P => exact fun F' σ' H' R' g => ⟨F', ρ', R', PostS.rebase g P⟩
  | .ok .brk ρ', P => exact P
  | .ok (.rt b) ρ', P => exact P
theorem ss_cons {X : Cx} {c : Ctx} {x : Stmt} {xs : List Stmt} {s : S} {ss : Ss} (h : PSv X c x s) (t : PSsv X c xs ss) : PSsv X c (x :: xs) (.cons s ss) := PSs.wk (pss_cons h t) fun _ _ _ q => seq_go q

/-! ### the statements -/
theorem s_ex {X : Cx} {c : Ctx} {x : Stmt} {e : E} {te : TE} (h : PS X x (tDrop te)) (w : ∀ σ H Q, tEv X.K c e σ H Q → te σ H Q) : PSv X c x (.ex e) := PS.wk h fun D σ H ⟨F, ρ, R, P⟩ => by
  unfold evS at P
  exact w _ _ _ (sEv_bind R P fun F1 ρ1 H1 b v R1 g1 hb P1 => P1 F1 σ H1 R1 g1.go)
theorem s_ret {X : Cx} {c : Ctx} {x : Expr} {pos : Pos} {e : E} (h : PEv X c x e) : PSv X c (.Return (some x) pos) (.ret e) := PS.wk (ps_ret h) fun D σ H ⟨F, ρ, R, P⟩ => by
  unfold evS at P
  exact sEv_bind R P fun F1 ρ1 H1 b v R1 g1 hb P1 => P1 F1 σ H1 v R1 g1.go hb
theorem s_retN {X : Cx} {c : Ctx} {pos : Pos} : PSv X c (.Return none pos) .retN := PS.wk ps_retN fun D σ H ⟨F, ρ, R, P⟩ => by
  unfold evS at P
  exact P F σ H .non R (Go.refl ..) .non
theorem s_pass {X : Cx} {c : Ctx} {pos : Pos} : PSv X c (.Pass pos) .pass := PS.wk ps_pass fun D σ H ⟨F, ρ, R, P⟩ => by
  unfold evS at P
  exact P F σ H R (Go.refl ..)
theorem s_brk {X : Cx} {c : Ctx} {pos : Pos} : PSv X c (.Break pos) .brk := PS.wk ps_break fun D σ H ⟨F, ρ, R, P⟩ => by
  unfold evS at P
  exact P F σ H R (Go.refl ..)
theorem s_never {X : Cx} {c : Ctx} {x : Stmt} : PSv X c x .never := PS.wk ps_never fun D σ H ⟨F, ρ, R, P⟩ => by
  unfold evS at P
  exact P
theorem s_ite {X : Cx} {c : Ctx} {x : Expr} {xs ys : List Stmt} {pos : Pos} {t : T} {a b : Ss} (h : PTv X c x t) (ha : PSsv X c xs a) (hb : PSsv X c ys b) : PSv X c (.If x xs ys pos) (.ite t a b) := PS.wk (ps_if h ha hb) fun D σ H ⟨F, ρ, R, P⟩ => by
  unfold evS at P
  refine sEvT_bind R P fun F1 ρ1 H1 k R1 g1 P1 => ?_
  cases k with
  | true =>
    rw [if_pos rfl]
    rw [if_pos rfl] at P1
    exact ⟨F1, ρ1, R1, P1.rebase g1.go⟩
  | false =>
    rw [if_neg (by decide)]
    rw [if_neg (by decide)] at P1
    exact ⟨F1, ρ1, R1, P1.rebase g1.go⟩
/-- a value is bound to a name -/
theorem stab_ok (R0 : Rel K c F ρ σ H) (g : GoE K c σ F ρ H F1 ρ1 H1) (R : Rel K c F1 ρ1 σ H1) (h : BDen K c σ H F1 ρ1 H1 v b) {b' : B} (e : b.stab ρ1 = some (b', ρ2)) :
    ∃ F2, Rel K c F2 ρ2 σ H1 ∧ GoE K c σ F ρ H F2 ρ2 H1 ∧ GoE K c σ F1 ρ1 H1 F2 ρ2 H1 ∧ BDen K c σ H F2 ρ2 H1 v b' := by
  cases b with
  | d x => cases e; exact ⟨F1, R, g, GoE.refl .., h⟩
  | nw xs => cases e; exact ⟨F1, R, g, GoE.refl .., h⟩
  | loc i =>
    obtain ⟨s, h1, h2, h3⟩ := h
    unfold B.stab B.keep at e
    simp only [h1] at e
    have ok := R.slot h1
    rw [h3] at ok
    cases s with
    | un => cases e
    | att => cases e
    | lk xs => cases e
    | sh x =>
      cases e
      obtain ⟨u, e1, q⟩ := ok
      cases e1
      exact ⟨F1, R, g, GoE.refl .., q⟩
    | ow xs =>
      cases e
      obtain ⟨a, us, F2, w, _, R2, g2, q⟩ := R.frz h1
      rw [h3] at w
      cases w
      exact ⟨F2, R2, g.trans g2, g2, q⟩
theorem bindB_ok (R0 : Rel K c F ρ σ H) (g : GoE K c σ F ρ H F1 ρ1 H1) (R : Rel K c F1 ρ1 σ H1) (h : BDen K c σ H F1 ρ1 H1 v b) {i : Nat} (e : bindB ρ1 i b = some ρ2) :
    Rel K c F1 ρ2 (σ.set i (some v)) H1 ∧ Go K c F ρ σ H F1 ρ2 (σ.set i (some v)) H1 := by
  cases b with
  | d x => obtain ⟨R', g'⟩ := R.bndSh e h; exact ⟨R', g.go.trans g'⟩
  | nw xs => exact Rel.bndOw R0 g R h e
  | loc i => cases e
theorem s_asg {X : Cx} {c : Ctx} {x : Stmt} {i : Nat} {e : E} {te : TE} (h : PS X x (tAsg te (gName i))) (w : ∀ σ H Q, tEv X.K c e σ H Q → te σ H Q) : PSv X c x (.asg (.n i) e) := PS.wk h fun D σ H ⟨F, ρ, R, P⟩ => by
  unfold evS at P
  refine w _ _ _ (sEv_bind R P fun F1 ρ1 H1 b v R1 g1 hb P1 => ?_)
  split at P1
  · exact P1.elim
  · rename_i b' ρ2 e1
    obtain ⟨F2, R2, g2, _, hb2⟩ := stab_ok R g1 R1 hb e1
    split at P1
    · exact P1.elim
    · rename_i ρ3 e2
      obtain ⟨R3, g3⟩ := bindB_ok R g2 R2 hb2 e2
      exact P1 F2 _ H1 R3 g3
theorem stab_nw {xs : List D} (e : b.stab ρ = some (.nw xs, ρ')) : b = .nw xs := by
  cases b with
  | d x => cases e
  | nw ys => cases e; rfl
  | loc i =>
    exfalso
    unfold B.stab at e
    split at e
    · simp at e
    · rename_i h; cases h
    · split at e <;> simp at e
/-- a, b = x, y -/
theorem s_par {X : Cx} {c : Ctx} {x : Stmt} {i j : Nat} {a b : E} (hij : i ≠ j) (h : PS X x (tPar i j (tCons (tEv X.K c a) (tCons (tEv X.K c b) tNil)))) : PSv X c x (.par i j a b) := PS.wk h fun D σ H ⟨F, ρ, R, P⟩ => by
  unfold evS at P
  refine sEv_bind R P fun F1 ρ1 H1 b1 v1 R1 g1 hb1 P1 => ?_
  refine ⟨F1, ρ1, R1, (P1.bind.rebase g1).imp fun F2 ρ2 H2 b2 R2 g2 q2 v2 hb2 => ?_⟩
  obtain ⟨g02, P2⟩ := q2
  have s1 := hb1.stay R g1 g2
  refine ⟨v1, v2, rfl, ?_⟩
  split at P2
  · exact P2.elim
  · rename_i b1' ρ3 e1
    obtain ⟨F3, R3, g3, g23, hb1'⟩ := stab_ok R g02 R2 s1 e1
    have hb2' := (hb2.back g1.grow).stay R g02 g23
    split at P2
    · exact P2.elim
    · rename_i b2' ρ4 e2
      obtain ⟨F4, R4, g4, g34, hb2'⟩ := stab_ok R g3 R3 hb2' e2
      have hb1'' := hb1'.stay R g3 g34
      split at P2
      · exact P2.elim
      · rename_i ρ5 e3
        obtain ⟨R5, g5⟩ := bindB_ok R g4 R4 hb1'' e3
        split at P2
        · exact P2.elim
        · rename_i ρ6 e4
          -- the second one: its value is as it was
          cases b2' with
          | d y =>
            obtain ⟨R6, g6⟩ := R5.bndSh e4 hb2'
            exact P2 F4 _ H2 R6 (g5.trans g6)
          | loc k => cases e4
          | nw ys =>
            obtain ⟨q, us, rfl, h1, h2, h3, h4⟩ := hb2'
            -- not the first one, not an elder one
            have old : ∀ (k : Nat) (t : Slot), (sl ρ5)[k]? = some t → t.held = true → (vl c (σ.set i (some v1)))[k]? ≠ some (some (.ref q)) := fun k t e hh w => by
              have n4 : ∀ (k : Nat) (t : Slot), (sl ρ4)[k]? = some t → t.held = true → (vl c σ)[k]? ≠ some (some (.ref q)) := fun k t e hh w => held_old R g4 R4 e hh w h4
              cases b1' with
              | loc k => cases e3
              | d x =>
                obtain ⟨_, _, _, _, hh5, _⟩ := R4.bnd e3 ⟨v1, rfl, hb1''⟩ (fun _ z => nomatch z) fun _ _ _ z => nomatch z
                rcases hh5 k t q e hh w with ⟨k', t', a1, a2, a3⟩ | ⟨z, _⟩
                · exact n4 k' t' a1 a2 a3
                · cases z
              | nw xs =>
                obtain ⟨a1, us1, rfl, p1, p2, p3, p4⟩ := hb1''
                obtain ⟨_, _, _, _, hh5, _⟩ := R4.bnd e3 ⟨a1, us1, rfl, p1, p2, p3⟩ (fun _ z => nomatch z) fun b k t _ e q hh w => by
                  cases e
                  exact held_old R g4 R4 q hh w p4
                rcases hh5 k t q e hh w with ⟨k', t', a1, a2, a3⟩ | ⟨_, z⟩
                · exact n4 k' t' a1 a2 a3
                · cases z
                  -- both were made by stab of new ones
                  have eb2 : b2 = .nw ys := stab_nw e2
                  have eb1 : b1 = .nw xs := stab_nw e1
                  subst eb2; subst eb1
                  obtain ⟨_, _, z1, z2, _⟩ := hb1
                  cases z1
                  obtain ⟨_, _, z3, _, _, _, z4⟩ := hb2
                  cases z3
                  rw [z2] at z4
                  cases z4
            obtain ⟨R6, o, l, t, _, ab⟩ := R5.bnd e4 ⟨q, us, rfl, h1, h2, h3⟩ (fun _ z => nomatch z) fun a k t _ e w hh z => by
              cases e
              exact old k t w hh z
            refine P2 F4 _ H2 R6 ⟨g5.f, g5.keep, g5.fr, fun b w => ?_, fun k zs e => ?_, g5.grow, fun j s e hs => ?_, fun j e => g5.atb j (ab j e)⟩
            · rcases o b w with w | ⟨_, z⟩
              · exact g5.ow b w
              · cases z; exact .inr h4
            · obtain ⟨q1, q2⟩ := l k zs e
              obtain ⟨q3, q4⟩ := g5.lk k zs q1
              exact ⟨q3, q2.trans q4⟩
            · obtain ⟨s', q1, q2⟩ := g5.tell j s e hs
              exact t j s' q1 q2
end
end Ev

namespace Ev
open PySem L2

section
variable {α β : Type} {K : PySem.W.Frag} {c : Ctx} {F F1 F2 F' H H1 H2 H' : Hp} {ρ ρ0 ρ1 ρ2 ρ' : Env} {σ σ1 σ2 σ' : St} {v : V} {b : B} {vs : List V} {bs : List B} {ds items : List D} {is : List Nat}

/-! ### locks -/
theorem hasLoc_of : ∀ {bs : List B} {i : Nat}, B.loc i ∈ bs → hasLoc i bs = true
  | .d x :: bs, i, h => by
    unfold hasLoc
    rcases List.mem_cons.mp h with e | h
    · cases e
    · exact hasLoc_of h
  | .nw x :: bs, i, h => by
    unfold hasLoc
    rcases List.mem_cons.mp h with e | h
    · cases e
    · exact hasLoc_of h
  | .loc j :: bs, i, h => by
    unfold hasLoc
    rcases List.mem_cons.mp h with e | h
    · cases e; simp
    · rw [hasLoc_of h]; simp
theorem locks_v (k : Nat) : (locks ρ bs).v[k]? = ρ.v[k]?.map fun s => lock1 s (hasLoc k bs) := by
  show (mapI _ 0 ρ.v)[k]? = _
  rw [mapI_get]; simp
theorem locks_len : (locks ρ bs).v.length = ρ.v.length := mapI_length ..
theorem locks_o : (locks ρ bs).o = ρ.o := rfl
theorem lock1_held {s : Slot} {k : Bool} : (lock1 s k).held = s.held := by
  cases s <;> cases k <;> rfl
theorem lock1_ok {s : Slot} {k : Bool} {w : Option (Option V)} : SlotOk K c F H (lock1 s k) w ↔ SlotOk K c F H s w := by
  cases s <;> cases k <;> exact Iff.rfl
theorem unlocks_v (k : Nat) : (unlocks ρ0 ρ bs).v[k]? = ρ.v[k]?.map fun s => unlock1 s ρ0.v[k]? (hasLoc k bs) := by
  show (mapI _ 0 ρ.v)[k]? = _
  rw [mapI_get]; simp
theorem unlocks_len : (unlocks ρ0 ρ bs).v.length = ρ.v.length := mapI_length ..
theorem unlock1_cases {s : Slot} {t : Option Slot} {k : Bool} : unlock1 s t k = s ∨ ∃ xs ys, s = .lk xs ∧ t = some (.ow ys) ∧ k = true ∧ unlock1 s t k = .ow xs := by
  cases s with
  | lk xs =>
    cases t with
    | none => exact .inl rfl
    | some t =>
      cases t with
      | ow ys => cases k with
        | true => exact .inr ⟨xs, ys, rfl, rfl, rfl, rfl⟩
        | false => exact .inl rfl
      | _ => exact .inl rfl
  | _ => exact .inl rfl
/-- only the variables' part changes, held places stay held, and each place is right -/
theorem Rel.turnV (R : Rel K c F ρ σ H) (ho : ρ'.o = ρ.o) (hl : ρ'.v.length = ρ.v.length) (h : ∀ (k : Nat) (t : Slot), ρ'.v[k]? = some t → ∃ s, ρ.v[k]? = some s ∧ t.held = s.held ∧ (SlotOk K c F H s σ[k]? → SlotOk K c F H t σ[k]?)) : Rel K c F ρ' σ H := by
  have key : ∀ (k : Nat) (t : Slot), (sl ρ')[k]? = some t → ∃ s, (sl ρ)[k]? = some s ∧ t.held = s.held ∧ (SlotOk K c F H s (vl c σ)[k]? → SlotOk K c F H t (vl c σ)[k]?) := fun k t e => by
    by_cases kl : k < ρ.v.length
    · rw [sl_v (by rw [hl]; exact kl)] at e
      obtain ⟨s, h1, h2, h3⟩ := h k t e
      refine ⟨s, by rw [sl_v kl]; exact h1, h2, ?_⟩
      rw [vl_v (by rw [← R.len]; exact kl)]
      exact h3
    · refine ⟨t, ?_, rfl, fun q => q⟩
      unfold sl at e ⊢
      rw [List.getElem?_append_right (by omega)] at e ⊢
      rw [ho, hl] at e
      exact e
  refine ⟨hl.trans R.len, by rw [ho]; exact R.lenO, R.ex, fun k t e => ?_, fun k k' t t' a e e' hh hh' w w' => ?_, fun j e => ?_, fun j xs => by rw [ho]; exact R.noLk j xs, fun j d a => by rw [ho]; exact R.fz j d a⟩
  · obtain ⟨s, h1, _, h3⟩ := key k t e
    exact h3 (R.ok k s h1)
  · obtain ⟨s, h1, h2, _⟩ := key k t e
    obtain ⟨s', h1', h2', _⟩ := key k' t' e'
    exact R.apart k k' s s' a h1 h1' (h2 ▸ hh) (h2' ▸ hh') w w'
  · obtain ⟨v, s, g1, g2, g3, g4⟩ := R.att j (by rw [← ho]; exact e)
    have jl : j < ρ'.v.length := by rw [hl]; exact lt_of_get g3
    obtain ⟨s', h1, h2, _⟩ := h j ρ'.v[j] (List.getElem?_eq_getElem jl)
    rw [g3] at h1
    cases h1
    exact ⟨v, ρ'.v[j], g1, g2, List.getElem?_eq_getElem jl, h2.trans g4⟩
theorem Rel.locks (R : Rel K c F ρ σ H) (bs : List B) : Rel K c F (Ev.locks ρ bs) σ H := R.turnV rfl locks_len fun k t e => by
  rw [locks_v] at e
  cases q : ρ.v[k]? with
  | none => rw [q] at e; cases e
  | some s =>
    rw [q] at e
    simp only [Option.map_some, Option.some.injEq] at e
    subst e
    exact ⟨s, rfl, lock1_held, fun h => lock1_ok.mpr h⟩
theorem own_locks {a : Addr} (R : Rel K c F ρ σ H) (h : own c (locks ρ bs) σ a) : own c ρ σ a := by
  obtain ⟨k, xs, e, w⟩ := h
  by_cases kl : k < ρ.v.length
  · rw [sl_v (by rw [locks_len]; exact kl), locks_v] at e
    cases q : ρ.v[k]? with
    | none => rw [q] at e; cases e
    | some s =>
      rw [q] at e
      simp only [Option.map_some, Option.some.injEq] at e
      cases s with
      | ow ys => exact ⟨k, ys, by rw [sl_v kl]; exact q, w⟩
      | _ => cases h : hasLoc k bs <;> rw [h] at e <;> cases e
  · refine ⟨k, xs, ?_, w⟩
    unfold sl at e ⊢
    rw [List.getElem?_append_right (by omega)]
    rw [List.getElem?_append_right (by rw [locks_len]; omega), locks_len] at e
    exact e
/-- what was evaluated for a loop is read alike at each turn -/
theorem views_stay (R0 : Rel K c F ρ σ H) (g : GoE K c σ F ρ H F1 ρ1 H1) (R : Rel K c F1 ρ1 σ H1) (bs0 : List B) (f : Ex F1 F2) (e2 : Ex F2 H2) (kp : ∀ a o, H1 a = some o → ¬ own c (locks ρ1 bs0) σ a → H2 a = some o) :
    ∀ {vs : List V} {bs : List B} {ds : List D}, BDens K c σ H F1 ρ1 H1 vs bs → (∀ b ∈ bs, b ∈ bs0) → Ev.views ρ1 bs = some ds → Views K c F2 H2 vs ds
  | _, _, _, .nil, _, e => by cases e; exact .nil
  | _, _, _, .cons (v := v) (b := b) (bs := bs) h t _, hm, e => by
    have RL := R.locks bs0
    unfold Ev.views at e
    split at e
    · cases e
    · rename_i d h1
      split at e
      · cases e
      · rename_i ds h2
        cases e
        refine .cons ?_ (views_stay R0 g R bs0 f e2 kp t (fun b q => hm b (List.mem_cons_of_mem _ q)) h2)
        cases b with
        | d x => cases h1; exact View.of e2 (Den.mono f _ h)
        | nw xs =>
          cases h1
          obtain ⟨a, us, rfl, q1, q2, q3, q4⟩ := h
          refine ⟨a, us, rfl, kp a _ q1 fun z => ?_, DenL.mono f _ q3⟩
          obtain ⟨k, ys, z1, z2⟩ := own_locks R z
          exact held_old R0 g R z1 rfl z2 q4
        | loc i =>
          obtain ⟨s, p1, _, p2⟩ := h
          have il := lt_of_get p1
          have ok := R.slot p1
          rw [p2] at ok
          unfold B.view at h1
          simp only [p1] at h1
          have lkd : (locks ρ1 bs0).v[i]? = some (lock1 s true) := by rw [locks_v, p1, hasLoc_of (hm _ List.mem_cons_self)]; rfl
          have nown : ∀ a, s.held = true → v = .ref a → ¬ own c (locks ρ1 bs0) σ a := fun a hh ev ⟨k, ys, z1, z2⟩ => by
            subst ev
            have : i = k := RL.apart i k (lock1 s true) (.ow ys) a (by rw [sl_v (by rw [locks_len]; exact il)]; exact lkd) z1 (by rw [lock1_held]; exact hh) rfl (by rw [vl_v (by rw [← R.len]; exact il)]; exact p2) z2
            subst this
            rw [sl_v (by rw [locks_len]; exact il), lkd] at z1
            cases s <;> cases z1
          cases s with
          | un => cases h1
          | att => cases h1
          | sh x => cases h1; obtain ⟨u, e1, q⟩ := ok; cases e1; exact View.of e2 (Den.mono f _ q)
          | ow xs => cases h1; obtain ⟨a, us, e1, q1, q2, q3⟩ := ok; cases e1; exact ⟨a, us, rfl, kp a _ q1 (nown a rfl rfl), DenL.mono f _ q3⟩
          | lk xs => cases h1; obtain ⟨a, us, e1, q1, q2, q3⟩ := ok; cases e1; exact ⟨a, us, rfl, kp a _ q1 (nown a rfl rfl), DenL.mono f _ q3⟩

/-- the locks are taken off -/
theorem unlock_ok (R0 : Rel K c F ρ σ H) (g : GoE K c σ F ρ H F1 ρ1 H1) (R : Rel K c F1 ρ1 σ H1) (g2 : Go K c F1 (locks ρ1 bs) σ H1 F2 ρ2 σ2 H2) (R2 : Rel K c F2 ρ2 σ2 H2) :
    Rel K c F2 (unlocks ρ1 ρ2 bs) σ2 H2 ∧ Go K c F ρ σ H F2 (unlocks ρ1 ρ2 bs) σ2 H2 ∧
    ((∀ a, own c ρ2 σ2 a → own c (locks ρ1 bs) σ a) → ∀ a, own c (unlocks ρ1 ρ2 bs) σ2 a → own c ρ σ a) := by
  have hR : Rel K c F2 (unlocks ρ1 ρ2 bs) σ2 H2 := R2.turnV rfl unlocks_len fun k t e => by
    rw [unlocks_v] at e
    cases q : ρ2.v[k]? with
    | none => rw [q] at e; cases e
    | some s =>
      rw [q] at e
      simp only [Option.map_some, Option.some.injEq] at e
      subst e
      refine ⟨s, rfl, ?_⟩
      rcases unlock1_cases (s := s) (t := ρ1.v[k]?) (k := hasLoc k bs) with z | ⟨xs, ys, rfl, _, _, z⟩
      · rw [z]; exact ⟨rfl, fun h => h⟩
      · rw [z]; exact ⟨rfl, fun h => h⟩
  -- a list of the frame's own behind it: one that was, or one whose lock was taken off
  have ho : ∀ a, own c (unlocks ρ1 ρ2 bs) σ2 a → own c ρ2 σ2 a ∨ own c ρ σ a := by
    rintro a ⟨k, xs, e, w⟩
    by_cases kl : k < ρ2.v.length
    · rw [sl_v (by rw [unlocks_len]; exact kl), unlocks_v] at e
      cases q : ρ2.v[k]? with
      | none => rw [q] at e; cases e
      | some s =>
        rw [q] at e
        simp only [Option.map_some, Option.some.injEq] at e
        rcases unlock1_cases (s := s) (t := ρ1.v[k]?) (k := hasLoc k bs) with z | ⟨zs, ys, rfl, z1, _, z⟩
        · rw [z] at e
          subst e
          exact .inl ⟨k, xs, by rw [sl_v kl]; exact q, w⟩
        · obtain ⟨_, q2⟩ := g2.lk k zs q
          have kl1 := lt_of_get z1
          refine .inr (g.ow a ⟨k, ys, by rw [sl_v kl1]; exact z1, ?_⟩)
          rw [vl_v (by rw [← R2.len]; exact kl), q2] at w
          rw [vl_v (by rw [← R.len]; exact kl1)]
          exact w
    · refine .inl ⟨k, xs, ?_, w⟩
      unfold sl at e ⊢
      rw [List.getElem?_append_right (by omega)]
      rw [List.getElem?_append_right (by rw [unlocks_len]; omega), unlocks_len] at e
      exact e
  refine ⟨hR, ⟨g.f.trans g2.f, fun a o e n => ?_, fun a e1 e2 n => ?_, fun a h => ?_, fun k xs e => ?_, fun a e => g2.grow a (g.grow a e), fun j s e hs => ?_, fun j e => g.atb j (g2.atb j e)⟩, fun st a h => ?_⟩
  · exact g2.keep a o (g.keep a o e n) fun z => n (g.ow a (own_locks R z))
  · exact g2.fr a (g.fr a e1 e2 n) (g.grow a e2) fun z => n (g.ow a (own_locks R z))
  · rcases ho a h with h | h
    · rcases g2.ow a h with h | h
      · exact .inl (g.ow a (own_locks R h))
      · cases q : H a with
        | none => exact .inr rfl
        | some o => exact absurd h (g.grow a (by rw [q]; simp))
    · exact .inl h
  · rw [unlocks_v] at e
    cases q : ρ2.v[k]? with
    | none => rw [q] at e; cases e
    | some s =>
      rw [q] at e
      simp only [Option.map_some, Option.some.injEq] at e
      rcases unlock1_cases (s := s) (t := ρ1.v[k]?) (k := hasLoc k bs) with z | ⟨zs, ys, rfl, _, _, z⟩
      · have es : s = .lk xs := z.symm.trans e
        subst es
        obtain ⟨q1, q2⟩ := g2.lk k xs q
        refine ⟨?_, q2⟩
        rw [locks_v] at q1
        cases p : ρ1.v[k]? with
        | none => rw [p] at q1; cases q1
        | some t =>
          rw [p] at q1 z
          simp only [Option.map_some, Option.some.injEq] at q1
          cases t with
          | ow ts =>
            exfalso
            cases hl : hasLoc k bs with
            | true => rw [hl] at z; cases z
            | false => rw [hl] at q1; cases q1
          | lk ts =>
            cases hl : hasLoc k bs <;> rw [hl] at q1 <;> cases q1 <;> exact g.lk k _ p
          | un => cases q1
          | att => cases q1
          | sh _ => cases q1
      · rw [z] at e
        cases e
  · obtain ⟨s', h1, h2⟩ := g.tell j s e hs
    exact g2.tell j s' h1 h2
  · rcases ho a h with h | h
    · exact g.ow a (own_locks R (st a h))
    · exact h

/-! ### what is walked -/
/-- the walk yields these items, one a turn, as long as what it walks stands -/
def JOk (K : PySem.W.Frag) (c : Ctx) (vs : List V) (ds : List D) (J : It) (items : List D) : Prop := ∀ (F H : Hp) (i : Nat), Ex F H → Views K c F H vs ds →
  (∀ d, items[i]? = some d → J.go i H ∧ ∀ x H', J.yld i H x H' → ∃ F', Ex F F' ∧ Ex H H' ∧ Ex F' H' ∧ (∀ a, F a = none → H a ≠ none → F' a = none) ∧ Den K c.CL F' x d) ∧ (items.length ≤ i → J.stop i H)
def IterV (K : PySem.W.Frag) (c : Ctx) (r : List V → Hp → (It → Hp → Prop) → Prop) (f : List D → Option (List D)) : Prop := ∀ F H vs ds items R, Ex F H → Views K c F H vs ds → f ds = some items →
  (∀ J F' H', Ex F F' → Ex H H' → Ex F' H' → (∀ a, F a = none → H a ≠ none → F' a = none) → JOk K c vs ds J items → R J H') → r vs H R
def tIA (ta : TA) (r : List V → Hp → (It → Hp → Prop) → Prop) : TI := fun σ H R => ta σ H fun vs H1 => r vs H1 R

/-! ### targets -/
theorem bndAll_go : ∀ (is : List Nat) {ρ ρ' : Env} {σ : St} {H : Hp} {vs : List V} {ds : List D}, Rel K c F ρ σ H → DenL K c.CL F vs ds → bndAll ρ is ds = some ρ' →
    ∃ σ', Rel K c F ρ' σ' H ∧ Go K c F ρ σ H F ρ' σ' H ∧ (∀ a, own c ρ' σ' a → own c ρ σ a) ∧ σ' = (is.zip vs).foldl (fun σ p => σ.set p.1 (some p.2)) σ ∧ is.length = vs.length
  | [], ρ, ρ', σ, H, _, _, R, .nil, e => by cases e; exact ⟨σ, R, Go.refl .., fun _ h => h, rfl, rfl⟩
  | [], _, _, _, _, _, _, _, .cons _ _, e => by cases e
  | _ :: _, _, _, _, _, _, _, _, .nil, e => by cases e
  | i :: is, ρ, ρ', σ, H, v :: vs, d :: ds, R, .cons hd l, e => by
    unfold bndAll at e
    split at e
    · cases e
    · rename_i ρ1 e1
      obtain ⟨R1, g1⟩ := R.bndSh e1 hd
      obtain ⟨_, o, _⟩ := R.bnd e1 ⟨v, rfl, hd⟩ (fun _ z => nomatch z) fun _ _ _ z => nomatch z
      obtain ⟨σ', R', g', o', es, el⟩ := bndAll_go is R1 l e
      refine ⟨σ', R', g1.trans g', fun a h => ?_, by rw [es]; rfl, by simp [el]⟩
      rcases o a (o' a h) with q | ⟨z, _⟩
      · exact q
      · cases z
theorem foldl_len : ∀ (is : List Nat) {vs : List V} {σ : St}, ((is.zip vs).foldl (fun σ p => σ.set p.1 (some p.2)) σ).length = σ.length
  | [], _, _ => rfl
  | i :: is, [], _ => rfl
  | i :: is, v :: vs, σ => by
    show ((is.zip vs).foldl _ (σ.set i (some v))).length = _
    rw [foldl_len is, List.length_set]
/-- a target: what stands behind its binding -/
def tEvG (K : PySem.W.Frag) (c : Ctx) (tg : Tg) : TG := fun v σ H Q => ∃ F ρ x, Rel K c F ρ σ H ∧ Den K c.CL F v x ∧ match tg.set ρ x with
  | none => False
  | some ρ' => ∀ σ', Rel K c F ρ' σ' H → Go K c F ρ σ H F ρ' σ' H → (∀ a, own c ρ' σ' a → own c ρ σ a) → (∀ k, k ∉ tg.is → σ'[k]? = σ[k]?) → σ'.length = σ.length → Q σ' H
abbrev PGv (X : Cx) (c : Ctx) (x : Expr) (tg : Tg) : Prop := PG X x (tEvG X.K c tg)
theorem PG.wk {X : Cx} {e : Expr} {t t' : TG} (h : PG X e t) (w : ∀ v σ H Q, t' v σ H Q → t v σ H Q) : PG X e t' := ⟨fun pins s σ H v u Q I r q => h.run pins s σ H v u Q I r (w _ _ _ _ q)⟩
theorem g_name {X : Cx} {c : Ctx} {x : Expr} {i : Nat} (h : PG X x (gName i)) : PGv X c x (.n i) := PG.wk h fun v σ H Q ⟨F, ρ, d, R, hd, q⟩ => by
  cases e : (Tg.n i).set ρ d with
  | none => rw [e] at q; exact q.elim
  | some ρ' =>
    rw [e] at q
    obtain ⟨R1, g1⟩ := R.bndSh e hd
    obtain ⟨_, o, _⟩ := R.bnd e ⟨v, rfl, hd⟩ (fun _ z => nomatch z) fun _ _ _ z => nomatch z
    refine q _ R1 g1 (fun a h => ?_) (fun k hk => List.getElem?_set_ne fun z => hk (by subst z; exact List.mem_singleton.mpr rfl)) (List.length_set ..)
    rcases o a h with q | ⟨z, _⟩
    · exact q
    · cases z
def gNames : List Nat → TGs
  | [] => gNil
  | i :: is => gCons (gName i) (gNames is)
theorem gNames_go : ∀ (is : List Nat) {vs : List V} {σ : St} {H : Hp} {Q : St → Hp → Prop}, is.length = vs.length → Q ((is.zip vs).foldl (fun σ p => σ.set p.1 (some p.2)) σ) H → gNames is vs σ H Q
  | [], [], _, _, _, _, q => ⟨rfl, q⟩
  | i :: is, v :: vs, σ, H, Q, e, q => ⟨v, vs, rfl, gNames_go is (by simpa using e) q⟩
theorem foldl_ne : ∀ (is : List Nat) {vs : List V} {σ : St} {k : Nat}, k ∉ is → ((is.zip vs).foldl (fun σ p => σ.set p.1 (some p.2)) σ)[k]? = σ[k]?
  | [], _, _, _, _ => rfl
  | i :: is, [], _, _, _ => rfl
  | i :: is, v :: vs, σ, k, h => by
    simp only [List.mem_cons, not_or] at h
    show ((is.zip vs).foldl _ (σ.set i (some v)))[k]? = _
    rw [foldl_ne is h.2, List.getElem?_set_ne fun z => h.1 z.symm]
theorem g_tup {X : Cx} {c : Ctx} {x : Expr} {is : List Nat} (h : PG X x (gTup X.K is.length (gNames is))) : PGv X c x (.t is) := PG.wk h fun v σ H Q ⟨F, ρ, d, R, hd, q⟩ => by
  cases e : (Tg.t is).set ρ d with
  | none => rw [e] at q; exact q.elim
  | some ρ' =>
    rw [e] at q
    cases d with
    | tup xs =>
      cases hd with
      | @tup a us _ hs l =>
        obtain ⟨σ', R', g', o', es, el⟩ := bndAll_go is R l e
        refine ⟨a, us, rfl, R.ex.t hs, el.symm, gNames_go is el ?_⟩
        rw [← es]
        exact q σ' R' g' o' (fun k hk => by rw [es]; exact foldl_ne is hk) (by rw [es]; exact foldl_len is)
    | _ => cases e

/-! ### for -/
theorem for_go {tg : Tg} {f : List D → Option (List D)} {as : Es} {body : Ss} {r : List V → Hp → (It → Hp → Prop) → Prop} {D : Ends} (p : IterV K c r f) (h : tEvS K c (.for tg f as body) D σ H) :
    tFor (tIA (tEvA K c as) r) (tEvG K c tg) (tEvSs K c body) D σ H := by
  obtain ⟨F, ρ, R, P⟩ := h
  unfold evS at P
  refine ⟨F, ρ, R, P.bind.imp fun F1 ρ1 H1 bs R1 g1 P1 vs hb => ?_⟩
  split at P1
  · exact P1.elim
  · rename_i ds e1
    split at P1
    · exact P1.elim
    · rename_i items e2
      refine p F1 H1 vs ds items _ R1.ex (hb.views R1 e1) e2 fun J F1' H1' f1 h1 x1 fr1 jok => ?_
      have R1' := R1.grow f1 h1 x1 fr1
      have gg := g1.trans (GoE.grown c ρ1 σ f1 h1 fr1)
      generalize hst : (fun x ρ => match tg.set ρ x with
          | none => Res.no
          | some ρ' => evSs body ρ') = step at P1
      generalize hr0 : forLoop step items (locks ρ1 bs) = r0 at P1
      refine ⟨fun i m σ2 H2 => m = items.length - i ∧ i ≤ items.length ∧ ∃ F2 ρ2, Rel K c F2 ρ2 σ2 H2 ∧ Go K c F1' (locks ρ1 bs) σ H1' F2 ρ2 σ2 H2 ∧ forLoop step (items.drop i) ρ2 = r0,
        ⟨_, rfl, Nat.zero_le _, F1', locks ρ1 bs, R1'.locks bs, Go.refl .., by simpa using hr0⟩, ?_⟩
      rintro i m σ2 H2 ⟨rfl, hi, F2, ρ2, R2, g2, hr⟩
      -- what stands at this turn
      have hviews : Views K c F2 H2 vs ds := views_stay R g1 R1 bs (f1.trans g2.f) R2.ex (fun a o e n => g2.keep a o (h1 a o e) n) hb (fun _ q => q) e1
      obtain ⟨jgo, jstop⟩ := jok F2 H2 i R2.ex hviews
      by_cases hlt : i < items.length
      · obtain ⟨go, yl⟩ := jgo items[i] (List.getElem?_eq_getElem hlt)
        refine .inr ⟨go, fun σ' H' => i + 1 ≤ items.length ∧ ∃ F2 ρ2, Rel K c F2 ρ2 σ' H' ∧ Go K c F1' (locks ρ1 bs) σ H1' F2 ρ2 σ' H' ∧ forLoop step (items.drop (i + 1)) ρ2 = r0,
          fun σ' H' q => ⟨items.length - (i + 1), by omega, rfl, q.1, q.2⟩, fun x H' y => ?_⟩
        obtain ⟨F3, f3, h3, x3, fr3, hd⟩ := yl x H' y
        have R3 := R2.grow f3 h3 x3 fr3
        have g3 := g2.trans (GoE.grown c ρ2 σ2 f3 h3 fr3).go
        rw [List.drop_eq_getElem_cons hlt] at hr
        unfold forLoop at hr
        have hs : step items[i] ρ2 = match tg.set ρ2 items[i] with
          | none => Res.no
          | some ρ' => evSs body ρ' := by rw [← hst]
        refine ⟨F3, ρ2, items[i], R3, hd, ?_⟩
        cases et : tg.set ρ2 items[i] with
        | none =>
          rw [et] at hs
          simp only [hs] at hr
          rw [← hr] at P1
          exact P1
        | some ρ3 =>
          rw [et] at hs
          simp only at hs
          intro σ3 R4 g4 _ _ _
          have g04 := g3.trans g4
          refine ⟨F3, ρ3, R4, ?_⟩
          match hb : evSs body ρ3 with
          | .no =>
            rw [hb] at hs
            simp only [hs] at hr
            rw [← hr] at P1
            exact P1
          | .ex x ρ4 =>
            rw [hb] at hs
            simp only [hs] at hr
            rw [← hr] at P1
            intro F' σ' H' C d R5 g5 q
            obtain ⟨R6, g6, _⟩ := unlock_ok R gg R1' (g04.trans g5) R5
            exact P1 F' σ' H' C d R6 g6 q
          | .ok .nx ρ4 =>
            rw [hb] at hs
            simp only [hs] at hr
            exact fun F' σ' H' R5 g5 => ⟨hlt, F', ρ4, R5, g04.trans g5, hr⟩
          | .ok .brk ρ4 =>
            rw [hb] at hs
            simp only [hs] at hr
            rw [← hr] at P1
            intro F' σ' H' R5 g5
            obtain ⟨R6, g6, _⟩ := unlock_ok R gg R1' (g04.trans g5) R5
            exact P1 F' σ' H' R6 g6
          | .ok (.rt b) ρ4 =>
            rw [hb] at hs
            simp only [hs] at hr
            rw [← hr] at P1
            intro F' σ' H' v R5 g5 q
            obtain ⟨R6, g6, _⟩ := unlock_ok R gg R1' (g04.trans g5) R5
            refine P1 F' σ' H' v R6 g6 ?_
            cases b with
            | d x => exact q
            | nw xs =>
              obtain ⟨a, us, q1, q2, q3, q4, q5⟩ := q
              refine ⟨a, us, q1, q2, q3, q4, ?_⟩
              cases z : H a with
              | none => rfl
              | some o => exact absurd q5 (h3.ne (g2.grow a (gg.grow a (by rw [z]; simp))))
            | loc k =>
              obtain ⟨s, q1, q2, q3⟩ := q
              refine ⟨_, by rw [unlocks_v, q1]; rfl, ?_, q3⟩
              rcases unlock1_cases (s := s) (t := ρ1.v[k]?) (k := hasLoc k bs) with z | ⟨zs, ys, rfl, _, _, z⟩
              · show (unlock1 s ρ1.v[k]? (hasLoc k bs)).live = true
                rw [z]; exact q2
              · show (unlock1 (.lk zs) ρ1.v[k]? (hasLoc k bs)).live = true
                rw [z]; rfl
      · have ei : i = items.length := by omega
        refine .inl ⟨jstop (by omega), ?_⟩
        rw [ei, List.drop_length] at hr
        unfold forLoop at hr
        rw [← hr] at P1
        obtain ⟨R6, g6, _⟩ := unlock_ok R gg R1' g2 R2
        exact P1 F2 σ2 H2 R6 g6
theorem s_for {X : Cx} {c : Ctx} {x : Stmt} {tg : Tg} {f : List D → Option (List D)} {as : Es} {body : Ss} {r : List V → Hp → (It → Hp → Prop) → Prop} (p : IterV X.K c r f) (h : PS X x (tFor (tIA (tEvA X.K c as) r) (tEvG X.K c tg) (tEvSs X.K c body))) : PSv X c x (.for tg f as body) :=
  PS.wk h fun _ _ _ q => for_go p q

/-! ### while -/
theorem while_go {t : T} {body : Ss} {D : Ends} (h : tEvS K c (.while t body) D σ H) : tWhile (tEvT K c t) (tEvSs K c body) D σ H := by
  obtain ⟨F, ρ, R, P⟩ := h
  unfold evS at P
  refine ⟨fun m σ2 H2 => ∃ F2 ρ2, Rel K c F2 ρ2 σ2 H2 ∧ PostS K c F2 ρ2 σ2 H2 (whileLoop (evT t) (evSs body) m ρ2) D, ⟨FUEL, F, ρ, R, P⟩, ?_⟩
  rintro m σ2 H2 ⟨F2, ρ2, R2, P2⟩
  cases m with
  | zero => exact P2.elim
  | succ m =>
    unfold whileLoop at P2
    refine ⟨F2, ρ2, R2, ?_⟩
    match ht : evT t ρ2, P2 with
    | .no, P2 => exact P2
    | .ex x ρ3, P2 => exact fun F' H' C d R3 g3 q => P2 F' σ2 H' C d R3 g3.go q
    | .ok false ρ3, P2 =>
      intro F3 H3 R3 g3
      exact iteF (P2 F3 σ2 H3 R3 g3.go)
    | .ok true ρ3, P2 =>
      intro F3 H3 R3 g3
      dsimp only at P2
      refine iteT ⟨fun σ' H' => ∃ F2 ρ2, Rel K c F2 ρ2 σ' H' ∧ PostS K c F2 ρ2 σ' H' (whileLoop (evT t) (evSs body) m ρ2) D, fun σ' H' q => ⟨m, Nat.lt_succ_self m, q⟩, F3, ρ3, R3, ?_⟩
      match hb : evSs body ρ3, P2 with
      | .no, P2 => exact P2
      | .ex x ρ4, P2 => exact PostS.rebase g3.go P2
      | .ok .nx ρ4, P2 => exact fun F' σ' H' R5 g5 => ⟨F', ρ4, R5, PostS.rebase (g3.go.trans g5) P2⟩
      | .ok .brk ρ4, P2 => exact PostS.rebase g3.go P2
      | .ok (.rt b) ρ4, P2 => exact PostS.rebase g3.go P2
theorem s_while {X : Cx} {c : Ctx} {x : Stmt} {t : T} {body : Ss} (h : PS X x (tWhile (tEvT X.K c t) (tEvSs X.K c body))) : PSv X c x (.while t body) := PS.wk h fun _ _ _ q => while_go q
end
end Ev

namespace Ev
open PySem L2

abbrev Ctx.noE (c : Ctx) : Ctx := { c with E := fun _ _ _ => False }
section
variable {α β : Type} {K : PySem.W.Frag} {c : Ctx} {F F1 F2 F3 F' H H1 H2 H3 H' : Hp} {ρ ρ0 ρ1 ρ2 ρ3 ρ' : Env} {σ σ1 σ2 σ3 σ' : St} {v : V} {b : B} {vs : List V} {bs : List B} {ds items : List D} {is ows : List Nat}

theorem Rel.noE (R : Rel K c F ρ σ H) : Rel K c.noE F ρ σ H := ⟨R.len, R.lenO, R.ex, R.ok, R.apart, R.att, R.noLk, R.fz⟩
theorem Rel.reE (R : Rel K c.noE F ρ σ H) : Rel K c F ρ σ H := ⟨R.len, R.lenO, R.ex, R.ok, R.apart, R.att, R.noLk, R.fz⟩
theorem GoE.reE (g : GoE K c.noE σ F ρ H F' ρ' H') : GoE K c σ F ρ H F' ρ' H' := ⟨g.f, g.keep, g.fr, g.ow, g.lk, g.grow, g.live, g.tell, g.atb⟩

theorem Go.reEgo (g : Go K c.noE F ρ σ H F' ρ' σ' H') : Go K c F ρ σ H F' ρ' σ' H' := ⟨g.f, g.keep, g.fr, g.ow, g.lk, g.grow, g.tell, g.atb⟩
/-! ### a block's own variables -/
theorem wipe_get : ∀ (ows : List Nat) (σ : St) (k : Nat), (wipe σ ows)[k]? = if k ∈ ows then σ[k]?.map (fun _ => none) else σ[k]?
  | [], σ, k => by simp [wipe]
  | i :: is, σ, k => by
    unfold wipe
    rw [List.getElem?_set]
    by_cases e : i = k
    · subst e
      rw [if_pos rfl, if_pos List.mem_cons_self, wipe_length]
      by_cases h : i < σ.length
      · rw [if_pos h, List.getElem?_eq_getElem h]; rfl
      · rw [if_neg h, List.getElem?_eq_none (by omega)]; rfl
    · rw [if_neg e, wipe_get is]
      by_cases h : k ∈ is
      · rw [if_pos h, if_pos (List.mem_cons_of_mem _ h)]
      · rw [if_neg h, if_neg fun z => (List.mem_cons.mp z).elim (fun z => e z.symm) h]
theorem wipeE_v (k : Nat) : (wipeE ρ ows).v[k]? = ρ.v[k]?.map fun s => if k ∈ ows then .un else s := by
  show (mapI _ 0 ρ.v)[k]? = _
  rw [mapI_get]
  simp
theorem wipeE_len : (wipeE ρ ows).v.length = ρ.v.length := mapI_length ..
theorem unwipe_v (k : Nat) : (unwipe ρ0 ρ ows).v[k]? = ρ.v[k]?.map fun s => if k ∈ ows then ρ0.v.getD k .un else s := by
  show (mapI _ 0 ρ.v)[k]? = _
  rw [mapI_get]
  simp
theorem unwipe_len : (unwipe ρ0 ρ ows).v.length = ρ.v.length := mapI_length ..
theorem wipe_key (R : Rel K c F ρ σ H) (k : Nat) (t : Slot) (e : (sl (wipeE ρ ows))[k]? = some t) : t = .un ∨ ((sl ρ)[k]? = some t ∧ (vl c (wipe σ ows))[k]? = (vl c σ)[k]? ∧ (k < ρ.v.length → k ∉ ows)) := by
  by_cases kl : k < ρ.v.length
  · rw [sl_v (by rw [wipeE_len]; exact kl), wipeE_v] at e
    cases q : ρ.v[k]? with
    | none => rw [q] at e; cases e
    | some s =>
      rw [q] at e
      simp only [Option.map_some, Option.some.injEq] at e
      by_cases h : k ∈ ows
      · rw [if_pos h] at e; exact .inl e.symm
      · rw [if_neg h] at e
        subst e
        refine .inr ⟨by rw [sl_v kl]; exact q, ?_, fun _ => h⟩
        rw [vl_v (by rw [wipe_length, ← R.len]; exact kl), vl_v (by rw [← R.len]; exact kl), wipe_get, if_neg h]
  · refine .inr ⟨?_, ?_, fun z => absurd z kl⟩
    · unfold sl at e ⊢
      rw [List.getElem?_append_right (by rw [wipeE_len]; omega), wipeE_len] at e
      rw [List.getElem?_append_right (by omega)]
      exact e
    · unfold vl
      rw [List.getElem?_append_right (by rw [wipe_length, ← R.len]; omega), List.getElem?_append_right (by rw [← R.len]; omega), wipe_length]
theorem Rel.wipe (R : Rel K c F ρ σ H) (ha : ∀ i ∈ ows, ρ.o[i]? ≠ some .att) : Rel K c F (wipeE ρ ows) (L2.wipe σ ows) H := by
  refine ⟨by rw [wipeE_len, wipe_length]; exact R.len, R.lenO, R.ex, fun k t e => ?_, fun k k' t t' a e e' hh hh' w w' => ?_, fun j e => ?_, R.noLk, R.fz⟩
  · rcases wipe_key R k t e with rfl | ⟨q1, q2, _⟩
    · trivial
    · rw [q2]; exact R.ok k t q1
  · rcases wipe_key R k t e with rfl | ⟨q1, q2, _⟩
    · cases hh
    · rcases wipe_key R k' t' e' with rfl | ⟨q1', q2', _⟩
      · cases hh'
      · rw [q2] at w; rw [q2'] at w'
        exact R.apart k k' t t' a q1 q1' hh hh' w w'
  · have hj : j ∉ ows := fun z => ha j z e
    obtain ⟨v, s, g1, g2, g3, g4⟩ := R.att j e
    exact ⟨v, s, by rw [wipe_get, if_neg hj]; exact g1, g2, by rw [wipeE_v, g3, Option.map_some, if_neg hj], g4⟩
theorem own_wipe (R : Rel K c F ρ σ H) {a : Addr} (h : own c (wipeE ρ ows) (L2.wipe σ ows) a) : own c ρ σ a := by
  obtain ⟨k, xs, e, w⟩ := h
  rcases wipe_key R k _ e with z | ⟨q1, q2, _⟩
  · cases z
  · exact ⟨k, xs, q1, by rw [← q2]; exact w⟩
/-- an object that neither F nor a variable tells of changes -/
theorem Rel.poke (R : Rel K c F ρ σ H) {p : Addr} {o : HO} (hF : F p = none) (hn : ∀ (k : Nat) (s : Slot), (sl ρ)[k]? = some s → s.held = true → (vl c σ)[k]? ≠ some (some (.ref p))) : Rel K c F ρ σ (upd H p o) := by
  refine ⟨R.len, R.lenO, fun a u e => ?_, fun k s e => ?_, R.apart, R.att, R.noLk, R.fz⟩
  · rw [upd_ne (ne_of_none e hF)]; exact R.ex a u e
  · refine (R.ok k s e).grow (Ex.refl _) fun a us hh w q1 q2 => ⟨?_, q2⟩
    rw [upd_ne fun z => hn k s e hh (by rw [w, z])]
    exact q1
/-- behind a block its own variables are as ahead of it -/
theorem unwipe_ok (RL : Rel K c F ρ σ H) (ha : ∀ i ∈ ows, ρ.o[i]? ≠ some .att) (g : GoE K c (L2.wipe σ ows) F (wipeE ρ ows) H F2 ρ2 H2) (R2 : Rel K c F2 ρ2 (L2.wipe σ ows) H2) :
    Rel K c F2 (unwipe ρ ρ2 ows) σ H2 ∧ Go K c F ρ σ H F2 (unwipe ρ ρ2 ows) σ H2 ∧ (∀ a, own c (unwipe ρ ρ2 ows) σ a → own c ρ σ a) ∧
    (∀ (k : Nat) (s : Slot), ρ.v[k]? = some s → s.live = true → ∃ s', (unwipe ρ ρ2 ows).v[k]? = some s' ∧ s'.live = true) := by
  have RB := RL.wipe ha
  have l2 : ρ2.v.length = ρ.v.length := by rw [R2.len, wipe_length, RL.len]
  have lu : (unwipe ρ ρ2 ows).v.length = ρ.v.length := unwipe_len.trans l2
  -- an own list of the block's end stood at the block's start, at a place that is not the block's own
  have key : ∀ (k : Nat) (t : Slot), (sl (unwipe ρ ρ2 ows))[k]? = some t →
      (k < ρ.v.length ∧ k ∈ ows ∧ ρ.v[k]? = some t) ∨ ((sl ρ2)[k]? = some t ∧ (vl c (L2.wipe σ ows))[k]? = (vl c σ)[k]? ∧ (k < ρ.v.length → k ∉ ows)) := by
    intro k t e
    by_cases kl : k < ρ.v.length
    · rw [sl_v (by rw [lu]; exact kl), unwipe_v] at e
      rw [List.getElem?_eq_getElem (by rw [l2]; exact kl)] at e
      simp only [Option.map_some, Option.some.injEq] at e
      by_cases h : k ∈ ows
      · rw [if_pos h] at e
        refine .inl ⟨kl, h, ?_⟩
        rw [← e, List.getD_eq_getElem?_getD, List.getElem?_eq_getElem kl]
        rfl
      · rw [if_neg h] at e
        refine .inr ⟨by rw [sl_v (by rw [l2]; exact kl), List.getElem?_eq_getElem (by rw [l2]; exact kl), e], ?_, fun _ => h⟩
        rw [vl_v (by rw [wipe_length, ← RL.len]; exact kl), vl_v (by rw [← RL.len]; exact kl), wipe_get, if_neg h]
    · refine .inr ⟨?_, ?_, fun z => absurd z kl⟩
      · unfold sl at e ⊢
        rw [List.getElem?_append_right (by rw [lu]; omega), lu] at e
        rw [List.getElem?_append_right (by rw [l2]; omega), l2]
        exact e
      · unfold vl
        rw [List.getElem?_append_right (by rw [wipe_length, ← RL.len]; omega), List.getElem?_append_right (by rw [← RL.len]; omega), wipe_length]
  -- a held place of the block's end: where it stood at the start
  have held2 : ∀ (k : Nat) (t : Slot) (a : Addr), (sl ρ2)[k]? = some t → t.held = true → (vl c (L2.wipe σ ows))[k]? = some (some (.ref a)) → ∃ (k' : Nat) (t' : Slot), (sl ρ)[k']? = some t' ∧ t'.held = true ∧ (vl c σ)[k']? = some (some (V.ref a)) ∧ (k' < ρ.v.length → k' ∉ ows) := by
    intro k t a e hh w
    cases t with
    | ow xs =>
      obtain ⟨k', ys, e', w'⟩ := g.ow a ⟨k, xs, e, w⟩
      rcases wipe_key RL k' _ e' with z | ⟨q1, q2, q3⟩
      · cases z
      · exact ⟨k', _, q1, rfl, by rw [← q2]; exact w', q3⟩
    | lk xs =>
      by_cases kl : k < ρ2.v.length
      · rw [sl_v kl] at e
        have e0 := g.lk k xs e
        have kl' : k < ρ.v.length := by rw [← l2]; exact kl
        rcases wipe_key (ows := ows) RL k (.lk xs) (by rw [sl_v (by rw [wipeE_len]; exact kl')]; exact e0) with z | ⟨q1, q2, q3⟩
        · cases z
        · exact ⟨k, _, q1, rfl, by rw [← q2]; exact w, q3⟩
      · unfold sl at e
        rw [List.getElem?_append_right (by omega)] at e
        exact absurd e (R2.noLk _ _)
    | un => cases hh
    | att => cases hh
    | sh _ => cases hh
  -- what a wiped place held stays
  have stayW : ∀ (k : Nat) (t : Slot) (a : Addr) (us : List V), k < ρ.v.length → k ∈ ows → ρ.v[k]? = some t → t.held = true → σ[k]? = some (some (.ref a)) → H a = some (.lst us) → F a = none → H2 a = some (.lst us) ∧ F2 a = none := by
    intro k t a us kl hk e hh w q1 q2
    have n : ¬ own c (wipeE ρ ows) (L2.wipe σ ows) a := fun ⟨k', ys, e', w'⟩ => by
      rcases wipe_key RL k' _ e' with z | ⟨z1, z2, z3⟩
      · cases z
      · have : k = k' := RL.apart k k' t _ a (by rw [sl_v kl]; exact e) z1 hh rfl (by rw [vl_v (by rw [← RL.len]; exact kl)]; exact w) (by rw [← z2]; exact w')
        subst this
        exact z3 kl hk
    exact ⟨g.keep a _ q1 n, g.fr a q2 (by rw [q1]; simp) n⟩
  have so : ∀ a, own c (unwipe ρ ρ2 ows) σ a → own c ρ σ a := by
    rintro a ⟨k, xs, e, w⟩
    rcases key k _ e with ⟨kl, hk, q⟩ | ⟨q1, q2, _⟩
    · exact ⟨k, xs, by rw [sl_v kl]; exact q, w⟩
    · obtain ⟨k', ys, e', w'⟩ := g.ow a ⟨k, xs, q1, by rw [q2]; exact w⟩
      exact own_wipe RL ⟨k', ys, e', w'⟩
  refine ⟨⟨by rw [lu]; exact RL.len, R2.lenO, R2.ex, fun k t e => ?_, fun k k' t t' a e e' hh hh' w w' => ?_, fun j e => ?_, R2.noLk, R2.fz⟩,
    ⟨g.f, fun a o e n => g.keep a o e fun z => n (own_wipe RL z), fun a e1 e2 n => g.fr a e1 e2 fun z => n (own_wipe RL z), fun a h => .inl (so a h), fun k xs e => ?_, g.grow, g.tell, g.atb⟩, so, fun k s e hl => ?_⟩
  · rcases key k t e with ⟨kl, hk, q⟩ | ⟨q1, q2, _⟩
    · rw [vl_v (by rw [← RL.len]; exact kl)]
      exact (RL.slot q).grow g.f fun a us hh w z1 z2 => stayW k t a us kl hk q hh w z1 z2
    · rw [← q2]; exact R2.ok k t q1
  · rcases key k t e with ⟨kl, hk, q⟩ | ⟨q1, q2, q3⟩
    · have s1 : (sl ρ)[k]? = some t := by rw [sl_v kl]; exact q
      rcases key k' t' e' with ⟨kl', hk', q'⟩ | ⟨q1', q2', q3'⟩
      · exact RL.apart k k' t t' a s1 (by rw [sl_v kl']; exact q') hh hh' w w'
      · obtain ⟨k2, t2, z1, z2, z3, z4⟩ := held2 k' t' a q1' hh' (by rw [q2']; exact w')
        have : k = k2 := RL.apart k k2 t t2 a s1 z1 hh z2 w z3
        subst this
        exact absurd hk (z4 kl)
    · rcases key k' t' e' with ⟨kl', hk', q'⟩ | ⟨q1', q2', q3'⟩
      · obtain ⟨k2, t2, z1, z2, z3, z4⟩ := held2 k t a q1 hh (by rw [q2]; exact w)
        have : k' = k2 := RL.apart k' k2 t' t2 a (by rw [sl_v kl']; exact q') z1 hh' z2 w' z3
        subst this
        exact absurd hk' (z4 kl')
      · exact R2.apart k k' t t' a q1 q1' hh hh' (by rw [q2]; exact w) (by rw [q2']; exact w')
  · obtain ⟨v, s, g1, g2, g3, g4⟩ := R2.att j e
    have hj : j ∉ ows := fun z => by
      rw [wipe_get, if_pos z] at g1
      cases q : σ[j]? with
      | none => rw [q] at g1; cases g1
      | some x => rw [q] at g1; cases g1
    rw [wipe_get, if_neg hj] at g1
    exact ⟨v, s, g1, g2, by rw [unwipe_v, g3, Option.map_some, if_neg hj], g4⟩
  · rw [unwipe_v] at e
    refine ⟨?_, rfl⟩
    cases q : ρ2.v[k]? with
    | none => rw [q] at e; cases e
    | some s =>
      rw [q] at e
      simp only [Option.map_some, Option.some.injEq] at e
      have kl : k < ρ.v.length := by rw [← l2]; exact lt_of_get q
      by_cases h : k ∈ ows
      · rw [if_pos h, List.getD_eq_getElem?_getD, List.getElem?_eq_getElem kl] at e
        rw [List.getElem?_eq_getElem kl]
        exact congrArg some e
      · rw [if_neg h] at e
        subst e
        have e0 := g.lk k xs q
        rw [wipeE_v] at e0
        cases p : ρ.v[k]? with
        | none => rw [p] at e0; cases e0
        | some t => rw [p, Option.map_some, if_neg h] at e0; exact e0
  · by_cases h : k ∈ ows
    · have kl := lt_of_get e
      refine ⟨s, ?_, hl⟩
      rw [unwipe_v, List.getElem?_eq_getElem (by rw [l2]; exact kl), Option.map_some, if_pos h, List.getD_eq_getElem?_getD, e]
      rfl
    · obtain ⟨s', h1, h2⟩ := g.live k s (by rw [wipeE_v, e, Option.map_some, if_neg h]) hl
      exact ⟨s', by rw [unwipe_v, h1, Option.map_some, if_neg h], h2⟩

/-! ### comprehensions -/
def tEvO (K : PySem.W.Frag) (c : Ctx) (t : OT) : TT := fun σ H Q => ∃ F ρ, Rel K c F ρ σ H ∧ PostR K c σ F ρ H (evO t ρ) fun _ _ H' k => Q k H'
theorem PTs.wk {X : Cx} {e : List Expr} {t t' : TT} (h : PTs X e t) (w : ∀ σ H Q, t' σ H Q → t σ H Q) : PTs X e t' := ⟨fun pins s σ H Q I q => h.run pins s σ H Q I (w _ _ _ q)⟩
theorem o_none {X : Cx} {c : Ctx} : PTs X [] (tEvO X.K c .none) := PTs.wk pts_nil fun σ H Q ⟨F, ρ, R, P⟩ => by
  unfold evO at P
  exact P F H R (GoE.refl ..)
theorem o_some {X : Cx} {c : Ctx} {x : Expr} {t : T} (h : PTv X c x t) : PTs X [x] (tEvO X.K c (.some t)) := PTs.wk (pts_one h) fun σ H Q ⟨F, ρ, R, P⟩ => by
  unfold evO at P
  exact ⟨F, ρ, R, P⟩
theorem bndAll_keep : ∀ (is : List Nat) {ρ ρ' : Env} {ds : List D}, bndAll ρ is ds = some ρ' → ∀ k, k ∉ is → ρ'.v[k]? = ρ.v[k]?
  | [], _, _, [], e, _, _ => by cases e; rfl
  | [], _, _, _ :: _, e, _, _ => by cases e
  | _ :: _, _, _, [], e, _, _ => by cases e
  | i :: is, ρ, ρ', d :: ds, e, k, h => by
    unfold bndAll at e
    simp only [List.mem_cons, not_or] at h
    split at e
    · cases e
    · rename_i ρ1 e1
      rw [bndAll_keep is e k h.2, (Env.bnd_cases e1).2.1, List.getElem?_set_ne fun z => h.1 z.symm]
theorem Tg.set_keep {tg : Tg} {x : D} (e : tg.set ρ x = some ρ') {k : Nat} (h : k ∉ tg.is) : ρ'.v[k]? = ρ.v[k]? := by
  cases tg with
  | n i =>
    rw [(Env.bnd_cases (show ρ.bnd i (.sh x) = some ρ' from e)).2.1, List.getElem?_set_ne fun z => h (by subst z; exact List.mem_singleton.mpr rfl)]
  | t is =>
    cases x with
    | tup xs => exact bndAll_keep is e k h
    | _ => cases e
/-- one turn of a block: from the wiped variables to the wiped variables -/
theorem turn_go (R2 : Rel K c F2 ρ2 (L2.wipe σ ows) H2) (g4o : ∀ a, own c ρ3 σ3 a → own c ρ2 (L2.wipe σ ows) a) (g4 : Go K c F2 ρ2 (L2.wipe σ ows) H2 F2 ρ3 σ3 H2) (hk : ∀ k, k ∉ ows → ρ3.v[k]? = ρ2.v[k]?)
    (hw : ∀ k ∈ ows, ∀ s, ρ2.v[k]? = some s → s = .un) (hσ : L2.wipe σ3 ows = L2.wipe σ ows) (g : GoE K c σ3 F2 ρ3 H2 F3 ρ' H3) (R3 : Rel K c F3 ρ' σ3 H3) (ha : ∀ i ∈ ows, ρ'.o[i]? ≠ some .att) :
    Rel K c F3 (wipeE ρ' ows) (L2.wipe σ ows) H3 ∧ GoE K c (L2.wipe σ ows) F2 ρ2 H2 F3 (wipeE ρ' ows) H3 := by
  refine ⟨by rw [← hσ]; exact R3.wipe ha, ⟨g.f, fun a o e n => g.keep a o e fun z => n (g4o a z), fun a e1 e2 n => g.fr a e1 e2 fun z => n (g4o a z), fun a h => ?_, fun k xs e => ?_, g.grow, fun k s e hl => ?_, fun j s e hl => ?_, fun j e => g4.atb j (g.atb j e)⟩⟩
  · rw [← hσ] at h
    exact g4o a (g.ow a (own_wipe R3 h))
  · rw [wipeE_v] at e
    cases q : ρ'.v[k]? with
    | none => rw [q] at e; cases e
    | some s =>
      rw [q, Option.map_some] at e
      by_cases h : k ∈ ows
      · rw [if_pos h] at e; cases e
      · rw [if_neg h] at e
        cases e
        rw [← hk k h]
        exact g.lk k xs q
  · by_cases h : k ∈ ows
    · rw [hw k h s e] at hl; cases hl
    · obtain ⟨s', h1, h2⟩ := g.live k s (by rw [hk k h]; exact e) hl
      exact ⟨s', by rw [wipeE_v, h1, Option.map_some, if_neg h], h2⟩
  · obtain ⟨s', h1, h2⟩ := g4.tell j s e hl
    exact g.tell j s' h1 h2
end
end Ev

namespace Ev
open PySem L2
section
variable {K : PySem.W.Frag} {c : Ctx} {F F1 F2 F3 F' H H1 H2 H3 H' : Hp} {ρ ρ0 ρ1 ρ2 ρ3 ρ' : Env} {σ σ1 σ2 σ3 σ' : St} {v : V} {b : B} {vs : List V} {bs : List B} {ds items : List D} {is ows : List Nat}

theorem lc_go {tg : Tg} {f : List D → Option (List D)} {as : Es} {oc : OT} {elt : E} {r : List V → Hp → (It → Hp → Prop) → Prop} {Q : VK} (p : IterV K c r f) (h : tEv K c (.lc ows tg f as oc elt) σ H Q) :
    tLc (tIA (tEvA K c as) r) (tEvG K c.noE tg) (tEvO K c.noE oc) (tEv K c.noE elt) ows σ H Q := by
  obtain ⟨F, ρ, R, P⟩ := h
  unfold evE at P
  refine ⟨F, ρ, R, P.bind.imp fun F1 ρ1 H1 bs R1 g1 P1 vs hb => ?_⟩
  split at P1
  · exact P1.elim
  · rename_i ds e1
    split at P1
    · exact P1.elim
    · rename_i items e2
      split at P1
      · rename_i hcond
        obtain ⟨hlen, hatt, htg⟩ := hcond
        refine p F1 H1 vs ds items _ R1.ex (hb.views R1 e1) e2 fun J F1' H1' f1 h1 x1 fr1 jok => ?_
        intro D hD
        have R1' := R1.grow f1 h1 x1 fr1
        have gg := g1.trans (GoE.grown c ρ1 σ f1 h1 fr1)
        have RL := R1'.locks bs
        have hatt' : ∀ i ∈ ows, (locks ρ1 bs).o[i]? ≠ some .att := fun i hi z => by
          rw [List.all_eq_true] at hatt
          have := hatt i hi
          rw [show ρ1.o[i]? = some .att from z] at this
          cases this
        have htg' : ∀ k, k ∉ ows → k ∉ tg.is := fun k hk z => by
          rw [List.all_eq_true] at htg
          have := htg k z
          simp only [List.contains_eq_mem, decide_eq_true_eq] at this
          exact hk this
        have RB := RL.wipe hatt'
        have hnD : H D = none := gg.new_of hD
        -- the step and what the loop comes to
        generalize hst : (fun x ρ => match Tg.set ρ x tg with
          | none => Res.no
          | some ρ' => (evO oc ρ').bind fun k ρ'' => if k then (evE elt ρ'').bind fun b ρ2 => match b.keep ρ2 with
              | none => .no
              | some (d, ρ3) => .ok (some d) (wipeE ρ3 ows) else .ok none (wipeE ρ'' ows)) = step at P1
        generalize hr0 : lcLoop step items [] (wipeE (locks ρ1 bs) ows) = r0 at P1
        let W : Nat → Hp → Prop := fun i H2 => i ≤ items.length ∧ ∃ F2 ρ2 acc us, Rel K c F2 ρ2 (L2.wipe σ ows) H2 ∧ GoE K c (L2.wipe σ ows) F1' (wipeE (locks ρ1 bs) ows) H1' F2 ρ2 H2 ∧
          (∀ k ∈ ows, ∀ s, ρ2.v[k]? = some s → s = .un) ∧ H2 D = some (.lst us) ∧ F2 D = none ∧ DenL K c.CL F2 us acc ∧ acc.length ≤ i ∧ lcLoop step (items.drop i) acc ρ2 = r0
        have hun : ∀ (ρ : Env), ∀ k ∈ ows, ∀ s, (wipeE ρ ows).v[k]? = some s → s = .un := fun ρ k hk s e => by
          rw [wipeE_v] at e
          cases q : ρ.v[k]? with
          | none => rw [q] at e; cases e
          | some t => rw [q, Option.map_some, if_pos hk] at e; cases e; rfl
        refine ⟨fun i m H2 => m = items.length - i ∧ W i H2, ⟨_, rfl, Nat.zero_le _, F1', wipeE (locks ρ1 bs) ows, [], [], ?_, ?_, hun _, upd_same, ?_, .nil, Nat.le_refl _, by simpa using hr0⟩, ?_⟩
        · refine RB.grow (Ex.refl _) (Ex.new hD) (RB.ex.trans (Ex.new hD)) fun a e _ => e
        · exact GoE.grown c _ _ (Ex.refl _) (Ex.new hD) fun a e _ => e
        · exact RB.noneF hD
        rintro i m H2 ⟨rfl, hi, F2, ρ2, acc, us, R2, g2, hw2, hDl, hFD, hDen, hacc, hr⟩
        -- D is none of the block's own lists
        have nD : ∀ a, own c (wipeE (locks ρ1 bs) ows) (L2.wipe σ ows) a → a ≠ D := fun a q z => by
          subst z
          obtain ⟨us, e, _⟩ := own.some RB q
          rw [hD] at e; cases e
        -- what stands at this turn
        have hviews : Views K c F2 H2 vs ds := views_stay R g1 R1 bs (f1.trans g2.f) R2.ex (fun a o e n => g2.keep a o (h1 a o e) fun z => n (own_wipe RL z)) hb (fun _ q => q) e1
        obtain ⟨jgo, jstop⟩ := jok F2 H2 i R2.ex hviews
        by_cases hlt : i < items.length
        · obtain ⟨go, yl⟩ := jgo items[i] (List.getElem?_eq_getElem hlt)
          refine .inr ⟨go, W (i + 1), fun H' q => ⟨items.length - (i + 1), by omega, rfl, q⟩, fun x H' y => ?_⟩
          obtain ⟨F3, f3, h3, x3, fr3, hd⟩ := yl x H' y
          have R3 := R2.grow f3 h3 x3 fr3
          have g23 : GoE K c (L2.wipe σ ows) F2 ρ2 H2 F3 ρ2 H' := GoE.grown c ρ2 (L2.wipe σ ows) f3 h3 fr3
          have hD3 : H' D = some (.lst us) := h3 D _ hDl
          have hF3 : F3 D = none := fr3 D hFD (by rw [hDl]; simp)
          rw [List.drop_eq_getElem_cons hlt] at hr
          unfold lcLoop at hr
          have hs : step items[i] ρ2 = match Tg.set ρ2 items[i] tg with
            | none => Res.no
            | some ρ' => (evO oc ρ').bind fun k ρ'' => if k then (evE elt ρ'').bind fun b ρ2 => match b.keep ρ2 with
                | none => .no
                | some (d, ρ3) => .ok (some d) (wipeE ρ3 ows) else .ok none (wipeE ρ'' ows) := by rw [← hst]
          have bad : r0 = .no → False := fun z => by rw [z] at P1; exact P1
          refine ⟨F3, ρ2, items[i], R3.noE, hd, ?_⟩
          cases et : Tg.set ρ2 items[i] tg with
          | none =>
            rw [et] at hs
            simp only [hs] at hr
            exact bad hr.symm
          | some ρ3 =>
            rw [et] at hs
            simp only at hs
            intro σ3 R4 g4 o4 k4 len4
            have hσ : L2.wipe σ3 ows = L2.wipe σ ows := by
              apply List.ext_getElem?
              intro k
              rw [wipe_get, wipe_get]
              by_cases hk : k ∈ ows
              · rw [if_pos hk, if_pos hk]
                have hl : σ3.length = σ.length := by rw [len4, wipe_length]
                by_cases hkl : k < σ.length
                · rw [List.getElem?_eq_getElem hkl, List.getElem?_eq_getElem (by rw [hl]; exact hkl)]; rfl
                · rw [List.getElem?_eq_none (by omega), List.getElem?_eq_none (by omega)]
              · rw [if_neg hk, if_neg hk, k4 k (htg' k hk), wipe_get, if_neg hk]
            refine ⟨hσ, F3, ρ3, R4, ?_⟩
            have hk3 : ∀ k, k ∉ ows → ρ3.v[k]? = ρ2.v[k]? := fun k hk => Tg.set_keep et (htg' k hk)
            match ho : evO oc ρ3 with
            | .no =>
              rw [ho] at hs
              simp only [hs, Res.bind] at hr
              exact bad hr.symm
            | .ex x ρ4 =>
              rw [ho] at hs
              simp only [hs, Res.bind] at hr
              exact (bad hr.symm).elim
            | .ok k ρ4 =>
              rw [ho] at hs
              simp only [Res.bind] at hs
              intro F4 H4 R5 g5
              have noat : ∀ (ρ' : Env), (∀ j : Nat, ρ'.o[j]? = some .att → ρ4.o[j]? = some .att) → ∀ i ∈ ows, ρ'.o[i]? ≠ some .att := fun ρ' hh i hi z =>
                hatt' i hi (show (wipeE (locks ρ1 bs) ows).o[i]? = some .att from g2.atb i (g4.atb i (g5.atb i (hh i z))))
              have nD3 : ¬ own c ρ3 σ3 D := fun z => nD D (g2.ow D (o4 D z)) rfl
              have hD4 : H4 D = some (.lst us) := g5.keep D _ hD3 nD3
              have hF4 : F4 D = none := g5.fr D hF3 (by rw [hD3]; simp) nD3
              cases k with
              | false =>
                simp only [Bool.false_eq_true, if_false] at hs
                simp only [hs] at hr
                refine iteF ?_
                obtain ⟨R7, g7⟩ := turn_go R3 o4 g4.reEgo hk3 hw2 hσ g5.reE R5.reE (noat ρ4 fun _ h => h)
                exact ⟨hlt, F4, wipeE ρ4 ows, acc, us, R7, (g2.trans g23).trans g7, hun _, hD4, hF4, DenL.mono (f3.trans g5.f) _ hDen, by omega, hr⟩
              | true =>
                simp only [if_true] at hs
                refine iteT ?_
                refine ⟨F4, ρ4, R5, ?_⟩
                match he : evE elt ρ4 with
                | .no =>
                  rw [he] at hs
                  simp only [hs, Res.bind] at hr
                  exact bad hr.symm
                | .ex x ρ5 =>
                  rw [he] at hs
                  simp only [hs, Res.bind] at hr
                  exact (bad hr.symm).elim
                | .ok b ρ5 =>
                  rw [he] at hs
                  simp only [Res.bind] at hs
                  intro F5 H5 R6 g6 v hbv
                  cases hk : b.keep ρ5 with
                  | none =>
                    rw [hk] at hs
                    simp only [hs] at hr
                    exact (bad hr.symm).elim
                  | some q =>
                    obtain ⟨d, ρ6⟩ := q
                    rw [hk] at hs
                    simp only [hs] at hr
                    obtain ⟨F6, R8, g8, hdv⟩ := B.keep_ok R5 g6 R6 hbv hk
                    have g58 := g5.trans g8
                    have nD4 : ¬ own c ρ4 σ3 D := fun z => nD3 (g5.ow D z)
                    have hD5 : H5 D = some (.lst us) := g8.keep D _ hD4 nD4
                    have hF6 : F6 D = none := g8.fr D hF4 (by rw [hD4]; simp) nD4
                    obtain ⟨R9, g9⟩ := turn_go R3 o4 g4.reEgo hk3 hw2 hσ g58.reE R8.reE (noat ρ6 fun j h => g8.atb j h)
                    have gall := (g2.trans g23).trans g9
                    refine ⟨us, hD5, by rw [hDen.length]; omega, hlt, F6, wipeE ρ6 ows, acc ++ [d], us ++ [v], ?_, ?_, hun _, upd_same, hF6, DenL.append (DenL.mono (f3.trans (g5.f.trans g8.f)) _ hDen) (.cons hdv .nil), by rw [List.length_append]; simp only [List.length_singleton]; omega, hr⟩
                    · exact R9.poke hF6 fun k s e hh w => held_old RB gall R9 e hh w hD
                    · refine ⟨gall.f, fun a o e n => ?_, gall.fr, gall.ow, gall.lk, fun a e => ?_, gall.live, gall.tell, gall.atb⟩
                      · rw [upd_ne fun z => by subst z; rw [hD] at e; cases e]
                        exact gall.keep a o e n
                      · by_cases z : a = D
                        · subst z; exact absurd hD e
                        · rw [upd_ne z]; exact gall.grow a e
        · have ei : i = items.length := by omega
          refine .inl ⟨jstop (by omega), ?_⟩
          rw [ei, List.drop_length] at hr
          unfold lcLoop at hr
          rw [← hr] at P1
          obtain ⟨R7, g7, o7, l7⟩ := unwipe_ok RL hatt' g2 R2
          obtain ⟨R8, g8, o8⟩ := unlock_ok R gg R1' g7 R7
          refine P1 F2 H2 R8 ⟨g8.f, g8.keep, g8.fr, o8 o7, fun k xs e => (g8.lk k xs e).1, g8.grow, fun k s e hl => ?_, g8.tell, g8.atb⟩ _ ⟨D, us, rfl, hDl, hFD, hDen, hnD⟩
          obtain ⟨s1, q1, q2⟩ := gg.live k s e hl
          obtain ⟨s2, q3, q4⟩ := l7 k (lock1 s1 (hasLoc k bs)) (by rw [locks_v, q1]; rfl) (by
            cases s1 with
            | ow _ => cases hasLoc k bs <;> rfl
            | lk _ => cases hasLoc k bs <;> rfl
            | sh _ => cases hasLoc k bs <;> rfl
            | un => cases q2
            | att => cases q2)
          refine ⟨_, by rw [unlocks_v, q3]; rfl, ?_⟩
          show (unlock1 s2 ρ1.v[k]? (hasLoc k bs)).live = true
          rcases unlock1_cases (s := s2) (t := ρ1.v[k]?) (k := hasLoc k bs) with z | ⟨zs, ys, rfl, _, _, z⟩
          · rw [z]; exact q4
          · rw [z]; rfl
      · exact P1.elim
end
end Ev

namespace Ev
open PySem L2
section
variable {K : PySem.W.Frag} {c : Ctx} {F F1 F2 F3 F' H H1 H2 H3 H' : Hp} {ρ ρ0 ρ1 ρ2 ρ3 ρ' : Env} {σ σ1 σ2 σ3 σ' : St} {v : V} {b : B} {vs : List V} {bs : List B} {ds items : List D} {is ows : List Nat}

/-! ### comprehensions, as values and stored -/
theorem e_lc {X : Cx} {c : Ctx} {x : Expr} {tg : Tg} {f : List D → Option (List D)} {as : Es} {oc : OT} {elt : E} {r : List V → Hp → (It → Hp → Prop) → Prop} (p : IterV X.K c r f)
    (h : PE X x (tLc (tIA (tEvA X.K c as) r) (tEvG X.K c.noE tg) (tEvO X.K c.noE oc) (tEv X.K c.noE elt) ows)) : PEv X c x (.lc ows tg f as oc elt) := PE.wk h fun _ _ _ q => lc_go p q

/-! ### methods that change a list of the frame's own -/
def MutOk (K : PySem.W.Frag) (c : Ctx) (r : V → List V → Hp → VK → Prop) (f : List D → List D → Option (List D × D)) : Prop := ∀ F H a vs xs ws ds ys d Q, Ex F H → H a = some (.lst vs) → F a = none → DenL K c.CL F vs xs → DenL K c.CL F ws ds → f xs ds = some (ys, d) →
  (∀ v us, DenL K c.CL F us ys → Den K c.CL F v d → Q v (upd H a (.lst us))) → r (.ref a) ws H Q
theorem mut_at {as : Es} {f : List D → List D → Option (List D × D)} {i : Nat} {r : V → List V → Hp → VK → Prop} {Q : VK} (p : MutOk K c r f) (h : tEv K c (.mut f i as) σ H Q) :
    ∃ a vs, σ[i]? = some (some (.ref a)) ∧ H a = some (.lst vs) ∧ tEvD K c as σ H fun ws H2 => r (.ref a) ws H2 Q := by
  obtain ⟨F, ρ, R, P⟩ := h
  unfold evE at P
  split at P
  · rename_i xs0 e0
    obtain ⟨a, us0, w, q1, q2, q3⟩ := R.slot e0
    refine ⟨a, us0, w, q1, tEvD_bind R P fun F1 ρ1 H1 ds ws R1 g1 l P1 => ?_⟩
    split at P1
    · rename_i xs e1
      obtain ⟨a', us, w', z1, z2, z3⟩ := R1.slot e1
      rw [w] at w'
      cases w'
      split at P1
      · exact P1.elim
      · rename_i ys d e2
        refine p F1 H1 a us xs ws ds ys d Q R1.ex z1 z2 z3 l e2 fun v us' l' hd => ?_
        obtain ⟨R2, g2⟩ := R1.setow e1 w l'
        exact P1 F1 _ R2 (g1.trans g2) v hd
    · exact P1.elim
  · exact P.elim
theorem mut_go {as : Es} {f : List D → List D → Option (List D × D)} {i : Nat} {r : V → List V → Hp → VK → Prop} {Q : VK} (p : MutOk K c r f) (h : tEv K c (.mut f i as) σ H Q) : tBM K "list" r (tVar i) (tEvD K c as) σ H Q := by
  obtain ⟨a, vs, w, q, t⟩ := mut_at p h
  exact ⟨.ref a, w, .inl ⟨rfl, vs, .inl (.inl q)⟩, t⟩
theorem mut_go0 {f : List D → List D → Option (List D × D)} {i : Nat} {r : V → List V → Hp → VK → Prop} {Q : VK} (p : MutOk K c r f) (h : tEv K c (.mut f i .nil) σ H Q) : tBM0 K "list" r (tVar i) σ H Q := by
  obtain ⟨a, vs, w, q, F, ρ, R, P⟩ := mut_at p h
  exact ⟨.ref a, w, .inl ⟨rfl, vs, .inl (.inl q)⟩, P F H R (GoE.refl ..) [] .nil⟩
theorem e_mut {X : Cx} {c : Ctx} {x : Expr} {as : Es} {f : List D → List D → Option (List D × D)} {i : Nat} {r : V → List V → Hp → VK → Prop} (p : MutOk X.K c r f) (h : PE X x (tBM X.K "list" r (tVar i) (tEvD X.K c as))) : PEv X c x (.mut f i as) := PE.wk h fun _ _ _ q => mut_go p q
theorem e_mut0 {X : Cx} {c : Ctx} {x : Expr} {f : List D → List D → Option (List D × D)} {i : Nat} {r : V → List V → Hp → VK → Prop} (p : MutOk X.K c r f) (h : PE X x (tBM0 X.K "list" r (tVar i))) : PEv X c x (.mut f i .nil) := PE.wk h fun _ _ _ q => mut_go0 p q
/-- x[i] = v -/
theorem s_seti {X : Cx} {c : Ctx} {x : Stmt} {i : Nat} {ix v : E} (h : PS X x (tAsg (tEv X.K c v) (gSub (tVar i) (tEv X.K c ix) rSetL))) : PSv X c x (.seti i ix v) := PS.wk h fun D σ H ⟨F, ρ, R, P⟩ => by
  unfold evS at P
  refine sEv_bind R P fun F1 ρ1 H1 b v R1 g1 hb P1 => ?_
  split at P1
  · exact P1.elim
  · rename_i d ρ2 e1
    obtain ⟨F2, R2, g2, hd⟩ := B.keep_ok R g1 R1 hb e1
    split at P1
    · rename_i xs0 e2
      obtain ⟨a, us0, w, q1, q2, q3⟩ := R2.slot e2
      refine ⟨.ref a, w, F2, ρ2, R2, (P1.bind.rebase g2).imp fun F3 ρ3 H3 k R3 g3 q u hk => ?_⟩
      obtain ⟨g03, P3⟩ := q
      split at P3
      · rename_i z ez
        have hz := hk.view R3 ez
        cases hz
        split at P3
        · rename_i xs e3
          obtain ⟨a', us, w', z1, z2, z3⟩ := R3.slot e3
          rw [w] at w'
          cases w'
          split at P3
          · exact P3.elim
          · rename_i j ej
            refine ⟨a, us, z, j, rfl, rfl, z1, by rw [z3.length]; exact ej, ?_⟩
            obtain ⟨R4, g4⟩ := R3.setow e3 w (DenL.set (Den.mono g3.f _ hd) j z3)
            exact P3 F3 σ _ R4 (g03.trans g4).go
        · exact P3.elim
      · exact P3.elim
    · exact P1.elim

/-! ### a def -/
def outS (ρ : Env) (i : Nat) : Slot → Slot
  | .att => ρ.v.getD i .un
  | s => s
theorem outOf_get (ρ : Env) : ∀ (l : List Slot) (n i : Nat) (s : Slot), l[i]? = some s → (outOf ρ n l)[i]? = some (outS ρ (n + i) s)
  | [], _, _, _, e => by simp at e
  | t :: r, n, 0, s, e => by
    simp at e
    subst e
    cases t <;> rfl
  | t :: r, n, i + 1, s, e => by
    have ih := outOf_get ρ r (n + 1) i s (by simpa using e)
    rw [show n + 1 + i = n + (i + 1) by omega] at ih
    cases t <;> simpa [outOf] using ih
theorem start_rel {N : List Str} {ss : List Slot} {E : XK} {CL : Nat → Addr × List Str} (A : ARel K CL F H vs ss) (hN : ss.length ≤ N.length) : Rel K ⟨CL, vs, E⟩ F (start0 N.length ss) (L2.start N vs) H := by
  have len : (start0 N.length ss).v.length = N.length := by
    show (ss ++ List.replicate _ _).length = _
    rw [List.length_append, List.length_replicate]; omega
  have lenS : (L2.start N vs).length = N.length := by
    unfold L2.start
    rw [List.length_append, List.length_replicate, List.length_map, A.len]; omega
  have gv : ∀ k : Nat, (start0 N.length ss).v[k]? = if k < ss.length then ss[k]? else if k < N.length then some .un else none := fun k => by
    show (ss ++ List.replicate _ _)[k]? = _
    rw [List.getElem?_append]
    split
    · rfl
    · rw [List.getElem?_replicate]
      by_cases h : k < N.length
      · rw [if_pos h, if_pos (by omega)]
      · rw [if_neg h, if_neg (by omega)]
  have gs : ∀ k : Nat, k < ss.length → (L2.start N vs)[k]? = (vs[k]?).map some := fun k hk => by
    unfold L2.start
    rw [List.getElem?_append_left (by rw [List.length_map, A.len]; exact hk), List.getElem?_map]
  have go : ∀ j : Nat, (start0 N.length ss).o[j]? = ss[j]?.map Slot.pass := fun j => by
    show (ss.map _)[j]? = _
    rw [List.getElem?_map]
  have key : ∀ (k : Nat) (s : Slot), (sl (start0 N.length ss))[k]? = some s → (s = .un ∨ s = .att) ∨ (k < ss.length ∧ ss[k]? = some s ∧ (vl ⟨CL, vs, E⟩ (L2.start N vs))[k]? = (vs[k]?).map some) := by
    intro k s e
    by_cases kl : k < N.length
    · rw [sl_v (by rw [len]; exact kl), gv] at e
      by_cases h : k < ss.length
      · rw [if_pos h] at e
        exact .inr ⟨h, e, by rw [vl_v (by rw [lenS]; exact kl)]; exact gs k h⟩
      · rw [if_neg h, if_pos kl] at e
        cases e
        exact .inl (.inl rfl)
    · unfold sl at e
      rw [List.getElem?_append_right (by rw [len]; omega), go] at e
      left
      cases q : ss[k - (start0 N.length ss).v.length]? with
      | none => rw [q] at e; cases e
      | some t =>
        rw [q, Option.map_some] at e
        cases t <;> cases e <;> first | exact .inl rfl | exact .inr rfl
  refine ⟨by rw [len, lenS], by show (ss.map _).length = _; rw [List.length_map]; exact A.len.symm, A.ex, fun k s e => ?_, fun k k' s s' a e e' hh hh' w w' => ?_, fun j e => ?_, fun j xs e => ?_, fun j d a e => ?_⟩
  · rcases key k s e with (rfl | rfl) | ⟨h, e2, w⟩
    · trivial
    · trivial
    · rw [w]
      have := A.ok k s e2
      cases s with
      | sh d => obtain ⟨u, q, r⟩ := this; exact ⟨u, by rw [q]; rfl, r⟩
      | ow xs => obtain ⟨a, us, q, r⟩ := this; exact ⟨a, us, by rw [q]; rfl, r⟩
      | un => exact this.elim
      | att => exact this.elim
      | lk _ => exact this.elim
  · rcases key k s e with (rfl | rfl) | ⟨h, e2, q⟩
    · cases hh
    · cases hh
    · rcases key k' s' e' with (rfl | rfl) | ⟨h', e2', q'⟩
      · cases hh'
      · cases hh'
      · rw [q] at w; rw [q'] at w'
        have w1 : vs[k]? = some (.ref a) := by
          cases z : vs[k]? with
          | none => rw [z] at w; cases w
          | some x => rw [z] at w; simp only [Option.map_some, Option.some.injEq] at w; rw [w]
        have w2 : vs[k']? = some (.ref a) := by
          cases z : vs[k']? with
          | none => rw [z] at w'; cases w'
          | some x => rw [z] at w'; simp only [Option.map_some, Option.some.injEq] at w'; rw [w']
        have ok := A.ok k s e2
        have ok' := A.ok k' s' e2'
        cases s with
        | ow xs =>
          cases s' with
          | ow ys => exact A.apart k k' xs ys a e2 e2' w1 w2
          | lk _ => exact ok'.elim
          | _ => cases hh'
        | lk _ => exact ok.elim
        | _ => cases hh
  · rw [go] at e
    cases q : ss[j]? with
    | none => rw [q] at e; cases e
    | some t =>
      rw [q, Option.map_some] at e
      cases t with
      | ow xs =>
        obtain ⟨a, us, w, _⟩ := A.ok j _ q
        have jl := lt_of_get q
        refine ⟨.ref a, .ow xs, by rw [gs j jl, w]; rfl, w, by rw [gv, if_pos jl]; exact q, rfl⟩
      | _ => cases e
  · rw [go] at e
    cases q : ss[j]? with
    | none => rw [q] at e; cases e
    | some t => rw [q, Option.map_some] at e; cases t <;> cases e
  · rw [go] at e
    cases q : ss[j]? with
    | none => rw [q] at e; cases e
    | some t => rw [q, Option.map_some] at e; cases t <;> cases e
/-- what was passed, at the end -/
theorem end_rel {N : List Str} {ss : List Slot} {E : XK} {CL : Nat → Addr × List Str} (A : ARel K CL F H vs ss) (hN : ss.length ≤ N.length) (R : Rel K ⟨CL, vs, E⟩ F' ρ' σ' H') (g : Go K ⟨CL, vs, E⟩ F (start0 N.length ss) (L2.start N vs) H F' ρ' σ' H') :
    FGo F H vs ss F' H' ∧ ORel K CL F' H' vs ss ρ'.outs := by
  have R0 := start_rel (E := E) A hN
  have go : ∀ j : Nat, (start0 N.length ss).o[j]? = ss[j]?.map Slot.pass := fun j => by
    show (ss.map _)[j]? = _
    rw [List.getElem?_map]
  have gv : ∀ k : Nat, k < ss.length → (start0 N.length ss).v[k]? = ss[k]? := fun k hk => by
    show (ss ++ List.replicate _ _)[k]? = _
    rw [List.getElem?_append_left hk]
  have po : ∀ a, own ⟨CL, vs, E⟩ (start0 N.length ss) (L2.start N vs) a → pown vs ss a := by
    rintro a ⟨k, xs, e, w⟩
    have hl : (start0 N.length ss).v.length = N.length := by
      show (ss ++ List.replicate _ _).length = _
      rw [List.length_append, List.length_replicate]; omega
    by_cases kl : k < N.length
    · rw [sl_v (by rw [hl]; exact kl)] at e
      by_cases h : k < ss.length
      · rw [gv k h] at e
        refine ⟨k, xs, e, ?_⟩
        have hs : (L2.start N vs)[k]? = (vs[k]?).map some := by
          unfold L2.start
          rw [List.getElem?_append_left (by rw [List.length_map, A.len]; exact h), List.getElem?_map]
        rw [vl_v (by rw [← R0.len, hl]; exact kl), hs] at w
        cases z : vs[k]? with
        | none => rw [z] at w; cases w
        | some x => rw [z] at w; simp only [Option.map_some, Option.some.injEq] at w; rw [w]
      · have : (start0 N.length ss).v[k]? = some .un := by
          show (ss ++ List.replicate _ _)[k]? = _
          rw [List.getElem?_append_right (by omega), List.getElem?_replicate, if_pos (by omega)]
        rw [this] at e
        cases e
    · unfold sl at e
      rw [List.getElem?_append_right (by rw [hl]; omega), go] at e
      cases q : ss[k - (start0 N.length ss).v.length]? with
      | none => rw [q] at e; cases e
      | some t => rw [q, Option.map_some] at e; cases t <;> cases e
  refine ⟨⟨g.f, R.ex, fun a o e n => g.keep a o e fun z => n (po a z), fun a e1 e2 n => g.fr a e1 e2 fun z => n (po a z), g.grow⟩, fun i xs e => ?_⟩
  have il := lt_of_get e
  obtain ⟨a, us, w, _⟩ := A.ok i _ e
  obtain ⟨s', h1, h2⟩ := g.tell i .att (by rw [go, e]; rfl) rfl
  have ho : ρ'.outs[i]? = some (outS ρ' i s') := by
    have := outOf_get ρ' ρ'.o 0 i s' h1
    rwa [Nat.zero_add] at this
  have ok := R.slotO h1
  rw [show (⟨CL, vs, E⟩ : Ctx).Ps[i]? = some (.ref a) from w] at ok
  cases s' with
  | ow ys =>
    obtain ⟨a', us', z, q1, q2, q3⟩ := ok
    cases z
    exact .inl ⟨ys, a, us', ho, w, q1, q2, q3⟩
  | sh d =>
    obtain ⟨v, z, q⟩ := ok
    cases z
    exact .inr ⟨d, a, ho, w, q, R.fz i d a h1 w⟩
  | un => cases h2
  | lk _ => cases h2
  | att =>
    obtain ⟨v, t, g1, g2, g3, g4⟩ := R.att i h1
    rw [show (⟨CL, vs, E⟩ : Ctx).Ps[i]? = some (.ref a) from w] at g2
    cases g2
    have okv := R.slot g3
    rw [g1] at okv
    have hg : ρ'.v.getD i .un = t := by rw [List.getD_eq_getElem?_getD, g3]; rfl
    cases t with
    | ow ys =>
      obtain ⟨a', us', z, q1, q2, q3⟩ := okv
      cases z
      exact .inl ⟨ys, a, us', by rw [ho]; exact congrArg some hg, w, q1, q2, q3⟩
    | lk ys =>
      obtain ⟨e0, _⟩ := g.lk i ys g3
      rw [gv i il, e] at e0
      cases e0
    | un => cases g4
    | att => cases g4
    | sh _ => cases g4
/-- what is handed back -/
theorem ret_rel {N : List Str} {ss : List Slot} {E : XK} {CL : Nat → Addr × List Str} (A : ARel K CL F H vs ss) (hN : ss.length ≤ N.length) (R : Rel K ⟨CL, vs, E⟩ F' ρ' σ' H') (g : Go K ⟨CL, vs, E⟩ F (start0 N.length ss) (L2.start N vs) H F' ρ' σ' H')
    (hb : BDen K ⟨CL, vs, E⟩ σ' H F' ρ' H' v b) {r : RB} {ρ2 : Env} (e : retB ρ' b = some (r, ρ2)) :
    ∃ F2, Rel K ⟨CL, vs, E⟩ F2 ρ2 σ' H' ∧ Go K ⟨CL, vs, E⟩ F (start0 N.length ss) (L2.start N vs) H F2 ρ2 σ' H' ∧ RDen K (c0 CL) H F2 H' v r := by
  cases b with
  | d x => cases e; exact ⟨F', R, g, hb⟩
  | nw xs => cases e; exact ⟨F', R, g, hb⟩
  | loc i =>
    obtain ⟨s, h1, h2, h3⟩ := hb
    have ok := R.slot h1
    rw [h3] at ok
    unfold retB at e
    simp only [h1] at e
    cases s with
    | un => cases e
    | att => cases e
    | lk _ => cases e
    | sh x =>
      cases e
      obtain ⟨u, z, q⟩ := ok
      cases z
      exact ⟨F', R, g, q⟩
    | ow xs =>
      obtain ⟨a, us, z, q1, q2, q3⟩ := ok
      cases z
      have e' : (match ρ'.o[i]? with | some .att => some (RB.d (.lst xs), ρ'.frz i xs) | _ => some (RB.nw xs, ρ')) = some (r, ρ2) := e
      split at e'
      · -- a parameter's
        cases e'
        obtain ⟨a', us', F2, w, rfl, R2, g2, q⟩ := R.frz h1
        rw [h3] at w
        cases w
        exact ⟨_, R2, g.trans g2.go, q⟩
      · rename_i hna
        cases e'
        refine ⟨F', R, g, a, us, rfl, q1, q2, q3, ?_⟩
        have il := lt_of_get h1
        have so : (sl ρ')[i]? = some (.ow xs) := by rw [sl_v il]; exact h1
        have wo : (vl ⟨CL, vs, E⟩ σ')[i]? = some (some (.ref a)) := by rw [vl_v (by rw [← R.len]; exact il)]; exact h3
        have aux : ∀ (j : Nat) (ys : List D), ss[j]? = some (Slot.ow ys) → vs[j]? = some (V.ref a) → False := by
          intro j ys ej wj
          have go : (start0 N.length ss).o[j]? = some .att := by
            show (ss.map _)[j]? = _
            rw [List.getElem?_map, ej]
            rfl
          obtain ⟨s', p1, p2⟩ := g.tell j .att go rfl
          have okj := R.slotO p1
          rw [show (⟨CL, vs, E⟩ : Ctx).Ps[j]? = some (.ref a) from wj] at okj
          cases s' with
          | ow zs =>
            have := R.apart i (ρ'.v.length + j) _ _ a so (by rw [sl_o]; exact p1) rfl rfl wo (by rw [vl_o R, show (⟨CL, vs, E⟩ : Ctx).Ps[j]? = some (.ref a) from wj]; rfl)
            omega
          | sh d => exact R.fz j d a p1 wj q2
          | att =>
            obtain ⟨v, t, g1, g2, g3, g4⟩ := R.att j p1
            rw [show (⟨CL, vs, E⟩ : Ctx).Ps[j]? = some (.ref a) from wj] at g2
            cases g2
            have jl := lt_of_get g3
            have := R.apart i j _ t a so (by rw [sl_v jl]; exact g3) rfl g4 wo (by rw [vl_v (by rw [← R.len]; exact jl)]; exact g1)
            subst this
            exact hna p1
          | un => cases p2
          | lk _ => cases p2
        rcases g.ow a ⟨i, xs, so, wo⟩ with ⟨k, ys, z1, z2⟩ | h
        · exfalso
          -- a list of the start's is one that was passed
          have R0 := start_rel (E := E) A hN
          have hl : (start0 N.length ss).v.length = N.length := by
            show (ss ++ List.replicate _ _).length = _
            rw [List.length_append, List.length_replicate]; omega
          by_cases kl : k < N.length
          · rw [sl_v (by rw [hl]; exact kl)] at z1
            by_cases h : k < ss.length
            · have z1' : ss[k]? = some (.ow ys) := by
                have : (start0 N.length ss).v[k]? = ss[k]? := by
                  show (ss ++ List.replicate _ _)[k]? = _
                  rw [List.getElem?_append_left h]
                rw [← this]; exact z1
              have hs : (L2.start N vs)[k]? = (vs[k]?).map some := by
                unfold L2.start
                rw [List.getElem?_append_left (by rw [List.length_map, A.len]; exact h), List.getElem?_map]
              rw [vl_v (by rw [← R0.len, hl]; exact kl), hs] at z2
              refine aux k ys z1' ?_
              cases z : vs[k]? with
              | none => rw [z] at z2; cases z2
              | some x => rw [z] at z2; simp only [Option.map_some, Option.some.injEq] at z2; rw [z2]
            · have : (start0 N.length ss).v[k]? = some .un := by
                show (ss ++ List.replicate _ _)[k]? = _
                rw [List.getElem?_append_right (by omega), List.getElem?_replicate, if_pos (by omega)]
              rw [this] at z1
              cases z1
          · unfold sl at z1
            rw [List.getElem?_append_right (by rw [hl]; omega)] at z1
            have : (start0 N.length ss).o[k - (start0 N.length ss).v.length]? = ss[k - (start0 N.length ss).v.length]?.map Slot.pass := by
              show (ss.map _)[_]? = _
              rw [List.getElem?_map]
            rw [this] at z1
            cases q : ss[k - (start0 N.length ss).v.length]? with
            | none => rw [q] at z1; cases z1
            | some t => rw [q, Option.map_some] at z1; cases t <;> cases z1
        · exact h
/-- a body keeps its def's promise -/
theorem body_ok {N : List Str} {CL : Nat → Addr × List Str} {E : XK} {Q : VK} {ir : Ss} {n : Nat} (hN : n ≤ N.length) (hsp : spF K CL (runFn N.length ir) n vs H Q E) :
    tEvSs K ⟨CL, vs, E⟩ ir { nx := fun _ H' => Q .non H', rt := Q } (L2.start N vs) H := by
  obtain ⟨hl, F, ss, A, hg⟩ := hsp
  have hs : ss.length ≤ N.length := by rw [← A.len, hl]; exact hN
  refine ⟨F, start0 N.length ss, start_rel A hs, ?_⟩
  unfold runFn at hg
  match hr : evSs ir (start0 N.length ss) with
  | .no => rw [hr] at hg; exact hg
  | .ex x ρ' =>
    rw [hr] at hg
    intro F' σ' H' C d R g q
    obtain ⟨a1, a2⟩ := end_rel A hs R g
    exact hg F' H' C d a1 a2 q
  | .ok .nx ρ' =>
    rw [hr] at hg
    intro F' σ' H' R g
    obtain ⟨a1, a2⟩ := end_rel A hs R g
    exact hg F' .non H' a1 a2 .non
  | .ok .brk ρ' => rw [hr] at hg; exact hg.elim
  | .ok (.rt b) ρ' =>
    rw [hr] at hg
    intro F' σ' H' v R g hb
    simp only at hg
    cases e : retB ρ' b with
    | none => rw [e] at hg; exact hg.elim
    | some q =>
      obtain ⟨r, ρ2⟩ := q
      rw [e] at hg
      obtain ⟨F2, R2, g2, rd⟩ := ret_rel A hs R g hb e
      obtain ⟨a1, a2⟩ := end_rel A hs R2 g2
      exact hg F2 v H' a1 a2 rd
theorem spF_len {CL : Nat → Addr × List Str} {E : XK} {Q : VK} {g : Fn} {n : Nat} (h : spF K CL g n vs H Q E) : vs.length = n := h.1
/-- a def that lets no exception out -/
theorem fn_ok {P : Program} {w : World} {mg : Str → Option Value} {base : Heap} {x qual : Str} {st : Stmt} {f : Addr} {fd : FuncData} {N ps : List Str} {k n : Nat} {CL : Nat → Addr × List Str} {ir : Ss} (Fu : Fun K x qual st f fd) (S : FnScope N ps (defScope st)) (hn : ps.length = n) (hN : n ≤ N.length)
    (hb : ∀ (cdv : Value) (A : Around) (outer : List PySem.Env) (s : Shared) (H : Hp) (E : XK) (c : Ctx), c.CL = CL → (∀ C d H, c.E C d H → False) → Room k (A.deeper (PyProof.Rows.envOfC qual (defScope st) s.heap.objs.size f cdv)) →
      PSsv (cxOf CX0 P w K mg base N qual (defScope st) f cdv A outer s H E).nox c (defBody st) ir) :
    FnOk P w K mg base CX0 (k + 1) f fd ps (spF K CL (runFn0 N.length ir) n) := by
  refine Fu.ok S (fun vs H Q E h => by rw [hn]; exact h.1) fun cdv A outer s H vs Q E hr h => ?_
  refine ⟨_, hb cdv A outer s H E ⟨CL, vs, fun _ _ _ => False⟩ rfl (fun _ _ _ z => z) hr, body_ok hN ?_⟩
  obtain ⟨h1, F, ss, A', hg⟩ := h
  refine ⟨h1, F, ss, A', ?_⟩
  unfold runFn0 at hg
  cases e : runFn N.length ir ss with
  | no => rw [e] at hg; exact hg
  | ok r o => rw [e] at hg; exact hg
  | ex x o => rw [e] at hg; exact hg.elim
end
end Ev

namespace Ev
open PySem L2
abbrev two (r : R2) : List V → Hp → VK → Prop := fun vs H Q => ∃ x y, vs = [x, y] ∧ r x y H Q
abbrev one (r : V → Hp → VK → Prop) : List V → Hp → VK → Prop := fun vs H Q => ∃ x, vs = [x] ∧ r x H Q
section
variable {K : PySem.W.Frag} {c : Ctx} {F F1 F2 F3 F' H H1 H2 H3 H' : Hp} {v w : V} {vs : List V} {d e : D} {ds : List D} {Q : VK} {X : Cx}

/-! ### ends of operations -/
theorem Fin.same {x : D} (h : Fin K c F H (.d x) Q) (x0 : Ex F H) (hv : Den K c.CL F v x) : Q v H := h v F H (Ex.refl _) (Ex.refl _) x0 (fun _ e _ => e) hv
theorem Fin.newL {xs : List D} (h : Fin K c F H (.nw xs) Q) (x0 : Ex F H) {p : Addr} (hp : H p = none) (l : DenL K c.CL F vs xs) : Q (.ref p) (upd H p (.lst vs)) := by
  refine h _ F _ (Ex.refl _) (Ex.new hp) (x0.trans (Ex.new hp)) (fun _ e _ => e) ⟨p, vs, rfl, upd_same, ?_, l, hp⟩
  cases q : F p with
  | none => rfl
  | some o => rw [x0 p o q] at hp; cases hp
theorem Fin.newT {xs : List D} (h : Fin K c F H (.d (.tup xs)) Q) (x0 : Ex F H) {p : Addr} (hp : H p = none) (l : DenL K c.CL F vs xs) : Q (.ref p) (upd H p (.tup vs)) := by
  have hF : F p = none := by
    cases q : F p with
    | none => rfl
    | some o => rw [x0 p o q] at hp; cases hp
  exact h _ (upd F p (.tup vs)) _ (Ex.new hF) (Ex.new hp) (Ex.both x0) (fun a e1 e2 => by rw [upd_ne (fun z => by subst z; exact e2 hp)]; exact e1) (.tup (.inl (.inl upd_same)) (DenL.mono (Ex.new hF) _ l))

/-! ### ints -/
def f2i (h : Int → Int → D) : List D → Option RB
  | [.int i, .int j] => some (.d (h i j))
  | _ => none
def f2ic (C : Int → Int → Bool) (h : Int → Int → D) : List D → Option RB
  | [.int i, .int j] => if C i j then some (.d (h i j)) else none
  | _ => none
theorem f2i_inv {h : Int → Int → D} {res : RB} (e : f2i h ds = some res) : ∃ i j, ds = [.int i, .int j] ∧ res = .d (h i j) := by
  unfold f2i at e
  split at e
  · cases e; exact ⟨_, _, rfl, rfl⟩
  · cases e
theorem f2ic_inv {C : Int → Int → Bool} {h : Int → Int → D} {res : RB} (e : f2ic C h ds = some res) : ∃ i j, ds = [.int i, .int j] ∧ C i j = true ∧ res = .d (h i j) := by
  unfold f2ic at e
  split at e
  · split at e
    · cases e; exact ⟨_, _, rfl, ‹_›, rfl⟩
    · cases e
  · cases e
theorem ints2 {i j : Int} (h : Views K c F H vs [.int i, .int j]) : vs = [.int i, .int j] := by
  cases h with
  | cons h1 t => cases t with
    | cons h2 t => cases t; cases h1; cases h2; rfl
theorem p_i0 {g : Int → Int → V} {h : Int → Int → D} (hd : ∀ F i j, Den K c.CL F (g i j) (h i j)) : Prim K c (two (rI0 g)) (f2i h) := fun F H vs ds res Q x V e f => by
  obtain ⟨i, j, rfl, rfl⟩ := f2i_inv e
  have := ints2 V
  subst this
  exact ⟨_, _, rfl, i, j, rfl, rfl, f.same x (hd F i j)⟩
theorem p_ic {C : Int → Int → Prop} {C' : Int → Int → Bool} {g : Int → Int → V} {h : Int → Int → D} (hC : ∀ i j, C' i j = true → C i j) (hd : ∀ F i j, Den K c.CL F (g i j) (h i j)) : Prim K c (two (rI C g)) (f2ic C' h) := fun F H vs ds res Q x V e f => by
  obtain ⟨i, j, rfl, hc, rfl⟩ := f2ic_inv e
  have := ints2 V
  subst this
  exact ⟨_, _, rfl, i, j, rfl, rfl, hC i j hc, f.same x (hd F i j)⟩
abbrev fSub := f2i fun i j => .int (i - j)
abbrev fLt := f2i fun i j => .bl (decide (i < j))
abbrev fLe := f2i fun i j => .bl (decide (i ≤ j))
abbrev fGt := f2i fun i j => .bl (decide (j < i))
abbrev fGe := f2i fun i j => .bl (decide (j ≤ i))
/-- one factor is below 2 ^ 64 -/
def mulOk (i j : Int) : Bool := (decide (-18446744073709551616 < i) && decide (i < 18446744073709551616)) || (decide (-18446744073709551616 < j) && decide (j < 18446744073709551616))
def divOk (_ j : Int) : Bool := decide (0 < j) && decide (j < 1073741824)
def modOk (_ j : Int) : Bool := decide (0 < j)
def powOk (i j : Int) : Bool := decide (0 ≤ j) && decide (j ≤ 1000000) && decide (i.natAbs < 18446744073709551616)
abbrev fDiv := f2ic divOk fun i j => .int (i / j)
abbrev fMod := f2ic modOk fun i j => .int (i % j)
abbrev fPow := f2ic powOk fun i j => .int (i ^ j.toNat)
theorem p_sub : Prim K c (two (rI0 fun i j => .int (i - j))) fSub := p_i0 fun _ _ _ => .int _
theorem p_lt : Prim K c (two (rI0 fun i j => .bl (decide (i < j)))) fLt := p_i0 fun _ _ _ => .bl _
theorem p_le : Prim K c (two (rI0 fun i j => .bl (decide (i ≤ j)))) fLe := p_i0 fun _ _ _ => .bl _
theorem p_gt : Prim K c (two (rI0 fun i j => .bl (decide (j < i)))) fGt := p_i0 fun _ _ _ => .bl _
theorem p_ge : Prim K c (two (rI0 fun i j => .bl (decide (j ≤ i)))) fGe := p_i0 fun _ _ _ => .bl _
theorem p_div : Prim K c (two (rI CDiv fun i j => .int (i / j))) fDiv := p_ic (fun i j h => by
  unfold divOk at h
  simp only [Bool.and_eq_true, decide_eq_true_eq] at h
  exact h) fun _ _ _ => .int _
theorem p_mod : Prim K c (two (rI (fun _ j => 0 < j) fun i j => .int (i % j))) fMod := p_ic (fun i j h => by
  unfold modOk at h
  simpa using h) fun _ _ _ => .int _
theorem p_pow : Prim K c (two (rI CPow fun i j => .int (i ^ j.toNat))) fPow := p_ic (fun i j h => by
  unfold powOk at h
  simp only [Bool.and_eq_true, decide_eq_true_eq] at h
  exact ⟨h.1.1, h.1.2, h.2⟩) fun _ _ _ => .int _
def fNeg : List D → Option RB
  | [.int i] => some (.d (.int (-i)))
  | _ => none
theorem p_neg : Prim K c (one (rU fun i => .int (-i))) fNeg := fun F H vs ds res Q x V e f => by
  unfold fNeg at e
  split at e
  · cases e
    cases V with
    | cons h t => cases t; cases h; exact ⟨_, rfl, _, rfl, f.same x (.int _)⟩
  · cases e

/-! ### + -/
def rCatL : R2 := rCat
def fAdd : List D → Option RB
  | [.int i, .int j] => some (.d (.int (i + j)))
  | [.lst xs, .lst ys] => if xs.length + ys.length ≤ sizeLine then some (.nw (xs ++ ys)) else none
  | [.tup xs, .tup ys] => if xs.length + ys.length ≤ sizeLine then some (.d (.tup (xs ++ ys))) else none
  | [.str x, .str y] => if x.length + y.length ≤ sizeLine then some (.d (.str (x ++ y))) else none
  | _ => none
abbrev rAdd (K : PySem.W.Frag) : R2 := fun x y H Q => rI0 (fun i j => .int (i + j)) x y H Q ∨ rCat x y H Q ∨ rCatA K x y H Q ∨ ∃ i j, x = .str i ∧ y = .str j ∧ i.length + j.length ≤ sizeLine ∧ Q (.str (i ++ j)) H
theorem o_add : OpR X (binaryOp .Add) (rAdd X.K) := OpR.or op_add (OpR.or op_cat (OpR.or op_catA op_add_str))
theorem p_add : Prim K c (two (rAdd K)) fAdd := fun F H vs ds res Q x V e f => by
  unfold fAdd at e
  split at e
  · cases e
    have := ints2 V
    subst this
    exact ⟨_, _, rfl, .inl ⟨_, _, rfl, rfl, f.same x (.int _)⟩⟩
  · split at e
    · rename_i hl
      cases e
      cases V with
      | cons h1 t => cases t with
        | cons h2 t =>
          cases t
          obtain ⟨a, us, rfl, q1, l1⟩ := h1
          obtain ⟨b, ws, rfl, q2, l2⟩ := h2
          exact ⟨_, _, rfl, .inr (.inl ⟨a, b, us, ws, rfl, rfl, q1, q2, by rw [l1.length, l2.length]; exact hl, fun p hp => f.newL x hp (l1.append l2)⟩)⟩
    · cases e
  · split at e
    · rename_i xs ys hl
      cases e
      cases V with
      | cons h1 t => cases t with
        | cons h2 t =>
          cases t
          cases h1 with
          | @tup a us _ q1 l1 => cases h2 with
            | @tup b ws _ q2 l2 =>
              refine ⟨_, _, rfl, .inr (.inr (.inl ⟨a, b, us, ws, rfl, rfl, x.t q1, x.t q2, by rw [l1.length, l2.length]; exact hl, fun hu => ?_, fun hu hw => ?_, fun hu hw p hp => f.newT x hp (l1.append l2)⟩))⟩
              · subst hu
                cases l1
                exact f.same x (.tup q2 l2)
              · subst hw
                cases l2
                exact f.same x (by rw [List.append_nil]; exact .tup q1 l1)
    · cases e
  · split at e
    · rename_i hl
      cases e
      cases V with
      | cons h1 t => cases t with
        | cons h2 t => cases t; cases h1; cases h2; exact ⟨_, _, rfl, .inr (.inr (.inr ⟨_, _, rfl, rfl, hl, f.same x (.str _)⟩))⟩
    · cases e
  · cases e

/-! ### * -/
def repL : Nat → List D → List D
  | 0, _ => []
  | n + 1, xs => xs ++ repL n xs
theorem repL_eq (n : Nat) (xs : List D) : repL n xs = (List.replicate n xs).flatten := by
  induction n with
  | zero => rfl
  | succ n ih => rw [repL, ih, List.replicate_succ, List.flatten_cons]
theorem DenL.rep (l : DenL K c.CL F vs ds) : ∀ n : Nat, DenL K c.CL F (List.replicate n vs).flatten (List.replicate n ds).flatten
  | 0 => .nil
  | n + 1 => by
    rw [List.replicate_succ, List.replicate_succ, List.flatten_cons, List.flatten_cons]
    exact l.append (DenL.rep l n)
def fMul : List D → Option RB
  | [.int i, .int j] => if mulOk i j then some (.d (.int (i * j))) else none
  | [.lst xs, .int k] => if k ≤ 1000000 ∧ -1000000 ≤ k ∧ xs.length * k.toNat ≤ sizeLine then some (.nw (repL k.toNat xs)) else none
  | [.tup xs, .int k] => if xs ≠ [] ∧ 2 ≤ k ∧ k ≤ 1000 ∧ xs.length ≤ 1000 then some (.d (.tup (repL k.toNat xs))) else if k = 1 then some (.d (.tup xs)) else if xs ≠ [] ∧ -1000000 ≤ k ∧ k ≤ 0 then some (.d (.tup [])) else none
  | _ => none
end
end Ev

set_option maxHeartbeats 4000000
namespace Ev
open PySem PySem.Spec PyProof.Rows L2
theorem tuple_mul1 (l : Addr) (items : Array Value) (n : Nat) (dd : Option Addr) (sl : Array (Option Value)) (x : Int) (u : Tok) (c0 : (decide (x < -(2 ^ 63)) || decide (x ≥ 2 ^ 63)) = false) (c1 : (items.isEmpty || x == 1) = true) :
    Meets (Builtin.«tuple.__mul__» ⟨[.ref l, .int x u], []⟩) (fun _ R s => s.heap.get? l = some { cls := .type "tuple", dict := dd, data := .seq items n, slots := sl } ∧
      R (.ok (.ret (Value.ref l))) s) :=
  .of_wp fun prog w A R s h => by
    obtain ⟨hp, g, d, tk, os⟩ := s
    obtain ⟨hl, h⟩ := h
    have f1 := AutoSeq1.idx_int
    wp_walk using wpAny_loadPart' hl
    repeat (first
      | (refine wpAny_ite_false (decide_eq_false (by rw [c0]; exact Bool.false_ne_true)) ?_; wp_walk using wpAny_loadPart' hl)
      | (refine wpAny_ite_true (decide_eq_true c1) ?_; wp_walk using wpAny_loadPart' hl))
    exact ⟨_, rfl, h⟩
def rRepT1 (K : PySem.W.Frag) : R2 := fun x y H Q => ∃ l xs, x = .ref l ∧ y = .int 1 ∧ SqT K H l xs ∧ Q (.ref l) H
theorem op_repT1 {X : Cx} : OpR X (binaryOp .Mult) (rRepT1 X.K) := by
  intro pins s σ H x y v u Q I rx ry h
  obtain ⟨l, xs, rfl, rfl, hT, q⟩ := h
  cases rx
  obtain ⟨t, rfl⟩ := ry
  obtain ⟨its, r, ⟨⟨cls, dd, data, sl⟩, ho, hc, n, hd⟩, hs⟩ := I.tuple hT
  simp only at hc hd
  subst hc hd
  refine wpAny_binaryOp_repeat_ref (T := "tuple") (U := "int") (by decide) ⟨_, ho, rfl⟩ (fun s' => typeIs_int s' 1 t) noFill_tuple_mul F.fills_int_mul F.slot_int_rmul repeat_tuple F.slot_int_index.lookup
    (call_meets F.slot_int_rmul (typeIs_int s 1 t) F.entry_int_rmul (F.args_int_rmul_2 _ _) (int_rmul_tuple 1 t l its.toArray n dd sl)
      ⟨ho, rfl, ⟨_, ho, rfl⟩, call_meets F.slot_tuple_mul ⟨_, ho, rfl⟩ F.entry_tuple_mul (F.args_tuple_mul_2 _ _) (tuple_mul1 l its.toArray n dd sl 1 t (by decide) (by simp)) ⟨ho, ?_⟩⟩)
  exact ⟨.ref l, H, I, rfl, q⟩
end Ev

set_option maxHeartbeats 4000000
namespace Ev
open PySem PySem.Spec PyProof.Rows L2
/-! ### t * k, k at most 0: a new empty tuple -/
theorem tuple_mul0 (l : Addr) (its : Array Value) (n : Nat) (dd : Option Addr) (sl : Array (Option Value)) (x : Int) (u : Tok) (e0 : (decide (x < -(2 ^ 63)) || decide (x ≥ 2 ^ 63)) = false) (e1 : (its.isEmpty || x == 1) = false) (e2 : (decide (x ≤ 0) || its.isEmpty) = true) :
    Meets (Builtin.«tuple.__mul__» ⟨[.ref l, .int x u], []⟩) (fun _ R s => s.heap.get? l = some { cls := .type "tuple", dict := dd, data := .seq its n, slots := sl } ∧
      R (.ok (.ret (Value.ref s.heap.objs.size))) { s with heap := s.heap.push { cls := Value.type "tuple", data := Data.seq #[] }, toks := s.toks }) :=
  .of_wp fun prog w A R s h => by
    obtain ⟨hp, g, d, tk, os⟩ := s
    obtain ⟨hl, h⟩ := h
    have f1 := AutoSeq1.idx_int
    wp_walk using wpAny_loadPart' hl
    repeat (first
      | (refine wpAny_ite_false (decide_eq_false (by rw [e0]; exact Bool.false_ne_true)) ?_; wp_walk using wpAny_loadPart' hl)
      | (refine wpAny_ite_false (decide_eq_false (by rw [e1]; exact Bool.false_ne_true)) ?_; wp_walk using wpAny_loadPart' hl)
      | (refine wpAny_ite_true (decide_eq_true e2) ?_; wp_walk using wpAny_loadPart' hl))
    exact ⟨_, rfl, h⟩
def rRepT0 (K : PySem.W.Frag) : R2 := fun x y H Q => ∃ l k xs, x = .ref l ∧ y = .int k ∧ SqT K H l xs ∧ xs ≠ [] ∧ -1000000 ≤ k ∧ k ≤ 0 ∧ ∀ p, H p = none → Q (.ref p) (upd H p (.tup []))
theorem op_repT0 {X : Cx} : OpR X (binaryOp .Mult) (rRepT0 X.K) := by
  intro pins s σ H x y v u Q I rx ry h
  obtain ⟨l, k, xs, rfl, rfl, hT, hne, h1, h2, q⟩ := h
  cases rx
  obtain ⟨t, rfl⟩ := ry
  obtain ⟨its, r, ⟨⟨cls, dd, data, sl⟩, ho, hc, n, hd⟩, hs⟩ := I.tuple hT
  simp only at hc hd
  subst hc hd
  have hi : its.toArray.isEmpty = false := by
    cases r with
    | nil => exact absurd rfl hne
    | cons _ _ => rfl
  refine wpAny_binaryOp_repeat_ref (T := "tuple") (U := "int") (by decide) ⟨_, ho, rfl⟩ (fun s' => typeIs_int s' k t) noFill_tuple_mul F.fills_int_mul F.slot_int_rmul repeat_tuple F.slot_int_index.lookup
    (call_meets F.slot_int_rmul (typeIs_int s k t) F.entry_int_rmul (F.args_int_rmul_2 _ _) (int_rmul_tuple k t l its.toArray n dd sl)
      ⟨ho, rfl, ⟨_, ho, rfl⟩, call_meets F.slot_tuple_mul ⟨_, ho, rfl⟩ F.entry_tuple_mul (F.args_tuple_mul_2 _ _) (tuple_mul0 l its.toArray n dd sl k t (by simp; omega) (by rw [hi]; simp; omega) (by simp [h2])) ⟨ho, ?_⟩⟩)
  exact ⟨.ref s.heap.objs.size, _, I.laid (t' := s.toks) (o := .tup []) (fun b ob q => Heap.get?_push_of_some _ q) (Nat.le_refl _) ⟨by rw [sizeLine_eq]; simp, [], .nil, IsTup.new _ _⟩, rfl, q _ (I.hok.fresh (Nat.le_refl _))⟩
end Ev

namespace Ev
open PySem L2
section
variable {K : PySem.W.Frag} {c : Ctx} {F F1 F2 F3 F' H H1 H2 H3 H' : Hp} {v w : V} {vs : List V} {d e : D} {ds : List D} {Q : VK} {X : Cx} {σ : St}

abbrev rMul (K : PySem.W.Frag) : R2 := fun x y H Q => rI CMul (fun i j => .int (i * j)) x y H Q ∨ rRep x y H Q ∨ rRepT K x y H Q ∨ rRepT1 K x y H Q ∨ rRepT0 K x y H Q
theorem o_mul : OpR X (binaryOp .Mult) (rMul X.K) := OpR.or op_mul (OpR.or op_rep (OpR.or op_repT (OpR.or op_repT1 op_repT0)))
theorem p_mul : Prim K c (two (rMul K)) fMul := fun F H vs ds res Q x V e f => by
  unfold fMul at e
  split at e
  · split at e
    · rename_i hc
      cases e
      have := ints2 V
      subst this
      refine ⟨_, _, rfl, .inl ⟨_, _, rfl, rfl, ?_, f.same x (.int _)⟩⟩
      unfold mulOk at hc
      simp only [Bool.or_eq_true, Bool.and_eq_true, decide_eq_true_eq] at hc
      exact hc
    · cases e
  · split at e
    · rename_i xs k hl
      cases e
      cases V with
      | cons h1 t => cases t with
        | cons h2 t =>
          cases t
          cases h2
          obtain ⟨a, us, rfl, q1, l1⟩ := h1
          refine ⟨_, _, rfl, .inr (.inl ⟨a, k, us, rfl, rfl, q1, by omega, by omega, by rw [l1.length]; exact hl.2.2, fun p hp => f.newL x hp ?_⟩)⟩
          rw [repL_eq]
          exact l1.rep _
    · cases e
  · split at e
    · rename_i xs k hl
      cases e
      cases V with
      | cons h1 t => cases t with
        | cons h2 t =>
          cases t
          cases h2
          cases h1 with
          | @tup a us _ q1 l1 =>
            refine ⟨_, _, rfl, .inr (.inr (.inl ⟨a, k, us, rfl, rfl, x.t q1, fun z => hl.1 ?_, hl.2.1, hl.2.2.1, by rw [l1.length]; exact hl.2.2.2, fun p hp => f.newT x hp ?_⟩))⟩
            · subst z; cases l1; rfl
            · rw [repL_eq]
              exact l1.rep _
    · split at e
      · rename_i hk
        subst hk
        cases e
        cases V with
        | cons h1 t => cases t with
          | cons h2 t =>
            cases t
            cases h2
            cases h1 with
            | @tup a us _ q1 l1 => exact ⟨_, _, rfl, .inr (.inr (.inr (.inl ⟨a, us, rfl, rfl, x.t q1, f.same x (.tup q1 l1)⟩)))⟩
      · split at e
        · rename_i hk
          cases e
          cases V with
          | cons h1 t => cases t with
            | cons h2 t =>
              cases t
              cases h2
              cases h1 with
              | @tup a us _ q1 l1 => exact ⟨_, _, rfl, .inr (.inr (.inr (.inr ⟨a, _, us, rfl, rfl, x.t q1, fun z => hk.1 (by subst z; cases l1; rfl), hk.2.1, hk.2.2, fun p hp => f.newT x hp .nil⟩)))⟩
        · cases e
  · cases e

/-! ### == -/
mutual
def D.py : D → Option PyData
  | .non => some .none
  | .bl b => some (.bool b)
  | .int i => some (.int i)
  | .str x => some (.str x)
  | .tup xs => match D.pys xs with
    | some ps => some (.tuple ps)
    | none => none
  | .lst xs => match D.pys xs with
    | some ps => some (.list ps)
    | none => none
  | .ro xs => match D.pys xs with
    | some ps => some (.list ps)
    | none => none
  | .obj _ _ => none
  | .dk _ _ => none
  | .ty _ => none
  | .cls _ => none
def D.pys : List D → Option (List PyData)
  | [] => some []
  | d :: ds => match D.py d with
    | none => none
    | some p => match D.pys ds with
      | none => none
      | some ps => some (p :: ps)
end
mutual
theorem den_dp : ∀ (d : D) {p : PyData} {v : V}, d.py = some p → Den K c.CL F v d → Dp K F v p
  | .non, _, _, e, h => by cases e; cases h; exact .non
  | .bl b, _, _, e, h => by cases e; cases h; exact .bl b
  | .int b, _, _, e, h => by cases e; cases h; exact .int b
  | .str b, _, _, e, h => by cases e; cases h; exact .str b
  | .tup xs, p, _, e, .tup h l => by
    unfold D.py at e
    split at e
    · rename_i ps q
      cases e
      exact .tup h (dens_dp xs q l)
    · cases e
  | .lst xs, p, _, e, .lst h l => by
    unfold D.py at e
    split at e
    · rename_i ps q
      cases e
      exact .lst (.inl (.inl h)) (dens_dp xs q l)
    · cases e
  | .ro xs, p, _, e, .ro h l => by
    unfold D.py at e
    split at e
    · rename_i ps q
      cases e
      exact .lst h (dens_dp xs q l)
    · cases e
  | .obj _ _, _, _, e, _ => by cases e
  | .dk _ _, _, _, e, _ => by cases e
  | .ty _, _, _, e, _ => by cases e
  | .cls _, _, _, e, _ => by cases e
theorem dens_dp : ∀ (ds : List D) {ps : List PyData} {vs : List V}, D.pys ds = some ps → DenL K c.CL F vs ds → DpAll K F vs ps
  | [], _, _, e, .nil => by cases e; exact .nil
  | d :: ds, _, _, e, .cons h l => by
    unfold D.pys at e
    split at e
    · cases e
    · rename_i p q
      split at e
      · cases e
      · rename_i ps q2
        cases e
        exact .cons (den_dp d q h) (dens_dp ds q2 l)
end
mutual
theorem dp_mono (x : Ex F H) : ∀ {v : V} {p : PyData}, Dp K F v p → Dp K H v p
  | _, _, .non => .non
  | _, _, .bl b => .bl b
  | _, _, .int b => .int b
  | _, _, .str b => .str b
  | _, _, .lst h l => .lst (x.l h) (dps_mono x l)
  | _, _, .tup h l => .tup (x.t h) (dps_mono x l)
theorem dps_mono (x : Ex F H) : ∀ {vs : List V} {ps : List PyData}, DpAll K F vs ps → DpAll K H vs ps
  | _, _, .nil => .nil
  | _, _, .cons h l => .cons (dp_mono x h) (dps_mono x l)
end
theorem View.dp (x : Ex F H) {p : PyData} (h : View K c F H v d) (e : d.py = some p) : Dp K H v p := by
  cases d with
  | lst xs =>
    obtain ⟨a, us, rfl, q, l⟩ := h
    unfold D.py at e
    split at e
    · rename_i ps z
      cases e
      exact .lst (.inl (.inl q)) (dps_mono x (dens_dp xs z l))
    · cases e
  | non => exact dp_mono x (den_dp _ e h)
  | bl _ => exact dp_mono x (den_dp _ e h)
  | int _ => exact dp_mono x (den_dp _ e h)
  | str _ => exact dp_mono x (den_dp _ e h)
  | tup _ => exact dp_mono x (den_dp _ e h)
  | ro _ => exact dp_mono x (den_dp _ e h)
  | obj _ _ => exact dp_mono x (den_dp _ e h)
  | dk _ _ => exact dp_mono x (den_dp _ e h)
  | ty _ => exact dp_mono x (den_dp _ e h)
  | cls _ => exact dp_mono x (den_dp _ e h)
def eqD? (d e : D) : Option Bool := match d.py, e.py with
  | some p, some q => if SeqAt.shaped p = true ∧ SeqAt.shaped q = true then some (PyData.eqv p q) else none
  | _, _ => none
def fEq : List D → Option RB
  | [a, b] => match eqD? a b with
    | some k => some (.d (.bl k))
    | none => none
  | _ => none
def fNe : List D → Option RB
  | [a, b] => match eqD? a b with
    | some k => some (.d (.bl (!k)))
    | none => none
  | _ => none
theorem eqD_inv {k : Bool} (h : eqD? d e = some k) : ∃ p q, d.py = some p ∧ e.py = some q ∧ SeqAt.shaped p = true ∧ SeqAt.shaped q = true ∧ k = PyData.eqv p q := by
  unfold eqD? at h
  split at h
  · rename_i p q h1 h2
    split at h
    · rename_i hs
      cases h
      exact ⟨p, q, h1, h2, hs.1, hs.2, rfl⟩
    · cases h
  · cases h
theorem p_eq : Prim K c (two (rEqD K)) fEq := fun F H vs ds res Q x V e f => by
  unfold fEq at e
  split at e
  · split at e
    · rename_i k hk
      cases e
      obtain ⟨p, q, h1, h2, s1, s2, rfl⟩ := eqD_inv hk
      cases V with
      | cons v1 t => cases t with
        | cons v2 t => cases t; exact ⟨_, _, rfl, p, q, v1.dp x h1, v2.dp x h2, s1, s2, f.same x (.bl _)⟩
    · cases e
  · cases e
theorem p_ne : Prim K c (two (rNeD K)) fNe := fun F H vs ds res Q x V e f => by
  unfold fNe at e
  split at e
  · split at e
    · rename_i k hk
      cases e
      obtain ⟨p, q, h1, h2, s1, s2, rfl⟩ := eqD_inv hk
      cases V with
      | cons v1 t => cases t with
        | cons v2 t => cases t; exact ⟨_, _, rfl, p, q, v1.dp x h1, v2.dp x h2, s1, s2, f.same x (.bl _)⟩
    · cases e
  · cases e
/-! ### is -/
def D.isNon : D → Bool
  | .non => true
  | _ => false
def fIsN : List D → Option RB
  | [a, .non] => some (.d (.bl a.isNon))
  | _ => none
def fNotN : List D → Option RB
  | [a, .non] => some (.d (.bl (!a.isNon)))
  | _ => none
theorem View.non (h : View K c F H v d) : decide (v = .non) = d.isNon := by
  cases d with
  | lst xs => obtain ⟨a, us, rfl, _⟩ := h; rfl
  | non => cases h; rfl
  | bl _ => cases h; rfl
  | int _ => cases h; rfl
  | str _ => cases h; rfl
  | tup _ => cases h; rfl
  | ro _ => cases h; rfl
  | obj _ _ => cases h; rfl
  | dk _ _ => cases h; rfl
  | ty _ => cases h; rfl
  | cls _ => cases h; rfl
theorem p_isN : Prim K c (two fun x y H Q => y = .non ∧ Q (.bl (decide (x = .non))) H) fIsN := fun F H vs ds res Q x V e f => by
  unfold fIsN at e
  split at e
  · cases e
    cases V with
    | cons v1 t => cases t with
      | cons v2 t => cases t; cases v2; exact ⟨_, _, rfl, rfl, by rw [v1.non]; exact f.same x (.bl _)⟩
  · cases e
theorem p_notN : Prim K c (two fun x y H Q => y = .non ∧ Q (.bl (!decide (x = .non))) H) fNotN := fun F H vs ds res Q x V e f => by
  unfold fNotN at e
  split at e
  · cases e
    cases V with
    | cons v1 t => cases t with
      | cons v2 t => cases t; cases v2; exact ⟨_, _, rfl, rfl, by rw [v1.non]; exact f.same x (.bl _)⟩
  · cases e
def fIsB : List D → Option RB
  | [.bl a, .bl b] => some (.d (.bl (decide (a = b))))
  | _ => none
def fNotB : List D → Option RB
  | [.bl a, .bl b] => some (.d (.bl (!decide (a = b))))
  | _ => none
theorem p_isB : Prim K c (two fun x y H Q => ∃ a b, x = .bl a ∧ y = .bl b ∧ Q (.bl (decide (a = b))) H) fIsB := fun F H vs ds res Q x V e f => by
  unfold fIsB at e
  split at e
  · cases e
    cases V with
    | cons v1 t => cases t with
      | cons v2 t => cases t; cases v1; cases v2; exact ⟨_, _, rfl, _, _, rfl, rfl, f.same x (.bl _)⟩
  · cases e
theorem p_notB : Prim K c (two fun x y H Q => ∃ a b, x = .bl a ∧ y = .bl b ∧ Q (.bl (!decide (a = b))) H) fNotB := fun F H vs ds res Q x V e f => by
  unfold fNotB at e
  split at e
  · cases e
    cases V with
    | cons v1 t => cases t with
      | cons v2 t => cases t; cases v1; cases v2; exact ⟨_, _, rfl, _, _, rfl, rfl, f.same x (.bl _)⟩
  · cases e
/-! ### in -/
def anyEqv (p : PyData) (ps : List PyData) : Bool := ps.any fun z => PyData.eqv z p
def in? (a : D) (xs : D) : Option Bool := match a.py, xs.py with
  | some p, some (.list ps) => if SeqAt.shaped p = true ∧ SeqAt.shaped (.list ps) = true then some (anyEqv p ps) else none
  | _, _ => none
def fIn : List D → Option RB
  | [a, b] => match in? a b with
    | some k => some (.d (.bl k))
    | none => none
  | _ => none
def fNotIn : List D → Option RB
  | [a, b] => match in? a b with
    | some k => some (.d (.bl (!k)))
    | none => none
  | _ => none
theorem in_inv {a xs : D} {k : Bool} (h : in? a xs = some k) : ∃ p ps, a.py = some p ∧ xs.py = some (.list ps) ∧ SeqAt.shaped p = true ∧ SeqAt.shaped (.list ps) = true ∧ k = anyEqv p ps := by
  unfold in? at h
  split at h
  · rename_i p ps h1 h2
    split at h
    · rename_i hs
      cases h
      exact ⟨p, ps, h1, h2, hs.1, hs.2, rfl⟩
    · cases h
  · cases h
theorem p_in : Prim K c (two (rInD K)) fIn := fun F H vs ds res Q x V e f => by
  unfold fIn at e
  split at e
  · split at e
    · rename_i k hk
      cases e
      obtain ⟨p, ps, h1, h2, s1, s2, rfl⟩ := in_inv hk
      cases V with
      | cons v1 t => cases t with
        | cons v2 t => cases t; exact ⟨_, _, rfl, p, ps, v1.dp x h1, v2.dp x h2, s1, s2, f.same x (.bl _)⟩
    · cases e
  · cases e
theorem p_notIn : Prim K c (two (rNotInD K)) fNotIn := fun F H vs ds res Q x V e f => by
  unfold fNotIn at e
  split at e
  · split at e
    · rename_i k hk
      cases e
      obtain ⟨p, ps, h1, h2, s1, s2, rfl⟩ := in_inv hk
      cases V with
      | cons v1 t => cases t with
        | cons v2 t => cases t; exact ⟨_, _, rfl, p, ps, v1.dp x h1, v2.dp x h2, s1, s2, f.same x (.bl _)⟩
    · cases e
  · cases e

/-! ### items -/
def fIx : List D → Option RB
  | [.lst xs, .int i] => match atI xs i with
    | some d => some (.d d)
    | none => none
  | [.tup xs, .int i] => match atI xs i with
    | some d => some (.d d)
    | none => none
  | [.ro xs, .int i] => match atI xs i with
    | some d => some (.d d)
    | none => none
  | _ => none
theorem DenL.at (l : DenL K c.CL F vs ds) {i : Int} {d : D} (e : atI ds i = some d) : ∃ v, atI vs i = some v ∧ Den K c.CL F v d := by
  unfold atI at e ⊢
  rw [l.length]
  cases q : ixN ds.length i with
  | none => rw [q] at e; cases e
  | some j => rw [q] at e; exact l.get e
theorem p_ix : Prim K c (two (rIx K)) fIx := fun F H vs ds res Q x V e f => by
  unfold fIx at e
  split at e
  · split at e
    · rename_i d q
      cases e
      cases V with
      | cons v1 t => cases t with
        | cons v2 t =>
          cases t; cases v2
          obtain ⟨a, us, rfl, q1, l1⟩ := v1
          obtain ⟨v, q2, q3⟩ := l1.at q
          exact ⟨_, _, rfl, .inl ⟨a, us, _, v, rfl, rfl, .inl (.inl q1), q2, f.same x q3⟩⟩
    · cases e
  · split at e
    · rename_i d q
      cases e
      cases V with
      | cons v1 t => cases t with
        | cons v2 t =>
          cases t; cases v2
          cases v1 with
          | @tup a us _ q1 l1 =>
            obtain ⟨v, q2, q3⟩ := l1.at q
            exact ⟨_, _, rfl, .inr (.inl ⟨a, us, _, v, rfl, rfl, x.t q1, q2, f.same x q3⟩)⟩
    · cases e
  · split at e
    · rename_i d q
      cases e
      cases V with
      | cons v1 t => cases t with
        | cons v2 t =>
          cases t; cases v2
          cases v1 with
          | @ro a us _ q1 l1 =>
            obtain ⟨v, q2, q3⟩ := l1.at q
            exact ⟨_, _, rfl, .inl ⟨a, us, _, v, rfl, rfl, x.l q1, q2, f.same x q3⟩⟩
    · cases e
  · cases e

/-! ### slices -/
def cutD (xs : List D) (lo hi : Option Int) : List D := (xs.drop (HT.sIx xs.length 0 lo)).take (HT.sIx xs.length xs.length hi - HT.sIx xs.length 0 lo)
theorem DenL.cut (l : DenL K c.CL F vs ds) (lo hi : Option Int) : DenL K c.CL F (cutV vs lo hi) (cutD ds lo hi) := by
  unfold cutV cutD
  rw [l.length]
  exact (l.drop _).take _
def cut? (lo hi : Option Int) : D → Option RB
  | .lst xs => some (.nw (cutD xs lo hi))
  | .ro xs => some (.nw (cutD xs lo hi))
  | .tup xs => some (.d (.tup (cutD xs lo hi)))
  | _ => none
abbrev rCut (K : PySem.W.Frag) : V → Option Int → Option Int → Hp → VK → Prop := fun x lo hi H Q => rSlL K x lo hi H Q ∨ rSlA K x lo hi H Q
theorem SlR.or {r r' : V → Option Int → Option Int → Hp → VK → Prop} (h : SlR X r) (h' : SlR X r') : SlR X (fun x lo hi H Q => r x lo hi H Q ∨ r' x lo hi H Q) := by
  intro pins s σ H x v vl vu lo hi sl Q I rx hs pl pu q
  rcases q with q | q
  · exact h pins s σ H x v vl vu lo hi sl Q I rx hs pl pu q
  · exact h' pins s σ H x v vl vu lo hi sl Q I rx hs pl pu q
theorem sl_cut : SlR X (rCut X.K) := SlR.or sl_list sl_tupA
theorem cut_fin {lo hi : Option Int} {res : RB} (x : Ex F H) (hv : View K c F H v d) (e : cut? lo hi d = some res) (f : Fin K c F H res Q) : rCut K v lo hi H Q := by
  unfold cut? at e
  split at e
  · cases e
    obtain ⟨a, us, rfl, q1, l1⟩ := hv
    exact .inl ⟨a, us, rfl, .inl (.inl q1), fun p hp => f.newL x hp (l1.cut lo hi)⟩
  · cases e
    cases hv with
    | @ro a us _ q1 l1 => exact .inl ⟨a, us, rfl, x.l q1, fun p hp => f.newL x hp (l1.cut lo hi)⟩
  · cases e
    cases hv with
    | @tup a us _ q1 l1 =>
      refine .inr ⟨a, us, rfl, x.t q1, fun hz => f.same x ?_, fun _ p hp => f.newT x hp (l1.cut lo hi)⟩
      rename_i xs
      have : cutD xs lo hi = xs := by
        unfold cutD
        rw [← l1.length, hz.1, hz.2, l1.length]
        simp
      rw [this]
      exact .tup q1 l1
  · cases e
def fCutN : List D → Option RB
  | [d] => cut? none none d
  | _ => none
def fCutL : List D → Option RB
  | [d, .int i] => cut? (some i) none d
  | _ => none
def fCutH : List D → Option RB
  | [d, .int i] => cut? none (some i) d
  | _ => none
def fCutLH : List D → Option RB
  | [d, .int i, .int j] => cut? (some i) (some j) d
  | _ => none
theorem p_cutN : Prim K c (one fun x H Q => rCut K x none none H Q) fCutN := fun F H vs ds res Q x V e f => by
  unfold fCutN at e
  split at e
  · cases V with
    | cons v1 t => cases t; exact ⟨_, rfl, cut_fin x v1 e f⟩
  · cases e
theorem p_cutL : Prim K c (two fun x y H Q => ∃ i, y = .int i ∧ rCut K x (some i) none H Q) fCutL := fun F H vs ds res Q x V e f => by
  unfold fCutL at e
  split at e
  · cases V with
    | cons v1 t => cases t with
      | cons v2 t => cases t; cases v2; exact ⟨_, _, rfl, _, rfl, cut_fin x v1 e f⟩
  · cases e
theorem p_cutH : Prim K c (two fun x y H Q => ∃ i, y = .int i ∧ rCut K x none (some i) H Q) fCutH := fun F H vs ds res Q x V e f => by
  unfold fCutH at e
  split at e
  · cases V with
    | cons v1 t => cases t with
      | cons v2 t => cases t; cases v2; exact ⟨_, _, rfl, _, rfl, cut_fin x v1 e f⟩
  · cases e
theorem e_cutN {c : Ctx} {x : Expr} {a : E} (h : PE X x (tSl (rCut X.K) (tEv X.K c a) tNoPart tNoPart)) : PEv X c x (.prim fCutN (.cons a .nil)) := PE.wk h fun _ _ _ q => prim_go1 p_cutN q
theorem e_cutL {c : Ctx} {x : Expr} {a b : E} (h : PE X x (tSl (rCut X.K) (tEv X.K c a) (tPart (tEv X.K c b)) tNoPart)) : PEv X c x (.prim fCutL (.cons a (.cons b .nil))) := PE.wk h fun _ _ _ q => prim_go2 p_cutL q
theorem e_cutH {c : Ctx} {x : Expr} {a b : E} (h : PE X x (tSl (rCut X.K) (tEv X.K c a) tNoPart (tPart (tEv X.K c b)))) : PEv X c x (.prim fCutH (.cons a (.cons b .nil))) := PE.wk h fun _ _ _ q => prim_go2 p_cutH q

/-! ### len, int, abs, tuple, list, any, all, sum -/
def fLen : List D → Option RB
  | [.lst xs] => some (.d (.int xs.length))
  | [.ro xs] => some (.d (.int xs.length))
  | [.tup xs] => some (.d (.int xs.length))
  | [.str x] => if x.length ≤ sizeLine then some (.d (.int x.length)) else none
  | _ => none
theorem p_len : Prim K c (fun xs H Q => ∃ x n, xs = [x] ∧ LenV K x H n ∧ Q (.int n) H) fLen := fun F H vs ds res Q x V e f => by
  unfold fLen at e
  split at e
  · cases e
    cases V with
    | cons v1 t => cases t; obtain ⟨a, us, rfl, q1, l1⟩ := v1; exact ⟨_, us.length, rfl, .inl ⟨us, .inl (.inl q1), rfl⟩, by rw [l1.length]; exact f.same x (.int _)⟩
  · cases e
    cases V with
    | cons v1 t => cases t; cases v1 with | @ro a us _ q1 l1 => exact ⟨_, us.length, rfl, .inl ⟨us, x.l q1, rfl⟩, by rw [l1.length]; exact f.same x (.int _)⟩
  · cases e
    cases V with
    | cons v1 t => cases t; cases v1 with | @tup a us _ q1 l1 => exact ⟨_, us.length, rfl, .inr ⟨us, x.t q1, rfl⟩, by rw [l1.length]; exact f.same x (.int _)⟩
  · split at e
    · rename_i hl
      cases e
      cases V with
      | cons v1 t => cases t; cases v1; exact ⟨_, _, rfl, ⟨hl, rfl⟩, f.same x (.int _)⟩
    · cases e
  · cases e
def fInt : List D → Option RB
  | [.int i] => some (.d (.int i))
  | [.bl b] => some (.d (.int (if b then 1 else 0)))
  | _ => none
theorem p_int : Prim K c (fun xs H Q => (∃ i, xs = [.int i] ∧ Q (.int i) H) ∨ ∃ k, xs = [.bl k] ∧ Q (.int (if k then 1 else 0)) H) fInt := fun F H vs ds res Q x V e f => by
  unfold fInt at e
  split at e
  · cases e
    cases V with
    | cons v1 t => cases t; cases v1; exact .inl ⟨_, rfl, f.same x (.int _)⟩
  · cases e
    cases V with
    | cons v1 t => cases t; cases v1; exact .inr ⟨_, rfl, f.same x (.int _)⟩
  · cases e
def fAbs : List D → Option RB
  | [.int i] => some (.d (.int (if i < 0 then -i else i)))
  | _ => none
theorem p_abs : Prim K c (fun xs H Q => ∃ i, xs = [.int i] ∧ Q (.int (if i < 0 then -i else i)) H) fAbs := fun F H vs ds res Q x V e f => by
  unfold fAbs at e
  split at e
  · cases e
    cases V with
    | cons v1 t => cases t; cases v1; exact ⟨_, rfl, f.same x (.int _)⟩
  · cases e
def fTuple : List D → Option RB
  | [.lst xs] => some (.d (.tup xs))
  | [.ro xs] => some (.d (.tup xs))
  | [.tup xs] => some (.d (.tup xs))
  | _ => none
theorem p_tuple : Prim K c (fun xs H Q => ∃ p ys, xs = [.ref p] ∧ ((SqL K H p ys ∧ ∀ l, H l = none → Q (.ref l) (upd H l (.tup ys))) ∨ (SqT K H p ys ∧ Q (.ref p) H))) fTuple := fun F H vs ds res Q x V e f => by
  unfold fTuple at e
  split at e
  · cases e
    cases V with
    | cons v1 t => cases t; obtain ⟨a, us, rfl, q1, l1⟩ := v1; exact ⟨_, us, rfl, .inl ⟨.inl (.inl q1), fun p hp => f.newT x hp l1⟩⟩
  · cases e
    cases V with
    | cons v1 t => cases t; cases v1 with | @ro a us _ q1 l1 => exact ⟨_, us, rfl, .inl ⟨x.l q1, fun p hp => f.newT x hp l1⟩⟩
  · cases e
    cases V with
    | cons v1 t => cases t; cases v1 with | @tup a us _ q1 l1 => exact ⟨_, us, rfl, .inr ⟨x.t q1, f.same x (.tup q1 l1)⟩⟩
  · cases e
def fList : List D → Option RB
  | [.lst xs] => some (.nw xs)
  | [.ro xs] => some (.nw xs)
  | [.tup xs] => some (.nw xs)
  | _ => none
theorem p_list : Prim K c (fun xs H Q => ∃ p ys, xs = [.ref p] ∧ (SqL K H p ys ∨ SqT K H p ys) ∧ ∀ l, H l = none → Q (.ref l) (upd H l (.lst ys))) fList := fun F H vs ds res Q x V e f => by
  unfold fList at e
  split at e
  · cases e
    cases V with
    | cons v1 t => cases t; obtain ⟨a, us, rfl, q1, l1⟩ := v1; exact ⟨_, us, rfl, .inl (.inl (.inl q1)), fun p hp => f.newL x hp l1⟩
  · cases e
    cases V with
    | cons v1 t => cases t; cases v1 with | @ro a us _ q1 l1 => exact ⟨_, us, rfl, .inl (x.l q1), fun p hp => f.newL x hp l1⟩
  · cases e
    cases V with
    | cons v1 t => cases t; cases v1 with | @tup a us _ q1 l1 => exact ⟨_, us, rfl, .inr (x.t q1), fun p hp => f.newL x hp l1⟩
  · cases e
def bools : List D → Option (List Bool)
  | [] => some []
  | .bl b :: ds => match bools ds with
    | some bs => some (b :: bs)
    | none => none
  | _ => none
theorem DenL.bools : ∀ {vs : List V} {ds : List D} {bs : List Bool}, DenL K c.CL F vs ds → Ev.bools ds = some bs → vs = bs.map V.bl
  | _, _, _, .nil, e => by cases e; rfl
  | _, _, _, .cons (d := d) h t, e => by
    cases d with
    | bl b =>
      unfold Ev.bools at e
      split at e
      · rename_i bs q
        cases e
        cases h
        rw [DenL.bools t q]; rfl
      · cases e
    | _ => cases e
def nums : List D → Option (List Int)
  | [] => some []
  | .int b :: ds => match nums ds with
    | some bs => some (b :: bs)
    | none => none
  | _ => none
theorem DenL.nums : ∀ {vs : List V} {ds : List D} {bs : List Int}, DenL K c.CL F vs ds → Ev.nums ds = some bs → vs = bs.map V.int
  | _, _, _, .nil, e => by cases e; rfl
  | _, _, _, .cons (d := d) h t, e => by
    cases d with
    | int b =>
      unfold Ev.nums at e
      split at e
      · rename_i bs q
        cases e
        cases h
        rw [DenL.nums t q]; rfl
      · cases e
    | _ => cases e
def fAny : List D → Option RB
  | [.lst xs] => match bools xs with
    | some bs => some (.d (.bl (bs.any id)))
    | none => none
  | _ => none
def fAll : List D → Option RB
  | [.lst xs] => match bools xs with
    | some bs => some (.d (.bl (bs.all id)))
    | none => none
  | _ => none
def fSum : List D → Option RB
  | [.lst xs] => match nums xs with
    | some bs => some (.d (.int bs.sum))
    | none => none
  | _ => none
theorem p_any : Prim K c (rAny K) fAny := fun F H vs ds res Q x V e f => by
  unfold fAny at e
  split at e
  · split at e
    · rename_i bs q
      cases e
      cases V with
      | cons v1 t => cases t; obtain ⟨a, us, rfl, q1, l1⟩ := v1; exact ⟨a, bs, rfl, by rw [← l1.bools q]; exact .inl (.inl q1), f.same x (.bl _)⟩
    · cases e
  · cases e
theorem p_all : Prim K c (rAll K) fAll := fun F H vs ds res Q x V e f => by
  unfold fAll at e
  split at e
  · split at e
    · rename_i bs q
      cases e
      cases V with
      | cons v1 t => cases t; obtain ⟨a, us, rfl, q1, l1⟩ := v1; exact ⟨a, bs, rfl, by rw [← l1.bools q]; exact .inl (.inl q1), f.same x (.bl _)⟩
    · cases e
  · cases e
theorem p_sum : Prim K c (rSum K) fSum := fun F H vs ds res Q x V e f => by
  unfold fSum at e
  split at e
  · split at e
    · rename_i bs q
      cases e
      cases V with
      | cons v1 t => cases t; obtain ⟨a, us, rfl, q1, l1⟩ := v1; exact ⟨a, bs, rfl, by rw [← l1.nums q]; exact .inl (.inl q1), f.same x (.int _)⟩
    · cases e
  · cases e
end
end Ev

namespace Ev
open PySem L2
section
variable {K : PySem.W.Frag} {c : Ctx} {F F1 F2 F3 F' H H1 H2 H3 H' : Hp} {v w : V} {vs : List V} {d e : D} {ds : List D} {Q : VK} {X : Cx} {σ : St}
/-! ### what is walked -/
theorem IterV.same {J : It} {items : List D} {R : It → Hp → Prop} (k : ∀ J F' H', Ex F F' → Ex H H' → Ex F' H' → (∀ a, F a = none → H a ≠ none → F' a = none) → JOk K c vs ds J items → R J H') (x : Ex F H) (j : JOk K c vs ds J items) : R J H :=
  k J F H (Ex.refl _) (Ex.refl _) x (fun _ e _ => e) j
/-- i, i + 1, .. (n of them) -/
def upFrom : Nat → Int → List D
  | 0, _ => []
  | k + 1, i => .int i :: upFrom k (i + 1)
theorem upFrom_length : ∀ (n : Nat) (i : Int), (upFrom n i).length = n
  | 0, _ => rfl
  | k + 1, i => by simp [upFrom, upFrom_length k]
theorem upFrom_get : ∀ (n : Nat) (i : Int) (j : Nat) (d : D), (upFrom n i)[j]? = some d → j < n ∧ d = .int (i + j)
  | 0, _, _, _, e => by simp [upFrom] at e
  | k + 1, i, 0, d, e => by
    simp [upFrom] at e
    subst e
    exact ⟨by omega, by simp⟩
  | k + 1, i, j + 1, d, e => by
    obtain ⟨h1, h2⟩ := upFrom_get k (i + 1) j d (by simpa [upFrom] using e)
    refine ⟨by omega, ?_⟩
    rw [h2]
    congr 1
    push_cast
    omega
theorem j_range {lo : Int} {n : Nat} : JOk K c vs ds (Itr lo n) (upFrom n lo) := fun F H i x _ => by
  refine ⟨fun d e => ?_, fun h => ?_⟩
  · obtain ⟨h1, rfl⟩ := upFrom_get n lo i d e
    refine ⟨h1, fun v H' y => ?_⟩
    obtain ⟨rfl, rfl⟩ := y
    exact ⟨F, Ex.refl _, Ex.refl _, x, fun _ e _ => e, .int _⟩
  · rw [upFrom_length] at h
    exact h
def small62 (i : Int) : Bool := decide (-4611686018427387904 ≤ i) && decide (i < 4611686018427387904)
def itRange : List D → Option (List D)
  | [.int n] => if small62 n then some (upFrom n.toNat 0) else none
  | [.int a, .int b] => if small62 a && small62 b then some (upFrom (b - a).toNat a) else none
  | _ => none
abbrev rRng1 : List V → Hp → (It → Hp → Prop) → Prop := fun vs H1 R => ∃ j : Int, vs = [.int j] ∧ -(2 ^ 62) ≤ j ∧ j < 2 ^ 62 ∧ R (Itr 0 j.toNat) H1
abbrev rRng2 : List V → Hp → (It → Hp → Prop) → Prop := fun vs H1 R => ∃ i j : Int, vs = [.int i, .int j] ∧ (-(2 ^ 62) ≤ i ∧ i < 2 ^ 62 ∧ -(2 ^ 62) ≤ j ∧ j < 2 ^ 62) ∧ R (Itr i (j - i).toNat) H1
def itRange1 : List D → Option (List D)
  | [.int n] => if small62 n then some (upFrom n.toNat 0) else none
  | _ => none
def itRange2 : List D → Option (List D)
  | [.int a, .int b] => if small62 a && small62 b then some (upFrom (b - a).toNat a) else none
  | _ => none
theorem i_range1 : IterV K c rRng1 itRange1 := fun F H vs ds items R x V e k => by
  unfold itRange1 at e
  split at e
  · split at e
    · rename_i hs
      cases e
      unfold small62 at hs
      simp only [Bool.and_eq_true, decide_eq_true_eq] at hs
      cases V with
      | cons v1 t => cases t; cases v1; exact ⟨_, rfl, by omega, by omega, IterV.same k x j_range⟩
    · cases e
  · cases e
theorem i_range2 : IterV K c rRng2 itRange2 := fun F H vs ds items R x V e k => by
  unfold itRange2 at e
  split at e
  · split at e
    · rename_i hs
      cases e
      unfold small62 at hs
      simp only [Bool.and_eq_true, decide_eq_true_eq] at hs
      cases V with
      | cons v1 t => cases t with
        | cons v2 t => cases t; cases v1; cases v2; exact ⟨_, _, rfl, by omega, IterV.same k x j_range⟩
    · cases e
  · cases e
/-- a list, a tuple -/
def itSeq : List D → Option (List D)
  | [.lst xs] => some xs
  | [.tup xs] => some xs
  | [.ro xs] => some xs
  | _ => none
theorem Views.one {d : D} (h : Views K c F H vs [d]) : ∃ v, vs = [v] ∧ View K c F H v d := by
  cases h with
  | cons h t => cases t; exact ⟨_, rfl, h⟩
theorem Views.two {d e : D} (h : Views K c F H vs [d, e]) : ∃ v w, vs = [v, w] ∧ View K c F H v d ∧ View K c F H w e := by
  cases h with
  | cons h t => cases t with
    | cons h2 t => cases t; exact ⟨_, _, rfl, h, h2⟩
theorem j_list {a : Addr} {xs : List D} {d : D} (hd : (d = .lst xs) ∨ (d = .ro xs)) : JOk K c [.ref a] [d] (Itl K a) xs := fun F H i x V => by
  have hs : ∃ us, SqL K H a us ∧ DenL K c.CL F us xs := by
    obtain ⟨v, e, hv⟩ := V.one
    cases e
    rcases hd with rfl | rfl
    · obtain ⟨b, us, e, q, l⟩ := hv
      cases e
      exact ⟨us, .inl (.inl q), l⟩
    · cases hv with
      | @ro b us _ q l => exact ⟨us, x.l q, l⟩
  obtain ⟨us, q, l⟩ := hs
  refine ⟨fun d e => ?_, fun h => ⟨us, q, by rw [l.length]; exact h⟩⟩
  obtain ⟨v, h1, h2⟩ := l.get e
  refine ⟨⟨us, v, q, h1⟩, fun y H' z => ?_⟩
  obtain ⟨rfl, z⟩ := z
  have := z us q
  rw [h1] at this
  cases this
  exact ⟨F, Ex.refl _, Ex.refl _, x, fun _ e _ => e, h2⟩
theorem j_tup {a : Addr} {xs : List D} : JOk K c [.ref a] [.tup xs] (Itt K a) xs := fun F H i x V => by
  obtain ⟨v, e, hv⟩ := V.one
  cases e
  cases hv with
  | @tup b us _ q l =>
    refine ⟨fun d e => ?_, fun h => ⟨us, x.t q, by rw [l.length]; exact h⟩⟩
    obtain ⟨v, h1, h2⟩ := l.get e
    refine ⟨⟨us, v, x.t q, h1⟩, fun y H' z => ?_⟩
    obtain ⟨rfl, z⟩ := z
    have := z us (x.t q)
    rw [h1] at this
    cases this
    exact ⟨F, Ex.refl _, Ex.refl _, x, fun _ e _ => e, h2⟩
/-- a list or a tuple, as it comes -/
abbrev rSeq (K : PySem.W.Frag) : List V → Hp → (It → Hp → Prop) → Prop := fun vs H1 R => ∃ x, vs = [x] ∧ ((∃ a, x = .ref a ∧ (∃ xs, SqL K H1 a xs) ∧ R (Itl K a) H1) ∨ (∃ a, x = .ref a ∧ (∃ xs, SqT K H1 a xs) ∧ R (Itt K a) H1))
theorem iter_made {pins : List (Addr × Obj)} {s : Shared} {tg : Expr} {R : It → Hp → Prop} {J : It} {tn : Nat → Heap → Prop} {o : Obj} (I : Inv X pins σ H s) (T : Turn X.prog X.w X.K tg J [s.heap.objs.size] s.heap.objs.size tn) (h0 : tn 0 (s.heap.push o)) (q : R J H) :
    PIE X pins σ tg R (.ref s.heap.objs.size) { s with heap := s.heap.push o } := by
  refine ⟨s.heap.objs.size, [s.heap.objs.size], tn, J, H, rfl, I.kept (t' := s.toks) fun b ob e => Heap.get?_push_of_some _ e, T, h0, fun b hb => ?_, q⟩
  rw [List.mem_singleton.mp hb]
  exact I.fpOk (Nat.le_refl _) (I.hok.fresh (Nat.le_refl _))
theorem pi_seq {c : Ctx} {tg l : Expr} {e : E} (hl : PEv X c l e) : PI X tg l (tIA (tEvA X.K c (.cons e .nil)) (rSeq X.K)) := by
  refine ⟨fun pins s σ H R I h => ?_⟩
  refine thn (hl.run pins s σ H _ I (a_split h)) fun v s1 ⟨x, H1, I1, r1, q1⟩ => ?_
  obtain ⟨F, ρ, R0, P⟩ := q1
  obtain ⟨y, ey, q1⟩ := P F H1 R0 (GoE.refl ..) [] .nil
  cases ey
  rcases q1 with ⟨a, rfl, ⟨xs, hq⟩, q⟩ | ⟨a, rfl, ⟨xs, hq⟩, q⟩
  · cases r1
    obtain ⟨its, _, p, _⟩ := I1.list hq
    exact wpAny_pyIter_list p.isList (iter_made I1 (turn_list a _) ⟨_, Heap.get?_push_size _ rfl, rfl, rfl⟩ q)
  · cases r1
    obtain ⟨its, _, p, _⟩ := I1.tuple hq
    exact wpAny_pyIter_tuple (show s1.heap.IsTuple a its.toArray from p) (iter_made I1 (turn_tuple a _) ⟨_, Heap.get?_push_size _ rfl, rfl, rfl⟩ q)
theorem i_seq : IterV K c (rSeq K) itSeq := fun F H vs ds items R x V e k => by
  unfold itSeq at e
  split at e
  · cases e
    obtain ⟨v, rfl, hv⟩ := V.one
    obtain ⟨a, us, rfl, q, l⟩ := id hv
    exact ⟨_, rfl, .inl ⟨a, rfl, ⟨us, .inl (.inl q)⟩, IterV.same k x (j_list (.inl rfl))⟩⟩
  · cases e
    obtain ⟨v, rfl, hv⟩ := V.one
    cases hv with
    | @tup a us _ q l => exact ⟨_, rfl, .inr ⟨a, rfl, ⟨us, x.t q⟩, IterV.same k x j_tup⟩⟩
  · cases e
    obtain ⟨v, rfl, hv⟩ := V.one
    cases hv with
    | @ro a us _ q l => exact ⟨_, rfl, .inl ⟨a, rfl, ⟨us, x.l q⟩, IterV.same k x (j_list (.inr rfl))⟩⟩
  · cases e
/-- zip of two lists, of two tuples -/
def zipD : List D → List D → List D
  | a :: as, b :: bs => .tup [a, b] :: zipD as bs
  | _, _ => []
theorem zipD_get : ∀ (as bs : List D) (i : Nat) (d : D), (zipD as bs)[i]? = some d → ∃ a b, as[i]? = some a ∧ bs[i]? = some b ∧ d = .tup [a, b]
  | [], _, _, _, e => by simp [zipD] at e
  | _ :: _, [], _, _, e => by simp [zipD] at e
  | a :: as, b :: bs, 0, d, e => by simp [zipD] at e; exact ⟨a, b, rfl, rfl, e.symm⟩
  | a :: as, b :: bs, i + 1, d, e => by
    obtain ⟨x, y, h1, h2, h3⟩ := zipD_get as bs i d (by simpa [zipD] using e)
    exact ⟨x, y, by simpa using h1, by simpa using h2, h3⟩
theorem zipD_length : ∀ (as bs : List D), (zipD as bs).length = min as.length bs.length
  | [], _ => by simp [zipD]
  | _ :: _, [] => by simp [zipD]
  | a :: as, b :: bs => by simp [zipD, zipD_length as bs]
def itZip : List D → Option (List D)
  | [.lst xs, .lst ys] => some (zipD xs ys)
  | [.tup xs, .tup ys] => some (zipD xs ys)
  | _ => none
abbrev rZip (K : PySem.W.Frag) : List V → Hp → (It → Hp → Prop) → Prop := fun vs H1 R => ∃ a b xs ys, vs = [.ref a, .ref b] ∧ ((SqL K H1 a xs ∧ SqL K H1 b ys ∧ R (Itz K a b) H1) ∨ (SqT K H1 a xs ∧ SqT K H1 b ys ∧ R (RZ.ItzT K a b) H1))
theorem pair_new {a b : D} {x y : V} {T : Addr} (x0 : Ex F H) (hT : H T = none) (ha : Den K c.CL F x a) (hb : Den K c.CL F y b) :
    ∃ F', Ex F F' ∧ Ex H (upd H T (.tup [x, y])) ∧ Ex F' (upd H T (.tup [x, y])) ∧ (∀ q, F q = none → H q ≠ none → F' q = none) ∧ Den K c.CL F' (.ref T) (.tup [a, b]) := by
  have hF : F T = none := by
    cases q : F T with
    | none => rfl
    | some o => rw [x0 T o q] at hT; cases hT
  have f : Ex F (upd F T (.tup [x, y])) := Ex.new hF
  exact ⟨upd F T (.tup [x, y]), f, Ex.new hT, Ex.both x0, fun q e1 e2 => by rw [upd_ne (fun z => by subst z; exact e2 hT)]; exact e1, .tup (.inl (.inl upd_same)) (.cons (ha.mono f) (.cons (hb.mono f) .nil))⟩
theorem j_zipL {a b : Addr} {xs ys : List D} : JOk K c [.ref a, .ref b] [.lst xs, .lst ys] (Itz K a b) (zipD xs ys) := fun F H i x V => by
  obtain ⟨v, w, e, hv, hw⟩ := V.two
  cases e
  obtain ⟨a', us, e, q, l⟩ := hv
  cases e
  obtain ⟨b', ws, e, q', l'⟩ := hw
  cases e
  have s1 : SqL K H a us := .inl (.inl q)
  have s2 : SqL K H b ws := .inl (.inl q')
  refine ⟨fun d e => ?_, fun h => ⟨us, ws, s1, s2, ?_⟩⟩
  · obtain ⟨p, r, h1, h2, rfl⟩ := zipD_get _ _ _ _ e
    obtain ⟨u, z1, z2⟩ := l.get h1
    obtain ⟨t, z3, z4⟩ := l'.get h2
    refine ⟨⟨us, ws, u, t, s1, s2, z1, z3⟩, fun y H' yl => ?_⟩
    obtain ⟨T, x1, y1, rfl, hT, rfl, k1, k2⟩ := yl
    have e1 := k1 us s1
    rw [z1] at e1
    cases e1
    have e2 := k2 ws s2
    rw [z3] at e2
    cases e2
    exact pair_new x hT z2 z4
  · rw [zipD_length] at h
    rw [l.length, l'.length]
    omega
theorem j_zipT {a b : Addr} {xs ys : List D} : JOk K c [.ref a, .ref b] [.tup xs, .tup ys] (RZ.ItzT K a b) (zipD xs ys) := fun F H i x V => by
  obtain ⟨v, w, e, hv, hw⟩ := V.two
  cases e
  cases hv with
  | @tup _ us _ q l => cases hw with
    | @tup _ ws _ q' l' =>
      have s1 := x.t q
      have s2 := x.t q'
      refine ⟨fun d e => ?_, fun h => ⟨us, ws, s1, s2, ?_⟩⟩
      · obtain ⟨p, r, h1, h2, rfl⟩ := zipD_get _ _ _ _ e
        obtain ⟨u, z1, z2⟩ := l.get h1
        obtain ⟨t, z3, z4⟩ := l'.get h2
        refine ⟨⟨us, ws, u, t, s1, s2, z1, z3⟩, fun y H' yl => ?_⟩
        obtain ⟨T, x1, y1, rfl, hT, rfl, k1, k2⟩ := yl
        have e1 := k1 us s1
        rw [z1] at e1
        cases e1
        have e2 := k2 ws s2
        rw [z3] at e2
        cases e2
        exact pair_new x hT z2 z4
      · rw [zipD_length] at h
        rw [l.length, l'.length]
        omega
theorem i_zip : IterV K c (rZip K) itZip := fun F H vs ds items R x V e k => by
  unfold itZip at e
  split at e
  · cases e
    obtain ⟨v, w, rfl, hv, hw⟩ := V.two
    obtain ⟨a, us, rfl, q, l⟩ := id hv
    obtain ⟨b, ws, rfl, q', l'⟩ := id hw
    exact ⟨a, b, us, ws, rfl, .inl ⟨.inl (.inl q), .inl (.inl q'), IterV.same k x j_zipL⟩⟩
  · cases e
    obtain ⟨v, w, rfl, hv, hw⟩ := V.two
    cases hv with
    | @tup a us _ q l => cases hw with
      | @tup b ws _ q' l' => exact ⟨a, b, us, ws, rfl, .inr ⟨x.t q, x.t q', IterV.same k x j_zipT⟩⟩
  · cases e
/-- enumerate of a list -/
def enumD : Int → List D → List D
  | _, [] => []
  | i, a :: as => .tup [.int i, a] :: enumD (i + 1) as
theorem enumD_get : ∀ (as : List D) (k : Int) (i : Nat) (d : D), (enumD k as)[i]? = some d → ∃ a, as[i]? = some a ∧ d = .tup [.int (k + i), a]
  | [], _, _, _, e => by simp [enumD] at e
  | a :: as, k, 0, d, e => by simp [enumD] at e; exact ⟨a, rfl, by rw [← e]; simp⟩
  | a :: as, k, i + 1, d, e => by
    obtain ⟨x, h1, h3⟩ := enumD_get as (k + 1) i d (by simpa [enumD] using e)
    refine ⟨x, by simpa using h1, ?_⟩
    rw [h3, show k + 1 + (i : Int) = k + ((i + 1 : Nat) : Int) by push_cast; omega]
theorem enumD_length : ∀ (as : List D) (k : Int), (enumD k as).length = as.length
  | [], _ => rfl
  | a :: as, k => by simp [enumD, enumD_length as]
def itEnum : List D → Option (List D)
  | [.lst xs] => some (enumD 0 xs)
  | _ => none
abbrev rEnum (K : PySem.W.Frag) : List V → Hp → (It → Hp → Prop) → Prop := fun vs H1 R => ∃ a xs, vs = [.ref a] ∧ SqL K H1 a xs ∧ R (Ite K a) H1
theorem i_enum : IterV K c (rEnum K) itEnum := fun F H vs ds items R x V e k => by
  unfold itEnum at e
  split at e
  · cases e
    obtain ⟨v, rfl, hv⟩ := V.one
    obtain ⟨a, us, rfl, q, l⟩ := id hv
    refine ⟨a, us, rfl, .inl (.inl q), IterV.same k x fun F H i x V => ?_⟩
    obtain ⟨v, e, hv⟩ := V.one
    cases e
    obtain ⟨a', us, e, q, l⟩ := hv
    cases e
    have s1 : SqL K H a us := .inl (.inl q)
    refine ⟨fun d e => ?_, fun h => ⟨us, s1, ?_⟩⟩
    · obtain ⟨p, h1, rfl⟩ := enumD_get _ _ _ _ e
      obtain ⟨u, z1, z2⟩ := l.get h1
      refine ⟨⟨us, u, s1, z1⟩, fun y H' yl => ?_⟩
      obtain ⟨T, x1, rfl, hT, rfl, k1⟩ := yl
      have e1 := k1 us s1
      rw [z1] at e1
      cases e1
      rw [Int.zero_add]
      exact pair_new x hT (.int _) z2
    · rw [enumD_length] at h
      rw [l.length]
      omega
  · cases e

/-! ### methods of a list of one's own -/
def mAppend : List D → List D → Option (List D × D)
  | xs, [d] => if xs.length < sizeLine then some (xs ++ [d], .non) else none
  | _, _ => none
def mPopAt : List D → List D → Option (List D × D)
  | xs, [.int i] => if xs.length ≤ sizeLine then match ixN xs.length i with
    | none => none
    | some j => match xs[j]? with
      | none => none
      | some d => some (xs.eraseIdx j, d) else none
  | _, _ => none
def mPop : List D → List D → Option (List D × D)
  | xs, [] => match xs[xs.length - 1]? with
    | none => none
    | some d => some (xs.dropLast, d)
  | _, _ => none
def mExtend : List D → List D → Option (List D × D)
  | xs, [.lst ys] => if xs.length + ys.length ≤ sizeLine then some (xs ++ ys, .non) else none
  | _, _ => none
theorem DenL.one {d : D} (l : DenL K c.CL F vs [d]) : ∃ v, vs = [v] ∧ Den K c.CL F v d := by
  cases l with
  | cons h t => cases t; exact ⟨_, rfl, h⟩
theorem m_append : MutOk K c rAppend mAppend := fun F H a vs xs ws ds ys d Q x ha hF l lw e k => by
  unfold mAppend at e
  split at e
  · split at e
    · rename_i hl
      cases e
      obtain ⟨v, rfl, hv⟩ := lw.one
      exact ⟨a, vs, v, rfl, rfl, ha, by rw [l.length]; exact hl, k .non _ (l.append (.cons hv .nil)) .non⟩
    · cases e
  · cases e
theorem m_popAt : MutOk K c rPopAt mPopAt := fun F H a vs xs ws ds ys d Q x ha hF l lw e k => by
  unfold mPopAt at e
  split at e
  · split at e
    · rename_i hl
      have hs : (sizeLine : Nat) < 2 ^ 63 := line63
      split at e
      · cases e
      · rename_i j hj
        split at e
        · cases e
        · rename_i d hd
          cases e
          obtain ⟨v, rfl, hv⟩ := lw.one
          cases hv
          obtain ⟨z1, z2, z3, z4⟩ := ixN_seq hj
          obtain ⟨u, q1, q2⟩ := l.get hd
          exact ⟨a, vs, _, j, u, rfl, rfl, ha, by omega, by omega, by rw [l.length]; exact z1, q1, k u _ (l.eraseIdx j) q2⟩
    · cases e
  · cases e
theorem DenL.dropLast (l : DenL K c.CL F vs ds) : DenL K c.CL F vs.dropLast ds.dropLast := by
  rw [List.dropLast_eq_take, List.dropLast_eq_take, l.length]
  exact l.take _
theorem m_pop : MutOk K c rPop mPop := fun F H a vs xs ws ds ys d Q x ha hF l lw e k => by
  unfold mPop at e
  split at e
  · split at e
    · cases e
    · rename_i d hd
      cases e
      cases lw
      obtain ⟨u, q1, q2⟩ := l.get hd
      exact ⟨a, vs, u, rfl, rfl, ha, by rw [l.length]; exact q1, k u _ l.dropLast q2⟩
  · cases e
theorem m_extend : MutOk K c rExtend mExtend := fun F H a vs xs ws ds ys d Q x ha hF l lw e k => by
  unfold mExtend at e
  split at e
  · split at e
    · rename_i hl
      cases e
      obtain ⟨v, rfl, hv⟩ := lw.one
      cases hv with
      | @lst b us _ q l2 => exact ⟨a, b, vs, us, rfl, rfl, ha, x _ _ q, by rw [l.length, l2.length]; exact hl, k .non _ (l.append l2) .non⟩
    · cases e
  · cases e
end
end Ev

namespace Ev
open PySem PySem.Spec PyProof.Rows
open AutoSeq1 (wpAny_loadPart')
/-! ### enumerate(t), t a tuple -/
abbrev titer (t : Addr) : Obj := { cls := .type "tuple_iterator", data := .fields #[.ref t, .int 0 0] }
abbrev enumO (it : Addr) : Obj := { cls := .type "enumerate", data := .fields #[.none, .bool false, .ref it, rawInt 0, .none, .none] }
theorem enum_newT (l : Addr) (its : Array Value) (n : Nat) (dct : Option Addr) (sl : Array (Option Value)) :
    Meets (Builtin.«enumerate.__new__» ⟨[.type "enumerate", .ref l], []⟩) (fun _ R s => s.heap.get? l = some { cls := .type "tuple", dict := dct, data := .seq its n, slots := sl } ∧
      R (.ok (.ret (.ref (s.heap.push (titer l)).objs.size))) { s with heap := (s.heap.push (titer l)).push (enumO s.heap.objs.size) }) :=
  .of_wp fun prog w A R s ⟨hl, h⟩ => by
    obtain ⟨hp, g, d, tk, os⟩ := s
    have hT : Heap.IsTuple (Shared.heap ⟨hp, g, d, tk, os⟩) l its := ⟨_, hl, rfl, n, rfl⟩
    have hsub := sub_enumerate
    wp_walk using wpAny_loadPart' hl
    refine wpAny_stack_any fun st => wpAny_pure ?_
    split
    · rename_i c _ _ _ _ _
      cases (c == Value.type "enumerate") <;> (wp_walk using wpAny_loadPart' hl, wpAny_pyIter_tuple hT; exact ⟨_, rfl, h⟩)
    · wp_walk using wpAny_loadPart' hl, wpAny_pyIter_tuple hT
      exact ⟨_, rfl, h⟩
section
variable {prog : Program} {w : World} {A : Around} {E : Value → Shared → Prop} {s : Shared}
theorem call_enumT {l : Addr} {its : Array Value} {Q : Value → Shared → Prop} (hL : s.heap.IsTuple l its)
    (h : ∀ h', IsEnum h' (s.heap.objs.size + 1) s.heap.objs.size 0 .none → h'.IsTupleIter s.heap.objs.size l 0 → (∀ b o, s.heap.get? b = some o → h'.get? b = some o) → Q (.ref (s.heap.objs.size + 1)) { s with heap := h' }) :
    wpAny (model prog w) A (call (.type "enumerate") [.ref l]) Q E s := by
  obtain ⟨⟨c, dct, dt, sl⟩, hl, hc, n, hd⟩ := hL
  obtain rfl : c = .type "tuple" := hc
  obtain rfl : dt = .seq its n := hd
  refine callType_new F.called_enumerate (by decide) (F.typeCall_enumerate_1 _) (F.newCall_enumerate_1 _) (fun obj => F.args_object_init_2 obj _) F.entry_enumerate_new (enum_newT l its n dct sl) ⟨hl, ?_⟩
  have hz : (s.heap.push (titer l)).objs.size = s.heap.objs.size + 1 := Heap.size_push ..
  have he : ((s.heap.push (titer l)).push (enumO s.heap.objs.size)).get? (s.heap.objs.size + 1) = some (enumO s.heap.objs.size) := by
    have q := Heap.get?_push_size (s.heap.push (titer l)) (o := enumO s.heap.objs.size) rfl
    rw [hz] at q; exact q
  show _ ∧ _
  rw [hz]
  exact ⟨⟨_, he, rfl⟩, h _ he ⟨_, Heap.get?_push_of_some _ (Heap.get?_push_size _ rfl), rfl, rfl⟩ fun b o x => Heap.get?_push_of_some _ (Heap.get?_push_of_some _ x)⟩
/-- one more off a tuple's iterator -/
theorem tnext {it t : Addr} {i : Nat} {its : Array Value} {x : Value} {Q : Value → Shared → Prop} (hit : s.heap.IsTupleIter it t i) (ht : s.heap.IsTuple t its) (hx : its[i]? = some x)
    (hQ : ∀ h', h'.IsTupleIter it t (i + 1) → Heap.SameBut it s.heap h' → Q x { s with heap := h' }) : wpAny (model prog w) A (Builtin.SmallTypes.nextOf (.ref it)) Q E s := by
  obtain ⟨o, ho, hc, hd⟩ := id hit; obtain ⟨ol, hol, _, nl, hdl⟩ := ht
  unfold Builtin.SmallTypes.nextOf
  refine wpAny_bind (wpAny_callSpecial?_slot (name := Str.ofString "__next__") hit.typeIs PySem.F.slot_tuple_iterator_next (wpAny_call_entry PySem.F.slot_tuple_iterator_next hit.typeIs PySem.F.entry_tuple_iterator_next ?_ (PySem.F.args_tuple_iterator_next_1 _)))
  refine (show wpAny _ _ (field (.ref it) 0 >>= _) _ _ s from wpAny_bind (wpAny_field ho hd (x := .ref t) rfl ?_))
  show wpAny _ _ (if (Value.ref t == Value.none) = true then _ else _) _ _ s
  rw [if_neg (by exact Bool.false_ne_true)]
  refine (show wpAny _ _ (field (.ref it) 1 >>= _) _ _ s from wpAny_bind (wpAny_field ho hd (x := .int i 0) rfl ?_))
  refine (show wpAny _ _ (seqItems? (.ref t) >>= _) _ _ s from wpAny_bind (wpAny_seqItems hol hdl ?_))
  simp only [Int.toNat_natCast, hx]
  exact wpAny_bind (wpAny_setField ho hd (by simp) (wpAny_pure ⟨x, rfl, wpAny_pure (hQ _ ⟨_, Heap.get?_update_self _ ho (Obj.isFreed_of_fields (Obj.data_mapFields hd _)), (Obj.cls_mapFields ..).trans hc, by rw [Obj.data_mapFields hd]; simp [rawInt]⟩ (Heap.SameBut.update ..))⟩))
theorem tdone {it t : Addr} {i : Nat} {its : Array Value} {Q : Value → Shared → Prop} (hh : A.handled = none) (hit : s.heap.IsTupleIter it t i) (ht : s.heap.IsTuple t its) (hx : its[i]? = none)
    (hE : ∀ h' e, Heap.ExtBut it s.heap h' → (∃ o, h'.get? e = some o ∧ o.cls = .type "StopIteration") → E (.ref e) { s with heap := h' }) : wpAny (model prog w) A (Builtin.SmallTypes.nextOf (.ref it)) Q E s := by
  obtain ⟨o, ho, hc, hd⟩ := id hit; obtain ⟨ol, hol, _, nl, hdl⟩ := ht
  unfold Builtin.SmallTypes.nextOf
  refine wpAny_bind (wpAny_callSpecial?_slot (name := Str.ofString "__next__") hit.typeIs PySem.F.slot_tuple_iterator_next (wpAny_call_entry PySem.F.slot_tuple_iterator_next hit.typeIs PySem.F.entry_tuple_iterator_next ?_ (PySem.F.args_tuple_iterator_next_1 _)))
  refine (show wpAny _ _ (field (.ref it) 0 >>= _) _ _ s from wpAny_bind (wpAny_field ho hd (x := .ref t) rfl ?_))
  show wpAny _ _ (if (Value.ref t == Value.none) = true then _ else _) _ _ s
  rw [if_neg (by exact Bool.false_ne_true)]
  refine (show wpAny _ _ (field (.ref it) 1 >>= _) _ _ s from wpAny_bind (wpAny_field ho hd (x := .int i 0) rfl ?_))
  refine (show wpAny _ _ (seqItems? (.ref t) >>= _) _ _ s from wpAny_bind (wpAny_seqItems hol hdl ?_))
  simp only [Int.toNat_natCast, hx]
  refine wpAny_bind (wpAny_rule (wpAny_bind (wpAny_setField ho hd (by simp) (show wpAny _ _ (newExc (.type "StopIteration") [] >>= _) _ _ _ from wpAny_bind ?_))))
  simp only [newExc, newTuple]
  refine wpAny_bind (wpAny_newObj_type (wpAny_bind (m := firstArgMember _ _) (wpAny_of_eq (a := Value.none) (by first | rfl | (simp only [firstArgMember]; rfl)) (wpAny_newObj_type ?_ (by size_fits)))) (by size_fits))
  simp only [raiseNew]
  refine wpAny_bind (wpAny_handled ?_)
  first | rw [show A.in1.handled = none from hh] | rw [hh]
  exact wpAny_bind (wpAny_pure (wpAny_throw (hE _ _ (((Heap.SameBut.update ..).extBut.push _).push _) ⟨_, Heap.get?_push_size _ rfl, rfl⟩)))
theorem drawsT (hh : A.handled = none) (it t : Addr) (hne : t ≠ it) (its : Array Value) : Draws prog w A it [it, t] its.size (fun i v => its[i]? = some v) (fun i h => h.IsTupleIter it t i ∧ h.IsTuple t its) where
  live := fun _ _ st => let ⟨o, ho, _⟩ := st.1; ⟨o, ho⟩
  frame := fun _ _ _ st hk => ⟨st.1.at fun o e => hk it (by simp) o e, let ⟨o, ho, r⟩ := st.2; ⟨o, hk t (by simp) o ho, r⟩⟩
  item := fun i s Q E hi st hQ => tnext st.1 st.2 (x := its[i]) (by simp [hi]) fun h' hit' hs' => hQ _ h' s.toks (by simp [hi]) ⟨hit', let ⟨o, ho, r⟩ := st.2; ⟨o, hs'.extBut t o hne ho, r⟩⟩ hs'
  done := fun s Q E st hE => tdone hh st.1 st.2 (by simp) hE
end
end Ev

namespace Ev
open PySem PySem.Spec PyProof.Rows L2
theorem drawsEnd {prog : Program} {w : World} {A : Around} (hh : A.handled = none) (it t : Addr) (its : Array Value) (n : Nat) (hx : its[n]? = none) : Draws prog w A it [it, t] n (fun _ _ => False) (fun j h => j = n ∧ h.IsTupleIter it t n ∧ h.IsTuple t its) where
  live := fun _ _ st => let ⟨o, ho, _⟩ := st.2.1; ⟨o, ho⟩
  frame := fun _ _ _ st hk => ⟨st.1, st.2.1.at fun o e => hk it (by simp) o e, let ⟨o, ho, r⟩ := st.2.2; ⟨o, hk t (by simp) o ho, r⟩⟩
  item := fun i s Q E hi st hQ => absurd st.1 (Nat.ne_of_lt hi)
  done := fun s Q E st hE => tdone hh st.2.1 st.2.2 hx hE
/-- the tuple at a, each item in a new pair -/
def IteT (K : PySem.W.Frag) (a : Addr) : It :=
  ⟨fun i H => ∃ (xs : List V) (x : V), SqT K H a xs ∧ xs[i]? = some x, fun i H v H' => ∃ T x, v = .ref T ∧ H T = none ∧ H' = upd H T (.tup [.int (i : Nat), x]) ∧ ∀ xs, SqT K H a xs → xs[i]? = some x, fun i H => ∃ xs : List V, SqT K H a xs ∧ xs.length ≤ i⟩
theorem turn_enumT {P : Program} {w : World} {K : PySem.W.Frag} {elts : List Expr} {kk : Nat} {tpos : Pos} (a e it : Addr) :
    Turn P w K (.Tuple elts kk tpos) (IteT K a) [e, it] e (fun i h => (∃ old, IsEnum h e it ((i : Nat) : Int) old) ∧ h.IsTupleIter it a i ∧ e ≠ it) where
  mem := by simp
  obj := fun i h ⟨⟨old, he⟩, ⟨o, ho, hc, hd⟩, _⟩ b hb => by
    rcases (show b = e ∨ b = it by simpa using hb) with z | z <;> rw [z]
    · exact ⟨_, he, fun v q => nomatch q⟩
    · exact ⟨o, ho, fun v q => by rw [hd] at q; cases q⟩
  keep := fun i h h' ⟨⟨old, he⟩, hi, hne⟩ k => ⟨⟨old, k e (by simp) _ he⟩, hi.at fun o q => k it (by simp) o q, hne⟩
  item := by
    intro X hP hw hK hc i pins s σ H E I hf st hg
    subst hP hw hK
    obtain ⟨⟨old, he⟩, hit, hne⟩ := st
    obtain ⟨xs, x, hq, hx⟩ := hg
    obtain ⟨its, rv, p, hz⟩ := I.tuple hq
    obtain ⟨u, hu, ru⟩ := rv.get hx
    have hel : e < s.heap.objs.size := Heap.lt_size he
    have hil : it < s.heap.objs.size := by obtain ⟨_, q, _⟩ := hit; exact Heap.lt_size q
    have pt : s.heap.IsTuple a its.toArray := p
    have hai : a ≠ it := fun z => by
      obtain ⟨o, h1, h2, _⟩ := pt
      obtain ⟨o', h3, h4, _⟩ := hit
      rw [z, h3] at h1
      cases h1
      rw [h4] at h2
      exact absurd (Value.type.inj h2) (by decide)
    have hae : e ≠ a := fun z => by
      obtain ⟨o, h1, h2, _⟩ := pt
      have h3 := he
      unfold IsEnum at h3
      rw [z, h1] at h3
      cases h3
      exact absurd (Value.type.inj h2) (by decide)
    have hi : i < its.length := by
      obtain ⟨z, _⟩ := List.getElem?_eq_some_iff.mp hu
      exact z
    refine wpAny_pyNext_enum_itemD (drawsT (A := X.A.in1) (I.ok.hd hc) it a hai its.toArray) he ⟨hit, pt⟩ (by simpa using hi) hne (by simp [hne, hae]) fun y h' tk hy ho st' hT hsz hk => ?_
    obtain rfl : y = u := by
      have hy' : its[i]? = some y := by simpa using hy
      rw [hu] at hy'
      exact (Option.some.inj hy').symm
    refine ⟨_, rfl, wpAny_letOwnedTupleGo_enum (s := { s with heap := h', toks := tk + 1 }) ho fun h2 he2 sb => ?_⟩
    have hT2 : h2.get? s.heap.objs.size = some { cls := .type "tuple", data := .seq #[.int i tk, y] } := (sb.2 _ (Nat.ne_of_gt hel)).trans hT
    have new : ObjOk X.prog X.w (upd H s.heap.objs.size (.tup [.int (i : Nat), x])) h2 s.heap.objs.size (.tup [.int (i : Nat), x]) := ⟨by show 2 ≤ sizeLine; decide, [.int i tk, y], .cons ⟨_, rfl⟩ (.cons ru .nil), ⟨_, hT2, rfl, _, rfl⟩⟩
    have I1 : Inv X pins σ (upd H s.heap.objs.size (.tup [.int (i : Nat), x])) { s with heap := h2, toks := tk + 1 } :=
      I.turnedNew (ch := [e, it]) (fun b ob hb q => (sb.2 b (fun z => hb (by simp [z]))).trans (hk b ob (fun z => hb (by simp [z])) (fun z => hb (by simp [z])) q)) hf (Nat.le_refl _) new
    refine ⟨.ref s.heap.objs.size, _, I1, rfl, ⟨_, x, rfl, I.hok.fresh (Nat.le_refl _), rfl, fun ys hy => by rw [I.tuple_inj hy hq]; exact hx⟩, ⟨⟨y, by rw [show ((i + 1 : Nat) : Int) = (i : Int) + 1 by omega]; exact he2⟩, st'.1.at fun o q => (sb.2 it (Ne.symm hne)).trans q, hne⟩, fun b hb => ?_⟩
    have hb' : b < s.heap.objs.size := by rcases (show b = e ∨ b = it by simpa using hb) with z | z <;> rw [z] <;> assumption
    rw [upd_ne (Nat.ne_of_lt hb')]
    exact (hf b hb).1
  done := by
    intro X hP hw hK hc i pins s σ H E I hf st hg
    subst hP hw hK
    obtain ⟨⟨old, he⟩, hit, hne⟩ := st
    obtain ⟨xs, hq, hx⟩ := hg
    obtain ⟨its, rv, p, hz⟩ := I.tuple hq
    obtain ⟨f0, f1, f2, f3, f4, f5⟩ := hf it (by simp)
    have hl := rv.length
    have pt : s.heap.IsTuple a its.toArray := p
    exact wpAny_pyNext_enum_endD (drawsEnd (A := X.A.in1) (I.ok.hd hc) it a its.toArray i (by simp; omega)) he ⟨rfl, hit, pt⟩ fun h' eb => ⟨rfl, I.turned (t' := s.toks) (fun b o hb q => eb b o hb q) f0 f1 f3 f4 f5⟩
  self := fun A i s Q E ⟨⟨_, he⟩, _⟩ h => wpAny_pyIter_enum he h
def rEnumT (K : PySem.W.Frag) : List V → Hp → (It → Hp → Prop) → Prop := fun vs H1 R => ∃ a xs, vs = [.ref a] ∧ ((SqL K H1 a xs ∧ R (Ite K a) H1) ∨ (SqT K H1 a xs ∧ R (IteT K a) H1))
theorem pi_enumA {X : Cx} {e : Expr} {ta : TA} {p pos tpos : Pos} {elts : List Expr} {kk : Nat} (hg : Gl X "enumerate") (hm : X.mg "enumerate" = none) (ha : PA X [e] ta) (hs : starEach [e] X.env = [(false, eval e X.env)] := by rfl) :
    PI X (.Tuple elts kk tpos) (.Call (.Name "enumerate" p) [e] [] pos) (tIA ta (rEnumT X.K)) := by
  refine ⟨fun pins s σ H R I h => Call_ (ld_blt I hg hm boot_enumerate (PyProof.Rows.callWith_type1 (thn (ha.run pos pins s σ H _ I h) fun us s1 ⟨vs, H1, I1, r1, a, xs, ex, q⟩ => ?_) hs rfl))⟩
  subst ex
  rw [Vals.ref1 r1]
  have fp : ∀ b, b ∈ [s1.heap.objs.size + 1, s1.heap.objs.size] → s1.heap.objs.size ≤ b := fun b hb => by
    rcases (show b = s1.heap.objs.size + 1 ∨ b = s1.heap.objs.size by simpa using hb) with z | z <;> rw [z]
    · exact Nat.le_add_right _ _
    · exact Nat.le_refl _
  rcases q with ⟨hq, q⟩ | ⟨hq, q⟩
  · obtain ⟨its, rv, p', hz⟩ := I1.list hq
    exact call_enumerate_list p'.isList fun h' he hit hsz hk => wpAny_pyIter_enum he ⟨s1.heap.objs.size + 1, [s1.heap.objs.size + 1, s1.heap.objs.size], _, _, H1, rfl, I1.kept (t' := s1.toks) hk, turn_enum a (s1.heap.objs.size + 1) s1.heap.objs.size, ⟨⟨.none, he⟩, hit, Nat.succ_ne_self _⟩, fun b hb => I1.fpOk (fp b hb) (I1.hok.fresh (fp b hb)), q⟩
  · obtain ⟨its, rv, p', hz⟩ := I1.tuple hq
    exact call_enumT (show s1.heap.IsTuple a its.toArray from p') fun h' he hit hk => wpAny_pyIter_enum he ⟨s1.heap.objs.size + 1, [s1.heap.objs.size + 1, s1.heap.objs.size], _, _, H1, rfl, I1.kept (t' := s1.toks) hk, turn_enumT a (s1.heap.objs.size + 1) s1.heap.objs.size, ⟨⟨.none, he⟩, hit, Nat.succ_ne_self _⟩, fun b hb => I1.fpOk (fp b hb) (I1.hok.fresh (fp b hb)), q⟩
end Ev

namespace Ev
open PySem L2
section
variable {K : PySem.W.Frag} {c : Ctx} {F F' H H' : Hp} {v w : V} {vs : List V} {d : D} {ds : List D}
def itEnumA : List D → Option (List D)
  | [.lst xs] => some (enumD 0 xs)
  | [.tup xs] => some (enumD 0 xs)
  | _ => none
theorem i_enumA : IterV K c (rEnumT K) itEnumA := fun F H vs ds items R x V e k => by
  unfold itEnumA at e
  split at e
  · cases e
    obtain ⟨v, rfl, hv⟩ := V.one
    obtain ⟨a, us, rfl, q, l⟩ := id hv
    refine ⟨a, us, rfl, .inl ⟨.inl (.inl q), IterV.same k x fun F H i x V => ?_⟩⟩
    obtain ⟨v, e, hv⟩ := V.one
    cases e
    obtain ⟨a', us, e, q, l⟩ := hv
    cases e
    have s1 : SqL K H a us := .inl (.inl q)
    refine ⟨fun d e => ?_, fun h => ⟨us, s1, ?_⟩⟩
    · obtain ⟨p, h1, rfl⟩ := enumD_get _ _ _ _ e
      obtain ⟨u, z1, z2⟩ := l.get h1
      refine ⟨⟨us, u, s1, z1⟩, fun y H' yl => ?_⟩
      obtain ⟨T, x1, rfl, hT, rfl, k1⟩ := yl
      have e1 := k1 us s1
      rw [z1] at e1
      cases e1
      rw [Int.zero_add]
      exact pair_new x hT (.int _) z2
    · rw [enumD_length] at h
      rw [l.length]
      omega
  · cases e
    obtain ⟨v, rfl, hv⟩ := V.one
    cases hv with
    | @tup a us _ q l =>
      refine ⟨a, us, rfl, .inr ⟨x.t q, IterV.same k x fun F H i x V => ?_⟩⟩
      obtain ⟨v, e, hv⟩ := V.one
      cases e
      cases hv with
      | @tup _ us _ q l =>
        have s1 : SqT K H a us := x.t q
        refine ⟨fun d e => ?_, fun h => ⟨us, s1, ?_⟩⟩
        · obtain ⟨p, h1, rfl⟩ := enumD_get _ _ _ _ e
          obtain ⟨u, z1, z2⟩ := l.get h1
          refine ⟨⟨us, u, s1, z1⟩, fun y H' yl => ?_⟩
          obtain ⟨T, x1, rfl, hT, rfl, k1⟩ := yl
          have e1 := k1 us s1
          rw [z1] at e1
          cases e1
          rw [Int.zero_add]
          exact pair_new x hT (.int _) z2
        · rw [enumD_length] at h
          rw [l.length]
          omega
  · cases e
end
end Ev

namespace Ev
open PySem PySem.Spec PyProof.Rows L2
open AutoSeq1 (wpAny_loadPart')
/-! ### zip(a list, a tuple) -/
theorem drawsEndL {prog : Program} {w : World} {A : Around} (hh : A.handled = none) (it t : Addr) (its : Array Value) (n : Nat) (hx : its[n]? = none) : Draws prog w A it [it, t] n (fun _ _ => False) (fun j h => j = n ∧ h.IsListIter it t n ∧ h.IsList t its) where
  live := fun _ _ st => let ⟨o, ho, _⟩ := st.2.1; ⟨o, ho⟩
  frame := fun _ _ _ st hk => ⟨st.1, st.2.1.at fun o e => hk it (by simp) o e, st.2.2.at fun o e => hk t (by simp) o e⟩
  item := fun i s Q E hi st hQ => absurd st.1 (Nat.ne_of_lt hi)
  done := fun s Q E st hE => wpAny_nextOf_list_end hh st.2.1 st.2.2 hx hE
abbrev zmA (h : Heap) (a : Addr) : Heap := h.push { cls := .type "list_iterator", data := .fields #[.ref a, .int 0 0] }
abbrev zmB (h : Heap) (a b : Addr) : Heap := (zmA h a).push { cls := .type "tuple_iterator", data := .fields #[.ref b, .int 0 0] }
abbrev zmC (h : Heap) (a b : Addr) : Heap := (zmB h a b).push { cls := .type "tuple", data := .seq #[.ref h.objs.size, .ref (zmA h a).objs.size] }
abbrev zmD (h : Heap) (a b : Addr) : Heap := (zmC h a b).push { cls := .type "tuple", data := .seq #[.none, .none] }
abbrev zmE (h : Heap) (a b : Addr) : Heap := (zmD h a b).push { cls := .type "zip", data := .fields #[.none, .bool false, .bool false, .ref (zmB h a b).objs.size, .ref (zmC h a b).objs.size] }
theorem zm_new (a b : Addr) (xs ys : Array Value) : Meets (Builtin.«zip.__new__» ⟨[.type "zip", .ref a, .ref b], []⟩) (fun _ R s => s.heap.IsList a xs ∧ s.heap.IsTuple b ys ∧ R (.ok (.ret (.ref (zmD s.heap a b).objs.size))) { s with heap := zmE s.heap a b }) :=
  .of_wp fun prog w A R s ⟨ha, hb, h⟩ => by
    obtain ⟨hp, g, d, tk, os⟩ := s
    have hsub := sub_zip
    have qa : Heap.IsList (Shared.heap ⟨hp, g, d, tk, os⟩) a xs := ha
    have qb : Heap.IsTuple (Shared.heap ⟨zmA hp a, g, d, tk, os⟩) b ys := Heap.IsTuple.push hb _
    wp_walk using wpAny_pyIter_list qa, wpAny_pyIter_tuple qb
    exact ⟨_, rfl, h⟩
section
variable {prog : Program} {w : World} {A : Around} {E : Value → Shared → Prop} {s : Shared}
theorem call_zm {a b : Addr} {xs ys : Array Value} {Q : Value → Shared → Prop} (ha : s.heap.IsList a xs) (hb : s.heap.IsTuple b ys)
    (h : ∀ h', IsZip h' (s.heap.objs.size + 4) (s.heap.objs.size + 2) (s.heap.objs.size + 3) .none → IsPair h' (s.heap.objs.size + 2) (.ref s.heap.objs.size) (.ref (s.heap.objs.size + 1)) → IsPair h' (s.heap.objs.size + 3) .none .none → h'.IsListIter s.heap.objs.size a 0 → h'.IsTupleIter (s.heap.objs.size + 1) b 0 →
      (∀ c o, s.heap.get? c = some o → h'.get? c = some o) → Q (.ref (s.heap.objs.size + 4)) { s with heap := h' }) : wpAny (model prog w) A (call (.type "zip") [.ref a, .ref b]) Q E s := by
  refine callType_new F.called_zip (by decide) (F.typeCall_zip_2 _ _) (F.newCall_zip_2 _ _) (fun obj => F.args_object_init_3 obj _ _) F.entry_zip_new (zm_new a b xs ys) ⟨ha, hb, ?_⟩
  have e1 : (zmA s.heap a).objs.size = s.heap.objs.size + 1 := Heap.size_push ..
  have e2 : (zmB s.heap a b).objs.size = s.heap.objs.size + 2 := by rw [Heap.size_push, e1]
  have e3 : (zmC s.heap a b).objs.size = s.heap.objs.size + 3 := by rw [Heap.size_push, e2]
  have e4 : (zmD s.heap a b).objs.size = s.heap.objs.size + 4 := by rw [Heap.size_push, e3]
  have q5 : (zmE s.heap a b).get? (zmD s.heap a b).objs.size = some _ := Heap.get?_push_size _ rfl
  have q4 : (zmE s.heap a b).get? (zmC s.heap a b).objs.size = some _ := Heap.get?_push_of_some _ (Heap.get?_push_size _ rfl)
  have q3 : (zmE s.heap a b).get? (zmB s.heap a b).objs.size = some _ := Heap.get?_push_of_some _ (Heap.get?_push_of_some _ (Heap.get?_push_size _ rfl))
  have q2 : (zmE s.heap a b).get? (zmA s.heap a).objs.size = some _ := Heap.get?_push_of_some _ (Heap.get?_push_of_some _ (Heap.get?_push_of_some _ (Heap.get?_push_size _ rfl)))
  have q1 : (zmE s.heap a b).get? s.heap.objs.size = some _ := Heap.get?_push_of_some _ (Heap.get?_push_of_some _ (Heap.get?_push_of_some _ (Heap.get?_push_of_some _ (Heap.get?_push_size _ rfl))))
  show _ ∧ _
  rw [e2, e3, e4] at q5
  rw [e1, e2] at q3
  rw [e3] at q4
  rw [e1] at q2
  rw [e4]
  exact ⟨⟨_, q5, rfl⟩, h _ q5 q3 q4 ⟨_, q1, rfl, rfl⟩ ⟨_, q2, rfl, rfl⟩ fun c o x => Heap.get?_push_of_some _ (Heap.get?_push_of_some _ (Heap.get?_push_of_some _ (Heap.get?_push_of_some _ (Heap.get?_push_of_some _ x))))⟩
end
/-- the list at a and the tuple at b, the items in new pairs -/
def ItzM (K : PySem.W.Frag) (a b : Addr) : It :=
  ⟨fun i H => ∃ (xs ys : List V) (x y : V), SqL K H a xs ∧ SqT K H b ys ∧ xs[i]? = some x ∧ ys[i]? = some y,
    fun i H v H' => ∃ T x y, v = .ref T ∧ H T = none ∧ H' = upd H T (.tup [x, y]) ∧ (∀ xs, SqL K H a xs → xs[i]? = some x) ∧ ∀ ys, SqT K H b ys → ys[i]? = some y,
    fun i H => ∃ xs ys : List V, SqL K H a xs ∧ SqT K H b ys ∧ (xs.length ≤ i ∨ ys.length ≤ i)⟩
theorem sepM {z TI TO i1 i2 a b : Addr} (D : ZipApart z TI TO i1 i2 a b) : ZipSep2 z TI TO i1 i2 [i1, a] [i2, b] where
  TIz := D.TIz
  TOz := D.TOz
  TITO := D.TITO
  TIi1 := D.TIi1
  mem1 := by simp
  zf1 := by simp [D.i1z.symm, D.l1z.symm]
  Tf1 := by simp [D.TOi1, D.l1TO.symm]
  TIi2 := D.TIi2
  mem2 := by simp
  zf2 := by simp [D.i2z.symm, D.l2z.symm]
  Tf2 := by simp [D.TOi2, D.l2TO.symm]
  sep1_2 := by simp [D.i12, D.l2i1.symm]
  sep2_1 := by simp [D.i12.symm, D.l1i2.symm]
theorem turn_zm {P : Program} {w : World} {K : PySem.W.Frag} {elts : List Expr} {kk : Nat} {tpos : Pos} {a b z TI TO i1 i2 : Addr} (D : ZipApart z TI TO i1 i2 a b) :
    Turn P w K (.Tuple elts kk tpos) (ItzM K a b) [z, TI, TO, i1, i2] z (fun i h => IsZip h z TI TO .none ∧ IsPair h TI (.ref i1) (.ref i2) ∧ (∃ x y, IsPair h TO x y) ∧ h.IsListIter i1 a i ∧ h.IsTupleIter i2 b i) where
  mem := by simp
  obj := fun i h ⟨hz, hTI, ⟨x, y, hTO⟩, ⟨o1, e1, _, d1⟩, ⟨o2, e2, _, d2⟩⟩ c hc => by
    rcases (show c = z ∨ c = TI ∨ c = TO ∨ c = i1 ∨ c = i2 by simpa using hc) with q | q | q | q | q <;> rw [q]
    · exact ⟨_, hz, fun v q => nomatch q⟩
    · exact ⟨_, hTI, fun v q => nomatch q⟩
    · exact ⟨_, hTO, fun v q => nomatch q⟩
    · exact ⟨o1, e1, fun v q => by rw [d1] at q; cases q⟩
    · exact ⟨o2, e2, fun v q => by rw [d2] at q; cases q⟩
  keep := fun i h h' ⟨hz, hTI, ⟨x, y, hTO⟩, h1, h2⟩ k => ⟨k z (by simp) _ hz, k TI (by simp) _ hTI, ⟨x, y, k TO (by simp) _ hTO⟩, h1.at fun o q => k i1 (by simp) o q, h2.at fun o q => k i2 (by simp) o q⟩
  item := by
    intro X hP hw hK hc i pins s σ H E I hf st hg
    subst hP hw hK
    obtain ⟨hz, hTI, ⟨x0, y0, hTO⟩, h1, h2⟩ := st
    obtain ⟨xs, ys, x, y, hqx, hqy, hx, hy⟩ := hg
    obtain ⟨its, rv, p, _⟩ := I.list hqx
    obtain ⟨its2, rv2, p2, _⟩ := I.tuple hqy
    obtain ⟨u, hu, ru⟩ := rv.get hx
    obtain ⟨u2, hu2, ru2⟩ := rv2.get hy
    have hzl : z < s.heap.objs.size := Heap.lt_size hz
    have pt : s.heap.IsTuple b its2.toArray := p2
    have hi : i < its.toArray.size := by
      obtain ⟨q, _⟩ := List.getElem?_eq_some_iff.mp hu
      simpa using q
    have hi2 : i < its2.toArray.size := by
      obtain ⟨q, _⟩ := List.getElem?_eq_some_iff.mp hu2
      simpa using q
    refine wpAny_pyNext_zipD2_item (sepM D) (Draws.list (A := X.A.in1) (I.ok.hd hc) i1 a D.l1i1 its.toArray) (drawsT (A := X.A.in1) (I.ok.hd hc) i2 b D.l2i2 its2.toArray) hz hTI hTO ⟨h1, p.isList⟩ ⟨h2, pt⟩ hi hi2 fun x1 x2 h' tk e1 e2 z' TO' s1' s2' hT hsz hk => ?_
    obtain rfl : x1 = u := by
      have e1' : its[i]? = some x1 := by simpa using e1
      rw [hu] at e1'
      exact (Option.some.inj e1').symm
    obtain rfl : x2 = u2 := by
      have e2' : its2[i]? = some x2 := by simpa using e2
      rw [hu2] at e2'
      exact (Option.some.inj e2').symm
    refine ⟨_, rfl, wpAny_letOwnedTupleGo_zip (s := { s with heap := h', toks := tk }) z' fun h'' z'' sb => ?_⟩
    have hT2 : h''.get? s.heap.objs.size = some { cls := .type "tuple", data := .seq #[x1, x2] } := (sb.2 _ (Nat.ne_of_gt hzl)).trans hT
    have new : ObjOk X.prog X.w (upd H s.heap.objs.size (.tup [x, y])) h'' s.heap.objs.size (.tup [x, y]) := ⟨by show 2 ≤ sizeLine; decide, [x1, x2], .cons ru (.cons ru2 .nil), ⟨_, hT2, rfl, _, rfl⟩⟩
    have I1 : Inv X pins σ (upd H s.heap.objs.size (.tup [x, y])) { s with heap := h'', toks := tk } :=
      I.turnedNew (ch := [z, TI, TO, i1, i2]) (fun c o hb q => (sb.2 c (fun w => hb (by simp [w]))).trans (hk c o (fun w => hb (by simp [w])) (fun w => hb (by simp [w])) (fun w => hb (by simp [w])) (fun w => hb (by simp [w])) q)) hf (Nat.le_refl _) new
    refine ⟨.ref s.heap.objs.size, _, I1, rfl, ⟨_, x, y, rfl, I.hok.fresh (Nat.le_refl _), rfl, fun l hl => by rw [I.list_inj hl hqx]; exact hx, fun l hl => by rw [I.tuple_inj hl hqy]; exact hy⟩, ⟨z'', ?_, ⟨x1, x2, (sb.2 _ D.TOz).trans TO'⟩, s1'.1.at fun o q => (sb.2 _ D.i1z).trans q, s2'.1.at fun o q => (sb.2 _ D.i2z).trans q⟩, fun c hcm => ?_⟩
    · exact (sb.2 _ D.TIz).trans (hk _ _ D.TIz D.TITO D.TIi1 D.TIi2 hTI)
    · have hlt : c < s.heap.objs.size := by
        rcases (show c = z ∨ c = TI ∨ c = TO ∨ c = i1 ∨ c = i2 by simpa using hcm) with q | q | q | q | q <;> rw [q]
        · exact hzl
        · exact Heap.lt_size hTI
        · exact Heap.lt_size hTO
        · obtain ⟨_, w, _⟩ := h1; exact Heap.lt_size w
        · obtain ⟨_, w, _⟩ := h2; exact Heap.lt_size w
      rw [upd_ne (Nat.ne_of_lt hlt)]
      exact (hf c hcm).1
  done := by
    intro X hP hw hK hc i pins s σ H E I hf st hg
    subst hP hw hK
    obtain ⟨hz, hTI, ⟨x0, y0, hTO⟩, h1, h2⟩ := st
    obtain ⟨xs, ys, hqx, hqy, hend⟩ := hg
    obtain ⟨its, rv, p, _⟩ := I.list hqx
    obtain ⟨its2, rv2, p2, _⟩ := I.tuple hqy
    have l1 := rv.length
    have l2 := rv2.length
    have pt : s.heap.IsTuple b its2.toArray := p2
    have fin : ∀ (h' : Heap) (tk : Nat), (∀ c o, c ≠ z → c ≠ TO → c ≠ i1 → c ≠ i2 → s.heap.get? c = some o → h'.get? c = some o) → (none : Option Value) = none ∧ Inv X pins σ H { s with heap := h', toks := tk } := fun h' tk hk => ⟨rfl, I.turnedL (ch := [z, TI, TO, i1, i2]) (fun c o hb q => hk c o (fun w => hb (by simp [w])) (fun w => hb (by simp [w])) (fun w => hb (by simp [w])) (fun w => hb (by simp [w])) q) hf⟩
    rcases Nat.lt_or_ge i its.length with a1 | a1 <;> rcases Nat.lt_or_ge i its2.length with a2 | a2
    · omega
    · exact wpAny_pyNext_zipD2_end (sepM D) (Draws.list (A := X.A.in1) (I.ok.hd hc) i1 a D.l1i1 its.toArray) (drawsEnd (A := X.A.in1) (I.ok.hd hc) i2 b its2.toArray i (by simp; omega)) hz hTI hTO ⟨h1, p.isList⟩ ⟨rfl, h2, pt⟩ (by simp; omega) (Nat.le_refl _) (.inr rfl) fin
    · exact wpAny_pyNext_zipD2_end (sepM D) (drawsEndL (A := X.A.in1) (I.ok.hd hc) i1 a its.toArray i (by simp; omega)) (drawsT (A := X.A.in1) (I.ok.hd hc) i2 b D.l2i2 its2.toArray) hz hTI hTO ⟨rfl, h1, p.isList⟩ ⟨h2, pt⟩ (Nat.le_refl _) (by simp; omega) (.inl rfl) fin
    · exact wpAny_pyNext_zipD2_end (sepM D) (drawsEndL (A := X.A.in1) (I.ok.hd hc) i1 a its.toArray i (by simp; omega)) (drawsEnd (A := X.A.in1) (I.ok.hd hc) i2 b its2.toArray i (by simp; omega)) hz hTI hTO ⟨rfl, h1, p.isList⟩ ⟨rfl, h2, pt⟩ (Nat.le_refl _) (Nat.le_refl _) (.inl rfl) fin
  self := fun A i s Q E st h => wpAny_pyIter_zip st.1 h
def rZipM (K : PySem.W.Frag) : List V → Hp → (It → Hp → Prop) → Prop := fun vs H1 R => ∃ a b xs ys, vs = [.ref a, .ref b] ∧ ((SqL K H1 a xs ∧ SqL K H1 b ys ∧ R (Itz K a b) H1) ∨ (SqT K H1 a xs ∧ SqT K H1 b ys ∧ R (RZ.ItzT K a b) H1) ∨ (SqL K H1 a xs ∧ SqT K H1 b ys ∧ R (ItzM K a b) H1))
theorem pi_zipM {X : Cx} {e e2 : Expr} {ta : TA} {p pos tpos : Pos} {elts : List Expr} {kk : Nat} (hg : Gl X "zip") (hm : X.mg "zip" = none) (ha : PA X [e, e2] ta)
    (hs : starEach [e, e2] X.env = (false, eval e X.env) :: starEach [e2] X.env := by rfl) (hpl : (backTo pos (starEach [e2] X.env)).any (·.1) = false := by rfl) : PI X (.Tuple elts kk tpos) (.Call (.Name "zip" p) [e, e2] [] pos) (tIA ta (rZipM X.K)) := by
  refine ⟨fun pins s σ H R I h => Call_ (ld_blt I hg hm PyProof.Rows.boot_zip (PyProof.Rows.callWith_type1 (thn (ha.run pos pins s σ H _ I h) fun us s1 ⟨vs, H1, I1, r1, a, b, xs, ys, ex, q⟩ => ?_) hs hpl))⟩
  subst ex
  obtain ⟨u1, u2, rfl, q1, q2⟩ : ∃ u1 u2, us = [u1, u2] ∧ RelV (.ref a) u1 ∧ RelV (.ref b) u2 := by
    cases r1 with
    | cons r t => cases t with
      | cons r' t => cases t; exact ⟨_, _, rfl, r, r'⟩
  cases q1
  cases q2
  have fresh : ∀ c, c ∈ [s1.heap.objs.size + 4, s1.heap.objs.size + 2, s1.heap.objs.size + 3, s1.heap.objs.size, s1.heap.objs.size + 1] → FpOk X pins H1 c := fun c hcm => by
    have hle : s1.heap.objs.size ≤ c := by
      rcases (show c = s1.heap.objs.size + 4 ∨ c = s1.heap.objs.size + 2 ∨ c = s1.heap.objs.size + 3 ∨ c = s1.heap.objs.size ∨ c = s1.heap.objs.size + 1 by simpa using hcm) with z | z | z | z | z <;> rw [z]
      · exact Nat.le_add_right _ _
      · exact Nat.le_add_right _ _
      · exact Nat.le_add_right _ _
      · exact Nat.le_refl _
      · exact Nat.le_add_right _ _
    exact I1.fpOk hle (I1.hok.fresh hle)
  rcases q with ⟨hx, hy, q⟩ | ⟨hx, hy, q⟩ | ⟨hx, hy, q⟩
  · obtain ⟨its, rv, p1, _⟩ := I1.list hx
    obtain ⟨its2, rv2, p2, _⟩ := I1.list hy
    exact call_zip_2 p1.isList p2.isList fun h' hz hTI hTO h1 h2 hsz hk => wpAny_pyIter_zip hz ⟨_, _, _, _, H1, rfl, I1.kept (t' := s1.toks) hk, turn_zip (PySem.W.ktu_apart s1.heap.objs.size a b p1.lt p2.lt), ⟨hz, hTI, ⟨_, _, hTO⟩, h1, h2⟩, fresh, q⟩
  · obtain ⟨its, rv, p1, _⟩ := I1.tuple hx
    obtain ⟨its2, rv2, p2, _⟩ := I1.tuple hy
    obtain ⟨o1, ho1, _⟩ := id p1
    obtain ⟨o2, ho2, _⟩ := id p2
    exact RZ.call_zipT (show s1.heap.IsTuple a its.toArray from p1) (show s1.heap.IsTuple b its2.toArray from p2) fun h' hz hTI hTO h1 h2 hsz hk => wpAny_pyIter_zip hz ⟨_, _, _, _, H1, rfl, I1.kept (t' := s1.toks) hk, RZ.turn_zipT (PySem.W.ktu_apart s1.heap.objs.size a b (Heap.lt_size ho1) (Heap.lt_size ho2)), ⟨hz, hTI, ⟨_, _, hTO⟩, h1, h2⟩, fresh, q⟩
  · obtain ⟨its, rv, p1, _⟩ := I1.list hx
    obtain ⟨its2, rv2, p2, _⟩ := I1.tuple hy
    obtain ⟨o2, ho2, _⟩ := id p2
    exact call_zm p1.isList (show s1.heap.IsTuple b its2.toArray from p2) fun h' hz hTI hTO h1 h2 hk => wpAny_pyIter_zip hz ⟨_, _, _, _, H1, rfl, I1.kept (t' := s1.toks) hk, turn_zm (PySem.W.ktu_apart s1.heap.objs.size a b p1.lt (Heap.lt_size ho2)), ⟨hz, hTI, ⟨_, _, hTO⟩, h1, h2⟩, fresh, q⟩
section
variable {K : PySem.W.Frag} {c : Ctx} {F F' H H' : Hp} {v w : V} {vs : List V} {d : D} {ds : List D}
theorem j_zm {a b : Addr} {xs ys : List D} : JOk K c [.ref a, .ref b] [.lst xs, .tup ys] (ItzM K a b) (zipD xs ys) := fun F H i x V => by
  obtain ⟨v, w, e, hv, hw⟩ := V.two
  cases e
  obtain ⟨a', us, e, q, l⟩ := hv
  cases e
  have s1 : SqL K H a us := .inl (.inl q)
  cases hw with
  | @tup _ ws _ q' l' =>
    have s2 := x.t q'
    refine ⟨fun d e => ?_, fun h => ⟨us, ws, s1, s2, ?_⟩⟩
    · obtain ⟨p, r, h1, h2, rfl⟩ := zipD_get _ _ _ _ e
      obtain ⟨u, z1, z2⟩ := l.get h1
      obtain ⟨t, z3, z4⟩ := l'.get h2
      refine ⟨⟨us, ws, u, t, s1, s2, z1, z3⟩, fun y H' yl => ?_⟩
      obtain ⟨T, x1, y1, rfl, hT, rfl, k1, k2⟩ := yl
      have e1 := k1 us s1
      rw [z1] at e1
      cases e1
      have e2 := k2 ws s2
      rw [z3] at e2
      cases e2
      exact pair_new x hT z2 z4
    · rw [zipD_length] at h
      rw [l.length, l'.length]
      omega
def itZipM : List D → Option (List D)
  | [.lst xs, .lst ys] => some (zipD xs ys)
  | [.tup xs, .tup ys] => some (zipD xs ys)
  | [.lst xs, .tup ys] => some (zipD xs ys)
  | _ => none
theorem i_zipM : IterV K c (rZipM K) itZipM := fun F H vs ds items R x V e k => by
  unfold itZipM at e
  split at e
  · cases e
    obtain ⟨v, w, rfl, hv, hw⟩ := V.two
    obtain ⟨a, us, rfl, q, l⟩ := id hv
    obtain ⟨b, ws, rfl, q', l'⟩ := id hw
    exact ⟨a, b, us, ws, rfl, .inl ⟨.inl (.inl q), .inl (.inl q'), IterV.same k x j_zipL⟩⟩
  · cases e
    obtain ⟨v, w, rfl, hv, hw⟩ := V.two
    cases hv with
    | @tup a us _ q l => cases hw with
      | @tup b ws _ q' l' => exact ⟨a, b, us, ws, rfl, .inr (.inl ⟨x.t q, x.t q', IterV.same k x j_zipT⟩)⟩
  · cases e
    obtain ⟨v, w, rfl, hv, hw⟩ := V.two
    obtain ⟨a, us, rfl, q, l⟩ := id hv
    cases hw with
    | @tup b ws _ q' l' => exact ⟨a, b, us, ws, rfl, .inr (.inr ⟨.inl (.inl q), x.t q', IterV.same k x j_zm⟩)⟩
  · cases e
end
end Ev

namespace Ev
open PySem L2
section
variable {K : PySem.W.Frag} {c : Ctx} {F F1 F2 F3 F' H H1 H2 H3 H' : Hp} {v w : V} {vs : List V} {d e : D} {ds : List D} {Q : VK} {X : Cx} {σ : St} {ρ : Env}
theorem units65 {k : Nat} {A : Around} (r : Room k A) : A.units + 65 < cLine := by
  have := r.un
  omega
/-! ### isinstance -/
def D.tyN : D → Option String
  | .non => some "NoneType"
  | .bl _ => some "bool"
  | .int _ => some "int"
  | .str _ => some "str"
  | .tup _ => some "tuple"
  | .lst _ => some "list"
  | .dk _ _ => some "dict"
  | _ => none
def fIsi : List D → Option RB
  | [d, .ty n] => match d.tyN with
    | none => none
    | some t => match kitB t n with
      | none => none
      | some k => some (.d (.bl k))
  | _ => none
theorem View.tyx (x : Ex F H) (h : View K c F H v d) {t : String} (e : d.tyN = some t) : TyX K H v (.type t) := by
  cases d with
  | non => cases h; cases e; exact .base .non
  | bl _ => cases h; cases e; exact .base (.bl _)
  | int _ => cases h; cases e; exact .base (.int _)
  | str _ => cases h; cases e; exact .base (.str _)
  | lst xs => obtain ⟨a, us, rfl, q, _⟩ := h; cases e; exact .base (.lst q)
  | tup xs =>
    cases e
    cases h with
    | @tup a us _ q _ =>
      rcases q with (q | ⟨o, q⟩) | ⟨o, its, n, q, hc, _⟩
      · exact .base (.tup (x _ _ q))
      · exact .fTuple (x _ _ q)
      · exact .kTuple q hc
  | ro _ => cases e
  | obj _ _ => cases e
  | dk _ _ => cases e; cases h with | dk q _ _ => exact .base (.dK (x _ _ q))
  | ty _ => cases e
  | cls _ => cases e
theorem p_isi : Prim K c (rIsi K) fIsi := fun F H vs ds res Q x V e f => by
  unfold fIsi at e
  split at e
  · split at e
    · cases e
    · rename_i t ht
      split at e
      · cases e
      · rename_i k hk
        cases e
        obtain ⟨v, w, rfl, hv, hw⟩ := V.two
        cases hw
        exact ⟨v, _, _, _, k, rfl, .ty _, hv.tyx x ht, kit_ty hk, f.same x (.bl _)⟩
  · cases e
/-! ### (a, b) = e -/
theorem s_asgT {c : Ctx} {x : Stmt} {is : List Nat} {e : E} (h : PS X x (tAsg (tEv X.K c e) (tEvG X.K c (.t is)))) : PSv X c x (.asg (.t is) e) := PS.wk h fun D σ H ⟨F, ρ, R, P⟩ => by
  unfold evS at P
  refine sEv_bind R P fun F1 ρ1 H1 b v R1 g1 hb P1 => ?_
  split at P1
  · rename_i ds ρ2 e1
    obtain ⟨F2, R2, g2, hd⟩ := B.keep_ok R g1 R1 hb e1
    refine ⟨F2, ρ2, .tup ds, R2, hd, ?_⟩
    show (match bndAll ρ2 is ds with | none => False | some ρ' => _)
    split at P1
    · rename_i q
      try rw [q]
      exact P1
    · rename_i ρ3 q
      try rw [q]
      exact fun σ' R3 g3 _ _ _ => P1 F2 σ' H1 R3 (g2.go.trans g3)
  · exact P1.elim
/-- x[i], x[j] = e -/
theorem setAt_go {F F2 H H2 : Hp} {ρ ρ2 : Env} {σ : St} {i : Nat} {ix : E} {v : V} {d : D} {D' : Ends} {k : Env → Res Flow} {Q : St → Hp → Prop} (R : Rel K c F ρ σ H) (g : GoE K c σ F ρ H F2 ρ2 H2) (R2 : Rel K c F2 ρ2 σ H2) (hd : Den K c.CL F2 v d)
    (P : PostS K c F ρ σ H (setAt (evE ix) i d ρ2 k) D') (q : ∀ F3 ρ3 H3, Ex F2 F3 → Rel K c F3 ρ3 σ H3 → GoE K c σ F ρ H F3 ρ3 H3 → PostS K c F ρ σ H (k ρ3) D' → Q σ H3) : gSub (tVar i) (tEv K c ix) rSetL v σ H2 Q := by
  unfold setAt at P
  split at P
  · rename_i xs0 e2
    obtain ⟨a, us0, w, q1, q2, q3⟩ := R2.slot e2
    refine ⟨.ref a, w, F2, ρ2, R2, (P.bind.rebase g).imp fun F3 ρ3 H3 k1 R3 g3 q' u hk => ?_⟩
    obtain ⟨g03, P3⟩ := q'
    split at P3
    · rename_i z ez
      have hz := hk.view R3 ez
      cases hz
      split at P3
      · rename_i xs e3
        obtain ⟨a', us, w', z1, z2, z3⟩ := R3.slot e3
        rw [w] at w'
        cases w'
        split at P3
        · exact P3.elim
        · rename_i j ej
          refine ⟨a, us, z, j, rfl, rfl, z1, by rw [z3.length]; exact ej, ?_⟩
          obtain ⟨R4, g4⟩ := R3.setow e3 w (DenL.set (Den.mono g3.f _ hd) j z3)
          exact q F3 _ _ g3.f R4 (g03.trans g4) P3
      · exact P3.elim
    · exact P3.elim
  · exact P.elim
theorem s_seti2 {c : Ctx} {x : Stmt} {i : Nat} {ix1 ix2 e : E} (h : PS X x (tAsg (tEv X.K c e) (gTup X.K 2 (gCons (gSub (tVar i) (tEv X.K c ix1) rSetL) (gCons (gSub (tVar i) (tEv X.K c ix2) rSetL) gNil))))) : PSv X c x (.seti2 i ix1 ix2 e) := PS.wk h fun D σ H ⟨F, ρ, R, P⟩ => by
  unfold evS at P
  refine sEv_bind R P fun F1 ρ1 H1 b v R1 g1 hb P1 => ?_
  split at P1
  · rename_i d1 d2 ρ2 e1
    obtain ⟨F2, R2, g2, hd⟩ := B.keep_ok R g1 R1 hb e1
    cases hd with
    | @tup a us _ hs l =>
      cases l with
      | @cons v1 vs1 _ _ h1 l =>
        cases l with
        | @cons v2 vs2 _ _ h2 l =>
          cases l
          refine ⟨a, _, rfl, R2.ex.t hs, rfl, _, _, rfl, setAt_go R g2 R2 h1 P1 fun F3 ρ3 H3 x3 R3 g3 P3 => ⟨_, _, rfl, setAt_go R g3 R3 (Den.mono x3 _ h2) P3 fun F4 ρ4 H4 x4 R4 g4 P4 => ⟨rfl, P4 F4 σ _ R4 g4.go⟩⟩⟩
  · exact P1.elim
/-- x = [..], on one line -/
theorem s_setLc {c : Ctx} {x : Stmt} {i : Nat} {tg : Tg} {f : List D → Option (List D)} {as : Es} {oc : OT} {elt : E} {ows : List Nat} {r : List V → Hp → (It → Hp → Prop) → Prop} (p : IterV X.K c r f)
    (h : PS X x (tAsg (tLc (tIA (tEvA X.K c as) r) (tEvG X.K c.noE tg) (tEvO X.K c.noE oc) (tEv X.K c.noE elt) ows) (gName i))) : PSv X c x (.asg (.n i) (.lc ows tg f as oc elt)) := s_asg h fun _ _ _ q => lc_go p q
/-! ### f() -/
theorem e_call0 {c : Ctx} {x : Expr} {g : Fn} {E : XK} (h : PE X x (tCall (spF X.K c.CL g 0) [] E tNil)) (hl : (0 : Nat) = 0) (hE : ∀ C d H, c.E C d H → E C d H) : PEv X c x (.call g .nil) := PE.wk h fun σ H Q q => by
  obtain ⟨F, ρ, R, P⟩ := call_go hE q rfl
  exact P F H R (GoE.refl ..) [] .nil
end
end Ev

namespace Ev
open PySem L2 PyProof.Rows PySem.W
/-! ### sorted(xs), items that are alike data -/
theorem each_vals {β : Type} {f : β → V} : ∀ {bs : List β} {us : List Value}, Vals (bs.map f) us → EachIs (fun u b => RelV (f b) u) us bs
  | [], _, h => by cases h; exact .nil
  | b :: bs, _, h => by
    cases h with
    | cons r t => exact .cons r (each_vals t)
theorem vals_each {β : Type} {f : β → V} : ∀ {bs : List β} {us : List Value}, EachIs (fun u b => RelV (f b) u) us bs → Vals (bs.map f) us
  | [], _, h => by cases h; exact .nil
  | b :: bs, _, h => by
    cases h with
    | cons r t => exact .cons r (vals_each t)
def rSortD (K : PySem.W.Frag) : List V → Hp → VK → Prop := fun vs H Q => ∃ (a : Addr) (bs : List (V × PyData)), vs = [V.ref a] ∧ SqL K H a (bs.map fun b => b.1) ∧ (∀ b ∈ bs, Dp K H b.1 b.2) ∧
  AllAlike (bs.map fun b => b.2) ∧ Sortable (bs.map fun b => b.2) ∧ (∀ b ∈ bs, b.2.depth ≤ 60) ∧
  ∀ p : Addr, H p = none → Q (.ref p) (upd H p (.lst ((bs.mergeSort (dataLe false fun b => b.2)).map fun b => b.1)))
theorem cr_sortD {X : Cx} (hu : X.A.units + 65 < cLine) : CallR X (.builtin "sorted") (rSortD X.K) := by
  intro pins s σ H vs us Q I r h
  obtain ⟨a, bs, rfl, hs, hd, hal, hk, hdp, q⟩ := h
  obtain ⟨its, rv, hl, hz⟩ := I.list hs
  rw [Vals.ref1 r]
  have e := each_vals rv
  have er : EachIs (fun v b => ∃ as, Reads s.heap v (b.2) as) its bs := (each_mem e).mono fun u b m => Dp.reads I b.2 b.1 u (hd b m.2) m.1
  have hz' : bs.length ≤ sizeLine := by
    rw [List.length_map] at hz
    exact hz
  refine PySem.W.sorted_data (enc := fun b : V × PyData => b.2) hl.isList e er hal hk hz' (fun b m => by have := hdp b m; omega) fun out h1 h2 => ?_
  obtain ⟨ep, he'⟩ := PyProof.Rows.sortedAll_at s.heap its out.toArray
  have hlen : (((bs.mergeSort (dataLe false fun b => b.2)).map fun b => b.1) : List V).length ≤ sizeLine := by
    rw [List.length_map, List.length_mergeSort]
    exact hz'
  exact ⟨.ref _, upd H (s.heap.objs.size + 1) (.lst ((bs.mergeSort (dataLe false fun b => b.2)).map fun b => b.1)), I.laid (t' := s.toks) (fun _ _ => PyProof.Rows.sortedAll_old) (Nat.le_succ _) ⟨hlen, out, ep, vals_each h2, he'⟩, rfl, q _ (I.hok.fresh (Nat.le_succ _))⟩

section
variable {K : PySem.W.Frag} {c : Ctx} {F F' H H' : Hp} {v w : V} {vs : List V} {d e : D} {ds : List D} {Q : VK}
def alikeB (ps : List PyData) : Bool := ps.all fun p => ps.all fun q => alike p q
def isT1 : PyData → Bool
  | .tuple (_ :: _) => true
  | _ => false
def isNT : PyData → Bool
  | .none => false
  | .tuple _ => false
  | _ => true
def sortB (ps : List PyData) : Bool := ps.all isT1 || ps.all isNT
def deepB (ps : List PyData) : Bool := ps.all fun p => decide (p.depth ≤ 60)
theorem alikeB_ok {ps : List PyData} (h : alikeB ps = true) : AllAlike ps := fun p hp q hq => List.all_eq_true.mp (List.all_eq_true.mp h p hp) q hq
theorem sortB_ok {ps : List PyData} (h : sortB ps = true) : Sortable ps := by
  unfold sortB at h
  rcases Bool.or_eq_true _ _ |>.mp h with h | h
  · refine .inl fun p hp => ?_
    have := List.all_eq_true.mp h p hp
    unfold isT1 at this
    split at this
    · exact ⟨_, _, rfl⟩
    · cases this
  · refine .inr fun p hp => ?_
    have := List.all_eq_true.mp h p hp
    unfold isNT at this
    split at this
    · cases this
    · cases this
    · rename_i a b
      exact ⟨a, fun xs => b xs⟩
def D.pyd (d : D) : PyData := d.py.getD .none
theorem pys_map : ∀ {ds : List D} {ps : List PyData}, D.pys ds = some ps → ps = ds.map D.pyd ∧ ∀ d ∈ ds, ∃ p, d.py = some p
  | [], _, e => by cases e; exact ⟨rfl, fun _ h => by cases h⟩
  | d :: ds, ps, e => by
    unfold D.pys at e
    split at e
    · cases e
    · rename_i p q
      split at e
      · cases e
      · rename_i ps' q2
        cases e
        obtain ⟨h1, h2⟩ := pys_map q2
        refine ⟨?_, fun d' m => ?_⟩
        · rw [h1, List.map_cons]
          unfold D.pyd
          rw [q]
          rfl
        · rcases List.mem_cons.mp m with rfl | m
          · exact ⟨p, q⟩
          · exact h2 d' m
/-- the order of data -/
def leD : D → D → Bool := dataLe false D.pyd
def sorted? (xs : List D) : Option (List D) := match D.pys xs with
  | none => none
  | some ps => if alikeB ps && sortB ps && deepB ps then some (xs.mergeSort leD) else none
def fSorted : List D → Option RB
  | [.lst xs] => match sorted? xs with
    | some ys => some (.nw ys)
    | none => none
  | [.ro xs] => match sorted? xs with
    | some ys => some (.nw ys)
    | none => none
  | _ => none
theorem denL_zip : ∀ {vs : List V} {ds : List D}, DenL K c.CL F vs ds → ∀ t ∈ vs.zip ds, Den K c.CL F t.1 t.2
  | _, _, .nil, t, m => by cases m
  | _, _, .cons h l, t, m => by
    rw [List.zip_cons_cons] at m
    rcases List.mem_cons.mp m with rfl | m
    · exact h
    · exact denL_zip l t m
theorem denL_of : ∀ {ts : List (V × D)}, (∀ t ∈ ts, Den K c.CL F t.1 t.2) → DenL K c.CL F (ts.map fun t => t.1) (ts.map fun t => t.2)
  | [], _ => .nil
  | t :: ts, h => .cons (h t List.mem_cons_self) (denL_of fun s m => h s (List.mem_cons_of_mem _ m))
theorem sorted_go {xs ys : List D} (x : Ex F H) (l : DenL K c.CL F vs xs) (e : sorted? xs = some ys) : ∃ bs : List (V × PyData), (bs.map fun b => b.1) = vs ∧ (∀ b ∈ bs, Dp K H b.1 b.2) ∧
    AllAlike (bs.map fun b => b.2) ∧ Sortable (bs.map fun b => b.2) ∧ (∀ b ∈ bs, b.2.depth ≤ 60) ∧ DenL K c.CL F ((bs.mergeSort (dataLe false fun b => b.2)).map fun b => b.1) ys := by
  unfold sorted? at e
  split at e
  · cases e
  · rename_i ps q
    split at e
    · rename_i hb
      cases e
      obtain ⟨hb, b3⟩ := Bool.and_eq_true _ _ |>.mp hb
      obtain ⟨b1, b2⟩ := Bool.and_eq_true _ _ |>.mp hb
      obtain ⟨e1, e2⟩ := pys_map q
      have hl := l.length
      have m1 : (vs.zip xs).map (fun t => t.1) = vs := List.map_fst_zip (by omega)
      have m2 : (vs.zip xs).map (fun t => t.2) = xs := List.map_snd_zip (by omega)
      have hz := denL_zip l
      let g : V × D → V × PyData := fun t => (t.1, t.2.pyd)
      have hp2 : ((vs.zip xs).map g).map (fun b => b.2) = ps := by
        rw [e1, List.map_map]
        show (vs.zip xs).map (fun t => t.2.pyd) = _
        rw [show (fun t : V × D => t.2.pyd) = D.pyd ∘ (fun t => t.2) from rfl, ← List.map_map, m2]
      have hs : ((vs.zip xs).map g).mergeSort (dataLe false fun b => b.2) = ((vs.zip xs).mergeSort (dataLe false fun t => t.2.pyd)).map g := (List.map_mergeSort (f := g) (r := dataLe false fun t : V × D => t.2.pyd) (s := dataLe false fun b : V × PyData => b.2) fun _ _ _ _ => rfl).symm
      refine ⟨(vs.zip xs).map g, ?_, fun b m => ?_, ?_, ?_, fun b m => ?_, ?_⟩
      · rw [List.map_map]
        exact m1
      · obtain ⟨t, ht, rfl⟩ := List.mem_map.mp m
        have hm : t.2 ∈ xs := by rw [← m2]; exact List.mem_map.mpr ⟨t, ht, rfl⟩
        obtain ⟨p, hp⟩ := e2 _ hm
        have : t.2.pyd = p := by unfold D.pyd; rw [hp]; rfl
        show Dp K H t.1 t.2.pyd
        rw [this]
        exact dp_mono x (den_dp _ hp (hz t ht))
      · rw [hp2]; exact alikeB_ok b1
      · rw [hp2]; exact sortB_ok b2
      · have : b.2 ∈ ps := by rw [← hp2]; exact List.mem_map.mpr ⟨b, m, rfl⟩
        exact of_decide_eq_true (List.all_eq_true.mp b3 _ this)
      · rw [hs, List.map_map]
        have h1 : DenL K c.CL F (((vs.zip xs).mergeSort (dataLe false fun t => t.2.pyd)).map fun t => t.1) (((vs.zip xs).mergeSort (dataLe false fun t => t.2.pyd)).map fun t => t.2) := denL_of fun t m => hz t (List.mem_mergeSort.mp m)
        have h2 : ((vs.zip xs).mergeSort (dataLe false fun t => t.2.pyd)).map (fun t => t.2) = xs.mergeSort leD := by
          rw [List.map_mergeSort (f := fun t : V × D => t.2) (r := dataLe false fun t : V × D => t.2.pyd) (s := leD) (fun _ _ _ _ => rfl), m2]
        rw [h2] at h1
        exact h1
    · cases e
theorem p_sorted : Prim K c (rSortD K) fSorted := fun F H vs ds res Q x V e f => by
  unfold fSorted at e
  split at e
  · split at e
    · rename_i ys hy
      cases e
      cases V with
      | cons v1 t => cases t; obtain ⟨a, us, rfl, q1, l1⟩ := v1; obtain ⟨bs, h1, h2, h3, h4, h5, h6⟩ := sorted_go x l1 hy; exact ⟨a, bs, rfl, by rw [h1]; exact .inl (.inl q1), h2, h3, h4, h5, fun p hp => f.newL x hp h6⟩
    · cases e
  · split at e
    · rename_i ys hy
      cases e
      cases V with
      | cons v1 t => cases t; cases v1 with | @ro a us _ q1 l1 => obtain ⟨bs, h1, h2, h3, h4, h5, h6⟩ := sorted_go x l1 hy; exact ⟨a, bs, rfl, by rw [h1]; exact x.l q1, h2, h3, h4, h5, fun p hp => f.newL x hp h6⟩
    · cases e
  · cases e
end
end Ev

namespace Ev
open PySem L2 PyProof.Rows
/-! ### set(xs), ints: as the library's set of a tuple, here of a list -/
section
variable {P : Program} {w : World} {A : Around} {E : Value → Shared → Prop} {s : Shared}
/-- a set as it is born -/
abbrev born (w : World) : Obj := { cls := .type "set", dict := none, data := .set #[] 0 (.fresh 0 0 (!w.params.followText "set-order")) }
set_option maxHeartbeats 3200000 in
theorem set_list_ints {l : Addr} {its : Array Value} (ns : List Int) {Q : Value → Shared → Prop} (hh : A.handled = none) (hl : s.heap.IsList l its) (hi : IntsAre its.toList ns) (hb : ns.length + 1 < scanBound)
    (h : ∀ (h' : Heap) (tk c : Nat), SetR w h' s.heap.objs.size (fun j => decide (j ∈ ns)) c → c ≤ ns.length → (∀ b o, s.heap.get? b = some o → h'.get? b = some o) → Q (.ref s.heap.objs.size) { s with heap := h', toks := tk }) :
    wpAny (model P w) A (call (.type "set") [.ref l]) Q E s := by
  have hz : its.size = ns.length := by have q := IntsAre.length hi; rw [Array.length_toList] at q; exact q
  obtain ⟨c0, tl0, hmro⟩ := F.called_set.mro
  have hmade := F.called_set.made; have hsub := F.called_set.sub
  refine wpAny_call (codeAny_of_tree (show wpAny _ _ (callAny (.type "set") _) _ _ _ from wpAny_pure ⟨Code.quiet_builtin _ (by decide +kernel), codeAny_builtin F.entry_type_call ?_⟩))
  rw [Around.under_plain (weight_type_call_type "set" [.ref l] []) rfl]
  have h1 := F.called_set.notType; have h2 := F.called_set.canCreate; have hct := F.typeCall_set_1 (.ref l)
  repeat (any_goals (first | assumption | wp_step))
  refine codeAny_mono (code_set_led1 (.ref l) (E := E) (Q₁ := fun ob s1 => ob = .ref s.heap.objs.size ∧ s1 = { s with heap := s.heap.push (born w) }) ⟨rfl, rfl⟩) fun r s1 hr => ?_
  rcases r with e | fl
  · exact hr
  cases fl with
  | ret ob =>
    obtain ⟨rfl, rfl⟩ := hr
    have hS : (s.heap.push (born w)).get? s.heap.objs.size = some (born w) := Heap.get?_push_size _ rfl
    have hT : Shared.TypeIs { s with heap := s.heap.push (born w) } (.ref s.heap.objs.size) "set" := ⟨_, hS, rfl⟩
    have hli := F.called_set.init.lookup; have hbi := F.called_set.init.bind (.ref s.heap.objs.size)
    repeat (any_goals (first | assumption | wp_step))
    refine codeAny_mono (codeAny_call_builtin (R := wants (fun r s2 => r = .none ∧ ∃ h' tk c, s2 = { s with heap := h', toks := tk } ∧ SetR w h' s.heap.objs.size (fun j => decide (j ∈ ns)) c ∧ c ≤ ns.length ∧ (∀ b o, s.heap.get? b = some o → h'.get? b = some o)) E) F.called_set.init.plain F.entry_set_init (check_set_init_1 hT ?_)) fun r2 s2 hr2 => ?_
    · obtain ⟨⟨oc, od, odt, osl⟩, hol, hcl, nl, hdl⟩ := hl
      simp only at hcl hdl
      subst hcl; subst hdl
      have hl1 : (s.heap.push (born w)).IsList l its := ⟨_, Heap.get?_push_of_some _ hol, rfl, nl, rfl⟩
      have hol1 := Heap.get?_push_of_some (born w) hol
      have ha := F.sub_list_set; have hc := F.sub_list_frozenset; have hd : (Value.type "list" == Value.type "dict") = false := by decide
      unfold Builtin.«set.__init__» noKeywords Builtin.Frozenset.updateFrom
      generalize hPI : pyIter = PI
      wp_walk
      subst hPI
      refine wpAny_pyIter_list hl1 (wpAny_bind (wpAny_runValue ?_))
      have hlt : l < s.heap.objs.size := Heap.lt_size hol
      have h3 : A.in1.in1.in1.handled = none := by simp [hh]
      have hp : (s.heap.push (born w)).objs.size = s.heap.objs.size + 1 := Heap.size_push ..
      have hv : ∀ (i : Nat) (v : Value), its[i]? = some v → ∃ k t, ns[i]? = some k ∧ v = .int k t := fun i v hv => by
        have hlen : i < ns.length := by rw [← hz]; exact (Array.getElem?_eq_some_iff.mp hv).1
        obtain ⟨t, e⟩ := IntsAre.int_at hi i v (by rw [Array.getElem?_toList]; exact hv)
        exact ⟨ns[i], t, List.getElem?_eq_getElem hlen, by rw [e, List.getD_eq_getElem?_getD, List.getElem?_eq_getElem hlen] <;> rfl⟩
      refine set_update_ints ((Walks.list h3 _ l (by rw [hp]; exact Nat.ne_of_lt (Nat.lt_succ_of_lt hlt)) its).toS) s.heap.objs.size (by rw [hp]; intro m; rcases List.mem_cons.mp m with m | m; exact absurd m (Nat.ne_of_lt (Nat.lt_succ_self _)); exact absurd (List.mem_singleton.mp m) (Nat.ne_of_gt hlt)) ns hz hb hv (its.size - 0) 0 _ (by omega) (Nat.zero_le _) ⟨⟨_, Heap.get?_push_size _ rfl, rfl, rfl⟩, (hl1.push _)⟩
        ⟨0, Nat.le_refl 0, setR_new_at (Heap.get?_push_of_some _ hS)⟩ fun s3 c3 hm hc3 hS3 => ?_
      obtain ⟨hp3, g3, d3, tk3, os3⟩ := s3
      obtain rfl : g3 = s.gens := hm.gens
      obtain rfl : d3 = s.drawn := hm.drawn
      obtain rfl : os3 = s.os := hm.os
      show wpAny _ _ _ _ _ _
      refine wpAny_pure (show wpAny _ _ (ret Value.none) _ _ _ from wpAny_pure ⟨rfl, hp3, tk3, c3, rfl, hS3, by rw [hz] at hc3; exact hc3, fun b o e => ?_⟩)
      have hb0 : b < s.heap.objs.size := Heap.lt_size e
      exact hm.heap b o (by rw [hp]; intro m; rcases List.mem_cons.mp m with m | m; exact absurd m (Nat.ne_of_lt hb0); exact absurd (List.mem_singleton.mp m) (Nat.ne_of_lt (Nat.lt_succ_of_lt hb0))) (Heap.get?_push_of_some _ (Heap.get?_push_of_some _ e))
    · rcases r2 with e | fl2
      · exact hr2
      cases fl2 with
      | ret r =>
        obtain ⟨rfl, h', tk, c', rfl, a1, a2, a3⟩ := hr2
        repeat (any_goals (first | assumption | wp_step))
        exact h _ _ _ a1 a2 a3
      | _ => exact hr2.elim
  | _ => exact hr.elim
end
end Ev

namespace Ev
open PySem L2 PyProof.Rows
/-- one more into a rising list -/
def insS (k : Int) : List Int → List Int
  | [] => [k]
  | x :: xs => if k < x then k :: x :: xs else if k = x then x :: xs else x :: insS k xs
/-- the members, rising -/
def sdd (ns : List Int) : List Int := ns.foldr insS []
theorem mem_insS {k j : Int} : ∀ {l : List Int}, j ∈ insS k l ↔ j = k ∨ j ∈ l
  | [] => by simp [insS]
  | x :: xs => by
    unfold insS
    split
    · simp
    · split
      · rename_i e; subst e; simp
      · simp only [List.mem_cons, mem_insS (l := xs)]
        constructor
        · rintro (h | h | h)
          · exact .inr (.inl h)
          · exact .inl h
          · exact .inr (.inr h)
        · rintro (h | h | h)
          · exact .inr (.inl h)
          · exact .inl h
          · exact .inr (.inr h)
theorem insS_rise {k : Int} : ∀ {l : List Int}, l.Pairwise (· < ·) → (insS k l).Pairwise (· < ·)
  | [], _ => by simp [insS]
  | x :: xs, h => by
    obtain ⟨h1, h2⟩ := List.pairwise_cons.mp h
    unfold insS
    split
    · rename_i e
      refine List.pairwise_cons.mpr ⟨fun y m => ?_, h⟩
      rcases List.mem_cons.mp m with rfl | m
      · exact e
      · exact Int.lt_trans e (h1 y m)
    · split
      · exact h
      · rename_i a b
        refine List.pairwise_cons.mpr ⟨fun y m => ?_, insS_rise h2⟩
        rcases mem_insS.mp m with rfl | m
        · omega
        · exact h1 y m
theorem mem_sdd {j : Int} : ∀ {ns : List Int}, j ∈ sdd ns ↔ j ∈ ns
  | [] => by simp [sdd]
  | n :: ns => by
    show j ∈ insS n (sdd ns) ↔ _
    rw [mem_insS, mem_sdd, List.mem_cons]
theorem sdd_rise : ∀ (ns : List Int), (sdd ns).Pairwise (· < ·)
  | [] => List.Pairwise.nil
  | n :: ns => insS_rise (sdd_rise ns)
theorem rise_unique : ∀ {l m : List Int}, l.Pairwise (· < ·) → m.Pairwise (· < ·) → (∀ k, k ∈ l ↔ k ∈ m) → l = m
  | [], [], _, _, _ => rfl
  | [], y :: m, _, _, h => by have := (h y).mpr List.mem_cons_self; cases this
  | x :: l, [], _, _, h => by have := (h x).mp List.mem_cons_self; cases this
  | x :: l, y :: m, hl, hm, h => by
    obtain ⟨a1, a2⟩ := List.pairwise_cons.mp hl
    obtain ⟨b1, b2⟩ := List.pairwise_cons.mp hm
    have e : x = y := by
      rcases List.mem_cons.mp ((h x).mp List.mem_cons_self) with e | e
      · exact e
      · rcases List.mem_cons.mp ((h y).mpr List.mem_cons_self) with e' | e'
        · exact e'.symm
        · have := a1 y e'
          have := b1 x e
          omega
    subst e
    congr 1
    refine rise_unique a2 b2 fun k => ⟨fun m => ?_, fun m => ?_⟩
    · rcases List.mem_cons.mp ((h k).mp (List.mem_cons_of_mem _ m)) with rfl | z
      · exact absurd (a1 k m) (Int.lt_irrefl _)
      · exact z
    · rcases List.mem_cons.mp ((h k).mpr (List.mem_cons_of_mem _ m)) with rfl | z
      · exact absurd (b1 k m) (Int.lt_irrefl _)
      · exact z
theorem sdd_nodup (ns : List Int) : (sdd ns).Nodup := (sdd_rise ns).imp fun h e => by omega
theorem setR_count {w : World} {h : Heap} {a : Addr} {ns : List Int} {c : Nat} (R : SetR w h a (fun j => decide (j ∈ ns)) c) : c = (sdd ns).length := by
  obtain ⟨o, es, ep, t, ho, hex, hdt, g, nd, hm2, hb, hf, hn, hr, hl2⟩ := R
  have p : (es.toList.map keyOf).Perm (sdd ns) := (List.perm_ext_iff_of_nodup nd (sdd_nodup ns)).mpr fun k => by rw [← hm2 k, decide_eq_true_eq, mem_sdd]
  have := p.length_eq
  rw [List.length_map, Array.length_toList] at this
  omega
/-- set(xs), ints -/
def rSetI (K : PySem.W.Frag) (w : World) : List V → Hp → VK → Prop := fun xs H Q => ∃ (a : Addr) (ns : List Int), xs = [V.ref a] ∧ (SqL K H a (ns.map V.int) ∨ SqT K H a (ns.map V.int)) ∧ ns.length < 4000 ∧
  ∀ (p : Addr) (n : Nat), H p = none → n = (sdd ns).length → Q (.ref p) (upd H p (SetO w p (fun j => decide (j ∈ ns)) n))
theorem cr_setI {X : Cx} (hc : X.calm = true) : CallR X (.type "set") (rSetI X.K X.w) := by
  intro pins s σ H vs us Q I r h
  obtain ⟨a, ns, rfl, hs, hl, q⟩ := h
  have hd := I.ok.hd hc
  have hb : ns.length + 1 < scanBound := by unfold scanBound; omega
  rw [Vals.ref1 r]
  have fin : ∀ (h' : Heap) (tk c : Nat), SetR X.w h' s.heap.objs.size (fun j => decide (j ∈ ns)) c → c ≤ ns.length → (∀ b o, s.heap.get? b = some o → h'.get? b = some o) →
      (fun v s' => ∃ x H', Inv X pins σ H' s' ∧ RelV x v ∧ Q x H') (.ref s.heap.objs.size) { s with heap := h', toks := tk } := fun h' tk c R hc k =>
    ⟨.ref _, upd H s.heap.objs.size (SetO X.w s.heap.objs.size (fun j => decide (j ∈ ns)) c), I.laid (t' := tk) (fun b u e => k b u e) (Nat.le_refl _) (setO_new R), rfl, q _ c (I.hok.fresh (Nat.le_refl _)) (setR_count R)⟩
  rcases hs with hs | hs
  · obtain ⟨its, rv, pt, _⟩ := I.list hs
    exact set_list_ints (its := its.toArray) ns hd pt.isList (ints_of_vals rv) hb fin
  · obtain ⟨its, rv, pt, _⟩ := I.tuple hs
    exact call_set_tupI ns hd (show s.heap.IsTuple a its.toArray from pt) (ints_of_vals rv) hb fin
def ints? : D → Option (List Int)
  | .lst xs => nums xs
  | .ro xs => nums xs
  | .tup xs => nums xs
  | _ => none
def fSortSet : List D → Option RB
  | [d] => match ints? d with
    | some ns => if ns.length < 4000 ∧ (sdd ns).length < 64 then some (.nw ((sdd ns).map D.int)) else none
    | none => none
  | _ => none
def rSortSet (K : PySem.W.Frag) (w : World) : List V → Hp → VK → Prop := fun xs H Q => rSetI K w xs H fun v H1 => rSortedSet w [v] H1 Q
section
variable {K : PySem.W.Frag} {c : Ctx} {F F' H H' : Hp} {v : V} {vs : List V} {d : D} {ds : List D} {Q : VK}
theorem denL_ints : ∀ (ns : List Int), DenL K c.CL F (ns.map V.int) (ns.map D.int)
  | [] => .nil
  | n :: ns => .cons (.int n) (denL_ints ns)
theorem View.ints {ns : List Int} (x : Ex F H) (h : View K c F H v d) (e : ints? d = some ns) : ∃ a, v = .ref a ∧ (SqL K H a (ns.map V.int) ∨ SqT K H a (ns.map V.int)) := by
  cases d with
  | lst xs => obtain ⟨a, us, rfl, q, l⟩ := h; exact ⟨a, rfl, .inl (by rw [← l.nums e]; exact .inl (.inl q))⟩
  | ro xs => cases h with | @ro a us _ q l => exact ⟨a, rfl, .inl (by rw [← l.nums e]; exact x.l q)⟩
  | tup xs => cases h with | @tup a us _ q l => exact ⟨a, rfl, .inr (by rw [← l.nums e]; exact x.t q)⟩
  | non => cases e
  | bl _ => cases e
  | int _ => cases e
  | str _ => cases e
  | obj _ _ => cases e
  | dk _ _ => cases e
  | ty _ => cases e
  | cls _ => cases e
theorem p_sortSet {w : World} : Prim K c (rSortSet K w) fSortSet := fun F H vs ds res Q x V e f => by
  unfold fSortSet at e
  split at e
  · split at e
    · rename_i ns hn
      split at e
      · rename_i h64
        cases e
        cases V with
        | cons v1 t =>
          cases t
          obtain ⟨a, rfl, hs⟩ := v1.ints x hn
          refine ⟨a, ns, rfl, hs, by omega, fun p n hp hle => ⟨p, _, n, rfl, upd_same, by omega, fun ns' p2 r1 r2 r3 hp2 => ?_⟩⟩
          have e1 : ns' = sdd ns := rise_unique r1 (sdd_rise ns) fun k => by rw [r2, mem_sdd]; simp
          subst e1
          have hne : p2 ≠ p := fun z => by subst z; rw [upd_same] at hp2; cases hp2
          have hp3 : H p2 = none := by rw [upd_ne hne] at hp2; exact hp2
          have x1 : Ex H (upd H p (SetO w p (fun j => decide (j ∈ ns)) n)) := Ex.new hp
          have x2 : Ex (upd H p (SetO w p (fun j => decide (j ∈ ns)) n)) (upd (upd H p (SetO w p (fun j => decide (j ∈ ns)) n)) p2 (.lst ((sdd ns).map V.int))) := Ex.new hp2
          refine f _ F _ (Ex.refl _) (x1.trans x2) (x.trans (x1.trans x2)) (fun _ e _ => e) ⟨p2, _, rfl, upd_same, ?_, denL_ints _, hp3⟩
          cases q : F p2 with
          | none => rfl
          | some o => rw [x p2 o q] at hp3; cases hp3
      · cases e
    · cases e
  · cases e
end
theorem e_sortSet {X : Cx} {c : Ctx} {x : Expr} {a : E} (h : PE X x (tCB (rSortedSet X.w) (tCons (tCB (rSetI X.K X.w) (tEvA X.K c (.cons a .nil))) tNil))) : PEv X c x (.prim fSortSet (.cons a .nil)) := PE.wk h fun _ _ Q q => prim_go (r := rSortSet X.K X.w) (f := fSortSet) (Q := Q) p_sortSet q
end Ev

namespace Ev
open PySem L2 PyProof.Rows
/-! ### x.f -/
/-- the attribute at place k of an instance of the class number n -/
def fFld (n k : Nat) : List D → Option RB
  | [.obj m xs] => if m = n then match xs[k]? with
      | some d => some (.d d)
      | none => none
    else none
  | _ => none
section
variable {K : PySem.W.Frag} {c : Ctx} {F F' H H' : Hp} {v : V} {vs : List V} {d : D} {ds : List D} {Q : VK}
theorem lookup_zip {f : Str} {v : V} : ∀ {fs : List Str} {vs : List V} {k : Nat}, fs.Nodup → fs[k]? = some f → vs[k]? = some v → (fs.zip vs).lookup f = some v
  | [], _, _, _, e, _ => by simp at e
  | _ :: _, [], _, _, _, e => by simp at e
  | g :: fs, u :: vs, 0, _, e, e2 => by
    simp at e e2
    subst e e2
    simp [List.lookup]
  | g :: fs, u :: vs, k + 1, nd, e, e2 => by
    obtain ⟨h1, h2⟩ := List.nodup_cons.mp nd
    have e' : fs[k]? = some f := by simpa using e
    have hm : f ∈ fs := List.mem_of_getElem? e'
    have hne : (f == g) = false := beq_eq_false_iff_ne.mpr fun z => h1 (z ▸ hm)
    rw [List.zip_cons_cons, List.lookup, hne]
    exact lookup_zip h2 e' (by simpa using e2)
/-- what the class number n must say of f -/
structure FldOk (K : PySem.W.Frag) (CL : Nat → Addr × List Str) (n k : Nat) (f : Str) : Prop where
  cls : Cls K (CL n).1
  no : NoAttr K (CL n).1 f
  nd : (CL n).2.Nodup
  at_ : (CL n).2[k]? = some f
theorem p_fld {n k : Nat} {f : Str} (ok : FldOk K c.CL n k f) : Prim K c (fun xs H Q => ∃ x, xs = [x] ∧ ∃ (a C dx : Addr) (fs : List (Str × V)) (v : V), x = .ref a ∧ H a = some (.ins C dx fs) ∧ Cls K C ∧ NoAttr K C f ∧ fs.lookup f = some v ∧ Q v H) (fFld n k) := fun F H vs ds res Q x V e fin => by
  unfold fFld at e
  split at e
  · split at e
    · rename_i hm
      subst hm
      split at e
      · rename_i d hd
        cases e
        cases V with
        | cons v1 t =>
          cases t
          cases v1 with
          | @obj a dx _ us _ h z l =>
            obtain ⟨w, hw, hdn⟩ := l.get hd
            exact ⟨_, rfl, a, _, dx, _, w, rfl, x _ _ h, ok.cls, ok.no, lookup_zip ok.nd ok.at_ hw, fin.same x hdn⟩
      · cases e
    · cases e
  · cases e
end
theorem e_fld {X : Cx} {c : Ctx} {x : Expr} {a : E} {f : Str} {n k : Nat} {pos : Pos} (ok : FldOk X.K c.CL n k f) (he : PEv X c x a) (hb : attributeBase x f X.env (eval x X.env) = eval x X.env := by rfl) : PEv X c (.Attribute x f pos) (.prim (fFld n k) (.cons a .nil)) :=
  PE.wk (pe_fld he hb) fun _ _ _ q => prim_go1 (p_fld ok) q
end Ev

namespace Ev
open PySem L2 PyProof.Rows
/-! ### x[::-1] of a list, of a tuple -/
theorem places_back (n : Nat) : Builtin.Slice.slicePlaces ((n : Int) - 1) (-1) (-1) = n := by
  unfold Builtin.Slice.slicePlaces
  have a : ¬ ((-1 : Int) > 0) := by omega
  have b : -(-1 : Int) = 1 := rfl
  simp only [a, if_false, b, Int.ediv_one]
  split <;> omega
theorem adjust_back (n : Nat) : Builtin.Slice.sliceAdjust none none (-1) (n : Int) = ((n : Int) - 1, -1) := by
  have a : (-1 : Int) < 0 := by omega
  unfold Builtin.Slice.sliceAdjust
  simp only [a, if_true]
theorem fm_congr {α β : Type} {f g : α → Option β} : ∀ (l : List α), (∀ m ∈ l, f m = g m) → l.filterMap f = l.filterMap g
  | [], _ => rfl
  | x :: l, h => by rw [List.filterMap_cons, List.filterMap_cons, h x List.mem_cons_self, fm_congr l fun m hm => h m (List.mem_cons_of_mem _ hm)]
theorem pick_back (xs : Array Value) : (List.range xs.size).filterMap (fun (m : Nat) => xs[((xs.size : Int) - 1 + (m : Int) * (-1)).toNat]?) = xs.toList.reverse := by
  have h1 : (List.range xs.size).filterMap (fun (m : Nat) => xs[((xs.size : Int) - 1 + (m : Int) * (-1)).toNat]?) = (List.range xs.size).map fun m => xs.toList.reverse.getD m .none := by
    rw [← List.filterMap_eq_map]
    refine fm_congr _ fun m hm => ?_
    have hm := List.mem_range.mp hm
    have e : ((xs.size : Int) - 1 + (m : Int) * (-1)).toNat = xs.size - 1 - m := by omega
    have hl : xs.toList.length = xs.size := Array.length_toList
    rw [e, Function.comp, List.getD_eq_getElem?_getD, List.getElem?_reverse (by omega), hl, Array.getElem?_toList, Array.getElem?_eq_getElem (by omega)]
    rfl
  rw [h1]
  refine List.ext_getElem (by simp) fun i a b => ?_
  rw [List.getElem_map, List.getElem_range, List.getD_eq_getElem?_getD, List.getElem?_eq_getElem b]
  rfl
section
variable {prog : Program} {w : World} {A : Around} {E : Value → Shared → Prop} {s : Shared}
theorem applied_back {sl : Addr} {vl vu vs : Value} {n : Nat} {Q : Int × Int × Nat → Shared → Prop} (hs : s.heap.IsSliceOf sl vl vu vs) (pl : IsPart vl none) (pu : IsPart vu none) (ps : IsPart vs (some (-1)))
    (h : Q ((n : Int) - 1, -1, n) s) : wpAny (model prog w) A (Builtin.Slice.sliceApplied (.ref sl) (pure (n : Int))) Q E s := by
  obtain ⟨os, hos, _, hds⟩ := id hs
  unfold Builtin.Slice.sliceApplied Builtin.Slice.sliceFields
  refine wpAny_bind (wpAny_bind (wpAny_field hos hds (x := vl) rfl (wpAny_bind (wpAny_field hos hds (x := vu) rfl (wpAny_bind (wpAny_field hos hds (x := vs) rfl (wpAny_pure ?_)))))))
  refine wpAny_bind (HT.slicePart_ ps ?_)
  show wpAny _ _ (if ((-1 : Int) == 0) = true then _ else _) _ _ s
  rw [if_neg (by decide)]
  refine wpAny_bind (HT.slicePart_ pl (wpAny_bind (HT.slicePart_ pu (wpAny_bind (wpAny_pure ?_)))))
  show wpAny _ _ (match Builtin.Slice.sliceAdjust none none (-1) (n : Int) with | (lo, hi) => pure (lo, (-1 : Int), Builtin.Slice.slicePlaces lo hi (-1))) _ _ s
  rw [adjust_back]
  show wpAny _ _ (pure ((n : Int) - 1, (-1 : Int), Builtin.Slice.slicePlaces ((n : Int) - 1) (-1) (-1))) _ _ s
  rw [places_back]
  exact wpAny_pure h
theorem item_back {t sl : Addr} {its : Array Value} {vl vu vs : Value} {Q : Value → Shared → Prop} (ht : IsTup s.heap t its) (hs : s.heap.IsSliceOf sl vl vu vs) (pl : IsPart vl none) (pu : IsPart vu none) (ps : IsPart vs (some (-1)))
    (h : Q (.ref s.heap.objs.size) { s with heap := s.heap.push { cls := .type "tuple", data := .seq its.toList.reverse.toArray } }) (hz : its.size ≤ sizeLine) : wpAny (model prog w) A (getItem (.ref t) (.ref sl)) Q E s := by
  have hok : sizeOk (.seq its.toList.reverse.toArray) := by show its.toList.reverse.toArray.size ≤ sizeLine; rw [List.size_toArray, List.length_reverse, Array.length_toList]; exact hz
  have hT : s.TypeIs (.ref sl) "slice" := by obtain ⟨os, hos, hcs, _⟩ := id hs; exact ⟨os, hos, hcs⟩
  unfold getItem
  try with_reducible refine wpAny_holding ?_
  first | refine wpAny_bind (wpAny_pure ?_) | skip
  refine wpAny_bind (wpAny_sequenceKey ht.typeIs (by decide) (wpAny_bind (wpAny_callSpecial?_slot (name := Str.ofString "__getitem__") ht.typeIs PyProof.Rows.slot_tuple_getitem (wpAny_call_entry PyProof.Rows.slot_tuple_getitem ht.typeIs entry_tuple_getitem ?_ (args_tuple_getitem _ _)))))
  refine (show wpAny _ _ (Builtin.Tuple.tupleItemsOf (.ref t) >>= _) _ _ s from wpAny_bind (tupleItemsOf_ ht (wpAny_bind (wpAny_typeOf hT ?_))))
  rw [if_pos (by decide)]
  refine wpAny_bind (applied_back hs pl pu ps ?_)
  have hno : ¬ ((((its.size : Int) - 1 == 0) && ((-1 : Int) == 1) && its.size == its.size) = true) := by
    intro q
    rw [Bool.and_eq_true, Bool.and_eq_true] at q
    exact absurd q.1.2 (by decide)
  show wpAny _ _ (if (((its.size : Int) - 1 == 0) && ((-1 : Int) == 1) && its.size == its.size) = true then _ else _) _ _ s
  rw [if_neg hno, pick_back]
  first
    | exact wpAny_bind (m := Builtin.Tuple.tupleExact _) (wpAny_newObj_type (wpAny_pure ⟨_, rfl, wpAny_pure h⟩) hok)
    | exact wpAny_bind (m := Builtin.Tuple.tupleExact _) (wpAny_newObj_type (wpAny_bind (wpAny_pure (wpAny_pure ⟨_, rfl, wpAny_pure h⟩))) hok)
    | exact wpAny_bind (wpAny_bind (m := Builtin.Tuple.tupleExact _) (wpAny_newObj_type (wpAny_pure (wpAny_pure ⟨_, rfl, wpAny_pure h⟩)) hok))
    | exact wpAny_bind (wpAny_bind (m := Builtin.Tuple.tupleExact _) (wpAny_newObj_type (wpAny_pure ⟨_, rfl, wpAny_pure h⟩) hok))
end
section
variable {X : Cx}
def tBack (K : PySem.W.Frag) (te : TE) : TE := fun σ H Q => te σ H fun x H1 => ∃ a xs, x = .ref a ∧ ((SqL K H1 a xs ∧ ∀ p, H1 p = none → Q (.ref p) (upd H1 p (.lst xs.reverse))) ∨ (SqT K H1 a xs ∧ ∀ p, H1 p = none → Q (.ref p) (upd H1 p (.tup xs.reverse))))
theorem pe_back {e : Expr} {te : TE} {k : Nat} {p1 p2 p3 pos : Pos} (he : PE X e te) : PE X (.Subscript e (.Slice none none (some (.UnaryOp .USub (.Constant (.int 1) k p1) p2)) p3) pos) (tBack X.K te) := by
  refine ⟨fun pins s σ H Q I h => Subscript_ (thn (he.run pins s σ H _ I h) fun v s1 ⟨x, H1, I1, r1, a, xs, ex, q⟩ => ?_)⟩
  subst ex; cases r1
  have hst : PO X (some (.UnaryOp .USub (.Constant (.int 1) k p1) p2)) (tPart (tUn (rU fun i => .int (-i)) (tC (.int 1)))) := po_some (pe_un un_neg pe_int)
  refine wpAny_Slice (thn (po_none.run pins s1 σ H1 (fun o H2 => o = none ∧ H2 = H1) I1 ⟨rfl, rfl⟩) fun vl s2 ⟨l, H2, I2, pl, el, e2⟩ => thn (po_none.run pins s2 σ H2 (fun o H3 => o = none ∧ H3 = H2) I2 ⟨rfl, rfl⟩) fun vu s3 ⟨u, H3, I3, pu, eu, e3⟩ => thn (hst.run pins s3 σ H3 (fun o H4 => o = some (-1) ∧ H4 = H3) I3 ⟨1, rfl, -1, rfl, rfl, rfl⟩) fun vs s4 ⟨o, H4, I4, ps, eo, e4⟩ => ?_)
  subst el e2 eu e3 eo e4
  have I5 : Inv X pins σ H4 { s4 with heap := s4.heap.push { cls := .type "slice", data := .fields #[vl, vu, vs] } } := I4.kept (t' := s4.toks) fun b ob q => Heap.get?_push_of_some _ q
  show wpAny (model X.prog X.w) X.A (subscriptTail e (.Slice none none (some (.UnaryOp .USub (.Constant (.int 1) k p1) p2)) p3) (.ref a) (.ref s4.heap.objs.size)) (EP X pins σ Q) X.xe { s4 with heap := s4.heap.push { cls := .type "slice", data := .fields #[vl, vu, vs] } }
  rcases q with ⟨hx, q⟩ | ⟨hx, q⟩
  · obtain ⟨its, r, ht, hz⟩ := I5.list hx
    have hlen := r.length
    refine tail_any (ops := [.ref a, .ref s4.heap.objs.size]) ht.isList.typeIs (PySem.slot_list_getitem.lookup) (wpAny_getItem_list_slice ht.isList (Heap.IsSliceOf.new _ vl vu vs) pl pu ps (by decide) ?_ (by rw [List.size_toArray]; omega)) (by with_unfolding_all rfl)
    rw [PySem.W.krv_pick]
    exact ⟨.ref _, _, I5.laid (t' := s4.toks) (o := .lst xs.reverse) (fun b ob q => Heap.get?_push_of_some _ q) (Nat.le_refl _) ⟨by rw [List.length_reverse]; exact hz, _, 0, r.reverse, Heap.get?_push_size _ rfl⟩, rfl, q _ (I5.hok.fresh (Nat.le_refl _))⟩
  · obtain ⟨its, r, ht, hz⟩ := I5.tuple hx
    have hlen := r.length
    refine tail_any (ops := [.ref a, .ref s4.heap.objs.size]) ht.typeIs (PyProof.Rows.slot_tuple_getitem.lookup) (item_back ht (Heap.IsSliceOf.new _ vl vu vs) pl pu ps ?_ (by rw [List.size_toArray]; omega)) (by with_unfolding_all rfl)
    exact ⟨.ref _, _, I5.laid (t' := s4.toks) (o := .tup xs.reverse) (fun b ob q => Heap.get?_push_of_some _ q) (Nat.le_refl _) ⟨by rw [List.length_reverse]; exact hz, _, r.reverse, IsTup.new _ _⟩, rfl, q _ (I5.hok.fresh (Nat.le_refl _))⟩
end
def fBack : List D → Option RB
  | [.lst xs] => some (.nw xs.reverse)
  | [.ro xs] => some (.nw xs.reverse)
  | [.tup xs] => some (.d (.tup xs.reverse))
  | _ => none
section
variable {K : PySem.W.Frag} {c : Ctx} {F F' H H' : Hp} {v : V} {vs : List V} {d : D} {ds : List D} {Q : VK}
theorem DenL.back : ∀ {vs : List V} {ds : List D}, DenL K c.CL F vs ds → DenL K c.CL F vs.reverse ds.reverse
  | _, _, .nil => .nil
  | _, _, .cons h t => by rw [List.reverse_cons, List.reverse_cons]; exact (DenL.back t).append (.cons h .nil)
theorem p_back : Prim K c (fun xs H Q => ∃ x, xs = [x] ∧ ∃ a xs, x = V.ref a ∧ ((SqL K H a xs ∧ ∀ p, H p = none → Q (.ref p) (upd H p (.lst xs.reverse))) ∨ (SqT K H a xs ∧ ∀ p, H p = none → Q (.ref p) (upd H p (.tup xs.reverse))))) fBack := fun F H vs ds res Q x V e f => by
  unfold fBack at e
  split at e
  · cases e
    cases V with
    | cons v1 t => cases t; obtain ⟨a, us, rfl, q1, l1⟩ := v1; exact ⟨_, rfl, a, us, rfl, .inl ⟨.inl (.inl q1), fun p hp => f.newL x hp l1.back⟩⟩
  · cases e
    cases V with
    | cons v1 t => cases t; cases v1 with | @ro a us _ q1 l1 => exact ⟨_, rfl, a, us, rfl, .inl ⟨x.l q1, fun p hp => f.newL x hp l1.back⟩⟩
  · cases e
    cases V with
    | cons v1 t => cases t; cases v1 with | @tup a us _ q1 l1 => exact ⟨_, rfl, a, us, rfl, .inr ⟨x.t q1, fun p hp => f.newT x hp l1.back⟩⟩
  · cases e
end
theorem e_back {X : Cx} {c : Ctx} {x : Expr} {a : E} (h : PE X x (tBack X.K (tEv X.K c a))) : PEv X c x (.prim fBack (.cons a .nil)) := PE.wk h fun _ _ _ q => prim_go1 p_back q
end Ev

namespace Ev
open PySem L2 PyProof.Rows
/-! ### {k: v, ..}, written out -/
def fDcon (ks : List Key) (xs : List D) : List D → Option RB
  | [] => some (.d (.dk ks xs))
  | _ => none
theorem pairs_con {σ : L2.St} {H : Hp} : ∀ (kvs : List (Key × V)) {Q : List (V × V) → Hp → Prop}, Q (kvs.map fun kv => (kV kv.1, kv.2)) H → tPairs (kvs.map fun kv => (tC (kV kv.1), tC kv.2)) σ H Q
  | [], _, q => q
  | kv :: kvs, _, q => pairs_con kvs q
theorem e_dcon {X : Cx} {c : Ctx} {x : Expr} {kvs : List (Key × V)} {ks : List Key} {vs : List V} {xs : List D} (h : PE X x (tDisp (kvs.map fun kv => (tC (kV kv.1), tC kv.2)))) (hm : mergeK [] kvs = ks.zip vs) (hl : vs.length = ks.length) (hz : kvs.length ≤ 15)
    (hv : ∀ F, DenL X.K c.CL F vs xs) : PEv X c x (.prim (fDcon ks xs) .nil) := PE.wk h fun σ H Q q => by
  have q := prim_go (r := fun vs0 H Q => vs0 = [] ∧ ∀ p, H p = none → Q (.ref p) (upd H p (.dK (ks.zip vs)))) (fun F H us ds res Q x V e f => by
    cases V with
    | nil =>
      cases e
      refine ⟨rfl, fun p hp => ?_⟩
      have hF : F p = none := by
        cases z : F p with
        | none => rfl
        | some o => rw [x p o z] at hp; cases hp
      exact f _ (upd F p (.dK (ks.zip vs))) _ (Ex.new hF) (Ex.new hp) (Ex.both x) (fun a e1 e2 => by rw [upd_ne (fun z => by subst z; exact e2 hp)]; exact e1) (.dk upd_same hl (hv _))
    | cons v1 t => cases e) q
  obtain ⟨F, ρ, R, P⟩ := q
  obtain ⟨_, q⟩ := P F H R (GoE.refl ..) [] .nil
  refine fun p hp => pairs_con kvs ⟨upd_same, kvs, rfl, hz, ?_⟩
  rw [upd_upd, hm]
  exact q p hp
end Ev

namespace Ev
open PySem L2
/-! ### C(e, ..): an own class whose __init__ looks at what is passed and keeps it -/
mutual
/-- no instance and no class inside -/
def D.plain : D → Bool
  | .tup xs => D.plains xs
  | .lst xs => D.plains xs
  | .ro xs => D.plains xs
  | .dk _ xs => D.plains xs
  | .obj _ _ => false
  | .cls _ => false
  | _ => true
def D.plains : List D → Bool
  | [] => true
  | d :: ds => D.plain d && D.plains ds
end
mutual
theorem den_plain {K : PySem.W.Frag} {CL CL2 : Nat → Addr × List Str} {F : Hp} : ∀ (d : D) {v : V}, d.plain = true → Den K CL F v d → Den K CL2 F v d
  | .non, _, _, .non => .non
  | .bl _, _, _, .bl b => .bl b
  | .int _, _, _, .int i => .int i
  | .str _, _, _, .str x => .str x
  | .tup xs, _, p, .tup h l => .tup h (dens_plain xs p l)
  | .lst xs, _, p, .lst h l => .lst h (dens_plain xs p l)
  | .ro xs, _, p, .ro h l => .ro h (dens_plain xs p l)
  | .dk ks xs, _, p, .dk h z l => .dk h z (dens_plain xs p l)
  | .ty n, _, _, h => by cases h; exact .ty n
theorem dens_plain {K : PySem.W.Frag} {CL CL2 : Nat → Addr × List Str} {F : Hp} : ∀ (ds : List D) {vs : List V}, D.plains ds = true → DenL K CL F vs ds → DenL K CL2 F vs ds
  | [], _, _, .nil => .nil
  | d :: ds, _, p, .cons h t => by
    have p' := Bool.and_eq_true_iff.mp p
    exact .cons (den_plain d p'.1 h) (dens_plain ds p'.2 t)
end
theorem plains_get : ∀ {ds : List D} {i : Nat} {d : D}, D.plains ds = true → ds[i]? = some d → d.plain = true
  | [], _, _, _, e => by simp at e
  | d :: ds, 0, _, p, e => by
    simp at e
    subst e
    exact (Bool.and_eq_true_iff.mp p).1
  | d :: ds, i + 1, _, p, e => plains_get (Bool.and_eq_true_iff.mp p).2 (i := i) (by simpa using e)
/-- all that is passed is plain data -/
def given? : List Slot → Option (List D)
  | [] => some []
  | .sh d :: ss => match given? ss with
    | some ds => some (d :: ds)
    | none => none
  | _ => none
theorem given_eq : ∀ {ss : List Slot} {ds : List D}, given? ss = some ds → ss = ds.map Slot.sh
  | [], _, e => by cases e; rfl
  | .sh d :: ss, ds, e => by
    unfold given? at e
    split at e
    · rename_i ds' q
      cases e
      rw [given_eq q]
      rfl
    · cases e
  | .un :: _, _, e => by cases e
  | .ow _ :: _, _, e => by cases e
  | .lk _ :: _, _, e => by cases e
  | .att :: _, _, e => by cases e
/-- what stands in variables -/
def held? (ρ : Env) : List Nat → Option (List D)
  | [] => some []
  | i :: is => match ρ.v[i]? with
    | some (.sh d) => (match held? ρ is with
      | some ds => some (d :: ds)
      | none => none)
    | _ => none
/-- m0: a number that no class bears, for what is made; cn: the class; pre: ahead of the attributes; is: whose values they are -/
def mkFn (n : Nat) (pre : Ss) (is : List Nat) (m0 cn : Nat) : Fn := fun ss => match given? ss with
  | none => .no
  | some gs => if D.plains gs then (match evSs pre (start0 n (.sh (.cls m0) :: ss)) with
    | .ok .nx ρ => (match held? ρ (0 :: is) with
      | some (.cls m :: ds) => if m = m0 ∧ D.plains ds = true then .ok (.d (.obj cn ds)) (ss.map fun _ => .un) else .no
      | _ => .no)
    | _ => .no) else .no
/-! ### a body whose end is told otherwise -/
def tEvSsU (K : PySem.W.Frag) (c : Ctx) (s : Ss) (u : TS) : TS := fun D σ H => tEvSs K c s { D with nx := u D } σ H
abbrev PSsw (X : Cx) (c : Ctx) (xs : List Stmt) (s : Ss) (u : TS) : Prop := PSs X xs (tEvSsU X.K c s u)
theorem ssw_nil {X : Cx} {c : Ctx} {ys : List Stmt} {u : TS} (h : PSs X ys u) : PSsw X c ys .nil u := PSs.wk h fun D σ H ⟨F, ρ, R, P⟩ => by
  unfold evSs at P
  exact P F σ H R (Go.refl ..)
theorem ssw_cons {X : Cx} {c : Ctx} {x : Stmt} {xs : List Stmt} {s : S} {ss : Ss} {u : TS} (h : PSv X c x s) (t : PSsw X c xs ss u) : PSsw X c (x :: xs) (.cons s ss) u := PSs.wk (pss_cons h t) fun D σ H q => seq_go (D := { D with nx := u D }) q
/-- self.f = x, one behind another -/
def tPut (K : PySem.W.Frag) : List (Str × Nat) → TS
  | [] => tNext
  | p :: r => tSeq (sFld K (tVar 0) (tVar p.2) p.1) (tPut K r)
theorem putF_new {f : Str} {v : V} : ∀ {fs : List (Str × V)}, f ∉ fs.map (·.1) → putF f v fs = fs ++ [(f, v)]
  | [], _ => rfl
  | (g, x) :: r, h => by
    rw [List.map_cons, List.mem_cons, not_or] at h
    show (if g = f then (g, v) :: r else (g, x) :: putF f v r) = _
    rw [if_neg (Ne.symm h.1), putF_new h.2]
    rfl
theorem put_go {K : PySem.W.Frag} {C dx y : Addr} {D : Ends} {σ : L2.St} (hc : Cls K C) (h0 : σ[0]? = some (some (.ref y))) : ∀ (ps : List (Str × Nat)) (us : List V) (fs : List (Str × V)) {H : Hp}, H y = some (.ins C dx fs) → ((fs.map (·.1)) ++ ps.map (·.1)).Nodup → fs.length + ps.length < 1000 → (∀ p ∈ ps, NoAttr K C p.1) →
    us.length = ps.length → (∀ (j : Nat) (p : Str × Nat) (v : V), ps[j]? = some p → us[j]? = some v → σ[p.2]? = some (some v)) → D.nx σ (upd H y (.ins C dx (fs ++ (ps.map (·.1)).zip us))) → tPut K ps D σ H
  | [], [], fs, H, hy, _, _, _, _, _, q => by
    rw [List.map_nil, List.zip_nil_left, List.append_nil] at q
    have : upd H y (.ins C dx fs) = H := by
      funext a
      by_cases e : a = y
      · subst e; rw [upd_same, hy]
      · rw [upd_ne e]
    rw [this] at q
    exact q
  | p :: ps, u :: us, fs, H, hy, hn, hz, ha, hl, hs, q => by
    refine ⟨u, hs 0 p u rfl rfl, .ref y, h0, y, C, dx, fs, rfl, hy, hc, ha p (by simp), by omega, ?_⟩
    have hnew : p.1 ∉ fs.map (·.1) := fun hm => by
      rw [List.map_cons] at hn
      exact (List.nodup_append.mp hn).2.2 _ hm _ (by simp) rfl
    rw [putF_new hnew]
    refine put_go hc h0 ps us (fs ++ [(p.1, u)]) upd_same ?_ ?_ (fun p' h => ha p' (List.mem_cons_of_mem _ h)) (by simpa using hl) (fun j p' v e1 e2 => hs (j + 1) p' v (by simpa using e1) (by simpa using e2)) ?_
    · rw [List.map_append, List.append_assoc]
      exact hn
    · rw [List.length_append]
      simp at hz ⊢
      omega
    · have e : upd (upd H y (.ins C dx (fs ++ [(p.1, u)]))) y (.ins C dx (fs ++ [(p.1, u)] ++ (ps.map (·.1)).zip us)) = upd H y (.ins C dx (fs ++ ((p :: ps).map (·.1)).zip (u :: us))) := by
        funext a
        by_cases e : a = y
        · subst e
          rw [upd_same, upd_same, List.append_assoc]
          rfl
        · rw [upd_ne e, upd_ne e, upd_ne e]
      rw [e]
      exact q
/-- the table of classes, with m0 for the thing at y -/
def clWith (CL : Nat → Addr × List Str) (m0 : Nat) (y : Addr) : Nat → Addr × List Str := fun n => if n = m0 then (y, []) else CL n
section
variable {K : PySem.W.Frag} {CL : Nat → Addr × List Str} {F H : Hp}
def spInit (K : PySem.W.Frag) (CL : Nat → Addr × List Str) (nN : Nat) (pre : Ss) (fs : List Str) (is : List Nat) (m0 : Nat) (C : Addr) (n : Nat) : Sp := fun vs H Q _ => ∃ (y dx : Addr) (args : List V) (F : Hp) (ss : List Slot) (gs : List D) (ρ : Env) (ds : List D), vs = .ref y :: args ∧ args.length = n ∧ H y = some (.ins C dx []) ∧ F y = none ∧
  ARel K (clWith CL m0 y) F H args ss ∧ given? ss = some gs ∧ evSs pre (start0 nN (.sh (.cls m0) :: ss)) = .ok .nx ρ ∧ held? ρ (0 :: is) = some (.cls m0 :: ds) ∧
  ∀ (F1 H1 : Hp) (us : List V), Ex F F1 → F1 y = none → Ex F1 H1 → (∀ a, F a = none → H a ≠ none → F1 a = none) → (∀ a o, H a = some o → a ≠ y → H1 a = some o) → H1 y = some (.ins C dx (fs.zip us)) → us.length = fs.length → DenL K (clWith CL m0 y) F1 us ds → Q .non H1
theorem held_len {ρ : Env} : ∀ {is : List Nat} {ds : List D}, held? ρ is = some ds → ds.length = is.length
  | [], _, e => by cases e; rfl
  | i :: is, ds, e => by
    unfold held? at e
    split at e
    · split at e
      · rename_i ds' q
        cases e
        rw [List.length_cons, List.length_cons, held_len q]
      · cases e
    · cases e
theorem held_get {ρ : Env} : ∀ {is : List Nat} {ds : List D} {j i : Nat} {d : D}, held? ρ is = some ds → is[j]? = some i → ds[j]? = some d → ρ.v[i]? = some (.sh d)
  | [], _, _, _, _, _, e, _ => by simp at e
  | k :: is, ds, j, i, d, e, e1, e2 => by
    unfold held? at e
    split at e
    · rename_i d0 h0
      split at e
      · rename_i ds' q
        cases e
        cases j with
        | zero => simp at e1 e2; subst e1 e2; exact h0
        | succ j => exact held_get q (by simpa using e1) (by simpa using e2)
      · cases e
    · cases e
/-- the values of variables -/
theorem held_vals {c : Ctx} {ρ : Env} {σ : L2.St} (R : Rel K c F ρ σ H) : ∀ {is : List Nat} {ds : List D}, held? ρ is = some ds → ∃ us : List V, DenL K c.CL F us ds ∧ us.length = is.length ∧ ∀ (j i : Nat) (v : V), is[j]? = some i → us[j]? = some v → σ[i]? = some (some v)
  | [], _, e => by cases e; exact ⟨[], .nil, rfl, fun j i v e => by simp at e⟩
  | k :: is, ds, e => by
    unfold held? at e
    split at e
    · rename_i d0 h0
      split at e
      · rename_i ds' q
        cases e
        obtain ⟨us, l, hl, hv⟩ := held_vals R q
        obtain ⟨u, hu, hd⟩ := R.slot h0
        refine ⟨u :: us, .cons hd l, by rw [List.length_cons, List.length_cons, hl], fun j i v e1 e2 => ?_⟩
        cases j with
        | zero => simp at e1 e2; subst e1 e2; exact hu
        | succ j => exact hv j i v (by simpa using e1) (by simpa using e2)
      · cases e
    · cases e
theorem init_ok {P : Program} {w : World} {mg : Str → Option Value} {base : Heap} {x qual : Str} {st : Stmt} {f C : Addr} {fd : FuncData} {N ps : List Str} {k n m0 : Nat} {pre : Ss} {fl : List (Str × Nat)} (Fu : Fun K x qual st f fd) (S : FnScope N ps (defScope st)) (hn : ps.length = n + 1) (hN : n + 1 ≤ N.length) (hc : Cls K C) (ha : ∀ p ∈ fl, NoAttr K C p.1) (hnd : (fl.map (·.1)).Nodup) (hz : fl.length < 1000)
    (hb : ∀ (cdv : Value) (A : Around) (outer : List PySem.Env) (s : Shared) (H : Hp) (E : XK) (c : Ctx), (∀ i, i ≠ m0 → c.CL i = CL i) → (∀ C d H, c.E C d H → False) → Room k (A.deeper (PyProof.Rows.envOfC qual (defScope st) s.heap.objs.size f cdv)) →
      PSsw (cxOf CX0 P w K mg base N qual (defScope st) f cdv A outer s H E).nox c (defBody st) pre (tPut K fl)) :
    FnOk P w K mg base CX0 (k + 1) f fd ps (spInit K CL N.length pre (fl.map (·.1)) (fl.map (·.2)) m0 C n) := by
  refine Fu.ok S (fun vs H Q E h => ?_) fun cdv A outer s H vs Q E hr h => ?_
  · obtain ⟨y, dx, args, F, ss, gs, ρ, ds, rfl, hl, _⟩ := h
    rw [hn, List.length_cons, hl]
  obtain ⟨y, dx, args, F, ss, gs, ρ, ds, rfl, hl, hy, hFy, AR, hg, hpre, hheld, hq⟩ := h
  have hss := given_eq hg
  refine ⟨_, hb cdv A outer s H E ⟨clWith CL m0 y, .ref y :: args, fun _ _ _ => False⟩ (fun i hi => if_neg hi) (fun _ _ _ z => z) hr, ?_⟩
  have AR2 : ARel K (clWith CL m0 y) F H (.ref y :: args) (.sh (.cls m0) :: ss) := by
    refine ⟨by rw [List.length_cons, List.length_cons, AR.len], AR.ex, fun i s e => ?_, fun i i' xs ys a e => ?_⟩
    · cases i with
      | zero =>
        simp at e
        subst e
        have := Den.cls (K := K) (CL := clWith CL m0 y) (F := F) m0
        rw [show (clWith CL m0 y m0).1 = y by unfold clWith; rw [if_pos rfl]] at this
        exact ⟨.ref y, rfl, this⟩
      | succ i => exact AR.ok i s (by simpa using e)
    · cases i with
      | zero => simp at e
      | succ i =>
        rw [List.getElem?_cons_succ, hss, List.getElem?_map] at e
        cases z : gs[i]? with
        | none => rw [z] at e; cases e
        | some d => rw [z] at e; cases e
  have hlen : (Slot.sh (.cls m0) :: ss).length ≤ N.length := by rw [List.length_cons, ← AR.len, hl]; exact hN
  refine ⟨F, start0 N.length (.sh (.cls m0) :: ss), start_rel AR2 hlen, ?_⟩
  rw [hpre]
  intro F' σ' H' R g
  have noown : ∀ a, ¬ own ⟨clWith CL m0 y, .ref y :: args, fun _ _ _ => False⟩ (start0 N.length (.sh (.cls m0) :: ss)) (L2.start N (.ref y :: args)) a := by
    rintro a ⟨k', xs, e, _⟩
    unfold sl at e
    have hv : ∀ (j : Nat), (start0 N.length (.sh (.cls m0) :: ss)).v[j]? = some (.ow xs) → False := fun j e => by
      have e : ((.sh (.cls m0) :: ss) ++ List.replicate (N.length - (Slot.sh (.cls m0) :: ss).length) .un)[j]? = some (.ow xs) := e
      rw [hss] at e
      rcases List.mem_append.mp (List.mem_of_getElem? e) with h | h
      · rcases List.mem_cons.mp h with h | h
        · cases h
        · obtain ⟨d, _, q⟩ := List.mem_map.mp h
          cases q
      · cases List.eq_of_mem_replicate h
    have ho : ∀ (j : Nat), (start0 N.length (.sh (.cls m0) :: ss)).o[j]? = some (.ow xs) → False := fun j e => by
      have e : ((Slot.sh (.cls m0) :: ss).map Slot.pass)[j]? = some (.ow xs) := e
      obtain ⟨s, _, q⟩ := List.mem_map.mp (List.mem_of_getElem? e)
      cases s <;> cases q
    rw [List.getElem?_append] at e
    split at e
    · exact hv _ e
    · exact ho _ e
  have hy' : H' y = some (.ins C dx []) := g.keep y _ hy (noown y)
  have hF'y : F' y = none := g.fr y hFy (by rw [hy]; exact Option.some_ne_none _) (noown y)
  obtain ⟨us, lu, hul, hus⟩ := held_vals R hheld
  cases lu with
  | @cons u us0 _ _ hu lus =>
    have h0 := hus 0 0 u rfl rfl
    have eu : u = .ref y := by
      cases hu with
      | cls => show V.ref (clWith CL m0 y m0).1 = _; unfold clWith; rw [if_pos rfl]
    subst eu
    have hul0 : us0.length = fl.length := by
      have := hul
      rw [List.length_cons, List.length_cons, List.length_map] at this
      omega
    refine put_go (C := C) (dx := dx) hc h0 fl us0 [] hy' (by simpa using hnd) (by simpa using hz) ha hul0 (fun j p v e1 e2 => hus (j + 1) p.2 v (by rw [List.getElem?_cons_succ, List.getElem?_map, e1]; rfl) (by simpa using e2)) ?_
    rw [List.nil_append]
    refine hq F' _ us0 g.f hF'y (fun a o e => ?_) (fun a e1 e2 => g.fr a e1 e2 (noown a)) (fun a o e hne => ?_) upd_same (by rw [hul0, List.length_map]) lus
    · by_cases hay : a = y
      · subst hay; rw [hF'y] at e; cases e
      · rw [upd_ne hay]; exact R.ex a o e
    · rw [upd_ne hne]
      exact g.keep a o e (noown a)
/-- a call of the class does what its __init__ says -/
theorem mk_sp {vs : List V} {Q : VK} {E : XK} {nN n m0 cn : Nat} {pre : Ss} {fs : List Str} {is : List Nat} {C : Addr} (hCL : CL cn = (C, fs)) (hil : is.length = fs.length) (h : spF K CL (mkFn nN pre is m0 cn) n vs H Q E) :
    ∀ x dx, H x = none → H dx = none → dx ≠ x → spInit K CL nN pre fs is m0 C n (.ref x :: vs) (upd (upd H dx (.own x)) x (.ins C dx [])) (fun v H2 => v = .non ∧ Q (.ref x) H2) E := by
  intro x dx hx hdx hne
  obtain ⟨hl, F, ss, A, hg⟩ := h
  unfold mkFn at hg
  cases hgs : given? ss with
  | none => rw [hgs] at hg; exact hg.elim
  | some gs =>
    rw [hgs] at hg
    simp only at hg
    by_cases hpl : D.plains gs = true
    case neg => rw [if_neg hpl] at hg; exact hg.elim
    rw [if_pos hpl] at hg
    have hss := given_eq hgs
    have hFx : F x = none := by
      cases z : F x with
      | none => rfl
      | some o => rw [A.ex x o z] at hx; cases hx
    have up : ∀ a o, H a = some o → (upd (upd H dx (.own x)) x (.ins C dx [])) a = some o := fun a o e => by
      have h1 : a ≠ x := fun z => by subst z; rw [hx] at e; cases e
      have h2 : a ≠ dx := fun z => by subst z; rw [hdx] at e; cases e
      rw [upd_ne h1, upd_ne h2]
      exact e
    have noown : ∀ a, ¬ pown vs ss a := by
      rintro a ⟨i, xs, e, _⟩
      rw [hss, List.getElem?_map] at e
      cases z : gs[i]? with
      | none => rw [z] at e; cases e
      | some d => rw [z] at e; cases e
    match hr : evSs pre (start0 nN (.sh (.cls m0) :: ss)) with
    | .no => rw [hr] at hg; exact hg.elim
    | .ex _ _ => rw [hr] at hg; exact hg.elim
    | .ok .brk _ => rw [hr] at hg; exact hg.elim
    | .ok (.rt _) _ => rw [hr] at hg; exact hg.elim
    | .ok .nx ρ =>
      rw [hr] at hg
      simp only at hg
      obtain ⟨ds, hheld, hpd, hg⟩ : ∃ ds, held? ρ (0 :: is) = some (.cls m0 :: ds) ∧ D.plains ds = true ∧ ∀ F' v H', FGo F H vs ss F' H' → ORel K CL F' H' vs ss (ss.map fun _ => .un) → RDen K (c0 CL) H F' H' v (.d (.obj cn ds)) → Q v H' := by
        cases hq : held? ρ (0 :: is) with
        | none => rw [hq] at hg; exact hg.elim
        | some l =>
          rw [hq] at hg
          cases l with
          | nil => exact hg.elim
          | cons d0 ds =>
            cases d0 with
            | cls m =>
              simp only at hg
              by_cases hmd : m = m0 ∧ D.plains ds = true
              · rw [if_pos hmd] at hg
                obtain ⟨rfl, hpd⟩ := hmd
                exact ⟨ds, rfl, hpd, hg⟩
              · rw [if_neg hmd] at hg
                exact hg.elim
            | _ => exact hg.elim
      refine ⟨x, dx, vs, F, ss, gs, ρ, ds, rfl, hl, upd_same, hFx, ⟨A.len, fun a o e => up a o (A.ex a o e), fun i s e => ?_, A.apart⟩, hgs, hr, hheld, fun F1 H1 us f1 f2 f3 f4 f5 f6 f7 f8 => ⟨rfl, ?_⟩⟩
      · have := A.ok i s e
        rw [hss, List.getElem?_map] at e
        cases z : gs[i]? with
        | none => rw [z] at e; cases e
        | some d =>
          rw [z] at e
          cases e
          obtain ⟨u, e1, e2⟩ := this
          exact ⟨u, e1, den_plain d (plains_get hpl z) e2⟩
      · have g1 : Ex F1 (upd F1 x (.ins C dx (fs.zip us))) := Ex.new f2
        refine hg (upd F1 x (.ins C dx (fs.zip us))) (.ref x) H1 ⟨f1.trans g1, fun a o e => ?_, fun a o e _ => ?_, fun a e1 e2 _ => ?_, fun a e => ?_⟩ (fun i xs e => ?_) ?_
        · by_cases hay : a = x
          · subst hay
            rw [upd_same] at e
            rw [f6]
            exact e
          · rw [upd_ne hay] at e
            exact f3 a o e
        · exact f5 a o (up a o e) fun z => by subst z; rw [hx] at e; cases e
        · have hax : a ≠ x := fun z => by subst z; exact e2 hx
          rw [upd_ne hax]
          refine f4 a e1 ?_
          cases z : H a with
          | none => exact absurd z e2
          | some o => rw [up a o z]; exact Option.some_ne_none _
        · cases z : H a with
          | none => exact absurd z e
          | some o =>
            rw [f5 a o (up a o z) fun q => by subst q; rw [hx] at z; cases z]
            exact Option.some_ne_none _
        · rw [hss, List.getElem?_map] at e
          cases z : gs[i]? with
          | none => rw [z] at e; cases e
          | some d => rw [z] at e; cases e
        · show Den K CL (upd F1 x (.ins C dx (fs.zip us))) (.ref x) (.obj cn ds)
          refine .obj (dx := dx) (vs := us) ?_ ?_ (DenL.mono g1 ds (dens_plain ds hpd f8))
          · rw [upd_same, hCL]
          · rw [hCL]
            exact f7
end
theorem tEvA.imp {K : PySem.W.Frag} {c : Ctx} {es : Es} {σ : L2.St} {H : Hp} {Q Q' : List V → Hp → Prop} (h : tEvA K c es σ H Q) (k : ∀ vs H, Q vs H → Q' vs H) : tEvA K c es σ H Q' := by
  obtain ⟨F, ρ, R, P⟩ := h
  exact ⟨F, ρ, R, P.imp fun F1 ρ1 H1 a R1 g q vs hv => k _ _ (q vs hv)⟩
theorem e_make {X : Cx} {c : Ctx} {x : Expr} {es : Es} {E : XK} {nN n m0 cn : Nat} {pre : Ss} {fs : List Str} {is : List Nat} {C : Addr} (hCL : c.CL cn = (C, fs)) (hil : is.length = fs.length) (h : PE X x (tMake C (spInit X.K c.CL nN pre fs is m0 C n) [] E (tEvA X.K c es))) (hl : es.len = n) (hE : ∀ C d H, c.E C d H → E C d H) : PEv X c x (.call (mkFn nN pre is m0 cn) es) :=
  PE.wk h fun σ H Q q => tEvA.imp (call_go hE q hl) fun vs H1 hs x dx h1 h2 h3 => by
    rw [List.append_nil] at hs ⊢
    exact mk_sp hCL hil hs x dx h1 h2 h3
/-- what a class says of an attribute, by the table -/
theorem fld_of {K : PySem.W.Frag} {CL : Nat → Addr × List Str} {n k : Nat} {f : Str} {C : Addr} {fs : List Str} (hC : CL n = (C, fs)) (hc : Cls K C) (no : NoAttr K C f) (nd : fs.Nodup) (h : fs[k]? = some f) : FldOk K CL n k f :=
  ⟨by rw [hC]; exact hc, by rw [hC]; exact no, by rw [hC]; exact nd, by rw [hC]; exact h⟩
end Ev

namespace Ev
open PySem L2 PyProof.Rows PySem.W PySem.Calls
/-! ### sorted(t), t a tuple: as of a list with the same items -/
section
variable {P : Program} {w : World} {A : Around} {E : Value → Shared → Prop} {s : Shared}
theorem gather_tup {t : Addr} {us : List Value} {Q : List Value → Shared → Prop} (ht : IsTup s.heap t us.toArray) (hb : us.length ≤ sizeLine)
    (q : Q us { s with heap := (s.heap.push (seqObj "list" #[] 0)).update s.heap.objs.size (Obj.mapSeq (· ++ us.toArray)) }) : wpAny (model P w) A (collect (.ref t)) Q E s := by
  obtain ⟨ob, h1, h2, k, h3⟩ := id ht
  unfold collect
  refine wpAny_bind ?_
  refine wpAny_runValue ?_
  refine codeAny_builtin entry_proto_collect' ?_
  show wpAny _ _ (newList [] >>= fun x => again (.builtin "list.__iadd__" ⟨[x, .ref t], []⟩)) _ _ s
  refine wpAny_bind ?_
  refine wpAny_newList ?_
  refine wpAny_pure ⟨Code.quiet_builtin _ (by decide +kernel), ?_⟩
  refine codeAny_builtin entry_list_iadd' ?_
  have h1' : (s.heap.push (seqObj "list" #[] 0)).get? t = some ob := Heap.get?_push_of_some _ h1
  show wpAny _ _ (Builtin.List.listExtendWith (.ref s.heap.objs.size) (.ref t) (.ref s.heap.objs.size)) _ _ _
  unfold Builtin.List.listExtendWith
  refine wpAny_bind ?_
  refine wpAny_typeOf (T := "tuple") ⟨ob, h1', h2⟩ ?_
  rw [if_pos (by rw [show (Value.type "tuple" == Value.type "tuple") = true from rfl]; simp)]
  refine wpAny_bind ?_
  refine listItems_at h1' h3 ?_
  refine wpAny_bind ?_
  refine listItems_at (xs := #[]) (n := 0) (Heap.get?_push_size _ rfl) rfl ?_
  rw [if_neg (by simp)]
  refine wpAny_bind ?_
  have hz : ((#[] : Array Value) ++ us.toArray).size ≤ sizeLine + 1 := by
    rw [Array.size_append, List.size_toArray]
    simp
    omega
  refine listUpdate_at (xs := #[]) (n := 0) (Heap.get?_push_size _ rfl) rfl ?_ (Nat.zero_le _) hz
  refine wpAny_pure ?_
  refine wpAny_bind (m := load s.heap.objs.size) ?_
  refine wpAny_load (get?_update_seq (Heap.get?_push_size _ rfl) _) ?_
  have he : ((#[] : Array Value) ++ us.toArray).toList = us := by simp
  show wpAny _ _ (pure ((#[] : Array Value) ++ us.toArray).toList) Q E _
  rw [he]
  exact wpAny_pure q
theorem sortT_of {t : Addr} {us : List Value} {Q : Value → Shared → Prop} (ht : IsTup s.heap t us.toArray) (hb : us.length ≤ sizeLine)
    (k : ∀ E' : Value → Shared → Prop, wpAny (model P w) A.in1.in1 (Builtin.«list.sort» ⟨[.ref (s.heap.objs.size + 1)], []⟩) (fun f s' => f = .done (.ret .none) ∧ Q (.ref (s.heap.objs.size + 1)) s') E' { s with heap := copyHeap s.heap us }) :
    wpAny (model P w) A (call (.builtin "sorted") [.ref t]) Q E s := by
  have ha : argsOk "sorted" ⟨[.ref t], []⟩ := args_sorted1 _
  refine call_function_entry_kw kind_sorted plain_sorted entry_sorted ha ?_
  unfold Builtin.«sorted»
  refine wpAny_bind (m := checkCount "sorted" 1 1 _) ?_
  refine wpAny_pure ?_
  refine wpAny_bind (gather_tup ht hb ?_)
  refine wpAny_bind ?_
  refine wpAny_newList ?_ hb
  have hz : ((s.heap.push (seqObj "list" #[] 0)).update s.heap.objs.size (Obj.mapSeq (· ++ us.toArray))).objs.size = s.heap.objs.size + 1 := by
    rw [Heap.size_update]
    exact size_push' ..
  show wpAny _ _ _ _ _ { s with heap := copyHeap s.heap us }
  rw [hz]
  refine wpAny_bind ?_
  refine wpAny_holding ?_
  have hc : Shared.TypeIs { s with heap := copyHeap s.heap us } (.ref (s.heap.objs.size + 1)) "list" := ⟨_, copyHeap_at s.heap us, rfl⟩
  refine wpAny_call_entry_kw slot_list_sort hc entry_list_sort ?_ (args_list_sort _)
  refine wpAny_mono (k _) ?_ fun _ _ e => e
  rintro f s' ⟨rfl, q⟩
  exact ⟨_, rfl, wpAny_pure ⟨_, rfl, q⟩⟩
theorem sortT_data {β : Type} {R : Value → β → Prop} {enc : β → PyData} {vs : List Value} {bs : List β} {t : Addr} {Q : Value → Shared → Prop} (ht : IsTup s.heap t vs.toArray) (e : EachIs R vs bs) (er : EachIs (fun v b => ∃ as, Reads s.heap v (enc b) as) vs bs) (hal : AllAlike (bs.map enc)) (hk : Sortable (bs.map enc)) (hL : bs.length ≤ sizeLine)
    (hu : ∀ b, b ∈ bs → A.units + 2 + (enc b).depth < cLine) (q : ∀ out, out.length = bs.length → EachIs R out (bs.mergeSort (dataLe false enc)) → Q (.ref (s.heap.objs.size + 1)) { s with heap := sortedAll s.heap vs (List.toArray out) }) :
    wpAny (model P w) A (call (.builtin "sorted") [.ref t]) Q E s := by
  have er2 : EachIs (fun v b => ∃ as, Reads (sortingHeap (copyHeap s.heap vs) (s.heap.objs.size + 1) vs) v (enc b) as) vs bs := er.mono fun _ _ ⟨as, r⟩ => ⟨as, PyProof.Rows.Reads.keeps (fun _ _ z => sorting_copy_old z) r⟩
  have hvl : vs.length ≤ sizeLine := by
    rw [e.length]
    exact hL
  have hS := SortsAt.data (prog := P) (w := w) (A := A.in1.in1) (s := { s with heap := sortingHeap (copyHeap s.heap vs) (s.heap.objs.size + 1) vs }) (each_map (R := fun v d => ∃ as, Reads (sortingHeap (copyHeap s.heap vs) (s.heap.objs.size + 1) vs) v d as) enc er2) hal hk (bound_map hu)
  refine sortT_of ht hvl fun E' => ?_
  refine list_sort_vals (s := { s with heap := copyHeap s.heap vs }) (copyHeap_at s.heap vs) hS hvl ⟨rfl, ?_⟩
  refine q _ ?_ (sortVals_data false e er2 hal)
  rw [sortVals_length false rfl]
  exact e.length
end
/-- sorted of a list or of a tuple -/
def rSortTu (K : PySem.W.Frag) : List V → Hp → VK → Prop := fun vs H Q => ∃ (a : Addr) (bs : List (V × PyData)), vs = [V.ref a] ∧ SqT K H a (bs.map fun b => b.1) ∧ (∀ b ∈ bs, Dp K H b.1 b.2) ∧
  AllAlike (bs.map fun b => b.2) ∧ Sortable (bs.map fun b => b.2) ∧ (∀ b ∈ bs, b.2.depth ≤ 60) ∧
  ∀ p : Addr, H p = none → Q (.ref p) (upd H p (.lst ((bs.mergeSort (dataLe false fun b => b.2)).map fun b => b.1)))
def rSortA (K : PySem.W.Frag) : List V → Hp → VK → Prop := fun vs H Q => rSortD K vs H Q ∨ rSortTu K vs H Q
theorem cr_sortA {X : Cx} (hu : X.A.units + 65 < cLine) : CallR X (.builtin "sorted") (rSortA X.K) := by
  intro pins s σ H vs us Q I r h
  rcases h with h | ⟨a, bs, rfl, hs, hd, hal, hk, hdp, q⟩
  · exact cr_sortD hu pins s σ H vs us Q I r h
  obtain ⟨its, rv, hl, hz⟩ := I.tuple hs
  rw [Vals.ref1 r]
  have e := each_vals rv
  have er : EachIs (fun v b => ∃ as, Reads s.heap v (b.2) as) its bs := (each_mem e).mono fun u b m => Dp.reads I b.2 b.1 u (hd b m.2) m.1
  have hz' : bs.length ≤ sizeLine := by
    rw [List.length_map] at hz
    exact hz
  refine sortT_data (enc := fun b : V × PyData => b.2) hl e er hal hk hz' (fun b m => by have := hdp b m; omega) fun out h1 h2 => ?_
  obtain ⟨ep, he'⟩ := PyProof.Rows.sortedAll_at s.heap its out.toArray
  have hlen : (((bs.mergeSort (dataLe false fun b => b.2)).map fun b => b.1) : List V).length ≤ sizeLine := by
    rw [List.length_map, List.length_mergeSort]
    exact hz'
  exact ⟨.ref _, upd H (s.heap.objs.size + 1) (.lst ((bs.mergeSort (dataLe false fun b => b.2)).map fun b => b.1)), I.laid (t' := s.toks) (fun _ _ => PyProof.Rows.sortedAll_old) (Nat.le_succ _) ⟨hlen, out, ep, vals_each h2, he'⟩, rfl, q _ (I.hok.fresh (Nat.le_succ _))⟩
def fSortedA : List D → Option RB
  | [.tup xs] => match sorted? xs with
    | some ys => some (.nw ys)
    | none => none
  | ds => fSorted ds
theorem p_sortedA {K : PySem.W.Frag} {c : Ctx} : Prim K c (rSortA K) fSortedA := fun F H vs ds res Q x V e f => by
  unfold fSortedA at e
  split at e
  · split at e
    · rename_i ys hy
      cases e
      cases V with
      | cons v1 t => cases t; cases v1 with | @tup a us _ q1 l1 => obtain ⟨bs, h1, h2, h3, h4, h5, h6⟩ := sorted_go x l1 hy; exact .inr ⟨a, bs, rfl, by rw [h1]; exact x.t q1, h2, h3, h4, h5, fun p hp => f.newL x hp h6⟩
    · cases e
  · exact .inl (p_sorted F H vs _ res Q x V e f)
end Ev

namespace Ev
open PySem L2
/-! ### tuple(range(..)), list(range(..)) -/
def small23 (i : Int) : Bool := decide (-8388608 ≤ i) && decide (i ≤ 8388608)
theorem rgOk_of {a b : Int} (h1 : small23 a = true) (h2 : small23 b = true) : RgOk a b := by
  unfold small23 at h1 h2
  simp only [Bool.and_eq_true, decide_eq_true_eq] at h1 h2
  refine ⟨by omega, by omega, by omega, by omega, by omega⟩
def fTupR1 : List D → Option RB
  | [.int n] => if small23 n then some (.d (.tup (upFrom n.toNat 0))) else none
  | _ => none
def fLstR1 : List D → Option RB
  | [.int n] => if small23 n then some (.nw (upFrom n.toNat 0)) else none
  | _ => none
def fTupR2 : List D → Option RB
  | [.int a, .int b] => if small23 a && small23 b then some (.d (.tup (upFrom (b - a).toNat a))) else none
  | _ => none
def fLstR2 : List D → Option RB
  | [.int a, .int b] => if small23 a && small23 b then some (.nw (upFrom (b - a).toNat a)) else none
  | _ => none
section
variable {K : PySem.W.Frag} {c : Ctx} {F F' H H' : Hp} {v : V} {vs : List V} {d : D} {ds : List D} {Q : VK}
theorem denL_up : ∀ (n : Nat) (a : Int), DenL K c.CL F ((List.range n).map fun i => V.int (a + (i : Nat))) (upFrom n a)
  | 0, _ => .nil
  | n + 1, a => by
    rw [List.range_succ_eq_map, List.map_cons, List.map_map]
    have e : (fun i : Nat => V.int (a + (i : Nat))) ∘ Nat.succ = fun i : Nat => V.int (a + 1 + (i : Nat)) := by
      funext i
      show V.int (a + ((i + 1 : Nat) : Int)) = _
      rw [show a + ((i + 1 : Nat) : Int) = a + 1 + (i : Nat) by omega]
    rw [e]
    have h0 : a + ((0 : Nat) : Int) = a := by omega
    rw [h0]
    exact .cons (.int a) (denL_up n (a + 1))
theorem p_tupR1 : Prim K c (fun xs H Q => ∃ x, xs = [x] ∧ ∃ n, x = .int n ∧ RgOk 0 n ∧ ∀ q, H q = none → Q (.ref q) (upd H q (.tup (rgV 0 n)))) fTupR1 := fun F H vs ds res Q x V e f => by
  unfold fTupR1 at e
  split at e
  · split at e
    · rename_i h
      cases e
      cases V with
      | cons v1 t =>
        cases t; cases v1
        refine ⟨_, rfl, _, rfl, rgOk_of (by decide) h, fun p hp => f.newT x hp ?_⟩
        have := denL_up (K := K) (c := c) (F := F) (Int.toNat ‹Int›) 0
        unfold rgV
        rw [Int.sub_zero]
        exact this
    · cases e
  · cases e
theorem p_lstR1 : Prim K c (fun xs H Q => ∃ x, xs = [x] ∧ ∃ n, x = .int n ∧ RgOk 0 n ∧ ∀ q, H q = none → Q (.ref q) (upd H q (.lst (rgV 0 n)))) fLstR1 := fun F H vs ds res Q x V e f => by
  unfold fLstR1 at e
  split at e
  · split at e
    · rename_i h
      cases e
      cases V with
      | cons v1 t =>
        cases t; cases v1
        refine ⟨_, rfl, _, rfl, rgOk_of (by decide) h, fun p hp => f.newL x hp ?_⟩
        have := denL_up (K := K) (c := c) (F := F) (Int.toNat ‹Int›) 0
        unfold rgV
        rw [Int.sub_zero]
        exact this
    · cases e
  · cases e
theorem p_tupR2 : Prim K c (fun xs H Q => ∃ x y, xs = [x, y] ∧ ∃ i j, x = .int i ∧ y = .int j ∧ RgOk i j ∧ ∀ q, H q = none → Q (.ref q) (upd H q (.tup (rgV i j)))) fTupR2 := fun F H vs ds res Q x V e f => by
  unfold fTupR2 at e
  split at e
  · split at e
    · rename_i h
      cases e
      obtain ⟨h1, h2⟩ := Bool.and_eq_true_iff.mp h
      cases V with
      | cons v1 t => cases t with
        | cons v2 t =>
          cases t; cases v1; cases v2
          exact ⟨_, _, rfl, _, _, rfl, rfl, rgOk_of h1 h2, fun p hp => f.newT x hp (denL_up _ _)⟩
    · cases e
  · cases e
theorem p_lstR2 : Prim K c (fun xs H Q => ∃ x y, xs = [x, y] ∧ ∃ i j, x = .int i ∧ y = .int j ∧ RgOk i j ∧ ∀ q, H q = none → Q (.ref q) (upd H q (.lst (rgV i j)))) fLstR2 := fun F H vs ds res Q x V e f => by
  unfold fLstR2 at e
  split at e
  · split at e
    · rename_i h
      cases e
      obtain ⟨h1, h2⟩ := Bool.and_eq_true_iff.mp h
      cases V with
      | cons v1 t => cases t with
        | cons v2 t =>
          cases t; cases v1; cases v2
          exact ⟨_, _, rfl, _, _, rfl, rfl, rgOk_of h1 h2, fun p hp => f.newL x hp (denL_up _ _)⟩
    · cases e
  · cases e
end
section
variable {X : Cx} {c : Ctx} {x : Expr} {a b : E}
theorem e_tupR1 (h : PE X x (tTupRg (tRg1 (tEv X.K c a)))) : PEv X c x (.prim fTupR1 (.cons a .nil)) := PE.wk h fun _ _ _ q => prim_go1 p_tupR1 q
theorem e_lstR1 (h : PE X x (tLstRg (tRg1 (tEv X.K c a)))) : PEv X c x (.prim fLstR1 (.cons a .nil)) := PE.wk h fun _ _ _ q => prim_go1 p_lstR1 q
theorem e_tupR2 (h : PE X x (tTupRg (tRg2 (tEv X.K c a) (tEv X.K c b)))) : PEv X c x (.prim fTupR2 (.cons a (.cons b .nil))) := PE.wk h fun _ _ _ q => prim_go2 p_tupR2 q
theorem e_lstR2 (h : PE X x (tLstRg (tRg2 (tEv X.K c a) (tEv X.K c b)))) : PEv X c x (.prim fLstR2 (.cons a (.cons b .nil))) := PE.wk h fun _ _ _ q => prim_go2 p_lstR2 q
end
end Ev

namespace Ev
open PySem L2
/-! ### in: a whole number in a tuple of them, besides what EvPrim2 knows -/
def inI (i : Int) (ns : List Int) : Bool := ns.any fun n => decide (n = i)
theorem inV_int (i : Int) (ns : List Int) : inV (.int i) (ns.map V.int) = inI i ns := by
  unfold inV inI
  rw [List.any_map]
  congr 1
theorem flat_ints (ns : List Int) : (ns.map V.int).all flatV = true := by
  rw [List.all_map, List.all_eq_true]
  intro n _
  rfl
def inT? : D → D → Option Bool
  | .int i, .tup xs => match nums xs with
    | some ns => some (inI i ns)
    | none => none
  | _, _ => none
def inM? (a b : D) : Option Bool := match inT? a b with
  | some k => some k
  | none => in? a b
def fInM : List D → Option RB
  | [a, b] => match inM? a b with
    | some k => some (.d (.bl k))
    | none => none
  | _ => none
def fNotInM : List D → Option RB
  | [a, b] => match inM? a b with
    | some k => some (.d (.bl (!k)))
    | none => none
  | _ => none
def rInM (K : PySem.W.Frag) : R2 := fun x y H Q => rInD K x y H Q ∨ rIn K false x y H Q
def rNotInM (K : PySem.W.Frag) : R2 := fun x y H Q => rNotInD K x y H Q ∨ rIn K true x y H Q
theorem op_inM {X : Cx} (hu : X.A.units + 65 < cLine) : OpR X (compareOp .In) (rInM X.K) := fun pins s σ H x y v u Q I rx ry h => by
  rcases h with h | h
  · exact op_inD hu pins s σ H x y v u Q I rx ry h
  · exact op_in_seq pins s σ H x y v u Q I rx ry h
theorem op_notInM {X : Cx} (hu : X.A.units + 65 < cLine) : OpR X (compareOp .NotIn) (rNotInM X.K) := fun pins s σ H x y v u Q I rx ry h => by
  rcases h with h | h
  · exact op_notInD hu pins s σ H x y v u Q I rx ry h
  · exact op_notIn_seq pins s σ H x y v u Q I rx ry h
section
variable {K : PySem.W.Frag} {c : Ctx} {F H : Hp} {v w : V} {a b : D}
theorem inT_inv {k : Bool} (x : Ex F H) (v1 : View K c F H v a) (v2 : View K c F H w b) (e : inT? a b = some k) : ∃ i p ns, v = .int i ∧ w = .ref p ∧ SqT K H p (ns.map V.int) ∧ k = inI i ns := by
  unfold inT? at e
  split at e
  · split at e
    · rename_i ns q
      cases e
      cases v1
      cases v2 with
      | @tup p us _ q1 l1 => exact ⟨_, p, ns, rfl, rfl, by rw [← l1.nums q]; exact x.t q1, rfl⟩
    · cases e
  · cases e
theorem p_inM : Prim K c (two (rInM K)) fInM := fun F H vs ds res Q x V e f => by
  unfold fInM at e
  split at e
  · split at e
    · rename_i k hk
      cases e
      cases V with
      | cons v1 t => cases t with
        | cons v2 t =>
          cases t
          unfold inM? at hk
          split at hk
          · rename_i k' hk'
            cases hk
            obtain ⟨i, p, ns, rfl, rfl, q1, rfl⟩ := inT_inv x v1 v2 hk'
            exact ⟨_, _, rfl, .inr ⟨p, ns.map V.int, rfl, .inr q1, rfl, flat_ints ns, by rw [if_neg Bool.false_ne_true, inV_int]; exact f.same x (.bl _)⟩⟩
          · obtain ⟨p, ps, h1, h2, s1, s2, rfl⟩ := in_inv hk
            exact ⟨_, _, rfl, .inl ⟨p, ps, v1.dp x h1, v2.dp x h2, s1, s2, f.same x (.bl _)⟩⟩
    · cases e
  · cases e
theorem p_notInM : Prim K c (two (rNotInM K)) fNotInM := fun F H vs ds res Q x V e f => by
  unfold fNotInM at e
  split at e
  · split at e
    · rename_i k hk
      cases e
      cases V with
      | cons v1 t => cases t with
        | cons v2 t =>
          cases t
          unfold inM? at hk
          split at hk
          · rename_i k' hk'
            cases hk
            obtain ⟨i, p, ns, rfl, rfl, q1, rfl⟩ := inT_inv x v1 v2 hk'
            exact ⟨_, _, rfl, .inr ⟨p, ns.map V.int, rfl, .inr q1, rfl, flat_ints ns, by rw [if_pos rfl, inV_int]; exact f.same x (.bl _)⟩⟩
          · obtain ⟨p, ps, h1, h2, s1, s2, rfl⟩ := in_inv hk
            exact ⟨_, _, rfl, .inl ⟨p, ps, v1.dp x h1, v2.dp x h2, s1, s2, f.same x (.bl _)⟩⟩
    · cases e
  · cases e
end
end Ev

namespace Ev
open PySem L2 PyProof.Rows PySem.W
/-! ### any(xs), whole numbers -/
def anyI (ns : List Int) : Bool := ns.any fun n => n != 0
def rAnyI (K : PySem.W.Frag) : List V → Hp → VK → Prop := fun vs H Q => ∃ (a : Addr) (ns : List Int), vs = [V.ref a] ∧ (SqL K H a (ns.map V.int) ∨ SqT K H a (ns.map V.int)) ∧ Q (.bl (anyI ns)) H
theorem plain_ints : ∀ ns : List Int, PyData.plainAll (ns.map PyData.int) = true
  | [] => rfl
  | n :: ns => by
    rw [List.map_cons, PyData.plainAll, Bool.and_eq_true]
    exact ⟨rfl, plain_ints ns⟩
theorem truthy_ints (ns : List Int) : (ns.map PyData.int).any PyData.truthy = anyI ns := by
  rw [List.any_map]
  rfl
theorem fits_ints (ns : List Int) : ∀ x ∈ ns.map PyData.int, x.fits63 := fun x hx => by
  obtain ⟨n, _, rfl⟩ := List.mem_map.mp hx
  exact trivial
theorem cr_anyI {X : Cx} (hc : X.calm = true) : CallR X (.builtin "any") (rAnyI X.K) := by
  intro pins s σ H vs us Q I r h
  obtain ⟨a, ns, rfl, hs | hs, q⟩ := h
  · obtain ⟨its, rv, hl, _⟩ := I.list hs
    rw [Vals.ref1 r]
    refine any_list_data (I.ok.hd hc) hl.isList (ints_readAll s.heap rv.ints) (plain_ints ns) (fits_ints ns) fun h' tk hk => ⟨.bl _, H, I.kept hk, ?_, q⟩
    show Value.bool _ = Value.bool _
    rw [truthy_ints]
  · obtain ⟨its, rv, hl, _⟩ := I.tuple hs
    rw [Vals.ref1 r]
    refine any_tuple_data (I.ok.hd hc) hl (ints_readAll s.heap rv.ints) (plain_ints ns) (fits_ints ns) fun h' tk hk => ⟨.bl _, H, I.kept hk, ?_, q⟩
    show Value.bool _ = Value.bool _
    rw [truthy_ints]
def fAnyI : List D → Option RB
  | [.lst xs] => match nums xs with
    | some ns => some (.d (.bl (anyI ns)))
    | none => none
  | [.ro xs] => match nums xs with
    | some ns => some (.d (.bl (anyI ns)))
    | none => none
  | [.tup xs] => match nums xs with
    | some ns => some (.d (.bl (anyI ns)))
    | none => none
  | _ => none
section
variable {K : PySem.W.Frag} {c : Ctx}
theorem p_anyI : Prim K c (rAnyI K) fAnyI := fun F H vs ds res Q x V e f => by
  unfold fAnyI at e
  split at e
  · split at e
    · rename_i ns q
      cases e
      cases V with
      | cons v1 t => cases t; obtain ⟨a, us, rfl, q1, l1⟩ := v1; exact ⟨a, ns, rfl, by rw [← l1.nums q]; exact .inl (.inl (.inl q1)), f.same x (.bl _)⟩
    · cases e
  · split at e
    · rename_i ns q
      cases e
      cases V with
      | cons v1 t => cases t; cases v1 with | @ro a us _ q1 l1 => exact ⟨a, ns, rfl, by rw [← l1.nums q]; exact .inl (x.l q1), f.same x (.bl _)⟩
    · cases e
  · split at e
    · rename_i ns q
      cases e
      cases V with
      | cons v1 t => cases t; cases v1 with | @tup a us _ q1 l1 => exact ⟨a, ns, rfl, by rw [← l1.nums q]; exact .inr (x.t q1), f.same x (.bl _)⟩
    · cases e
  · cases e
end
end Ev

namespace Ev
open PySem L2 PyProof.Rows PySem.W
/-! ### comb(a, b) -/
def rComb : List V → Hp → VK → Prop := fun vs H Q => ∃ a b : Int, vs = [.int a, .int b] ∧ 0 ≤ a ∧ 0 ≤ b ∧ a ≤ 18000 ∧ Q (.int (mcComb a b)) H
theorem cr_comb {X : Cx} : CallR X (.builtin "math.comb") rComb := by
  intro pins s σ H vs us Q I r h
  obtain ⟨a, b, rfl, h1, h2, h3, q⟩ := h
  obtain ⟨t, u, rfl⟩ := Vals.int2 r
  exact mc_comb_v h1 h2 (by omega) (.inr h3) rfl ⟨.int _, H, I.tok _, ⟨_, rfl⟩, q⟩
def fComb : List D → Option RB
  | [.int a, .int b] => if 0 ≤ a ∧ 0 ≤ b ∧ a ≤ 18000 then some (.d (.int (mcComb a b))) else none
  | _ => none
theorem p_comb {K : PySem.W.Frag} {c : Ctx} : Prim K c rComb fComb := fun F H vs ds res Q x V e f => by
  unfold fComb at e
  split at e
  · split at e
    · rename_i h
      cases e
      cases V with
      | cons v1 t => cases t with
        | cons v2 t =>
          cases t; cases v1; cases v2
          exact ⟨_, _, rfl, h.1, h.2.1, h.2.2, f.same x (.int _)⟩
    · cases e
  · cases e
end Ev

namespace Ev
open PySem L2
/-! ### what is true behind a term: rules to go through a def by hand -/
def W {α : Type} (r : Res α) (P : α → Env → Prop) : Prop := match r with
  | .ok a ρ => P a ρ
  | _ => False
def WS (r : Res Flow) (nx : Env → Prop) (rt : B → Env → Prop) (bk : Env → Prop) : Prop := W r fun f ρ => match f with
  | .nx => nx ρ
  | .rt b => rt b ρ
  | .brk => bk ρ
def WF (r : FRes) (P : RB → List Slot → Prop) : Prop := match r with
  | .ok a o => P a o
  | _ => False
section
variable {α β : Type} {ρ : Env} {P : α → Env → Prop} {nx : Env → Prop} {rt : B → Env → Prop} {bk : Env → Prop}
theorem W.mono {r : Res α} {P Q : α → Env → Prop} (h : W r P) (k : ∀ a ρ, P a ρ → Q a ρ) : W r Q := by
  cases r with
  | ok a ρ => exact k a ρ h
  | no => exact h
  | ex _ _ => exact h
theorem W.bind {r : Res β} {f : β → Env → Res α} (h : W r fun b ρ => W (f b ρ) P) : W (r.bind f) P := by
  cases r with
  | ok a ρ => exact h
  | no => exact h
  | ex _ _ => exact h
theorem W.of {r : Res α} {a : α} {ρ : Env} (e : r = .ok a ρ) (h : P a ρ) : W r P := by rw [e]; exact h
theorem W.get {r : Res α} (h : W r P) : ∃ a ρ, r = .ok a ρ ∧ P a ρ := by
  cases r with
  | ok a ρ => exact ⟨a, ρ, rfl, h⟩
  | no => exact h.elim
  | ex _ _ => exact h.elim
theorem WS.mono {r : Res Flow} {nx' : Env → Prop} {rt' : B → Env → Prop} {bk' : Env → Prop} (h : WS r nx rt bk) (h1 : ∀ ρ, nx ρ → nx' ρ) (h2 : ∀ b ρ, rt b ρ → rt' b ρ) (h3 : ∀ ρ, bk ρ → bk' ρ) : WS r nx' rt' bk' :=
  W.mono h fun f ρ q => by
    cases f with
    | nx => exact h1 ρ q
    | rt b => exact h2 b ρ q
    | brk => exact h3 ρ q
theorem WF.get {r : FRes} {P : RB → List Slot → Prop} (h : WF r P) : ∃ a o, r = .ok a o ∧ P a o := by
  cases r with
  | ok a ρ => exact ⟨a, ρ, rfl, h⟩
  | no => exact h.elim
  | ex _ _ => exact h.elim
theorem WF.mono {r : FRes} {P Q : RB → List Slot → Prop} (h : WF r P) (k : ∀ a o, P a o → Q a o) : WF r Q := by
  cases r with
  | ok a ρ => exact k a ρ h
  | no => exact h
  | ex _ _ => exact h
-- expressions
theorem w_con {d : D} {P : B → Env → Prop} (h : P (.d d) ρ) : W (evE (.con d) ρ) P := h
theorem w_prim {f : List D → Option RB} {as : Es} {P : B → Env → Prop} (h : W (evA as ρ) fun bs ρ1 => ∃ ds r, views ρ1 bs = some ds ∧ f ds = some r ∧ P r.b ρ1) : W (evE (.prim f as) ρ) P := by
  refine W.bind (r := evA as ρ) (W.mono h fun bs ρ1 ⟨ds, r, h1, h2, h3⟩ => ?_)
  rw [h1]
  show W (match f ds with | none => .no | some r => .ok r.b ρ1) P
  rw [h2]
  exact h3
theorem w_tup {as : Es} {P : B → Env → Prop} (h : W (evD as ρ) fun ds ρ1 => ds.length ≤ 1000 ∧ P (.d (.tup ds)) ρ1) : W (evE (.tup as) ρ) P := by
  refine W.bind (r := evD as ρ) (W.mono h fun ds ρ1 ⟨h1, h2⟩ => ?_)
  rw [if_pos h1]
  exact h2
theorem w_lst {as : Es} {P : B → Env → Prop} (h : W (evD as ρ) fun ds ρ1 => ds.length ≤ 1000 ∧ P (.nw ds) ρ1) : W (evE (.lst as) ρ) P := by
  refine W.bind (r := evD as ρ) (W.mono h fun ds ρ1 ⟨h1, h2⟩ => ?_)
  rw [if_pos h1]
  exact h2
theorem w_call {g : Fn} {as : Es} {P : B → Env → Prop} (h : W (evA as ρ) fun bs ρ1 => noTwice bs = true ∧ ∃ ss, args ρ1 bs = some ss ∧ WF (g ss) fun r o => P r.b (back ρ1 bs o)) : W (evE (.call g as) ρ) P := by
  refine W.bind (r := evA as ρ) (W.mono h fun bs ρ1 ⟨h1, ss, h2, h3⟩ => ?_)
  rw [if_pos h1, h2]
  obtain ⟨r, o, e, q⟩ := h3.get
  show W (match g ss with | .no => .no | .ok r o => .ok r.b (back ρ1 bs o) | .ex x o => .ex x (back ρ1 bs o)) P
  rw [e]
  exact q
theorem w_ite {c : T} {a b : E} {P : B → Env → Prop} (h : W (evT c ρ) fun k ρ1 => (k = true → W (evE a ρ1) P) ∧ (k = false → W (evE b ρ1) P)) : W (evE (.ite c a b) ρ) P := by
  refine W.bind (r := evT c ρ) (W.mono h fun k ρ1 ⟨h1, h2⟩ => ?_)
  cases k with
  | true => exact h1 rfl
  | false => exact h2 rfl
theorem we_and {a b : E} {P : B → Env → Prop} (h : W (evE a ρ) fun x ρ1 => ∃ k, x.view ρ1 = some (.bl k) ∧ (k = true → W (evE b ρ1) P) ∧ (k = false → P (.d (.bl false)) ρ1)) : W (evE (.and a b) ρ) P := by
  rw [evE]
  refine W.bind (r := evE a ρ) (W.mono h fun x ρ1 ⟨k, h0, h1, h2⟩ => ?_)
  simp only [h0]
  cases k with
  | true => exact h1 rfl
  | false => exact h2 rfl
theorem we_or {a b : E} {P : B → Env → Prop} (h : W (evE a ρ) fun x ρ1 => ∃ k, x.view ρ1 = some (.bl k) ∧ (k = true → P (.d (.bl true)) ρ1) ∧ (k = false → W (evE b ρ1) P)) : W (evE (.or a b) ρ) P := by
  rw [evE]
  refine W.bind (r := evE a ρ) (W.mono h fun x ρ1 ⟨k, h0, h1, h2⟩ => ?_)
  simp only [h0]
  cases k with
  | true => exact h1 rfl
  | false => exact h2 rfl
theorem we_not {a : E} {P : B → Env → Prop} (h : W (evE a ρ) fun x ρ1 => ∃ k, x.view ρ1 = some (.bl k) ∧ P (.d (.bl (!k))) ρ1) : W (evE (.notb a) ρ) P := by
  rw [evE]
  refine W.bind (r := evE a ρ) (W.mono h fun x ρ1 ⟨k, h0, h1⟩ => ?_)
  simp only [h0]
  exact h1
theorem w_chain {f f' : List D → Option RB} {a b d : E} {P : B → Env → Prop} (h : W (evE a ρ) fun x ρ1 => W (evE b ρ1) fun y ρ2 => ∃ u v k, x.view ρ2 = some u ∧ y.view ρ2 = some v ∧ f [u, v] = some (.d (.bl k)) ∧ (k = false → P (.d (.bl false)) ρ2) ∧
      (k = true → W (evE d ρ2) fun z ρ3 => ∃ v' w r, y.view ρ3 = some v' ∧ z.view ρ3 = some w ∧ f' [v', w] = some r ∧ P r.b ρ3)) : W (evE (.chain f f' a b d) ρ) P := by
  rw [evE]
  refine W.bind (r := evE a ρ) (W.mono h fun x ρ1 q => W.bind (r := evE b ρ1) (W.mono q fun y ρ2 ⟨u, v, k, h1, h2, h3, h4, h5⟩ => ?_))
  simp only [h1, h2, h3]
  cases k with
  | false => exact h4 rfl
  | true =>
    refine W.bind (r := evE d ρ2) (W.mono (h5 rfl) fun z ρ3 ⟨v', w, r, h6, h7, h8, q⟩ => ?_)
    simp only [h6, h7, h8]
    exact q
theorem wa_cons {e : E} {es : Es} {P : List B → Env → Prop} (h : W (evE e ρ) fun b ρ1 => W (evA es ρ1) fun bs ρ2 => P (b :: bs) ρ2) : W (evA (.cons e es) ρ) P :=
  W.bind (r := evE e ρ) (W.mono h fun b ρ1 q => W.bind (r := evA es ρ1) q)
theorem wa_nil {P : List B → Env → Prop} (h : P [] ρ) : W (evA .nil ρ) P := h
theorem wd_cons {e : E} {es : Es} {P : List D → Env → Prop} (h : W (evE e ρ) fun b ρ1 => ∃ d ρ2, b.keep ρ1 = some (d, ρ2) ∧ W (evD es ρ2) fun ds ρ3 => P (d :: ds) ρ3) : W (evD (.cons e es) ρ) P :=
  W.bind (r := evE e ρ) (W.mono h fun b ρ1 ⟨d, ρ2, h1, q⟩ => by
    rw [h1]
    exact W.bind (r := evD es ρ2) q)
theorem wd_nil {P : List D → Env → Prop} (h : P [] ρ) : W (evD .nil ρ) P := h
-- tests
theorem wt_eb {e : E} {P : Bool → Env → Prop} (h : W (evE e ρ) fun b ρ1 => ∃ k, b.view ρ1 = some (.bl k) ∧ P k ρ1) : W (evT (.eb e) ρ) P :=
  W.bind (r := evE e ρ) (W.mono h fun b ρ1 ⟨k, h1, q⟩ => by rw [h1]; exact q)
theorem wt_e {e : E} {P : Bool → Env → Prop} (h : W (evE e ρ) fun b ρ1 => ∃ d k, b.view ρ1 = some d ∧ d.truth = some k ∧ P k ρ1) : W (evT (.e e) ρ) P :=
  W.bind (r := evE e ρ) (W.mono h fun b ρ1 ⟨d, k, h1, h2, q⟩ => by
    rw [h1]
    show W (match d.truth with | none => .no | some k => .ok k ρ1) P
    rw [h2]
    exact q)
theorem wt_and {a b : T} {P : Bool → Env → Prop} (h : W (evT a ρ) fun k ρ1 => (k = true → W (evT b ρ1) P) ∧ (k = false → P false ρ1)) : W (evT (.and a b) ρ) P :=
  W.bind (r := evT a ρ) (W.mono h fun k ρ1 ⟨h1, h2⟩ => by
    cases k with
    | true => exact h1 rfl
    | false => exact h2 rfl)
theorem wt_or {a b : T} {P : Bool → Env → Prop} (h : W (evT a ρ) fun k ρ1 => (k = true → P true ρ1) ∧ (k = false → W (evT b ρ1) P)) : W (evT (.or a b) ρ) P :=
  W.bind (r := evT a ρ) (W.mono h fun k ρ1 ⟨h1, h2⟩ => by
    cases k with
    | true => exact h1 rfl
    | false => exact h2 rfl)
theorem wt_not {a : T} {P : Bool → Env → Prop} (h : W (evT a ρ) fun k ρ1 => P (!k) ρ1) : W (evT (.not a) ρ) P := W.bind (r := evT a ρ) h
-- statements
theorem ws_cons {s : S} {ss : Ss} (h : WS (evS s ρ) (fun ρ1 => WS (evSs ss ρ1) nx rt bk) rt bk) : WS (evSs (.cons s ss) ρ) nx rt bk := by
  unfold WS at h
  obtain ⟨f, ρ1, e, q⟩ := h.get
  rw [evSs, e]
  cases f with
  | nx => exact q
  | rt b => exact q
  | brk => exact q
theorem ws_nil (h : nx ρ) : WS (evSs .nil ρ) nx rt bk := h
theorem ws_asg {i : Nat} {e : E} (h : W (evE e ρ) fun b ρ1 => ∃ b' ρ2 ρ3, b.stab ρ1 = some (b', ρ2) ∧ bindB ρ2 i b' = some ρ3 ∧ nx ρ3) : WS (evS (.asg (.n i) e) ρ) nx rt bk :=
  W.bind (r := evE e ρ) (W.mono h fun b ρ1 ⟨b', ρ2, ρ3, h1, h2, q⟩ => by
    rw [h1]
    show W (match bindB ρ2 i b' with | none => Res.no | some ρ3 => Res.ok Flow.nx ρ3) _
    rw [h2]
    exact q)
theorem ws_asgT {is : List Nat} {e : E} (h : W (evE e ρ) fun b ρ1 => ∃ ds ρ2 ρ3, b.keep ρ1 = some (.tup ds, ρ2) ∧ bndAll ρ2 is ds = some ρ3 ∧ nx ρ3) : WS (evS (.asg (.t is) e) ρ) nx rt bk :=
  W.bind (r := evE e ρ) (W.mono h fun b ρ1 ⟨ds, ρ2, ρ3, h1, h2, q⟩ => by
    rw [h1]
    show W (match bndAll ρ2 is ds with | none => Res.no | some ρ3 => Res.ok Flow.nx ρ3) _
    rw [h2]
    exact q)
theorem ws_par {i j : Nat} {a b : E} (h : W (evE a ρ) fun x ρ1 => W (evE b ρ1) fun y ρ2 => ∃ x' ρ3 y' ρ4 ρ5 ρ6, x.stab ρ2 = some (x', ρ3) ∧ y.stab ρ3 = some (y', ρ4) ∧ bindB ρ4 i x' = some ρ5 ∧ bindB ρ5 j y' = some ρ6 ∧ nx ρ6) : WS (evS (.par i j a b) ρ) nx rt bk :=
  W.bind (r := evE a ρ) (W.mono h fun x ρ1 q => W.bind (r := evE b ρ1) (W.mono q fun y ρ2 ⟨x', ρ3, y', ρ4, ρ5, ρ6, h1, h2, h3, h4, q⟩ => by
    simp only [h1, h2, h3, h4]
    exact q))
theorem ws_seti {i : Nat} {ix v : E} (h : W (evE v ρ) fun b ρ1 => ∃ d ρ2, b.keep ρ1 = some (d, ρ2) ∧ (∃ xs, ρ2.v[i]? = some (.ow xs)) ∧ W (evE ix ρ2) fun k ρ3 => ∃ z xs j, k.view ρ3 = some (.int z) ∧ ρ3.v[i]? = some (.ow xs) ∧ ixN xs.length z = some j ∧ nx (ρ3.setv i (.ow (xs.set j d)))) : WS (evS (.seti i ix v) ρ) nx rt bk := by
  unfold WS
  rw [evS]
  refine W.bind (r := evE v ρ) (W.mono h fun b ρ1 ⟨d, ρ2, h1, ⟨xs0, h2⟩, q⟩ => ?_)
  simp only [h1, h2]
  refine W.bind (r := evE ix ρ2) (W.mono q fun k ρ3 ⟨z, xs, j, h3, h4, h5, q⟩ => ?_)
  simp only [h3, h4, h5]
  exact q
theorem ws_ex {e : E} (h : W (evE e ρ) fun _ ρ1 => nx ρ1) : WS (evS (.ex e) ρ) nx rt bk := W.bind (r := evE e ρ) h
theorem ws_ret {e : E} (h : W (evE e ρ) rt) : WS (evS (.ret e) ρ) nx rt bk := W.bind (r := evE e ρ) h
theorem ws_retN (h : rt (.d .non) ρ) : WS (evS .retN ρ) nx rt bk := h
theorem ws_pass (h : nx ρ) : WS (evS .pass ρ) nx rt bk := h
theorem ws_brk (h : bk ρ) : WS (evS .brk ρ) nx rt bk := h
theorem ws_ite {c : T} {a b : Ss} (h : W (evT c ρ) fun k ρ1 => (k = true → WS (evSs a ρ1) nx rt bk) ∧ (k = false → WS (evSs b ρ1) nx rt bk)) : WS (evS (.ite c a b) ρ) nx rt bk := by
  unfold WS
  rw [evS]
  refine W.bind (r := evT c ρ) (W.mono h fun k ρ1 ⟨h1, h2⟩ => ?_)
  cases k with
  | true => exact h1 rfl
  | false => exact h2 rfl
/-- a for by what is true at each turn: I i ρ, i turns done -/
theorem forLoop_go {step : D → Env → Res Flow} {I : Nat → Env → Prop} : ∀ (xs : List D) (i : Nat) {ρ : Env}, I i ρ → (∀ (j : Nat) (x : D) (ρ : Env), xs[j]? = some x → I (i + j) ρ → WS (step x ρ) (I (i + j + 1)) rt nx) → (∀ ρ, I (i + xs.length) ρ → nx ρ) →
    WS (forLoop step xs ρ) nx rt bk
  | [], i, ρ, h0, _, he => he ρ h0
  | x :: xs, i, ρ, h0, hs, he => by
    have q := hs 0 x ρ rfl h0
    unfold WS at q
    obtain ⟨f, ρ1, e, q⟩ := q.get
    unfold WS
    rw [forLoop, e]
    cases f with
    | nx => exact forLoop_go xs (i + 1) q (fun j y ρ hy hI => by
        have z := hs (j + 1) y ρ hy (by rw [show i + (j + 1) = i + 1 + j by omega]; exact hI)
        rw [show i + (j + 1) + 1 = i + 1 + j + 1 by omega] at z
        exact z) fun ρ hI => he ρ (by rw [List.length_cons, show i + (xs.length + 1) = i + 1 + xs.length by omega]; exact hI)
    | rt b => exact q
    | brk => exact q
theorem ws_for {tg : Tg} {f : List D → Option (List D)} {as : Es} {body : Ss} (h : W (evA as ρ) fun bs ρ1 => ∃ ds items, views ρ1 bs = some ds ∧ f ds = some items ∧ ∃ I : Nat → Env → Prop, I 0 (locks ρ1 bs) ∧
      (∀ (j : Nat) (x : D) (ρ2 : Env), items[j]? = some x → I j ρ2 → ∃ ρ3, tg.set ρ2 x = some ρ3 ∧ WS (evSs body ρ3) (I (j + 1)) (fun b ρ4 => rt b (unlocks ρ1 ρ4 bs)) (fun ρ4 => nx (unlocks ρ1 ρ4 bs))) ∧
      ∀ ρ2, I items.length ρ2 → nx (unlocks ρ1 ρ2 bs)) : WS (evS (.for tg f as body) ρ) nx rt bk := by
  unfold WS
  rw [evS]
  refine W.bind (r := evA as ρ) (W.mono h fun bs ρ1 ⟨ds, items, h1, h2, I, h0, hs, he⟩ => ?_)
  simp only [h1, h2]
  generalize hst : (fun x ρ => match tg.set ρ x with
      | none => Res.no
      | some ρ' => evSs body ρ') = step
  have q := forLoop_go (step := step) (I := I) (nx := fun ρ2 => nx (unlocks ρ1 ρ2 bs)) (rt := fun b ρ2 => rt b (unlocks ρ1 ρ2 bs)) (bk := fun ρ2 => bk (unlocks ρ1 ρ2 bs)) items 0 h0 (fun j x ρ2 hx hI => by
    obtain ⟨ρ3, e, q⟩ := hs j x ρ2 hx (by rw [Nat.zero_add] at hI; exact hI)
    rw [← hst]
    simp only [e, Nat.zero_add]
    exact q) fun ρ2 hI => he ρ2 (by rw [Nat.zero_add] at hI; exact hI)
  unfold WS at q
  obtain ⟨fl, ρ2, e, q⟩ := q.get
  rw [e]
  cases fl with
  | nx => exact q
  | rt b => exact q
  | brk => exact q
/-- a while: I is true ahead of each test, m falls -/
theorem whileLoop_go {c : Env → Res Bool} {step : Env → Res Flow} {I : Env → Prop} {m : Env → Nat} (hs : ∀ ρ, I ρ → W (c ρ) fun k ρ1 => (k = true → WS (step ρ1) (fun ρ2 => I ρ2 ∧ m ρ2 < m ρ) rt nx) ∧ (k = false → nx ρ1)) :
    ∀ (n : Nat) {ρ : Env}, I ρ → m ρ < n → WS (whileLoop c step n ρ) nx rt bk
  | 0, _, _, h => absurd h (Nat.not_lt_zero _)
  | n + 1, ρ, hI, hm => by
    obtain ⟨k, ρ1, e, h1, h2⟩ := (hs ρ hI).get
    unfold WS
    rw [whileLoop, e]
    cases k with
    | false => exact h2 rfl
    | true =>
      have q := h1 rfl
      unfold WS at q
      obtain ⟨f, ρ2, e2, q⟩ := q.get
      simp only [e2]
      cases f with
      | nx => exact whileLoop_go hs n q.1 (by have := q.2; omega)
      | rt b => exact q
      | brk => exact q
theorem ws_while {c : T} {body : Ss} {I : Env → Prop} {m : Env → Nat} (h0 : I ρ) (hm : m ρ < FUEL) (hs : ∀ ρ, I ρ → W (evT c ρ) fun k ρ1 => (k = true → WS (evSs body ρ1) (fun ρ2 => I ρ2 ∧ m ρ2 < m ρ) rt nx) ∧ (k = false → nx ρ1)) : WS (evS (.while c body) ρ) nx rt bk := by
  unfold WS
  rw [evS]
  exact whileLoop_go (I := I) (m := m) hs FUEL h0 hm
/-- a comprehension by what is true at each turn: I i acc ρ, i turns done, acc told -/
theorem lcLoop_go {step : D → Env → Res (Option D)} {I : Nat → List D → Env → Prop} {P : List D → Env → Prop} : ∀ (xs : List D) (i : Nat) {acc : List D} {ρ : Env}, I i acc ρ →
    (∀ (j : Nat) (x : D) (acc : List D) (ρ : Env), xs[j]? = some x → I (i + j) acc ρ → W (step x ρ) fun o ρ' => (∀ y, o = some y → I (i + j + 1) (acc ++ [y]) ρ') ∧ (o = none → I (i + j + 1) acc ρ')) → (∀ acc ρ, I (i + xs.length) acc ρ → P acc ρ) → W (lcLoop step xs acc ρ) P
  | [], i, acc, ρ, h0, _, he => he acc ρ h0
  | x :: xs, i, acc, ρ, h0, hs, he => by
    obtain ⟨o, ρ1, e, q1, q2⟩ := (hs 0 x acc ρ rfl h0).get
    have hs' : ∀ (j : Nat) (y : D) (acc : List D) (ρ : Env), xs[j]? = some y → I (i + 1 + j) acc ρ → W (step y ρ) fun o ρ' => (∀ y, o = some y → I (i + 1 + j + 1) (acc ++ [y]) ρ') ∧ (o = none → I (i + 1 + j + 1) acc ρ') := fun j y acc ρ hy hI => by
      have z := hs (j + 1) y acc ρ hy (by rw [show i + (j + 1) = i + 1 + j by omega]; exact hI)
      rw [show i + (j + 1) + 1 = i + 1 + j + 1 by omega] at z
      exact z
    have he' : ∀ acc ρ, I (i + 1 + xs.length) acc ρ → P acc ρ := fun acc ρ hI => he acc ρ (by rw [List.length_cons, show i + (xs.length + 1) = i + 1 + xs.length by omega]; exact hI)
    rw [lcLoop, e]
    cases o with
    | none => exact lcLoop_go xs (i + 1) (q2 rfl) hs' he'
    | some y => exact lcLoop_go xs (i + 1) (q1 y rfl) hs' he'
theorem w_lc {ows : List Nat} {tg : Tg} {f : List D → Option (List D)} {as : Es} {oc : OT} {elt : E} {P : B → Env → Prop} (h : W (evA as ρ) fun bs ρ1 => ∃ ds items, views ρ1 bs = some ds ∧ f ds = some items ∧
      (items.length ≤ sizeLine ∧ (ows.all fun i => match ρ1.o[i]? with | some .att => false | _ => true) = true ∧ (tg.is.all fun i => ows.contains i) = true) ∧ ∃ I : Nat → List D → Env → Prop, I 0 [] (wipeE (locks ρ1 bs) ows) ∧
      (∀ (j : Nat) (x : D) (acc : List D) (ρ2 : Env), items[j]? = some x → I j acc ρ2 → ∃ ρ3, tg.set ρ2 x = some ρ3 ∧ W (evO oc ρ3) fun k ρ4 => (k = true → W (evE elt ρ4) fun b ρ5 => ∃ d ρ6, b.keep ρ5 = some (d, ρ6) ∧ I (j + 1) (acc ++ [d]) (wipeE ρ6 ows)) ∧ (k = false → I (j + 1) acc (wipeE ρ4 ows))) ∧
      ∀ acc ρ3, I items.length acc ρ3 → P (.nw acc) (unlocks ρ1 (unwipe (locks ρ1 bs) ρ3 ows) bs)) : W (evE (.lc ows tg f as oc elt) ρ) P := by
  rw [evE]
  refine W.bind (r := evA as ρ) (W.mono h fun bs ρ1 ⟨ds, items, h1, h2, h3, I, h0, hs, he⟩ => ?_)
  simp only [h1, h2]
  split
  · refine W.bind (lcLoop_go (I := I) items 0 h0 (fun j x acc ρ2 hx hI => ?_) fun acc ρ2 hI => he acc ρ2 (by rw [Nat.zero_add] at hI; exact hI))
    obtain ⟨ρ3, e, q⟩ := hs j x acc ρ2 hx (by rw [Nat.zero_add] at hI; exact hI)
    simp only [e, Nat.zero_add]
    refine W.bind (r := evO oc ρ3) (W.mono q fun k ρ4 ⟨q1, q2⟩ => ?_)
    cases k with
    | true =>
      rw [if_pos rfl]
      refine W.bind (r := evE elt ρ4) (W.mono (q1 rfl) fun b ρ5 ⟨d, ρ6, h4, h5⟩ => ?_)
      simp only [h4]
      exact ⟨fun y hy => by cases hy; exact h5, fun z => by cases z⟩
    | false =>
      rw [if_neg Bool.false_ne_true]
      exact And.intro (fun y hy => (by cases hy)) (fun _ => q2 rfl)
  · rename_i hno
    exact absurd h3 hno
/-- a def -/
theorem wf_fn {n : Nat} {ir : Ss} {ss : List Slot} {P : RB → List Slot → Prop} (h : WS (evSs ir (start0 n ss)) (fun ρ => P (.d .non) ρ.outs) (fun b ρ => ∃ r ρ', retB ρ b = some (r, ρ') ∧ P r ρ'.outs) fun _ => False) : WF (runFn0 n ir ss) P := by
  unfold WS at h
  obtain ⟨f, ρ, e, q⟩ := h.get
  unfold runFn0 runFn
  rw [e]
  cases f with
  | nx => exact q
  | rt b =>
    obtain ⟨r, ρ', h1, h2⟩ := q
    simp only [h1]
    exact h2
  | brk => exact q.elim
end
end Ev


set_option maxHeartbeats 4000000
namespace Ev
open PySem L2
def top (i : Nat) : Stmt := PySem.Challenge.pw_lightfirst_k11_whole_rings_that_pieces_c.main.body.getD i (.Pass ⟨0, 0, 0, 0⟩)

abbrev st_is_integer : Stmt := top 8
abbrev N_is_integer : List Str := ["thing"]
abbrev st_is_within : Stmt := top 9
abbrev N_is_within : List Str := ["least", "most", "thing"]
abbrev st_is_lot : Stmt := top 10
abbrev N_is_lot : List Str := ["many", "thing", "last", "number"]
abbrev st_is_prime : Stmt := top 13
abbrev N_is_prime : List Str := ["thing", "k"]
abbrev st_is_values : Stmt := top 14
abbrev N_is_values : List Str := ["prime", "many", "thing", "value"]
abbrev st_is_sum : Stmt := top 15
abbrev N_is_sum : List Str := ["prime", "width", "thing"]
abbrev st_width_of : Stmt := top 16
abbrev N_width_of : List Str := ["sums"]
abbrev st_inverse : Stmt := top 17
abbrev N_inverse : List Str := ["prime", "value", "old", "new", "old_times", "new_times", "often"]
abbrev st_reduced : Stmt := top 18
abbrev N_reduced : List Str := ["prime", "rows", "values", "rest", "place", "row", "times", "value", "lead"]
abbrev st_leading : Stmt := top 19
abbrev N_leading : List Str := ["prime", "width", "values", "place", "times", "value"]
abbrev st_new_row : Stmt := top 20
abbrev N_new_row : List Str := ["prime", "width", "rows", "values"]
abbrev st_marked : Stmt := top 21
abbrev N_marked : List Str := ["sums", "many", "at", "values", "k"]
abbrev st_nought_of : Stmt := top 22
abbrev N_nought_of : List Str := ["prime", "sums", "width", "rows", "values", "rest", "row"]
abbrev st_is_pair : Stmt := top 27
abbrev N_is_pair : List Str := ["prime", "many", "thing"]
abbrev st_i_Web : Stmt := inClass (top 28) 0
abbrev N_i_Web : List Str := ["self", "prime", "many", "pieces", "number", "piece"]
abbrev st_is_lot_of : Stmt := top 29
abbrev N_is_lot_of : List Str := ["web", "thing"]
abbrev st_is_piece : Stmt := top 30
abbrev N_is_piece : List Str := ["web", "thing"]
abbrev st_check_lot : Stmt := top 31
abbrev N_check_lot : List Str := ["web", "lot"]
abbrev st_sum_of : Stmt := top 32
abbrev N_sum_of : List Str := ["web", "piece"]
abbrev st_sums_of : Stmt := top 33
abbrev N_sums_of : List Str := ["web", "lot", "piece"]
abbrev st_taken : Stmt := top 34
abbrev N_taken : List Str := ["web", "order", "rows", "kept", "piece", "row"]
abbrev st_is_lean : Stmt := top 35
abbrev N_is_lean : List Str := ["web", "thing"]
abbrev st_closing : Stmt := top 37
abbrev N_closing : List Str := ["web", "lot", "values"]
abbrev st_is_ring : Stmt := top 38
abbrev N_is_ring : List Str := ["web", "thing"]
abbrev st_ring : Stmt := top 39
abbrev N_ring : List Str := ["web", "lot", "piece", "both", "values", "number", "value"]
abbrev st_ring_values : Stmt := top 40
abbrev N_ring_values : List Str := ["web", "lot", "values", "times", "value"]
abbrev st_law_tape : Stmt := top 42
abbrev N_law_tape : List Str := ["_law_script"]
abbrev st_law_pick : Stmt := top 43
abbrev N_law_pick : List Str := ["_law_tape_here", "_law_many", "_law_digit", "_law_cell", "_law_mixed_here"]
abbrev st_law_any : Stmt := top 44
abbrev N_law_any : List Str := ["_law_tape_here", "_law_things"]
abbrev st_law_mixed : Stmt := top 45
abbrev N_law_mixed : List Str := ["_law_tape_here", "_law_things", "_law_left", "_law_at"]
abbrev st_law_inverse : Stmt := top 46
abbrev N_law_inverse : List Str := ["_law_prime", "_law_value", "_law_other"]
abbrev st_law_less : Stmt := top 47
abbrev N_law_less : List Str := ["_law_prime", "_law_row", "_law_times", "_law_lead", "_law_one", "_law_other"]
abbrev st_law_rank : Stmt := top 48
abbrev N_law_rank : List Str := ["_law_prime", "_law_rows", "_law_left", "_law_found", "_law_place", "_law_at", "_law_lead", "_law_turn", "_law_row", "_law_index"]
abbrev st_law_sum : Stmt := top 49
abbrev N_law_sum : List Str := ["_law_tape_here", "_law_prime", "_law_many", "_law_kind", "_law_one", "_law_found", "_law_place"]
abbrev st_law_pieces : Stmt := top 50
abbrev N_law_pieces : List Str := ["_law_tape_here", "_law_prime", "_law_many", "_law_count", "_law_sizes", "_law_found", "_law_number", "_law_told"]
abbrev st_law_filled : Stmt := top 51
abbrev N_law_filled : List Str := ["_law_prime", "_law_many", "_law_pieces_here", "_law_size", "_law_found", "_law_version", "_law_unit", "_law_sums", "_law_told", "_law_one", "_law_place"]
abbrev st_law_great : Stmt := top 52
abbrev N_law_great : List Str := ["_law_tape_here", "_law_most", "_law_prime", "_law_many", "_law_pieces_here"]
abbrev st_law_in : Stmt := top 53
abbrev N_law_in : List Str := ["_law_told", "_law_lot", "_law_piece"]
abbrev st_law_without : Stmt := top 54
abbrev N_law_without : List Str := ["_law_lot", "_law_piece", "_law_one"]
abbrev st_law_with : Stmt := top 55
abbrev N_law_with : List Str := ["_law_lot", "_law_piece"]
abbrev st_law_taken : Stmt := top 56
abbrev N_law_taken : List Str := ["_law_told", "_law_pieces_here", "_law_found", "_law_piece"]
abbrev st_law_all : Stmt := top 57
abbrev N_law_all : List Str := ["_law_told"]
abbrev st_law_lean : Stmt := top 58
abbrev N_law_lean : List Str := ["_law_tape_here", "_law_told", "_law_lot"]
abbrev st_law_ring : Stmt := top 59
abbrev N_law_ring : List Str := ["_law_told", "_law_lot", "_law_piece", "_law_inner", "_law_one"]
abbrev st_law_makes_nought : Stmt := top 60
abbrev N_law_makes_nought : List Str := ["_law_told", "_law_lot", "_law_values", "_law_place", "_law_value", "_law_piece"]
abbrev st_law : Stmt := top 61
abbrev N_law : List Str := ["_law_script", "_law_tape_here", "_law_told", "_law_web", "_law_entire", "_law_thin", "_law_lot", "_law_piece", "_law_due", "_law_more", "_law_one"]
structure Facts (K : PySem.W.Frag) (mg : Str → Option Value) where
  a_is_integer : Addr
  d_is_integer : FuncData
  f_is_integer : Fun K "is_integer" "is_integer" st_is_integer a_is_integer d_is_integer
  m_is_integer : mg "is_integer" = some (.ref a_is_integer)
  b_is_integer : Binds K d_is_integer ["thing"] []
  a_is_within : Addr
  d_is_within : FuncData
  f_is_within : Fun K "is_within" "is_within" st_is_within a_is_within d_is_within
  m_is_within : mg "is_within" = some (.ref a_is_within)
  b_is_within : Binds K d_is_within ["least", "most", "thing"] []
  a_is_lot : Addr
  d_is_lot : FuncData
  f_is_lot : Fun K "is_lot" "is_lot" st_is_lot a_is_lot d_is_lot
  m_is_lot : mg "is_lot" = some (.ref a_is_lot)
  b_is_lot : Binds K d_is_lot ["many", "thing"] []
  a_is_prime : Addr
  d_is_prime : FuncData
  f_is_prime : Fun K "is_prime" "is_prime" st_is_prime a_is_prime d_is_prime
  m_is_prime : mg "is_prime" = some (.ref a_is_prime)
  b_is_prime : Binds K d_is_prime ["thing"] []
  a_is_values : Addr
  d_is_values : FuncData
  f_is_values : Fun K "is_values" "is_values" st_is_values a_is_values d_is_values
  m_is_values : mg "is_values" = some (.ref a_is_values)
  b_is_values : Binds K d_is_values ["prime", "many", "thing"] []
  a_is_sum : Addr
  d_is_sum : FuncData
  f_is_sum : Fun K "is_sum" "is_sum" st_is_sum a_is_sum d_is_sum
  m_is_sum : mg "is_sum" = some (.ref a_is_sum)
  b_is_sum : Binds K d_is_sum ["prime", "width", "thing"] []
  a_width_of : Addr
  d_width_of : FuncData
  f_width_of : Fun K "width_of" "width_of" st_width_of a_width_of d_width_of
  m_width_of : mg "width_of" = some (.ref a_width_of)
  b_width_of : Binds K d_width_of ["sums"] []
  a_inverse : Addr
  d_inverse : FuncData
  f_inverse : Fun K "inverse" "inverse" st_inverse a_inverse d_inverse
  m_inverse : mg "inverse" = some (.ref a_inverse)
  b_inverse : Binds K d_inverse ["prime", "value"] []
  a_reduced : Addr
  d_reduced : FuncData
  f_reduced : Fun K "reduced" "reduced" st_reduced a_reduced d_reduced
  m_reduced : mg "reduced" = some (.ref a_reduced)
  b_reduced : Binds K d_reduced ["prime", "rows", "values"] []
  a_leading : Addr
  d_leading : FuncData
  f_leading : Fun K "leading" "leading" st_leading a_leading d_leading
  m_leading : mg "leading" = some (.ref a_leading)
  b_leading : Binds K d_leading ["prime", "width", "values"] []
  a_new_row : Addr
  d_new_row : FuncData
  f_new_row : Fun K "new_row" "new_row" st_new_row a_new_row d_new_row
  m_new_row : mg "new_row" = some (.ref a_new_row)
  b_new_row : Binds K d_new_row ["prime", "width", "rows", "values"] []
  a_marked : Addr
  d_marked : FuncData
  f_marked : Fun K "marked" "marked" st_marked a_marked d_marked
  m_marked : mg "marked" = some (.ref a_marked)
  b_marked : Binds K d_marked ["sums"] []
  a_nought_of : Addr
  d_nought_of : FuncData
  f_nought_of : Fun K "nought_of" "nought_of" st_nought_of a_nought_of d_nought_of
  m_nought_of : mg "nought_of" = some (.ref a_nought_of)
  b_nought_of : Binds K d_nought_of ["prime", "sums"] []
  a_is_pair : Addr
  d_is_pair : FuncData
  f_is_pair : Fun K "is_pair" "is_pair" st_is_pair a_is_pair d_is_pair
  m_is_pair : mg "is_pair" = some (.ref a_is_pair)
  b_is_pair : Binds K d_is_pair ["prime", "many", "thing"] []
  q_Web : Addr
  m_Web : mg "Web" = some (.ref q_Web)
  a_i_Web : Addr
  d_i_Web : FuncData
  f_i_Web : Fun K "__init__" "Web.__init__" st_i_Web a_i_Web d_i_Web
  mk_Web : Mk K q_Web a_i_Web
  cl_Web : L2.Cls K q_Web
  na_Web_prime : NoAttr K q_Web "prime"
  na_Web_many : NoAttr K q_Web "many"
  na_Web_pieces : NoAttr K q_Web "pieces"
  bi_Web : Binds K d_i_Web ["self", "prime", "many", "pieces"] []
  a_is_lot_of : Addr
  d_is_lot_of : FuncData
  f_is_lot_of : Fun K "is_lot_of" "is_lot_of" st_is_lot_of a_is_lot_of d_is_lot_of
  m_is_lot_of : mg "is_lot_of" = some (.ref a_is_lot_of)
  b_is_lot_of : Binds K d_is_lot_of ["web", "thing"] []
  a_is_piece : Addr
  d_is_piece : FuncData
  f_is_piece : Fun K "is_piece" "is_piece" st_is_piece a_is_piece d_is_piece
  m_is_piece : mg "is_piece" = some (.ref a_is_piece)
  b_is_piece : Binds K d_is_piece ["web", "thing"] []
  a_check_lot : Addr
  d_check_lot : FuncData
  f_check_lot : Fun K "check_lot" "check_lot" st_check_lot a_check_lot d_check_lot
  m_check_lot : mg "check_lot" = some (.ref a_check_lot)
  b_check_lot : Binds K d_check_lot ["web", "lot"] []
  a_sum_of : Addr
  d_sum_of : FuncData
  f_sum_of : Fun K "sum_of" "sum_of" st_sum_of a_sum_of d_sum_of
  m_sum_of : mg "sum_of" = some (.ref a_sum_of)
  b_sum_of : Binds K d_sum_of ["web", "piece"] []
  a_sums_of : Addr
  d_sums_of : FuncData
  f_sums_of : Fun K "sums_of" "sums_of" st_sums_of a_sums_of d_sums_of
  m_sums_of : mg "sums_of" = some (.ref a_sums_of)
  b_sums_of : Binds K d_sums_of ["web", "lot"] []
  a_taken : Addr
  d_taken : FuncData
  f_taken : Fun K "taken" "taken" st_taken a_taken d_taken
  m_taken : mg "taken" = some (.ref a_taken)
  b_taken : Binds K d_taken ["web", "order"] []
  a_is_lean : Addr
  d_is_lean : FuncData
  f_is_lean : Fun K "is_lean" "is_lean" st_is_lean a_is_lean d_is_lean
  m_is_lean : mg "is_lean" = some (.ref a_is_lean)
  b_is_lean : Binds K d_is_lean ["web", "thing"] []
  a_closing : Addr
  d_closing : FuncData
  f_closing : Fun K "closing" "closing" st_closing a_closing d_closing
  m_closing : mg "closing" = some (.ref a_closing)
  b_closing : Binds K d_closing ["web", "lot"] []
  a_is_ring : Addr
  d_is_ring : FuncData
  f_is_ring : Fun K "is_ring" "is_ring" st_is_ring a_is_ring d_is_ring
  m_is_ring : mg "is_ring" = some (.ref a_is_ring)
  b_is_ring : Binds K d_is_ring ["web", "thing"] []
  a_ring : Addr
  d_ring : FuncData
  f_ring : Fun K "ring" "ring" st_ring a_ring d_ring
  m_ring : mg "ring" = some (.ref a_ring)
  b_ring : Binds K d_ring ["web", "lot", "piece"] []
  a_ring_values : Addr
  d_ring_values : FuncData
  f_ring_values : Fun K "ring_values" "ring_values" st_ring_values a_ring_values d_ring_values
  m_ring_values : mg "ring_values" = some (.ref a_ring_values)
  b_ring_values : Binds K d_ring_values ["web", "lot"] []
  a_law_tape : Addr
  d_law_tape : FuncData
  f_law_tape : Fun K "_law_tape" "_law_tape" st_law_tape a_law_tape d_law_tape
  m_law_tape : mg "_law_tape" = some (.ref a_law_tape)
  b_law_tape : Binds K d_law_tape ["_law_script"] []
  a_law_pick : Addr
  d_law_pick : FuncData
  f_law_pick : Fun K "_law_pick" "_law_pick" st_law_pick a_law_pick d_law_pick
  m_law_pick : mg "_law_pick" = some (.ref a_law_pick)
  b_law_pick : Binds K d_law_pick ["_law_tape_here", "_law_many"] []
  a_law_any : Addr
  d_law_any : FuncData
  f_law_any : Fun K "_law_any" "_law_any" st_law_any a_law_any d_law_any
  m_law_any : mg "_law_any" = some (.ref a_law_any)
  b_law_any : Binds K d_law_any ["_law_tape_here", "_law_things"] []
  a_law_mixed : Addr
  d_law_mixed : FuncData
  f_law_mixed : Fun K "_law_mixed" "_law_mixed" st_law_mixed a_law_mixed d_law_mixed
  m_law_mixed : mg "_law_mixed" = some (.ref a_law_mixed)
  b_law_mixed : Binds K d_law_mixed ["_law_tape_here", "_law_things"] []
  a_law_inverse : Addr
  d_law_inverse : FuncData
  f_law_inverse : Fun K "_law_inverse" "_law_inverse" st_law_inverse a_law_inverse d_law_inverse
  m_law_inverse : mg "_law_inverse" = some (.ref a_law_inverse)
  b_law_inverse : Binds K d_law_inverse ["_law_prime", "_law_value"] []
  a_law_less : Addr
  d_law_less : FuncData
  f_law_less : Fun K "_law_less" "_law_less" st_law_less a_law_less d_law_less
  m_law_less : mg "_law_less" = some (.ref a_law_less)
  b_law_less : Binds K d_law_less ["_law_prime", "_law_row", "_law_times", "_law_lead"] []
  a_law_rank : Addr
  d_law_rank : FuncData
  f_law_rank : Fun K "_law_rank" "_law_rank" st_law_rank a_law_rank d_law_rank
  m_law_rank : mg "_law_rank" = some (.ref a_law_rank)
  b_law_rank : Binds K d_law_rank ["_law_prime", "_law_rows"] []
  a_law_sum : Addr
  d_law_sum : FuncData
  f_law_sum : Fun K "_law_sum" "_law_sum" st_law_sum a_law_sum d_law_sum
  m_law_sum : mg "_law_sum" = some (.ref a_law_sum)
  b_law_sum : Binds K d_law_sum ["_law_tape_here", "_law_prime", "_law_many"] []
  a_law_pieces : Addr
  d_law_pieces : FuncData
  f_law_pieces : Fun K "_law_pieces" "_law_pieces" st_law_pieces a_law_pieces d_law_pieces
  m_law_pieces : mg "_law_pieces" = some (.ref a_law_pieces)
  b_law_pieces : Binds K d_law_pieces ["_law_tape_here", "_law_prime", "_law_many", "_law_count", "_law_sizes"] []
  a_law_filled : Addr
  d_law_filled : FuncData
  f_law_filled : Fun K "_law_filled" "_law_filled" st_law_filled a_law_filled d_law_filled
  m_law_filled : mg "_law_filled" = some (.ref a_law_filled)
  b_law_filled : Binds K d_law_filled ["_law_prime", "_law_many", "_law_pieces_here", "_law_size"] []
  a_law_great : Addr
  d_law_great : FuncData
  f_law_great : Fun K "_law_great" "_law_great" st_law_great a_law_great d_law_great
  m_law_great : mg "_law_great" = some (.ref a_law_great)
  b_law_great : Binds K d_law_great ["_law_tape_here", "_law_most"] []
  a_law_in : Addr
  d_law_in : FuncData
  f_law_in : Fun K "_law_in" "_law_in" st_law_in a_law_in d_law_in
  m_law_in : mg "_law_in" = some (.ref a_law_in)
  b_law_in : Binds K d_law_in ["_law_told", "_law_lot"] []
  a_law_without : Addr
  d_law_without : FuncData
  f_law_without : Fun K "_law_without" "_law_without" st_law_without a_law_without d_law_without
  m_law_without : mg "_law_without" = some (.ref a_law_without)
  b_law_without : Binds K d_law_without ["_law_lot", "_law_piece"] []
  a_law_with : Addr
  d_law_with : FuncData
  f_law_with : Fun K "_law_with" "_law_with" st_law_with a_law_with d_law_with
  m_law_with : mg "_law_with" = some (.ref a_law_with)
  b_law_with : Binds K d_law_with ["_law_lot", "_law_piece"] []
  a_law_taken : Addr
  d_law_taken : FuncData
  f_law_taken : Fun K "_law_taken" "_law_taken" st_law_taken a_law_taken d_law_taken
  m_law_taken : mg "_law_taken" = some (.ref a_law_taken)
  b_law_taken : Binds K d_law_taken ["_law_told", "_law_pieces_here"] []
  a_law_all : Addr
  d_law_all : FuncData
  f_law_all : Fun K "_law_all" "_law_all" st_law_all a_law_all d_law_all
  m_law_all : mg "_law_all" = some (.ref a_law_all)
  b_law_all : Binds K d_law_all ["_law_told"] []
  a_law_lean : Addr
  d_law_lean : FuncData
  f_law_lean : Fun K "_law_lean" "_law_lean" st_law_lean a_law_lean d_law_lean
  m_law_lean : mg "_law_lean" = some (.ref a_law_lean)
  b_law_lean : Binds K d_law_lean ["_law_tape_here", "_law_told", "_law_lot"] []
  a_law_ring : Addr
  d_law_ring : FuncData
  f_law_ring : Fun K "_law_ring" "_law_ring" st_law_ring a_law_ring d_law_ring
  m_law_ring : mg "_law_ring" = some (.ref a_law_ring)
  b_law_ring : Binds K d_law_ring ["_law_told", "_law_lot", "_law_piece"] []
  a_law_makes_nought : Addr
  d_law_makes_nought : FuncData
  f_law_makes_nought : Fun K "_law_makes_nought" "_law_makes_nought" st_law_makes_nought a_law_makes_nought d_law_makes_nought
  m_law_makes_nought : mg "_law_makes_nought" = some (.ref a_law_makes_nought)
  b_law_makes_nought : Binds K d_law_makes_nought ["_law_told", "_law_lot", "_law_values"] []
  a_law : Addr
  d_law : FuncData
  f_law : Fun K "law" "law" st_law a_law d_law
  m_law : mg "law" = some (.ref a_law)
  b_law : Binds K d_law ["_law_script"] []
  z_abs : mg "abs" = none
  z_all : mg "all" = none
  z_bool : mg "bool" = none
  t_MOST_PIECES : Tok
  c_MOST_PIECES : mg "MOST_PIECES" = some (.int 40 t_MOST_PIECES)
  t_MOST_PRIME : Tok
  c_MOST_PRIME : mg "MOST_PRIME" = some (.int 251 t_MOST_PRIME)
  t_MOST_SIZE : Tok
  c_MOST_SIZE : mg "MOST_SIZE" = some (.int 1000000 t_MOST_SIZE)
  t_MOST_VERSIONS : Tok
  c_MOST_VERSIONS : mg "MOST_VERSIONS" = some (.int 10 t_MOST_VERSIONS)
  z_enumerate : mg "enumerate" = none
  z_int : mg "int" = none
  z_isinstance : mg "isinstance" = none
  z_len : mg "len" = none
  z_list : mg "list" = none
  z_range : mg "range" = none
  z_sorted : mg "sorted" = none
  z_sum : mg "sum" = none
  z_tuple : mg "tuple" = none
  z_zip : mg "zip" = none
def ir_is_integer : Ss := .cons (.ret (.and (.prim fIsi (.cons (.var 0) (.cons (.con (.ty "int")) (.nil)))) (.notb (.prim fIsi (.cons (.var 0) (.cons (.con (.ty "bool")) (.nil))))))) (.nil)
def F_is_integer : Fn := runFn0 N_is_integer.length ir_is_integer
def ir_is_within : Ss := .cons (.ret (.and (.call F_is_integer (.cons (.var 2) (.nil))) (.chain fLe fLe (.var 0) (.var 2) (.var 1)))) (.nil)
def F_is_within : Fn := runFn0 N_is_within.length ir_is_within
def ir_is_lot : Ss := .cons (.ite (.not (.e (.prim fIsi (.cons (.var 1) (.cons (.con (.ty "tuple")) (.nil)))))) (.cons (.ret (.con (.bl false))) (.nil)) (.nil)) (.cons (.asg (.n 2) (.prim fNeg (.cons (.con (.int 1)) .nil))) (.cons (.for (.n 3) itSeq (.cons (.var 1) .nil) (.cons (.ite (.not (.e (.call F_is_within (.cons (.prim fAdd (.cons (.var 2) (.cons (.con (.int 1)) .nil))) (.cons (.prim fSub (.cons (.var 0) (.cons (.con (.int 1)) .nil))) (.cons (.var 3) (.nil))))))) (.cons (.ret (.con (.bl false))) (.nil)) (.nil)) (.cons (.asg (.n 2) (.var 3)) (.nil)))) (.cons (.ret (.con (.bl true))) (.nil))))
def F_is_lot : Fn := runFn0 N_is_lot.length ir_is_lot
def ir_is_prime : Ss := .cons (.ret (.and (.call F_is_within (.cons (.con (.int 2)) (.cons (.con (.int 251)) (.cons (.var 0) (.nil))))) (.prim fAll (.cons (.lc [1] (.n 1) itRange2 (.cons (.con (.int 2)) (.cons (.con (.int 16)) (.nil))) (.some (.eb (.prim fLe (.cons (.prim fMul (.cons (.var 1) (.cons (.var 1) .nil))) (.cons (.var 0) .nil))))) (.prim fNe (.cons (.prim fMod (.cons (.var 0) (.cons (.var 1) .nil))) (.cons (.con (.int 0)) .nil)))) (.nil))))) (.nil)
def F_is_prime : Fn := runFn0 N_is_prime.length ir_is_prime
def ir_is_values : Ss := .cons (.ite (.or (.not (.e (.prim fIsi (.cons (.var 2) (.cons (.con (.ty "tuple")) (.nil)))))) (.eb (.prim fNe (.cons (.prim fLen (.cons (.var 2) (.nil))) (.cons (.var 1) .nil))))) (.cons (.ret (.con (.bl false))) (.nil)) (.nil)) (.cons (.ret (.prim fAll (.cons (.lc [3] (.n 3) itSeq (.cons (.var 2) .nil) .none (.call F_is_within (.cons (.con (.int 0)) (.cons (.prim fSub (.cons (.var 0) (.cons (.con (.int 1)) .nil))) (.cons (.var 3) (.nil)))))) (.nil)))) (.nil))
def F_is_values : Fn := runFn0 N_is_values.length ir_is_values
def ir_is_sum : Ss := .cons (.ret (.and (.call F_is_values (.cons (.var 0) (.cons (.var 1) (.cons (.var 2) (.nil))))) (.prim fNe (.cons (.var 2) (.cons (.prim fMul (.cons (.tup (.cons (.con (.int 0)) (.nil))) (.cons (.var 1) .nil))) .nil))))) (.nil)
def F_is_sum : Fn := runFn0 N_is_sum.length ir_is_sum
def ir_width_of : Ss := .cons (.ite (.eb (.prim fEq (.cons (.prim fLen (.cons (.var 0) (.nil))) (.cons (.con (.int 0)) .nil)))) (.cons (.ret (.con (.int 0))) (.nil)) (.nil)) (.cons (.ret (.prim fLen (.cons (.prim fIx (.cons (.var 0) (.cons (.con (.int 0)) .nil))) (.nil)))) (.nil))
def F_width_of : Fn := runFn0 N_width_of.length ir_width_of
def ir_inverse : Ss := .cons (.par 2 3 (.var 0) (.var 1)) (.cons (.asg (.t [4, 5]) (.tup (.cons (.con (.int 0)) (.cons (.con (.int 1)) (.nil))))) (.cons (.while (.eb (.prim fNe (.cons (.var 3) (.cons (.con (.int 0)) .nil)))) (.cons (.asg (.n 6) (.prim fDiv (.cons (.var 2) (.cons (.var 3) .nil)))) (.cons (.par 2 3 (.var 3) (.prim fSub (.cons (.var 2) (.cons (.prim fMul (.cons (.var 6) (.cons (.var 3) .nil))) .nil)))) (.cons (.par 4 5 (.var 5) (.prim fSub (.cons (.var 4) (.cons (.prim fMul (.cons (.var 6) (.cons (.var 5) .nil))) .nil)))) (.nil))))) (.cons (.ret (.prim fMod (.cons (.var 4) (.cons (.var 0) .nil)))) (.nil))))
def F_inverse : Fn := runFn0 N_inverse.length ir_inverse
def ir_reduced : Ss := .cons (.asg (.n 3) (.prim fList (.cons (.var 2) (.nil)))) (.cons (.for (.t [4, 5]) itSeq (.cons (.var 1) .nil) (.cons (.asg (.n 6) (.prim fIx (.cons (.var 3) (.cons (.var 4) .nil)))) (.cons (.ite (.eb (.prim fNe (.cons (.var 6) (.cons (.con (.int 0)) .nil)))) (.cons (.asg (.n 3) (.lc [7, 8] (.t [7, 8]) itZipM (.cons (.var 3) (.cons (.var 5) (.nil))) .none (.prim fMod (.cons (.prim fSub (.cons (.var 7) (.cons (.prim fMul (.cons (.var 6) (.cons (.var 8) .nil))) .nil))) (.cons (.var 0) .nil))))) (.nil)) (.nil)) (.nil)))) (.cons (.ret (.var 3)) (.nil)))
def F_reduced : Fn := runFn0 N_reduced.length ir_reduced
def ir_leading : Ss := .cons (.for (.n 3) itRange1 (.cons (.var 1) (.nil)) (.cons (.ite (.eb (.prim fNe (.cons (.prim fIx (.cons (.var 2) (.cons (.var 3) .nil))) (.cons (.con (.int 0)) .nil)))) (.cons (.asg (.n 4) (.call F_inverse (.cons (.var 0) (.cons (.prim fIx (.cons (.var 2) (.cons (.var 3) .nil))) (.nil))))) (.cons (.ret (.tup (.cons (.var 3) (.cons (.lc [5] (.n 5) itSeq (.cons (.var 2) .nil) .none (.prim fMod (.cons (.prim fMul (.cons (.var 5) (.cons (.var 4) .nil))) (.cons (.var 0) .nil)))) (.nil))))) (.nil))) (.nil)) (.nil))) (.cons (.ret (.con .non)) (.nil))
def F_leading : Fn := runFn0 N_leading.length ir_leading
def ir_new_row : Ss := .cons (.ret (.call F_leading (.cons (.var 0) (.cons (.var 1) (.cons (.call F_reduced (.cons (.var 0) (.cons (.var 2) (.cons (.var 3) (.nil))))) (.nil)))))) (.nil)
def F_new_row : Fn := runFn0 N_new_row.length ir_new_row
def ir_marked : Ss := .cons (.asg (.n 1) (.prim fLen (.cons (.var 0) (.nil)))) (.cons (.ret (.lc [2, 3] (.t [2, 3]) itEnumA (.cons (.var 0) (.nil)) .none (.prim fAdd (.cons (.prim fList (.cons (.var 3) (.nil))) (.cons (.lc [4] (.n 4) itRange1 (.cons (.var 1) (.nil)) .none (.prim fInt (.cons (.prim fEq (.cons (.var 4) (.cons (.var 2) .nil))) (.nil)))) .nil))))) (.nil))
def F_marked : Fn := runFn0 N_marked.length ir_marked
def ir_nought_of : Ss := .cons (.asg (.n 2) (.call F_width_of (.cons (.var 1) (.nil)))) (.cons (.asg (.n 3) (.lst (.nil))) (.cons (.for (.n 4) itSeq (.cons (.call F_marked (.cons (.var 1) (.nil))) .nil) (.cons (.asg (.n 5) (.call F_reduced (.cons (.var 0) (.cons (.var 3) (.cons (.var 4) (.nil)))))) (.cons (.asg (.n 6) (.call F_leading (.cons (.var 0) (.cons (.var 2) (.cons (.var 5) (.nil)))))) (.cons (.ite (.eb (.prim fIsN (.cons (.var 6) (.cons (.con .non) .nil)))) (.cons (.ret (.prim fTuple (.cons (.prim fCutL (.cons (.var 5) (.cons (.var 2) .nil))) (.nil)))) (.nil)) (.nil)) (.cons (.ex (.mut mAppend 3 (.cons (.var 6) (.nil)))) (.nil)))))) (.cons (.ret (.con .non)) (.nil))))
def F_nought_of : Fn := runFn0 N_nought_of.length ir_nought_of
def ir_is_pair : Ss := .cons (.ite (.or (.not (.e (.prim fIsi (.cons (.var 2) (.cons (.con (.ty "tuple")) (.nil)))))) (.eb (.prim fNe (.cons (.prim fLen (.cons (.var 2) (.nil))) (.cons (.con (.int 2)) .nil))))) (.cons (.ret (.con (.bl false))) (.nil)) (.nil)) (.cons (.ret (.and (.call F_is_sum (.cons (.var 0) (.cons (.var 1) (.cons (.prim fIx (.cons (.var 2) (.cons (.con (.int 0)) .nil))) (.nil))))) (.call F_is_within (.cons (.con (.int 1)) (.cons (.con (.int 1000000)) (.cons (.prim fIx (.cons (.var 2) (.cons (.con (.int 1)) .nil))) (.nil))))))) (.nil))
def F_is_pair : Fn := runFn0 N_is_pair.length ir_is_pair
def ir_i_Web : Ss := .cons (.ite (.not (.e (.call F_is_prime (.cons (.var 1) (.nil))))) (.cons (.never) (.nil)) (.nil)) (.cons (.ite (.not (.e (.call F_is_within (.cons (.con (.int 1)) (.cons (.con (.int 10)) (.cons (.var 2) (.nil))))))) (.cons (.never) (.nil)) (.nil)) (.cons (.ite (.or (.not (.e (.prim fIsi (.cons (.var 3) (.cons (.con (.ty "tuple")) (.nil)))))) (.eb (.prim fGt (.cons (.prim fLen (.cons (.var 3) (.nil))) (.cons (.con (.int 40)) .nil))))) (.cons (.never) (.nil)) (.nil)) (.cons (.for (.t [4, 5]) itEnumA (.cons (.var 3) (.nil)) (.cons (.ite (.not (.e (.call F_is_pair (.cons (.var 1) (.cons (.var 2) (.cons (.var 5) (.nil))))))) (.cons (.never) (.nil)) (.nil)) (.nil))) (.nil))))
def F_i_Web : Fn := mkFn N_i_Web.length ir_i_Web [1, 2, 3] 1000 0
abbrev fs_Web : List Str := ["prime", "many", "pieces"]
def ir_is_lot_of : Ss := .cons (.ret (.call F_is_lot (.cons (.prim fLen (.cons (.prim (fFld 0 2) (.cons (.var 0) .nil)) (.nil))) (.cons (.var 1) (.nil))))) (.nil)
def F_is_lot_of : Fn := runFn0 N_is_lot_of.length ir_is_lot_of
def ir_is_piece : Ss := .cons (.ret (.call F_is_within (.cons (.con (.int 0)) (.cons (.prim fSub (.cons (.prim fLen (.cons (.prim (fFld 0 2) (.cons (.var 0) .nil)) (.nil))) (.cons (.con (.int 1)) .nil))) (.cons (.var 1) (.nil)))))) (.nil)
def F_is_piece : Fn := runFn0 N_is_piece.length ir_is_piece
def ir_check_lot : Ss := .cons (.ite (.not (.e (.call F_is_lot_of (.cons (.var 0) (.cons (.var 1) (.nil)))))) (.cons (.never) (.nil)) (.nil)) (.nil)
def F_check_lot : Fn := runFn0 N_check_lot.length ir_check_lot
def ir_sum_of : Ss := .cons (.ret (.prim fIx (.cons (.prim fIx (.cons (.prim (fFld 0 2) (.cons (.var 0) .nil)) (.cons (.var 1) .nil))) (.cons (.con (.int 0)) .nil)))) (.nil)
def F_sum_of : Fn := runFn0 N_sum_of.length ir_sum_of
def ir_sums_of : Ss := .cons (.ret (.prim fTuple (.cons (.lc [2] (.n 2) itSeq (.cons (.var 1) .nil) .none (.call F_sum_of (.cons (.var 0) (.cons (.var 2) (.nil))))) (.nil)))) (.nil)
def F_sums_of : Fn := runFn0 N_sums_of.length ir_sums_of
def ir_taken : Ss := .cons (.asg (.n 2) (.lst (.nil))) (.cons (.asg (.n 3) (.lst (.nil))) (.cons (.for (.n 4) itSeq (.cons (.var 1) .nil) (.cons (.asg (.n 5) (.call F_new_row (.cons (.prim (fFld 0 0) (.cons (.var 0) .nil)) (.cons (.prim (fFld 0 1) (.cons (.var 0) .nil)) (.cons (.var 2) (.cons (.call F_sum_of (.cons (.var 0) (.cons (.var 4) (.nil)))) (.nil))))))) (.cons (.ite (.eb (.prim fNotN (.cons (.var 5) (.cons (.con .non) .nil)))) (.cons (.ex (.mut mAppend 2 (.cons (.var 5) (.nil)))) (.cons (.ex (.mut mAppend 3 (.cons (.var 4) (.nil)))) (.nil))) (.nil)) (.nil)))) (.cons (.ret (.prim fTuple (.cons (.var 3) (.nil)))) (.nil))))
def F_taken : Fn := runFn0 N_taken.length ir_taken
def ir_is_lean : Ss := .cons (.ret (.and (.call F_is_lot_of (.cons (.var 0) (.cons (.var 1) (.nil)))) (.prim fEq (.cons (.prim fLen (.cons (.call F_taken (.cons (.var 0) (.cons (.var 1) (.nil)))) (.nil))) (.cons (.prim fLen (.cons (.var 1) (.nil))) .nil))))) (.nil)
def F_is_lean : Fn := runFn0 N_is_lean.length ir_is_lean
def ir_closing : Ss := .cons (.asg (.n 2) (.call F_nought_of (.cons (.prim (fFld 0 0) (.cons (.var 0) .nil)) (.cons (.call F_sums_of (.cons (.var 0) (.cons (.var 1) (.nil)))) (.nil))))) (.cons (.ite (.or (.eb (.prim fIsN (.cons (.var 2) (.cons (.con .non) .nil)))) (.eb (.prim fInM (.cons (.con (.int 0)) (.cons (.var 2) .nil))))) (.cons (.ret (.con .non)) (.nil)) (.nil)) (.cons (.ret (.var 2)) (.nil)))
def F_closing : Fn := runFn0 N_closing.length ir_closing
def ir_is_ring : Ss := .cons (.ret (.and (.call F_is_lot_of (.cons (.var 0) (.cons (.var 1) (.nil)))) (.prim fNotN (.cons (.call F_closing (.cons (.var 0) (.cons (.var 1) (.nil)))) (.cons (.con .non) .nil))))) (.nil)
def F_is_ring : Fn := runFn0 N_is_ring.length ir_is_ring
def ir_ring : Ss := .cons (.ex (.call F_check_lot (.cons (.var 0) (.cons (.var 1) (.nil))))) (.cons (.ite (.not (.e (.call F_is_lean (.cons (.var 0) (.cons (.var 1) (.nil)))))) (.cons (.never) (.nil)) (.nil)) (.cons (.ite (.or (.not (.e (.call F_is_piece (.cons (.var 0) (.cons (.var 2) (.nil)))))) (.eb (.prim fInM (.cons (.var 2) (.cons (.var 1) .nil))))) (.cons (.never) (.nil)) (.nil)) (.cons (.asg (.n 3) (.prim fAdd (.cons (.var 1) (.cons (.tup (.cons (.var 2) (.nil))) .nil)))) (.cons (.asg (.n 4) (.call F_nought_of (.cons (.prim (fFld 0 0) (.cons (.var 0) .nil)) (.cons (.call F_sums_of (.cons (.var 0) (.cons (.var 3) (.nil)))) (.nil))))) (.cons (.ite (.eb (.prim fIsN (.cons (.var 4) (.cons (.con .non) .nil)))) (.cons (.ret (.con .non)) (.nil)) (.nil)) (.cons (.ret (.prim fTuple (.cons (.prim fSortedA (.cons (.lc [5, 6] (.t [5, 6]) itZipM (.cons (.var 3) (.cons (.var 4) (.nil))) (.some (.eb (.prim fNe (.cons (.var 6) (.cons (.con (.int 0)) .nil))))) (.var 5)) (.nil))) (.nil)))) (.nil)))))))
def F_ring : Fn := runFn0 N_ring.length ir_ring
def ir_ring_values : Ss := .cons (.ex (.call F_check_lot (.cons (.var 0) (.cons (.var 1) (.nil))))) (.cons (.asg (.n 2) (.call F_closing (.cons (.var 0) (.cons (.var 1) (.nil))))) (.cons (.ite (.eb (.prim fIsN (.cons (.var 2) (.cons (.con .non) .nil)))) (.cons (.never) (.nil)) (.nil)) (.cons (.asg (.n 3) (.call F_inverse (.cons (.prim (fFld 0 0) (.cons (.var 0) .nil)) (.cons (.prim fIx (.cons (.var 2) (.cons (.con (.int 0)) .nil))) (.nil))))) (.cons (.ret (.prim fTuple (.cons (.lc [4] (.n 4) itSeq (.cons (.var 2) .nil) .none (.prim fMod (.cons (.prim fMul (.cons (.var 4) (.cons (.var 3) .nil))) (.cons (.prim (fFld 0 0) (.cons (.var 0) .nil)) .nil)))) (.nil)))) (.nil)))))
def F_ring_values : Fn := runFn0 N_ring_values.length ir_ring_values
def ir_law_tape : Ss := .cons (.ret (.lst (.cons (.prim fList (.cons (.var 0) (.nil))) (.cons (.con (.int 0)) (.cons (.con (.int 0)) (.cons (.con (.int 1)) (.cons (.con (.int 0)) (.nil)))))))) (.nil)
def F_law_tape : Fn := runFn0 N_law_tape.length ir_law_tape
def ir_law_pick : Ss := .cons (.ite (.eb (.prim fGt (.cons (.prim fIx (.cons (.var 0) (.cons (.con (.int 2)) .nil))) (.cons (.con (.int 1)) .nil)))) (.cons (.asg (.n 2) (.prim fMod (.cons (.prim fInt (.cons (.prim fIx (.cons (.var 0) (.cons (.con (.int 2)) .nil))) (.nil))) (.cons (.var 1) .nil)))) (.cons (.seti 0 (.con (.int 2)) (.prim fDiv (.cons (.prim fIx (.cons (.var 0) (.cons (.con (.int 2)) .nil))) (.cons (.var 1) .nil)))) (.cons (.ret (.var 2)) (.nil)))) (.nil)) (.cons (.seti 0 (.con (.int 4)) (.prim fAdd (.cons (.prim fIx (.cons (.var 0) (.cons (.con (.int 4)) .nil))) (.cons (.con (.int 1)) .nil)))) (.cons (.asg (.n 3) (.con (.int 0))) (.cons (.ite (.eb (.prim fLt (.cons (.prim fIx (.cons (.var 0) (.cons (.con (.int 1)) .nil))) (.cons (.prim fLen (.cons (.prim fIx (.cons (.var 0) (.cons (.con (.int 0)) .nil))) (.nil))) .nil)))) (.cons (.asg (.n 3) (.prim fAbs (.cons (.prim fInt (.cons (.prim fIx (.cons (.prim fIx (.cons (.var 0) (.cons (.con (.int 0)) .nil))) (.cons (.prim fIx (.cons (.var 0) (.cons (.con (.int 1)) .nil))) .nil))) (.nil))) (.nil)))) (.cons (.seti 0 (.con (.int 1)) (.prim fAdd (.cons (.prim fIx (.cons (.var 0) (.cons (.con (.int 1)) .nil))) (.cons (.con (.int 1)) .nil)))) (.nil))) (.nil)) (.cons (.ite (.eb (.prim fGe (.cons (.var 3) (.cons (.prim fPow (.cons (.con (.int 10)) (.cons (.con (.int 18)) .nil))) .nil)))) (.cons (.seti 0 (.con (.int 2)) (.prim fDiv (.cons (.var 3) (.cons (.var 1) .nil)))) (.cons (.ret (.prim fMod (.cons (.prim fInt (.cons (.var 3) (.nil))) (.cons (.var 1) .nil)))) (.nil))) (.nil)) (.cons (.asg (.n 4) (.prim fInt (.cons (.prim fAdd (.cons (.prim fMul (.cons (.prim fIx (.cons (.var 0) (.cons (.con (.int 3)) .nil))) (.cons (.con (.int 48271)) .nil))) (.cons (.prim fMod (.cons (.prim fInt (.cons (.var 3) (.nil))) (.cons (.con (.int 2147483629)) .nil))) .nil))) (.nil)))) (.cons (.asg (.n 4) (.prim fMod (.cons (.prim fInt (.cons (.prim fAdd (.cons (.var 4) (.cons (.prim fMul (.cons (.prim fIx (.cons (.var 0) (.cons (.con (.int 4)) .nil))) (.cons (.con (.int 69621)) .nil))) .nil))) (.nil))) (.cons (.con (.int 2147483647)) .nil)))) (.cons (.asg (.n 4) (.prim fMod (.cons (.prim fInt (.cons (.prim fMul (.cons (.var 4) (.cons (.prim fAdd (.cons (.prim fDiv (.cons (.var 4) (.cons (.con (.int 1009)) .nil))) (.cons (.con (.int 40692)) .nil))) .nil))) (.nil))) (.cons (.con (.int 2147483399)) .nil)))) (.cons (.seti 0 (.con (.int 3)) (.var 4)) (.cons (.ret (.prim fMod (.cons (.prim fInt (.cons (.prim fDiv (.cons (.var 4) (.cons (.con (.int 16)) .nil))) (.nil))) (.cons (.var 1) .nil)))) (.nil))))))))))
def F_law_pick : Fn := runFn0 N_law_pick.length ir_law_pick
def ir_law_any : Ss := .cons (.ret (.prim fIx (.cons (.var 1) (.cons (.call F_law_pick (.cons (.var 0) (.cons (.prim fLen (.cons (.var 1) (.nil))) (.nil)))) .nil)))) (.nil)
def F_law_any : Fn := runFn0 N_law_any.length ir_law_any
def ir_law_mixed : Ss := .cons (.asg (.n 2) (.prim fList (.cons (.var 1) (.nil)))) (.cons (.ret (.lc [3] (.n 3) itRange1 (.cons (.prim fLen (.cons (.var 1) (.nil))) (.nil)) .none (.mut mPopAt 2 (.cons (.call F_law_pick (.cons (.var 0) (.cons (.prim fLen (.cons (.var 2) (.nil))) (.nil)))) (.nil))))) (.nil))
def F_law_mixed : Fn := runFn0 N_law_mixed.length ir_law_mixed
def ir_law_inverse : Ss := .cons (.for (.n 2) itRange1 (.cons (.var 0) (.nil)) (.cons (.ite (.eb (.prim fEq (.cons (.prim fMod (.cons (.prim fInt (.cons (.prim fMul (.cons (.var 1) (.cons (.var 2) .nil))) (.nil))) (.cons (.var 0) .nil))) (.cons (.con (.int 1)) .nil)))) (.cons (.ret (.var 2)) (.nil)) (.nil)) (.nil))) (.cons (.ret (.con (.int 0))) (.nil))
def F_law_inverse : Fn := runFn0 N_law_inverse.length ir_law_inverse
def ir_law_less : Ss := .cons (.ret (.lc [4, 5] (.t [4, 5]) itZipM (.cons (.var 1) (.cons (.var 3) (.nil))) .none (.prim fMod (.cons (.prim fInt (.cons (.prim fSub (.cons (.var 4) (.cons (.prim fMul (.cons (.var 2) (.cons (.var 5) .nil))) .nil))) (.nil))) (.cons (.var 0) .nil))))) (.nil)
def F_law_less : Fn := runFn0 N_law_less.length ir_law_less
def ir_law_rank : Ss := .cons (.par 2 3 (.lc [8] (.n 8) itSeq (.cons (.var 1) .nil) .none (.prim fList (.cons (.var 8) (.nil)))) (.con (.int 0))) (.cons (.for (.n 4) itRange1 (.cons (.ite (.eb (.prim fGt (.cons (.prim fLen (.cons (.var 2) (.nil))) (.cons (.con (.int 0)) .nil)))) (.prim fLen (.cons (.prim fIx (.cons (.var 2) (.cons (.con (.int 0)) .nil))) (.nil))) (.con (.int 0))) (.nil)) (.cons (.asg (.n 5) (.lc [9, 8] (.t [9, 8]) itEnumA (.cons (.var 2) (.nil)) (.some (.eb (.prim fNe (.cons (.prim fIx (.cons (.var 8) (.cons (.var 4) .nil))) (.cons (.con (.int 0)) .nil))))) (.var 9))) (.cons (.ite (.eb (.prim fGt (.cons (.prim fLen (.cons (.var 5) (.nil))) (.cons (.con (.int 0)) .nil)))) (.cons (.asg (.n 6) (.mut mPopAt 2 (.cons (.prim fIx (.cons (.var 5) (.cons (.con (.int 0)) .nil))) (.nil)))) (.cons (.asg (.n 7) (.call F_law_inverse (.cons (.var 0) (.cons (.prim fIx (.cons (.var 6) (.cons (.var 4) .nil))) (.nil))))) (.cons (.asg (.n 2) (.lc [8] (.n 8) itSeq (.cons (.var 2) .nil) .none (.call F_law_less (.cons (.var 0) (.cons (.var 8) (.cons (.prim fMod (.cons (.prim fInt (.cons (.prim fMul (.cons (.prim fIx (.cons (.var 8) (.cons (.var 4) .nil))) (.cons (.var 7) .nil))) (.nil))) (.cons (.var 0) .nil))) (.cons (.var 6) (.nil)))))))) (.cons (.asg (.n 3) (.prim fAdd (.cons (.var 3) (.cons (.con (.int 1)) .nil)))) (.nil))))) (.nil)) (.nil)))) (.cons (.ret (.var 3)) (.nil)))
def F_law_rank : Fn := runFn0 N_law_rank.length ir_law_rank
def ir_law_sum : Ss := .cons (.par 3 4 (.call F_law_pick (.cons (.var 0) (.cons (.con (.int 5)) (.nil)))) (.call F_law_pick (.cons (.var 0) (.cons (.var 2) (.nil))))) (.cons (.asg (.n 5) (.prim fMul (.cons (.lst (.cons (.con (.int 0)) (.nil))) (.cons (.var 2) .nil)))) (.cons (.ite (.or (.eb (.prim fLt (.cons (.var 3) (.cons (.con (.int 2)) .nil)))) (.eb (.prim fEq (.cons (.var 2) (.cons (.con (.int 1)) .nil))))) (.cons (.seti 5 (.var 4) (.ite (.eb (.prim fLt (.cons (.var 3) (.cons (.con (.int 2)) .nil)))) (.con (.int 1)) (.prim fAdd (.cons (.con (.int 1)) (.cons (.call F_law_pick (.cons (.var 0) (.cons (.prim fSub (.cons (.var 1) (.cons (.con (.int 1)) .nil))) (.nil)))) .nil))))) (.cons (.ret (.prim fTuple (.cons (.var 5) (.nil)))) (.nil))) (.nil)) (.cons (.ite (.eb (.prim fEq (.cons (.var 3) (.cons (.con (.int 2)) .nil)))) (.cons (.seti2 5 (.var 4) (.prim fMod (.cons (.prim fAdd (.cons (.prim fAdd (.cons (.var 4) (.cons (.con (.int 1)) .nil))) (.cons (.call F_law_pick (.cons (.var 0) (.cons (.prim fSub (.cons (.var 2) (.cons (.con (.int 1)) .nil))) (.nil)))) .nil))) (.cons (.var 2) .nil))) (.tup (.cons (.con (.int 1)) (.cons (.prim fSub (.cons (.var 1) (.cons (.con (.int 1)) .nil))) (.nil))))) (.cons (.ret (.prim fTuple (.cons (.var 5) (.nil)))) (.nil))) (.nil)) (.cons (.asg (.n 5) (.lc [6] (.n 6) itRange1 (.cons (.var 2) (.nil)) .none (.ite (.eb (.prim fGt (.cons (.call F_law_pick (.cons (.var 0) (.cons (.con (.int 3)) (.nil)))) (.cons (.con (.int 0)) .nil)))) (.call F_law_pick (.cons (.var 0) (.cons (.var 1) (.nil)))) (.con (.int 0))))) (.cons (.seti 5 (.var 4) (.prim fAdd (.cons (.con (.int 1)) (.cons (.call F_law_pick (.cons (.var 0) (.cons (.prim fSub (.cons (.var 1) (.cons (.con (.int 1)) .nil))) (.nil)))) .nil)))) (.cons (.ret (.prim fTuple (.cons (.var 5) (.nil)))) (.nil)))))))
def F_law_sum : Fn := runFn0 N_law_sum.length ir_law_sum
def ir_law_pieces : Ss := .cons (.asg (.n 5) (.lst (.nil))) (.cons (.for (.n 6) itRange1 (.cons (.var 3) (.nil)) (.cons (.asg (.n 7) (.call F_law_sum (.cons (.var 0) (.cons (.var 1) (.cons (.var 2) (.nil)))))) (.cons (.ite (.and (.eb (.prim fGt (.cons (.var 6) (.cons (.con (.int 0)) .nil)))) (.eb (.prim fEq (.cons (.call F_law_pick (.cons (.var 0) (.cons (.con (.int 7)) (.nil)))) (.cons (.con (.int 0)) .nil))))) (.cons (.asg (.n 7) (.prim fIx (.cons (.prim fIx (.cons (.var 5) (.cons (.call F_law_pick (.cons (.var 0) (.cons (.var 6) (.nil)))) .nil))) (.cons (.con (.int 0)) .nil)))) (.nil)) (.nil)) (.cons (.ex (.mut mAppend 5 (.cons (.tup (.cons (.var 7) (.cons (.prim fAdd (.cons (.con (.int 1)) (.cons (.call F_law_pick (.cons (.var 0) (.cons (.var 4) (.nil)))) .nil))) (.nil)))) (.nil)))) (.nil))))) (.cons (.ret (.var 5)) (.nil)))
def F_law_pieces : Fn := runFn0 N_law_pieces.length ir_law_pieces
def ir_law_filled : Ss := .cons (.asg (.n 4) (.prim fList (.cons (.var 2) (.nil)))) (.cons (.for (.n 5) itRange1 (.cons (.var 1) (.nil)) (.cons (.asg (.n 6) (.prim fTuple (.cons (.lc [10] (.n 10) itRange1 (.cons (.var 1) (.nil)) .none (.ite (.eb (.prim fEq (.cons (.var 10) (.cons (.var 5) .nil)))) (.con (.int 1)) (.con (.int 0)))) (.nil)))) (.cons (.asg (.n 7) (.lc [8, 9] (.t [8, 9]) itSeq (.cons (.var 4) .nil) .none (.var 8))) (.cons (.ite (.eb (.prim fGt (.cons (.call F_law_rank (.cons (.var 0) (.cons (.prim fAdd (.cons (.var 7) (.cons (.lst (.cons (.var 6) (.nil))) .nil))) (.nil)))) (.cons (.call F_law_rank (.cons (.var 0) (.cons (.var 7) (.nil)))) .nil)))) (.cons (.ex (.mut mAppend 4 (.cons (.tup (.cons (.var 6) (.cons (.var 3) (.nil)))) (.nil)))) (.nil)) (.nil)) (.nil))))) (.cons (.ret (.var 4)) (.nil)))
def F_law_filled : Fn := runFn0 N_law_filled.length ir_law_filled
def ir_law_great : Ss := .cons (.par 2 3 (.call F_law_any (.cons (.var 0) (.cons (.lst (.cons (.con (.int 2)) (.cons (.con (.int 3)) (.cons (.con (.int 5)) (.cons (.con (.int 7)) (.cons (.con (.int 13)) (.cons (.con (.int 251)) (.nil)))))))) (.nil)))) (.prim fAdd (.cons (.con (.int 1)) (.cons (.call F_law_pick (.cons (.var 0) (.cons (.con (.int 10)) (.nil)))) .nil)))) (.cons (.asg (.n 4) (.call F_law_pieces (.cons (.var 0) (.cons (.var 2) (.cons (.var 3) (.cons (.prim fAdd (.cons (.con (.int 1)) (.cons (.call F_law_pick (.cons (.var 0) (.cons (.var 1) (.nil)))) .nil))) (.cons (.call F_law_any (.cons (.var 0) (.cons (.lst (.cons (.con (.int 1)) (.cons (.con (.int 3)) (.cons (.con (.int 9)) (.cons (.prim fPow (.cons (.con (.int 10)) (.cons (.con (.int 6)) .nil))) (.nil)))))) (.nil)))) (.nil)))))))) (.cons (.ret (.tup (.cons (.var 2) (.cons (.var 3) (.cons (.call F_law_filled (.cons (.var 2) (.cons (.var 3) (.cons (.var 4) (.cons (.prim fAdd (.cons (.con (.int 1)) (.cons (.call F_law_pick (.cons (.var 0) (.cons (.con (.int 9)) (.nil)))) .nil))) (.nil)))))) (.nil)))))) (.nil)))
def F_law_great : Fn := runFn0 N_law_great.length ir_law_great
def ir_law_in : Ss := .cons (.ret (.call F_law_rank (.cons (.prim fIx (.cons (.var 0) (.cons (.con (.int 0)) .nil))) (.cons (.lc [2] (.n 2) itSeq (.cons (.var 1) .nil) .none (.prim fIx (.cons (.prim fIx (.cons (.prim fIx (.cons (.var 0) (.cons (.con (.int 2)) .nil))) (.cons (.var 2) .nil))) (.cons (.con (.int 0)) .nil)))) (.nil))))) (.nil)
def F_law_in : Fn := runFn0 N_law_in.length ir_law_in
def ir_law_without : Ss := .cons (.ret (.prim fTuple (.cons (.lc [2] (.n 2) itSeq (.cons (.var 0) .nil) (.some (.eb (.prim fNe (.cons (.var 2) (.cons (.var 1) .nil))))) (.var 2)) (.nil)))) (.nil)
def F_law_without : Fn := runFn0 N_law_without.length ir_law_without
def ir_law_with : Ss := .cons (.ret (.prim fTuple (.cons (.prim fSortedA (.cons (.prim fAdd (.cons (.var 0) (.cons (.tup (.cons (.var 1) (.nil))) .nil))) (.nil))) (.nil)))) (.nil)
def F_law_with : Fn := runFn0 N_law_with.length ir_law_with
def ir_law_taken : Ss := .cons (.asg (.n 2) (.tup (.nil))) (.cons (.for (.n 3) itSeq (.cons (.var 1) .nil) (.cons (.ite (.eb (.prim fGt (.cons (.call F_law_in (.cons (.var 0) (.cons (.prim fAdd (.cons (.var 2) (.cons (.tup (.cons (.var 3) (.nil))) .nil))) (.nil)))) (.cons (.prim fLen (.cons (.var 2) (.nil))) .nil)))) (.cons (.asg (.n 2) (.prim fAdd (.cons (.var 2) (.cons (.tup (.cons (.var 3) (.nil))) .nil)))) (.nil)) (.nil)) (.nil))) (.cons (.ret (.prim fTuple (.cons (.prim fSortedA (.cons (.var 2) (.nil))) (.nil)))) (.nil)))
def F_law_taken : Fn := runFn0 N_law_taken.length ir_law_taken
def ir_law_all : Ss := .cons (.ret (.prim fTupR1 (.cons (.prim fLen (.cons (.prim fIx (.cons (.var 0) (.cons (.con (.int 2)) .nil))) (.nil))) (.nil)))) (.nil)
def F_law_all : Fn := runFn0 N_law_all.length ir_law_all
def ir_law_lean : Ss := .cons (.ret (.call F_law_taken (.cons (.var 1) (.cons (.call F_law_mixed (.cons (.var 0) (.cons (.var 2) (.nil)))) (.nil))))) (.nil)
def F_law_lean : Fn := runFn0 N_law_lean.length ir_law_lean
def ir_law_ring : Ss := .cons (.ite (.eb (.prim fGt (.cons (.call F_law_in (.cons (.var 0) (.cons (.prim fAdd (.cons (.var 1) (.cons (.tup (.cons (.var 2) (.nil))) .nil))) (.nil)))) (.cons (.prim fLen (.cons (.var 1) (.nil))) .nil)))) (.cons (.ret (.con .non)) (.nil)) (.nil)) (.cons (.asg (.n 3) (.lc [4] (.n 4) itSeq (.cons (.var 1) .nil) (.some (.eb (.prim fEq (.cons (.call F_law_in (.cons (.var 0) (.cons (.prim fAdd (.cons (.call F_law_without (.cons (.var 1) (.cons (.var 4) (.nil)))) (.cons (.tup (.cons (.var 2) (.nil))) .nil))) (.nil)))) (.cons (.prim fLen (.cons (.var 1) (.nil))) .nil))))) (.var 4))) (.cons (.ret (.prim fTuple (.cons (.prim fSortedA (.cons (.prim fAdd (.cons (.var 3) (.cons (.lst (.cons (.var 2) (.nil))) .nil))) (.nil))) (.nil)))) (.nil)))
def F_law_ring : Fn := runFn0 N_law_ring.length ir_law_ring
def ir_law_makes_nought : Ss := .cons (.ite (.or (.not (.e (.prim fIsi (.cons (.var 2) (.cons (.con (.ty "tuple")) (.nil)))))) (.or (.eb (.prim fNe (.cons (.prim fLen (.cons (.var 2) (.nil))) (.cons (.prim fLen (.cons (.var 1) (.nil))) .nil)))) (.eb (.prim fNe (.cons (.prim fIx (.cons (.var 2) (.cons (.con (.int 0)) .nil))) (.cons (.con (.int 1)) .nil)))))) (.cons (.ret (.con (.bl false))) (.nil)) (.nil)) (.cons (.ite (.not (.e (.prim fAll (.cons (.lc [4] (.n 4) itSeq (.cons (.var 2) .nil) .none (.and (.prim fIsi (.cons (.var 4) (.cons (.con (.ty "int")) (.nil)))) (.and (.notb (.prim fIsi (.cons (.var 4) (.cons (.con (.ty "bool")) (.nil))))) (.chain fLt fLt (.con (.int 0)) (.var 4) (.prim fIx (.cons (.var 0) (.cons (.con (.int 0)) .nil))))))) (.nil))))) (.cons (.ret (.con (.bl false))) (.nil)) (.nil)) (.cons (.for (.n 3) itRange1 (.cons (.prim fIx (.cons (.var 0) (.cons (.con (.int 1)) .nil))) (.nil)) (.cons (.ite (.eb (.prim fNe (.cons (.prim fMod (.cons (.prim fInt (.cons (.prim fSum (.cons (.lc [4, 5] (.t [4, 5]) itZipM (.cons (.var 2) (.cons (.var 1) (.nil))) .none (.prim fMul (.cons (.var 4) (.cons (.prim fIx (.cons (.prim fIx (.cons (.prim fIx (.cons (.prim fIx (.cons (.var 0) (.cons (.con (.int 2)) .nil))) (.cons (.var 5) .nil))) (.cons (.con (.int 0)) .nil))) (.cons (.var 3) .nil))) .nil)))) (.nil))) (.nil))) (.cons (.prim fIx (.cons (.var 0) (.cons (.con (.int 0)) .nil))) .nil))) (.cons (.con (.int 0)) .nil)))) (.cons (.ret (.con (.bl false))) (.nil)) (.nil)) (.nil))) (.cons (.ret (.con (.bl true))) (.nil))))
def F_law_makes_nought : Fn := runFn0 N_law_makes_nought.length ir_law_makes_nought
def ir_law : Ss := .cons (.asg (.n 1) (.call F_law_tape (.cons (.var 0) (.nil)))) (.cons (.asg (.n 2) (.call F_law_great (.cons (.var 1) (.cons (.con (.int 30)) (.nil))))) (.cons (.par 3 4 (.call F_i_Web (.cons (.prim fIx (.cons (.var 2) (.cons (.con (.int 0)) .nil))) (.cons (.prim fIx (.cons (.var 2) (.cons (.con (.int 1)) .nil))) (.cons (.prim fTuple (.cons (.prim fIx (.cons (.var 2) (.cons (.con (.int 2)) .nil))) (.nil))) (.nil))))) (.call F_law_all (.cons (.var 2) (.nil)))) (.cons (.asg (.n 5) (.call F_law_lean (.cons (.var 1) (.cons (.var 2) (.cons (.var 4) (.nil)))))) (.cons (.asg (.n 6) (.ite (.eb (.prim fEq (.cons (.call F_law_pick (.cons (.var 1) (.cons (.con (.int 2)) (.nil)))) (.cons (.con (.int 0)) .nil)))) (.prim fCutL (.cons (.var 5) (.cons (.call F_law_pick (.cons (.var 1) (.cons (.con (.int 3)) (.nil)))) .nil))) (.var 5))) (.cons (.for (.n 7) itSeq (.cons (.prim fCutH (.cons (.call F_law_mixed (.cons (.var 1) (.cons (.lc [10] (.n 10) itSeq (.cons (.var 4) .nil) (.some (.eb (.prim fNotInM (.cons (.var 10) (.cons (.var 6) .nil))))) (.var 10)) (.nil)))) (.cons (.con (.int 12)) .nil))) .nil) (.cons (.asg (.n 8) (.call F_law_ring (.cons (.var 2) (.cons (.var 6) (.cons (.var 7) (.nil)))))) (.cons (.ite (.eb (.prim fNe (.cons (.call F_ring (.cons (.var 3) (.cons (.var 6) (.cons (.var 7) (.nil))))) (.cons (.var 8) .nil)))) (.cons (.ret (.con (.bl false))) (.nil)) (.nil)) (.cons (.ite (.eb (.prim fNotN (.cons (.var 8) (.cons (.con .non) .nil)))) (.cons (.ite (.or (.eb (.prim fNotB (.cons (.call F_is_ring (.cons (.var 3) (.cons (.var 8) (.nil)))) (.cons (.con (.bl true)) .nil)))) (.not (.e (.call F_law_makes_nought (.cons (.var 2) (.cons (.var 8) (.cons (.call F_ring_values (.cons (.var 3) (.cons (.var 8) (.nil)))) (.nil)))))))) (.cons (.ret (.con (.bl false))) (.nil)) (.nil)) (.cons (.ite (.eb (.prim fNotB (.cons (.call F_is_ring (.cons (.var 3) (.cons (.call F_law_without (.cons (.var 8) (.cons (.call F_law_any (.cons (.var 1) (.cons (.var 8) (.nil)))) (.nil)))) (.nil)))) (.cons (.con (.bl false)) .nil)))) (.cons (.ret (.con (.bl false))) (.nil)) (.nil)) (.cons (.asg (.n 9) (.lc [10] (.n 10) itSeq (.cons (.var 6) .nil) (.some (.eb (.prim fNotInM (.cons (.var 10) (.cons (.var 8) .nil))))) (.var 10))) (.cons (.ite (.and (.eb (.prim fGt (.cons (.prim fLen (.cons (.var 9) (.nil))) (.cons (.con (.int 0)) .nil)))) (.eb (.prim fNotB (.cons (.call F_is_ring (.cons (.var 3) (.cons (.call F_law_with (.cons (.var 8) (.cons (.prim fIx (.cons (.var 9) (.cons (.con (.int 0)) .nil))) (.nil)))) (.nil)))) (.cons (.con (.bl false)) .nil))))) (.cons (.ret (.con (.bl false))) (.nil)) (.nil)) (.nil))))) (.nil)) (.nil))))) (.cons (.ret (.con (.bl true))) (.nil)))))))
def F_law : Fn := runFn0 N_law.length ir_law
theorem sc_is_integer : FnScope N_is_integer ["thing"] (defScope st_is_integer) := ⟨rfl, rfl, rfl, by decide +kernel, rfl, by decide +kernel, by decide +kernel⟩
theorem ok_is_integer {P : Program} {w : World} {K : PySem.W.Frag} {mg : Str → Option Value} {base : Heap} (T : Facts K mg) (CL : Nat → Addr × List Str) : FnOk P w K mg base CX0 1 T.a_is_integer T.d_is_integer ["thing"] (spF K CL F_is_integer 1) :=
  fn_ok (k := 0) (n := 1) (ir := ir_is_integer) T.f_is_integer sc_is_integer rfl (by decide) fun cdv A outer s H E c hcl hcE hr => by
    have nd := sc_is_integer.nd
    exact ss_cons (s_ret (e_and (pe_and (e_prim p_isi (pe_callB call_isi (by rfl) T.z_isinstance (by decide +kernel) (a_cons (e_var (pv 0)) (a_cons (e_con (v := .ty "int") (pe_bltn (u := .type "int") (by rfl) T.z_int (by decide +kernel) rfl) (fun _ => .ty "int")) (a_nil))))) (e_one (e_not (e_prim p_isi (pe_callB call_isi (by rfl) T.z_isinstance (by decide +kernel) (a_cons (e_var (pv 0)) (a_cons (e_con (v := .ty "bool") (pe_bltn (u := .type "bool") (by rfl) T.z_bool (by decide +kernel) rfl) (fun _ => .ty "bool")) (a_nil)))))))))) (ss_nil)
theorem sc_is_within : FnScope N_is_within ["least", "most", "thing"] (defScope st_is_within) := ⟨rfl, rfl, rfl, by decide +kernel, rfl, by decide +kernel, by decide +kernel⟩
theorem ok_is_within {P : Program} {w : World} {K : PySem.W.Frag} {mg : Str → Option Value} {base : Heap} (T : Facts K mg) (CL : Nat → Addr × List Str) : FnOk P w K mg base CX0 2 T.a_is_within T.d_is_within ["least", "most", "thing"] (spF K CL F_is_within 3) :=
  fn_ok (k := 1) (n := 3) (ir := ir_is_within) T.f_is_within sc_is_within rfl (by decide) fun cdv A outer s H E c hcl hcE hr => by
    have nd := sc_is_within.nd
    exact ss_cons (s_ret (e_and (pe_and (e_call (pe_call (ok_is_integer T c.CL) (hr.mono (by decide)) rfl T.m_is_integer T.f_is_integer.kp T.b_is_integer .nil pass0 (a_cons (e_var (pv 2)) (a_nil))) rfl hcE) (e_one (e_chain p_le p_le (pe_chain op_le op_le (e_var (pv 0)) (e_var (pv 2)) (e_var (pv 1)))))))) (ss_nil)
theorem sc_is_lot : FnScope N_is_lot ["many", "thing"] (defScope st_is_lot) := ⟨rfl, rfl, rfl, by decide +kernel, rfl, by decide +kernel, by decide +kernel⟩
theorem ok_is_lot {P : Program} {w : World} {K : PySem.W.Frag} {mg : Str → Option Value} {base : Heap} (T : Facts K mg) (CL : Nat → Addr × List Str) : FnOk P w K mg base CX0 3 T.a_is_lot T.d_is_lot ["many", "thing"] (spF K CL F_is_lot 2) :=
  fn_ok (k := 2) (n := 2) (ir := ir_is_lot) T.f_is_lot sc_is_lot rfl (by decide) fun cdv A outer s H E c hcl hcE hr => by
    have nd := sc_is_lot.nd
    exact ss_cons (s_ite (t_not (t_e (e_prim p_isi (pe_callB call_isi (by rfl) T.z_isinstance (by decide +kernel) (a_cons (e_var (pv 1)) (a_cons (e_con (v := .ty "tuple") (pe_bltn (u := .type "tuple") (by rfl) T.z_tuple (by decide +kernel) rfl) (fun _ => .ty "tuple")) (a_nil))))))) (ss_cons (s_ret (e_bl)) (ss_nil)) (ss_nil)) (ss_cons (s_asg (ps_set (i := 2) nd rfl (.inl rfl) (e_un un_neg p_neg (e_int))) (fun _ _ _ q => q)) (ss_cons (s_for i_seq (ps_for PassesOwn.never rfl (pi_seq (e_var (pv 1))) (g_name (pg_name (i := 3) nd rfl (.inl rfl))) (ss_cons (s_ite (t_not (t_e (e_call (pe_call (ok_is_within T c.CL) (hr.mono (by decide)) rfl T.m_is_within T.f_is_within.kp T.b_is_within .nil pass0 (a_cons (e_bin o_add p_add (e_var (pv 2)) (e_int)) (a_cons (e_bin op_sub p_sub (e_var (pv 0)) (e_int)) (a_cons (e_var (pv 3)) (a_nil))))) rfl hcE))) (ss_cons (s_ret (e_bl)) (ss_nil)) (ss_nil)) (ss_cons (s_asg (ps_set (i := 2) nd rfl (.inl rfl) (e_var (pv 3))) (fun _ _ _ q => q)) (ss_nil))))) (ss_cons (s_ret (e_bl)) (ss_nil))))
theorem sc_is_prime : FnScope N_is_prime ["thing"] (defScope st_is_prime) := ⟨rfl, rfl, rfl, by decide +kernel, rfl, by decide +kernel, by decide +kernel⟩
theorem ok_is_prime {P : Program} {w : World} {K : PySem.W.Frag} {mg : Str → Option Value} {base : Heap} (T : Facts K mg) (CL : Nat → Addr × List Str) : FnOk P w K mg base CX0 3 T.a_is_prime T.d_is_prime ["thing"] (spF K CL F_is_prime 1) :=
  fn_ok (k := 2) (n := 1) (ir := ir_is_prime) T.f_is_prime sc_is_prime rfl (by decide) fun cdv A outer s H E c hcl hcE hr => by
    have nd := sc_is_prime.nd
    exact ss_cons (s_ret (e_and (pe_and (e_call (pe_call (ok_is_within T c.CL) (hr.mono (by decide)) rfl T.m_is_within T.f_is_within.kp T.b_is_within .nil pass0 (a_cons (e_int) (a_cons (e_glob (v := .int 251) rfl T.c_MOST_PRIME ⟨_, rfl⟩ (fun _ => .int _)) (a_cons (e_var (pv 0)) (a_nil))))) rfl hcE) (e_one (e_prim p_all (pe_callB (cr_all rfl) (by rfl) T.z_all (by decide +kernel) (a_cons (e_lc i_range2 (pe_lc (own := [("k", 1)]) rfl nd (pi_range2 (by rfl) T.z_range (a_cons (e_int) (a_cons (e_int) (a_nil)))) (blkOk_by (N := N_is_prime) (sc := defScope st_is_prime) (by decide +kernel)) (fun _ _ _ _ _ => g_name (pg_name (i := 1) nd rfl (by first | exact .inl rfl | exact .inr rfl))) (fun _ _ _ _ _ => o_some (t_cmp p_le (pt_cmpR op_le (e_bin o_mul p_mul (e_var (pv 1)) (e_var (pv 1))) (e_var (pv 0)) (nomark _)))) (fun _ _ _ _ _ => e_cmp (op_neD hr.units) p_ne (e_bin op_mod p_mod (e_var (pv 0)) (e_var (pv 1))) (e_int) (nomark _)))) (a_nil)))))))) (ss_nil)
theorem sc_is_values : FnScope N_is_values ["prime", "many", "thing"] (defScope st_is_values) := ⟨rfl, rfl, rfl, by decide +kernel, rfl, by decide +kernel, by decide +kernel⟩
theorem ok_is_values {P : Program} {w : World} {K : PySem.W.Frag} {mg : Str → Option Value} {base : Heap} (T : Facts K mg) (CL : Nat → Addr × List Str) : FnOk P w K mg base CX0 3 T.a_is_values T.d_is_values ["prime", "many", "thing"] (spF K CL F_is_values 3) :=
  fn_ok (k := 2) (n := 3) (ir := ir_is_values) T.f_is_values sc_is_values rfl (by decide) fun cdv A outer s H E c hcl hcE hr => by
    have nd := sc_is_values.nd
    exact ss_cons (s_ite (t_w (w_or (t_not (t_e (e_prim p_isi (pe_callB call_isi (by rfl) T.z_isinstance (by decide +kernel) (a_cons (e_var (pv 2)) (a_cons (e_con (v := .ty "tuple") (pe_bltn (u := .type "tuple") (by rfl) T.z_tuple (by decide +kernel) rfl) (fun _ => .ty "tuple")) (a_nil))))))) (w_or1 (t_cmp p_ne (pt_cmpR (op_neD hr.units) (e_prim p_len (pe_callB call_len (by rfl) T.z_len (by decide +kernel) (a_cons (e_var (pv 2)) (a_nil)))) (e_var (pv 1)) (nomark _)))))) (ss_cons (s_ret (e_bl)) (ss_nil)) (ss_nil)) (ss_cons (s_ret (e_prim p_all (pe_callB (cr_all rfl) (by rfl) T.z_all (by decide +kernel) (a_cons (e_lc i_seq (pe_lc (own := [("value", 3)]) rfl nd (pi_seq (e_var (pv 2))) (blkOk_by (N := N_is_values) (sc := defScope st_is_values) (by decide +kernel)) (fun _ _ _ _ _ => g_name (pg_name (i := 3) nd rfl (by first | exact .inl rfl | exact .inr rfl))) (fun _ _ _ _ _ => o_none) (fun _ _ _ _ _ => e_call (pe_call (ok_is_within T c.CL) (hr.mono (by decide)) rfl T.m_is_within T.f_is_within.kp T.b_is_within .nil pass0 (a_cons (e_int) (a_cons (e_bin op_sub p_sub (e_var (pv 0)) (e_int)) (a_cons (e_var (pv 3)) (a_nil))))) rfl (fun _ _ _ z => z)))) (a_nil))))) (ss_nil))
theorem sc_is_sum : FnScope N_is_sum ["prime", "width", "thing"] (defScope st_is_sum) := ⟨rfl, rfl, rfl, by decide +kernel, rfl, by decide +kernel, by decide +kernel⟩
theorem ok_is_sum {P : Program} {w : World} {K : PySem.W.Frag} {mg : Str → Option Value} {base : Heap} (T : Facts K mg) (CL : Nat → Addr × List Str) : FnOk P w K mg base CX0 4 T.a_is_sum T.d_is_sum ["prime", "width", "thing"] (spF K CL F_is_sum 3) :=
  fn_ok (k := 3) (n := 3) (ir := ir_is_sum) T.f_is_sum sc_is_sum rfl (by decide) fun cdv A outer s H E c hcl hcE hr => by
    have nd := sc_is_sum.nd
    exact ss_cons (s_ret (e_and (pe_and (e_call (pe_call (ok_is_values T c.CL) (hr.mono (by decide)) rfl T.m_is_values T.f_is_values.kp T.b_is_values .nil pass0 (a_cons (e_var (pv 0)) (a_cons (e_var (pv 1)) (a_cons (e_var (pv 2)) (a_nil))))) rfl hcE) (e_one (e_cmp (op_neD hr.units) p_ne (e_var (pv 2)) (e_bin o_mul p_mul (e_tup (pe_tup (d_cons (e_int) (d_nil)))) (e_var (pv 1))) (nomark _)))))) (ss_nil)
theorem sc_width_of : FnScope N_width_of ["sums"] (defScope st_width_of) := ⟨rfl, rfl, rfl, by decide +kernel, rfl, by decide +kernel, by decide +kernel⟩
theorem ok_width_of {P : Program} {w : World} {K : PySem.W.Frag} {mg : Str → Option Value} {base : Heap} (T : Facts K mg) (CL : Nat → Addr × List Str) : FnOk P w K mg base CX0 1 T.a_width_of T.d_width_of ["sums"] (spF K CL F_width_of 1) :=
  fn_ok (k := 0) (n := 1) (ir := ir_width_of) T.f_width_of sc_width_of rfl (by decide) fun cdv A outer s H E c hcl hcE hr => by
    have nd := sc_width_of.nd
    exact ss_cons (s_ite (t_cmp p_eq (pt_cmpR (op_eqD hr.units) (e_prim p_len (pe_callB call_len (by rfl) T.z_len (by decide +kernel) (a_cons (e_var (pv 0)) (a_nil)))) (e_int) (nomark _))) (ss_cons (s_ret (e_int)) (ss_nil)) (ss_nil)) (ss_cons (s_ret (e_prim p_len (pe_callB call_len (by rfl) T.z_len (by decide +kernel) (a_cons (e_ix ix_seq p_ix (e_var (pv 0)) (e_int) (fun _ _ => rfl)) (a_nil))))) (ss_nil))
theorem sc_inverse : FnScope N_inverse ["prime", "value"] (defScope st_inverse) := ⟨rfl, rfl, rfl, by decide +kernel, rfl, by decide +kernel, by decide +kernel⟩
theorem ok_inverse {P : Program} {w : World} {K : PySem.W.Frag} {mg : Str → Option Value} {base : Heap} (T : Facts K mg) (CL : Nat → Addr × List Str) : FnOk P w K mg base CX0 1 T.a_inverse T.d_inverse ["prime", "value"] (spF K CL F_inverse 2) :=
  fn_ok (k := 0) (n := 2) (ir := ir_inverse) T.f_inverse sc_inverse rfl (by decide) fun cdv A outer s H E c hcl hcE hr => by
    have nd := sc_inverse.nd
    exact ss_cons (s_par (by decide) (ps_par (i := 2) (j := 3) rfl nd rfl rfl (by decide) rfl rfl (pa_cons (e_var (pv 0)) (pa_cons (e_var (pv 1)) pa_nil)) (by rfl))) (ss_cons (s_asgT (ps_asg (e_tup (pe_tup (d_cons (e_int) (d_cons (e_int) (d_nil))))) (g_tup (is := [4, 5]) (pg_tup rfl (pgs_cons (pg_name (i := 4) nd rfl (.inl rfl)) (pgs_cons (pg_name (i := 5) nd rfl (.inl rfl)) (pgs_nil))))))) (ss_cons (s_while (ps_while PassesOwn.never (t_cmp p_ne (pt_cmpR (op_neD hr.units) (e_var (pv 3)) (e_int) (nomark _))) (ss_cons (s_asg (ps_set (i := 6) nd rfl (.inl rfl) (e_bin op_fdiv p_div (e_var (pv 2)) (e_var (pv 3)))) (fun _ _ _ q => q)) (ss_cons (s_par (by decide) (ps_par (i := 2) (j := 3) rfl nd rfl rfl (by decide) rfl rfl (pa_cons (e_var (pv 3)) (pa_cons (e_bin op_sub p_sub (e_var (pv 2)) (e_bin o_mul p_mul (e_var (pv 6)) (e_var (pv 3)))) pa_nil)) (by rfl))) (ss_cons (s_par (by decide) (ps_par (i := 4) (j := 5) rfl nd rfl rfl (by decide) rfl rfl (pa_cons (e_var (pv 5)) (pa_cons (e_bin op_sub p_sub (e_var (pv 4)) (e_bin o_mul p_mul (e_var (pv 6)) (e_var (pv 5)))) pa_nil)) (by rfl))) (ss_nil)))))) (ss_cons (s_ret (e_bin op_mod p_mod (e_var (pv 4)) (e_var (pv 0)))) (ss_nil))))
theorem sc_reduced : FnScope N_reduced ["prime", "rows", "values"] (defScope st_reduced) := ⟨rfl, rfl, rfl, by decide +kernel, rfl, by decide +kernel, by decide +kernel⟩
theorem ok_reduced {P : Program} {w : World} {K : PySem.W.Frag} {mg : Str → Option Value} {base : Heap} (T : Facts K mg) (CL : Nat → Addr × List Str) : FnOk P w K mg base CX0 1 T.a_reduced T.d_reduced ["prime", "rows", "values"] (spF K CL F_reduced 3) :=
  fn_ok (k := 0) (n := 3) (ir := ir_reduced) T.f_reduced sc_reduced rfl (by decide) fun cdv A outer s H E c hcl hcE hr => by
    have nd := sc_reduced.nd
    exact ss_cons (s_asg (ps_set (i := 3) nd rfl (.inl rfl) (e_prim p_list (pe_callTy call_list_of (by rfl) T.z_list (by decide +kernel) (a_cons (e_var (pv 2)) (a_nil))))) (fun _ _ _ q => q)) (ss_cons (s_for i_seq (ps_for PassesOwn.never rfl (pi_seq (e_var (pv 1))) (g_tup (is := [4, 5]) (pg_tup rfl (pgs_cons (pg_name (i := 4) nd rfl (.inl rfl)) (pgs_cons (pg_name (i := 5) nd rfl (.inl rfl)) (pgs_nil))))) (ss_cons (s_asg (ps_set (i := 6) nd rfl (.inr rfl) (e_ix ix_seq p_ix (e_var (pv 3)) (e_var (pv 4)) (fun _ _ => rfl))) (fun _ _ _ q => q)) (ss_cons (s_ite (t_cmp p_ne (pt_cmpR (op_neD hr.units) (e_var (pv 6)) (e_int) (nomark _))) (ss_cons (s_setLc i_zipM (ps_setLc (i := 3) (own := [("value", 7), ("lead", 8)]) rfl nd rfl rfl (sw_true rfl rfl rfl (by decide +kernel)) (pi_zipM (by rfl) T.z_zip (a_cons (e_var (pv 3)) (a_cons (e_var (pv 5)) (a_nil)))) (blkOk_by (N := N_reduced) (sc := defScope st_reduced) (by decide +kernel)) (fun _ _ _ _ _ => g_tup (is := [7, 8]) (pg_tup rfl (pgs_cons (pg_name (i := 7) nd rfl (by first | exact .inl rfl | exact .inr rfl)) (pgs_cons (pg_name (i := 8) nd rfl (by first | exact .inl rfl | exact .inr rfl)) (pgs_nil))))) (fun _ _ _ _ _ => o_none) (fun _ _ _ _ _ => e_bin op_mod p_mod (e_bin op_sub p_sub (e_var (pv 7)) (e_bin o_mul p_mul (e_var (pv 6)) (e_var (pv 8)))) (e_var (pv 0))))) (ss_nil)) (ss_nil)) (ss_nil))))) (ss_cons (s_ret (e_var (pv 3))) (ss_nil)))
theorem sc_leading : FnScope N_leading ["prime", "width", "values"] (defScope st_leading) := ⟨rfl, rfl, rfl, by decide +kernel, rfl, by decide +kernel, by decide +kernel⟩
theorem ok_leading {P : Program} {w : World} {K : PySem.W.Frag} {mg : Str → Option Value} {base : Heap} (T : Facts K mg) (CL : Nat → Addr × List Str) : FnOk P w K mg base CX0 2 T.a_leading T.d_leading ["prime", "width", "values"] (spF K CL F_leading 3) :=
  fn_ok (k := 1) (n := 3) (ir := ir_leading) T.f_leading sc_leading rfl (by decide) fun cdv A outer s H E c hcl hcE hr => by
    have nd := sc_leading.nd
    exact ss_cons (s_for i_range1 (ps_for PassesOwn.never rfl (pi_range1 (by rfl) T.z_range (a_cons (e_var (pv 1)) (a_nil))) (g_name (pg_name (i := 3) nd rfl (.inl rfl))) (ss_cons (s_ite (t_cmp p_ne (pt_cmpR (op_neD hr.units) (e_ix ix_seq p_ix (e_var (pv 2)) (e_var (pv 3)) (fun _ _ => rfl)) (e_int) (nomark _))) (ss_cons (s_asg (ps_set (i := 4) nd rfl (.inr rfl) (e_call (pe_call (ok_inverse T c.CL) (hr.mono (by decide)) rfl T.m_inverse T.f_inverse.kp T.b_inverse .nil pass0 (a_cons (e_var (pv 0)) (a_cons (e_ix ix_seq p_ix (e_var (pv 2)) (e_var (pv 3)) (fun _ _ => rfl)) (a_nil)))) rfl hcE)) (fun _ _ _ q => q)) (ss_cons (s_ret (e_tup (pe_tup (d_cons (e_var (pv 3)) (d_cons (e_lc i_seq (pe_lc (own := [("value", 5)]) rfl nd (pi_seq (e_var (pv 2))) (blkOk_by (N := N_leading) (sc := defScope st_leading) (by decide +kernel)) (fun _ _ _ _ _ => g_name (pg_name (i := 5) nd rfl (by first | exact .inl rfl | exact .inr rfl))) (fun _ _ _ _ _ => o_none) (fun _ _ _ _ _ => e_bin op_mod p_mod (e_bin o_mul p_mul (e_var (pv 5)) (e_var (pv 4))) (e_var (pv 0))))) (d_nil)))))) (ss_nil))) (ss_nil)) (ss_nil)))) (ss_cons (s_ret (e_non)) (ss_nil))
theorem sc_new_row : FnScope N_new_row ["prime", "width", "rows", "values"] (defScope st_new_row) := ⟨rfl, rfl, rfl, by decide +kernel, rfl, by decide +kernel, by decide +kernel⟩
theorem ok_new_row {P : Program} {w : World} {K : PySem.W.Frag} {mg : Str → Option Value} {base : Heap} (T : Facts K mg) (CL : Nat → Addr × List Str) : FnOk P w K mg base CX0 3 T.a_new_row T.d_new_row ["prime", "width", "rows", "values"] (spF K CL F_new_row 4) :=
  fn_ok (k := 2) (n := 4) (ir := ir_new_row) T.f_new_row sc_new_row rfl (by decide) fun cdv A outer s H E c hcl hcE hr => by
    have nd := sc_new_row.nd
    exact ss_cons (s_ret (e_call (pe_call (ok_leading T c.CL) (hr.mono (by decide)) rfl T.m_leading T.f_leading.kp T.b_leading .nil pass0 (a_cons (e_var (pv 0)) (a_cons (e_var (pv 1)) (a_cons (e_call (pe_call (ok_reduced T c.CL) (hr.mono (by decide)) rfl T.m_reduced T.f_reduced.kp T.b_reduced .nil pass0 (a_cons (e_var (pv 0)) (a_cons (e_var (pv 2)) (a_cons (e_var (pv 3)) (a_nil))))) rfl hcE) (a_nil))))) rfl hcE)) (ss_nil)
theorem sc_marked : FnScope N_marked ["sums"] (defScope st_marked) := ⟨rfl, rfl, rfl, by decide +kernel, rfl, by decide +kernel, by decide +kernel⟩
theorem ok_marked {P : Program} {w : World} {K : PySem.W.Frag} {mg : Str → Option Value} {base : Heap} (T : Facts K mg) (CL : Nat → Addr × List Str) : FnOk P w K mg base CX0 1 T.a_marked T.d_marked ["sums"] (spF K CL F_marked 1) :=
  fn_ok (k := 0) (n := 1) (ir := ir_marked) T.f_marked sc_marked rfl (by decide) fun cdv A outer s H E c hcl hcE hr => by
    have nd := sc_marked.nd
    exact ss_cons (s_asg (ps_set (i := 1) nd rfl (.inr rfl) (e_prim p_len (pe_callB call_len (by rfl) T.z_len (by decide +kernel) (a_cons (e_var (pv 0)) (a_nil))))) (fun _ _ _ q => q)) (ss_cons (s_ret (e_lc i_enumA (pe_lc (own := [("at", 2), ("values", 3)]) rfl nd (pi_enumA (by rfl) T.z_enumerate (a_cons (e_var (pv 0)) (a_nil))) (blkOk_by (N := N_marked) (sc := defScope st_marked) (by decide +kernel)) (fun _ _ _ _ _ => g_tup (is := [2, 3]) (pg_tup rfl (pgs_cons (pg_name (i := 2) nd rfl (by first | exact .inl rfl | exact .inr rfl)) (pgs_cons (pg_name (i := 3) nd rfl (by first | exact .inl rfl | exact .inr rfl)) (pgs_nil))))) (fun _ _ _ _ _ => o_none) (fun _ _ _ _ _ => e_bin o_add p_add (e_prim p_list (pe_callTy call_list_of (by rfl) T.z_list (by decide +kernel) (a_cons (e_var (pv 3)) (a_nil)))) (e_lc i_range1 (pe_lc (own := [("k", 4)]) rfl nd (pi_range1 (by rfl) T.z_range (a_cons (e_var (pv 1)) (a_nil))) (blkOk_by (by rfl)) (fun _ _ _ _ _ => g_name (pg_name (i := 4) nd rfl (by first | exact .inl rfl | exact .inr rfl))) (fun _ _ _ _ _ => o_none) (fun _ _ _ _ _ => e_prim p_int (pe_callTy call_int1 (by rfl) T.z_int (by decide +kernel) (a_cons (e_cmp (op_eqD hr.units) p_eq (e_var (pv 4)) (e_var (pv 2)) (nomark _)) (a_nil)))))))))) (ss_nil))
theorem sc_nought_of : FnScope N_nought_of ["prime", "sums"] (defScope st_nought_of) := ⟨rfl, rfl, rfl, by decide +kernel, rfl, by decide +kernel, by decide +kernel⟩
theorem ok_nought_of {P : Program} {w : World} {K : PySem.W.Frag} {mg : Str → Option Value} {base : Heap} (T : Facts K mg) (CL : Nat → Addr × List Str) : FnOk P w K mg base CX0 3 T.a_nought_of T.d_nought_of ["prime", "sums"] (spF K CL F_nought_of 2) :=
  fn_ok (k := 2) (n := 2) (ir := ir_nought_of) T.f_nought_of sc_nought_of rfl (by decide) fun cdv A outer s H E c hcl hcE hr => by
    have nd := sc_nought_of.nd
    exact ss_cons (s_asg (ps_set (i := 2) nd rfl (.inl rfl) (e_call (pe_call (ok_width_of T c.CL) (hr.mono (by decide)) rfl T.m_width_of T.f_width_of.kp T.b_width_of .nil pass0 (a_cons (e_var (pv 1)) (a_nil))) rfl hcE)) (fun _ _ _ q => q)) (ss_cons (s_asg (ps_set (i := 3) nd rfl (.inl rfl) (e_lst (pe_lst (d_nil)))) (fun _ _ _ q => q)) (ss_cons (s_for i_seq (ps_for PassesOwn.never rfl (pi_seq (e_call (pe_call (ok_marked T c.CL) (hr.mono (by decide)) rfl T.m_marked T.f_marked.kp T.b_marked .nil pass0 (a_cons (e_var (pv 1)) (a_nil))) rfl hcE)) (g_name (pg_name (i := 4) nd rfl (.inl rfl))) (ss_cons (s_asg (ps_set (i := 5) nd rfl (.inl rfl) (e_call (pe_call (ok_reduced T c.CL) (hr.mono (by decide)) rfl T.m_reduced T.f_reduced.kp T.b_reduced .nil pass0 (a_cons (e_var (pv 0)) (a_cons (e_var (pv 3)) (a_cons (e_var (pv 4)) (a_nil))))) rfl hcE)) (fun _ _ _ q => q)) (ss_cons (s_asg (ps_set (i := 6) nd rfl (.inl rfl) (e_call (pe_call (ok_leading T c.CL) (hr.mono (by decide)) rfl T.m_leading T.f_leading.kp T.b_leading .nil pass0 (a_cons (e_var (pv 0)) (a_cons (e_var (pv 2)) (a_cons (e_var (pv 5)) (a_nil))))) rfl hcE)) (fun _ _ _ q => q)) (ss_cons (s_ite (t_cmp p_isN (pt_cmpR op_isN (e_var (pv 6)) (e_non) (nomark _))) (ss_cons (s_ret (e_prim p_tuple (pe_callTy call_tuple_of (by rfl) T.z_tuple (by decide +kernel) (a_cons (e_cutL (pe_slice sl_cut (e_var (pv 5)) (po_some (e_var (pv 2))) po_none)) (a_nil))))) (ss_nil)) (ss_nil)) (ss_cons (s_ex (ps_expr (e_mut m_append (pe_bm PySem.F.plainAttrs_list PySem.F.slot_list_append PySem.F.type_list_append mt_append (pv 3) (d_cons (e_var (pv 6)) (d_nil))))) (fun _ _ _ q => q)) (ss_nil))))))) (ss_cons (s_ret (e_non)) (ss_nil))))
theorem sc_is_pair : FnScope N_is_pair ["prime", "many", "thing"] (defScope st_is_pair) := ⟨rfl, rfl, rfl, by decide +kernel, rfl, by decide +kernel, by decide +kernel⟩
theorem ok_is_pair {P : Program} {w : World} {K : PySem.W.Frag} {mg : Str → Option Value} {base : Heap} (T : Facts K mg) (CL : Nat → Addr × List Str) : FnOk P w K mg base CX0 5 T.a_is_pair T.d_is_pair ["prime", "many", "thing"] (spF K CL F_is_pair 3) :=
  fn_ok (k := 4) (n := 3) (ir := ir_is_pair) T.f_is_pair sc_is_pair rfl (by decide) fun cdv A outer s H E c hcl hcE hr => by
    have nd := sc_is_pair.nd
    exact ss_cons (s_ite (t_w (w_or (t_not (t_e (e_prim p_isi (pe_callB call_isi (by rfl) T.z_isinstance (by decide +kernel) (a_cons (e_var (pv 2)) (a_cons (e_con (v := .ty "tuple") (pe_bltn (u := .type "tuple") (by rfl) T.z_tuple (by decide +kernel) rfl) (fun _ => .ty "tuple")) (a_nil))))))) (w_or1 (t_cmp p_ne (pt_cmpR (op_neD hr.units) (e_prim p_len (pe_callB call_len (by rfl) T.z_len (by decide +kernel) (a_cons (e_var (pv 2)) (a_nil)))) (e_int) (nomark _)))))) (ss_cons (s_ret (e_bl)) (ss_nil)) (ss_nil)) (ss_cons (s_ret (e_and (pe_and (e_call (pe_call (ok_is_sum T c.CL) (hr.mono (by decide)) rfl T.m_is_sum T.f_is_sum.kp T.b_is_sum .nil pass0 (a_cons (e_var (pv 0)) (a_cons (e_var (pv 1)) (a_cons (e_ix ix_seq p_ix (e_var (pv 2)) (e_int) (fun _ _ => rfl)) (a_nil))))) rfl hcE) (e_one (e_call (pe_call (ok_is_within T c.CL) (hr.mono (by decide)) rfl T.m_is_within T.f_is_within.kp T.b_is_within .nil pass0 (a_cons (e_int) (a_cons (e_glob (v := .int 1000000) rfl T.c_MOST_SIZE ⟨_, rfl⟩ (fun _ => .int _)) (a_cons (e_ix ix_seq p_ix (e_var (pv 2)) (e_int) (fun _ _ => rfl)) (a_nil))))) rfl hcE))))) (ss_nil))
theorem sc_i_Web : FnScope N_i_Web ["self", "prime", "many", "pieces"] (defScope st_i_Web) := ⟨rfl, rfl, rfl, by decide +kernel, rfl, by decide +kernel, by decide +kernel⟩
theorem ok_i_Web {P : Program} {w : World} {K : PySem.W.Frag} {mg : Str → Option Value} {base : Heap} (T : Facts K mg) (CL : Nat → Addr × List Str) : FnOk P w K mg base CX0 6 T.a_i_Web T.d_i_Web ["self", "prime", "many", "pieces"] (spInit K CL N_i_Web.length ir_i_Web fs_Web [1, 2, 3] 1000 T.q_Web 3) :=
  init_ok (k := 5) (n := 3) (m0 := 1000) (pre := ir_i_Web) (fl := [("prime", 1), ("many", 2), ("pieces", 3)]) T.f_i_Web sc_i_Web rfl (by decide) T.cl_Web
    (fun p hp => by
      rcases List.mem_cons.mp hp with rfl | hp
      · exact T.na_Web_prime
      rcases List.mem_cons.mp hp with rfl | hp
      · exact T.na_Web_many
      rcases List.mem_cons.mp hp with rfl | hp
      · exact T.na_Web_pieces
      cases hp)
    (by decide) (by decide) fun cdv A outer s H E c hcl hcE hr => by
    have nd := sc_i_Web.nd
    exact ssw_cons (s_ite (t_not (t_e (e_call (pe_call (ok_is_prime T c.CL) (hr.mono (by decide)) rfl T.m_is_prime T.f_is_prime.kp T.b_is_prime .nil pass0 (a_cons (e_var (pv 1)) (a_nil))) rfl hcE))) (ss_cons (s_never) (ss_nil)) (ss_nil)) (ssw_cons (s_ite (t_not (t_e (e_call (pe_call (ok_is_within T c.CL) (hr.mono (by decide)) rfl T.m_is_within T.f_is_within.kp T.b_is_within .nil pass0 (a_cons (e_int) (a_cons (e_glob (v := .int 10) rfl T.c_MOST_VERSIONS ⟨_, rfl⟩ (fun _ => .int _)) (a_cons (e_var (pv 2)) (a_nil))))) rfl hcE))) (ss_cons (s_never) (ss_nil)) (ss_nil)) (ssw_cons (s_ite (t_w (w_or (t_not (t_e (e_prim p_isi (pe_callB call_isi (by rfl) T.z_isinstance (by decide +kernel) (a_cons (e_var (pv 3)) (a_cons (e_con (v := .ty "tuple") (pe_bltn (u := .type "tuple") (by rfl) T.z_tuple (by decide +kernel) rfl) (fun _ => .ty "tuple")) (a_nil))))))) (w_or1 (t_cmp p_gt (pt_cmpR op_gt (e_prim p_len (pe_callB call_len (by rfl) T.z_len (by decide +kernel) (a_cons (e_var (pv 3)) (a_nil)))) (e_glob (v := .int 40) rfl T.c_MOST_PIECES ⟨_, rfl⟩ (fun _ => .int _)) (nomark _)))))) (ss_cons (s_never) (ss_nil)) (ss_nil)) (ssw_cons (s_for i_enumA (ps_for PassesOwn.never rfl (pi_enumA (by rfl) T.z_enumerate (a_cons (e_var (pv 3)) (a_nil))) (g_tup (is := [4, 5]) (pg_tup rfl (pgs_cons (pg_name (i := 4) nd rfl (.inl rfl)) (pgs_cons (pg_name (i := 5) nd rfl (.inl rfl)) (pgs_nil))))) (ss_cons (s_ite (t_not (t_e (e_call (pe_call (ok_is_pair T c.CL) (hr.mono (by decide)) rfl T.m_is_pair T.f_is_pair.kp T.b_is_pair .nil pass0 (a_cons (e_var (pv 1)) (a_cons (e_var (pv 2)) (a_cons (e_var (pv 5)) (a_nil))))) rfl hcE))) (ss_cons (s_never) (ss_nil)) (ss_nil)) (ss_nil)))) (ssw_nil (pss_cons (ps_fld (pv 0) (pv 1) rfl) (pss_cons (ps_fld (pv 0) (pv 2) rfl) (pss_cons (ps_fld (pv 0) (pv 3) rfl) (pss_nil))))))))
theorem sc_is_lot_of : FnScope N_is_lot_of ["web", "thing"] (defScope st_is_lot_of) := ⟨rfl, rfl, rfl, by decide +kernel, rfl, by decide +kernel, by decide +kernel⟩
theorem ok_is_lot_of {P : Program} {w : World} {K : PySem.W.Frag} {mg : Str → Option Value} {base : Heap} (T : Facts K mg) (CL : Nat → Addr × List Str) (h0_Web : CL 0 = (T.q_Web, fs_Web)) : FnOk P w K mg base CX0 4 T.a_is_lot_of T.d_is_lot_of ["web", "thing"] (spF K CL F_is_lot_of 2) :=
  fn_ok (k := 3) (n := 2) (ir := ir_is_lot_of) T.f_is_lot_of sc_is_lot_of rfl (by decide) fun cdv A outer s H E c hcl hcE hr => by
    have nd := sc_is_lot_of.nd
    have hC_Web : c.CL 0 = (T.q_Web, fs_Web) := hcl ▸ h0_Web
    exact ss_cons (s_ret (e_call (pe_call (ok_is_lot T c.CL) (hr.mono (by decide)) rfl T.m_is_lot T.f_is_lot.kp T.b_is_lot .nil pass0 (a_cons (e_prim p_len (pe_callB call_len (by rfl) T.z_len (by decide +kernel) (a_cons (e_fld (fld_of hC_Web T.cl_Web T.na_Web_pieces (by decide) rfl) (e_var (pv 0))) (a_nil)))) (a_cons (e_var (pv 1)) (a_nil)))) rfl hcE)) (ss_nil)
theorem sc_is_piece : FnScope N_is_piece ["web", "thing"] (defScope st_is_piece) := ⟨rfl, rfl, rfl, by decide +kernel, rfl, by decide +kernel, by decide +kernel⟩
theorem ok_is_piece {P : Program} {w : World} {K : PySem.W.Frag} {mg : Str → Option Value} {base : Heap} (T : Facts K mg) (CL : Nat → Addr × List Str) (h0_Web : CL 0 = (T.q_Web, fs_Web)) : FnOk P w K mg base CX0 3 T.a_is_piece T.d_is_piece ["web", "thing"] (spF K CL F_is_piece 2) :=
  fn_ok (k := 2) (n := 2) (ir := ir_is_piece) T.f_is_piece sc_is_piece rfl (by decide) fun cdv A outer s H E c hcl hcE hr => by
    have nd := sc_is_piece.nd
    have hC_Web : c.CL 0 = (T.q_Web, fs_Web) := hcl ▸ h0_Web
    exact ss_cons (s_ret (e_call (pe_call (ok_is_within T c.CL) (hr.mono (by decide)) rfl T.m_is_within T.f_is_within.kp T.b_is_within .nil pass0 (a_cons (e_int) (a_cons (e_bin op_sub p_sub (e_prim p_len (pe_callB call_len (by rfl) T.z_len (by decide +kernel) (a_cons (e_fld (fld_of hC_Web T.cl_Web T.na_Web_pieces (by decide) rfl) (e_var (pv 0))) (a_nil)))) (e_int)) (a_cons (e_var (pv 1)) (a_nil))))) rfl hcE)) (ss_nil)
theorem sc_check_lot : FnScope N_check_lot ["web", "lot"] (defScope st_check_lot) := ⟨rfl, rfl, rfl, by decide +kernel, rfl, by decide +kernel, by decide +kernel⟩
theorem ok_check_lot {P : Program} {w : World} {K : PySem.W.Frag} {mg : Str → Option Value} {base : Heap} (T : Facts K mg) (CL : Nat → Addr × List Str) (h0_Web : CL 0 = (T.q_Web, fs_Web)) : FnOk P w K mg base CX0 5 T.a_check_lot T.d_check_lot ["web", "lot"] (spF K CL F_check_lot 2) :=
  fn_ok (k := 4) (n := 2) (ir := ir_check_lot) T.f_check_lot sc_check_lot rfl (by decide) fun cdv A outer s H E c hcl hcE hr => by
    have nd := sc_check_lot.nd
    have hC_Web : c.CL 0 = (T.q_Web, fs_Web) := hcl ▸ h0_Web
    exact ss_cons (s_ite (t_not (t_e (e_call (pe_call (ok_is_lot_of T c.CL hC_Web) (hr.mono (by decide)) rfl T.m_is_lot_of T.f_is_lot_of.kp T.b_is_lot_of .nil pass0 (a_cons (e_var (pv 0)) (a_cons (e_var (pv 1)) (a_nil)))) rfl hcE))) (ss_cons (s_never) (ss_nil)) (ss_nil)) (ss_nil)
theorem sc_sum_of : FnScope N_sum_of ["web", "piece"] (defScope st_sum_of) := ⟨rfl, rfl, rfl, by decide +kernel, rfl, by decide +kernel, by decide +kernel⟩
theorem ok_sum_of {P : Program} {w : World} {K : PySem.W.Frag} {mg : Str → Option Value} {base : Heap} (T : Facts K mg) (CL : Nat → Addr × List Str) (h0_Web : CL 0 = (T.q_Web, fs_Web)) : FnOk P w K mg base CX0 1 T.a_sum_of T.d_sum_of ["web", "piece"] (spF K CL F_sum_of 2) :=
  fn_ok (k := 0) (n := 2) (ir := ir_sum_of) T.f_sum_of sc_sum_of rfl (by decide) fun cdv A outer s H E c hcl hcE hr => by
    have nd := sc_sum_of.nd
    have hC_Web : c.CL 0 = (T.q_Web, fs_Web) := hcl ▸ h0_Web
    exact ss_cons (s_ret (e_ix ix_seq p_ix (e_ix ix_seq p_ix (e_fld (fld_of hC_Web T.cl_Web T.na_Web_pieces (by decide) rfl) (e_var (pv 0))) (e_var (pv 1)) (fun _ _ => rfl)) (e_int) (fun _ _ => rfl))) (ss_nil)
theorem sc_sums_of : FnScope N_sums_of ["web", "lot"] (defScope st_sums_of) := ⟨rfl, rfl, rfl, by decide +kernel, rfl, by decide +kernel, by decide +kernel⟩
theorem ok_sums_of {P : Program} {w : World} {K : PySem.W.Frag} {mg : Str → Option Value} {base : Heap} (T : Facts K mg) (CL : Nat → Addr × List Str) (h0_Web : CL 0 = (T.q_Web, fs_Web)) : FnOk P w K mg base CX0 2 T.a_sums_of T.d_sums_of ["web", "lot"] (spF K CL F_sums_of 2) :=
  fn_ok (k := 1) (n := 2) (ir := ir_sums_of) T.f_sums_of sc_sums_of rfl (by decide) fun cdv A outer s H E c hcl hcE hr => by
    have nd := sc_sums_of.nd
    have hC_Web : c.CL 0 = (T.q_Web, fs_Web) := hcl ▸ h0_Web
    exact ss_cons (s_ret (e_prim p_tuple (pe_callTy call_tuple_of (by rfl) T.z_tuple (by decide +kernel) (a_cons (e_lc i_seq (pe_lc (own := [("piece", 2)]) rfl nd (pi_seq (e_var (pv 1))) (blkOk_by (N := N_sums_of) (sc := defScope st_sums_of) (by decide +kernel)) (fun _ _ _ _ _ => g_name (pg_name (i := 2) nd rfl (by first | exact .inl rfl | exact .inr rfl))) (fun _ _ _ _ _ => o_none) (fun _ _ _ _ _ => e_call (pe_call (ok_sum_of T c.CL hC_Web) (hr.mono (by decide)) rfl T.m_sum_of T.f_sum_of.kp T.b_sum_of .nil pass0 (a_cons (e_var (pv 0)) (a_cons (e_var (pv 2)) (a_nil)))) rfl (fun _ _ _ z => z)))) (a_nil))))) (ss_nil)
theorem sc_taken : FnScope N_taken ["web", "order"] (defScope st_taken) := ⟨rfl, rfl, rfl, by decide +kernel, rfl, by decide +kernel, by decide +kernel⟩
theorem ok_taken {P : Program} {w : World} {K : PySem.W.Frag} {mg : Str → Option Value} {base : Heap} (T : Facts K mg) (CL : Nat → Addr × List Str) (h0_Web : CL 0 = (T.q_Web, fs_Web)) : FnOk P w K mg base CX0 4 T.a_taken T.d_taken ["web", "order"] (spF K CL F_taken 2) :=
  fn_ok (k := 3) (n := 2) (ir := ir_taken) T.f_taken sc_taken rfl (by decide) fun cdv A outer s H E c hcl hcE hr => by
    have nd := sc_taken.nd
    have hC_Web : c.CL 0 = (T.q_Web, fs_Web) := hcl ▸ h0_Web
    exact ss_cons (s_asg (ps_set (i := 2) nd rfl (.inl rfl) (e_lst (pe_lst (d_nil)))) (fun _ _ _ q => q)) (ss_cons (s_asg (ps_set (i := 3) nd rfl (.inl rfl) (e_lst (pe_lst (d_nil)))) (fun _ _ _ q => q)) (ss_cons (s_for i_seq (ps_for PassesOwn.never rfl (pi_seq (e_var (pv 1))) (g_name (pg_name (i := 4) nd rfl (.inl rfl))) (ss_cons (s_asg (ps_set (i := 5) nd rfl (.inl rfl) (e_call (pe_call (ok_new_row T c.CL) (hr.mono (by decide)) rfl T.m_new_row T.f_new_row.kp T.b_new_row .nil pass0 (a_cons (e_fld (fld_of hC_Web T.cl_Web T.na_Web_prime (by decide) rfl) (e_var (pv 0))) (a_cons (e_fld (fld_of hC_Web T.cl_Web T.na_Web_many (by decide) rfl) (e_var (pv 0))) (a_cons (e_var (pv 2)) (a_cons (e_call (pe_call (ok_sum_of T c.CL hC_Web) (hr.mono (by decide)) rfl T.m_sum_of T.f_sum_of.kp T.b_sum_of .nil pass0 (a_cons (e_var (pv 0)) (a_cons (e_var (pv 4)) (a_nil)))) rfl hcE) (a_nil)))))) rfl hcE)) (fun _ _ _ q => q)) (ss_cons (s_ite (t_cmp p_notN (pt_cmpR op_notN (e_var (pv 5)) (e_non) (nomark _))) (ss_cons (s_ex (ps_expr (e_mut m_append (pe_bm PySem.F.plainAttrs_list PySem.F.slot_list_append PySem.F.type_list_append mt_append (pv 2) (d_cons (e_var (pv 5)) (d_nil))))) (fun _ _ _ q => q)) (ss_cons (s_ex (ps_expr (e_mut m_append (pe_bm PySem.F.plainAttrs_list PySem.F.slot_list_append PySem.F.type_list_append mt_append (pv 3) (d_cons (e_var (pv 4)) (d_nil))))) (fun _ _ _ q => q)) (ss_nil))) (ss_nil)) (ss_nil))))) (ss_cons (s_ret (e_prim p_tuple (pe_callTy call_tuple_of (by rfl) T.z_tuple (by decide +kernel) (a_cons (e_var (pv 3)) (a_nil))))) (ss_nil))))
theorem sc_is_lean : FnScope N_is_lean ["web", "thing"] (defScope st_is_lean) := ⟨rfl, rfl, rfl, by decide +kernel, rfl, by decide +kernel, by decide +kernel⟩
theorem ok_is_lean {P : Program} {w : World} {K : PySem.W.Frag} {mg : Str → Option Value} {base : Heap} (T : Facts K mg) (CL : Nat → Addr × List Str) (h0_Web : CL 0 = (T.q_Web, fs_Web)) : FnOk P w K mg base CX0 5 T.a_is_lean T.d_is_lean ["web", "thing"] (spF K CL F_is_lean 2) :=
  fn_ok (k := 4) (n := 2) (ir := ir_is_lean) T.f_is_lean sc_is_lean rfl (by decide) fun cdv A outer s H E c hcl hcE hr => by
    have nd := sc_is_lean.nd
    have hC_Web : c.CL 0 = (T.q_Web, fs_Web) := hcl ▸ h0_Web
    exact ss_cons (s_ret (e_and (pe_and (e_call (pe_call (ok_is_lot_of T c.CL hC_Web) (hr.mono (by decide)) rfl T.m_is_lot_of T.f_is_lot_of.kp T.b_is_lot_of .nil pass0 (a_cons (e_var (pv 0)) (a_cons (e_var (pv 1)) (a_nil)))) rfl hcE) (e_one (e_cmp (op_eqD hr.units) p_eq (e_prim p_len (pe_callB call_len (by rfl) T.z_len (by decide +kernel) (a_cons (e_call (pe_call (ok_taken T c.CL hC_Web) (hr.mono (by decide)) rfl T.m_taken T.f_taken.kp T.b_taken .nil pass0 (a_cons (e_var (pv 0)) (a_cons (e_var (pv 1)) (a_nil)))) rfl hcE) (a_nil)))) (e_prim p_len (pe_callB call_len (by rfl) T.z_len (by decide +kernel) (a_cons (e_var (pv 1)) (a_nil)))) (nomark _)))))) (ss_nil)
theorem sc_closing : FnScope N_closing ["web", "lot"] (defScope st_closing) := ⟨rfl, rfl, rfl, by decide +kernel, rfl, by decide +kernel, by decide +kernel⟩
theorem ok_closing {P : Program} {w : World} {K : PySem.W.Frag} {mg : Str → Option Value} {base : Heap} (T : Facts K mg) (CL : Nat → Addr × List Str) (h0_Web : CL 0 = (T.q_Web, fs_Web)) : FnOk P w K mg base CX0 4 T.a_closing T.d_closing ["web", "lot"] (spF K CL F_closing 2) :=
  fn_ok (k := 3) (n := 2) (ir := ir_closing) T.f_closing sc_closing rfl (by decide) fun cdv A outer s H E c hcl hcE hr => by
    have nd := sc_closing.nd
    have hC_Web : c.CL 0 = (T.q_Web, fs_Web) := hcl ▸ h0_Web
    exact ss_cons (s_asg (ps_set (i := 2) nd rfl (.inl rfl) (e_call (pe_call (ok_nought_of T c.CL) (hr.mono (by decide)) rfl T.m_nought_of T.f_nought_of.kp T.b_nought_of .nil pass0 (a_cons (e_fld (fld_of hC_Web T.cl_Web T.na_Web_prime (by decide) rfl) (e_var (pv 0))) (a_cons (e_call (pe_call (ok_sums_of T c.CL hC_Web) (hr.mono (by decide)) rfl T.m_sums_of T.f_sums_of.kp T.b_sums_of .nil pass0 (a_cons (e_var (pv 0)) (a_cons (e_var (pv 1)) (a_nil)))) rfl hcE) (a_nil)))) rfl hcE)) (fun _ _ _ q => q)) (ss_cons (s_ite (t_w (w_or (t_cmp p_isN (pt_cmpR op_isN (e_var (pv 2)) (e_non) (nomark _))) (w_or1 (t_cmp p_inM (pt_cmpR (op_inM (units65 hr)) (e_int) (e_var (pv 2)) (by rfl)))))) (ss_cons (s_ret (e_non)) (ss_nil)) (ss_nil)) (ss_cons (s_ret (e_var (pv 2))) (ss_nil)))
theorem sc_is_ring : FnScope N_is_ring ["web", "thing"] (defScope st_is_ring) := ⟨rfl, rfl, rfl, by decide +kernel, rfl, by decide +kernel, by decide +kernel⟩
theorem ok_is_ring {P : Program} {w : World} {K : PySem.W.Frag} {mg : Str → Option Value} {base : Heap} (T : Facts K mg) (CL : Nat → Addr × List Str) (h0_Web : CL 0 = (T.q_Web, fs_Web)) : FnOk P w K mg base CX0 5 T.a_is_ring T.d_is_ring ["web", "thing"] (spF K CL F_is_ring 2) :=
  fn_ok (k := 4) (n := 2) (ir := ir_is_ring) T.f_is_ring sc_is_ring rfl (by decide) fun cdv A outer s H E c hcl hcE hr => by
    have nd := sc_is_ring.nd
    have hC_Web : c.CL 0 = (T.q_Web, fs_Web) := hcl ▸ h0_Web
    exact ss_cons (s_ret (e_and (pe_and (e_call (pe_call (ok_is_lot_of T c.CL hC_Web) (hr.mono (by decide)) rfl T.m_is_lot_of T.f_is_lot_of.kp T.b_is_lot_of .nil pass0 (a_cons (e_var (pv 0)) (a_cons (e_var (pv 1)) (a_nil)))) rfl hcE) (e_one (e_cmp op_notN p_notN (e_call (pe_call (ok_closing T c.CL hC_Web) (hr.mono (by decide)) rfl T.m_closing T.f_closing.kp T.b_closing .nil pass0 (a_cons (e_var (pv 0)) (a_cons (e_var (pv 1)) (a_nil)))) rfl hcE) (e_non) (nomark _)))))) (ss_nil)
theorem sc_ring : FnScope N_ring ["web", "lot", "piece"] (defScope st_ring) := ⟨rfl, rfl, rfl, by decide +kernel, rfl, by decide +kernel, by decide +kernel⟩
theorem ok_ring {P : Program} {w : World} {K : PySem.W.Frag} {mg : Str → Option Value} {base : Heap} (T : Facts K mg) (CL : Nat → Addr × List Str) (h0_Web : CL 0 = (T.q_Web, fs_Web)) : FnOk P w K mg base CX0 6 T.a_ring T.d_ring ["web", "lot", "piece"] (spF K CL F_ring 3) :=
  fn_ok (k := 5) (n := 3) (ir := ir_ring) T.f_ring sc_ring rfl (by decide) fun cdv A outer s H E c hcl hcE hr => by
    have nd := sc_ring.nd
    have hC_Web : c.CL 0 = (T.q_Web, fs_Web) := hcl ▸ h0_Web
    exact ss_cons (s_ex (ps_expr (e_call (pe_call (ok_check_lot T c.CL hC_Web) (hr.mono (by decide)) rfl T.m_check_lot T.f_check_lot.kp T.b_check_lot .nil pass0 (a_cons (e_var (pv 0)) (a_cons (e_var (pv 1)) (a_nil)))) rfl hcE)) (fun _ _ _ q => q)) (ss_cons (s_ite (t_not (t_e (e_call (pe_call (ok_is_lean T c.CL hC_Web) (hr.mono (by decide)) rfl T.m_is_lean T.f_is_lean.kp T.b_is_lean .nil pass0 (a_cons (e_var (pv 0)) (a_cons (e_var (pv 1)) (a_nil)))) rfl hcE))) (ss_cons (s_never) (ss_nil)) (ss_nil)) (ss_cons (s_ite (t_w (w_or (t_not (t_e (e_call (pe_call (ok_is_piece T c.CL hC_Web) (hr.mono (by decide)) rfl T.m_is_piece T.f_is_piece.kp T.b_is_piece .nil pass0 (a_cons (e_var (pv 0)) (a_cons (e_var (pv 2)) (a_nil)))) rfl hcE))) (w_or1 (t_cmp p_inM (pt_cmpR (op_inM (units65 hr)) (e_var (pv 2)) (e_var (pv 1)) (by rfl)))))) (ss_cons (s_never) (ss_nil)) (ss_nil)) (ss_cons (s_asg (ps_set (i := 3) nd rfl (.inl rfl) (e_bin o_add p_add (e_var (pv 1)) (e_tup (pe_tup (d_cons (e_var (pv 2)) (d_nil)))))) (fun _ _ _ q => q)) (ss_cons (s_asg (ps_set (i := 4) nd rfl (.inl rfl) (e_call (pe_call (ok_nought_of T c.CL) (hr.mono (by decide)) rfl T.m_nought_of T.f_nought_of.kp T.b_nought_of .nil pass0 (a_cons (e_fld (fld_of hC_Web T.cl_Web T.na_Web_prime (by decide) rfl) (e_var (pv 0))) (a_cons (e_call (pe_call (ok_sums_of T c.CL hC_Web) (hr.mono (by decide)) rfl T.m_sums_of T.f_sums_of.kp T.b_sums_of .nil pass0 (a_cons (e_var (pv 0)) (a_cons (e_var (pv 3)) (a_nil)))) rfl hcE) (a_nil)))) rfl hcE)) (fun _ _ _ q => q)) (ss_cons (s_ite (t_cmp p_isN (pt_cmpR op_isN (e_var (pv 4)) (e_non) (nomark _))) (ss_cons (s_ret (e_non)) (ss_nil)) (ss_nil)) (ss_cons (s_ret (e_prim p_tuple (pe_callTy call_tuple_of (by rfl) T.z_tuple (by decide +kernel) (a_cons (e_prim p_sortedA (pe_callB (cr_sortA (units65 hr)) (by rfl) T.z_sorted (by decide +kernel) (a_cons (e_lc i_zipM (pe_lc (own := [("number", 5), ("value", 6)]) rfl nd (pi_zipM (by rfl) T.z_zip (a_cons (e_var (pv 3)) (a_cons (e_var (pv 4)) (a_nil)))) (blkOk_by (N := N_ring) (sc := defScope st_ring) (by decide +kernel)) (fun _ _ _ _ _ => g_tup (is := [5, 6]) (pg_tup rfl (pgs_cons (pg_name (i := 5) nd rfl (by first | exact .inl rfl | exact .inr rfl)) (pgs_cons (pg_name (i := 6) nd rfl (by first | exact .inl rfl | exact .inr rfl)) (pgs_nil))))) (fun _ _ _ _ _ => o_some (t_cmp p_ne (pt_cmpR (op_neD hr.units) (e_var (pv 6)) (e_int) (nomark _)))) (fun _ _ _ _ _ => e_var (pv 5)))) (a_nil)))) (a_nil))))) (ss_nil)))))))
theorem sc_ring_values : FnScope N_ring_values ["web", "lot"] (defScope st_ring_values) := ⟨rfl, rfl, rfl, by decide +kernel, rfl, by decide +kernel, by decide +kernel⟩
theorem ok_ring_values {P : Program} {w : World} {K : PySem.W.Frag} {mg : Str → Option Value} {base : Heap} (T : Facts K mg) (CL : Nat → Addr × List Str) (h0_Web : CL 0 = (T.q_Web, fs_Web)) : FnOk P w K mg base CX0 6 T.a_ring_values T.d_ring_values ["web", "lot"] (spF K CL F_ring_values 2) :=
  fn_ok (k := 5) (n := 2) (ir := ir_ring_values) T.f_ring_values sc_ring_values rfl (by decide) fun cdv A outer s H E c hcl hcE hr => by
    have nd := sc_ring_values.nd
    have hC_Web : c.CL 0 = (T.q_Web, fs_Web) := hcl ▸ h0_Web
    exact ss_cons (s_ex (ps_expr (e_call (pe_call (ok_check_lot T c.CL hC_Web) (hr.mono (by decide)) rfl T.m_check_lot T.f_check_lot.kp T.b_check_lot .nil pass0 (a_cons (e_var (pv 0)) (a_cons (e_var (pv 1)) (a_nil)))) rfl hcE)) (fun _ _ _ q => q)) (ss_cons (s_asg (ps_set (i := 2) nd rfl (.inl rfl) (e_call (pe_call (ok_closing T c.CL hC_Web) (hr.mono (by decide)) rfl T.m_closing T.f_closing.kp T.b_closing .nil pass0 (a_cons (e_var (pv 0)) (a_cons (e_var (pv 1)) (a_nil)))) rfl hcE)) (fun _ _ _ q => q)) (ss_cons (s_ite (t_cmp p_isN (pt_cmpR op_isN (e_var (pv 2)) (e_non) (nomark _))) (ss_cons (s_never) (ss_nil)) (ss_nil)) (ss_cons (s_asg (ps_set (i := 3) nd rfl (.inr rfl) (e_call (pe_call (ok_inverse T c.CL) (hr.mono (by decide)) rfl T.m_inverse T.f_inverse.kp T.b_inverse .nil pass0 (a_cons (e_fld (fld_of hC_Web T.cl_Web T.na_Web_prime (by decide) rfl) (e_var (pv 0))) (a_cons (e_ix ix_seq p_ix (e_var (pv 2)) (e_int) (fun _ _ => rfl)) (a_nil)))) rfl hcE)) (fun _ _ _ q => q)) (ss_cons (s_ret (e_prim p_tuple (pe_callTy call_tuple_of (by rfl) T.z_tuple (by decide +kernel) (a_cons (e_lc i_seq (pe_lc (own := [("value", 4)]) rfl nd (pi_seq (e_var (pv 2))) (blkOk_by (N := N_ring_values) (sc := defScope st_ring_values) (by decide +kernel)) (fun _ _ _ _ _ => g_name (pg_name (i := 4) nd rfl (by first | exact .inl rfl | exact .inr rfl))) (fun _ _ _ _ _ => o_none) (fun _ _ _ _ _ => e_bin op_mod p_mod (e_bin o_mul p_mul (e_var (pv 4)) (e_var (pv 3))) (e_fld (fld_of hC_Web T.cl_Web T.na_Web_prime (by decide) rfl) (e_var (pv 0)))))) (a_nil))))) (ss_nil)))))
theorem sc_law_tape : FnScope N_law_tape ["_law_script"] (defScope st_law_tape) := ⟨rfl, rfl, rfl, by decide +kernel, rfl, by decide +kernel, by decide +kernel⟩
theorem ok_law_tape {P : Program} {w : World} {K : PySem.W.Frag} {mg : Str → Option Value} {base : Heap} (T : Facts K mg) (CL : Nat → Addr × List Str) : FnOk P w K mg base CX0 1 T.a_law_tape T.d_law_tape ["_law_script"] (spF K CL F_law_tape 1) :=
  fn_ok (k := 0) (n := 1) (ir := ir_law_tape) T.f_law_tape sc_law_tape rfl (by decide) fun cdv A outer s H E c hcl hcE hr => by
    have nd := sc_law_tape.nd
    exact ss_cons (s_ret (e_lst (pe_lst (d_cons (e_prim p_list (pe_callTy call_list_of (by rfl) T.z_list (by decide +kernel) (a_cons (e_var (pv 0)) (a_nil)))) (d_cons (e_int) (d_cons (e_int) (d_cons (e_int) (d_cons (e_int) (d_nil))))))))) (ss_nil)
theorem sc_law_pick : FnScope N_law_pick ["_law_tape_here", "_law_many"] (defScope st_law_pick) := ⟨rfl, rfl, rfl, by decide +kernel, rfl, by decide +kernel, by decide +kernel⟩
theorem ok_law_pick {P : Program} {w : World} {K : PySem.W.Frag} {mg : Str → Option Value} {base : Heap} (T : Facts K mg) (CL : Nat → Addr × List Str) : FnOk P w K mg base CX0 1 T.a_law_pick T.d_law_pick ["_law_tape_here", "_law_many"] (spF K CL F_law_pick 2) :=
  fn_ok (k := 0) (n := 2) (ir := ir_law_pick) T.f_law_pick sc_law_pick rfl (by decide) fun cdv A outer s H E c hcl hcE hr => by
    have nd := sc_law_pick.nd
    exact ss_cons (s_ite (t_cmp p_gt (pt_cmpR op_gt (e_ix ix_seq p_ix (e_var (pv 0)) (e_int) (fun _ _ => rfl)) (e_int) (nomark _))) (ss_cons (s_asg (ps_set (i := 2) nd rfl (.inl rfl) (e_bin op_mod p_mod (e_prim p_int (pe_callTy call_int1 (by rfl) T.z_int (by decide +kernel) (a_cons (e_ix ix_seq p_ix (e_var (pv 0)) (e_int) (fun _ _ => rfl)) (a_nil)))) (e_var (pv 1)))) (fun _ _ _ q => q)) (ss_cons (s_seti (ps_asg (e_bin op_fdiv p_div (e_ix ix_seq p_ix (e_var (pv 0)) (e_int) (fun _ _ => rfl)) (e_var (pv 1))) (pg_sub (pv 0) (e_int) set_list))) (ss_cons (s_ret (e_var (pv 2))) (ss_nil)))) (ss_nil)) (ss_cons (s_seti (ps_asg (e_bin o_add p_add (e_ix ix_seq p_ix (e_var (pv 0)) (e_int) (fun _ _ => rfl)) (e_int)) (pg_sub (pv 0) (e_int) set_list))) (ss_cons (s_asg (ps_set (i := 3) nd rfl (.inl rfl) (e_int)) (fun _ _ _ q => q)) (ss_cons (s_ite (t_cmp p_lt (pt_cmpR op_lt (e_ix ix_seq p_ix (e_var (pv 0)) (e_int) (fun _ _ => rfl)) (e_prim p_len (pe_callB call_len (by rfl) T.z_len (by decide +kernel) (a_cons (e_ix ix_seq p_ix (e_var (pv 0)) (e_int) (fun _ _ => rfl)) (a_nil)))) (nomark _))) (ss_cons (s_asg (ps_set (i := 3) nd rfl (.inl rfl) (e_prim p_abs (pe_callB call_abs (by rfl) T.z_abs (by decide +kernel) (a_cons (e_prim p_int (pe_callTy call_int1 (by rfl) T.z_int (by decide +kernel) (a_cons (e_ix ix_seq p_ix (e_ix ix_seq p_ix (e_var (pv 0)) (e_int) (fun _ _ => rfl)) (e_ix ix_seq p_ix (e_var (pv 0)) (e_int) (fun _ _ => rfl)) (fun _ _ => rfl)) (a_nil)))) (a_nil))))) (fun _ _ _ q => q)) (ss_cons (s_seti (ps_asg (e_bin o_add p_add (e_ix ix_seq p_ix (e_var (pv 0)) (e_int) (fun _ _ => rfl)) (e_int)) (pg_sub (pv 0) (e_int) set_list))) (ss_nil))) (ss_nil)) (ss_cons (s_ite (t_cmp p_ge (pt_cmpR op_ge (e_var (pv 3)) (e_bin op_pow p_pow (e_int) (e_int)) (nomark _))) (ss_cons (s_seti (ps_asg (e_bin op_fdiv p_div (e_var (pv 3)) (e_var (pv 1))) (pg_sub (pv 0) (e_int) set_list))) (ss_cons (s_ret (e_bin op_mod p_mod (e_prim p_int (pe_callTy call_int1 (by rfl) T.z_int (by decide +kernel) (a_cons (e_var (pv 3)) (a_nil)))) (e_var (pv 1)))) (ss_nil))) (ss_nil)) (ss_cons (s_asg (ps_set (i := 4) nd rfl (.inl rfl) (e_prim p_int (pe_callTy call_int1 (by rfl) T.z_int (by decide +kernel) (a_cons (e_bin o_add p_add (e_bin o_mul p_mul (e_ix ix_seq p_ix (e_var (pv 0)) (e_int) (fun _ _ => rfl)) (e_int)) (e_bin op_mod p_mod (e_prim p_int (pe_callTy call_int1 (by rfl) T.z_int (by decide +kernel) (a_cons (e_var (pv 3)) (a_nil)))) (e_int))) (a_nil))))) (fun _ _ _ q => q)) (ss_cons (s_asg (ps_set (i := 4) nd rfl (.inl rfl) (e_bin op_mod p_mod (e_prim p_int (pe_callTy call_int1 (by rfl) T.z_int (by decide +kernel) (a_cons (e_bin o_add p_add (e_var (pv 4)) (e_bin o_mul p_mul (e_ix ix_seq p_ix (e_var (pv 0)) (e_int) (fun _ _ => rfl)) (e_int))) (a_nil)))) (e_int))) (fun _ _ _ q => q)) (ss_cons (s_asg (ps_set (i := 4) nd rfl (.inl rfl) (e_bin op_mod p_mod (e_prim p_int (pe_callTy call_int1 (by rfl) T.z_int (by decide +kernel) (a_cons (e_bin o_mul p_mul (e_var (pv 4)) (e_bin o_add p_add (e_bin op_fdiv p_div (e_var (pv 4)) (e_int)) (e_int))) (a_nil)))) (e_int))) (fun _ _ _ q => q)) (ss_cons (s_seti (ps_asg (e_var (pv 4)) (pg_sub (pv 0) (e_int) set_list))) (ss_cons (s_ret (e_bin op_mod p_mod (e_prim p_int (pe_callTy call_int1 (by rfl) T.z_int (by decide +kernel) (a_cons (e_bin op_fdiv p_div (e_var (pv 4)) (e_int)) (a_nil)))) (e_var (pv 1)))) (ss_nil))))))))))
theorem sc_law_any : FnScope N_law_any ["_law_tape_here", "_law_things"] (defScope st_law_any) := ⟨rfl, rfl, rfl, by decide +kernel, rfl, by decide +kernel, by decide +kernel⟩
theorem ok_law_any {P : Program} {w : World} {K : PySem.W.Frag} {mg : Str → Option Value} {base : Heap} (T : Facts K mg) (CL : Nat → Addr × List Str) : FnOk P w K mg base CX0 2 T.a_law_any T.d_law_any ["_law_tape_here", "_law_things"] (spF K CL F_law_any 2) :=
  fn_ok (k := 1) (n := 2) (ir := ir_law_any) T.f_law_any sc_law_any rfl (by decide) fun cdv A outer s H E c hcl hcE hr => by
    have nd := sc_law_any.nd
    exact ss_cons (s_ret (e_ix ix_seq p_ix (e_var (pv 1)) (e_call (pe_call (ok_law_pick T c.CL) (hr.mono (by decide)) rfl T.m_law_pick T.f_law_pick.kp T.b_law_pick .nil pass0 (a_cons (e_var (pv 0)) (a_cons (e_prim p_len (pe_callB call_len (by rfl) T.z_len (by decide +kernel) (a_cons (e_var (pv 1)) (a_nil)))) (a_nil)))) rfl hcE) (fun _ _ => rfl))) (ss_nil)
theorem sc_law_mixed : FnScope N_law_mixed ["_law_tape_here", "_law_things"] (defScope st_law_mixed) := ⟨rfl, rfl, rfl, by decide +kernel, rfl, by decide +kernel, by decide +kernel⟩
theorem ok_law_mixed {P : Program} {w : World} {K : PySem.W.Frag} {mg : Str → Option Value} {base : Heap} (T : Facts K mg) (CL : Nat → Addr × List Str) : FnOk P w K mg base CX0 2 T.a_law_mixed T.d_law_mixed ["_law_tape_here", "_law_things"] (spF K CL F_law_mixed 2) :=
  fn_ok (k := 1) (n := 2) (ir := ir_law_mixed) T.f_law_mixed sc_law_mixed rfl (by decide) fun cdv A outer s H E c hcl hcE hr => by
    have nd := sc_law_mixed.nd
    exact ss_cons (s_asg (ps_set (i := 2) nd rfl (.inr rfl) (e_prim p_list (pe_callTy call_list_of (by rfl) T.z_list (by decide +kernel) (a_cons (e_var (pv 1)) (a_nil))))) (fun _ _ _ q => q)) (ss_cons (s_ret (e_lc i_range1 (pe_lc (own := [("_law_at", 3)]) rfl nd (pi_range1 (by rfl) T.z_range (a_cons (e_prim p_len (pe_callB call_len (by rfl) T.z_len (by decide +kernel) (a_cons (e_var (pv 1)) (a_nil)))) (a_nil))) (blkOk_by (N := N_law_mixed) (sc := defScope st_law_mixed) (by decide +kernel)) (fun _ _ _ _ _ => g_name (pg_name (i := 3) nd rfl (by first | exact .inl rfl | exact .inr rfl))) (fun _ _ _ _ _ => o_none) (fun _ _ _ _ _ => e_mut m_popAt (pe_bm PySem.F.plainAttrs_list PySem.F.slot_list_pop PySem.F.type_list_pop mt_popAt (pv 2) (d_cons (e_call (pe_call (ok_law_pick T c.CL) (hr.mono (by decide)) rfl T.m_law_pick T.f_law_pick.kp T.b_law_pick .nil pass0 (a_cons (e_var (pv 0)) (a_cons (e_prim p_len (pe_callB call_len (by rfl) T.z_len (by decide +kernel) (a_cons (e_var (pv 2)) (a_nil)))) (a_nil)))) rfl (fun _ _ _ z => z)) (d_nil))))))) (ss_nil))
theorem sc_law_inverse : FnScope N_law_inverse ["_law_prime", "_law_value"] (defScope st_law_inverse) := ⟨rfl, rfl, rfl, by decide +kernel, rfl, by decide +kernel, by decide +kernel⟩
theorem ok_law_inverse {P : Program} {w : World} {K : PySem.W.Frag} {mg : Str → Option Value} {base : Heap} (T : Facts K mg) (CL : Nat → Addr × List Str) : FnOk P w K mg base CX0 1 T.a_law_inverse T.d_law_inverse ["_law_prime", "_law_value"] (spF K CL F_law_inverse 2) :=
  fn_ok (k := 0) (n := 2) (ir := ir_law_inverse) T.f_law_inverse sc_law_inverse rfl (by decide) fun cdv A outer s H E c hcl hcE hr => by
    have nd := sc_law_inverse.nd
    exact ss_cons (s_for i_range1 (ps_for PassesOwn.never rfl (pi_range1 (by rfl) T.z_range (a_cons (e_var (pv 0)) (a_nil))) (g_name (pg_name (i := 2) nd rfl (.inl rfl))) (ss_cons (s_ite (t_cmp p_eq (pt_cmpR (op_eqD hr.units) (e_bin op_mod p_mod (e_prim p_int (pe_callTy call_int1 (by rfl) T.z_int (by decide +kernel) (a_cons (e_bin o_mul p_mul (e_var (pv 1)) (e_var (pv 2))) (a_nil)))) (e_var (pv 0))) (e_int) (nomark _))) (ss_cons (s_ret (e_var (pv 2))) (ss_nil)) (ss_nil)) (ss_nil)))) (ss_cons (s_ret (e_int)) (ss_nil))
theorem sc_law_less : FnScope N_law_less ["_law_prime", "_law_row", "_law_times", "_law_lead"] (defScope st_law_less) := ⟨rfl, rfl, rfl, by decide +kernel, rfl, by decide +kernel, by decide +kernel⟩
theorem ok_law_less {P : Program} {w : World} {K : PySem.W.Frag} {mg : Str → Option Value} {base : Heap} (T : Facts K mg) (CL : Nat → Addr × List Str) : FnOk P w K mg base CX0 1 T.a_law_less T.d_law_less ["_law_prime", "_law_row", "_law_times", "_law_lead"] (spF K CL F_law_less 4) :=
  fn_ok (k := 0) (n := 4) (ir := ir_law_less) T.f_law_less sc_law_less rfl (by decide) fun cdv A outer s H E c hcl hcE hr => by
    have nd := sc_law_less.nd
    exact ss_cons (s_ret (e_lc i_zipM (pe_lc (own := [("_law_one", 4), ("_law_other", 5)]) rfl nd (pi_zipM (by rfl) T.z_zip (a_cons (e_var (pv 1)) (a_cons (e_var (pv 3)) (a_nil)))) (blkOk_by (N := N_law_less) (sc := defScope st_law_less) (by decide +kernel)) (fun _ _ _ _ _ => g_tup (is := [4, 5]) (pg_tup rfl (pgs_cons (pg_name (i := 4) nd rfl (by first | exact .inl rfl | exact .inr rfl)) (pgs_cons (pg_name (i := 5) nd rfl (by first | exact .inl rfl | exact .inr rfl)) (pgs_nil))))) (fun _ _ _ _ _ => o_none) (fun _ _ _ _ _ => e_bin op_mod p_mod (e_prim p_int (pe_callTy call_int1 (by rfl) T.z_int (by decide +kernel) (a_cons (e_bin op_sub p_sub (e_var (pv 4)) (e_bin o_mul p_mul (e_var (pv 2)) (e_var (pv 5)))) (a_nil)))) (e_var (pv 0)))))) (ss_nil)
theorem sc_law_rank : FnScope N_law_rank ["_law_prime", "_law_rows"] (defScope st_law_rank) := ⟨rfl, rfl, rfl, by decide +kernel, rfl, by decide +kernel, by decide +kernel⟩
theorem ok_law_rank {P : Program} {w : World} {K : PySem.W.Frag} {mg : Str → Option Value} {base : Heap} (T : Facts K mg) (CL : Nat → Addr × List Str) : FnOk P w K mg base CX0 2 T.a_law_rank T.d_law_rank ["_law_prime", "_law_rows"] (spF K CL F_law_rank 2) :=
  fn_ok (k := 1) (n := 2) (ir := ir_law_rank) T.f_law_rank sc_law_rank rfl (by decide) fun cdv A outer s H E c hcl hcE hr => by
    have nd := sc_law_rank.nd
    exact ss_cons (s_par (by decide) (ps_par (i := 2) (j := 3) rfl nd rfl rfl (by decide) rfl rfl (pa_cons (e_lc i_seq (pe_lc (own := [("_law_row", 8)]) rfl nd (pi_seq (e_var (pv 1))) (blkOk_by (N := N_law_rank) (sc := defScope st_law_rank) (by decide +kernel)) (fun _ _ _ _ _ => g_name (pg_name (i := 8) nd rfl (by first | exact .inl rfl | exact .inr rfl))) (fun _ _ _ _ _ => o_none) (fun _ _ _ _ _ => e_prim p_list (pe_callTy call_list_of (by rfl) T.z_list (by decide +kernel) (a_cons (e_var (pv 8)) (a_nil)))))) (pa_cons (e_int) pa_nil)) (by rfl))) (ss_cons (s_for i_range1 (ps_for PassesOwn.never rfl (pi_range1 (by rfl) T.z_range (a_cons (e_ite (t_cmp p_gt (pt_cmpR op_gt (e_prim p_len (pe_callB call_len (by rfl) T.z_len (by decide +kernel) (a_cons (e_var (pv 2)) (a_nil)))) (e_int) (nomark _))) (e_prim p_len (pe_callB call_len (by rfl) T.z_len (by decide +kernel) (a_cons (e_ix ix_seq p_ix (e_var (pv 2)) (e_int) (fun _ _ => rfl)) (a_nil)))) (e_int)) (a_nil))) (g_name (pg_name (i := 4) nd rfl (.inr rfl))) (ss_cons (s_setLc i_enumA (ps_setLc (i := 5) (own := [("_law_index", 9), ("_law_row", 8)]) rfl nd rfl rfl (sw_true rfl rfl rfl (by decide +kernel)) (pi_enumA (by rfl) T.z_enumerate (a_cons (e_var (pv 2)) (a_nil))) (blkOk_by (N := N_law_rank) (sc := defScope st_law_rank) (by decide +kernel)) (fun _ _ _ _ _ => g_tup (is := [9, 8]) (pg_tup rfl (pgs_cons (pg_name (i := 9) nd rfl (by first | exact .inl rfl | exact .inr rfl)) (pgs_cons (pg_name (i := 8) nd rfl (by first | exact .inl rfl | exact .inr rfl)) (pgs_nil))))) (fun _ _ _ _ _ => o_some (t_cmp p_ne (pt_cmpR (op_neD hr.units) (e_ix ix_seq p_ix (e_var (pv 8)) (e_var (pv 4)) (fun _ _ => rfl)) (e_int) (nomark _)))) (fun _ _ _ _ _ => e_var (pv 9)))) (ss_cons (s_ite (t_cmp p_gt (pt_cmpR op_gt (e_prim p_len (pe_callB call_len (by rfl) T.z_len (by decide +kernel) (a_cons (e_var (pv 5)) (a_nil)))) (e_int) (nomark _))) (ss_cons (s_asg (ps_set (i := 6) nd rfl (.inr rfl) (e_mut m_popAt (pe_bm PySem.F.plainAttrs_list PySem.F.slot_list_pop PySem.F.type_list_pop mt_popAt (pv 2) (d_cons (e_ix ix_seq p_ix (e_var (pv 5)) (e_int) (fun _ _ => rfl)) (d_nil))))) (fun _ _ _ q => q)) (ss_cons (s_asg (ps_set (i := 7) nd rfl (.inr rfl) (e_call (pe_call (ok_law_inverse T c.CL) (hr.mono (by decide)) rfl T.m_law_inverse T.f_law_inverse.kp T.b_law_inverse .nil pass0 (a_cons (e_var (pv 0)) (a_cons (e_ix ix_seq p_ix (e_var (pv 6)) (e_var (pv 4)) (fun _ _ => rfl)) (a_nil)))) rfl hcE)) (fun _ _ _ q => q)) (ss_cons (s_setLc i_seq (ps_setLc (i := 2) (own := [("_law_row", 8)]) rfl nd rfl rfl (sw_true rfl rfl rfl (by decide +kernel)) (pi_seq (e_var (pv 2))) (blkOk_by (N := N_law_rank) (sc := defScope st_law_rank) (by decide +kernel)) (fun _ _ _ _ _ => g_name (pg_name (i := 8) nd rfl (by first | exact .inl rfl | exact .inr rfl))) (fun _ _ _ _ _ => o_none) (fun _ _ _ _ _ => e_call (pe_call (ok_law_less T c.CL) (hr.mono (by decide)) rfl T.m_law_less T.f_law_less.kp T.b_law_less .nil pass0 (a_cons (e_var (pv 0)) (a_cons (e_var (pv 8)) (a_cons (e_bin op_mod p_mod (e_prim p_int (pe_callTy call_int1 (by rfl) T.z_int (by decide +kernel) (a_cons (e_bin o_mul p_mul (e_ix ix_seq p_ix (e_var (pv 8)) (e_var (pv 4)) (fun _ _ => rfl)) (e_var (pv 7))) (a_nil)))) (e_var (pv 0))) (a_cons (e_var (pv 6)) (a_nil)))))) rfl (fun _ _ _ z => z)))) (ss_cons (s_asg (ps_set (i := 3) nd rfl (.inl rfl) (e_bin o_add p_add (e_var (pv 3)) (e_int))) (fun _ _ _ q => q)) (ss_nil))))) (ss_nil)) (ss_nil))))) (ss_cons (s_ret (e_var (pv 3))) (ss_nil)))
theorem sc_law_sum : FnScope N_law_sum ["_law_tape_here", "_law_prime", "_law_many"] (defScope st_law_sum) := ⟨rfl, rfl, rfl, by decide +kernel, rfl, by decide +kernel, by decide +kernel⟩
theorem ok_law_sum {P : Program} {w : World} {K : PySem.W.Frag} {mg : Str → Option Value} {base : Heap} (T : Facts K mg) (CL : Nat → Addr × List Str) : FnOk P w K mg base CX0 2 T.a_law_sum T.d_law_sum ["_law_tape_here", "_law_prime", "_law_many"] (spF K CL F_law_sum 3) :=
  fn_ok (k := 1) (n := 3) (ir := ir_law_sum) T.f_law_sum sc_law_sum rfl (by decide) fun cdv A outer s H E c hcl hcE hr => by
    have nd := sc_law_sum.nd
    exact ss_cons (s_par (by decide) (ps_par (i := 3) (j := 4) rfl nd rfl rfl (by decide) rfl rfl (pa_cons (e_call (pe_call (ok_law_pick T c.CL) (hr.mono (by decide)) rfl T.m_law_pick T.f_law_pick.kp T.b_law_pick .nil pass0 (a_cons (e_var (pv 0)) (a_cons (e_int) (a_nil)))) rfl hcE) (pa_cons (e_call (pe_call (ok_law_pick T c.CL) (hr.mono (by decide)) rfl T.m_law_pick T.f_law_pick.kp T.b_law_pick .nil pass0 (a_cons (e_var (pv 0)) (a_cons (e_var (pv 2)) (a_nil)))) rfl hcE) pa_nil)) (by rfl))) (ss_cons (s_asg (ps_set (i := 5) nd rfl (.inl rfl) (e_bin o_mul p_mul (e_lst (pe_lst (d_cons (e_int) (d_nil)))) (e_var (pv 2)))) (fun _ _ _ q => q)) (ss_cons (s_ite (t_w (w_or (t_cmp p_lt (pt_cmpR op_lt (e_var (pv 3)) (e_int) (nomark _))) (w_or1 (t_cmp p_eq (pt_cmpR (op_eqD hr.units) (e_var (pv 2)) (e_int) (nomark _)))))) (ss_cons (s_seti (ps_asg (e_ite (t_cmp p_lt (pt_cmpR op_lt (e_var (pv 3)) (e_int) (nomark _))) (e_int) (e_bin o_add p_add (e_int) (e_call (pe_call (ok_law_pick T c.CL) (hr.mono (by decide)) rfl T.m_law_pick T.f_law_pick.kp T.b_law_pick .nil pass0 (a_cons (e_var (pv 0)) (a_cons (e_bin op_sub p_sub (e_var (pv 1)) (e_int)) (a_nil)))) rfl hcE))) (pg_sub (pv 5) (e_var (pv 4)) set_list))) (ss_cons (s_ret (e_prim p_tuple (pe_callTy call_tuple_of (by rfl) T.z_tuple (by decide +kernel) (a_cons (e_var (pv 5)) (a_nil))))) (ss_nil))) (ss_nil)) (ss_cons (s_ite (t_cmp p_eq (pt_cmpR (op_eqD hr.units) (e_var (pv 3)) (e_int) (nomark _))) (ss_cons (s_seti2 (ps_asg (e_tup (pe_tup (d_cons (e_int) (d_cons (e_bin op_sub p_sub (e_var (pv 1)) (e_int)) (d_nil))))) (pg_tup rfl (pgs_cons (pg_sub (pv 5) (e_var (pv 4)) set_list) (pgs_cons (pg_sub (pv 5) (e_bin op_mod p_mod (e_bin o_add p_add (e_bin o_add p_add (e_var (pv 4)) (e_int)) (e_call (pe_call (ok_law_pick T c.CL) (hr.mono (by decide)) rfl T.m_law_pick T.f_law_pick.kp T.b_law_pick .nil pass0 (a_cons (e_var (pv 0)) (a_cons (e_bin op_sub p_sub (e_var (pv 2)) (e_int)) (a_nil)))) rfl hcE)) (e_var (pv 2))) set_list) pgs_nil))))) (ss_cons (s_ret (e_prim p_tuple (pe_callTy call_tuple_of (by rfl) T.z_tuple (by decide +kernel) (a_cons (e_var (pv 5)) (a_nil))))) (ss_nil))) (ss_nil)) (ss_cons (s_setLc i_range1 (ps_setLc (i := 5) (own := [("_law_place", 6)]) rfl nd rfl rfl (sw_true rfl rfl rfl (by decide +kernel)) (pi_range1 (by rfl) T.z_range (a_cons (e_var (pv 2)) (a_nil))) (blkOk_by (N := N_law_sum) (sc := defScope st_law_sum) (by decide +kernel)) (fun _ _ _ _ _ => g_name (pg_name (i := 6) nd rfl (by first | exact .inl rfl | exact .inr rfl))) (fun _ _ _ _ _ => o_none) (fun _ _ _ _ _ => e_ite (t_cmp p_gt (pt_cmpR op_gt (e_call (pe_call (ok_law_pick T c.CL) (hr.mono (by decide)) rfl T.m_law_pick T.f_law_pick.kp T.b_law_pick .nil pass0 (a_cons (e_var (pv 0)) (a_cons (e_int) (a_nil)))) rfl (fun _ _ _ z => z)) (e_int) (nomark _))) (e_call (pe_call (ok_law_pick T c.CL) (hr.mono (by decide)) rfl T.m_law_pick T.f_law_pick.kp T.b_law_pick .nil pass0 (a_cons (e_var (pv 0)) (a_cons (e_var (pv 1)) (a_nil)))) rfl (fun _ _ _ z => z)) (e_int)))) (ss_cons (s_seti (ps_asg (e_bin o_add p_add (e_int) (e_call (pe_call (ok_law_pick T c.CL) (hr.mono (by decide)) rfl T.m_law_pick T.f_law_pick.kp T.b_law_pick .nil pass0 (a_cons (e_var (pv 0)) (a_cons (e_bin op_sub p_sub (e_var (pv 1)) (e_int)) (a_nil)))) rfl hcE)) (pg_sub (pv 5) (e_var (pv 4)) set_list))) (ss_cons (s_ret (e_prim p_tuple (pe_callTy call_tuple_of (by rfl) T.z_tuple (by decide +kernel) (a_cons (e_var (pv 5)) (a_nil))))) (ss_nil)))))))
theorem sc_law_pieces : FnScope N_law_pieces ["_law_tape_here", "_law_prime", "_law_many", "_law_count", "_law_sizes"] (defScope st_law_pieces) := ⟨rfl, rfl, rfl, by decide +kernel, rfl, by decide +kernel, by decide +kernel⟩
theorem ok_law_pieces {P : Program} {w : World} {K : PySem.W.Frag} {mg : Str → Option Value} {base : Heap} (T : Facts K mg) (CL : Nat → Addr × List Str) : FnOk P w K mg base CX0 3 T.a_law_pieces T.d_law_pieces ["_law_tape_here", "_law_prime", "_law_many", "_law_count", "_law_sizes"] (spF K CL F_law_pieces 5) :=
  fn_ok (k := 2) (n := 5) (ir := ir_law_pieces) T.f_law_pieces sc_law_pieces rfl (by decide) fun cdv A outer s H E c hcl hcE hr => by
    have nd := sc_law_pieces.nd
    exact ss_cons (s_asg (ps_set (i := 5) nd rfl (.inl rfl) (e_lst (pe_lst (d_nil)))) (fun _ _ _ q => q)) (ss_cons (s_for i_range1 (ps_for PassesOwn.never rfl (pi_range1 (by rfl) T.z_range (a_cons (e_var (pv 3)) (a_nil))) (g_name (pg_name (i := 6) nd rfl (.inl rfl))) (ss_cons (s_asg (ps_set (i := 7) nd rfl (.inl rfl) (e_call (pe_call (ok_law_sum T c.CL) (hr.mono (by decide)) rfl T.m_law_sum T.f_law_sum.kp T.b_law_sum .nil pass0 (a_cons (e_var (pv 0)) (a_cons (e_var (pv 1)) (a_cons (e_var (pv 2)) (a_nil))))) rfl hcE)) (fun _ _ _ q => q)) (ss_cons (s_ite (t_w (w_and (t_cmp p_gt (pt_cmpR op_gt (e_var (pv 6)) (e_int) (nomark _))) (w_and1 (t_cmp p_eq (pt_cmpR (op_eqD hr.units) (e_call (pe_call (ok_law_pick T c.CL) (hr.mono (by decide)) rfl T.m_law_pick T.f_law_pick.kp T.b_law_pick .nil pass0 (a_cons (e_var (pv 0)) (a_cons (e_int) (a_nil)))) rfl hcE) (e_int) (nomark _)))))) (ss_cons (s_asg (ps_set (i := 7) nd rfl (.inl rfl) (e_ix ix_seq p_ix (e_ix ix_seq p_ix (e_var (pv 5)) (e_call (pe_call (ok_law_pick T c.CL) (hr.mono (by decide)) rfl T.m_law_pick T.f_law_pick.kp T.b_law_pick .nil pass0 (a_cons (e_var (pv 0)) (a_cons (e_var (pv 6)) (a_nil)))) rfl hcE) (fun _ _ => rfl)) (e_int) (fun _ _ => rfl))) (fun _ _ _ q => q)) (ss_nil)) (ss_nil)) (ss_cons (s_ex (ps_expr (e_mut m_append (pe_bm PySem.F.plainAttrs_list PySem.F.slot_list_append PySem.F.type_list_append mt_append (pv 5) (d_cons (e_tup (pe_tup (d_cons (e_var (pv 7)) (d_cons (e_bin o_add p_add (e_int) (e_call (pe_call (ok_law_pick T c.CL) (hr.mono (by decide)) rfl T.m_law_pick T.f_law_pick.kp T.b_law_pick .nil pass0 (a_cons (e_var (pv 0)) (a_cons (e_var (pv 4)) (a_nil)))) rfl hcE)) (d_nil))))) (d_nil))))) (fun _ _ _ q => q)) (ss_nil)))))) (ss_cons (s_ret (e_var (pv 5))) (ss_nil)))
theorem sc_law_filled : FnScope N_law_filled ["_law_prime", "_law_many", "_law_pieces_here", "_law_size"] (defScope st_law_filled) := ⟨rfl, rfl, rfl, by decide +kernel, rfl, by decide +kernel, by decide +kernel⟩
theorem ok_law_filled {P : Program} {w : World} {K : PySem.W.Frag} {mg : Str → Option Value} {base : Heap} (T : Facts K mg) (CL : Nat → Addr × List Str) : FnOk P w K mg base CX0 3 T.a_law_filled T.d_law_filled ["_law_prime", "_law_many", "_law_pieces_here", "_law_size"] (spF K CL F_law_filled 4) :=
  fn_ok (k := 2) (n := 4) (ir := ir_law_filled) T.f_law_filled sc_law_filled rfl (by decide) fun cdv A outer s H E c hcl hcE hr => by
    have nd := sc_law_filled.nd
    exact ss_cons (s_asg (ps_set (i := 4) nd rfl (.inl rfl) (e_prim p_list (pe_callTy call_list_of (by rfl) T.z_list (by decide +kernel) (a_cons (e_var (pv 2)) (a_nil))))) (fun _ _ _ q => q)) (ss_cons (s_for i_range1 (ps_for PassesOwn.never rfl (pi_range1 (by rfl) T.z_range (a_cons (e_var (pv 1)) (a_nil))) (g_name (pg_name (i := 5) nd rfl (.inr rfl))) (ss_cons (s_asg (ps_set (i := 6) nd rfl (.inl rfl) (e_prim p_tuple (pe_callTy call_tuple_of (by rfl) T.z_tuple (by decide +kernel) (a_cons (e_lc i_range1 (pe_lc (own := [("_law_place", 10)]) rfl nd (pi_range1 (by rfl) T.z_range (a_cons (e_var (pv 1)) (a_nil))) (blkOk_by (N := N_law_filled) (sc := defScope st_law_filled) (by decide +kernel)) (fun _ _ _ _ _ => g_name (pg_name (i := 10) nd rfl (by first | exact .inl rfl | exact .inr rfl))) (fun _ _ _ _ _ => o_none) (fun _ _ _ _ _ => e_ite (t_cmp p_eq (pt_cmpR (op_eqD hr.units) (e_var (pv 10)) (e_var (pv 5)) (nomark _))) (e_int) (e_int)))) (a_nil))))) (fun _ _ _ q => q)) (ss_cons (s_setLc i_seq (ps_setLc (i := 7) (own := [("_law_told", 8), ("_law_one", 9)]) rfl nd rfl rfl (sw_true rfl rfl rfl (by decide +kernel)) (pi_seq (e_var (pv 4))) (blkOk_by (N := N_law_filled) (sc := defScope st_law_filled) (by decide +kernel)) (fun _ _ _ _ _ => g_tup (is := [8, 9]) (pg_tup rfl (pgs_cons (pg_name (i := 8) nd rfl (by first | exact .inl rfl | exact .inr rfl)) (pgs_cons (pg_name (i := 9) nd rfl (by first | exact .inl rfl | exact .inr rfl)) (pgs_nil))))) (fun _ _ _ _ _ => o_none) (fun _ _ _ _ _ => e_var (pv 8)))) (ss_cons (s_ite (t_cmp p_gt (pt_cmpR op_gt (e_call (pe_call (ok_law_rank T c.CL) (hr.mono (by decide)) rfl T.m_law_rank T.f_law_rank.kp T.b_law_rank .nil pass0 (a_cons (e_var (pv 0)) (a_cons (e_bin o_add p_add (e_var (pv 7)) (e_lst (pe_lst (d_cons (e_var (pv 6)) (d_nil))))) (a_nil)))) rfl hcE) (e_call (pe_call (ok_law_rank T c.CL) (hr.mono (by decide)) rfl T.m_law_rank T.f_law_rank.kp T.b_law_rank .nil pass0 (a_cons (e_var (pv 0)) (a_cons (e_var (pv 7)) (a_nil)))) rfl hcE) (nomark _))) (ss_cons (s_ex (ps_expr (e_mut m_append (pe_bm PySem.F.plainAttrs_list PySem.F.slot_list_append PySem.F.type_list_append mt_append (pv 4) (d_cons (e_tup (pe_tup (d_cons (e_var (pv 6)) (d_cons (e_var (pv 3)) (d_nil))))) (d_nil))))) (fun _ _ _ q => q)) (ss_nil)) (ss_nil)) (ss_nil)))))) (ss_cons (s_ret (e_var (pv 4))) (ss_nil)))
theorem sc_law_great : FnScope N_law_great ["_law_tape_here", "_law_most"] (defScope st_law_great) := ⟨rfl, rfl, rfl, by decide +kernel, rfl, by decide +kernel, by decide +kernel⟩
theorem ok_law_great {P : Program} {w : World} {K : PySem.W.Frag} {mg : Str → Option Value} {base : Heap} (T : Facts K mg) (CL : Nat → Addr × List Str) : FnOk P w K mg base CX0 4 T.a_law_great T.d_law_great ["_law_tape_here", "_law_most"] (spF K CL F_law_great 2) :=
  fn_ok (k := 3) (n := 2) (ir := ir_law_great) T.f_law_great sc_law_great rfl (by decide) fun cdv A outer s H E c hcl hcE hr => by
    have nd := sc_law_great.nd
    exact ss_cons (s_par (by decide) (ps_par (i := 2) (j := 3) rfl nd rfl rfl (by decide) rfl rfl (pa_cons (e_call (pe_call (ok_law_any T c.CL) (hr.mono (by decide)) rfl T.m_law_any T.f_law_any.kp T.b_law_any .nil pass0 (a_cons (e_var (pv 0)) (a_cons (e_lst (pe_lst (d_cons (e_int) (d_cons (e_int) (d_cons (e_int) (d_cons (e_int) (d_cons (e_int) (d_cons (e_int) (d_nil))))))))) (a_nil)))) rfl hcE) (pa_cons (e_bin o_add p_add (e_int) (e_call (pe_call (ok_law_pick T c.CL) (hr.mono (by decide)) rfl T.m_law_pick T.f_law_pick.kp T.b_law_pick .nil pass0 (a_cons (e_var (pv 0)) (a_cons (e_int) (a_nil)))) rfl hcE)) pa_nil)) (by rfl))) (ss_cons (s_asg (ps_set (i := 4) nd rfl (.inl rfl) (e_call (pe_call (ok_law_pieces T c.CL) (hr.mono (by decide)) rfl T.m_law_pieces T.f_law_pieces.kp T.b_law_pieces .nil pass0 (a_cons (e_var (pv 0)) (a_cons (e_var (pv 2)) (a_cons (e_var (pv 3)) (a_cons (e_bin o_add p_add (e_int) (e_call (pe_call (ok_law_pick T c.CL) (hr.mono (by decide)) rfl T.m_law_pick T.f_law_pick.kp T.b_law_pick .nil pass0 (a_cons (e_var (pv 0)) (a_cons (e_var (pv 1)) (a_nil)))) rfl hcE)) (a_cons (e_call (pe_call (ok_law_any T c.CL) (hr.mono (by decide)) rfl T.m_law_any T.f_law_any.kp T.b_law_any .nil pass0 (a_cons (e_var (pv 0)) (a_cons (e_lst (pe_lst (d_cons (e_int) (d_cons (e_int) (d_cons (e_int) (d_cons (e_bin op_pow p_pow (e_int) (e_int)) (d_nil))))))) (a_nil)))) rfl hcE) (a_nil))))))) rfl hcE)) (fun _ _ _ q => q)) (ss_cons (s_ret (e_tup (pe_tup (d_cons (e_var (pv 2)) (d_cons (e_var (pv 3)) (d_cons (e_call (pe_call (ok_law_filled T c.CL) (hr.mono (by decide)) rfl T.m_law_filled T.f_law_filled.kp T.b_law_filled .nil pass0 (a_cons (e_var (pv 2)) (a_cons (e_var (pv 3)) (a_cons (e_var (pv 4)) (a_cons (e_bin o_add p_add (e_int) (e_call (pe_call (ok_law_pick T c.CL) (hr.mono (by decide)) rfl T.m_law_pick T.f_law_pick.kp T.b_law_pick .nil pass0 (a_cons (e_var (pv 0)) (a_cons (e_int) (a_nil)))) rfl hcE)) (a_nil)))))) rfl hcE) (d_nil))))))) (ss_nil)))
theorem sc_law_in : FnScope N_law_in ["_law_told", "_law_lot"] (defScope st_law_in) := ⟨rfl, rfl, rfl, by decide +kernel, rfl, by decide +kernel, by decide +kernel⟩
theorem ok_law_in {P : Program} {w : World} {K : PySem.W.Frag} {mg : Str → Option Value} {base : Heap} (T : Facts K mg) (CL : Nat → Addr × List Str) : FnOk P w K mg base CX0 3 T.a_law_in T.d_law_in ["_law_told", "_law_lot"] (spF K CL F_law_in 2) :=
  fn_ok (k := 2) (n := 2) (ir := ir_law_in) T.f_law_in sc_law_in rfl (by decide) fun cdv A outer s H E c hcl hcE hr => by
    have nd := sc_law_in.nd
    exact ss_cons (s_ret (e_call (pe_call (ok_law_rank T c.CL) (hr.mono (by decide)) rfl T.m_law_rank T.f_law_rank.kp T.b_law_rank .nil pass0 (a_cons (e_ix ix_seq p_ix (e_var (pv 0)) (e_int) (fun _ _ => rfl)) (a_cons (e_lc i_seq (pe_lc (own := [("_law_piece", 2)]) rfl nd (pi_seq (e_var (pv 1))) (blkOk_by (N := N_law_in) (sc := defScope st_law_in) (by decide +kernel)) (fun _ _ _ _ _ => g_name (pg_name (i := 2) nd rfl (by first | exact .inl rfl | exact .inr rfl))) (fun _ _ _ _ _ => o_none) (fun _ _ _ _ _ => e_ix ix_seq p_ix (e_ix ix_seq p_ix (e_ix ix_seq p_ix (e_var (pv 0)) (e_int) (fun _ _ => rfl)) (e_var (pv 2)) (fun _ _ => rfl)) (e_int) (fun _ _ => rfl)))) (a_nil)))) rfl hcE)) (ss_nil)
theorem sc_law_without : FnScope N_law_without ["_law_lot", "_law_piece"] (defScope st_law_without) := ⟨rfl, rfl, rfl, by decide +kernel, rfl, by decide +kernel, by decide +kernel⟩
theorem ok_law_without {P : Program} {w : World} {K : PySem.W.Frag} {mg : Str → Option Value} {base : Heap} (T : Facts K mg) (CL : Nat → Addr × List Str) : FnOk P w K mg base CX0 1 T.a_law_without T.d_law_without ["_law_lot", "_law_piece"] (spF K CL F_law_without 2) :=
  fn_ok (k := 0) (n := 2) (ir := ir_law_without) T.f_law_without sc_law_without rfl (by decide) fun cdv A outer s H E c hcl hcE hr => by
    have nd := sc_law_without.nd
    exact ss_cons (s_ret (e_prim p_tuple (pe_callTy call_tuple_of (by rfl) T.z_tuple (by decide +kernel) (a_cons (e_lc i_seq (pe_lc (own := [("_law_one", 2)]) rfl nd (pi_seq (e_var (pv 0))) (blkOk_by (N := N_law_without) (sc := defScope st_law_without) (by decide +kernel)) (fun _ _ _ _ _ => g_name (pg_name (i := 2) nd rfl (by first | exact .inl rfl | exact .inr rfl))) (fun _ _ _ _ _ => o_some (t_cmp p_ne (pt_cmpR (op_neD hr.units) (e_var (pv 2)) (e_var (pv 1)) (nomark _)))) (fun _ _ _ _ _ => e_var (pv 2)))) (a_nil))))) (ss_nil)
theorem sc_law_with : FnScope N_law_with ["_law_lot", "_law_piece"] (defScope st_law_with) := ⟨rfl, rfl, rfl, by decide +kernel, rfl, by decide +kernel, by decide +kernel⟩
theorem ok_law_with {P : Program} {w : World} {K : PySem.W.Frag} {mg : Str → Option Value} {base : Heap} (T : Facts K mg) (CL : Nat → Addr × List Str) : FnOk P w K mg base CX0 1 T.a_law_with T.d_law_with ["_law_lot", "_law_piece"] (spF K CL F_law_with 2) :=
  fn_ok (k := 0) (n := 2) (ir := ir_law_with) T.f_law_with sc_law_with rfl (by decide) fun cdv A outer s H E c hcl hcE hr => by
    have nd := sc_law_with.nd
    exact ss_cons (s_ret (e_prim p_tuple (pe_callTy call_tuple_of (by rfl) T.z_tuple (by decide +kernel) (a_cons (e_prim p_sortedA (pe_callB (cr_sortA (units65 hr)) (by rfl) T.z_sorted (by decide +kernel) (a_cons (e_bin o_add p_add (e_var (pv 0)) (e_tup (pe_tup (d_cons (e_var (pv 1)) (d_nil))))) (a_nil)))) (a_nil))))) (ss_nil)
theorem sc_law_taken : FnScope N_law_taken ["_law_told", "_law_pieces_here"] (defScope st_law_taken) := ⟨rfl, rfl, rfl, by decide +kernel, rfl, by decide +kernel, by decide +kernel⟩
theorem ok_law_taken {P : Program} {w : World} {K : PySem.W.Frag} {mg : Str → Option Value} {base : Heap} (T : Facts K mg) (CL : Nat → Addr × List Str) : FnOk P w K mg base CX0 4 T.a_law_taken T.d_law_taken ["_law_told", "_law_pieces_here"] (spF K CL F_law_taken 2) :=
  fn_ok (k := 3) (n := 2) (ir := ir_law_taken) T.f_law_taken sc_law_taken rfl (by decide) fun cdv A outer s H E c hcl hcE hr => by
    have nd := sc_law_taken.nd
    exact ss_cons (s_asg (ps_set (i := 2) nd rfl (.inl rfl) (e_tup (pe_tup (d_nil)))) (fun _ _ _ q => q)) (ss_cons (s_for i_seq (ps_for PassesOwn.never rfl (pi_seq (e_var (pv 1))) (g_name (pg_name (i := 3) nd rfl (.inl rfl))) (ss_cons (s_ite (t_cmp p_gt (pt_cmpR op_gt (e_call (pe_call (ok_law_in T c.CL) (hr.mono (by decide)) rfl T.m_law_in T.f_law_in.kp T.b_law_in .nil pass0 (a_cons (e_var (pv 0)) (a_cons (e_bin o_add p_add (e_var (pv 2)) (e_tup (pe_tup (d_cons (e_var (pv 3)) (d_nil))))) (a_nil)))) rfl hcE) (e_prim p_len (pe_callB call_len (by rfl) T.z_len (by decide +kernel) (a_cons (e_var (pv 2)) (a_nil)))) (nomark _))) (ss_cons (s_asg (ps_set (i := 2) nd rfl (.inl rfl) (e_bin o_add p_add (e_var (pv 2)) (e_tup (pe_tup (d_cons (e_var (pv 3)) (d_nil)))))) (fun _ _ _ q => q)) (ss_nil)) (ss_nil)) (ss_nil)))) (ss_cons (s_ret (e_prim p_tuple (pe_callTy call_tuple_of (by rfl) T.z_tuple (by decide +kernel) (a_cons (e_prim p_sortedA (pe_callB (cr_sortA (units65 hr)) (by rfl) T.z_sorted (by decide +kernel) (a_cons (e_var (pv 2)) (a_nil)))) (a_nil))))) (ss_nil)))
theorem sc_law_all : FnScope N_law_all ["_law_told"] (defScope st_law_all) := ⟨rfl, rfl, rfl, by decide +kernel, rfl, by decide +kernel, by decide +kernel⟩
theorem ok_law_all {P : Program} {w : World} {K : PySem.W.Frag} {mg : Str → Option Value} {base : Heap} (T : Facts K mg) (CL : Nat → Addr × List Str) : FnOk P w K mg base CX0 1 T.a_law_all T.d_law_all ["_law_told"] (spF K CL F_law_all 1) :=
  fn_ok (k := 0) (n := 1) (ir := ir_law_all) T.f_law_all sc_law_all rfl (by decide) fun cdv A outer s H E c hcl hcE hr => by
    have nd := sc_law_all.nd
    exact ss_cons (s_ret (e_tupR1 (pe_tupRg rfl (by rfl) T.z_tuple (prg_1 (by rfl) T.z_range (e_prim p_len (pe_callB call_len (by rfl) T.z_len (by decide +kernel) (a_cons (e_ix ix_seq p_ix (e_var (pv 0)) (e_int) (fun _ _ => rfl)) (a_nil)))))))) (ss_nil)
theorem sc_law_lean : FnScope N_law_lean ["_law_tape_here", "_law_told", "_law_lot"] (defScope st_law_lean) := ⟨rfl, rfl, rfl, by decide +kernel, rfl, by decide +kernel, by decide +kernel⟩
theorem ok_law_lean {P : Program} {w : World} {K : PySem.W.Frag} {mg : Str → Option Value} {base : Heap} (T : Facts K mg) (CL : Nat → Addr × List Str) : FnOk P w K mg base CX0 5 T.a_law_lean T.d_law_lean ["_law_tape_here", "_law_told", "_law_lot"] (spF K CL F_law_lean 3) :=
  fn_ok (k := 4) (n := 3) (ir := ir_law_lean) T.f_law_lean sc_law_lean rfl (by decide) fun cdv A outer s H E c hcl hcE hr => by
    have nd := sc_law_lean.nd
    exact ss_cons (s_ret (e_call (pe_call (ok_law_taken T c.CL) (hr.mono (by decide)) rfl T.m_law_taken T.f_law_taken.kp T.b_law_taken .nil pass0 (a_cons (e_var (pv 1)) (a_cons (e_call (pe_call (ok_law_mixed T c.CL) (hr.mono (by decide)) rfl T.m_law_mixed T.f_law_mixed.kp T.b_law_mixed .nil pass0 (a_cons (e_var (pv 0)) (a_cons (e_var (pv 2)) (a_nil)))) rfl hcE) (a_nil)))) rfl hcE)) (ss_nil)
theorem sc_law_ring : FnScope N_law_ring ["_law_told", "_law_lot", "_law_piece"] (defScope st_law_ring) := ⟨rfl, rfl, rfl, by decide +kernel, rfl, by decide +kernel, by decide +kernel⟩
theorem ok_law_ring {P : Program} {w : World} {K : PySem.W.Frag} {mg : Str → Option Value} {base : Heap} (T : Facts K mg) (CL : Nat → Addr × List Str) : FnOk P w K mg base CX0 4 T.a_law_ring T.d_law_ring ["_law_told", "_law_lot", "_law_piece"] (spF K CL F_law_ring 3) :=
  fn_ok (k := 3) (n := 3) (ir := ir_law_ring) T.f_law_ring sc_law_ring rfl (by decide) fun cdv A outer s H E c hcl hcE hr => by
    have nd := sc_law_ring.nd
    exact ss_cons (s_ite (t_cmp p_gt (pt_cmpR op_gt (e_call (pe_call (ok_law_in T c.CL) (hr.mono (by decide)) rfl T.m_law_in T.f_law_in.kp T.b_law_in .nil pass0 (a_cons (e_var (pv 0)) (a_cons (e_bin o_add p_add (e_var (pv 1)) (e_tup (pe_tup (d_cons (e_var (pv 2)) (d_nil))))) (a_nil)))) rfl hcE) (e_prim p_len (pe_callB call_len (by rfl) T.z_len (by decide +kernel) (a_cons (e_var (pv 1)) (a_nil)))) (nomark _))) (ss_cons (s_ret (e_non)) (ss_nil)) (ss_nil)) (ss_cons (s_setLc i_seq (ps_setLc (i := 3) (own := [("_law_one", 4)]) rfl nd rfl rfl (sw_true rfl rfl rfl (by decide +kernel)) (pi_seq (e_var (pv 1))) (blkOk_by (N := N_law_ring) (sc := defScope st_law_ring) (by decide +kernel)) (fun _ _ _ _ _ => g_name (pg_name (i := 4) nd rfl (by first | exact .inl rfl | exact .inr rfl))) (fun _ _ _ _ _ => o_some (t_cmp p_eq (pt_cmpR (op_eqD hr.units) (e_call (pe_call (ok_law_in T c.CL) (hr.mono (by decide)) rfl T.m_law_in T.f_law_in.kp T.b_law_in .nil pass0 (a_cons (e_var (pv 0)) (a_cons (e_bin o_add p_add (e_call (pe_call (ok_law_without T c.CL) (hr.mono (by decide)) rfl T.m_law_without T.f_law_without.kp T.b_law_without .nil pass0 (a_cons (e_var (pv 1)) (a_cons (e_var (pv 4)) (a_nil)))) rfl (fun _ _ _ z => z)) (e_tup (pe_tup (d_cons (e_var (pv 2)) (d_nil))))) (a_nil)))) rfl (fun _ _ _ z => z)) (e_prim p_len (pe_callB call_len (by rfl) T.z_len (by decide +kernel) (a_cons (e_var (pv 1)) (a_nil)))) (nomark _)))) (fun _ _ _ _ _ => e_var (pv 4)))) (ss_cons (s_ret (e_prim p_tuple (pe_callTy call_tuple_of (by rfl) T.z_tuple (by decide +kernel) (a_cons (e_prim p_sortedA (pe_callB (cr_sortA (units65 hr)) (by rfl) T.z_sorted (by decide +kernel) (a_cons (e_bin o_add p_add (e_var (pv 3)) (e_lst (pe_lst (d_cons (e_var (pv 2)) (d_nil))))) (a_nil)))) (a_nil))))) (ss_nil)))
theorem sc_law_makes_nought : FnScope N_law_makes_nought ["_law_told", "_law_lot", "_law_values"] (defScope st_law_makes_nought) := ⟨rfl, rfl, rfl, by decide +kernel, rfl, by decide +kernel, by decide +kernel⟩
theorem ok_law_makes_nought {P : Program} {w : World} {K : PySem.W.Frag} {mg : Str → Option Value} {base : Heap} (T : Facts K mg) (CL : Nat → Addr × List Str) : FnOk P w K mg base CX0 1 T.a_law_makes_nought T.d_law_makes_nought ["_law_told", "_law_lot", "_law_values"] (spF K CL F_law_makes_nought 3) :=
  fn_ok (k := 0) (n := 3) (ir := ir_law_makes_nought) T.f_law_makes_nought sc_law_makes_nought rfl (by decide) fun cdv A outer s H E c hcl hcE hr => by
    have nd := sc_law_makes_nought.nd
    exact ss_cons (s_ite (t_w (w_or (t_not (t_e (e_prim p_isi (pe_callB call_isi (by rfl) T.z_isinstance (by decide +kernel) (a_cons (e_var (pv 2)) (a_cons (e_con (v := .ty "tuple") (pe_bltn (u := .type "tuple") (by rfl) T.z_tuple (by decide +kernel) rfl) (fun _ => .ty "tuple")) (a_nil))))))) (w_or (t_cmp p_ne (pt_cmpR (op_neD hr.units) (e_prim p_len (pe_callB call_len (by rfl) T.z_len (by decide +kernel) (a_cons (e_var (pv 2)) (a_nil)))) (e_prim p_len (pe_callB call_len (by rfl) T.z_len (by decide +kernel) (a_cons (e_var (pv 1)) (a_nil)))) (nomark _))) (w_or1 (t_cmp p_ne (pt_cmpR (op_neD hr.units) (e_ix ix_seq p_ix (e_var (pv 2)) (e_int) (fun _ _ => rfl)) (e_int) (nomark _))))))) (ss_cons (s_ret (e_bl)) (ss_nil)) (ss_nil)) (ss_cons (s_ite (t_not (t_e (e_prim p_all (pe_callB (cr_all rfl) (by rfl) T.z_all (by decide +kernel) (a_cons (e_lc i_seq (pe_lc (own := [("_law_value", 4)]) rfl nd (pi_seq (e_var (pv 2))) (blkOk_by (N := N_law_makes_nought) (sc := defScope st_law_makes_nought) (by decide +kernel)) (fun _ _ _ _ _ => g_name (pg_name (i := 4) nd rfl (by first | exact .inl rfl | exact .inr rfl))) (fun _ _ _ _ _ => o_none) (fun _ _ _ _ _ => e_and (pe_and (e_prim p_isi (pe_callB call_isi (by rfl) T.z_isinstance (by decide +kernel) (a_cons (e_var (pv 4)) (a_cons (e_con (v := .ty "int") (pe_bltn (u := .type "int") (by rfl) T.z_int (by decide +kernel) rfl) (fun _ => .ty "int")) (a_nil))))) (e_and (pe_and (e_not (e_prim p_isi (pe_callB call_isi (by rfl) T.z_isinstance (by decide +kernel) (a_cons (e_var (pv 4)) (a_cons (e_con (v := .ty "bool") (pe_bltn (u := .type "bool") (by rfl) T.z_bool (by decide +kernel) rfl) (fun _ => .ty "bool")) (a_nil)))))) (e_one (e_chain p_lt p_lt (pe_chain op_lt op_lt (e_int) (e_var (pv 4)) (e_ix ix_seq p_ix (e_var (pv 0)) (e_int) (fun _ _ => rfl))))))))))) (a_nil)))))) (ss_cons (s_ret (e_bl)) (ss_nil)) (ss_nil)) (ss_cons (s_for i_range1 (ps_for PassesOwn.never rfl (pi_range1 (by rfl) T.z_range (a_cons (e_ix ix_seq p_ix (e_var (pv 0)) (e_int) (fun _ _ => rfl)) (a_nil))) (g_name (pg_name (i := 3) nd rfl (.inr rfl))) (ss_cons (s_ite (t_cmp p_ne (pt_cmpR (op_neD hr.units) (e_bin op_mod p_mod (e_prim p_int (pe_callTy call_int1 (by rfl) T.z_int (by decide +kernel) (a_cons (e_prim p_sum (pe_callB (cr_sum rfl) (by rfl) T.z_sum (by decide +kernel) (a_cons (e_lc i_zipM (pe_lc (own := [("_law_value", 4), ("_law_piece", 5)]) rfl nd (pi_zipM (by rfl) T.z_zip (a_cons (e_var (pv 2)) (a_cons (e_var (pv 1)) (a_nil)))) (blkOk_by (N := N_law_makes_nought) (sc := defScope st_law_makes_nought) (by decide +kernel)) (fun _ _ _ _ _ => g_tup (is := [4, 5]) (pg_tup rfl (pgs_cons (pg_name (i := 4) nd rfl (by first | exact .inl rfl | exact .inr rfl)) (pgs_cons (pg_name (i := 5) nd rfl (by first | exact .inl rfl | exact .inr rfl)) (pgs_nil))))) (fun _ _ _ _ _ => o_none) (fun _ _ _ _ _ => e_bin o_mul p_mul (e_var (pv 4)) (e_ix ix_seq p_ix (e_ix ix_seq p_ix (e_ix ix_seq p_ix (e_ix ix_seq p_ix (e_var (pv 0)) (e_int) (fun _ _ => rfl)) (e_var (pv 5)) (fun _ _ => rfl)) (e_int) (fun _ _ => rfl)) (e_var (pv 3)) (fun _ _ => rfl))))) (a_nil)))) (a_nil)))) (e_ix ix_seq p_ix (e_var (pv 0)) (e_int) (fun _ _ => rfl))) (e_int) (nomark _))) (ss_cons (s_ret (e_bl)) (ss_nil)) (ss_nil)) (ss_nil)))) (ss_cons (s_ret (e_bl)) (ss_nil))))
theorem sc_law : FnScope N_law ["_law_script"] (defScope st_law) := ⟨rfl, rfl, rfl, by decide +kernel, rfl, by decide +kernel, by decide +kernel⟩
theorem ok_law {P : Program} {w : World} {K : PySem.W.Frag} {mg : Str → Option Value} {base : Heap} (T : Facts K mg) (CL : Nat → Addr × List Str) (h0_Web : CL 0 = (T.q_Web, fs_Web)) : FnOk P w K mg base CX0 8 T.a_law T.d_law ["_law_script"] (spF K CL F_law 1) :=
  fn_ok (k := 7) (n := 1) (ir := ir_law) T.f_law sc_law rfl (by decide) fun cdv A outer s H E c hcl hcE hr => by
    have nd := sc_law.nd
    have hC_Web : c.CL 0 = (T.q_Web, fs_Web) := hcl ▸ h0_Web
    exact ss_cons (s_asg (ps_set (i := 1) nd rfl (.inl rfl) (e_call (pe_call (ok_law_tape T c.CL) (hr.mono (by decide)) rfl T.m_law_tape T.f_law_tape.kp T.b_law_tape .nil pass0 (a_cons (e_var (pv 0)) (a_nil))) rfl hcE)) (fun _ _ _ q => q)) (ss_cons (s_asg (ps_set (i := 2) nd rfl (.inl rfl) (e_call (pe_call (ok_law_great T c.CL) (hr.mono (by decide)) rfl T.m_law_great T.f_law_great.kp T.b_law_great .nil pass0 (a_cons (e_var (pv 1)) (a_cons (e_int) (a_nil)))) rfl hcE)) (fun _ _ _ q => q)) (ss_cons (s_par (by decide) (ps_par (i := 3) (j := 4) rfl nd rfl rfl (by decide) rfl rfl (pa_cons (e_make hC_Web rfl (pe_make T.mk_Web (ok_i_Web T c.CL) (hr.mono (by decide)) rfl T.m_Web T.bi_Web .nil pass0 (a_cons (e_ix ix_seq p_ix (e_var (pv 2)) (e_int) (fun _ _ => rfl)) (a_cons (e_ix ix_seq p_ix (e_var (pv 2)) (e_int) (fun _ _ => rfl)) (a_cons (e_prim p_tuple (pe_callTy call_tuple_of (by rfl) T.z_tuple (by decide +kernel) (a_cons (e_ix ix_seq p_ix (e_var (pv 2)) (e_int) (fun _ _ => rfl)) (a_nil)))) (a_nil))))) rfl hcE) (pa_cons (e_call (pe_call (ok_law_all T c.CL) (hr.mono (by decide)) rfl T.m_law_all T.f_law_all.kp T.b_law_all .nil pass0 (a_cons (e_var (pv 2)) (a_nil))) rfl hcE) pa_nil)) (by rfl))) (ss_cons (s_asg (ps_set (i := 5) nd rfl (.inl rfl) (e_call (pe_call (ok_law_lean T c.CL) (hr.mono (by decide)) rfl T.m_law_lean T.f_law_lean.kp T.b_law_lean .nil pass0 (a_cons (e_var (pv 1)) (a_cons (e_var (pv 2)) (a_cons (e_var (pv 4)) (a_nil))))) rfl hcE)) (fun _ _ _ q => q)) (ss_cons (s_asg (ps_set (i := 6) nd rfl (.inr rfl) (e_ite (t_cmp p_eq (pt_cmpR (op_eqD hr.units) (e_call (pe_call (ok_law_pick T c.CL) (hr.mono (by decide)) rfl T.m_law_pick T.f_law_pick.kp T.b_law_pick .nil pass0 (a_cons (e_var (pv 1)) (a_cons (e_int) (a_nil)))) rfl hcE) (e_int) (nomark _))) (e_cutL (pe_slice sl_cut (e_var (pv 5)) (po_some (e_call (pe_call (ok_law_pick T c.CL) (hr.mono (by decide)) rfl T.m_law_pick T.f_law_pick.kp T.b_law_pick .nil pass0 (a_cons (e_var (pv 1)) (a_cons (e_int) (a_nil)))) rfl hcE)) po_none)) (e_var (pv 5)))) (fun _ _ _ q => q)) (ss_cons (s_for i_seq (ps_for PassesOwn.never rfl (pi_seq (e_cutH (pe_slice sl_cut (e_call (pe_call (ok_law_mixed T c.CL) (hr.mono (by decide)) rfl T.m_law_mixed T.f_law_mixed.kp T.b_law_mixed .nil pass0 (a_cons (e_var (pv 1)) (a_cons (e_lc i_seq (pe_lc (own := [("_law_one", 10)]) rfl nd (pi_seq (e_var (pv 4))) (blkOk_by (N := N_law) (sc := defScope st_law) (by decide +kernel)) (fun _ _ _ _ _ => g_name (pg_name (i := 10) nd rfl (by first | exact .inl rfl | exact .inr rfl))) (fun _ _ _ _ _ => o_some (t_cmp p_notInM (pt_cmpR (op_notInM (units65 hr)) (e_var (pv 10)) (e_var (pv 6)) (by rfl)))) (fun _ _ _ _ _ => e_var (pv 10)))) (a_nil)))) rfl hcE) po_none (po_some (e_int))))) (g_name (pg_name (i := 7) nd rfl (.inl rfl))) (ss_cons (s_asg (ps_set (i := 8) nd rfl (.inr rfl) (e_call (pe_call (ok_law_ring T c.CL) (hr.mono (by decide)) rfl T.m_law_ring T.f_law_ring.kp T.b_law_ring .nil pass0 (a_cons (e_var (pv 2)) (a_cons (e_var (pv 6)) (a_cons (e_var (pv 7)) (a_nil))))) rfl hcE)) (fun _ _ _ q => q)) (ss_cons (s_ite (t_cmp p_ne (pt_cmpR (op_neD hr.units) (e_call (pe_call (ok_ring T c.CL hC_Web) (hr.mono (by decide)) rfl T.m_ring T.f_ring.kp T.b_ring .nil pass0 (a_cons (e_var (pv 3)) (a_cons (e_var (pv 6)) (a_cons (e_var (pv 7)) (a_nil))))) rfl hcE) (e_var (pv 8)) (nomark _))) (ss_cons (s_ret (e_bl)) (ss_nil)) (ss_nil)) (ss_cons (s_ite (t_cmp p_notN (pt_cmpR op_notN (e_var (pv 8)) (e_non) (nomark _))) (ss_cons (s_ite (t_w (w_or (t_cmp p_notB (pt_cmpR op_isnot_bl (e_call (pe_call (ok_is_ring T c.CL hC_Web) (hr.mono (by decide)) rfl T.m_is_ring T.f_is_ring.kp T.b_is_ring .nil pass0 (a_cons (e_var (pv 3)) (a_cons (e_var (pv 8)) (a_nil)))) rfl hcE) (e_bl) (nomark _))) (w_or1 (t_not (t_e (e_call (pe_call (ok_law_makes_nought T c.CL) (hr.mono (by decide)) rfl T.m_law_makes_nought T.f_law_makes_nought.kp T.b_law_makes_nought .nil pass0 (a_cons (e_var (pv 2)) (a_cons (e_var (pv 8)) (a_cons (e_call (pe_call (ok_ring_values T c.CL hC_Web) (hr.mono (by decide)) rfl T.m_ring_values T.f_ring_values.kp T.b_ring_values .nil pass0 (a_cons (e_var (pv 3)) (a_cons (e_var (pv 8)) (a_nil)))) rfl hcE) (a_nil))))) rfl hcE)))))) (ss_cons (s_ret (e_bl)) (ss_nil)) (ss_nil)) (ss_cons (s_ite (t_cmp p_notB (pt_cmpR op_isnot_bl (e_call (pe_call (ok_is_ring T c.CL hC_Web) (hr.mono (by decide)) rfl T.m_is_ring T.f_is_ring.kp T.b_is_ring .nil pass0 (a_cons (e_var (pv 3)) (a_cons (e_call (pe_call (ok_law_without T c.CL) (hr.mono (by decide)) rfl T.m_law_without T.f_law_without.kp T.b_law_without .nil pass0 (a_cons (e_var (pv 8)) (a_cons (e_call (pe_call (ok_law_any T c.CL) (hr.mono (by decide)) rfl T.m_law_any T.f_law_any.kp T.b_law_any .nil pass0 (a_cons (e_var (pv 1)) (a_cons (e_var (pv 8)) (a_nil)))) rfl hcE) (a_nil)))) rfl hcE) (a_nil)))) rfl hcE) (e_bl) (nomark _))) (ss_cons (s_ret (e_bl)) (ss_nil)) (ss_nil)) (ss_cons (s_setLc i_seq (ps_setLc (i := 9) (own := [("_law_one", 10)]) rfl nd rfl rfl (sw_true rfl rfl rfl (by decide +kernel)) (pi_seq (e_var (pv 6))) (blkOk_by (N := N_law) (sc := defScope st_law) (by decide +kernel)) (fun _ _ _ _ _ => g_name (pg_name (i := 10) nd rfl (by first | exact .inl rfl | exact .inr rfl))) (fun _ _ _ _ _ => o_some (t_cmp p_notInM (pt_cmpR (op_notInM (units65 hr)) (e_var (pv 10)) (e_var (pv 8)) (by rfl)))) (fun _ _ _ _ _ => e_var (pv 10)))) (ss_cons (s_ite (t_w (w_and (t_cmp p_gt (pt_cmpR op_gt (e_prim p_len (pe_callB call_len (by rfl) T.z_len (by decide +kernel) (a_cons (e_var (pv 9)) (a_nil)))) (e_int) (nomark _))) (w_and1 (t_cmp p_notB (pt_cmpR op_isnot_bl (e_call (pe_call (ok_is_ring T c.CL hC_Web) (hr.mono (by decide)) rfl T.m_is_ring T.f_is_ring.kp T.b_is_ring .nil pass0 (a_cons (e_var (pv 3)) (a_cons (e_call (pe_call (ok_law_with T c.CL) (hr.mono (by decide)) rfl T.m_law_with T.f_law_with.kp T.b_law_with .nil pass0 (a_cons (e_var (pv 8)) (a_cons (e_ix ix_seq p_ix (e_var (pv 9)) (e_int) (fun _ _ => rfl)) (a_nil)))) rfl hcE) (a_nil)))) rfl hcE) (e_bl) (nomark _)))))) (ss_cons (s_ret (e_bl)) (ss_nil)) (ss_nil)) (ss_nil))))) (ss_nil)) (ss_nil)))))) (ss_cons (s_ret (e_bl)) (ss_nil)))))))
end Ev
namespace Ev
open PySem L2
/-! ### rows of numbers -/
def vec (v : List Int) : List D := v.map D.int
theorem vec_len (v : List Int) : (vec v).length = v.length := List.length_map ..
theorem vec_get {v : List Int} {j : Nat} {x : D} (h : (vec v)[j]? = some x) : j < v.length ∧ x = .int (v.getD j 0) := by
  unfold vec at h
  rw [List.getElem?_map] at h
  cases e : v[j]? with
  | none => rw [e] at h; cases h
  | some i =>
    rw [e] at h
    cases h
    obtain ⟨h1, h2⟩ := List.getElem?_eq_some_iff.mp e
    exact ⟨h1, by rw [List.getD_eq_getElem?_getD, e]; rfl⟩
theorem vec_at {v : List Int} {j : Nat} (h : j < v.length) : (vec v)[j]? = some (.int (v.getD j 0)) := by
  unfold vec
  rw [List.getElem?_map, List.getD_eq_getElem?_getD, List.getElem?_eq_getElem h]
  rfl
theorem pys_vec : ∀ v : List Int, D.pys (vec v) = some (v.map PyData.int)
  | [] => rfl
  | a :: v => by
    show D.pys (.int a :: vec v) = _
    unfold D.pys
    rw [pys_vec v]
    rfl
theorem eqv_vec : ∀ a b : List Int, PyData.eqvAll (a.map PyData.int) (b.map PyData.int) = decide (a = b)
  | [], [] => rfl
  | [], _ :: _ => rfl
  | _ :: _, [] => rfl
  | x :: a, y :: b => by
    show (PyData.eqv (.int x) (.int y) && PyData.eqvAll (a.map PyData.int) (b.map PyData.int)) = _
    rw [eqv_vec a b]
    show ((x == y) && decide (a = b)) = _
    by_cases h : x = y
    · subst h
      simp
    · simp [h]
theorem lay_vec : ∀ v : List Int, PyData.canLayAll0 (v.map PyData.int) = true
  | [] => rfl
  | a :: v => by
    show (PyData.canLay0 (.int a) && PyData.canLayAll0 (v.map PyData.int)) = true
    rw [lay_vec v]
    rfl
theorem dep_vec : ∀ v : List Int, PyData.depthAll (v.map PyData.int) = 0
  | [] => rfl
  | a :: v => by
    show max (PyData.depth (.int a)) (PyData.depthAll (v.map PyData.int)) = 0
    rw [dep_vec v]
    rfl
theorem shaped_tup (v : List Int) : SeqAt.shaped (.tuple (v.map PyData.int)) = true := by
  show (PyData.canLayAll0 (v.map PyData.int) && decide (PyData.depthAll (v.map PyData.int) + 1 ≤ 64)) = true
  rw [lay_vec, dep_vec]
  rfl
theorem shaped_lst (v : List Int) : SeqAt.shaped (.list (v.map PyData.int)) = true := by
  show (PyData.canLayAll0 (v.map PyData.int) && decide (PyData.depthAll (v.map PyData.int) + 1 ≤ 64)) = true
  rw [lay_vec, dep_vec]
  rfl
theorem py_tup (v : List Int) : (D.tup (vec v)).py = some (.tuple (v.map PyData.int)) := by
  unfold D.py
  rw [pys_vec]
theorem py_lst (v : List Int) : (D.lst (vec v)).py = some (.list (v.map PyData.int)) := by
  unfold D.py
  rw [pys_vec]
theorem eqD_tup (a b : List Int) : eqD? (.tup (vec a)) (.tup (vec b)) = some (decide (a = b)) := by
  unfold eqD?
  rw [py_tup, py_tup]
  simp only [shaped_tup, and_self, if_true]
  show some (PyData.eqvAll _ _) = _
  rw [eqv_vec]
theorem eqD_lst (a b : List Int) : eqD? (.lst (vec a)) (.lst (vec b)) = some (decide (a = b)) := by
  unfold eqD?
  rw [py_lst, py_lst]
  simp only [shaped_lst, and_self, if_true]
  show some (PyData.eqvAll _ _) = _
  rw [eqv_vec]
theorem eq_tup (a b : List Int) : fEq [.tup (vec a), .tup (vec b)] = some (.d (.bl (decide (a = b)))) := by
  show (match eqD? (.tup (vec a)) (.tup (vec b)) with | some k => some (RB.d (.bl k)) | none => none) = _
  rw [eqD_tup]
theorem ne_tup (a b : List Int) : fNe [.tup (vec a), .tup (vec b)] = some (.d (.bl (!decide (a = b)))) := by
  show (match eqD? (.tup (vec a)) (.tup (vec b)) with | some k => some (RB.d (.bl (!k))) | none => none) = _
  rw [eqD_tup]
theorem ne_lst (a b : List Int) : fNe [.lst (vec a), .lst (vec b)] = some (.d (.bl (!decide (a = b)))) := by
  show (match eqD? (.lst (vec a)) (.lst (vec b)) with | some k => some (RB.d (.bl (!k))) | none => none) = _
  rw [eqD_lst]
/-! ### items -/
theorem atI_ok {α : Type} {xs : List α} {i : Nat} {d : α} (h : xs[i]? = some d) : atI xs (i : Int) = some d := by
  obtain ⟨h1, h2⟩ := List.getElem?_eq_some_iff.mp h
  unfold atI ixN
  rw [if_pos (by omega), if_pos (by omega)]
  exact h
theorem ix_lst {xs : List D} {i : Nat} {d : D} (h : xs[i]? = some d) : fIx [.lst xs, .int (i : Int)] = some (.d d) := by
  show (match atI xs (i : Int) with | some d => some (RB.d d) | none => none) = _
  rw [atI_ok h]
theorem ix_tup {xs : List D} {i : Nat} {d : D} (h : xs[i]? = some d) : fIx [.tup xs, .int (i : Int)] = some (.d d) := by
  show (match atI xs (i : Int) with | some d => some (RB.d d) | none => none) = _
  rw [atI_ok h]
theorem eq_int (a b : Int) : fEq [.int a, .int b] = some (.d (.bl (decide (a = b)))) := by
  show some (RB.d (.bl (a == b))) = _
  congr 2
theorem ne_int (a b : Int) : fNe [.int a, .int b] = some (.d (.bl (!decide (a = b)))) := by
  show some (RB.d (.bl (!(a == b)))) = _
  congr 2
theorem mul_ok {u v : Int} (h : mulOk u v = true) : fMul [.int u, .int v] = some (.d (.int (u * v))) := by
  show (if mulOk u v then _ else none) = _
  rw [if_pos h]
theorem mod_ok {i j : Int} (h : 0 < j) : fMod [.int i, .int j] = some (.d (.int (i % j))) := by
  have e : modOk i j = true := by unfold modOk; simp [h]
  show (if modOk i j then _ else none) = _
  rw [if_pos e]
theorem div_ok {i j : Int} (h : 0 < j) (h2 : j < 1073741824) : fDiv [.int i, .int j] = some (.d (.int (i / j))) := by
  have e : divOk i j = true := by unfold divOk; simp [h, h2]
  show (if divOk i j then _ else none) = _
  rw [if_pos e]
theorem mulOk_l {u v : Int} (h0 : -18446744073709551616 < u) (h1 : u < 18446744073709551616) : mulOk u v = true := by unfold mulOk; simp [h0, h1]
theorem mulOk_r {u v : Int} (h0 : -18446744073709551616 < v) (h1 : v < 18446744073709551616) : mulOk u v = true := by unfold mulOk; simp [h0, h1]
theorem repL_one {x : D} : ∀ n : Nat, repL n [x] = List.replicate n x
  | 0 => rfl
  | n + 1 => by rw [repL, repL_one n, List.replicate_succ]; rfl
theorem vec_rep (n : Nat) (i : Int) : vec (List.replicate n i) = List.replicate n (.int i) := by unfold vec; rw [List.map_replicate]
theorem noughts_lst {n : Nat} (h : n ≤ 1000) : fMul [.lst [.int 0], .int (n : Int)] = some (.nw (vec (List.replicate n 0))) := by
  show (if (n : Int) ≤ 1000000 ∧ -1000000 ≤ (n : Int) ∧ [D.int 0].length * (n : Int).toNat ≤ sizeLine then some (RB.nw (repL (n : Int).toNat [.int 0])) else none) = _
  rw [if_pos ⟨by omega, by omega, by rw [sizeLine_eq]; simp; omega⟩, Int.toNat_natCast, repL_one, vec_rep]
theorem noughts_tup {n : Nat} (h : n ≤ 1000) : fMul [.tup [.int 0], .int (n : Int)] = some (.d (.tup (vec (List.replicate n 0)))) := by
  show (if [D.int 0] ≠ [] ∧ 2 ≤ (n : Int) ∧ (n : Int) ≤ 1000 ∧ [D.int 0].length ≤ 1000 then some (RB.d (.tup (repL (n : Int).toNat [.int 0]))) else if (n : Int) = 1 then some (.d (.tup [.int 0])) else if [D.int 0] ≠ [] ∧ -1000000 ≤ (n : Int) ∧ (n : Int) ≤ 0 then some (.d (.tup [])) else none) = _
  match n, h with
  | 0, _ => simp [vec]
  | 1, _ => simp [vec]
  | k + 2, h =>
    rw [if_pos ⟨by simp, by omega, by omega, by simp⟩, Int.toNat_natCast, repL_one, vec_rep]
theorem small62_ok {i : Int} (h0 : -1000000000 < i) (h1 : i < 1000000000) : small62 i = true := by
  unfold small62
  rw [decide_eq_true (by omega), decide_eq_true (by omega)]
  rfl
theorem range1_ok {i : Int} (h0 : -1000000000 < i) (h1 : i < 1000000000) : itRange1 [.int i] = some (upFrom i.toNat 0) := by
  show (if small62 i = true then some (upFrom i.toNat 0) else none) = _
  rw [small62_ok h0 h1]
  rfl
theorem range2_ok {i k : Int} (h0 : -1000000000 < i) (h1 : i < 1000000000) (h2 : -1000000000 < k) (h3 : k < 1000000000) : itRange2 [.int i, .int k] = some (upFrom (k - i).toNat i) := by
  show (if (small62 i && small62 k) = true then some (upFrom (k - i).toNat i) else none) = _
  rw [small62_ok h0 h1, small62_ok h2 h3]
  rfl
/-! ### any, all -/
theorem bools_map {α : Type} (f : α → Bool) : ∀ xs : List α, bools (xs.map fun x => D.bl (f x)) = some (xs.map f)
  | [] => rfl
  | a :: xs => by
    show bools (.bl (f a) :: xs.map fun x => D.bl (f x)) = _
    unfold bools
    rw [bools_map f xs]
    rfl
theorem any_map {α : Type} (f : α → Bool) (xs : List α) : fAny [.lst (xs.map fun x => D.bl (f x))] = some (.d (.bl (xs.any f))) := by
  show (match bools (xs.map fun x => D.bl (f x)) with | some bs => some (RB.d (.bl (bs.any id))) | none => none) = _
  rw [bools_map]
  show some (RB.d (.bl ((xs.map f).any id))) = _
  rw [List.any_map]
  rfl
theorem all_map {α : Type} (f : α → Bool) (xs : List α) : fAll [.lst (xs.map fun x => D.bl (f x))] = some (.d (.bl (xs.all f))) := by
  show (match bools (xs.map fun x => D.bl (f x)) with | some bs => some (RB.d (.bl (bs.all id))) | none => none) = _
  rw [bools_map]
  show some (RB.d (.bl ((xs.map f).all id))) = _
  rw [List.all_map]
  rfl
/-! ### comprehensions whose turns leave nothing behind -/
section
variable {ρ : Env}
theorem w_lcm {ows : List Nat} {tg : Tg} {f : List D → Option (List D)} {as : Es} {elt : E} {P : B → Env → Prop} (h : W (evA as ρ) fun bs ρ1 => ∃ ds items, views ρ1 bs = some ds ∧ f ds = some items ∧
      (items.length ≤ sizeLine ∧ (ows.all fun i => match ρ1.o[i]? with | some .att => false | _ => true) = true ∧ (tg.is.all fun i => ows.contains i) = true) ∧ ∃ ys : List D, ys.length = items.length ∧
      (∀ (j : Nat) (x y : D), items[j]? = some x → ys[j]? = some y → ∃ ρ3, tg.set (wipeE (locks ρ1 bs) ows) x = some ρ3 ∧ W (evE elt ρ3) fun b ρ5 => ∃ ρ6, b.keep ρ5 = some (y, ρ6) ∧ wipeE ρ6 ows = wipeE (locks ρ1 bs) ows) ∧
      P (.nw ys) (unlocks ρ1 (unwipe (locks ρ1 bs) (wipeE (locks ρ1 bs) ows) ows) bs)) : W (evE (.lc ows tg f as .none elt) ρ) P := by
  refine w_lc (W.mono h fun bs ρ1 ⟨ds, items, h1, h2, h3, ys, hl, hs, hP⟩ => ⟨ds, items, h1, h2, h3, fun j acc ρ2 => acc = ys.take j ∧ ρ2 = wipeE (locks ρ1 bs) ows, ⟨rfl, rfl⟩, ?_, ?_⟩)
  · rintro j x acc ρ2 hx ⟨rfl, rfl⟩
    have hj : j < ys.length := by
      rw [hl]
      obtain ⟨q, _⟩ := List.getElem?_eq_some_iff.mp hx
      exact q
    obtain ⟨ρ3, e, q⟩ := hs j x ys[j] hx (List.getElem?_eq_getElem hj)
    refine ⟨ρ3, e, W.of (a := true) (ρ := ρ3) rfl ⟨fun _ => W.mono q fun b ρ5 ⟨ρ6, k1, k2⟩ => ⟨_, ρ6, k1, ?_, k2⟩, fun z => absurd z (by decide)⟩⟩
    rw [List.take_add_one, List.getElem?_eq_getElem hj]
    rfl
  · rintro acc ρ3 ⟨rfl, rfl⟩
    rw [← hl, List.take_length]
    exact hP
theorem w_lcf {ows : List Nat} {tg : Tg} {f : List D → Option (List D)} {as : Es} {t : T} {elt : E} {P : B → Env → Prop} (h : W (evA as ρ) fun bs ρ1 => ∃ ds items, views ρ1 bs = some ds ∧ f ds = some items ∧
      (items.length ≤ sizeLine ∧ (ows.all fun i => match ρ1.o[i]? with | some .att => false | _ => true) = true ∧ (tg.is.all fun i => ows.contains i) = true) ∧ ∃ ys : List (Option D), ys.length = items.length ∧
      (∀ (j : Nat) (x : D) (y : Option D), items[j]? = some x → ys[j]? = some y → ∃ ρ3, tg.set (wipeE (locks ρ1 bs) ows) x = some ρ3 ∧ W (evT t ρ3) fun k ρ4 => (k = true → W (evE elt ρ4) fun b ρ5 => ∃ d ρ6, b.keep ρ5 = some (d, ρ6) ∧ y = some d ∧ wipeE ρ6 ows = wipeE (locks ρ1 bs) ows) ∧ (k = false → y = none ∧ wipeE ρ4 ows = wipeE (locks ρ1 bs) ows)) ∧
      P (.nw (ys.filterMap id)) (unlocks ρ1 (unwipe (locks ρ1 bs) (wipeE (locks ρ1 bs) ows) ows) bs)) : W (evE (.lc ows tg f as (.some t) elt) ρ) P := by
  refine w_lc (W.mono h fun bs ρ1 ⟨ds, items, h1, h2, h3, ys, hl, hs, hP⟩ => ⟨ds, items, h1, h2, h3, fun j acc ρ2 => acc = (ys.take j).filterMap id ∧ ρ2 = wipeE (locks ρ1 bs) ows, ⟨rfl, rfl⟩, ?_, ?_⟩)
  · rintro j x acc ρ2 hx ⟨rfl, rfl⟩
    have hj : j < ys.length := by
      rw [hl]
      obtain ⟨q, _⟩ := List.getElem?_eq_some_iff.mp hx
      exact q
    obtain ⟨ρ3, e, q⟩ := hs j x ys[j] hx (List.getElem?_eq_getElem hj)
    refine ⟨ρ3, e, W.mono (r := evT t ρ3) q fun k ρ4 ⟨q1, q2⟩ => ⟨fun hk => W.mono (q1 hk) fun b ρ5 ⟨d, ρ6, k1, k2, k3⟩ => ⟨d, ρ6, k1, ?_, k3⟩, fun hk => ⟨?_, (q2 hk).2⟩⟩⟩
    · rw [List.take_add_one, List.getElem?_eq_getElem hj, List.filterMap_append, k2]
      rfl
    · rw [List.take_add_one, List.getElem?_eq_getElem hj, List.filterMap_append, (q2 hk).1]
      simp
  · rintro acc ρ3 ⟨rfl, rfl⟩
    rw [← hl, List.take_length]
    exact hP
end
end Ev

/-! Sums modulo a prime: what is made of what, rows with steps, solving -/
namespace Lin
abbrev V := Nat → Int

theorem dv0 (p : Int) : p ∣ 0 := ⟨0, by simp⟩
theorem dvAdd {p a b : Int} (h : p ∣ a) (k : p ∣ b) : p ∣ a + b := Int.dvd_add h k
theorem dvSub {p a b : Int} (h : p ∣ a) (k : p ∣ b) : p ∣ a - b := Int.dvd_sub h k
theorem dvMul {p a : Int} (c : Int) (h : p ∣ a) : p ∣ c * a := by
  obtain ⟨k, rfl⟩ := h
  exact ⟨c * k, by rw [Int.mul_left_comm]⟩
theorem dvOf {p a b : Int} (h : p ∣ a) (e : b = a) : p ∣ b := e ▸ h

/-- what is made of the things of S, on the places below w -/
inductive Sp (p : Int) (w : Nat) (S : V → Prop) : V → Prop
  | zero {v : V} : (∀ i, i < w → p ∣ v i) → Sp p w S v
  | add {s u v : V} (c : Int) : S s → Sp p w S u → (∀ i, i < w → p ∣ v i - (u i + c * s i)) → Sp p w S v

theorem Sp.congr {p : Int} {w : Nat} {S : V → Prop} {u v : V} (h : Sp p w S u) (e : ∀ i, i < w → p ∣ v i - u i) : Sp p w S v := by
  cases h with
  | zero h => exact .zero fun i hi => dvOf (dvAdd (e i hi) (h i hi)) (by omega)
  | add c hs hu k => exact .add c hs hu fun i hi => dvOf (dvAdd (e i hi) (k i hi)) (by omega)
theorem Sp.sum {p : Int} {w : Nat} {S : V → Prop} {u v : V} (h : Sp p w S u) (k : Sp p w S v) : Sp p w S (fun i => u i + v i) := by
  induction h with
  | zero h => exact k.congr fun i hi => dvOf (h i hi) (by omega)
  | add c hs hu e ih => exact .add c hs ih fun i hi => dvOf (e i hi) (by omega)
theorem Sp.smul {p : Int} {w : Nat} {S : V → Prop} {u : V} (c : Int) (h : Sp p w S u) : Sp p w S (fun i => c * u i) := by
  induction h with
  | zero h => exact .zero fun i hi => dvMul c (h i hi)
  | @add s u v d hs hu e ih => exact .add (c * d) hs ih fun i hi => dvOf (dvMul c (e i hi)) (by rw [Int.mul_sub, Int.mul_add, Int.mul_assoc])
theorem Sp.mem {p : Int} {w : Nat} {S : V → Prop} {s : V} (h : S s) : Sp p w S s :=
  .add (u := fun _ => 0) 1 h (.zero fun _ _ => dv0 p) fun i _ => dvOf (dv0 p) (by omega)
theorem Sp.mono {p : Int} {w : Nat} {S T : V → Prop} {v : V} (k : ∀ s, S s → T s) (h : Sp p w S v) : Sp p w T v := by
  induction h with
  | zero h => exact .zero h
  | add c hs hu e ih => exact .add c (k _ hs) ih e
theorem Sp.trans {p : Int} {w : Nat} {S T : V → Prop} {v : V} (k : ∀ s, S s → Sp p w T s) (h : Sp p w S v) : Sp p w T v := by
  induction h with
  | zero h => exact .zero h
  | @add s u v c hs hu e ih => exact (Sp.sum ih (Sp.smul c (k _ hs))).congr fun i hi => e i hi
theorem Sp.cut {p : Int} {w w' : Nat} {S : V → Prop} {v : V} (hw : w ≤ w') (h : Sp p w' S v) : Sp p w S v := by
  induction h with
  | zero h => exact .zero fun i hi => h i (by omega)
  | add c hs hu e ih => exact .add c hs ih fun i hi => e i (by omega)
theorem Sp.at0 {p : Int} {w : Nat} {S : V → Prop} {v : V} {i : Nat} (hi : i < w) (k : ∀ s, S s → p ∣ s i) (h : Sp p w S v) : p ∣ v i := by
  induction h with
  | zero h => exact h i hi
  | @add s u v c hs hu e ih => exact dvOf (dvAdd (e i hi) (dvAdd ih (dvMul c (k s hs)))) (by omega)
theorem Sp.split {p : Int} {w : Nat} {T : V → Prop} {r v : V} (h : Sp p w (fun x => x = r ∨ T x) v) : ∃ c u, Sp p w T u ∧ ∀ i, i < w → p ∣ v i - (u i + c * r i) := by
  induction h with
  | @zero v h => exact ⟨0, v, .zero h, fun i hi => dvOf (dv0 p) (by omega)⟩
  | @add s u v c hs hu e ih =>
    obtain ⟨d, x, hx, k⟩ := ih
    rcases hs with rfl | hs
    · exact ⟨d + c, x, hx, fun i hi => dvOf (dvAdd (e i hi) (k i hi)) (by rw [Int.add_mul]; omega)⟩
    · exact ⟨d, fun i => x i + c * s i, hx.sum (Sp.smul c (Sp.mem hs)), fun i hi => dvOf (dvAdd (e i hi) (k i hi)) (by simp only []; omega)⟩

/-! ### rows with steps -/
def RS (rows : List (Nat × V)) : V → Prop := fun x => ∃ q, (q, x) ∈ rows
def Stag (p : Int) : List (Nat × V) → Prop
  | [] => True
  | (q, r) :: rest => p ∣ r q - 1 ∧ (∀ a ∈ rest, p ∣ a.2 q) ∧ Stag p rest
theorem stag_zero {p : Int} {w : Nat} : ∀ {rows : List (Nat × V)} {v : V}, Stag p rows → (∀ a ∈ rows, a.1 < w) → Sp p w (RS rows) v → (∀ a ∈ rows, p ∣ v a.1) → ∀ i, i < w → p ∣ v i
  | [], v, _, _, h, _ => by
    intro i hi
    exact h.at0 hi fun s hs => by obtain ⟨_, hs⟩ := hs; cases hs
  | (q, r) :: rest, v, ⟨h1, h0, hs⟩, hq, h, hv => by
    have hm : Sp p w (fun x => x = r ∨ RS rest x) v := h.mono fun s ⟨q', hs⟩ => by
      rcases List.mem_cons.mp hs with e | e
      · exact .inl (by cases e; rfl)
      · exact .inr ⟨q', e⟩
    obtain ⟨c, u, hu, e⟩ := hm.split
    have hqw : q < w := hq (q, r) (by simp)
    have uq : p ∣ u q := hu.at0 hqw fun s ⟨q', hs⟩ => h0 (q', s) hs
    have cq : p ∣ c := by
      have a := e q hqw
      have b := hv (q, r) (by simp)
      have d := dvMul c h1
      rw [Int.mul_sub] at d
      exact dvOf (dvSub (dvSub (dvSub b a) uq) d) (by simp only []; omega)
    have hcr : ∀ i, p ∣ c * r i := fun i => dvOf (dvMul (r i) cq) (Int.mul_comm _ _)
    have hvu : Sp p w (RS rest) v := hu.congr fun i hi => dvOf (dvAdd (e i hi) (hcr i)) (by omega)
    exact stag_zero hs (fun a ha => hq a (List.mem_cons_of_mem _ ha)) hvu fun a ha => hv a (List.mem_cons_of_mem _ ha)
theorem stag_mem {p : Int} : ∀ {rows : List (Nat × V)}, Stag p rows → ∀ a ∈ rows, p ∣ a.2 a.1 - 1
  | (q, r) :: rest, ⟨h1, _, hs⟩, a, ha => by
    rcases List.mem_cons.mp ha with rfl | ha
    · exact h1
    · exact stag_mem hs a ha
theorem stag_snoc {p : Int} {q : Nat} {r : V} (h1 : p ∣ r q - 1) : ∀ {rows : List (Nat × V)}, Stag p rows → (∀ a ∈ rows, p ∣ r a.1) → Stag p (rows ++ [(q, r)])
  | [], _, _ => ⟨h1, (by intro a ha; cases ha), trivial⟩
  | (q', r') :: rest, ⟨g1, g0, gs⟩, h0 => ⟨g1, (by
      intro a ha
      rcases List.mem_append.mp ha with ha | ha
      · exact g0 a ha
      · simp at ha; subst ha; exact h0 (q', r') (by simp)), stag_snoc h1 gs fun a ha => h0 a (List.mem_cons_of_mem _ ha)⟩
/-- u is what is left of v -/
structure Red (p : Int) (w : Nat) (rows : List (Nat × V)) (v u : V) : Prop where
  sp : Sp p w (RS rows) (fun i => v i - u i)
  z : ∀ a ∈ rows, p ∣ u a.1
theorem Red.iff {p : Int} {w w' : Nat} {rows : List (Nat × V)} {v u : V} (h : Red p w' rows v u) (hw : w ≤ w') (hs : Stag p rows) (hq : ∀ a ∈ rows, a.1 < w) : Sp p w (RS rows) v ↔ ∀ i, i < w → p ∣ u i := by
  constructor
  · intro hv
    have hu : Sp p w (RS rows) u := ((hv.sum (Sp.smul (-1) (h.sp.cut hw)))).congr fun i hi => dvOf (dv0 p) (by omega)
    exact stag_zero hs hq hu h.z
  · intro hz
    exact (h.sp.cut hw).congr fun i hi => dvOf (hz i hi) (by omega)
/-- one row more -/
theorem red_step {p : Int} {w : Nat} {pre : List (Nat × V)} {q : Nat} {r v u x : V} (h : Red p w pre v u) (hs : ∀ a ∈ pre, p ∣ r a.1) (h1 : p ∣ r q - 1) (hq : q < w) (ha : ∀ a ∈ pre, a.1 < w) (e : ∀ i, i < w → p ∣ x i - (u i - u q * r i)) : Red p w (pre ++ [(q, r)]) v x := by
  constructor
  · have h2 : Sp p w (RS (pre ++ [(q, r)])) (fun i => v i - u i) := h.sp.mono fun s ⟨q', hs⟩ => ⟨q', List.mem_append_left _ hs⟩
    exact .add (s := r) (u q) ⟨q, by simp⟩ h2 fun i hi => dvOf (dvMul (-1) (e i hi)) (by omega)
  · intro a hm
    rcases List.mem_append.mp hm with hm | hm
    · have := e a.1 (ha a hm)
      exact dvOf (dvAdd this (dvSub (h.z a hm) (dvMul (u q) (hs a hm)))) (by omega)
    · simp at hm; subst hm
      have := e q hq
      have d := dvMul (u q) h1
      rw [Int.mul_sub] at d
      exact dvOf (dvSub this d) (by simp only []; omega)
theorem red_nil {p : Int} {w : Nat} {v : V} : Red p w [] v v := ⟨.zero fun i _ => dvOf (dv0 p) (by omega), by intro a ha; cases ha⟩
end Lin

namespace Lin

def sumTo : Nat → (Nat → Int) → Int
  | 0, _ => 0
  | k + 1, f => sumTo k f + f k
theorem sumTo_congr {p : Int} {f g : Nat → Int} : ∀ {n : Nat}, (∀ k, k < n → p ∣ f k - g k) → p ∣ sumTo n f - sumTo n g
  | 0, _ => dvOf (dv0 p) (by simp [sumTo])
  | n + 1, h => dvOf (dvAdd (sumTo_congr (n := n) fun k hk => h k (by omega)) (h n (by omega))) (by simp only [sumTo]; omega)
theorem sumTo_eq {f g : Nat → Int} : ∀ {n : Nat}, (∀ k, k < n → f k = g k) → sumTo n f = sumTo n g
  | 0, _ => rfl
  | n + 1, h => by simp only [sumTo]; rw [sumTo_eq (n := n) fun k hk => h k (by omega), h n (by omega)]
theorem sumTo_add {f g : Nat → Int} : ∀ (n : Nat), sumTo n (fun k => f k + g k) = sumTo n f + sumTo n g
  | 0 => rfl
  | n + 1 => by simp only [sumTo]; rw [sumTo_add n]; omega
theorem sumTo_sub {f g : Nat → Int} : ∀ (n : Nat), sumTo n (fun k => f k - g k) = sumTo n f - sumTo n g
  | 0 => rfl
  | n + 1 => by simp only [sumTo]; rw [sumTo_sub n]; omega
theorem sumTo_mul {f : Nat → Int} (c : Int) : ∀ (n : Nat), sumTo n (fun k => c * f k) = c * sumTo n f
  | 0 => by simp [sumTo]
  | n + 1 => by simp only [sumTo]; rw [sumTo_mul c n, Int.mul_add]
theorem sumTo_dv {p : Int} {f : Nat → Int} : ∀ {n : Nat}, (∀ k, k < n → p ∣ f k) → p ∣ sumTo n f
  | 0, _ => dv0 p
  | n + 1, h => dvAdd (sumTo_dv (n := n) fun k hk => h k (by omega)) (h n (by omega))
theorem sumTo_delta {p : Int} {f : Nat → Int} {i : Nat} {a : Int} : ∀ {n : Nat}, i < n → p ∣ f i - a → (∀ k, k < n → k ≠ i → p ∣ f k) → p ∣ sumTo n f - a
  | n + 1, hi, h1, h0 => by
    simp only [sumTo]
    rcases Nat.lt_or_ge i n with h | h
    · exact dvOf (dvAdd (sumTo_delta (n := n) h h1 fun k hk hn => h0 k (by omega) hn) (h0 n (by omega) (by omega))) (by omega)
    · have e : i = n := by omega
      subst e
      exact dvOf (dvAdd (sumTo_dv (n := i) fun k hk => h0 k (by omega) (by omega)) h1) (by omega)
theorem sumTo_tail {f : Nat → Int} {c : Nat} : ∀ {n : Nat}, c ≤ n → (∀ k, c ≤ k → k < n → f k = 0) → sumTo n f = sumTo c f
  | 0, h, _ => by have : c = 0 := by omega
                  subst this; rfl
  | n + 1, h, h0 => by
    rcases Nat.lt_or_ge n c with hc | hc
    · have : c = n + 1 := by omega
      subst this; rfl
    · simp only [sumTo]
      rw [h0 n hc (by omega), sumTo_tail (n := n) hc fun k a b => h0 k a (by omega)]
      omega

/-! ### the taken ones -/
def Pre (s : Nat → V) (k : Nat) : V → Prop := fun x => ∃ j, j < k ∧ x = s j
def Tk (p : Int) (w : Nat) (s : Nat → V) (k : Nat) : Prop := ¬ Sp p w (Pre s k) (s k)
structure Made (p : Int) (w n : Nat) (s : Nat → V) (t : V) (c : Nat → Int) : Prop where
  z : ∀ k, k < n → ¬ Tk p w s k → p ∣ c k
  e : ∀ i, i < w → p ∣ t i - sumTo n (fun k => c k * s k i)
theorem sp_sum {p : Int} {w : Nat} {s : Nat → V} {T : V → Prop} {e : Nat → Int} : ∀ {m : Nat}, (∀ k, k < m → T (s k)) → Sp p w T (fun i => sumTo m (fun k => e k * s k i))
  | 0, _ => .zero fun _ _ => dv0 p
  | m + 1, h => .add (e m) (h m (by omega)) (sp_sum (m := m) (e := e) fun k hk => h k (by omega)) fun i _ => dvOf (dv0 p) (by simp only [sumTo]; omega)
theorem Made.sp {p : Int} {w n : Nat} {s : Nat → V} {t : V} {c : Nat → Int} (h : Made p w n s t c) : Sp p w (Pre s n) t :=
  (sp_sum (p := p) (e := c) fun k hk => ⟨k, hk, rfl⟩).congr h.e
theorem alone {p : Int} {w : Nat} {s : Nat → V} {e : Nat → Int} (inv : ∀ a : Int, ¬ p ∣ a → ∃ b, p ∣ b * a - 1) : ∀ {m : Nat}, (∀ k, k < m → ¬ Tk p w s k → p ∣ e k) → (∀ i, i < w → p ∣ sumTo m (fun k => e k * s k i)) → ∀ k, k < m → p ∣ e k
  | m + 1, hz, hs, k, hk => by
    have em : p ∣ e m := by
      apply Classical.byContradiction
      intro hn
      obtain ⟨b, hb⟩ := inv _ hn
      refine hn (hz m (by omega) ?_)
      refine fun ht => ht ?_
      have h1 : Sp p w (Pre s m) (fun i => sumTo m (fun k => (-b * e k) * s k i)) := sp_sum fun k hk => ⟨k, hk, rfl⟩
      refine h1.congr fun i hi => ?_
      have h2 := dvMul b (hs i hi)
      have h3 := dvMul (s m i) hb
      have e1 : sumTo m (fun k => (-b * e k) * s k i) = -b * sumTo m (fun k => e k * s k i) := by
        rw [← sumTo_mul]
        exact sumTo_eq fun k _ => by rw [Int.mul_assoc]
      have e2 : b * sumTo (m + 1) (fun k => e k * s k i) = b * sumTo m (fun k => e k * s k i) + b * (e m * s m i) := by simp only [sumTo]; rw [Int.mul_add]
      have e3 : s m i * (b * e m - 1) = b * (e m * s m i) - s m i := by rw [Int.mul_sub, Int.mul_one, Int.mul_comm, Int.mul_assoc]
      rw [e3] at h3
      rw [e2] at h2
      rw [e1]
      exact dvOf (dvSub h2 h3) (by rw [Int.neg_mul]; omega)
    rcases Nat.lt_or_ge k m with h | h
    · refine alone inv (m := m) (fun k hk => hz k (by omega)) (fun i hi => ?_) k h
      have h1 := hs i hi
      simp only [sumTo] at h1
      have h2 := dvOf (dvMul (s m i) em) (Int.mul_comm _ _)
      exact dvOf (dvSub h1 h2) (by omega)
    · have : k = m := by omega
      subst this; exact em
theorem Made.uniq {p : Int} {w n : Nat} {s : Nat → V} {t : V} {c d : Nat → Int} (inv : ∀ a : Int, ¬ p ∣ a → ∃ b, p ∣ b * a - 1) (hc : Made p w n s t c) (hd : Made p w n s t d) : ∀ k, k < n → p ∣ c k - d k := by
  refine alone (s := s) (w := w) (e := fun k => c k - d k) inv (fun k hk ht => dvSub (hc.z k hk ht) (hd.z k hk ht)) fun i hi => ?_
  have e : sumTo n (fun k => (c k - d k) * s k i) = sumTo n (fun k => c k * s k i) - sumTo n (fun k => d k * s k i) := by
    rw [← sumTo_sub]
    exact sumTo_eq fun k _ => by rw [Int.sub_mul]
  rw [e]
  exact dvOf (dvSub (hd.e i hi) (hc.e i hi)) (by omega)
def TS (p : Int) (w : Nat) (s : Nat → V) (m : Nat) : V → Prop := fun x => ∃ j, j < m ∧ Tk p w s j ∧ x = s j
theorem ts_all {p : Int} {w : Nat} {s : Nat → V} {m : Nat} (k : Nat) (hk : k < m) : Sp p w (TS p w s m) (s k) := by
  induction k using Nat.strongRecOn with
  | ind k ih =>
    by_cases h : Tk p w s k
    · exact Sp.mem ⟨k, hk, h, rfl⟩
    · have h2 : Sp p w (Pre s k) (s k) := Classical.byContradiction h
      exact h2.trans fun x ⟨j, hj, e⟩ => by subst e; exact ih j hj (by omega)
theorem ts_of {p : Int} {w : Nat} {s : Nat → V} {m : Nat} {v : V} (h : Sp p w (Pre s m) v) : Sp p w (TS p w s m) v :=
  h.trans fun x ⟨j, hj, e⟩ => by subst e; exact ts_all j hj

/-! ### solving -/
def Rel (p : Int) (w N : Nat) (A : Nat → V) (x : V) : Prop := ∀ i, i < w → p ∣ sumTo N (fun c => A i c * x c)
structure GJ (p : Int) (w N : Nat) (cols : Nat → V) (c : Nat) (A : Nat → V) : Prop where
  rel : ∀ x, Rel p w N A x ↔ Rel p w N (fun i c => cols c i) x
  one : ∀ j, j < c → p ∣ A j j - 1
  nul : ∀ j i, j < c → i < w → i ≠ j → p ∣ A i j
  le : c ≤ w
theorem GJ.zero {p : Int} {w N : Nat} {cols : Nat → V} {c : Nat} {A : Nat → V} (h : GJ p w N cols c A) (hc : c < N) (hz : ∀ i, c ≤ i → i < w → p ∣ A i c) : ∀ i, i < w → p ∣ cols c i - sumTo c (fun j => A j c * cols j i) := by
  let x : V := fun j => if j = c then 1 else if j < c then - A j c else 0
  have hx : Rel p w N A x := by
    intro i hi
    have e : sumTo N (fun j => A i j * x j) = sumTo (c + 1) (fun j => A i j * x j) := sumTo_tail (by omega) fun k a b => by
      show A i k * (if k = c then 1 else if k < c then - A k c else 0) = 0
      rw [if_neg (by omega), if_neg (by omega), Int.mul_zero]
    rw [e]
    simp only [sumTo]
    have e2 : A i c * x c = A i c := by show A i c * (if c = c then 1 else _) = _; rw [if_pos rfl, Int.mul_one]
    have e3 : sumTo c (fun j => A i j * x j) = sumTo c (fun j => A i j * (- A j c)) := sumTo_eq fun j hj => by
      show A i j * (if j = c then 1 else if j < c then - A j c else 0) = _
      rw [if_neg (by omega), if_pos hj]
    rw [e2, e3]
    rcases Nat.lt_or_ge i c with hic | hic
    · have := sumTo_delta (p := p) (f := fun j => A i j * (- A j c)) (a := - A i c) hic (dvOf (dvMul (- A i c) (h.one i hic)) (by rw [Int.mul_sub, Int.mul_comm]; omega)) fun k hk hn => dvOf (dvMul (- A k c) (h.nul k i hk hi (Ne.symm hn))) (Int.mul_comm _ _)
      exact dvOf this (by omega)
    · exact dvAdd (sumTo_dv fun k hk => dvOf (dvMul (- A k c) (h.nul k i hk hi (by omega))) (Int.mul_comm _ _)) (hz i hic hi)
  intro i hi
  have h2 := (h.rel x).mp hx i hi
  have e : sumTo N (fun j => cols j i * x j) = sumTo (c + 1) (fun j => cols j i * x j) := sumTo_tail (by omega) fun k a b => by
    show cols k i * (if k = c then 1 else if k < c then - A k c else 0) = 0
    rw [if_neg (by omega), if_neg (by omega), Int.mul_zero]
  rw [e] at h2
  simp only [sumTo] at h2
  have e2 : cols c i * x c = cols c i := by show cols c i * (if c = c then 1 else _) = _; rw [if_pos rfl, Int.mul_one]
  have e3 : sumTo c (fun j => cols j i * x j) = - sumTo c (fun j => A j c * cols j i) := by
    have : sumTo c (fun j => cols j i * x j) = sumTo c (fun j => (-1) * (A j c * cols j i)) := sumTo_eq fun j hj => by
      show cols j i * (if j = c then 1 else if j < c then - A j c else 0) = _
      rw [if_neg (by omega), if_pos hj, Int.mul_neg, Int.mul_comm]; omega
    rw [this, sumTo_mul]; omega
  rw [e2, e3] at h2
  exact dvOf h2 (by omega)
theorem GJ.none {p : Int} {w r : Nat} {cols : Nat → V} {A : Nat → V} (h : GJ p w (r + 1) cols r A) {y : Nat → Int} (hy : ∀ i, i < w → p ∣ cols r i - sumTo r (fun j => y j * cols j i)) : ∀ i, r ≤ i → i < w → p ∣ A i r := by
  let x : V := fun j => if j < r then - y j else 1
  have hx : Rel p w (r + 1) (fun i c => cols c i) x := by
    intro i hi
    simp only [sumTo]
    have e2 : cols r i * x r = cols r i := by show cols r i * (if r < r then _ else 1) = _; rw [if_neg (by omega), Int.mul_one]
    have e3 : sumTo r (fun j => cols j i * x j) = - sumTo r (fun j => y j * cols j i) := by
      have : sumTo r (fun j => cols j i * x j) = sumTo r (fun j => (-1) * (y j * cols j i)) := sumTo_eq fun j hj => by
        show cols j i * (if j < r then - y j else 1) = _
        rw [if_pos hj, Int.mul_neg, Int.mul_comm]; omega
      rw [this, sumTo_mul]; omega
    rw [e2, e3]
    exact dvOf (hy i hi) (by omega)
  intro i h1 hi
  have h2 := (h.rel x).mpr hx i hi
  simp only [sumTo] at h2
  have e2 : A i r * x r = A i r := by show A i r * (if r < r then _ else 1) = _; rw [if_neg (by omega), Int.mul_one]
  rw [e2] at h2
  exact dvOf (dvSub h2 (sumTo_dv (p := p) (f := fun c => A i c * x c) fun k hk => dvOf (dvMul (x k) (h.nul k i hk hi (by omega))) (Int.mul_comm _ _))) (by omega)
theorem GJ.start {p : Int} {w N : Nat} {cols : Nat → V} {A : Nat → V} (e : ∀ i c, i < w → c < N → A i c = cols c i) : GJ p w N cols 0 A where
  rel x := by
    constructor
    · intro h i hi
      have := h i hi
      rwa [sumTo_eq (g := fun c => cols c i * x c) fun c hc => by rw [e i c hi hc]] at this
    · intro h i hi
      rw [sumTo_eq (g := fun c => cols c i * x c) fun c hc => by rw [e i c hi hc]]
      exact h i hi
  one j h := by omega
  nul j i h := by omega
  le := by omega
/-- within a column: rows so far cleared -/
structure GC (p : Int) (w N : Nat) (cols : Nat → V) (c m : Nat) (A : Nat → V) : Prop where
  rel : ∀ x, Rel p w N A x ↔ Rel p w N (fun i c => cols c i) x
  one : ∀ j, j < c → p ∣ A j j - 1
  nul : ∀ j i, j < c → i < w → i ≠ j → p ∣ A i j
  le : c < w
  piv : p ∣ A c c - 1
  clr : ∀ i, i < m → i < w → i ≠ c → p ∣ A i c
/-- two rows change places -/
theorem GJ.swap {p : Int} {w N : Nat} {cols : Nat → V} {c h : Nat} {A B : Nat → V} (g : GJ p w N cols c A) (h1 : c ≤ h) (h2 : h < w) (hB : ∀ i k, i < w → k < N → B i k = A (if i = c then h else if i = h then c else i) k) (hN : c ≤ N) : GJ p w N cols c B where
  rel x := by
    rw [← g.rel x]
    have key : ∀ i, i < w → sumTo N (fun k => B i k * x k) = sumTo N (fun k => A (if i = c then h else if i = h then c else i) k * x k) := fun i hi => sumTo_eq fun k hk => by rw [hB i k hi hk]
    constructor
    · intro hr i hi
      by_cases e1 : i = c
      · subst e1
        have := hr h h2
        rw [key h h2] at this
        by_cases e3 : h = i
        · subst e3; rwa [if_pos rfl] at this
        · rwa [if_neg e3, if_pos rfl] at this
      · by_cases e2 : i = h
        · subst e2
          have := hr c (by omega)
          rwa [key c (by omega), if_pos rfl] at this
        · have := hr i hi
          rwa [key i hi, if_neg e1, if_neg e2] at this
    · intro hr i hi
      rw [key i hi]
      apply hr
      split
      · exact h2
      · split <;> omega
  one j hj := by rw [hB j j (by omega) (by omega), if_neg (by omega), if_neg (by omega)]; exact g.one j hj
  nul j i hj hi hn := by
    rw [hB i j hi (by omega)]
    refine g.nul j _ hj ?_ ?_
    · split
      · exact h2
      · split <;> omega
    · split
      · omega
      · split <;> omega
  le := g.le
/-- the row of the step is made 1 at its place -/
theorem GJ.scale {p : Int} {w N : Nat} {cols : Nat → V} {c : Nat} {A B : Nat → V} {t : Int} (inv : ∀ a b : Int, p ∣ t * b → p ∣ b) (g : GJ p w N cols c A) (hc : c < w) (hcN : c < N) (h1 : p ∣ t * A c c - 1) (hB : ∀ i k, i < w → k < N → i ≠ c → B i k = A i k) (hBc : ∀ k, k < N → p ∣ B c k - t * A c k) : GC p w N cols c 0 B where
  rel x := by
    rw [← g.rel x]
    have key : p ∣ sumTo N (fun k => B c k * x k) - t * sumTo N (fun k => A c k * x k) := by
      rw [← sumTo_mul]
      exact sumTo_congr fun k hk => dvOf (dvMul (x k) (hBc k hk)) (by rw [Int.mul_sub, Int.mul_comm (x k) (B c k), Int.mul_comm (x k), Int.mul_assoc])
    constructor
    · intro hr i hi
      by_cases e : i = c
      · subst e
        exact inv 0 _ (dvOf (dvSub (hr i hi) key) (by omega))
      · have := hr i hi
        rwa [sumTo_eq (g := fun k => A i k * x k) fun k hk => by rw [hB i k hi hk e]] at this
    · intro hr i hi
      by_cases e : i = c
      · subst e
        exact dvOf (dvAdd key (dvMul t (hr i hi))) (by omega)
      · rw [sumTo_eq (g := fun k => A i k * x k) fun k hk => by rw [hB i k hi hk e]]
        exact hr i hi
  one j hj := by rw [hB j j (by omega) (by omega) (by omega)]; exact g.one j hj
  nul j i hj hi hn := by
    by_cases e : i = c
    · subst e
      exact dvOf (dvAdd (hBc j (by omega)) (dvMul t (g.nul j i hj hi hn))) (by omega)
    · rw [hB i j hi (by omega) e]; exact g.nul j i hj hi hn
  le := hc
  piv := dvOf (dvAdd (hBc c hcN) h1) (by omega)
  clr i hi := by omega
/-- a row is cleared -/
theorem GC.step {p : Int} {w N : Nat} {cols : Nat → V} {c m : Nat} {A B : Nat → V} (g : GC p w N cols c m A) (hcN : c < N) (hm : m < w) (hn : m ≠ c) (hB : ∀ i k, i < w → k < N → i ≠ m → B i k = A i k) (hBm : ∀ k, k < N → p ∣ B m k - (A m k - A m c * A c k)) : GC p w N cols c (m + 1) B where
  rel x := by
    rw [← g.rel x]
    have key : p ∣ sumTo N (fun k => B m k * x k) - (sumTo N (fun k => A m k * x k) - A m c * sumTo N (fun k => A c k * x k)) := by
      rw [← sumTo_mul, ← sumTo_sub]
      exact sumTo_congr fun k hk => dvOf (dvMul (x k) (hBm k hk)) (by rw [Int.mul_sub, Int.mul_sub, Int.mul_comm (x k) (B m k), Int.mul_comm (x k) (A m k), Int.mul_comm (x k), Int.mul_assoc])
    constructor
    · intro hr
      have hc : p ∣ sumTo N (fun k => A c k * x k) := by
        have := hr c g.le
        rwa [sumTo_eq (g := fun k => A c k * x k) fun k hk => by rw [hB c k g.le hk (by omega)]] at this
      intro i hi
      by_cases e : i = m
      · subst e
        exact dvOf (dvAdd (dvSub (hr i hi) key) (dvMul (A i c) hc)) (by omega)
      · have := hr i hi
        rwa [sumTo_eq (g := fun k => A i k * x k) fun k hk => by rw [hB i k hi hk e]] at this
    · intro hr i hi
      by_cases e : i = m
      · subst e
        exact dvOf (dvAdd key (dvSub (hr i hi) (dvMul (A i c) (hr c g.le)))) (by omega)
      · rw [sumTo_eq (g := fun k => A i k * x k) fun k hk => by rw [hB i k hi hk e]]
        exact hr i hi
  one j hj := by
    have hjw : j < w := by have := g.le; omega
    by_cases e : j = m
    · subst e
      have a := hBm j (by omega)
      have b := dvMul (A j c) (g.nul j c hj g.le (by omega))
      exact dvOf (dvAdd (dvSub a b) (g.one j hj)) (by omega)
    · rw [hB j j hjw (by omega) e]; exact g.one j hj
  nul j i hj hi hne := by
    by_cases e : i = m
    · subst e
      have a := hBm j (by omega)
      have b := dvMul (A i c) (g.nul j c hj g.le (by omega))
      exact dvOf (dvAdd (dvSub a b) (g.nul j i hj hi hne)) (by omega)
    · rw [hB i j hi (by omega) e]; exact g.nul j i hj hi hne
  le := g.le
  piv := by rw [hB c c g.le hcN (by omega)]; exact g.piv
  clr i hi hw hne := by
    by_cases e : i = m
    · subst e
      have a := hBm c hcN
      have b := dvMul (A i c) g.piv
      rw [Int.mul_sub] at b
      exact dvOf (dvSub a b) (by omega)
    · rw [hB i c hw hcN e]; exact g.clr i (by omega) hw hne
theorem GC.skip {p : Int} {w N : Nat} {cols : Nat → V} {c m : Nat} {A : Nat → V} (g : GC p w N cols c m A) (h : m = c ∨ p ∣ A m c) : GC p w N cols c (m + 1) A :=
  ⟨g.rel, g.one, g.nul, g.le, g.piv, fun i hi hw hne => by
    by_cases e : i = m
    · subst e
      rcases h with h | h
      · exact absurd h hne
      · exact h
    · exact g.clr i (by omega) hw hne⟩
theorem GC.done {p : Int} {w N : Nat} {cols : Nat → V} {c : Nat} {A : Nat → V} (g : GC p w N cols c w A) : GJ p w N cols (c + 1) A where
  rel := g.rel
  one j hj := by
    by_cases e : j = c
    · subst e; exact g.piv
    · exact g.one j (by omega)
  nul j i hj hi hn := by
    by_cases e : j = c
    · subst e; exact g.clr i hi hi hn
    · exact g.nul j i (by omega) hi hn
  le := g.le
end Lin

namespace Lin
/-- k things gone through: R makes them, and is made of the taken ones -/
structure TI (p : Int) (w n : Nat) (s : Nat → V) (k : Nat) (R : V → Prop) : Prop where
  a : ∀ j, j < k → Sp p w R (s j)
  b : ∀ r, R r → Sp p n (TS p w s k) r
theorem ts_mono {p : Int} {w : Nat} {s : Nat → V} {k m : Nat} (h : k ≤ m) : ∀ x, TS p w s k x → TS p w s m x := fun x ⟨j, hj, ht, e⟩ => ⟨j, by omega, ht, e⟩
theorem ts_pre {p : Int} {w : Nat} {s : Nat → V} {k : Nat} : ∀ x, TS p w s k x → Pre s k x := fun x ⟨j, hj, _, e⟩ => ⟨j, hj, e⟩
theorem TI.nil {p : Int} {w n : Nat} {s : Nat → V} : TI p w n s 0 (RS []) := ⟨fun j h => by omega, fun r ⟨q, h⟩ => by cases h⟩
theorem TI.pre {p : Int} {w n : Nat} {s : Nat → V} {k : Nat} {R : V → Prop} (h : TI p w n s k R) (hw : w ≤ n) {v : V} : Sp p w R v ↔ Sp p w (Pre s k) v := by
  constructor
  · exact fun q => q.trans fun x hx => ((h.b x hx).cut hw).mono ts_pre
  · exact fun q => q.trans fun x ⟨j, hj, e⟩ => by subst e; exact h.a j hj
theorem TI.skip {p : Int} {w n : Nat} {s : Nat → V} {k : Nat} {R : V → Prop} (h : TI p w n s k R) (q : Sp p w R (s k)) : TI p w n s (k + 1) R where
  a j hj := by
    rcases Nat.lt_or_ge j k with e | e
    · exact h.a j e
    · have : j = k := by omega
      subst this; exact q
  b r hr := (h.b r hr).mono (ts_mono (by omega))
theorem TI.new {p : Int} {w n : Nat} {s : Nat → V} {k : Nat} {R R' : V → Prop} (h : TI p w n s k R) (hw : w ≤ n) (ht : Tk p w s k) {u r : V} {t t' : Int} (hu : Sp p n R (fun i => s k i - u i)) (h1 : ∀ i, i < n → p ∣ r i - t * u i) (h2 : ∀ i, i < w → p ∣ u i - t' * r i)
    (hR : ∀ x, R' x ↔ R x ∨ x = r) : TI p w n s (k + 1) R' where
  a j hj := by
    rcases Nat.lt_or_ge j k with e | e
    · exact (h.a j e).mono fun x hx => (hR x).mpr (.inl hx)
    · have : j = k := by omega
      subst this
      have q1 : Sp p w R' (fun i => s j i - u i) := (hu.cut hw).mono fun x hx => (hR x).mpr (.inl hx)
      have q2 : Sp p w R' (fun i => t' * r i) := Sp.smul t' (Sp.mem ((hR r).mpr (.inr rfl)))
      exact (q1.sum q2).congr fun i hi => dvOf (h2 i hi) (by omega)
  b x hx := by
    rcases (hR x).mp hx with hx | rfl
    · exact (h.b x hx).mono (ts_mono (by omega))
    · have q1 : Sp p n (TS p w s (k + 1)) (fun i => s k i - u i) := (hu.trans h.b).mono (ts_mono (by omega))
      have q2 : Sp p n (TS p w s (k + 1)) (s k) := Sp.mem ⟨k, by omega, ht, rfl⟩
      have q3 := Sp.smul t (q2.sum (Sp.smul (-1) q1))
      exact q3.congr fun i hi => dvOf (h1 i hi) (by
        show x i - t * (s k i + -1 * (s k i - u i)) = x i - t * u i
        congr 2
        omega)
theorem rs_snoc {rows : List (Nat × V)} {q : Nat} {r : V} (x : V) : RS (rows ++ [(q, r)]) x ↔ RS rows x ∨ x = r := by
  constructor
  · rintro ⟨q', h⟩
    rcases List.mem_append.mp h with h | h
    · exact .inl ⟨q', h⟩
    · simp at h
      exact .inr h.2
  · rintro (⟨q', h⟩ | rfl)
    · exact ⟨q', List.mem_append_left _ h⟩
    · exact ⟨q, by simp⟩
/-- what stands behind w tells how a thing is made -/
theorem Sp.marks {p : Int} {w m : Nat} {S : V → Prop} {s : Nat → V} (k : ∀ x, S x → ∀ i, i < w → p ∣ x i - sumTo m (fun j => x (w + j) * s j i)) {v : V} (h : Sp p (w + m) S v) : ∀ i, i < w → p ∣ v i - sumTo m (fun j => v (w + j) * s j i) := by
  induction h with
  | @zero v h => exact fun i hi => dvSub (h i (by omega)) (sumTo_dv fun j hj => dvOf (dvMul (s j i) (h (w + j) (by omega))) (Int.mul_comm _ _))
  | @add x u v c hs hu e ih =>
    intro i hi
    have e1 := e i (by omega)
    have e2 : p ∣ sumTo m (fun j => v (w + j) * s j i) - sumTo m (fun j => (u (w + j) + c * x (w + j)) * s j i) := sumTo_congr fun j hj => dvOf (dvMul (s j i) (e (w + j) (by omega))) (by rw [Int.mul_sub, Int.mul_comm (s j i) (v (w + j)), Int.mul_comm (s j i)])
    have e3 : sumTo m (fun j => (u (w + j) + c * x (w + j)) * s j i) = sumTo m (fun j => u (w + j) * s j i) + c * sumTo m (fun j => x (w + j) * s j i) := by
      rw [← sumTo_mul, ← sumTo_add]
      exact sumTo_eq fun j _ => by rw [Int.add_mul, Int.mul_assoc]
    have e4 := dvMul c (k x hs i hi)
    rw [Int.mul_sub] at e4
    rw [e3] at e2
    exact dvOf (dvSub (dvAdd (dvAdd e1 (ih i hi)) e4) e2) (by omega)
theorem Sp.swap {p : Int} {w : Nat} {S T : V → Prop} {v : V} (k : ∀ x, S x → ∃ y, T y ∧ ∀ i, i < w → y i = x i) (h : Sp p w S v) : Sp p w T v :=
  h.trans fun x hx => by
    obtain ⟨y, hy, e⟩ := k x hx
    exact (Sp.mem hy).congr fun i hi => dvOf (dv0 p) (by rw [e i hi]; omega)
theorem pre_swap {p : Int} {w m k : Nat} {s s' : Nat → V} (hk : k ≤ m) (e : ∀ j, j < m → ∀ i, i < w → s' j i = s j i) {v : V} (h : Sp p w (Pre s k) v) : Sp p w (Pre s' k) v :=
  h.swap fun x ⟨j, hj, q⟩ => by subst q; exact ⟨s' j, ⟨j, hj, rfl⟩, e j (by omega)⟩
theorem tk_swap {p : Int} {w m k : Nat} {s s' : Nat → V} (hk : k < m) (e : ∀ j, j < m → ∀ i, i < w → s' j i = s j i) (h : Tk p w s k) : Tk p w s' k := fun q =>
  h ((pre_swap (s := s') (s' := s) (by omega) (fun j hj i hi => (e j hj i hi).symm) q).congr fun i hi => dvOf (dv0 p) (by rw [e k hk i hi]; omega))
theorem Made.swap {p : Int} {w m : Nat} {s s' : Nat → V} {t : V} {c : Nat → Int} (e : ∀ j, j < m → ∀ i, i < w → s' j i = s j i) (h : Made p w m s t c) : Made p w m s' t c where
  z k hk ht := h.z k hk fun q => ht (tk_swap hk e q)
  e i hi := by
    rw [sumTo_eq (g := fun k => c k * s k i) fun k hk => by rw [e k hk i hi]]
    exact h.e i hi
end Lin

/-! how many things stand alone: no more than there are to make them of -/
namespace Lin
def Ind (p : Int) (w n : Nat) (c : Nat → V) : Prop := ∀ e : Nat → Int, (∀ i, i < w → p ∣ sumTo n (fun k => e k * c k i)) → ∀ k, k < n → p ∣ e k
def skip (k0 k : Nat) : Nat := if k < k0 then k else k + 1
theorem sum_skip {f : Nat → Int} {k0 : Nat} : ∀ {n : Nat}, k0 < n + 1 → sumTo (n + 1) f = sumTo n (fun k => f (skip k0 k)) + f k0
  | 0, h => by
    have : k0 = 0 := by omega
    subst this
    rfl
  | n + 1, h => by
    by_cases e : k0 = n + 1
    · subst e
      have h1 : sumTo (n + 1) (fun k => f (skip (n + 1) k)) = sumTo (n + 1) f := sumTo_eq fun k hk => by
        show f (if k < n + 1 then k else k + 1) = f k
        rw [if_pos hk]
      show sumTo (n + 1) f + f (n + 1) = _
      rw [h1]
    · have ih := sum_skip (f := f) (k0 := k0) (n := n) (by omega)
      show sumTo (n + 1) f + f (n + 1) = (sumTo n (fun k => f (skip k0 k)) + f (skip k0 n)) + f k0
      rw [ih]
      have : skip k0 n = n + 1 := by
        show (if n < k0 then n else n + 1) = _
        rw [if_neg (by omega)]
      rw [this]
      omega
theorem pre_split {p : Int} {w m : Nat} {b : Nat → V} {v : V} (h : Sp p w (Pre b (m + 1)) v) : ∃ c u, Sp p w (Pre b m) u ∧ ∀ i, i < w → p ∣ v i - (u i + c * b m i) :=
  Sp.split (h.mono fun x ⟨j, hj, e⟩ => by
    by_cases z : j = m
    · subst z; exact .inl e
    · exact .inr ⟨j, by omega, e⟩)
theorem steinitz {p : Int} {w : Nat} (hp : 1 < p) (inv : ∀ a : Int, ¬ p ∣ a → ∃ b, p ∣ b * a - 1) : ∀ (m : Nat) (b : Nat → V) (n : Nat) (c : Nat → V), Ind p w n c → (∀ k, k < n → Sp p w (Pre b m) (c k)) → n ≤ m
  | 0, b, n, c, hI, hS => by
    apply Classical.byContradiction
    intro hn
    have h0 : 0 < n := by omega
    have hz : ∀ i, i < w → p ∣ c 0 i := fun i hi => (hS 0 h0).at0 hi fun s ⟨j, hj, _⟩ => absurd hj (Nat.not_lt_zero _)
    have := hI (fun k => if k = 0 then 1 else 0) (fun i hi => sumTo_dv fun k hk => by
      by_cases e : k = 0
      · subst e
        show p ∣ (if 0 = 0 then 1 else 0) * c 0 i
        rw [if_pos rfl, Int.one_mul]
        exact hz i hi
      · show p ∣ (if k = 0 then 1 else 0) * c k i
        rw [if_neg e, Int.zero_mul]
        exact dv0 p) 0 h0
    have h1 : p ∣ 1 := this
    have := Int.le_of_dvd (by decide) h1
    omega
  | m + 1, b, n, c, hI, hS => by
    have hex : ∀ k : Nat, ∃ au : Int × V, k < n → Sp p w (Pre b m) au.2 ∧ ∀ i, i < w → p ∣ c k i - (au.2 i + au.1 * b m i) := fun k => by
      by_cases hk : k < n
      · obtain ⟨a, u, h1, h2⟩ := pre_split (hS k hk)
        exact ⟨(a, u), fun _ => ⟨h1, h2⟩⟩
      · exact ⟨(0, fun _ => 0), fun h => absurd h hk⟩
    obtain ⟨au, hau⟩ := Classical.axiomOfChoice hex
    by_cases hall : ∀ k, k < n → p ∣ (au k).1
    · have := steinitz hp inv m b n c hI fun k hk => (hau k hk).1.congr fun i hi => dvOf (dvAdd ((hau k hk).2 i hi) (dvMul (b m i) (hall k hk))) (by rw [Int.mul_comm (b m i)]; omega)
      omega
    · obtain ⟨k0, hk0⟩ := Classical.not_forall.mp hall
      obtain ⟨hk0, hna⟩ := Classical.not_imp.mp hk0
      obtain ⟨t, ht⟩ := inv _ hna
      obtain ⟨n', rfl⟩ : ∃ n', n = n' + 1 := ⟨n - 1, by omega⟩
      have hsk : ∀ k, k < n' → skip k0 k < n' + 1 ∧ skip k0 k ≠ k0 := fun k hk => by
        unfold skip
        split <;> omega
      have := steinitz (w := w) hp inv m b n' (fun k i => c (skip k0 k) i - (au (skip k0 k)).1 * t * c k0 i) ?_ ?_
      · omega
      · intro e he k hk
        let e2 : Nat → Int := fun j => if j = k0 then - sumTo n' (fun k => e k * ((au (skip k0 k)).1 * t)) else if j < k0 then e j else e (j - 1)
        have hes : ∀ k, k < n' → e2 (skip k0 k) = e k := fun k hk => by
          show (if skip k0 k = k0 then _ else if skip k0 k < k0 then e (skip k0 k) else e (skip k0 k - 1)) = e k
          rw [if_neg (hsk k hk).2]
          unfold skip
          by_cases z : k < k0
          · rw [if_pos z, if_pos z]
          · rw [if_neg z, if_neg (by omega)]
            rfl
        have h0 : e2 k0 = - sumTo n' (fun k => e k * ((au (skip k0 k)).1 * t)) := if_pos rfl
        have hr := hI e2 (fun i hi => by
          have h1 := he i hi
          rw [sum_skip (k0 := k0) (by omega)]
          have h2 : sumTo n' (fun k => e2 (skip k0 k) * c (skip k0 k) i) = sumTo n' (fun k => e k * c (skip k0 k) i) := sumTo_eq fun k hk => by rw [hes k hk]
          rw [h2, h0]
          have h3 : sumTo n' (fun k => e k * (c (skip k0 k) i - (au (skip k0 k)).1 * t * c k0 i)) = sumTo n' (fun k => e k * c (skip k0 k) i) - c k0 i * sumTo n' (fun k => e k * ((au (skip k0 k)).1 * t)) := by
            rw [← sumTo_mul, ← sumTo_sub]
            exact sumTo_eq fun k hk => by rw [Int.mul_sub, ← Int.mul_assoc (e k), Int.mul_comm (c k0 i)]
          rw [h3] at h1
          exact dvOf h1 (by rw [Int.neg_mul, Int.mul_comm (c k0 i)]; omega)) (skip k0 k) (hsk k hk).1
        rw [hes k hk] at hr
        exact hr
      · intro k hk
        have h1 := hau (skip k0 k) (hsk k hk).1
        have h2 := hau k0 hk0
        refine (Sp.sum h1.1 (Sp.smul (-((au (skip k0 k)).1 * t)) h2.1)).congr fun i hi => ?_
        have a1 := h1.2 i hi
        have a2 := dvMul ((au (skip k0 k)).1 * t) (h2.2 i hi)
        have a3 := dvMul ((au (skip k0 k)).1 * b m i) ht
        show p ∣ (c (skip k0 k) i - (au (skip k0 k)).1 * t * c k0 i) - ((au (skip k0 k)).2 i + -((au (skip k0 k)).1 * t) * (au k0).2 i)
        generalize (au (skip k0 k)).1 = a at *
        generalize (au k0).1 = a0 at *
        generalize (au (skip k0 k)).2 i = u1 at *
        generalize (au k0).2 i = u0 at *
        generalize c (skip k0 k) i = c1 at *
        generalize c k0 i = c0 at *
        generalize b m i = bm at *
        have e1 : a * t * (c0 - (u0 + a0 * bm)) = a * t * c0 - a * t * u0 - a * t * (a0 * bm) := by rw [Int.mul_sub, Int.mul_add]; omega
        have e2 : a * bm * (t * a0 - 1) = a * t * (a0 * bm) - a * bm := by
          rw [Int.mul_sub, Int.mul_one]
          congr 1
          rw [Int.mul_assoc, Int.mul_assoc, Int.mul_left_comm bm, Int.mul_comm bm]
        rw [e1] at a2
        rw [e2] at a3
        rw [Int.neg_mul]
        exact dvOf (dvSub (dvSub a1 a2) a3) (by omega)
/-- staggered rows stand alone -/
theorem stag_ind {p : Int} {w : Nat} : ∀ {rows : List (Nat × V)}, Stag p rows → (∀ a ∈ rows, a.1 < w) → Ind p w rows.length (fun k => (rows.getD k (0, fun _ => 0)).2)
  | [], _, _ => fun e _ k hk => absurd hk (Nat.not_lt_zero _)
  | (q, r) :: rest, ⟨h1, h0, hs⟩, hq => by
    intro e he
    have hqw : q < w := hq (q, r) (by simp)
    have hsum : ∀ i, sumTo (rest.length + 1) (fun k => e k * (((q, r) :: rest).getD k (0, fun _ => 0)).2 i) = sumTo rest.length (fun k => e (k + 1) * (rest.getD k (0, fun _ => 0)).2 i) + e 0 * r i := fun i => by
      rw [sum_skip (k0 := 0) (by omega)]
      rfl
    have hz : p ∣ sumTo rest.length (fun k => e (k + 1) * (rest.getD k (0, fun _ => 0)).2 q) := sumTo_dv fun k hk => dvMul _ (h0 _ (by
      rw [List.getD_eq_getElem?_getD, List.getElem?_eq_getElem hk]
      exact List.getElem_mem hk))
    have he0 : p ∣ e 0 := by
      have := he q hqw
      rw [List.length_cons, hsum] at this
      have a := dvMul (e 0) h1
      rw [Int.mul_sub] at a
      exact dvOf (dvSub (dvSub this hz) a) (by omega)
    intro k hk
    cases k with
    | zero => exact he0
    | succ k =>
      refine stag_ind hs (fun a ha => hq a (List.mem_cons_of_mem _ ha)) (fun k => e (k + 1)) (fun i hi => ?_) k (by simpa using hk)
      have := he i hi
      rw [List.length_cons, hsum] at this
      show p ∣ sumTo rest.length (fun k => e (k + 1) * (rest.getD k (0, fun _ => 0)).2 i)
      exact dvOf (dvSub this (dvOf (dvMul (r i) he0) (Int.mul_comm _ _))) (by omega)
theorem rs_pre {rows : List (Nat × V)} : ∀ x, RS rows x ↔ Pre (fun k => (rows.getD k (0, fun _ => 0)).2) rows.length x := fun x => by
  constructor
  · rintro ⟨q, h⟩
    obtain ⟨j, hj, e⟩ := List.getElem_of_mem h
    exact ⟨j, hj, by show x = (rows.getD j (0, fun _ => 0)).2; rw [List.getD_eq_getElem?_getD, List.getElem?_eq_getElem hj, e]; rfl⟩
  · rintro ⟨j, hj, e⟩
    refine ⟨(rows[j]).1, ?_⟩
    have e : x = (rows.getD j (0, fun _ => 0)).2 := e
    rw [List.getD_eq_getElem?_getD, List.getElem?_eq_getElem hj] at e
    rw [e]
    exact List.getElem_mem hj
/-- as many rows, whichever make the same -/
theorem stag_le {p : Int} {w : Nat} (hp : 1 < p) (inv : ∀ a : Int, ¬ p ∣ a → ∃ b, p ∣ b * a - 1) {A B : List (Nat × V)} (hA : Stag p A) (hqA : ∀ a ∈ A, a.1 < w) (h : ∀ x, RS A x → Sp p w (RS B) x) : A.length ≤ B.length :=
  steinitz hp inv B.length (fun k => (B.getD k (0, fun _ => 0)).2) A.length _ (stag_ind hA hqA) fun k hk => (h _ ((rs_pre _).mpr ⟨k, hk, rfl⟩)).mono fun x hx => (rs_pre x).mp hx
end Lin

namespace Ev
open PySem L2
/-- the tape -/
def hd (g : List Int) (i a b t : Int) : List D := [.lst (g.map D.int), .int i, .int a, .int b, .int t]
def Tape (g : List Int) (h : List D) : Prop := ∃ i a b t : Int, h = hd g i a b t ∧ 0 ≤ i ∧ 0 ≤ a
def dEnv (h : List D) (m : Int) (x y z : Slot) : Env := ⟨[.ow h, .sh (.int m), x, y, z], [.att, .un]⟩
theorem fMod_ok {i j : Int} (h : 0 < j) : fMod [.int i, .int j] = some (.d (.int (i % j))) := by
  have e : modOk i j = true := by unfold modOk; simp [h]
  show (if modOk i j then _ else none) = _
  rw [if_pos e]
theorem fDiv_ok {i j : Int} (h : 0 < j) (h2 : j < 1073741824) : fDiv [.int i, .int j] = some (.d (.int (i / j))) := by
  have e : divOk i j = true := by unfold divOk; simp [h, h2]
  show (if divOk i j then _ else none) = _
  rw [if_pos e]
theorem atI_map {g : List Int} {i : Int} (h0 : 0 ≤ i) (h1 : i < ((g.map D.int).length : Int)) : ∃ x, x ∈ g ∧ fIx [.lst (g.map D.int), .int i] = some (.d (.int x)) := by
  rw [List.length_map] at h1
  have hn : i.toNat < g.length := by omega
  refine ⟨g[i.toNat], List.getElem_mem hn, ?_⟩
  have e : atI (g.map D.int) i = some (.int g[i.toNat]) := by
    unfold atI ixN
    rw [if_pos h0, List.length_map, if_pos h1]
    show (g.map D.int)[i.toNat]? = _
    rw [List.getElem?_map, List.getElem?_eq_getElem hn]
    rfl
  show (match atI (g.map D.int) i with | some d => some (RB.d d) | none => none) = _
  rw [e]
def DrawEnd (g : List Int) (m : Int) (b : B) (ρ : Env) : Prop := ∃ r ρ', retB ρ b = some (r, ρ') ∧ ∃ k h', r = .d (.int k) ∧ ρ'.outs = [.ow h', .un] ∧ 0 ≤ k ∧ k < m ∧ Tape g h'
end Ev

namespace Ev
open PySem L2
theorem atI_nat {α : Type} {xs : List α} {k : Int} (h0 : 0 ≤ k) (h1 : k < (xs.length : Int)) : ∃ x, x ∈ xs ∧ xs[k.toNat]? = some x ∧ atI xs k = some x := by
  have hn : k.toNat < xs.length := by omega
  refine ⟨xs[k.toNat], List.getElem_mem hn, List.getElem?_eq_getElem hn, ?_⟩
  unfold atI ixN
  rw [if_pos h0, if_pos h1]
  exact List.getElem?_eq_getElem hn
/-- a slot that is read as the items xs -/
inductive Seq (xs : List D) : Slot → Prop
  | ow : Seq xs (.ow xs)
  | lst : Seq xs (.sh (.lst xs))
  | tup : Seq xs (.sh (.tup xs))
def Slot.after : Slot → Slot
  | .ow xs => .ow xs
  | _ => .un
end Ev

namespace Ev
open PySem L2
def absI (i : Int) : Int := if i < 0 then -i else i
theorem get_map {α : Type} {f : Int → α} {ns : List Int} {j : Nat} {x : α} (h : (ns.map f)[j]? = some x) : ∃ i, ns[j]? = some i ∧ x = f i := by
  rw [List.getElem?_map] at h
  cases e : ns[j]? with
  | none => rw [e] at h; cases h
  | some i => rw [e] at h; cases h; exact ⟨i, rfl, rfl⟩
theorem cut63 {xs : List D} (hl : xs.length ≤ 63) : fCutH [.ro xs, .int 63] = some (.nw xs) := by
  show some (RB.nw (cutD xs none (some 63))) = _
  have e : HT.sIx xs.length xs.length (some 63) = xs.length := by
    show (if (63 : Int) < 0 then ((63 : Int) + (xs.length : Int)).toNat else min (63 : Int).toNat xs.length) = _
    rw [if_neg (by decide)]
    show min 63 xs.length = _
    omega
  unfold cutD
  rw [e]
  simp [HT.sIx]
end Ev

namespace Ev
open PySem L2
theorem integer_ok (i : Int) : F_is_integer [.sh (.int i)] = .ok (.d (.bl true)) [.un] := rfl
theorem within_ok (a b i : Int) : WF (F_is_within [.sh (.int a), .sh (.int b), .sh (.int i)]) fun r o => r = .d (.bl (decide (a ≤ i) && decide (i ≤ b))) ∧ o = [.un, .un, .un] := by
  refine wf_fn (ws_cons (ws_ret (we_and (W.of (a := .d (.bl true)) (ρ := ⟨[.sh (.int a), .sh (.int b), .sh (.int i)], [.un, .un, .un]⟩) rfl ⟨true, rfl, fun _ => w_chain ?_, fun z => absurd z (by decide)⟩))))
  refine W.of (a := .d (.int a)) (ρ := ⟨[.sh (.int a), .sh (.int b), .sh (.int i)], [.un, .un, .un]⟩) rfl (W.of (a := .d (.int i)) (ρ := ⟨[.sh (.int a), .sh (.int b), .sh (.int i)], [.un, .un, .un]⟩) rfl ⟨_, _, decide (a ≤ i), rfl, rfl, rfl, fun h => ?_, fun h => ?_⟩)
  · exact ⟨_, _, rfl, by rw [h]; rfl, rfl⟩
  · exact W.of (a := .d (.int b)) (ρ := ⟨[.sh (.int a), .sh (.int b), .sh (.int i)], [.un, .un, .un]⟩) rfl ⟨_, _, .d (.bl (decide (i ≤ b))), rfl, rfl, rfl, _, _, rfl, by rw [h]; rfl, rfl⟩
/-- the primes that are drawn -/
def primes : List Int := [2, 2, 2, 3, 3, 3, 5, 5, 7, 11, 13, 31, 97, 251]
def okT : FRes → Bool
  | .ok (.d (.bl true)) [.un] => true
  | _ => false
theorem okT_eq {r : FRes} (h : okT r = true) : r = .ok (.d (.bl true)) [.un] := by
  unfold okT at h
  split at h
  · rfl
  · cases h
theorem prime_ok (p : Int) (hp : p ∈ primes) : F_is_prime [.sh (.int p)] = .ok (.d (.bl true)) [.un] := by
  have h : (primes.all fun p => okT (F_is_prime [.sh (.int p)])) = true := by decide +kernel
  exact okT_eq (List.all_eq_true.mp h p hp)
end Ev

namespace Ev
open PySem L2
def Rg (p : Int) (v : List Int) : Prop := ∀ x ∈ v, 0 ≤ x ∧ x < p
def co (v : List Int) : Lin.V := fun i => v.getD i 0
/-- a row and another one so many times -/
def lin (p k : Int) (a b : List Int) : List Int := List.zipWith (fun x y => (x + k * y) % p) a b
theorem zip_vec_len (a b : List Int) : (zipD (vec a) (vec b)).length = min a.length b.length := by rw [zipD_length, vec_len, vec_len]
theorem zip_vec {a b : List Int} {j : Nat} {x : D} (h : (zipD (vec a) (vec b))[j]? = some x) : j < a.length ∧ j < b.length ∧ x = .tup [.int (a.getD j 0), .int (b.getD j 0)] := by
  obtain ⟨u, v, h1, h2, rfl⟩ := zipD_get _ _ _ _ h
  obtain ⟨g1, rfl⟩ := vec_get h1
  obtain ⟨g2, rfl⟩ := vec_get h2
  exact ⟨g1, g2, rfl⟩
theorem lin_len (p k : Int) (a b : List Int) : (lin p k a b).length = min a.length b.length := by unfold lin; rw [List.length_zipWith]
theorem getD_lt {v : List Int} {j : Nat} (h : j < v.length) : v.getD j 0 = v[j] := by rw [List.getD_eq_getElem?_getD, List.getElem?_eq_getElem h]; rfl
theorem lin_at {p k : Int} {a b : List Int} {j : Nat} (h1 : j < a.length) (h2 : j < b.length) : (lin p k a b).getD j 0 = (a.getD j 0 + k * b.getD j 0) % p := by
  rw [getD_lt (by rw [lin_len]; omega), getD_lt h1, getD_lt h2]
  unfold lin
  rw [List.getElem_zipWith]
theorem Rg.at {p : Int} {v : List Int} (h : Rg p v) {j : Nat} (hj : j < v.length) : 0 ≤ v.getD j 0 ∧ v.getD j 0 < p := by
  rw [getD_lt hj]
  exact h _ (List.getElem_mem hj)
theorem lin_rg {p k : Int} {a b : List Int} (hp : 0 < p) : Rg p (lin p k a b) := by
  intro x hx
  obtain ⟨j, hj, rfl⟩ := List.mem_iff_getElem.mp hx
  rw [← getD_lt hj]
  rw [lin_len] at hj
  rw [lin_at (by omega) (by omega)]
  exact ⟨Int.emod_nonneg _ (by omega), Int.emod_lt_of_pos _ hp⟩
end Ev

namespace Ev
open PySem L2
def okI (p v : Int) : FRes → Bool
  | .ok (.d (.int t)) [.un, .un] => decide (0 < t) && decide (t < p) && decide ((t * v) % p = 1)
  | _ => false
theorem okI_eq {p v : Int} {r : FRes} (h : okI p v r = true) : ∃ t : Int, r = .ok (.d (.int t)) [.un, .un] ∧ 0 < t ∧ t < p ∧ (t * v) % p = 1 := by
  unfold okI at h
  split at h
  · rename_i t
    simp only [Bool.and_eq_true, decide_eq_true_eq] at h
    exact ⟨t, rfl, h.1.1, h.1.2, h.2⟩
  · cases h
def allI (f : Int → Int → Bool) : Bool := [2, 3, 5, 7, 11, 13, 31, 97, 251].all fun p : Nat => (List.range p).all fun v => v == 0 || f p v
theorem allI_at {f : Int → Int → Bool} (h : allI f = true) {p v : Int} (hp : p ∈ primes) (h0 : 0 < v) (h1 : v < p) : f p v = true := by
  have hp' : p.toNat ∈ [2, 3, 5, 7, 11, 13, 31, 97, 251] ∧ 0 ≤ p := by
    unfold primes at hp
    simp only [List.mem_cons, List.not_mem_nil, or_false] at hp
    rcases hp with rfl | rfl | rfl | rfl | rfl | rfl | rfl | rfl | rfl | rfl | rfl | rfl | rfl | rfl <;> decide
  have h2 := List.all_eq_true.mp (List.all_eq_true.mp h p.toNat hp'.1) v.toNat (List.mem_range.mpr (by omega))
  rw [Int.toNat_of_nonneg hp'.2, Int.toNat_of_nonneg (by omega)] at h2
  rcases Bool.or_eq_true _ _ |>.mp h2 with h3 | h3
  · have := eq_of_beq h3
    omega
  · exact h3
theorem inverse_ok {p v : Int} (hp : p ∈ primes) (h0 : 0 < v) (h1 : v < p) : ∃ t : Int, F_inverse [.sh (.int p), .sh (.int v)] = .ok (.d (.int t)) [.un, .un] ∧ 0 < t ∧ t < p ∧ (t * v) % p = 1 :=
  okI_eq (allI_at (f := fun p v => okI p v (F_inverse [.sh (.int p), .sh (.int v)])) (by decide +kernel) hp h0 h1)
end Ev

namespace Ev
open PySem L2
/-- those that make 1 with v -/
def ones (p v : Int) : List Int := (List.range (p.toNat - 1)).filterMap fun i : Nat => if ((i : Int) + 1) * v % p = 1 then some ((i : Int) + 1) else none
theorem ones_ne {p v : Int} (hp : p ∈ primes) (h0 : 0 < v) (h1 : v < p) : ∃ t r, ones p v = t :: r ∧ 0 < t ∧ t < p ∧ (t * v) % p = 1 := by
  have h := allI_at (f := fun p v => (List.range (p.toNat - 1)).any fun i : Nat => decide (((i : Int) + 1) * v % p = 1)) (by decide +kernel) hp h0 h1
  obtain ⟨i, hi, e⟩ := List.any_eq_true.mp h
  have e := of_decide_eq_true e
  have hm : (i : Int) + 1 ∈ ones p v := List.mem_filterMap.mpr ⟨i, hi, by rw [if_pos e]⟩
  cases q : ones p v with
  | nil => rw [q] at hm; cases hm
  | cons t r =>
    have ht : t ∈ ones p v := by rw [q]; simp
    obtain ⟨j, hj, ej⟩ := List.mem_filterMap.mp ht
    have hj := List.mem_range.mp hj
    by_cases hc : ((j : Int) + 1) * v % p = 1
    · rw [if_pos hc] at ej
      cases ej
      exact ⟨_, r, rfl, by omega, by omega, hc⟩
    · rw [if_neg hc] at ej
      cases ej
end Ev

namespace Ev
open PySem L2
def B.isLoc : B → Bool
  | .loc _ => true
  | _ => false
theorem bnd_free {ρ : Env} {i : Nat} {x s : Slot} (h : ρ.o[i]? = none) (h2 : ρ.v[i]? = some s) : ρ.bnd i x = some { ρ with v := ρ.v.set i x } := by
  unfold Env.bnd
  rw [h, h2]
  cases s <;> rfl
theorem bnd_un {ρ : Env} {i : Nat} {x s : Slot} (h : ρ.o[i]? = some .un) (h2 : ρ.v[i]? = some s) : ρ.bnd i x = some { ρ with v := ρ.v.set i x } := by
  unfold Env.bnd
  rw [h, h2]
  cases s <;> rfl
theorem set_t2 {ρ : Env} {i j : Nat} {x y : D} {s t : Slot} (h : ρ.o[i]? = none) (h2 : ρ.v[i]? = some s) (g : ρ.o[j]? = none) (g2 : (ρ.v.set i (.sh x))[j]? = some t) : (Tg.t [i, j]).set ρ (.tup [x, y]) = some ⟨(ρ.v.set i (.sh x)).set j (.sh y), ρ.o⟩ := by
  show bndAll ρ [i, j] [x, y] = _
  unfold bndAll
  rw [bnd_free h h2]
  show bndAll _ [j] [y] = _
  unfold bndAll
  rw [bnd_free (ρ := ⟨ρ.v.set i (.sh x), ρ.o⟩) g g2]
  rfl
section
variable {ρ : Env} {nx : Env → Prop} {rt : B → Env → Prop} {bk : Env → Prop}
/-- x = e, e no list of a variable -/
theorem ws_asgV {i : Nat} {e : E} (h : W (evE e ρ) fun b ρ1 => b.isLoc = false ∧ ∃ ρ3, bindB ρ1 i b = some ρ3 ∧ nx ρ3) : WS (evS (.asg (.n i) e) ρ) nx rt bk :=
  ws_asg (W.mono h fun b ρ1 ⟨h1, ρ3, h2, h3⟩ => by
    cases b with
    | d x => exact ⟨_, _, ρ3, rfl, h2, h3⟩
    | nw x => exact ⟨_, _, ρ3, rfl, h2, h3⟩
    | loc j => cases h1)
end
/-- rows with their places -/
def rowsD (rows : List (Nat × List Int)) : List D := rows.map fun a => .tup [.int (a.1 : Int), .lst (vec a.2)]
def absR (rows : List (Nat × List Int)) : List (Nat × Lin.V) := rows.map fun a => (a.1, co a.2)
def sub (p k : Int) (a b : List Int) : List Int := List.zipWith (fun x y => (x - k * y) % p) a b
theorem sub_len (p k : Int) (a b : List Int) : (sub p k a b).length = min a.length b.length := by unfold sub; rw [List.length_zipWith]
theorem sub_at {p k : Int} {a b : List Int} {j : Nat} (h1 : j < a.length) (h2 : j < b.length) : (sub p k a b).getD j 0 = (a.getD j 0 - k * b.getD j 0) % p := by
  rw [getD_lt (by rw [sub_len]; omega), getD_lt h1, getD_lt h2]
  unfold sub
  rw [List.getElem_zipWith]
theorem sub_rg {p k : Int} {a b : List Int} (hp : 0 < p) : Rg p (sub p k a b) := by
  intro x hx
  obtain ⟨j, hj, rfl⟩ := List.mem_iff_getElem.mp hx
  rw [← getD_lt hj]
  rw [sub_len] at hj
  rw [sub_at (by omega) (by omega)]
  exact ⟨Int.emod_nonneg _ (by omega), Int.emod_lt_of_pos _ hp⟩
theorem dv_mod (p x : Int) : p ∣ x % p - x := ⟨-(x / p), by have := Int.emod_add_mul_ediv x p; rw [Int.mul_neg]; omega⟩
theorem rowsD_get {rows : List (Nat × List Int)} {j : Nat} {x : D} (h : (rowsD rows)[j]? = some x) : ∃ a, rows[j]? = some a ∧ x = .tup [.int (a.1 : Int), .lst (vec a.2)] := by
  unfold rowsD at h
  rw [List.getElem?_map] at h
  cases e : rows[j]? with
  | none => rw [e] at h; cases h
  | some a => rw [e] at h; cases h; exact ⟨a, rfl, rfl⟩
theorem take_succ_of {α : Type} {xs : List α} {j : Nat} {a : α} (h : xs[j]? = some a) : xs.take (j + 1) = xs.take j ++ [a] := by
  rw [List.take_add_one, h]
  rfl
structure Rows (p : Int) (W : Nat) (rows : List (Nat × List Int)) : Prop where
  g : ∀ a ∈ rows, a.1 < W ∧ a.2.length = W ∧ Rg p a.2
  s : Lin.Stag p (absR rows)
theorem absR_mem {rows : List (Nat × List Int)} {b : Nat × Lin.V} (h : b ∈ absR rows) : ∃ a ∈ rows, b = (a.1, co a.2) := by
  obtain ⟨a, ha, rfl⟩ := List.mem_map.mp h
  exact ⟨a, ha, rfl⟩
theorem stag_take {p : Int} : ∀ {rows : List (Nat × List Int)} {j : Nat} {a : Nat × List Int}, Lin.Stag p (absR rows) → rows[j]? = some a → p ∣ co a.2 a.1 - 1 ∧ ∀ b ∈ absR (rows.take j), p ∣ co a.2 b.1
  | b :: rows, 0, a, h, e => by
    cases e
    exact ⟨h.1, fun _ h => by cases h⟩
  | b :: rows, j + 1, a, h, e => by
    obtain ⟨h1, h2⟩ := stag_take h.2.2 (j := j) (by simpa using e)
    refine ⟨h1, fun c hc => ?_⟩
    rcases List.mem_cons.mp hc with rfl | hc
    · exact h.2.1 (a.1, co a.2) (List.mem_map.mpr ⟨a, List.mem_of_getElem? (by simpa using e), rfl⟩)
    · exact h2 c hc
def redFS (p : Int) (n : Nat) (R : List D) (L : Slot) (d : D) (u : List Int) (pl rw tm : Slot) : Env := ⟨[.sh (.int p), L, .sh d, .ow (vec u), pl, rw, tm, .un, .un], [.un, .att, .un]⟩
theorem reducedS_ok {p : Int} {n : Nat} {rows : List (Nat × List Int)} {v : List Int} {d : D} (hd : d = .lst (vec v) ∨ d = .tup (vec v)) (hp : 1 < p) (hp2 : p < 1000) (hW : n ≤ 1000) (hr : Rows p n rows) (hv : v.length = n) (hR : Rg p v) :
    WF (F_reduced [.sh (.int p), .ow (rowsD rows), .sh d]) fun r o => ∃ u, r = .nw (vec u) ∧ o = [.un, .ow (rowsD rows), .un] ∧ u.length = n ∧ Rg p u ∧ Lin.Red p n (absR rows) (co v) (co u) := by
  refine wf_fn (ws_cons (ws_asgV (w_prim (W.of rfl ⟨_, _, rfl, (by rcases hd with rfl | rfl <;> rfl), rfl, redFS p n (rowsD rows) (.ow (rowsD rows)) d v .un .un .un, rfl, ?_⟩))))
  refine ws_cons (ws_for (W.of (a := [.loc 1]) (ρ := redFS p n (rowsD rows) (.ow (rowsD rows)) d v .un .un .un) rfl ⟨_, rowsD rows, rfl, rfl, fun j ρ => ∃ u pl rw tm, ρ = redFS p n (rowsD rows) (.lk (rowsD rows)) d u pl rw tm ∧ u.length = n ∧ Rg p u ∧ Lin.Red p n (absR (rows.take j)) (co v) (co u), ⟨v, .un, .un, .un, rfl, hv, hR, Lin.red_nil⟩, ?_, ?_⟩))
  · rintro j x ρ2 hx ⟨u, pl, rw, tm, rfl, hu, hUR, hRed⟩
    obtain ⟨a, ha, rfl⟩ := rowsD_get hx
    obtain ⟨q, r⟩ := a
    obtain ⟨hq, hrl, hrr⟩ := hr.g _ (List.mem_of_getElem? ha)
    have hq : q < n := hq
    have hrl : r.length = n := hrl
    obtain ⟨hone, hz⟩ := stag_take hr.s ha
    have hstep : ∀ {x : List Int}, (∀ i, i < n → p ∣ co x i - (co u i - co u q * co r i)) → Lin.Red p n (absR (rows.take (j + 1))) (co v) (co x) := fun {x} e => by
      have := Lin.red_step hRed hz hone hq (fun b hb => by
        obtain ⟨c, hc, rfl⟩ := absR_mem hb
        exact (hr.g c (List.mem_of_mem_take hc)).1) e
      rw [take_succ_of ha]
      unfold absR at this ⊢
      rw [List.map_append]
      exact this
    generalize hqi : (q : Int) = qi
    refine ⟨redFS p n (rowsD rows) (.lk (rowsD rows)) d u (.sh (.int qi)) (.sh (.lst (vec r))) tm, set_t2 rfl rfl rfl rfl, ?_⟩
    refine ws_cons (ws_asgV (w_prim (W.of (a := [.loc 3, .d (.int qi)]) (ρ := redFS p n (rowsD rows) (.lk (rowsD rows)) d u (.sh (.int qi)) (.sh (.lst (vec r))) tm) rfl ⟨_, .d (.int (u.getD q 0)), rfl, (by rw [← hqi]; exact ix_lst (vec_at (by rw [hu]; exact hq))), rfl, redFS p n (rowsD rows) (.lk (rowsD rows)) d u (.sh (.int qi)) (.sh (.lst (vec r))) (.sh (.int (u.getD q 0))), bnd_free rfl rfl, ?_⟩)))
    have hk := hUR.at (j := q) (by omega)
    generalize hkk : u.getD q 0 = k at hk
    refine ws_cons (ws_ite (wt_eb (w_prim (W.of (a := [.d (.int k), .d (.int 0)]) (ρ := redFS p n (rowsD rows) (.lk (rowsD rows)) d u (.sh (.int qi)) (.sh (.lst (vec r))) (.sh (.int k))) rfl ⟨_, _, rfl, ne_int _ _, _, rfl, fun h => ?_, fun h => ?_⟩))))
    · have core : ∀ (j : Nat) (x y : D), (zipD (vec u) (vec r))[j]? = some x → (vec (sub p k u r))[j]? = some y → ∃ ρ3, (Tg.t [7, 8]).set ⟨[.sh (.int p), .lk (rowsD rows), .sh d, .lk (vec u), .sh (.int qi), .sh (.lst (vec r)), .sh (.int k), .un, .un], [.un, .att, .un]⟩ x = some ρ3 ∧ W (evE (.prim fMod (.cons (.prim fSub (.cons (.var 7) (.cons (.prim fMul (.cons (.var 6) (.cons (.var 8) .nil))) .nil))) (.cons (.var 0) .nil))) ρ3) fun b ρ5 => ∃ ρ6, b.keep ρ5 = some (y, ρ6) ∧ wipeE ρ6 [7, 8] = ⟨[.sh (.int p), .lk (rowsD rows), .sh d, .lk (vec u), .sh (.int qi), .sh (.lst (vec r)), .sh (.int k), .un, .un], [.un, .att, .un]⟩ := fun j x y hx hy => by
        obtain ⟨j1, j2, rfl⟩ := zip_vec hx
        obtain ⟨_, rfl⟩ := vec_get hy
        rw [sub_at j1 j2]
        refine ⟨⟨[.sh (.int p), .lk (rowsD rows), .sh d, .lk (vec u), .sh (.int qi), .sh (.lst (vec r)), .sh (.int k), .sh (.int (u.getD j 0)), .sh (.int (r.getD j 0))], [.un, .att, .un]⟩, rfl, ?_⟩
        refine w_prim (wa_cons (w_prim (wa_cons (W.of rfl (wa_cons (w_prim (W.of rfl ⟨_, _, rfl, mul_ok (mulOk_l (by omega) (by omega)), W.of rfl ⟨_, _, rfl, rfl, W.of rfl ⟨_, _, rfl, mod_ok (by omega), _, rfl, rfl⟩⟩⟩)))))))
      refine ws_cons (ws_asgV (w_lcm (W.of (a := [.loc 3, .d (.lst (vec r))]) rfl ⟨[.lst (vec u), .lst (vec r)], _, rfl, rfl, ⟨by rw [zip_vec_len, sizeLine_eq]; omega, rfl, rfl⟩, vec (sub p k u r), by rw [zip_vec_len, vec_len, sub_len], core, rfl, redFS p n (rowsD rows) (.lk (rowsD rows)) d (sub p k u r) (.sh (.int qi)) (.sh (.lst (vec r))) (.sh (.int k)), rfl, ?_⟩)))
      refine ws_nil (ws_nil ⟨_, _, _, _, rfl, by rw [sub_len]; omega, sub_rg (by omega), hstep fun i hi => ?_⟩)
      show p ∣ (sub p k u r).getD i 0 - _
      rw [sub_at (by omega) (by omega)]
      show p ∣ (u.getD i 0 - k * r.getD i 0) % p - (u.getD i 0 - u.getD q 0 * r.getD i 0)
      rw [hkk]
      exact dv_mod _ _
    · have hk0 : k = 0 := by simpa using h
      refine ws_nil (ws_nil ⟨u, _, _, _, rfl, hu, hUR, hstep fun i hi => ?_⟩)
      show p ∣ co u i - (co u i - u.getD q 0 * co r i)
      rw [hkk, hk0]
      exact ⟨0, by omega⟩
  · rintro ρ2 ⟨u, pl, rw, tm, rfl, hu, hUR, hRed⟩
    have hl : (rowsD rows).length = rows.length := List.length_map ..
    rw [hl, List.take_length] at hRed
    refine ws_cons (ws_ret (W.of (a := .loc 3) rfl ⟨.nw (vec u), _, rfl, u, rfl, rfl, hu, hUR, hRed⟩))
def redFO (p : Int) (n : Nat) (R : List D) (L : Slot) (v : List Int) (u : List Int) (pl rw tm : Slot) : Env := ⟨[.sh (.int p), L, .ow (vec v), .ow (vec u), pl, rw, tm, .un, .un], [.un, .att, .att]⟩
theorem reducedO_ok {p : Int} {n : Nat} {rows : List (Nat × List Int)} {v : List Int}  (hp : 1 < p) (hp2 : p < 1000) (hW : n ≤ 1000) (hr : Rows p n rows) (hv : v.length = n) (hR : Rg p v) :
    WF (F_reduced [.sh (.int p), .ow (rowsD rows), .ow (vec v)]) fun r o => ∃ u, r = .nw (vec u) ∧ o = [.un, .ow (rowsD rows), .ow (vec v)] ∧ u.length = n ∧ Rg p u ∧ Lin.Red p n (absR rows) (co v) (co u) := by
  refine wf_fn (ws_cons (ws_asgV (w_prim (W.of rfl ⟨_, _, rfl, rfl, rfl, redFO p n (rowsD rows) (.ow (rowsD rows)) v v .un .un .un, rfl, ?_⟩))))
  refine ws_cons (ws_for (W.of (a := [.loc 1]) (ρ := redFO p n (rowsD rows) (.ow (rowsD rows)) v v .un .un .un) rfl ⟨_, rowsD rows, rfl, rfl, fun j ρ => ∃ u pl rw tm, ρ = redFO p n (rowsD rows) (.lk (rowsD rows)) v u pl rw tm ∧ u.length = n ∧ Rg p u ∧ Lin.Red p n (absR (rows.take j)) (co v) (co u), ⟨v, .un, .un, .un, rfl, hv, hR, Lin.red_nil⟩, ?_, ?_⟩))
  · rintro j x ρ2 hx ⟨u, pl, rw, tm, rfl, hu, hUR, hRed⟩
    obtain ⟨a, ha, rfl⟩ := rowsD_get hx
    obtain ⟨q, r⟩ := a
    obtain ⟨hq, hrl, hrr⟩ := hr.g _ (List.mem_of_getElem? ha)
    have hq : q < n := hq
    have hrl : r.length = n := hrl
    obtain ⟨hone, hz⟩ := stag_take hr.s ha
    have hstep : ∀ {x : List Int}, (∀ i, i < n → p ∣ co x i - (co u i - co u q * co r i)) → Lin.Red p n (absR (rows.take (j + 1))) (co v) (co x) := fun {x} e => by
      have := Lin.red_step hRed hz hone hq (fun b hb => by
        obtain ⟨c, hc, rfl⟩ := absR_mem hb
        exact (hr.g c (List.mem_of_mem_take hc)).1) e
      rw [take_succ_of ha]
      unfold absR at this ⊢
      rw [List.map_append]
      exact this
    generalize hqi : (q : Int) = qi
    refine ⟨redFO p n (rowsD rows) (.lk (rowsD rows)) v u (.sh (.int qi)) (.sh (.lst (vec r))) tm, set_t2 rfl rfl rfl rfl, ?_⟩
    refine ws_cons (ws_asgV (w_prim (W.of (a := [.loc 3, .d (.int qi)]) (ρ := redFO p n (rowsD rows) (.lk (rowsD rows)) v u (.sh (.int qi)) (.sh (.lst (vec r))) tm) rfl ⟨_, .d (.int (u.getD q 0)), rfl, (by rw [← hqi]; exact ix_lst (vec_at (by rw [hu]; exact hq))), rfl, redFO p n (rowsD rows) (.lk (rowsD rows)) v u (.sh (.int qi)) (.sh (.lst (vec r))) (.sh (.int (u.getD q 0))), bnd_free rfl rfl, ?_⟩)))
    have hk := hUR.at (j := q) (by omega)
    generalize hkk : u.getD q 0 = k at hk
    refine ws_cons (ws_ite (wt_eb (w_prim (W.of (a := [.d (.int k), .d (.int 0)]) (ρ := redFO p n (rowsD rows) (.lk (rowsD rows)) v u (.sh (.int qi)) (.sh (.lst (vec r))) (.sh (.int k))) rfl ⟨_, _, rfl, ne_int _ _, _, rfl, fun h => ?_, fun h => ?_⟩))))
    · have core : ∀ (j : Nat) (x y : D), (zipD (vec u) (vec r))[j]? = some x → (vec (sub p k u r))[j]? = some y → ∃ ρ3, (Tg.t [7, 8]).set ⟨[.sh (.int p), .lk (rowsD rows), .ow (vec v), .lk (vec u), .sh (.int qi), .sh (.lst (vec r)), .sh (.int k), .un, .un], [.un, .att, .att]⟩ x = some ρ3 ∧ W (evE (.prim fMod (.cons (.prim fSub (.cons (.var 7) (.cons (.prim fMul (.cons (.var 6) (.cons (.var 8) .nil))) .nil))) (.cons (.var 0) .nil))) ρ3) fun b ρ5 => ∃ ρ6, b.keep ρ5 = some (y, ρ6) ∧ wipeE ρ6 [7, 8] = ⟨[.sh (.int p), .lk (rowsD rows), .ow (vec v), .lk (vec u), .sh (.int qi), .sh (.lst (vec r)), .sh (.int k), .un, .un], [.un, .att, .att]⟩ := fun j x y hx hy => by
        obtain ⟨j1, j2, rfl⟩ := zip_vec hx
        obtain ⟨_, rfl⟩ := vec_get hy
        rw [sub_at j1 j2]
        refine ⟨⟨[.sh (.int p), .lk (rowsD rows), .ow (vec v), .lk (vec u), .sh (.int qi), .sh (.lst (vec r)), .sh (.int k), .sh (.int (u.getD j 0)), .sh (.int (r.getD j 0))], [.un, .att, .att]⟩, rfl, ?_⟩
        refine w_prim (wa_cons (w_prim (wa_cons (W.of rfl (wa_cons (w_prim (W.of rfl ⟨_, _, rfl, mul_ok (mulOk_l (by omega) (by omega)), W.of rfl ⟨_, _, rfl, rfl, W.of rfl ⟨_, _, rfl, mod_ok (by omega), _, rfl, rfl⟩⟩⟩)))))))
      refine ws_cons (ws_asgV (w_lcm (W.of (a := [.loc 3, .d (.lst (vec r))]) rfl ⟨[.lst (vec u), .lst (vec r)], _, rfl, rfl, ⟨by rw [zip_vec_len, sizeLine_eq]; omega, rfl, rfl⟩, vec (sub p k u r), by rw [zip_vec_len, vec_len, sub_len], core, rfl, redFO p n (rowsD rows) (.lk (rowsD rows)) v (sub p k u r) (.sh (.int qi)) (.sh (.lst (vec r))) (.sh (.int k)), rfl, ?_⟩)))
      refine ws_nil (ws_nil ⟨_, _, _, _, rfl, by rw [sub_len]; omega, sub_rg (by omega), hstep fun i hi => ?_⟩)
      show p ∣ (sub p k u r).getD i 0 - _
      rw [sub_at (by omega) (by omega)]
      show p ∣ (u.getD i 0 - k * r.getD i 0) % p - (u.getD i 0 - u.getD q 0 * r.getD i 0)
      rw [hkk]
      exact dv_mod _ _
    · have hk0 : k = 0 := by simpa using h
      refine ws_nil (ws_nil ⟨u, _, _, _, rfl, hu, hUR, hstep fun i hi => ?_⟩)
      show p ∣ co u i - (co u i - u.getD q 0 * co r i)
      rw [hkk, hk0]
      exact ⟨0, by omega⟩
  · rintro ρ2 ⟨u, pl, rw, tm, rfl, hu, hUR, hRed⟩
    have hl : (rowsD rows).length = rows.length := List.length_map ..
    rw [hl, List.take_length] at hRed
    refine ws_cons (ws_ret (W.of (a := .loc 3) rfl ⟨.nw (vec u), _, rfl, u, rfl, rfl, hu, hUR, hRed⟩))
end Ev

namespace Ev
open PySem L2
theorem primes_lt {p : Int} (hp : p ∈ primes) : 1 < p ∧ p < 1000 := by
  unfold primes at hp
  simp only [List.mem_cons, List.not_mem_nil, or_false] at hp
  rcases hp with rfl | rfl | rfl | rfl | rfl | rfl | rfl | rfl | rfl | rfl | rfl | rfl | rfl | rfl <;> decide
def mulr (p t : Int) (v : List Int) : List Int := v.map fun x => x * t % p
theorem mulr_len (p t : Int) (v : List Int) : (mulr p t v).length = v.length := List.length_map ..
theorem mulr_at {p t : Int} {v : List Int} {j : Nat} (h : j < v.length) : (mulr p t v).getD j 0 = v.getD j 0 * t % p := by
  rw [getD_lt (by rw [mulr_len]; exact h), getD_lt h]
  unfold mulr
  rw [List.getElem_map]
theorem mulr_rg {p t : Int} {v : List Int} (hp : 0 < p) : Rg p (mulr p t v) := by
  intro x hx
  obtain ⟨y, _, rfl⟩ := List.mem_map.mp hx
  exact ⟨Int.emod_nonneg _ (by omega), Int.emod_lt_of_pos _ hp⟩
/-- what leading tells -/
def Lead (p : Int) (w : Nat) (v : List Int) (r : RB) : Prop := (r = .d .non ∧ ∀ i, i < w → v.getD i 0 = 0) ∨ ∃ (q : Nat) (t : Int), q < w ∧ (∀ i, i < q → v.getD i 0 = 0) ∧ 0 < t ∧ t < p ∧ t * v.getD q 0 % p = 1 ∧ r = .d (.tup [.int (q : Int), .lst (vec (mulr p t v))])
def leadF (p wi : Int) (v : List Int) (pl tm : Slot) : Env := ⟨[.sh (.int p), .sh (.int wi), .ow (vec v), pl, tm, .un], [.un, .un, .att]⟩
theorem leading_ok {p wi : Int} {w : Nat} {v : List Int} (hpp : p ∈ primes) (hw : wi = w) (hl : w ≤ v.length) (hz : v.length ≤ 1000) (hR : Rg p v) :
    WF (F_leading [.sh (.int p), .sh (.int wi), .ow (vec v)]) fun r o => o = [.un, .un, .ow (vec v)] ∧ Lead p w v r := by
  obtain ⟨hp1, hp2⟩ := primes_lt hpp
  refine wf_fn (ws_cons (ws_for (W.of (a := [.d (.int wi)]) (ρ := leadF p wi v .un .un) rfl ⟨[.int wi], _, rfl, range1_ok (by omega) (by omega), fun j ρ => ∃ pl, ρ = leadF p wi v pl .un ∧ ∀ i, i < j → v.getD i 0 = 0, ⟨_, rfl, fun i h => by omega⟩, ?_, ?_⟩)))
  · rintro j x ρ2 hx ⟨pl, rfl, h0⟩
    obtain ⟨hj, rfl⟩ := upFrom_get _ _ _ _ hx
    generalize hji : 0 + (j : Int) = ji
    have hjw : j < w := by omega
    refine ⟨leadF p wi v (.sh (.int ji)) .un, bnd_free rfl rfl, ?_⟩
    have hix : fIx [.lst (vec v), .int ji] = some (.d (.int (v.getD j 0))) := by
      rw [← hji, Int.zero_add]
      exact ix_lst (vec_at (by omega))
    have hk := hR.at (j := j) (by omega)
    generalize hkk : v.getD j 0 = k at hk hix
    refine ws_cons (ws_ite (wt_eb (w_prim (wa_cons (w_prim (W.of (a := [.loc 2, .d (.int ji)]) (ρ := leadF p wi v (.sh (.int ji)) .un) rfl ⟨_, .d (.int k), rfl, hix, W.of (a := [.d (.int 0)]) (ρ := leadF p wi v (.sh (.int ji)) .un) rfl ⟨[.int k, .int 0], _, rfl, ne_int _ _, _, rfl, fun h => ?_, fun h => ?_⟩⟩))))))
    · have hk0 : k ≠ 0 := by simpa using h
      obtain ⟨t, ht, t0, t1, t2⟩ := inverse_ok hpp (v := k) (by omega) (by omega)
      refine ws_cons (ws_asgV (w_call (wa_cons (W.of (a := .d (.int p)) (ρ := leadF p wi v (.sh (.int ji)) .un) rfl (wa_cons (w_prim (W.of (a := [.loc 2, .d (.int ji)]) (ρ := leadF p wi v (.sh (.int ji)) .un) rfl ⟨_, .d (.int k), rfl, hix, wa_nil ⟨rfl, [.sh (.int p), .sh (.int k)], rfl, ?_⟩⟩)))))))
      rw [ht]
      refine ⟨rfl, leadF p wi v (.sh (.int ji)) (.sh (.int t)), rfl, ?_⟩
      have core : ∀ (j : Nat) (x y : D), (vec v)[j]? = some x → (vec (mulr p t v))[j]? = some y → ∃ ρ3, (Tg.n 5).set ⟨[.sh (.int p), .sh (.int wi), .lk (vec v), .sh (.int ji), .sh (.int t), .un], [.un, .un, .att]⟩ x = some ρ3 ∧ W (evE (.prim fMod (.cons (.prim fMul (.cons (.var 5) (.cons (.var 4) .nil))) (.cons (.var 0) .nil))) ρ3) fun b ρ5 => ∃ ρ6, b.keep ρ5 = some (y, ρ6) ∧ wipeE ρ6 [5] = ⟨[.sh (.int p), .sh (.int wi), .lk (vec v), .sh (.int ji), .sh (.int t), .un], [.un, .un, .att]⟩ := fun j x y hx hy => by
        obtain ⟨j1, rfl⟩ := vec_get hx
        obtain ⟨_, rfl⟩ := vec_get hy
        rw [mulr_at j1]
        refine ⟨⟨[.sh (.int p), .sh (.int wi), .lk (vec v), .sh (.int ji), .sh (.int t), .sh (.int (v.getD j 0))], [.un, .un, .att]⟩, rfl, ?_⟩
        exact w_prim (wa_cons (w_prim (W.of rfl ⟨_, _, rfl, mul_ok (mulOk_r (by omega) (by omega)), W.of rfl ⟨_, _, rfl, mod_ok (by omega), _, rfl, rfl⟩⟩)))
      refine ws_cons (ws_ret (w_tup (wd_cons (W.of (a := .d (.int ji)) (ρ := leadF p wi v (.sh (.int ji)) (.sh (.int t))) rfl ⟨_, _, rfl, wd_cons (w_lcm (W.of (a := [.loc 2]) (ρ := leadF p wi v (.sh (.int ji)) (.sh (.int t))) rfl ⟨[.lst (vec v)], vec v, rfl, rfl, ⟨by rw [vec_len, sizeLine_eq]; omega, rfl, rfl⟩, vec (mulr p t v), by rw [vec_len, vec_len, mulr_len], core, .lst (vec (mulr p t v)), leadF p wi v (.sh (.int ji)) (.sh (.int t)), rfl, wd_nil ⟨by simp, .d (.tup [.int ji, .lst (vec (mulr p t v))]), leadF p wi v (.sh (.int ji)) (.sh (.int t)), rfl, rfl, .inr ⟨j, t, hjw, h0, t0, t1, by rw [hkk]; exact t2, by rw [← hji, Int.zero_add]⟩⟩⟩))⟩))))
    · have hk0 : k = 0 := by simpa using h
      refine ws_nil (ws_nil ⟨_, rfl, fun i hi => ?_⟩)
      rcases Nat.lt_or_ge i j with h | h
      · exact h0 i h
      · have : i = j := by omega
        subst this
        rw [hkk, hk0]
  · rintro ρ2 ⟨pl, rfl, h0⟩
    rw [upFrom_length] at h0
    refine ws_cons (ws_ret (W.of (a := .d .non) rfl ⟨.d .non, _, rfl, rfl, .inl ⟨rfl, fun i hi => h0 i (by omega)⟩⟩))
end Ev

namespace Ev
open PySem L2
section
variable {ρ : Env} {nx : Env → Prop} {rt : B → Env → Prop} {bk : Env → Prop}
theorem w_mut {f : List D → List D → Option (List D × D)} {i : Nat} {as : Es} {P : B → Env → Prop} {xs0 : List D} (h0 : ρ.v[i]? = some (.ow xs0)) (h : W (evD as ρ) fun ds ρ2 => ∃ xs ys x, ρ2.v[i]? = some (.ow xs) ∧ f xs ds = some (ys, x) ∧ P (.d x) (ρ2.setv i (.ow ys))) : W (evE (.mut f i as) ρ) P := by
  rw [evE, h0]
  refine W.bind (r := evD as ρ) (W.mono h fun ds ρ2 ⟨xs, ys, x, h1, h2, h3⟩ => ?_)
  simp only [h1, h2]
  exact h3
theorem retB_b (r : RB) : retB ρ r.b = some (r, ρ) := by cases r <;> rfl
theorem append_ok {xs : List D} {d : D} (h : xs.length < 1000000) : mAppend xs [d] = some (xs ++ [d], .non) := by
  show (if xs.length < sizeLine then _ else _) = _
  rw [if_pos (by rw [sizeLine_eq]; omega)]
end
theorem new_row_ok {p wi : Int} {w n : Nat} {rows : List (Nat × List Int)} {v : List Int} (hpp : p ∈ primes) (hw : wi = w) (hwn : w ≤ n) (hn : n ≤ 1000) (hr : Rows p n rows) (hv : v.length = n) (hR : Rg p v) :
    WF (F_new_row [.sh (.int p), .sh (.int wi), .ow (rowsD rows), .sh (.lst (vec v))]) fun r o => o = [.un, .un, .ow (rowsD rows), .un] ∧ ∃ u, u.length = n ∧ Rg p u ∧ Lin.Red p n (absR rows) (co v) (co u) ∧ Lead p w u r := by
  obtain ⟨hp1, hp2⟩ := primes_lt hpp
  refine wf_fn (ws_cons (ws_ret (w_call (wa_cons (W.of (a := .d (.int p)) rfl (wa_cons (W.of (a := .d (.int wi)) rfl (wa_cons (w_call (W.of (a := [.d (.int p), .loc 2, .d (.lst (vec v))]) (ρ := ⟨[.sh (.int p), .sh (.int wi), .ow (rowsD rows), .sh (.lst (vec v))], [.un, .un, .att, .un]⟩) rfl ⟨rfl, [.sh (.int p), .ow (rowsD rows), .sh (.lst (vec v))], rfl, WF.mono (reducedS_ok (.inl rfl) hp1 hp2 hn hr hv hR) ?_⟩))))))))))
  rintro r o ⟨u, rfl, rfl, hu, hUR, hRed⟩
  refine wa_nil ⟨rfl, [.sh (.int p), .sh (.int wi), .ow (vec u)], rfl, WF.mono (leading_ok hpp hw (by omega) (by omega) hUR) ?_⟩
  rintro r o ⟨rfl, hL⟩
  exact ⟨r, _, retB_b r, rfl, u, hu, hUR, hRed, hL⟩
def matD (vs : List (List Int)) : List D := vs.map fun v => .lst (vec v)
theorem matD_get {vs : List (List Int)} {j : Nat} {x : D} (h : (matD vs)[j]? = some x) : ∃ v, vs[j]? = some v ∧ x = .lst (vec v) := by
  unfold matD at h
  rw [List.getElem?_map] at h
  cases e : vs[j]? with
  | none => rw [e] at h; cases h
  | some a => rw [e] at h; cases h; exact ⟨a, rfl, rfl⟩
def row (vs : List (List Int)) (k : Nat) : Lin.V := co (vs.getD k [])
theorem row_of {vs : List (List Int)} {j : Nat} {v : List Int} (h : vs[j]? = some v) : row vs j = co v := by
  unfold row
  rw [List.getD_eq_getElem?_getD, h]
  rfl
theorem co_eq (v : List Int) (i : Nat) : co v i = v.getD i 0 := rfl
theorem ndv {p x : Int} (h0 : x ≠ 0) (h1 : 0 ≤ x) (h2 : x < p) : ¬ p ∣ x := fun ⟨c, e⟩ => by
  subst e
  rcases Int.lt_or_le 0 c with h | h
  · have : p * 1 ≤ p * c := Int.mul_le_mul_of_nonneg_left (by omega) (by omega)
    omega
  · have : p * c ≤ p * 0 := Int.mul_le_mul_of_nonneg_left h (by omega)
    omega
theorem dv_of_mod {p x : Int} (h : x % p = 1) : p ∣ x - 1 := by
  have := dv_mod p x
  rw [h] at this
  exact Lin.dvOf (Lin.dvMul (-1) this) (by omega)
/-- rows, found from the things ahead of k -/
structure Found (p : Int) (w n : Nat) (s : Nat → Lin.V) (k : Nat) (rows : List (Nat × List Int)) : Prop where
  r : Rows p n rows
  q : ∀ a ∈ rows, a.1 < w
  t : Lin.TI p w n s k (Lin.RS (absR rows))
theorem Found.nil {p : Int} {w n : Nat} {s : Nat → Lin.V} : Found p w n s 0 [] := ⟨⟨fun a h => (by cases h), trivial⟩, fun a h => (by cases h), Lin.TI.nil⟩
theorem Found.qs {p : Int} {w n : Nat} {s : Nat → Lin.V} {k : Nat} {rows : List (Nat × List Int)} (f : Found p w n s k rows) : ∀ a ∈ absR rows, a.1 < w := fun b hb => by
  obtain ⟨a, ha, rfl⟩ := absR_mem hb
  exact f.q a ha
theorem Found.skip {p : Int} {w n : Nat} {s : Nat → Lin.V} {k : Nat} {rows : List (Nat × List Int)} {u : List Int} (f : Found p w n s k rows) (hw : w ≤ n) (hR : Lin.Red p n (absR rows) (s k) (co u)) (h0 : ∀ i, i < w → u.getD i 0 = 0) : Found p w n s (k + 1) rows ∧ ¬ Lin.Tk p w s k := by
  have q : Lin.Sp p w (Lin.RS (absR rows)) (s k) := (hR.iff hw f.r.s f.qs).mpr fun i hi => by rw [co_eq, h0 i hi]; exact Lin.dv0 p
  exact ⟨⟨f.r, f.q, f.t.skip q⟩, fun ht => ht ((f.t.pre hw).mp q)⟩
theorem Found.new {p : Int} {w n : Nat} {s : Nat → Lin.V} {k : Nat} {rows : List (Nat × List Int)} {u : List Int} {q : Nat} {t : Int} (f : Found p w n s k rows) (hp : 1 < p) (hw : w ≤ n) (hR : Lin.Red p n (absR rows) (s k) (co u)) (hu : u.length = n) (hUR : Rg p u) (hq : q < w) (ht : t * u.getD q 0 % p = 1) :
    Found p w n s (k + 1) (rows ++ [(q, mulr p t u)]) ∧ Lin.Tk p w s k := by
  have hm : ∀ i, i < n → p ∣ co (mulr p t u) i - t * co u i := fun i hi => by
    rw [co_eq, mulr_at (by omega), co_eq, Int.mul_comm t]
    exact dv_mod _ _
  have h1 : p ∣ co (mulr p t u) q - 1 := by
    rw [co_eq, mulr_at (by omega), Int.mul_comm, ht]
    exact Lin.dv0 p
  have tk : Lin.Tk p w s k := fun h => by
    have := (hR.iff hw f.r.s f.qs).mp ((f.t.pre hw).mpr h) q hq
    obtain ⟨g0, g1⟩ := hUR.at (j := q) (by omega)
    refine ndv (fun z => ?_) g0 g1 this
    rw [z, Int.mul_zero, Int.zero_emod] at ht
    omega
  have ha : absR (rows ++ [(q, mulr p t u)]) = absR rows ++ [(q, co (mulr p t u))] := by
    unfold absR
    rw [List.map_append]
    rfl
  refine ⟨⟨⟨fun a h => ?_, ?_⟩, fun a h => ?_, ?_⟩, tk⟩
  · rcases List.mem_append.mp h with h | h
    · exact f.r.g a h
    · simp at h
      subst h
      exact ⟨by show q < n; omega, by rw [← hu]; exact mulr_len _ _ _, mulr_rg (by omega)⟩
  · rw [ha]
    refine Lin.stag_snoc h1 f.r.s fun a h => ?_
    exact Lin.dvOf (Lin.dvAdd (hm a.1 (by have := f.qs a h; omega)) (Lin.dvMul t (hR.z a h))) (by omega)
  · rcases List.mem_append.mp h with h | h
    · exact f.q a h
    · simp at h
      subst h
      exact hq
  · rw [ha]
    refine f.t.new hw tk (t := t) (t' := u.getD q 0) hR.sp hm (fun i hi => ?_) (fun x => Lin.rs_snoc x)
    have e1 := Lin.dvMul (u.getD q 0) (hm i (by omega))
    have e2 := Lin.dvMul (co u i) (dv_of_mod ht)
    rw [Int.mul_sub] at e1 e2
    have e3 : u.getD q 0 * (t * co u i) = co u i * (t * u.getD q 0) := by rw [Int.mul_comm, Int.mul_comm t, Int.mul_assoc]
    rw [e3] at e1
    exact Lin.dvOf (Lin.dvMul (-1) (Lin.dvAdd e1 e2)) (by omega)
def rowsF (p wi : Int) (L : Slot) (rows : List (Nat × List Int)) (va rw : Slot) : Env := ⟨[.sh (.int p), .sh (.int wi), L, .ow (rowsD rows), va, rw], [.un, .un, .att]⟩
theorem rowsD_snoc (rows : List (Nat × List Int)) (a : Nat × List Int) : rowsD rows ++ [.tup [.int (a.1 : Int), .lst (vec a.2)]] = rowsD (rows ++ [a]) := by
  unfold rowsD
  rw [List.map_append]
  rfl
end Ev

namespace Ev
open PySem L2
/-! ### slices -/
theorem vec_take (v : List Int) (n : Nat) : (vec v).take n = vec (v.take n) := by unfold vec; rw [List.map_take]
theorem vec_drop (v : List Int) (n : Nat) : (vec v).drop n = vec (v.drop n) := by unfold vec; rw [List.map_drop]
theorem cutH_eq {xs : List D} {i : Nat} (h : i ≤ xs.length) : cutD xs none (some (i : Int)) = xs.take i := by
  have e : HT.sIx xs.length xs.length (some (i : Int)) = i := by
    show (if (i : Int) < 0 then ((i : Int) + (xs.length : Int)).toNat else min (i : Int).toNat xs.length) = _
    rw [if_neg (by omega)]
    omega
  unfold cutD
  rw [e]
  simp [HT.sIx]
theorem cutL_eq {xs : List D} {i : Nat} (h : i ≤ xs.length) : cutD xs (some (i : Int)) none = xs.drop i := by
  have e : HT.sIx xs.length 0 (some (i : Int)) = i := by
    show (if (i : Int) < 0 then ((i : Int) + (xs.length : Int)).toNat else min (i : Int).toNat xs.length) = _
    rw [if_neg (by omega)]
    omega
  have e2 : HT.sIx xs.length xs.length none = xs.length := rfl
  unfold cutD
  rw [e, e2, List.take_of_length_le (by rw [List.length_drop]; omega)]
theorem cutH_lst {xs : List D} {i : Nat} (h : i ≤ xs.length) : fCutH [.lst xs, .int (i : Int)] = some (.nw (xs.take i)) := by
  show some (RB.nw (cutD xs none (some (i : Int)))) = _
  rw [cutH_eq h]
theorem cutH_tup {xs : List D} {i : Nat} (h : i ≤ xs.length) : fCutH [.tup xs, .int (i : Int)] = some (.d (.tup (xs.take i))) := by
  show some (RB.d (.tup (cutD xs none (some (i : Int))))) = _
  rw [cutH_eq h]
theorem cutL_lst {xs : List D} {i : Nat} (h : i ≤ xs.length) : fCutL [.lst xs, .int (i : Int)] = some (.nw (xs.drop i)) := by
  show some (RB.nw (cutD xs (some (i : Int)) none)) = _
  rw [cutL_eq h]
theorem cutL_tup {xs : List D} {i : Nat} (h : i ≤ xs.length) : fCutL [.tup xs, .int (i : Int)] = some (.d (.tup (xs.drop i))) := by
  show some (RB.d (.tup (cutD xs (some (i : Int)) none))) = _
  rw [cutL_eq h]
theorem add_lst {xs ys : List D} (h : xs.length + ys.length ≤ 1000000) : fAdd [.lst xs, .lst ys] = some (.nw (xs ++ ys)) := by
  show (if xs.length + ys.length ≤ sizeLine then _ else none) = _
  rw [if_pos (by rw [sizeLine_eq]; omega)]
theorem add_tup {xs ys : List D} (h : xs.length + ys.length ≤ 1000000) : fAdd [.tup xs, .tup ys] = some (.d (.tup (xs ++ ys))) := by
  show (if xs.length + ys.length ≤ sizeLine then _ else none) = _
  rw [if_pos (by rw [sizeLine_eq]; omega)]
theorem vec_app (a b : List Int) : vec a ++ vec b = vec (a ++ b) := by unfold vec; rw [List.map_append]
/-! ### sums with their marks -/
def sumsD (S : List (List Int)) : List D := S.map fun s => .tup (vec s)
theorem sumsD_get {S : List (List Int)} {j : Nat} {x : D} (h : (sumsD S)[j]? = some x) : ∃ v, S[j]? = some v ∧ x = .tup (vec v) := by
  unfold sumsD at h
  rw [List.getElem?_map] at h
  cases e : S[j]? with
  | none => rw [e] at h; cases h
  | some a => rw [e] at h; cases h; exact ⟨a, rfl, rfl⟩
theorem sumsD_len (S : List (List Int)) : (sumsD S).length = S.length := List.length_map ..
def marks (m k : Nat) : List Int := (List.range m).map fun i => if i = k then 1 else 0
theorem marks_len (m k : Nat) : (marks m k).length = m := by unfold marks; rw [List.length_map, List.length_range]
theorem marks_at {m k i : Nat} (h : i < m) : (marks m k).getD i 0 = if i = k then 1 else 0 := by
  rw [getD_lt (by rw [marks_len]; exact h)]
  unfold marks
  rw [List.getElem_map, List.getElem_range]
def mks (S : List (List Int)) : List (List Int) := (List.range S.length).map fun k => S.getD k [] ++ marks S.length k
theorem mks_len (S : List (List Int)) : (mks S).length = S.length := by unfold mks; rw [List.length_map, List.length_range]
theorem mks_get {S : List (List Int)} {k : Nat} {v : List Int} (h : S[k]? = some v) : (mks S)[k]? = some (v ++ marks S.length k) := by
  obtain ⟨hk, _⟩ := List.getElem?_eq_some_iff.mp h
  unfold mks
  rw [List.getElem?_map, List.getElem?_range hk]
  show some (S.getD k [] ++ _) = _
  rw [List.getD_eq_getElem?_getD, h]
  rfl
theorem len_lst (xs : List D) : fLen [.lst xs] = some (.d (.int (xs.length : Int))) := rfl
theorem len_tup (xs : List D) : fLen [.tup xs] = some (.d (.int (xs.length : Int))) := rfl
theorem marked_ok {S : List (List Int)} (hS : S.length ≤ 1000) (hw : ∀ s ∈ S, s.length ≤ 1000) : WF (F_marked [.sh (.tup (sumsD S))]) fun r o => r = .nw (matD (mks S)) ∧ o = [.un] := by
  have hmi : ∃ mi : Int, mi = (S.length : Int) := ⟨_, rfl⟩
  obtain ⟨mi, hmi⟩ := hmi
  have in1 : ∀ (i j : Nat) (v : List Int) (ji : Int) (x y : D), ji = (j : Int) → (upFrom mi.toNat 0)[i]? = some x → (vec (marks S.length j))[i]? = some y → ∃ ρ3, (Tg.n 4).set ⟨[.sh (.tup (sumsD S)), .sh (.int mi), .sh (.int ji), .sh (.tup (vec v)), .un], [.un]⟩ x = some ρ3 ∧ W (evE (.prim fInt (.cons (.prim fEq (.cons (.var 4) (.cons (.var 2) .nil))) (.nil))) ρ3) fun b ρ5 => ∃ ρ6, b.keep ρ5 = some (y, ρ6) ∧ wipeE ρ6 [4] = ⟨[.sh (.tup (sumsD S)), .sh (.int mi), .sh (.int ji), .sh (.tup (vec v)), .un], [.un]⟩ := fun i j v ji x y hj hx hy => by
    obtain ⟨hi, rfl⟩ := upFrom_get _ _ _ _ hx
    obtain ⟨_, rfl⟩ := vec_get hy
    rw [marks_at (by omega)]
    generalize hii : 0 + (i : Int) = ii
    refine ⟨⟨[.sh (.tup (sumsD S)), .sh (.int mi), .sh (.int ji), .sh (.tup (vec v)), .sh (.int ii)], [.un]⟩, rfl, ?_⟩
    refine w_prim (wa_cons (w_prim (W.of rfl ⟨_, _, rfl, eq_int ii ji, wa_nil ⟨[.bl (decide (ii = ji))], .d (.int (if i = j then 1 else 0)), rfl, ?_, _, rfl, rfl⟩⟩)))
    show some (RB.d (.int (if decide (ii = ji) = true then 1 else 0))) = _
    congr 3
    by_cases h : i = j
    · rw [if_pos h, if_pos (by rw [decide_eq_true_eq]; omega)]
    · rw [if_neg h, if_neg (by rw [decide_eq_true_eq]; omega)]
  have core : ∀ (j : Nat) (x y : D), (enumD 0 (sumsD S))[j]? = some x → (matD (mks S))[j]? = some y → ∃ ρ3, (Tg.t [2, 3]).set ⟨[.sh (.tup (sumsD S)), .sh (.int mi), .un, .un, .un], [.un]⟩ x = some ρ3 ∧ W (evE (.prim fAdd (.cons (.prim fList (.cons (.var 3) (.nil))) (.cons (.lc [4] (.n 4) itRange1 (.cons (.var 1) (.nil)) .none (.prim fInt (.cons (.prim fEq (.cons (.var 4) (.cons (.var 2) .nil))) (.nil)))) .nil))) ρ3) fun b ρ5 => ∃ ρ6, b.keep ρ5 = some (y, ρ6) ∧ wipeE ρ6 [2, 3] = ⟨[.sh (.tup (sumsD S)), .sh (.int mi), .un, .un, .un], [.un]⟩ := fun j x y hx hy => by
    obtain ⟨a, ha, rfl⟩ := enumD_get _ _ _ _ hx
    obtain ⟨v, hv, rfl⟩ := sumsD_get ha
    obtain ⟨z, hz, rfl⟩ := matD_get hy
    rw [mks_get hv] at hz
    cases hz
    generalize hji : 0 + (j : Int) = ji
    refine ⟨⟨[.sh (.tup (sumsD S)), .sh (.int mi), .sh (.int ji), .sh (.tup (vec v)), .un], [.un]⟩, rfl, ?_⟩
    have hvl := hw v (List.mem_of_getElem? hv)
    exact w_prim (wa_cons (w_prim (W.of rfl ⟨_, _, rfl, rfl, wa_cons (w_lcm (W.of rfl ⟨[.int mi], _, rfl, range1_ok (by omega) (by omega), ⟨by rw [upFrom_length, sizeLine_eq]; omega, rfl, rfl⟩, vec (marks S.length j), by rw [upFrom_length, vec_len, marks_len]; omega, fun i x y hx hy => in1 i j v ji x y (by omega) hx hy, wa_nil ⟨[.lst (vec v), .lst (vec (marks S.length j))], _, rfl, (by rw [add_lst (by rw [vec_len, vec_len, marks_len]; omega), vec_app]), _, rfl, rfl⟩⟩))⟩)))
  refine wf_fn (ws_cons (ws_asgV (w_prim (W.of rfl ⟨_, _, rfl, len_tup _, rfl, ⟨[.sh (.tup (sumsD S)), .sh (.int mi), .un, .un, .un], [.un]⟩, (by rw [sumsD_len, ← hmi]; rfl), ?_⟩))))
  refine ws_cons (ws_ret (w_lcm (W.of (a := [.d (.tup (sumsD S))]) (ρ := ⟨[.sh (.tup (sumsD S)), .sh (.int mi), .un, .un, .un], [.un]⟩) rfl ⟨[.tup (sumsD S)], _, rfl, rfl, ⟨by rw [enumD_length, sumsD_len, sizeLine_eq]; omega, rfl, rfl⟩, matD (mks S), ?_, core, .nw (matD (mks S)), ⟨[.sh (.tup (sumsD S)), .sh (.int mi), .un, .un, .un], [.un]⟩, rfl, rfl, rfl⟩)))
  rw [enumD_length, sumsD_len]
  unfold matD
  rw [List.length_map, mks_len]
end Ev

namespace Ev
open PySem L2
theorem co_app_l {a b : List Int} {i : Nat} (h : i < a.length) : co (a ++ b) i = co a i := by
  rw [co_eq, co_eq, List.getD_eq_getElem?_getD, List.getD_eq_getElem?_getD, List.getElem?_append_left h]
theorem co_app_r {a b : List Int} {i n : Nat} (h : a.length = n) : co (a ++ b) (n + i) = co b i := by
  subst h
  rw [co_eq, co_eq, List.getD_eq_getElem?_getD, List.getD_eq_getElem?_getD, List.getElem?_append_right (by omega)]
  congr 2
  omega
theorem co_rep (n i : Nat) : co (List.replicate n 0) i = 0 := by
  rw [co_eq, List.getD_eq_getElem?_getD, List.getElem?_replicate]
  split <;> rfl
theorem getD_get {S : List (List Int)} {k : Nat} (h : k < S.length) : S[k]? = some (S.getD k []) := by
  rw [List.getD_eq_getElem?_getD, List.getElem?_eq_getElem h]
  rfl
theorem getD_memL {S : List (List Int)} {k : Nat} (h : k < S.length) : S.getD k [] ∈ S := List.mem_of_getElem? (getD_get h)
section
variable {p : Int} {w : Nat} {S : List (List Int)}
theorem rowM {k : Nat} (h : k < S.length) : row (mks S) k = co (S.getD k [] ++ marks S.length k) := row_of (mks_get (getD_get h))
theorem rowM_l (hS : ∀ s ∈ S, s.length = w) {k i : Nat} (h : k < S.length) (hi : i < w) : row (mks S) k i = row S k i := by
  rw [rowM h, co_app_l (by rw [hS _ (getD_memL h)]; exact hi)]
  rfl
theorem rowM_r (hS : ∀ s ∈ S, s.length = w) {k j : Nat} (h : k < S.length) (hj : j < S.length) : row (mks S) k (w + j) = if j = k then 1 else 0 := by
  rw [rowM h, co_app_r (hS _ (getD_memL h)), co_eq, marks_at hj]
/-- what the rest behind the width tells -/
theorem rest_made {rows : List (Nat × List Int)} {t rest : List Int} (hS : ∀ s ∈ S, s.length = w) (ht : t.length = w) (f : Found p w (w + S.length) (row (mks S)) S.length rows) (hR : Lin.Red p (w + S.length) (absR rows) (co (t ++ List.replicate S.length 0)) (co rest)) (h0 : ∀ i, i < w → rest.getD i 0 = 0) {c : Nat → Int} (hc : ∀ k, k < S.length → p ∣ c k - - co rest (w + k)) : Lin.Made p w S.length (row (mks S)) (co t) c := by
  have hrow : ∀ x, Lin.RS (absR rows) x → ∀ i, i < w → p ∣ x i - Lin.sumTo S.length (fun j => x (w + j) * row (mks S) j i) := fun x hx => Lin.Sp.marks (fun y ⟨k, hk, _, e⟩ i hi => by
    subst e
    have := Lin.sumTo_delta (p := p) (f := fun j => row (mks S) k (w + j) * row (mks S) j i) (a := row (mks S) k i) hk (by
      show p ∣ row (mks S) k (w + k) * row (mks S) k i - row (mks S) k i
      rw [rowM_r hS hk hk, if_pos rfl, Int.one_mul, Int.sub_self]
      exact Lin.dv0 p) fun j hj hn => by
      show p ∣ row (mks S) k (w + j) * row (mks S) j i
      rw [rowM_r hS hk hj, if_neg hn, Int.zero_mul]
      exact Lin.dv0 p
    exact Lin.dvOf (Lin.dvMul (-1) this) (by omega)) (f.t.b x hx)
  have hD := Lin.Sp.marks hrow hR.sp
  constructor
  · intro k hk htk
    have h1 : p ∣ co (t ++ List.replicate S.length 0) (w + k) - co rest (w + k) := hR.sp.at0 (i := w + k) (by omega) fun x hx => (f.t.b x hx).at0 (by omega) fun y ⟨j, hj, hjt, e⟩ => by
      subst e
      have hne : k ≠ j := fun z => htk (z ▸ hjt)
      rw [rowM_r hS hj hk, if_neg hne]
      exact Lin.dv0 p
    rw [co_app_r ht, co_rep] at h1
    exact Lin.dvOf (Lin.dvAdd (hc k hk) h1) (by omega)
  · intro i hi
    have h1 := hD i hi
    have h2 : p ∣ Lin.sumTo S.length (fun j => (co (t ++ List.replicate S.length 0) (w + j) - co rest (w + j)) * row (mks S) j i) - Lin.sumTo S.length (fun j => c j * row (mks S) j i) := Lin.sumTo_congr fun j hj => by
      rw [co_app_r ht, co_rep]
      exact Lin.dvOf (Lin.dvMul (- row (mks S) j i) (hc j hj)) (by
        rw [← Int.sub_mul, Int.neg_mul, Int.mul_comm (row (mks S) j i), ← Int.neg_mul]
        congr 1
        omega)
    have h3 : co rest i = 0 := h0 i hi
    simp only [h3, Int.sub_zero] at h1
    rw [co_app_l (by omega)] at h1
    exact Lin.dvOf (Lin.dvAdd h1 h2) (by omega)
theorem rest_none {rows : List (Nat × List Int)} {t rest : List Int} (ht : t.length = w) (f : Found p w (w + S.length) (row (mks S)) S.length rows) (hR : Lin.Red p (w + S.length) (absR rows) (co (t ++ List.replicate S.length 0)) (co rest)) (hg : Rg p rest) (hl : rest.length = w + S.length) {i : Nat} (hi : i < w) (h0 : rest.getD i 0 ≠ 0) : ¬ Lin.Sp p w (Lin.Pre (row (mks S)) S.length) (co t) := fun h => by
  have h1 : Lin.Sp p w (Lin.RS (absR rows)) (co (t ++ List.replicate S.length 0)) := ((f.t.pre (by omega)).mpr h).congr fun i hi => by
    rw [co_app_l (by omega), Int.sub_self]
    exact Lin.dv0 p
  have h2 := (hR.iff (by omega) f.r.s f.qs).mp h1 i hi
  obtain ⟨g0, g1⟩ := hg.at (j := i) (by omega)
  exact ndv h0 g0 g1 h2
end
theorem all_zero {v : List Int} {w : Nat} (h : w ≤ v.length) : v.take w = List.replicate w 0 ↔ ∀ i, i < w → v.getD i 0 = 0 := by
  constructor
  · intro e i hi
    have : (v.take w).getD i 0 = 0 := by rw [e]; exact co_rep w i
    rw [List.getD_eq_getElem?_getD, List.getElem?_take, if_pos hi] at this
    rw [List.getD_eq_getElem?_getD]
    exact this
  · intro h0
    apply List.ext_getElem
    · rw [List.length_take, List.length_replicate]; omega
    · intro i h1 h2
      rw [List.getElem_take, List.getElem_replicate, ← getD_lt]
      rw [List.length_replicate] at h2
      exact h0 i h2
def negs (p : Int) (v : List Int) : List Int := v.map fun x => -x % p
theorem negs_len (p : Int) (v : List Int) : (negs p v).length = v.length := List.length_map ..
theorem negs_at {p : Int} {v : List Int} {j : Nat} (h : j < v.length) : (negs p v).getD j 0 = -(v.getD j 0) % p := by
  rw [getD_lt (by rw [negs_len]; exact h), getD_lt h]
  unfold negs
  rw [List.getElem_map]
theorem negs_rg {p : Int} {v : List Int} (hp : 0 < p) : Rg p (negs p v) := by
  intro x hx
  obtain ⟨y, _, rfl⟩ := List.mem_map.mp hx
  exact ⟨Int.emod_nonneg _ (by omega), Int.emod_lt_of_pos _ hp⟩
theorem rg_app {p : Int} {a b : List Int} (ha : Rg p a) (hb : Rg p b) : Rg p (a ++ b) := fun x hx => by
  rcases List.mem_append.mp hx with h | h
  · exact ha x h
  · exact hb x h
theorem rg_rep {p : Int} (hp : 0 < p) (n : Nat) : Rg p (List.replicate n 0) := fun x hx => by
  have := List.eq_of_mem_replicate hx
  omega
theorem rg_marks {p : Int} (hp : 1 < p) (m k : Nat) : Rg p (marks m k) := fun x hx => by
  obtain ⟨i, _, rfl⟩ := List.mem_map.mp hx
  split <;> omega
/-- what made_of is to tell -/
def MadeOf (p : Int) (w : Nat) (S : List (List Int)) (t : List Int) (d : D) : Prop := (d = .non ∧ ¬ Lin.Sp p w (Lin.Pre (row S) S.length) (co t)) ∨ ∃ c, d = .tup (vec c) ∧ c.length = S.length ∧ Rg p c ∧ Lin.Made p w S.length (row S) (co t) (co c)
end Ev

namespace Ev
open PySem L2
/-! ### things that are judged -/
def dat (d : D) : Prop := ∃ t, d.tyN = some t
def Okd (d : D) : Prop := dat d ∧ ∀ xs, d = .tup xs → xs.length ≤ 1000 ∧ ∀ x ∈ xs, dat x
def isI : D → Bool
  | .int _ => true
  | _ => false
def inB (a b : Int) : D → Bool
  | .int i => decide (a ≤ i) && decide (i ≤ b)
  | _ => false
def valB (p : Int) (n : Nat) : D → Bool
  | .tup xs => decide (xs.length = n) && xs.all (inB 0 (p - 1))
  | _ => false
theorem within_D (a b : Int) (d : D) (h : dat d) : WF (F_is_within [.sh (.int a), .sh (.int b), .sh d]) fun r o => r = .d (.bl (inB a b d)) ∧ o = [.un, .un, .un] := by
  cases d with
  | int i => exact within_ok a b i
  | non => exact ⟨rfl, rfl⟩
  | bl _ => exact ⟨rfl, rfl⟩
  | str _ => exact ⟨rfl, rfl⟩
  | tup _ => exact ⟨rfl, rfl⟩
  | lst _ => exact ⟨rfl, rfl⟩
  | dk _ _ => exact ⟨rfl, rfl⟩
  | ro _ => obtain ⟨t, e⟩ := h; cases e
  | obj _ _ => obtain ⟨t, e⟩ := h; cases e
  | ty _ => obtain ⟨t, e⟩ := h; cases e
  | cls _ => obtain ⟨t, e⟩ := h; cases e
theorem values_ok {p mi : Int} {n : Nat} {d : D} (hmi : mi = n) (h : Okd d) : WF (F_is_values [.sh (.int p), .sh (.int mi), .sh d]) fun r o => r = .d (.bl (valB p n d)) ∧ o = [.un, .un, .un] := by
  obtain ⟨h1, h2⟩ := h
  cases d with
  | tup xs =>
    obtain ⟨hl, hx⟩ := h2 xs rfl
    obtain ⟨li, hli⟩ : ∃ li : Int, li = (xs.length : Int) := ⟨_, rfl⟩
    refine wf_fn (ws_cons (ws_ite (wt_or (W.of (a := false) (ρ := ⟨[.sh (.int p), .sh (.int mi), .sh (.tup xs), .un], [.un, .un, .un]⟩) rfl ⟨fun z => absurd z (by decide), fun _ => ?_⟩))))
    refine wt_eb (w_prim (wa_cons (w_prim (W.of (a := [.d (.tup xs)]) (ρ := ⟨[.sh (.int p), .sh (.int mi), .sh (.tup xs), .un], [.un, .un, .un]⟩) rfl ⟨_, .d (.int li), rfl, by rw [hli]; rfl, ?_⟩))))
    refine W.of (a := [.d (.int mi)]) (ρ := ⟨[.sh (.int p), .sh (.int mi), .sh (.tup xs), .un], [.un, .un, .un]⟩) rfl ⟨_, _, rfl, ne_int li mi, _, rfl, fun h => ?_, fun h => ?_⟩
    · have hne : ¬ xs.length = n := by
        intro e
        have : ¬ li = mi := by simpa using h
        omega
      refine ws_cons (ws_ret (W.of rfl ⟨.d (.bl false), ⟨[.sh (.int p), .sh (.int mi), .sh (.tup xs), .un], [.un, .un, .un]⟩, rfl, ?_, rfl⟩))
      show _ = RB.d (.bl (decide (xs.length = n) && _))
      rw [decide_eq_false hne]
      rfl
    · have heq : xs.length = n := by
        have : li = mi := by simpa using h
        omega
      have core : ∀ (j : Nat) (x y : D), xs[j]? = some x → (xs.map fun x => D.bl (inB 0 (p - 1) x))[j]? = some y → ∃ ρ3, (Tg.n 3).set ⟨[.sh (.int p), .sh (.int mi), .sh (.tup xs), .un], [.un, .un, .un]⟩ x = some ρ3 ∧ W (evE (.call F_is_within (.cons (.con (.int 0)) (.cons (.prim fSub (.cons (.var 0) (.cons (.con (.int 1)) .nil))) (.cons (.var 3) (.nil))))) ρ3) fun b ρ5 => ∃ ρ6, b.keep ρ5 = some (y, ρ6) ∧ wipeE ρ6 [3] = ⟨[.sh (.int p), .sh (.int mi), .sh (.tup xs), .un], [.un, .un, .un]⟩ := fun j x y hx' hy => by
        rw [List.getElem?_map, hx'] at hy
        have hy := Option.some.inj hy
        subst hy
        refine ⟨⟨[.sh (.int p), .sh (.int mi), .sh (.tup xs), .sh x], [.un, .un, .un]⟩, rfl, ?_⟩
        refine w_call (W.of (a := [.d (.int 0), .d (.int (p - 1)), .d x]) (ρ := ⟨[.sh (.int p), .sh (.int mi), .sh (.tup xs), .sh x], [.un, .un, .un]⟩) rfl ⟨rfl, [.sh (.int 0), .sh (.int (p - 1)), .sh x], rfl, WF.mono (within_D 0 (p - 1) x (hx x (List.mem_of_getElem? hx'))) ?_⟩)
        rintro r o ⟨rfl, rfl⟩
        exact ⟨_, rfl, rfl⟩
      refine ws_nil (ws_cons (ws_ret (w_prim (wa_cons (w_lcm (W.of (a := [.d (.tup xs)]) (ρ := ⟨[.sh (.int p), .sh (.int mi), .sh (.tup xs), .un], [.un, .un, .un]⟩) rfl ⟨[.tup xs], xs, rfl, rfl, ⟨by rw [sizeLine_eq]; omega, rfl, rfl⟩, _, List.length_map .., core, wa_nil ⟨_, _, rfl, all_map _ xs, .d (.bl (xs.all (inB 0 (p - 1)))), ⟨[.sh (.int p), .sh (.int mi), .sh (.tup xs), .un], [.un, .un, .un]⟩, rfl, ?_, rfl⟩⟩))))))
      show _ = RB.d (.bl (decide (xs.length = n) && _))
      rw [decide_eq_true heq]
      rfl
  | int i => exact ⟨rfl, rfl⟩
  | non => exact ⟨rfl, rfl⟩
  | bl _ => exact ⟨rfl, rfl⟩
  | str _ => exact ⟨rfl, rfl⟩
  | lst _ => exact ⟨rfl, rfl⟩
  | dk _ _ => exact ⟨rfl, rfl⟩
  | ro _ => obtain ⟨t, e⟩ := h1; cases e
  | obj _ _ => obtain ⟨t, e⟩ := h1; cases e
  | ty _ => obtain ⟨t, e⟩ := h1; cases e
  | cls _ => obtain ⟨t, e⟩ := h1; cases e
/-- the numbers of a tuple -/
def num : D → Int
  | .int i => i
  | _ => 0
def numsOf : D → List Int
  | .tup xs => xs.map num
  | _ => []
theorem valB_tup {p : Int} {n : Nat} {d : D} (h : valB p n d = true) : d = .tup (vec (numsOf d)) ∧ (numsOf d).length = n ∧ Rg p (numsOf d) := by
  cases d with
  | tup xs =>
    have h : (decide (xs.length = n) && xs.all (inB 0 (p - 1))) = true := h
    rw [Bool.and_eq_true, decide_eq_true_eq, List.all_eq_true] at h
    obtain ⟨h1, h2⟩ := h
    have e : xs = vec (xs.map num) := by
      unfold vec
      rw [List.map_map]
      conv => lhs; rw [← List.map_id xs]
      apply List.map_congr_left
      intro x hx
      have := h2 x hx
      cases x with
      | int i => rfl
      | _ => cases this
    refine ⟨congrArg D.tup e, (List.length_map ..).trans h1, fun x hx => ?_⟩
    obtain ⟨y, hy, rfl⟩ := List.mem_map.mp hx
    have := h2 y hy
    cases y with
    | int i =>
      have : (decide (0 ≤ i) && decide (i ≤ p - 1)) = true := this
      rw [Bool.and_eq_true, decide_eq_true_eq, decide_eq_true_eq] at this
      show 0 ≤ i ∧ i < p
      omega
    | _ => cases this
  | _ => cases h
theorem okd_vec {v : List Int} (h : v.length ≤ 1000) : Okd (.tup (vec v)) := by
  refine ⟨⟨_, rfl⟩, fun xs e => ?_⟩
  cases e
  refine ⟨by rw [vec_len]; exact h, fun x hx => ?_⟩
  obtain ⟨i, _, rfl⟩ := List.mem_map.mp hx
  exact ⟨_, rfl⟩
theorem valB_vec {p : Int} {v : List Int} (h : Rg p v) : valB p v.length (.tup (vec v)) = true := by
  show (decide ((vec v).length = v.length) && (vec v).all (inB 0 (p - 1))) = true
  rw [vec_len, decide_eq_true rfl, Bool.true_and, List.all_eq_true]
  intro x hx
  obtain ⟨i, hi, rfl⟩ := List.mem_map.mp hx
  obtain ⟨g0, g1⟩ := h i hi
  show (decide (0 ≤ i) && decide (i ≤ p - 1)) = true
  rw [Bool.and_eq_true, decide_eq_true_eq, decide_eq_true_eq]
  omega
end Ev

namespace Ev
open PySem L2
/-- a sum of width w -/
structure Good (p : Int) (w : Nat) (s : List Int) : Prop where
  l : s.length = w
  r : Rg p s
  z : s ≠ List.replicate w 0
structure Goods (p : Int) (w : Nat) (S : List (List Int)) : Prop where
  n : S.length ≤ 40
  g : ∀ s ∈ S, Good p w s
theorem val_vec {p : Int} {w : Nat} {s : List Int} (h : s.length = w) (r : Rg p s) : valB p w (.tup (vec s)) = true := by
  subst h
  exact valB_vec r
theorem is_sum_ok {p wi : Int} {w : Nat} {s : List Int} (hw : wi = w) (h1 : w ≤ 1000) (h : Good p w s) : WF (F_is_sum [.sh (.int p), .sh (.int wi), .sh (.tup (vec s))]) fun r o => r = .d (.bl true) ∧ o = [.un, .un, .un] := by
  refine wf_fn (ws_cons (ws_ret (we_and (w_call (W.of (a := [.d (.int p), .d (.int wi), .d (.tup (vec s))]) (ρ := ⟨[.sh (.int p), .sh (.int wi), .sh (.tup (vec s))], [.un, .un, .un]⟩) rfl ⟨rfl, [.sh (.int p), .sh (.int wi), .sh (.tup (vec s))], rfl, WF.mono (values_ok hw (okd_vec (by rw [h.l]; omega))) ?_⟩)))))
  rintro r o ⟨rfl, rfl⟩
  rw [val_vec h.l h.r]
  refine ⟨true, rfl, fun _ => ?_, fun z => absurd z (by decide)⟩
  refine w_prim (wa_cons (W.of (a := .d (.tup (vec s))) rfl (wa_cons (w_prim (wa_cons (w_tup ?_))))))
  refine W.of (a := [.int 0]) rfl ⟨by simp, ?_⟩
  refine W.of (a := [.d (.int wi)]) (ρ := ⟨[.sh (.int p), .sh (.int wi), .sh (.tup (vec s))], [.un, .un, .un]⟩) rfl ⟨[.tup [.int 0], .int wi], _, rfl, by rw [hw]; exact noughts_tup (by omega), ?_⟩
  refine wa_nil ⟨[.tup (vec s), .tup (vec (List.replicate w 0))], _, rfl, ne_tup _ _, .d (.bl true), ⟨[.sh (.int p), .sh (.int wi), .sh (.tup (vec s))], [.un, .un, .un]⟩, ?_, rfl, rfl⟩
  rw [decide_eq_false h.z]
  rfl
theorem lenS (S : List (List Int)) : fLen [.tup (sumsD S)] = some (.d (.int (S.length : Int))) := by rw [len_tup, sumsD_len]
theorem width_of_ok {p : Int} {w : Nat} {S : List (List Int)} (h : Goods p w S) (h0 : 0 < S.length) : WF (F_width_of [.sh (.tup (sumsD S))]) fun r o => r = .d (.int (w : Int)) ∧ o = [.un] := by
  obtain ⟨mi, hmi⟩ : ∃ mi : Int, mi = (S.length : Int) := ⟨_, rfl⟩
  have hix : (sumsD S)[0]? = some (.tup (vec (S.getD 0 []))) := by
    unfold sumsD
    rw [List.getElem?_map, getD_get h0]
    rfl
  have g0 := h.g _ (getD_memL h0)
  refine wf_fn (ws_cons (ws_ite (wt_eb (w_prim (wa_cons (w_prim ?_))))))
  refine W.of (a := [.d (.tup (sumsD S))]) (ρ := ⟨[.sh (.tup (sumsD S))], [.un]⟩) rfl ⟨_, .d (.int mi), rfl, by rw [lenS, hmi], ?_⟩
  refine W.of (a := [.d (.int 0)]) (ρ := ⟨[.sh (.tup (sumsD S))], [.un]⟩) rfl ⟨[.int mi, .int 0], .d (.bl false), rfl, (by rw [eq_int, decide_eq_false (by omega)]), false, rfl, fun z => absurd z (by decide), fun _ => ?_⟩
  refine ws_nil (ws_cons (ws_ret (w_prim (wa_cons (w_prim ?_)))))
  refine W.of (a := [.d (.tup (sumsD S)), .d (.int 0)]) (ρ := ⟨[.sh (.tup (sumsD S))], [.un]⟩) rfl ⟨_, .d (.tup (vec (S.getD 0 []))), rfl, ix_tup (i := 0) hix, ?_⟩
  exact wa_nil ⟨_, .d (.int (w : Int)), rfl, (by rw [len_tup, vec_len, g0.l]), .d (.int (w : Int)), ⟨[.sh (.tup (sumsD S))], [.un]⟩, rfl, rfl, rfl⟩
end Ev

namespace Ev
open PySem L2
/-- what sums make, each so many times -/
def addTo (p : Int) (w : Nat) (S : List (List Int)) (c : List Int) (j : Nat) : List Int := ((S.zip c).take j).foldl (fun acc a => lin p a.2 acc a.1) (List.replicate w 0)
def addM (p : Int) (w : Nat) (S : List (List Int)) (c : List Int) : List Int := addTo p w S c (S.zip c).length
theorem addTo_succ {p : Int} {w : Nat} {S : List (List Int)} {c : List Int} {j : Nat} {s : List Int} {k : Int} (h : (S.zip c)[j]? = some (s, k)) : addTo p w S c (j + 1) = lin p k (addTo p w S c j) s := by
  unfold addTo
  rw [take_succ_of h, List.foldl_append]
  rfl
theorem addTo_len {p : Int} {w : Nat} {S : List (List Int)} {c : List Int} (hS : ∀ s ∈ S, s.length = w) : ∀ j, (addTo p w S c j).length = w
  | 0 => by
    show (List.replicate w 0).length = w
    exact List.length_replicate ..
  | j + 1 => by
    cases e : (S.zip c)[j]? with
    | none =>
      have : addTo p w S c (j + 1) = addTo p w S c j := by
        unfold addTo
        rw [List.take_add_one, e]
        simp
      rw [this]
      exact addTo_len hS j
    | some a =>
      obtain ⟨s, k⟩ := a
      rw [addTo_succ e, lin_len, addTo_len hS j, hS s (List.of_mem_zip (List.mem_of_getElem? e)).1]
      omega
theorem zipSD {S : List (List Int)} {c : List Int} {j : Nat} {x : D} (h : (zipD (sumsD S) (vec c))[j]? = some x) : ∃ s k, (S.zip c)[j]? = some (s, k) ∧ s ∈ S ∧ k ∈ c ∧ x = .tup [.tup (vec s), .int k] := by
  obtain ⟨u, v, h1, h2, rfl⟩ := zipD_get _ _ _ _ h
  obtain ⟨s, hs, rfl⟩ := sumsD_get h1
  obtain ⟨g2, rfl⟩ := vec_get h2
  have hc : c[j]? = some (c.getD j 0) := by rw [getD_lt g2, List.getElem?_eq_getElem g2]
  refine ⟨s, c.getD j 0, ?_, List.mem_of_getElem? hs, List.mem_of_getElem? hc, rfl⟩
  rw [List.getElem?_zip_eq_some]
  exact ⟨hs, hc⟩
theorem zipSD_len {S : List (List Int)} {c : List Int} : (zipD (sumsD S) (vec c)).length = (S.zip c).length := by rw [zipD_length, sumsD_len, vec_len, List.length_zip]
def addF (p wi : Int) (S : List (List Int)) (c acc : List Int) (va of : Slot) : Env := ⟨[.sh (.int p), .sh (.int wi), .sh (.tup (sumsD S)), .sh (.tup (vec c)), .ow (vec acc), va, of, .un, .un], [.un, .un, .un, .un]⟩
def isMadeB (p : Int) (w : Nat) (S : List (List Int)) (t : List Int) (d : D) : Bool := valB p S.length d && decide (addM p w S (numsOf d) = t)
end Ev

namespace Ev
open PySem L2
/-! ### sorted rows -/
def rowP (a : Nat × List Int) : PyData := .tuple [.int (a.1 : Int), .list (a.2.map PyData.int)]
def rowD (a : Nat × List Int) : D := .tup [.int (a.1 : Int), .lst (vec a.2)]
theorem py_row (a : Nat × List Int) : (rowD a).py = some (rowP a) := by
  show (match D.pys [.int (a.1 : Int), .lst (vec a.2)] with | some ps => some (PyData.tuple ps) | none => none) = _
  have : D.pys [.int (a.1 : Int), .lst (vec a.2)] = some [.int (a.1 : Int), .list (a.2.map PyData.int)] := by
    unfold D.pys D.py
    unfold D.pys
    rw [py_lst]
    rfl
  rw [this]
  rfl
theorem pys_rows : ∀ rows : List (Nat × List Int), D.pys (rowsD rows) = some (rows.map rowP)
  | [] => rfl
  | a :: rows => by
    show D.pys (rowD a :: rowsD rows) = _
    unfold D.pys
    rw [py_row, pys_rows rows]
    rfl
theorem alike_ints : ∀ a b : List Int, PySem.W.alikeAll (a.map PyData.int) (b.map PyData.int) = true
  | [], _ => by
    show PySem.W.alikeAll [] _ = true
    unfold PySem.W.alikeAll
    rfl
  | _ :: _, [] => rfl
  | x :: a, y :: b => by
    show (PySem.W.alike (.int x) (.int y) && PySem.W.alikeAll (a.map PyData.int) (b.map PyData.int)) = true
    rw [alike_ints a b]
    rfl
theorem alike_rows (a b : Nat × List Int) : PySem.W.alike (rowP a) (rowP b) = true := by
  show (PySem.W.alike (.int (a.1 : Int)) (.int (b.1 : Int)) && (PySem.W.alikeAll (a.2.map PyData.int) (b.2.map PyData.int) && true)) = true
  rw [alike_ints]
  rfl
theorem toks_row (a : Nat × List Int) : PySem.W.keyToks (rowP a) = .inl 1 :: .inl (a.1 : Int) :: .inl 1 :: (PySem.W.keyToksAll (a.2.map PyData.int) ++ [.inl 0]) := rfl
theorem le_row {a b : Nat × List Int} (h : a.1 = b.1 → a = b) : leD (rowD a) (rowD b) = decide (a.1 ≤ b.1) := by
  have ea : (rowD a).pyd = rowP a := by unfold D.pyd; rw [py_row]; rfl
  have eb : (rowD b).pyd = rowP b := by unfold D.pyd; rw [py_row]; rfl
  show (!PyProof.Rows.lexLt PyProof.Rows.itemOrd (PySem.W.keyToks (rowD b).pyd) (PySem.W.keyToks (rowD a).pyd)) = _
  rw [ea, eb]
  by_cases e : a.1 = b.1
  · have := h e
    subst this
    have : PyProof.Rows.lexLt PyProof.Rows.itemOrd (PySem.W.keyToks (rowP a)) (PySem.W.keyToks (rowP a)) = false := PyProof.Rows.lex_irrefl _
    rw [this, decide_eq_true (Nat.le_refl _)]
    rfl
  · rw [toks_row, toks_row, PyProof.Rows.lex_cons, PyProof.Rows.lex_cons]
    show (!(decide ((1 : Int) < 1) || (!decide ((1 : Int) < 1) && (decide ((b.1 : Int) < (a.1 : Int)) || (!decide ((a.1 : Int) < (b.1 : Int)) && _))))) = _
    rcases Nat.lt_or_ge a.1 b.1 with hl | hl
    · rw [decide_eq_false (show ¬ (b.1 : Int) < (a.1 : Int) by omega), decide_eq_true (show (a.1 : Int) < (b.1 : Int) by omega), decide_eq_true (show a.1 ≤ b.1 by omega)]
      rfl
    · rw [decide_eq_true (show (b.1 : Int) < (a.1 : Int) by omega), decide_eq_false (show ¬ a.1 ≤ b.1 by omega)]
      rfl
def sortR (rows : List (Nat × List Int)) : List (Nat × List Int) := rows.mergeSort fun a b => decide (a.1 ≤ b.1)
theorem sort_rows {rows : List (Nat × List Int)} (h : ∀ a ∈ rows, ∀ b ∈ rows, a.1 = b.1 → a = b) : fSorted [.lst (rowsD rows)] = some (.nw (rowsD (sortR rows))) := by
  have e : sorted? (rowsD rows) = some (rowsD (sortR rows)) := by
    unfold sorted?
    rw [pys_rows]
    show (if (alikeB (rows.map rowP) && sortB (rows.map rowP) && deepB (rows.map rowP)) = true then some ((rowsD rows).mergeSort leD) else none) = _
    have c1 : alikeB (rows.map rowP) = true := List.all_eq_true.mpr fun p hp => List.all_eq_true.mpr fun q hq => by
      obtain ⟨a, _, rfl⟩ := List.mem_map.mp hp
      obtain ⟨b, _, rfl⟩ := List.mem_map.mp hq
      exact alike_rows a b
    have c2 : sortB (rows.map rowP) = true := by
      have : ((rows.map rowP).all isT1) = true := List.all_eq_true.mpr fun p hp => by
        obtain ⟨a, _, rfl⟩ := List.mem_map.mp hp
        rfl
      unfold sortB
      rw [this]
      rfl
    have c3 : deepB (rows.map rowP) = true := List.all_eq_true.mpr fun p hp => by
      obtain ⟨a, _, rfl⟩ := List.mem_map.mp hp
      show decide (max 0 (max (PyData.depthAll (a.2.map PyData.int) + 1) 0) + 1 ≤ 60) = true
      rw [dep_vec]
      rfl
    rw [c1, c2, c3]
    have := List.map_mergeSort (r := fun a b : Nat × List Int => decide (a.1 ≤ b.1)) (s := leD) (f := rowD) (l := rows) fun a ha b hb => (le_row (h a ha b hb)).symm
    show some ((rows.map rowD).mergeSort leD) = some ((sortR rows).map rowD)
    rw [← this]
    rfl
  show (match sorted? (rowsD rows) with | some ys => some (RB.nw ys) | none => none) = _
  rw [e]
/-- the law's own rows: 0 ahead of each one's place, places all unlike -/
structure LRows (p : Int) (w : Nat) (rows : List (Nat × List Int)) : Prop where
  g : ∀ a ∈ rows, a.1 < w ∧ a.2.length = w ∧ Rg p a.2
  one : ∀ a ∈ rows, p ∣ co a.2 a.1 - 1
  z : ∀ a ∈ rows, ∀ i, i < a.1 → co a.2 i = 0
  d : rows.Pairwise fun a b => a.1 ≠ b.1
theorem LRows.inj {p : Int} {w : Nat} {rows : List (Nat × List Int)} (h : LRows p w rows) : ∀ a ∈ rows, ∀ b ∈ rows, a.1 = b.1 → a = b := by
  have hd := h.d
  clear h
  induction hd with
  | nil => intro a ha; cases ha
  | cons hx _ ih =>
    intro a ha b hb e
    rcases List.mem_cons.mp ha with ea | ha'
    · rcases List.mem_cons.mp hb with eb | hb'
      · rw [ea, eb]
      · exact absurd (ea ▸ e) (hx b hb')
    · rcases List.mem_cons.mp hb with eb | hb'
      · exact absurd (eb ▸ e.symm) (hx a ha')
      · exact ih a ha' b hb' e
theorem stag_of {p : Int} : ∀ {rows : List (Nat × List Int)}, rows.Pairwise (fun a b => a.1 < b.1) → (∀ a ∈ rows, p ∣ co a.2 a.1 - 1) → (∀ a ∈ rows, ∀ i, i < a.1 → co a.2 i = 0) → Lin.Stag p (absR rows)
  | [], _, _, _ => trivial
  | a :: rows, hp, h1, h0 => by
    have hp := List.pairwise_cons.mp hp
    refine ⟨h1 a (by simp), fun b hb => ?_, stag_of hp.2 (fun b hb => h1 b (List.mem_cons_of_mem _ hb)) fun b hb => h0 b (List.mem_cons_of_mem _ hb)⟩
    obtain ⟨c, hc, rfl⟩ := absR_mem hb
    show p ∣ co c.2 a.1
    rw [h0 c (List.mem_cons_of_mem _ hc) a.1 (hp.1 c hc)]
    exact Lin.dv0 p
theorem sortR_perm (rows : List (Nat × List Int)) : (sortR rows).Perm rows := List.mergeSort_perm ..
theorem LRows.sorted {p : Int} {w : Nat} {rows : List (Nat × List Int)} (h : LRows p w rows) : Rows p w (sortR rows) := by
  have hm : ∀ a, a ∈ sortR rows → a ∈ rows := fun a ha => (sortR_perm rows).mem_iff.mp ha
  refine ⟨fun a ha => h.g a (hm a ha), stag_of ?_ (fun a ha => h.one a (hm a ha)) fun a ha => h.z a (hm a ha)⟩
  have h1 : (sortR rows).Pairwise fun a b => decide (a.1 ≤ b.1) = true := List.pairwise_mergeSort (le := fun a b : Nat × List Int => decide (a.1 ≤ b.1)) (fun a b c h1 h2 => by simp only [decide_eq_true_eq] at *; omega) (fun a b => by simp only [Bool.or_eq_true, decide_eq_true_eq]; omega) rows
  have h2 : (sortR rows).Pairwise fun a b => a.1 ≠ b.1 := ((sortR_perm rows).pairwise_iff fun {x y} h => Ne.symm h).mpr h.d
  refine (List.Pairwise.and h1 h2).imp ?_
  rintro a b ⟨h1, h2⟩
  have := of_decide_eq_true h1
  omega
theorem rs_sorted (rows : List (Nat × List Int)) (x : Lin.V) : Lin.RS (absR (sortR rows)) x ↔ Lin.RS (absR rows) x := by
  constructor
  · rintro ⟨q, h⟩
    obtain ⟨a, ha, e⟩ := List.mem_map.mp h
    exact ⟨q, List.mem_map.mpr ⟨a, (sortR_perm rows).mem_iff.mp ha, e⟩⟩
  · rintro ⟨q, h⟩
    obtain ⟨a, ha, e⟩ := List.mem_map.mp h
    exact ⟨q, List.mem_map.mpr ⟨a, (sortR_perm rows).mem_iff.mpr ha, e⟩⟩
end Ev

namespace Ev
open PySem L2
def falO (p : Int) (R : List D) (u : List Int) (s3 s4 : Slot) : Env := ⟨[.sh (.int p), .ow R, .ow (vec u), s3, s4], [.un, .att, .un]⟩
def falS (p : Int) (R : List D) (u : List Int) (s3 s4 : Slot) : Env := ⟨[.sh (.int p), .sh (.lst R), .ow (vec u), s3, s4], [.un, .un, .un]⟩
end Ev

namespace Ev
open PySem L2
structure LFound (p : Int) (w : Nat) (s : Nat → Lin.V) (k : Nat) (rows : List (Nat × List Int)) : Prop where
  r : LRows p w rows
  t : Lin.TI p w w s k (Lin.RS (absR rows))
theorem ti_congr {p : Int} {w n k : Nat} {s : Nat → Lin.V} {R R' : Lin.V → Prop} (h : ∀ x, R x ↔ R' x) (t : Lin.TI p w n s k R) : Lin.TI p w n s k R' :=
  ⟨fun j hj => (t.a j hj).mono fun x hx => (h x).mp hx, fun x hx => t.b x ((h x).mpr hx)⟩
theorem LFound.found {p : Int} {w k : Nat} {s : Nat → Lin.V} {rows : List (Nat × List Int)} (f : LFound p w s k rows) : Found p w w s k (sortR rows) :=
  ⟨f.r.sorted, fun a ha => (f.r.g a ((sortR_perm rows).mem_iff.mp ha)).1, ti_congr (fun x => (rs_sorted rows x).symm) f.t⟩
theorem LFound.nil {p : Int} {w : Nat} {s : Nat → Lin.V} : LFound p w s 0 [] := ⟨⟨fun a h => (by cases h), fun a h => (by cases h), fun a h => (by cases h), List.Pairwise.nil⟩, Lin.TI.nil⟩
theorem LFound.skip {p : Int} {w k : Nat} {s : Nat → Lin.V} {rows : List (Nat × List Int)} {u : List Int} (f : LFound p w s k rows) (hR : Lin.Red p w (absR (sortR rows)) (s k) (co u)) (h0 : ∀ i, i < w → u.getD i 0 = 0) : LFound p w s (k + 1) rows ∧ ¬ Lin.Tk p w s k := by
  obtain ⟨g, ht⟩ := f.found.skip (Nat.le_refl _) hR h0
  exact ⟨⟨f.r, ti_congr (rs_sorted rows) g.t⟩, ht⟩
theorem absR_snoc (rows : List (Nat × List Int)) (a : Nat × List Int) : absR (rows ++ [a]) = absR rows ++ [(a.1, co a.2)] := by
  unfold absR
  rw [List.map_append]
  rfl
theorem LFound.new {p : Int} {w k : Nat} {s : Nat → Lin.V} {rows : List (Nat × List Int)} {u : List Int} {q : Nat} {t : Int} (f : LFound p w s k rows) (hp : 1 < p) (hR : Lin.Red p w (absR (sortR rows)) (s k) (co u)) (hu : u.length = w) (hUR : Rg p u) (hq : q < w) (h0 : ∀ i, i < q → u.getD i 0 = 0) (ht : t * u.getD q 0 % p = 1) :
    LFound p w s (k + 1) (rows ++ [(q, mulr p t u)]) ∧ Lin.Tk p w s k := by
  obtain ⟨g, tk⟩ := f.found.new hp (Nat.le_refl _) hR hu hUR hq ht
  have hm : ∀ i, i < w → co (mulr p t u) i = u.getD i 0 * t % p := fun i hi => by rw [co_eq, mulr_at (by omega)]
  refine ⟨⟨⟨fun a h => ?_, fun a h => ?_, fun a h i hi => ?_, ?_⟩, ?_⟩, tk⟩
  · rcases List.mem_append.mp h with h | h
    · exact f.r.g a h
    · simp at h
      subst h
      exact ⟨hq, by rw [← hu]; exact mulr_len _ _ _, mulr_rg (by omega)⟩
  · rcases List.mem_append.mp h with h | h
    · exact f.r.one a h
    · simp at h
      subst h
      show p ∣ co (mulr p t u) q - 1
      rw [hm q hq, Int.mul_comm, ht]
      exact Lin.dv0 p
  · rcases List.mem_append.mp h with h | h
    · exact f.r.z a h i hi
    · simp at h
      subst h
      have hi : i < q := hi
      show co (mulr p t u) i = 0
      rw [hm i (by omega), h0 i hi, Int.zero_mul, Int.zero_emod]
  · rw [List.pairwise_append]
    refine ⟨f.r.d, List.pairwise_singleton .., fun a ha b hb e => ?_⟩
    simp at hb
    subst hb
    have e : a.1 = q := e
    have hz : p ∣ co u a.1 := hR.z (a.1, co a.2) (List.mem_map.mpr ⟨a, (sortR_perm rows).mem_iff.mpr ha, rfl⟩)
    rw [e] at hz
    obtain ⟨g0, g1⟩ := hUR.at (j := q) (by omega)
    refine ndv (fun z => ?_) g0 g1 hz
    rw [z, Int.mul_zero, Int.zero_emod] at ht
    omega
  · refine ti_congr (fun x => ?_) g.t
    rw [absR_snoc, absR_snoc, Lin.rs_snoc, Lin.rs_snoc, rs_sorted]
/-- the places that are not 0 -/
def plist (u : List Int) : List Nat := (List.range u.length).filter fun i => decide (u.getD i 0 ≠ 0)
theorem plist_nil {u : List Int} (h : plist u = []) : ∀ i, i < u.length → u.getD i 0 = 0 := fun i hi => by
  apply Classical.byContradiction
  intro hn
  have : i ∈ plist u := List.mem_filter.mpr ⟨List.mem_range.mpr hi, decide_eq_true hn⟩
  rw [h] at this
  cases this
theorem plist_cons {u : List Int} {q : Nat} {r : List Nat} (h : plist u = q :: r) : q < u.length ∧ u.getD q 0 ≠ 0 ∧ ∀ i, i < q → u.getD i 0 = 0 := by
  have hq : q ∈ plist u := by rw [h]; simp
  obtain ⟨h1, h2⟩ := List.mem_filter.mp hq
  have h1 := List.mem_range.mp h1
  refine ⟨h1, of_decide_eq_true h2, fun i hi => ?_⟩
  apply Classical.byContradiction
  intro hn
  have hm : i ∈ plist u := List.mem_filter.mpr ⟨List.mem_range.mpr (by omega), decide_eq_true hn⟩
  have hs : (plist u).Pairwise (· < ·) := List.Pairwise.filter _ List.pairwise_lt_range
  rw [h] at hs hm
  rcases List.mem_cons.mp hm with e | e
  · omega
  · have := (List.pairwise_cons.mp hs).1 i e
    omega
def nats (fs : List Nat) : List D := fs.map fun k : Nat => D.int (k : Int)
theorem nats_len (fs : List Nat) : (nats fs).length = fs.length := List.length_map ..
theorem enum_vec {u : List Int} {j : Nat} {x : D} (h : (enumD 0 (vec u))[j]? = some x) : j < u.length ∧ x = .tup [.int (0 + (j : Int)), .int (u.getD j 0)] := by
  obtain ⟨a, ha, rfl⟩ := enumD_get _ _ _ _ h
  obtain ⟨h1, rfl⟩ := vec_get ha
  exact ⟨h1, rfl⟩
def tkF (p : Int) (S : List (List Int)) (fs : List Nat) (rows : List (Nat × List Int)) (s4 s5 s6 s7 s8 : Slot) : Env := ⟨[.sh (.int p), .sh (.tup (sumsD S)), .ow (nats fs), .ow (rowsD rows), s4, s5, s6, s7, s8, .un, .un], [.un, .un]⟩
/-- what is taken -/
structure Taken (p : Int) (w : Nat) (s : Nat → Lin.V) (k : Nat) (fs : List Nat) : Prop where
  m : ∀ j, j ∈ fs ↔ j < k ∧ Lin.Tk p w s j
  o : fs.Pairwise (· < ·)
theorem Taken.skip {p : Int} {w k : Nat} {s : Nat → Lin.V} {fs : List Nat} (h : Taken p w s k fs) (ht : ¬ Lin.Tk p w s k) : Taken p w s (k + 1) fs := ⟨fun j => by
  rw [h.m]
  constructor
  · rintro ⟨a, b⟩
    exact ⟨by omega, b⟩
  · rintro ⟨a, b⟩
    have : j ≠ k := fun e => ht (e ▸ b)
    exact ⟨by omega, b⟩, h.o⟩
theorem Taken.new {p : Int} {w k : Nat} {s : Nat → Lin.V} {fs : List Nat} (h : Taken p w s k fs) (ht : Lin.Tk p w s k) : Taken p w s (k + 1) (fs ++ [k]) := by
  refine ⟨fun j => ?_, ?_⟩
  · rw [List.mem_append, h.m]
    constructor
    · rintro (⟨a, b⟩ | e)
      · exact ⟨by omega, b⟩
      · simp at e
        subst e
        exact ⟨by omega, ht⟩
    · rintro ⟨a, b⟩
      rcases Nat.lt_or_ge j k with e | e
      · exact .inl ⟨e, b⟩
      · have : j = k := by omega
        exact .inr (by simp [this])
  · rw [List.pairwise_append]
    refine ⟨h.o, List.pairwise_singleton .., fun a ha b hb => ?_⟩
    simp at hb
    subst hb
    exact ((h.m a).mp ha).1
end Ev

namespace Ev
open PySem L2
/-- the columns that are solved for, and the thing -/
def cols (S : List (List Int)) (fs : List Nat) (t : List Int) : Nat → Lin.V := fun j => if j < fs.length then row S (fs.getD j 0) else co t
theorem fs_get {fs : List Nat} {j : Nat} (h : j < fs.length) : fs[j]? = some (fs.getD j 0) := by
  rw [List.getD_eq_getElem?_getD, List.getElem?_eq_getElem h]
  rfl
theorem cols_lt {S : List (List Int)} {fs : List Nat} {t : List Int} {j : Nat} (h : j < fs.length) : cols S fs t j = row S (fs.getD j 0) := if_pos h
theorem cols_r {S : List (List Int)} {fs : List Nat} {t : List Int} : cols S fs t fs.length = co t := if_neg (by omega)
section
variable {p : Int} {w : Nat} {S : List (List Int)} {fs : List Nat} {t : List Int}
theorem ts_comb {s : Nat → Lin.V} {m : Nat} (h : Taken p w s m fs) {v : Lin.V} (hv : Lin.Sp p w (Lin.TS p w s m) v) : ∃ y : Nat → Int, ∀ i, i < w → p ∣ v i - Lin.sumTo fs.length (fun j => y j * s (fs.getD j 0) i) := by
  induction hv with
  | @zero v h0 => exact ⟨fun _ => 0, fun i hi => Lin.dvSub (h0 i hi) (Lin.sumTo_dv fun j hj => ⟨0, by simp⟩)⟩
  | @add x u v c hs hu e ih =>
    obtain ⟨y, hy⟩ := ih
    obtain ⟨k, hk, htk, rfl⟩ := hs
    obtain ⟨j0, hj0⟩ := List.mem_iff_getElem?.mp ((h.m k).mpr ⟨hk, htk⟩)
    have hjl : j0 < fs.length := by
      obtain ⟨z, _⟩ := List.getElem?_eq_some_iff.mp hj0
      exact z
    have hk0 : fs.getD j0 0 = k := by
      have := fs_get hjl
      rw [hj0] at this
      exact (Option.some.inj this).symm
    refine ⟨fun j => y j + (if j = j0 then c else 0), fun i hi => ?_⟩
    have e1 : Lin.sumTo fs.length (fun j => (y j + (if j = j0 then c else 0)) * s (fs.getD j 0) i) = Lin.sumTo fs.length (fun j => y j * s (fs.getD j 0) i) + Lin.sumTo fs.length (fun j => (if j = j0 then c else 0) * s (fs.getD j 0) i) := by
      rw [← Lin.sumTo_add]
      exact Lin.sumTo_eq fun j _ => by rw [Int.add_mul]
    have e2 := Lin.sumTo_delta (p := p) (f := fun j => (if j = j0 then c else 0) * s (fs.getD j 0) i) (a := c * s k i) hjl (by
      show p ∣ (if j0 = j0 then c else 0) * s (fs.getD j0 0) i - _
      rw [if_pos rfl, hk0, Int.sub_self]
      exact Lin.dv0 p) fun j _ hn => by
      show p ∣ (if j = j0 then c else 0) * s (fs.getD j 0) i
      rw [if_neg hn, Int.zero_mul]
      exact Lin.dv0 p
    rw [e1]
    exact Lin.dvOf (Lin.dvSub (Lin.dvAdd (e i hi) (hy i hi)) e2) (by omega)
/-- in each column there is a row that isn't 0 there -/
theorem pivot {A : List (List Int)} {c : Nat} (h : Taken p w (row S) S.length fs) (g : Lin.GJ p w (fs.length + 1) (cols S fs t) c (row A)) (hc : c < fs.length) : ∃ i, c ≤ i ∧ i < w ∧ row A i c ≠ 0 := by
  apply Classical.byContradiction
  intro hn
  have hz : ∀ i, c ≤ i → i < w → p ∣ row A i c := fun i h1 h2 => by
    have : row A i c = 0 := Classical.byContradiction fun q => hn ⟨i, h1, h2, q⟩
    rw [this]
    exact Lin.dv0 p
  have e := g.zero (by omega) hz
  have hm := (h.m (fs.getD c 0)).mp (List.mem_of_getElem? (fs_get hc))
  refine hm.2 ?_
  have hsp : Lin.Sp p w (Lin.Pre (row S) (fs.getD c 0)) (fun i => Lin.sumTo c (fun j => row A j c * cols S fs t j i)) := Lin.sp_sum (s := cols S fs t) (e := fun j => row A j c) fun j hj => by
    refine ⟨fs.getD j 0, ?_, cols_lt (by omega)⟩
    have := List.pairwise_iff_getElem.mp h.o j c (by omega) hc hj
    rw [List.getD_eq_getElem?_getD, List.getD_eq_getElem?_getD, List.getElem?_eq_getElem hc, List.getElem?_eq_getElem (show j < fs.length by omega)]
    exact this
  refine hsp.congr fun i hi => ?_
  have := e i hi
  rw [cols_lt hc] at this
  exact this
theorem not_made {A : List (List Int)} (h : Taken p w (row S) S.length fs) (g : Lin.GJ p w (fs.length + 1) (cols S fs t) fs.length (row A)) {i : Nat} (h1 : fs.length ≤ i) (h2 : i < w) (hn : ¬ p ∣ row A i fs.length) : ¬ Lin.Sp p w (Lin.Pre (row S) S.length) (co t) := fun hs => by
  obtain ⟨y, hy⟩ := ts_comb h (Lin.ts_of hs)
  refine hn (g.none (y := y) (fun i hi => ?_) i h1 h2)
  rw [cols_r, Lin.sumTo_eq (g := fun j => y j * row S (fs.getD j 0) i) fun j hj => by rw [cols_lt hj]]
  exact hy i hi
theorem sum_set {F : List Int} {k0 : Nat} {x : Int} {g : Nat → Int} (hk : k0 < F.length) (h0 : F.getD k0 0 = 0) : ∀ m, k0 < m → Lin.sumTo m (fun k => (F.set k0 x).getD k 0 * g k) = Lin.sumTo m (fun k => F.getD k 0 * g k) + x * g k0
  | m + 1, h => by
    have off : ∀ k, k ≠ k0 → (F.set k0 x).getD k 0 = F.getD k 0 := fun k hn => by
      rw [List.getD_eq_getElem?_getD, List.getD_eq_getElem?_getD, List.getElem?_set, if_neg (Ne.symm hn)]
    simp only [Lin.sumTo]
    rcases Nat.lt_or_ge k0 m with hl | hl
    · rw [sum_set hk h0 m hl, off m (by omega)]
      omega
    · have e : k0 = m := by omega
      subst e
      rw [Lin.sumTo_eq (g := fun k => F.getD k 0 * g k) fun k hk => by rw [off k (by omega)]]
      have : (F.set k0 x).getD k0 0 = x := by rw [List.getD_eq_getElem?_getD, List.getElem?_set, if_pos rfl, if_pos hk]; rfl
      rw [this, h0]
      omega
end
/-! ### one answer alone -/
theorem prime_inv {p : Int} (hpp : p ∈ primes) (a : Int) (h : ¬ p ∣ a) : ∃ b, p ∣ b * a - 1 := by
  obtain ⟨hp1, hp2⟩ := primes_lt hpp
  have h0 : a % p ≠ 0 := fun z => h (Int.dvd_of_emod_eq_zero z)
  have h1 := Int.emod_nonneg a (show p ≠ 0 by omega)
  have h2 := Int.emod_lt_of_pos a (show 0 < p by omega)
  obtain ⟨t, _, _, _, ht⟩ := inverse_ok hpp (v := a % p) (by omega) h2
  refine ⟨t, ?_⟩
  have e1 := dv_of_mod ht
  have e2 := Lin.dvMul t (dv_mod p a)
  rw [Int.mul_sub] at e2
  exact Lin.dvOf (Lin.dvSub e1 e2) (by omega)
theorem eq_of_dv {p x y : Int} (hx : 0 ≤ x ∧ x < p) (hy : 0 ≤ y ∧ y < p) (h : p ∣ x - y) : x = y := by
  obtain ⟨c, hc⟩ := h
  rcases Int.lt_or_le 0 c with h | h
  · have : p * 1 ≤ p * c := Int.mul_le_mul_of_nonneg_left (by omega) (by omega)
    omega
  · rcases Int.lt_or_le c 0 with h' | h'
    · have : p * c ≤ p * (-1) := Int.mul_le_mul_of_nonneg_left (by omega) (by omega)
      omega
    · have : c = 0 := by omega
      subst this
      omega
theorem eq_of_co {p : Int} {a b : List Int} (ha : Rg p a) (hb : Rg p b) (hl : a.length = b.length) (h : ∀ i, i < a.length → p ∣ co a i - co b i) : a = b := by
  apply List.ext_getElem hl
  intro i h1 h2
  rw [← getD_lt h1, ← getD_lt h2]
  exact eq_of_dv (ha.at h1) (hb.at h2) (h i h1)
theorem MadeOf.eq {p : Int} {w : Nat} {S : List (List Int)} {t : List Int} {d e : D} (hpp : p ∈ primes) (hd : MadeOf p w S t d) (he : MadeOf p w S t e) : d = e := by
  rcases hd with ⟨rfl, hn⟩ | ⟨c, rfl, hl, hR, hm⟩
  · rcases he with ⟨rfl, _⟩ | ⟨c, rfl, hl, hR, hm⟩
    · rfl
    · exact absurd hm.sp hn
  · rcases he with ⟨rfl, hn⟩ | ⟨c', rfl, hl', hR', hm'⟩
    · exact absurd hm.sp hn
    · rw [eq_of_co hR hR' (by omega) fun i hi => hm.uniq (prime_inv hpp) hm' i (by omega)]
end Ev

namespace Ev
open PySem L2
section
variable {ρ : Env} {nx : Env → Prop} {rt : B → Env → Prop} {bk : Env → Prop}
theorem ixN_ok {n i : Nat} (h : i < n) : ixN n (i : Int) = some i := by
  unfold ixN
  rw [if_pos (by omega), if_pos (by omega), Int.toNat_natCast]
theorem ws_seti2 {i : Nat} {ix1 ix2 v : E} (h : W (evE v ρ) fun b ρ1 => ∃ d1 d2 ρ2, b.keep ρ1 = some (.tup [d1, d2], ρ2) ∧ (∃ xs, ρ2.v[i]? = some (.ow xs)) ∧ W (evE ix1 ρ2) fun k ρ3 => ∃ z xs j, k.view ρ3 = some (.int z) ∧ ρ3.v[i]? = some (.ow xs) ∧ ixN xs.length z = some j ∧
      (∃ ys, (ρ3.setv i (.ow (xs.set j d1))).v[i]? = some (.ow ys)) ∧ W (evE ix2 (ρ3.setv i (.ow (xs.set j d1)))) fun k2 ρ5 => ∃ z2 ys j2, k2.view ρ5 = some (.int z2) ∧ ρ5.v[i]? = some (.ow ys) ∧ ixN ys.length z2 = some j2 ∧ nx (ρ5.setv i (.ow (ys.set j2 d2)))) : WS (evS (.seti2 i ix1 ix2 v) ρ) nx rt bk := by
  unfold WS
  rw [evS]
  refine W.bind (r := evE v ρ) (W.mono h fun b ρ1 ⟨d1, d2, ρ2, h1, ⟨xs0, h2⟩, h3⟩ => ?_)
  simp only [h1]
  unfold setAt
  rw [h2]
  refine W.bind (r := evE ix1 ρ2) (W.mono h3 fun k ρ3 ⟨z, xs, j, k1, k2, k3, ⟨ys0, k4⟩, k5⟩ => ?_)
  simp only [k1, k2, k3, k4]
  refine W.bind (r := evE ix2 _) (W.mono k5 fun k' ρ5 ⟨z2, ys, j2, m1, m2, m3, m4⟩ => ?_)
  simp only [m1, m2, m3]
  exact m4
end
structure Mat (p : Int) (w n : Nat) (A : List (List Int)) : Prop where
  l : A.length = w
  g : ∀ v ∈ A, v.length = n ∧ Rg p v
theorem matD_len (A : List (List Int)) : (matD A).length = A.length := List.length_map ..
theorem matD_at {A : List (List Int)} {n : Nat} (h : n < A.length) : (matD A)[n]? = some (.lst (vec (A.getD n []))) := by
  unfold matD
  rw [List.getElem?_map, getD_get h]
  rfl
theorem matD_set (A : List (List Int)) (n : Nat) (v : List Int) : (matD A).set n (.lst (vec v)) = matD (A.set n v) := by
  unfold matD
  rw [List.map_set]
theorem getD_set_eq {A : List (List Int)} {n : Nat} {v : List Int} (h : n < A.length) : (A.set n v).getD n [] = v := by
  rw [List.getD_eq_getElem?_getD, List.getElem?_set, if_pos rfl, if_pos h]
  rfl
theorem getD_set_ne {A : List (List Int)} {n i : Nat} {v : List Int} (h : i ≠ n) : (A.set n v).getD i [] = A.getD i [] := by
  rw [List.getD_eq_getElem?_getD, List.getD_eq_getElem?_getD, List.getElem?_set, if_neg (Ne.symm h)]
section
variable {p : Int} {w n : Nat} {A : List (List Int)}
theorem Mat.at (h : Mat p w n A) {i : Nat} (hi : i < w) : (A.getD i []).length = n ∧ Rg p (A.getD i []) := h.g _ (getD_memL (by rw [h.l]; exact hi))
theorem Mat.set (h : Mat p w n A) {i : Nat} {v : List Int} (hv : v.length = n ∧ Rg p v) : Mat p w n (A.set i v) := by
  refine ⟨by rw [List.length_set, h.l], fun x hx => ?_⟩
  rcases List.mem_or_eq_of_mem_set hx with h' | rfl
  · exact h.g x h'
  · exact hv
theorem Mat.ixRow (h : Mat p w n A) {i : Nat} {ii : Int} (e : ii = i) (hi : i < w) : fIx [.lst (matD A), .int ii] = some (.d (.lst (vec (A.getD i [])))) := by
  rw [e]
  exact ix_lst (matD_at (by rw [h.l]; exact hi))
theorem Mat.ixVal (h : Mat p w n A) {i j : Nat} {ji : Int} (e : ji = j) (hi : i < w) (hj : j < n) : fIx [.lst (vec (A.getD i [])), .int ji] = some (.d (.int (row A i j))) := by
  rw [e]
  exact ix_lst (vec_at (by rw [(h.at hi).1]; exact hj))
theorem Mat.rg (h : Mat p w n A) {i j : Nat} (hi : i < w) (hj : j < n) : 0 ≤ row A i j ∧ row A i j < p := (h.at hi).2.at (by rw [(h.at hi).1]; exact hj)
end
theorem first_some : ∀ {ys : List (Option D)}, (∃ d, some d ∈ ys) → ∃ d rest, ys.filterMap id = d :: rest ∧ some d ∈ ys
  | [], h => by obtain ⟨d, h⟩ := h; cases h
  | some d :: ys, _ => ⟨d, ys.filterMap id, rfl, by simp⟩
  | none :: ys, h => by
    obtain ⟨d, h⟩ := h
    rcases List.mem_cons.mp h with e | h
    · cases e
    · obtain ⟨d, rest, e, hd⟩ := first_some ⟨d, h⟩
      exact ⟨d, rest, e, List.mem_cons_of_mem _ hd⟩
def startA (S : List (List Int)) (fs : List Nat) (t : List Int) : List (List Int) := (List.range t.length).map fun pl => (fs.map fun k => (S.getD k []).getD pl 0) ++ [t.getD pl 0]
theorem startA_len (S : List (List Int)) (fs : List Nat) (t : List Int) : (startA S fs t).length = t.length := by unfold startA; rw [List.length_map, List.length_range]
theorem startA_get {S : List (List Int)} {fs : List Nat} {t : List Int} {pl : Nat} (h : pl < t.length) : (startA S fs t)[pl]? = some ((fs.map fun k => (S.getD k []).getD pl 0) ++ [t.getD pl 0]) := by
  unfold startA
  rw [List.getElem?_map, List.getElem?_range h]
  rfl
theorem startA_row {S : List (List Int)} {fs : List Nat} {t : List Int} {i c : Nat} (hi : i < t.length) (hc : c < fs.length + 1) : row (startA S fs t) i c = cols S fs t c i := by
  rw [row_of (startA_get hi), co_eq]
  unfold cols
  rcases Nat.lt_or_ge c fs.length with h | h
  · rw [if_pos h, List.getD_eq_getElem?_getD, List.getElem?_append_left (by rw [List.length_map]; exact h), List.getElem?_map, fs_get h]
    rfl
  · have e : c = fs.length := by omega
    subst e
    rw [if_neg (by omega), List.getD_eq_getElem?_getD, List.getElem?_append_right (by rw [List.length_map]; omega), List.length_map, Nat.sub_self]
    rfl
theorem getD_rg {p : Int} {v : List Int} (hp : 0 < p) (h : Rg p v) (i : Nat) : 0 ≤ v.getD i 0 ∧ v.getD i 0 < p := by
  rcases Nat.lt_or_ge i v.length with hi | hi
  · exact h.at hi
  · rw [List.getD_eq_getElem?_getD, List.getElem?_eq_none hi]
    exact ⟨Int.le_refl _, hp⟩
theorem startA_mat {p : Int} {w : Nat} {S : List (List Int)} {fs : List Nat} {t : List Int} (hp : 0 < p) (ht : t.length = w) (htR : Rg p t) (hS : ∀ s ∈ S, Rg p s) (hfs : ∀ k ∈ fs, k < S.length) : Mat p w (fs.length + 1) (startA S fs t) := by
  refine ⟨by rw [startA_len, ht], fun v hv => ?_⟩
  obtain ⟨pl, hpl, rfl⟩ := List.mem_map.mp hv
  refine ⟨by rw [List.length_append, List.length_map]; rfl, fun x hx => ?_⟩
  rcases List.mem_append.mp hx with h | h
  · obtain ⟨k, hk, rfl⟩ := List.mem_map.mp h
    exact getD_rg hp (hS _ (getD_memL (hfs k hk))) pl
  · simp at h
    subst h
    exact getD_rg hp htR pl
/-! ### the parts of the solving -/
def mdF (p : Int) (S : List (List Int)) (t : List Int) (fs : List Nat) (L s5 s6 s7 s8 s9 s10 s11 : Slot) : Env := ⟨[.sh (.int p), .sh (.tup (sumsD S)), .sh (.tup (vec t)), .sh (.lst (nats fs)), L, s5, s6, s7, s8, s9, s10, s11, .un, .un], [.un, .un, .un]⟩
end Ev

namespace Ev
open PySem L2
theorem lock1_eq (s : Slot) : lock1 s false = s := by cases s <;> rfl
theorem unlock1_eq (s : Slot) (o : Option Slot) : unlock1 s o false = s := by cases s <;> cases o <;> first | rfl | (rename_i x; cases x <;> rfl)
theorem new1_eq (s : Slot) : new1 s none = s := by cases s <;> rfl
end Ev

namespace Ev
open PySem L2
theorem nats_get {fs : List Nat} {j : Nat} {x : D} (h : (nats fs)[j]? = some x) : j < fs.length ∧ x = .int ((fs.getD j 0 : Nat) : Int) := by
  unfold nats at h
  rw [List.getElem?_map] at h
  cases e : fs[j]? with
  | none => rw [e] at h; cases h
  | some a =>
    rw [e] at h
    cases h
    obtain ⟨h1, h2⟩ := List.getElem?_eq_some_iff.mp e
    exact ⟨h1, by rw [List.getD_eq_getElem?_getD, e]; rfl⟩
theorem sumsD_at {S : List (List Int)} {k : Nat} (h : k < S.length) : (sumsD S)[k]? = some (.tup (vec (S.getD k []))) := by
  unfold sumsD
  rw [List.getElem?_map, getD_get h]
  rfl
theorem ix_last {v : List Int} {n : Nat} (h : v.length = n + 1) : fIx [.lst (vec v), .int (-1)] = some (.d (.int (v.getD n 0))) := by
  have e : atI (vec v) (-1) = some (.int (v.getD n 0)) := by
    unfold atI ixN
    rw [if_neg (by omega), vec_len, h, if_pos (by omega)]
    show (vec v)[(-1 + ((n + 1 : Nat) : Int)).toNat]? = _
    rw [show (-1 + ((n + 1 : Nat) : Int)).toNat = n by omega]
    exact vec_at (by omega)
  show (match atI (vec v) (-1) with | some d => some (RB.d d) | none => none) = _
  rw [e]
def lastNZ (r : Nat) (v : List Int) : Bool := !decide (v.getD r 0 = 0)
theorem rep_getD (n i : Nat) : (List.replicate n (0 : Int)).getD i 0 = 0 := co_rep n i
theorem asc_le {fs : List Nat} (h : fs.Pairwise (· < ·)) : ∀ (j : Nat) (hj : j < fs.length), j ≤ fs[j]
  | 0, _ => Nat.zero_le _
  | j + 1, hj => by
    have h1 := asc_le h j (by omega)
    have h2 := List.pairwise_iff_getElem.mp h j (j + 1) (by omega) hj (by omega)
    omega
theorem asc_len {fs : List Nat} {m : Nat} (h : fs.Pairwise (· < ·)) (hm : ∀ k ∈ fs, k < m) : fs.length ≤ m := by
  rcases Nat.eq_zero_or_pos fs.length with e | e
  · omega
  · have h1 := asc_le h (fs.length - 1) (by omega)
    have h2 := hm _ (List.getElem_mem (show fs.length - 1 < fs.length by omega))
    omega
/-- what is filled in -/
structure Fill (p : Int) (S : List (List Int)) (fs : List Nat) (t : List Int) (A : List (List Int)) (j : Nat) (F : List Int) : Prop where
  l : F.length = S.length
  r : Rg p F
  z : ∀ k, k ∉ fs.take j → F.getD k 0 = 0
  e : ∀ i, Lin.sumTo S.length (fun k => F.getD k 0 * row S k i) = Lin.sumTo j (fun l => row A l fs.length * cols S fs t l i)
theorem Fill.nil {p : Int} {S : List (List Int)} {fs : List Nat} {t : List Int} {A : List (List Int)} (hp : 0 < p) : Fill p S fs t A 0 (List.replicate S.length 0) := by
  refine ⟨List.length_replicate .., rg_rep hp _, fun k _ => rep_getD _ k, fun i => ?_⟩
  rw [Lin.sumTo_eq (g := fun _ => 0 * 0) fun k _ => by rw [rep_getD, Int.zero_mul, Int.zero_mul], Lin.sumTo_mul]
  simp [Lin.sumTo]
theorem Fill.step {p : Int} {S : List (List Int)} {fs : List Nat} {t : List Int} {A : List (List Int)} {j : Nat} {F : List Int} (h : Fill p S fs t A j F) (hj : j < fs.length) (hk : fs.getD j 0 < S.length) (ho : fs.Pairwise (· < ·)) (hx : 0 ≤ row A j fs.length ∧ row A j fs.length < p) : Fill p S fs t A (j + 1) (F.set (fs.getD j 0) (row A j fs.length)) := by
  have hn : fs.getD j 0 ∉ fs.take j := fun hm => by
    obtain ⟨i, hi, e⟩ := List.mem_iff_getElem.mp hm
    rw [List.length_take] at hi
    rw [List.getElem_take] at e
    have := List.pairwise_iff_getElem.mp ho i j (by omega) hj (by omega)
    rw [e, List.getD_eq_getElem?_getD, List.getElem?_eq_getElem hj] at this
    exact absurd this (Nat.lt_irrefl _)
  refine ⟨by rw [List.length_set, h.l], fun x hx' => ?_, fun k hk' => ?_, fun i => ?_⟩
  · rcases List.mem_or_eq_of_mem_set hx' with h' | rfl
    · exact h.r x h'
    · exact hx
  · rw [take_succ_of (fs_get hj), List.mem_append, not_or] at hk'
    have hne : k ≠ fs.getD j 0 := fun e => hk'.2 (by simp [e])
    rw [List.getD_eq_getElem?_getD, List.getElem?_set, if_neg (Ne.symm hne), ← List.getD_eq_getElem?_getD]
    exact h.z k hk'.1
  · rw [sum_set (by rw [h.l]; exact hk) (h.z _ hn) S.length hk, h.e i]
    simp only [Lin.sumTo]
    rw [cols_lt hj]
end Ev

namespace Ev
open PySem L2
def nz (x : Int) : Bool := !decide (x = 0)
theorem any_nz {p : Int} {w : Nat} {v : List Int} (hl : v.length = w) (hR : Rg p v) (h : v.any nz = true) : Good p w v := by
  refine ⟨hl, hR, fun e => ?_⟩
  obtain ⟨x, hx, hn⟩ := List.any_eq_true.mp h
  rw [e] at hx
  have := List.eq_of_mem_replicate hx
  rw [this] at hn
  cases hn
def smF (h : List D) (p wi : Int) (s3 s4 s5 : Slot) : Env := ⟨[.ow h, .sh (.int p), .sh (.int wi), s3, s4, s5, .un], [.att, .un, .un]⟩
def mixS (h : List D) (p : Int) (L : List D) (s3 s4 s5 s6 : Slot) : Env := ⟨[.ow h, .sh (.int p), .sh (.tup L), s3, s4, s5, s6, .un, .un, .un], [.att, .un, .un]⟩
def mixO (h : List D) (p : Int) (L : List D) (s3 s4 s5 s6 : Slot) : Env := ⟨[.ow h, .sh (.int p), .ow L, s3, s4, s5, s6, .un, .un, .un], [.att, .un, .att]⟩
end Ev

namespace Ev
open PySem L2
def susF (h : List D) (p wi mo : Int) (s4 s5 s6 : Slot) : Env := ⟨[.ow h, .sh (.int p), .sh (.int wi), .sh (.int mo), s4, s5, s6], [.att, .un, .un, .un]⟩
theorem sumsD_snoc (S : List (List Int)) (s : List Int) : sumsD S ++ [.tup (vec s)] = sumsD (S ++ [s]) := by
  unfold sumsD
  rw [List.map_append]
  rfl
end Ev

namespace Ev
open PySem L2
def okdB (d : D) : Bool := d.tyN.isSome && match d with
  | .tup xs => decide (xs.length ≤ 1000) && xs.all fun x => x.tyN.isSome
  | _ => true
theorem dat_of {d : D} (h : d.tyN.isSome = true) : dat d := Option.isSome_iff_exists.mp h
theorem okdB_ok {d : D} (h : okdB d = true) : Okd d := by
  unfold okdB at h
  rw [Bool.and_eq_true] at h
  refine ⟨dat_of h.1, fun xs e => ?_⟩
  subst e
  have h2 : (decide (xs.length ≤ 1000) && xs.all fun x => x.tyN.isSome) = true := h.2
  rw [Bool.and_eq_true, decide_eq_true_eq, List.all_eq_true] at h2
  exact ⟨h2.1, fun x hx => dat_of (h2.2 x hx)⟩
theorem okd_tup1 {d : D} (h : dat d) : Okd (.tup [d]) := ⟨⟨_, rfl⟩, fun xs e => by
  cases e
  exact ⟨by simp, fun x hx => by
    simp at hx
    subst hx
    exact h⟩⟩
theorem okd_lst (xs : List D) : Okd (.lst xs) := ⟨⟨_, rfl⟩, fun ys e => by cases e⟩
def Sl (s : Slot) : Prop := (∃ d, Okd d ∧ s = .sh d) ∨ ∃ d, dat d ∧ s = .ow [d]
def oddL : List D := [.non, .bl true, .bl false, .int (-1), .int 13, .int 252, .int (10 ^ 59), .str "0", .str "", .tup [], .lst [], .dk [] [], .tup [.int 0], .lst [.int 0], .tup [.bl true], .tup [.str "0"], .tup [.non, .int 0]]
end Ev

namespace Ev
open PySem L2
def bnF (h : List D) (p : Int) (S : List (List Int)) (v : List Int) (s4 s5 s6 s7 s8 s9 s10 : Slot) : Env := ⟨[.ow h, .sh (.int p), .sh (.tup (sumsD S)), .sh (.tup (vec v)), s4, s5, s6, s7, s8, s9, s10], [.att, .un, .un, .un]⟩
theorem okd_tup {xs : List D} (hl : xs.length ≤ 1000) (h : ∀ x ∈ xs, dat x) : Okd (.tup xs) := ⟨⟨_, rfl⟩, fun ys e => by
  cases e
  exact ⟨hl, h⟩⟩
theorem dat_vec {v : List Int} : ∀ x ∈ vec v, dat x := fun x hx => by
  obtain ⟨i, _, rfl⟩ := List.mem_map.mp hx
  exact ⟨_, rfl⟩
theorem okd_sums {S : List (List Int)} (h : S.length ≤ 1000) : Okd (.tup (sumsD S)) := okd_tup (by rw [sumsD_len]; exact h) fun x hx => by
  obtain ⟨i, _, rfl⟩ := List.mem_map.mp hx
  exact ⟨_, rfl⟩
theorem sumsD_take (S : List (List Int)) (n : Nat) : (sumsD S).take n = sumsD (S.take n) := by
  unfold sumsD
  rw [List.map_take]
end Ev

namespace Ev
open PySem L2
/-! ### what sums make -/
theorem addTo_co {p : Int} {w : Nat} {S : List (List Int)} {c : List Int} (hS : ∀ s ∈ S, s.length = w) (hl : c.length = S.length) : ∀ j, j ≤ S.length → ∀ i, i < w → p ∣ co (addTo p w S c j) i - Lin.sumTo j (fun k => co c k * row S k i)
  | 0, _, i, hi => by
    have : co (addTo p w S c 0) i = 0 := rep_getD w i
    rw [this]
    exact ⟨0, by simp [Lin.sumTo]⟩
  | j + 1, hj, i, hi => by
    have hs : S[j]? = some (S.getD j []) := getD_get (by omega)
    have hc : c[j]? = some (c.getD j 0) := by rw [getD_lt (by omega), List.getElem?_eq_getElem (by omega)]
    have hz : (S.zip c)[j]? = some (S.getD j [], c.getD j 0) := by
      rw [List.getElem?_zip_eq_some]
      exact ⟨hs, hc⟩
    have hsl := hS _ (getD_memL (S := S) (k := j) (by omega))
    have ih := addTo_co (p := p) hS hl j (by omega) i hi
    rw [addTo_succ hz, co_eq, lin_at (by rw [addTo_len hS]; exact hi) (by omega)]
    simp only [Lin.sumTo]
    have e := dv_mod p ((addTo p w S c j).getD i 0 + c.getD j 0 * (S.getD j []).getD i 0)
    exact Lin.dvOf (Lin.dvAdd e ih) (by
      show _ = _ + (co (addTo p w S c j) i - _)
      have e1 : row S j i = (S.getD j []).getD i 0 := rfl
      have e2 : co c j = c.getD j 0 := rfl
      have e3 : co (addTo p w S c j) i = (addTo p w S c j).getD i 0 := rfl
      rw [e1, e2, e3]
      omega)
theorem addTo_rg {p : Int} {w : Nat} {S : List (List Int)} {c : List Int} (hp : 0 < p) : ∀ j, Rg p (addTo p w S c j)
  | 0 => rg_rep hp w
  | j + 1 => by
    cases e : (S.zip c)[j]? with
    | none =>
      have : addTo p w S c (j + 1) = addTo p w S c j := by
        unfold addTo
        rw [List.take_add_one, e]
        simp
      rw [this]
      exact addTo_rg hp j
    | some a =>
      obtain ⟨s, k⟩ := a
      rw [addTo_succ e]
      exact lin_rg hp
theorem addM_made {p : Int} {w : Nat} {S : List (List Int)} {t c : List Int} (hp : 0 < p) (hS : ∀ s ∈ S, s.length = w) (ht : t.length = w) (htR : Rg p t) (hl : c.length = S.length) (hm : Lin.Made p w S.length (row S) (co t) (co c)) : addM p w S c = t := by
  have hz : (S.zip c).length = S.length := by rw [List.length_zip]; omega
  refine eq_of_co (addTo_rg hp _) htR (by rw [ht]; exact addTo_len hS _) fun i hi => ?_
  have hi : i < w := by rw [← addTo_len (p := p) (c := c) hS (S.zip c).length]; exact hi
  have e1 := addTo_co (p := p) hS hl S.length (Nat.le_refl _) i hi
  have e2 := hm.e i hi
  show p ∣ co (addTo p w S c (S.zip c).length) i - co t i
  rw [hz]
  exact Lin.dvOf (Lin.dvSub e1 e2) (by omega)
theorem isMadeB_made {p : Int} {w : Nat} {S : List (List Int)} {t c : List Int} (hp : 0 < p) (hS : ∀ s ∈ S, s.length = w) (ht : t.length = w) (htR : Rg p t) (hl : c.length = S.length) (hR : Rg p c) (hm : Lin.Made p w S.length (row S) (co t) (co c)) : isMadeB p w S t (.tup (vec c)) = true := by
  unfold isMadeB
  have e : numsOf (.tup (vec c)) = c := by
    show (vec c).map num = c
    unfold vec
    rw [List.map_map]
    exact List.map_id c
  have h1 : valB p S.length (.tup (vec c)) = true := by
    rw [← hl]
    exact valB_vec hR
  rw [h1, e, addM_made hp hS ht htR hl hm, decide_eq_true rfl]
  rfl
/-! ### frames that stay -/
theorem mapI_ix {f : Nat → Slot → Slot} : ∀ {l : List Slot} {n i : Nat}, (mapI f n l)[i]? = (l[i]?).map (f (n + i))
  | [], _, _ => by simp [mapI]
  | s :: l, n, 0 => by simp [mapI]
  | s :: l, n, i + 1 => by
    have := mapI_ix (f := f) (l := l) (n := n + 1) (i := i)
    simp only [mapI, List.getElem?_cons_succ]
    rw [this, show n + 1 + i = n + (i + 1) by omega]
theorem mapI_same {f : Nat → Slot → Slot} {l : List Slot} (h : ∀ i s, l[i]? = some s → f i s = s) : mapI f 0 l = l := by
  apply List.ext_getElem?
  intro i
  rw [mapI_ix, Nat.zero_add]
  cases e : l[i]? with
  | none => rfl
  | some s => show some (f i s) = _; rw [h i s e]
theorem newO_none (s : Slot) (o : Option Slot) : newO s o none = s := by cases s <;> cases o <;> first | rfl | (rename_i x; cases x <;> rfl)
theorem back0 {ρ : Env} {bs : List B} {o : List Slot} (hn : ∀ i, newAt bs o i = none) : back ρ bs o = ρ := by
  unfold back
  rw [mapI_same fun i s _ => by rw [hn i]; exact new1_eq s, mapI_same fun i s _ => by rw [hn i]; exact newO_none s _]
theorem locks0 {ρ : Env} {bs : List B} (hn : ∀ i, hasLoc i bs = false) : locks ρ bs = ρ := by
  unfold locks
  rw [mapI_same fun i s _ => by rw [hn i]; exact lock1_eq s]
theorem unlocks0 {ρ0 ρ : Env} {bs : List B} (hn : ∀ i, hasLoc i bs = false) : unlocks ρ0 ρ bs = ρ := by
  unfold unlocks
  rw [mapI_same fun i s _ => by rw [hn i]; exact unlock1_eq s _]
theorem back1 {ρ : Env} {h h' : List D} {bs : List B} {o : List Slot} (hv : ρ.v[1]? = some (.ow h)) (ho : ρ.o[1]? = none) (hn : ∀ i, newAt bs o i = if i = 1 then some (.ow h') else none) : back ρ bs o = ρ.setv 1 (.ow h') := by
  unfold back Env.setv
  have e1 : mapI (fun i s => new1 s (newAt bs o i)) 0 ρ.v = ρ.v.set 1 (.ow h') := by
    apply List.ext_getElem?
    intro i
    rw [mapI_ix, Nat.zero_add, hn i, List.getElem?_set]
    by_cases hi : i = 1
    · subst hi
      rw [hv, if_pos rfl, if_pos rfl]
      obtain ⟨z, _⟩ := List.getElem?_eq_some_iff.mp hv
      rw [if_pos z]
      rfl
    · rw [if_neg hi, if_neg (Ne.symm hi)]
      cases e : ρ.v[i]? with
      | none => rfl
      | some s => show some (new1 s none) = _; rw [new1_eq]
  have e2 : mapI (fun i s => newO s ρ.v[i]? (newAt bs o i)) 0 ρ.o = ρ.o := mapI_same fun i s hs => by
    rw [hn i]
    by_cases hi : i = 1
    · subst hi
      rw [ho] at hs
      cases hs
    · rw [if_neg hi]
      exact newO_none s _
  rw [e1, e2]
end Ev

namespace Ev
open PySem L2
/-- a piece: its sum, its size -/
abbrev Pc := List Int × Int
def pcD (a : Pc) : D := .tup [.tup (vec a.1), .int a.2]
def pcsD (P : List Pc) : List D := P.map pcD
def webD (p wi : Int) (P : List Pc) : D := .obj 0 [.int p, .int wi, .tup (pcsD P)]
structure Pcs (p : Int) (w : Nat) (P : List Pc) : Prop where
  n : P.length ≤ 40
  g : ∀ a ∈ P, Good p w a.1
  s : ∀ a ∈ P, 1 ≤ a.2 ∧ a.2 ≤ 1000000
theorem pcsD_len (P : List Pc) : (pcsD P).length = P.length := List.length_map ..
theorem pcsD_get {P : List Pc} {j : Nat} {x : D} (h : (pcsD P)[j]? = some x) : ∃ a, P[j]? = some a ∧ x = pcD a := by
  unfold pcsD at h
  rw [List.getElem?_map] at h
  cases e : P[j]? with
  | none => rw [e] at h; cases h
  | some a => rw [e] at h; cases h; exact ⟨a, rfl, rfl⟩
theorem pair_ok {p wi : Int} {w : Nat} {a : Pc} (hw : wi = w) (h1 : w ≤ 10) (h : Good p w a.1) (hs : 1 ≤ a.2 ∧ a.2 ≤ 1000000) : WF (F_is_pair [.sh (.int p), .sh (.int wi), .sh (pcD a)]) fun r o => r = .d (.bl true) ∧ o = [.un, .un, .un] := by
  unfold pcD
  refine wf_fn (ws_cons (ws_ite (W.of (a := false) (ρ := ⟨[.sh (.int p), .sh (.int wi), .sh (.tup [.tup (vec a.1), .int a.2])], [.un, .un, .un]⟩) rfl ⟨fun z => absurd z (by decide), fun _ => ws_nil ?_⟩)))
  refine ws_cons (ws_ret (we_and (w_call (W.of (a := [.d (.int p), .d (.int wi), .d (.tup (vec a.1))]) (ρ := ⟨[.sh (.int p), .sh (.int wi), .sh (.tup [.tup (vec a.1), .int a.2])], [.un, .un, .un]⟩) rfl ⟨rfl, [.sh (.int p), .sh (.int wi), .sh (.tup (vec a.1))], rfl, WF.mono (is_sum_ok hw (by omega) h) ?_⟩))))
  rintro r o ⟨rfl, rfl⟩
  refine ⟨true, rfl, fun _ => ?_, fun z => absurd z (by decide)⟩
  refine w_call (W.of (a := [.d (.int 1), .d (.int 1000000), .d (.int a.2)]) (ρ := ⟨[.sh (.int p), .sh (.int wi), .sh (.tup [.tup (vec a.1), .int a.2])], [.un, .un, .un]⟩) rfl ⟨rfl, [.sh (.int 1), .sh (.int 1000000), .sh (.int a.2)], rfl, WF.mono (within_ok 1 1000000 a.2) ?_⟩)
  rintro r o ⟨rfl, rfl⟩
  refine ⟨_, _, rfl, ?_, rfl⟩
  show RB.d (.bl _) = _
  rw [decide_eq_true hs.1, decide_eq_true hs.2]
  rfl
theorem WF.of {r : FRes} {a : RB} {o : List Slot} {P : RB → List Slot → Prop} (e : r = .ok a o) (h : P a o) : WF r P := by rw [e]; exact h
def webF (p wi : Int) (P : List Pc) (s4 s5 : Slot) : Env := ⟨[.sh (.cls 1000), .sh (.int p), .sh (.int wi), .sh (.tup (pcsD P)), s4, s5], [.un, .un, .un, .un]⟩
theorem web_pre {p wi : Int} {w : Nat} {P : List Pc} (hpp : p ∈ primes) (hw : wi = w) (h1 : 1 ≤ w) (h2 : w ≤ 10) (h : Pcs p w P) : WS (evSs ir_i_Web (start0 6 (.sh (.cls 1000) :: [.sh (.int p), .sh (.int wi), .sh (.tup (pcsD P))]))) (fun ρ => ∃ s4 s5, ρ = webF p wi P s4 s5) (fun _ _ => False) fun _ => False := by
  refine ws_cons (ws_ite (wt_not (wt_e (w_call (W.of (a := [.d (.int p)]) (ρ := webF p wi P .un .un) rfl ⟨rfl, [.sh (.int p)], rfl, WF.of (prime_ok p hpp) ⟨.bl true, true, rfl, rfl, fun z => absurd z (by decide), fun _ => ws_nil ?_⟩⟩)))))
  refine ws_cons (ws_ite (wt_not (wt_e (w_call (W.of (a := [.d (.int 1), .d (.int 10), .d (.int wi)]) (ρ := webF p wi P .un .un) rfl ⟨rfl, [.sh (.int 1), .sh (.int 10), .sh (.int wi)], rfl, WF.mono (within_ok 1 10 wi) ?_⟩)))))
  rintro r o ⟨rfl, rfl⟩
  rw [decide_eq_true (show (1 : Int) ≤ wi by omega), decide_eq_true (show wi ≤ 10 by omega)]
  refine ⟨.bl true, true, rfl, rfl, fun z => absurd z (by decide), fun _ => ws_nil ?_⟩
  obtain ⟨li, hli⟩ : ∃ li : Int, li = ((pcsD P).length : Int) := ⟨_, rfl⟩
  have hl40 : li ≤ 40 := by rw [hli, pcsD_len]; have := h.n; omega
  refine ws_cons (ws_ite (wt_or (W.of (a := false) (ρ := webF p wi P .un .un) rfl ⟨fun z => absurd z (by decide), fun _ => ?_⟩)))
  refine wt_eb (w_prim (wa_cons (w_prim (W.of (a := [.d (.tup (pcsD P))]) (ρ := webF p wi P .un .un) rfl ⟨_, .d (.int li), rfl, by rw [hli]; rfl, ?_⟩))))
  refine W.of (a := [.d (.int 40)]) (ρ := webF p wi P .un .un) rfl ⟨_, .d (.bl (decide (40 < li))), rfl, rfl, _, rfl, fun z => ?_, fun _ => ws_nil ?_⟩
  · have : (40 : Int) < li := by simpa using z
    omega
  refine ws_cons (ws_for (W.of (a := [.d (.tup (pcsD P))]) (ρ := webF p wi P .un .un) rfl ⟨[.tup (pcsD P)], _, rfl, rfl, fun j ρ => ∃ s4 s5, ρ = webF p wi P s4 s5, ⟨.un, .un, rfl⟩, ?_, ?_⟩))
  · rintro j x ρ2 hx ⟨s4, s5, rfl⟩
    obtain ⟨a, ha, rfl⟩ := enumD_get _ _ _ _ hx
    obtain ⟨c, hc, rfl⟩ := pcsD_get ha
    have hm := List.mem_of_getElem? hc
    generalize hji : 0 + (j : Int) = ji
    refine ⟨webF p wi P (.sh (.int ji)) (.sh (pcD c)), set_t2 rfl rfl rfl rfl, ?_⟩
    refine ws_cons (ws_ite (wt_not (wt_e (w_call (W.of (a := [.d (.int p), .d (.int wi), .d (pcD c)]) (ρ := webF p wi P (.sh (.int ji)) (.sh (pcD c))) rfl ⟨rfl, [.sh (.int p), .sh (.int wi), .sh (pcD c)], rfl, WF.mono (pair_ok hw h2 (h.g c hm) (h.s c hm)) ?_⟩)))))
    rintro r o ⟨rfl, rfl⟩
    exact ⟨.bl true, true, rfl, rfl, fun z => absurd z (by decide), fun _ => ws_nil (ws_nil ⟨_, _, rfl⟩)⟩
  · rintro ρ2 ⟨s4, s5, rfl⟩
    exact ws_nil ⟨s4, s5, unlocks0 fun i => rfl⟩
theorem plains_vec (v : List Int) : D.plains (vec v) = true := by
  unfold vec
  induction v with
  | nil => rfl
  | cons a v ih => exact ih
theorem plains_pcs (P : List Pc) : D.plains (pcsD P) = true := by
  unfold pcsD
  induction P with
  | nil => rfl
  | cons a P ih =>
    rw [List.map_cons]
    show (D.plain (pcD a) && D.plains (P.map pcD)) = true
    rw [ih]
    show ((D.plains (vec a.1) && _) && true) = true
    rw [plains_vec]
    rfl
/-- Web(p, w, pieces) -/
theorem web_ok {p wi : Int} {w : Nat} {P : List Pc} (hpp : p ∈ primes) (hw : wi = w) (h1 : 1 ≤ w) (h2 : w ≤ 10) (h : Pcs p w P) : F_i_Web [.sh (.int p), .sh (.int wi), .sh (.tup (pcsD P))] = .ok (.d (webD p wi P)) [.un, .un, .un] := by
  have q := web_pre hpp hw h1 h2 h
  have hpl : D.plains [.int p, .int wi, .tup (pcsD P)] = true := by
    show (true && (true && (D.plains (pcsD P) && true))) = true
    rw [plains_pcs]
    rfl
  unfold F_i_Web mkFn
  rw [show given? [.sh (.int p), .sh (.int wi), .sh (.tup (pcsD P))] = some [.int p, .int wi, .tup (pcsD P)] from rfl]
  simp only
  rw [if_pos hpl]
  show (match evSs ir_i_Web (start0 6 _) with | .ok .nx ρ => _ | _ => FRes.no) = _
  generalize evSs ir_i_Web (start0 6 (.sh (.cls 1000) :: [.sh (.int p), .sh (.int wi), .sh (.tup (pcsD P))])) = r at q
  match r, q with
  | .ok .nx ρ, q =>
    obtain ⟨s4, s5, rfl⟩ := q
    show (if 1000 = 1000 ∧ D.plains [.int p, .int wi, .tup (pcsD P)] = true then _ else _) = _
    rw [if_pos ⟨rfl, hpl⟩]
    rfl
  | .ok (.rt _) _, q => exact q.elim
  | .ok .brk _, q => exact q.elim
  | .no, q => exact q.elim
  | .ex _ _, q => exact q.elim
end Ev

namespace Ev
open PySem L2
/-! ### lots -/
def lotL (m : Int) : Int → List D → Bool
  | _, [] => true
  | last, x :: xs => inB (last + 1) (m - 1) x && lotL m (num x) xs
def lotB (m : Int) : D → Bool
  | .tup xs => lotL m (-1) xs
  | _ => false
theorem inB_int {a b : Int} {x : D} (h : inB a b x = true) : ∃ i, x = .int i ∧ a ≤ i ∧ i ≤ b := by
  cases x with
  | int i =>
    refine ⟨i, rfl, ?_⟩
    have h : (decide (a ≤ i) && decide (i ≤ b)) = true := h
    obtain ⟨h1, h2⟩ := Bool.and_eq_true_iff.mp h
    exact ⟨of_decide_eq_true h1, of_decide_eq_true h2⟩
  | _ => cases h
def lotF (m : Int) (xs : List D) (last : Int) (s3 : Slot) : Env := ⟨[.sh (.int m), .sh (.tup xs), .sh (.int last), s3], [.un, .un]⟩
theorem is_lot_ok {m : Int} {d : D} (h : Okd d) : WF (F_is_lot [.sh (.int m), .sh d]) fun r o => r = .d (.bl (lotB m d)) ∧ o = [.un, .un] := by
  obtain ⟨h1, h2⟩ := h
  cases d with
  | tup xs =>
    obtain ⟨hl, hx⟩ := h2 xs rfl
    refine wf_fn (ws_cons (ws_ite (W.of (a := false) (ρ := ⟨[.sh (.int m), .sh (.tup xs), .un, .un], [.un, .un]⟩) rfl ⟨fun z => absurd z (by decide), fun _ => ws_nil ?_⟩)))
    refine ws_cons (ws_asg (W.of (a := .d (.int (-1))) (ρ := ⟨[.sh (.int m), .sh (.tup xs), .un, .un], [.un, .un]⟩) rfl ⟨_, _, lotF m xs (-1) .un, rfl, rfl, ?_⟩))
    refine ws_cons (ws_for (W.of (a := [.d (.tup xs)]) (ρ := lotF m xs (-1) .un) rfl ⟨[.tup xs], xs, rfl, rfl, fun j ρ => ∃ last s3, ρ = lotF m xs last s3 ∧ lotL m (-1) xs = lotL m last (xs.drop j), ⟨-1, .un, rfl, rfl⟩, ?_, ?_⟩))
    · rintro j x ρ2 hj ⟨last, s3, rfl, e⟩
      have hdr : xs.drop j = x :: xs.drop (j + 1) := by
        obtain ⟨z, q⟩ := List.getElem?_eq_some_iff.mp hj
        rw [List.drop_eq_getElem_cons z, q]
      rw [hdr] at e
      refine ⟨lotF m xs last (.sh x), bnd_free rfl rfl, ?_⟩
      refine ws_cons (ws_ite (wt_not (wt_e (w_call (W.of (a := [.d (.int (last + 1)), .d (.int (m - 1)), .d x]) (ρ := lotF m xs last (.sh x)) rfl ⟨rfl, [.sh (.int (last + 1)), .sh (.int (m - 1)), .sh x], rfl, WF.mono (within_D (last + 1) (m - 1) x (hx x (List.mem_of_getElem? hj))) ?_⟩)))))
      rintro r o ⟨rfl, rfl⟩
      refine ⟨_, _, rfl, rfl, fun hb => ?_, fun hb => ?_⟩
      · have hb : inB (last + 1) (m - 1) x = false := by simpa using hb
        refine ws_cons (ws_ret (W.of rfl ⟨.d (.bl false), _, rfl, ?_, rfl⟩))
        show _ = RB.d (.bl (lotL m (-1) xs))
        rw [e]
        show _ = RB.d (.bl (inB (last + 1) (m - 1) x && _))
        rw [hb]
        rfl
      · have hb : inB (last + 1) (m - 1) x = true := by simpa using hb
        obtain ⟨i, rfl, _, _⟩ := inB_int hb
        refine ws_nil (ws_cons (ws_asg (W.of (a := .d (.int i)) (ρ := lotF m xs last (.sh (.int i))) rfl ⟨_, _, lotF m xs i (.sh (.int i)), rfl, rfl, ws_nil ⟨i, _, rfl, ?_⟩⟩)))
        rw [e]
        show (inB (last + 1) (m - 1) (.int i) && _) = _
        rw [hb]
        rfl
    · rintro ρ2 ⟨last, s3, rfl, e⟩
      refine ws_cons (ws_ret (W.of rfl ⟨.d (.bl true), _, rfl, ?_, by rw [unlocks0 fun i => rfl]; rfl⟩))
      show _ = RB.d (.bl (lotL m (-1) xs))
      rw [e, List.drop_length]
      rfl
  | int i => exact ⟨rfl, rfl⟩
  | non => exact ⟨rfl, rfl⟩
  | bl _ => exact ⟨rfl, rfl⟩
  | str _ => exact ⟨rfl, rfl⟩
  | lst _ => exact ⟨rfl, rfl⟩
  | dk _ _ => exact ⟨rfl, rfl⟩
  | ro _ => obtain ⟨t, e⟩ := h1; cases e
  | obj _ _ => obtain ⟨t, e⟩ := h1; cases e
  | ty _ => obtain ⟨t, e⟩ := h1; cases e
  | cls _ => obtain ⟨t, e⟩ := h1; cases e
/-- a lot: places that rise, all below m -/
structure IsLot (m : Nat) (l : List Nat) : Prop where
  lt : ∀ k ∈ l, k < m
  up : l.Pairwise (· < ·)
theorem IsLot.len {m : Nat} {l : List Nat} (h : IsLot m l) : l.length ≤ m := asc_len h.up h.lt
theorem lotL_nats {mi : Int} {m : Nat} (hm : mi = m) : ∀ {xs : List D} {last : Int}, -1 ≤ last → lotL mi last xs = true → ∃ l : List Nat, xs = nats l ∧ (∀ k ∈ l, k < m) ∧ (∀ k ∈ l, last < (k : Int)) ∧ l.Pairwise (· < ·)
  | [], _, _, _ => ⟨[], rfl, by simp, by simp, List.Pairwise.nil⟩
  | x :: xs, last, h0, h => by
    obtain ⟨h1, h2⟩ := Bool.and_eq_true_iff.mp h
    obtain ⟨i, rfl, a, b⟩ := inB_int h1
    obtain ⟨l, rfl, c1, c2, c3⟩ := lotL_nats hm (last := i) (by omega) h2
    refine ⟨i.toNat :: l, ?_, ?_, ?_, ?_⟩
    · show _ = D.int ((i.toNat : Nat) : Int) :: nats l
      rw [show ((i.toNat : Nat) : Int) = i by omega]
    · intro k hk
      rcases List.mem_cons.mp hk with rfl | hk
      · omega
      · exact c1 k hk
    · intro k hk
      rcases List.mem_cons.mp hk with rfl | hk
      · omega
      · have := c2 k hk
        omega
    · refine List.pairwise_cons.mpr ⟨fun k hk => ?_, c3⟩
      have := c2 k hk
      omega
theorem lotB_nats {mi : Int} {m : Nat} (hm : mi = m) {d : D} (h : lotB mi d = true) : ∃ l, d = .tup (nats l) ∧ IsLot m l := by
  cases d with
  | tup xs =>
    obtain ⟨l, rfl, a, _, c⟩ := lotL_nats hm (by omega) h
    exact ⟨l, rfl, a, c⟩
  | _ => cases h
theorem lotL_of {mi : Int} {m : Nat} (hm : mi = m) : ∀ {l : List Nat} {last : Int}, (∀ k ∈ l, k < m) → (∀ k ∈ l, last < (k : Int)) → l.Pairwise (· < ·) → lotL mi last (nats l) = true
  | [], _, _, _, _ => rfl
  | k :: l, last, h1, h2, h3 => by
    obtain ⟨a, b⟩ := List.pairwise_cons.mp h3
    have e1 := h1 k (by simp)
    have e2 := h2 k (by simp)
    show ((decide (last + 1 ≤ (k : Int)) && decide ((k : Int) ≤ mi - 1)) && lotL mi (k : Int) (nats l)) = true
    rw [decide_eq_true (by omega), decide_eq_true (by omega), lotL_of hm (fun j hj => h1 j (by simp [hj])) (fun j hj => by have := a j hj; omega) b]
    rfl
theorem lotB_of {mi : Int} {m : Nat} (hm : mi = m) {l : List Nat} (h : IsLot m l) : lotB mi (.tup (nats l)) = true := lotL_of hm h.lt (fun k _ => by omega) h.up
end Ev

namespace Ev
open PySem L2
def ltP (ab : D × D) : Bool := decide (num ab.1 < num ab.2)
def hdB (last : Int) : List D → Bool
  | [] => true
  | x :: _ => decide (last < num x)
theorem lotL_split {m : Int} : ∀ {xs : List D} {last : Int}, -1 ≤ last → lotL m last xs = (xs.all (inB 0 (m - 1)) && (hdB last xs && (xs.zip (xs.drop 1)).all ltP))
  | [], _, _ => rfl
  | x :: xs, last, h0 => by
    rw [List.all_cons]
    show (inB (last + 1) (m - 1) x && lotL m (num x) xs) = _
    cases hb : inB 0 (m - 1) x with
    | false =>
      have : inB (last + 1) (m - 1) x = false := by
        cases q : inB (last + 1) (m - 1) x with
        | false => rfl
        | true =>
          obtain ⟨i, rfl, a, b⟩ := inB_int q
          have : inB 0 (m - 1) (.int i) = true := by
            show (decide ((0 : Int) ≤ i) && decide (i ≤ m - 1)) = true
            rw [decide_eq_true (by omega), decide_eq_true b]
            rfl
          rw [this] at hb
          cases hb
      rw [this]
      rfl
    | true =>
      obtain ⟨i, rfl, a, b⟩ := inB_int hb
      have e1 : inB (last + 1) (m - 1) (.int i) = decide (last < i) := by
        show (decide (last + 1 ≤ i) && decide (i ≤ m - 1)) = _
        rw [decide_eq_true b, Bool.and_true]
        by_cases h : last < i
        · rw [decide_eq_true h, decide_eq_true (by omega)]
        · rw [decide_eq_false h, decide_eq_false (by omega)]
      rw [e1, lotL_split (xs := xs) (last := num (.int i)) (by show -1 ≤ i; omega)]
      show (decide (last < i) && (xs.all (inB 0 (m - 1)) && (hdB i xs && (xs.zip (xs.drop 1)).all ltP))) = (true && xs.all (inB 0 (m - 1)) && (decide (last < i) && ((D.int i :: xs).zip xs).all ltP))
      have e2 : ((D.int i :: xs).zip xs).all ltP = (hdB i xs && (xs.zip (xs.drop 1)).all ltP) := by
        cases xs with
        | nil => rfl
        | cons y r => rfl
      rw [e2]
      cases decide (last < i) <;> cases xs.all (inB 0 (m - 1)) <;> rfl
theorem zip_get {xs ys : List D} {j : Nat} {x : D} (h : (zipD xs ys)[j]? = some x) : ∃ a b, (xs.zip ys)[j]? = some (a, b) ∧ a ∈ xs ∧ b ∈ ys ∧ x = .tup [a, b] := by
  induction xs generalizing ys j with
  | nil => cases ys <;> simp [zipD] at h
  | cons u us ih =>
    cases ys with
    | nil => simp [zipD] at h
    | cons v vs =>
      cases j with
      | zero =>
        simp [zipD] at h
        subst h
        exact ⟨u, v, rfl, by simp, by simp, rfl⟩
      | succ j =>
        have h' : (zipD us vs)[j]? = some x := by simpa [zipD] using h
        obtain ⟨a, b, e, m1, m2, r⟩ := ih h'
        exact ⟨a, b, by simpa using e, by simp [m1], by simp [m2], r⟩
def liF (m : Int) (xs : List D) (s2 s3 s4 : Slot) : Env := ⟨[.sh (.tup xs), .sh (.int m), s2, s3, s4], [.un, .un]⟩
end Ev

namespace Ev
open PySem L2
def pcAt (P : List Pc) (k : Nat) : Pc := P.getD k ([], 0)
def partsD (p wi : Int) (P : List Pc) : D := .tup [.int p, .int wi, .tup (pcsD P)]
theorem pcAt_mem {P : List Pc} {k : Nat} (h : k < P.length) : pcAt P k ∈ P := by
  unfold pcAt
  rw [List.getD_eq_getElem?_getD, List.getElem?_eq_getElem h]
  exact List.getElem_mem h
theorem ixP {P : List Pc} {k : Nat} {ki : Int} (e : ki = k) (h : k < P.length) : fIx [.tup (pcsD P), .int ki] = some (.d (pcD (pcAt P k))) := by
  subst e
  have : atI (pcsD P) (k : Int) = some (pcD (pcAt P k)) := by
    unfold atI
    rw [ixN_ok (by rw [pcsD_len]; exact h)]
    show (pcsD P)[k]? = _
    unfold pcsD pcAt
    rw [List.getElem?_map, List.getD_eq_getElem?_getD, List.getElem?_eq_getElem h]
    rfl
  show (match atI (pcsD P) (k : Int) with | some d => some (RB.d d) | none => none) = _
  rw [this]
theorem sum_of_ok {p wi ki : Int} {P : List Pc} {k : Nat} (e : ki = k) (h : k < P.length) : WF (F_sum_of [.sh (webD p wi P), .sh (.int ki)]) fun r o => r = .d (.tup (vec (pcAt P k).1)) ∧ o = [.un, .un] := by
  refine wf_fn (ws_cons (ws_ret (w_prim (wa_cons (w_prim (wa_cons (W.of (a := .d (.tup (pcsD P))) (ρ := ⟨[.sh (webD p wi P), .sh (.int ki)], [.un, .un]⟩) rfl (W.of (a := [.d (.int ki)]) (ρ := ⟨[.sh (webD p wi P), .sh (.int ki)], [.un, .un]⟩) rfl ⟨_, _, rfl, ixP e h, ?_⟩))))))))
  refine W.of (a := [.d (.int 0)]) (ρ := ⟨[.sh (webD p wi P), .sh (.int ki)], [.un, .un]⟩) rfl ⟨[pcD (pcAt P k), .int 0], _, rfl, rfl, _, _, rfl, rfl, rfl⟩
/-- the sums of a lot's pieces; their sizes -/
def picks (P : List Pc) (l : List Nat) : List (List Int) := l.map fun k => (pcAt P k).1
def sizes (P : List Pc) (l : List Nat) : List Int := l.map fun k => (pcAt P k).2
theorem picks_len (P : List Pc) (l : List Nat) : (picks P l).length = l.length := List.length_map ..
theorem nats_map {α : Type} {f : Nat → α} {g : α → D} {l : List Nat} {j : Nat} {x y : D} (hx : (nats l)[j]? = some x) (hy : ((l.map f).map g)[j]? = some y) : ∃ k, k ∈ l ∧ x = .int (k : Int) ∧ y = g (f k) := by
  unfold nats at hx
  rw [List.getElem?_map] at hx
  rw [List.getElem?_map, List.getElem?_map] at hy
  cases e : l[j]? with
  | none => rw [e] at hx; cases hx
  | some k =>
    rw [e] at hx hy
    cases hx; cases hy
    exact ⟨k, List.mem_of_getElem? e, rfl, rfl⟩
theorem sums_of_ok {p wi : Int} {P : List Pc} {l : List Nat} (hl : l.length ≤ 1000) (h : ∀ k ∈ l, k < P.length) : WF (F_sums_of [.sh (webD p wi P), .sh (.tup (nats l))]) fun r o => r = .d (.tup (sumsD (picks P l))) ∧ o = [.un, .un] := by
  have core : ∀ (j : Nat) (x y : D), (nats l)[j]? = some x → (sumsD (picks P l))[j]? = some y → ∃ ρ3, (Tg.n 2).set ⟨[.sh (webD p wi P), .sh (.tup (nats l)), .un], [.un, .un]⟩ x = some ρ3 ∧ W (evE (.call F_sum_of (.cons (.var 0) (.cons (.var 2) (.nil)))) ρ3) fun b ρ5 => ∃ ρ6, b.keep ρ5 = some (y, ρ6) ∧ wipeE ρ6 [2] = ⟨[.sh (webD p wi P), .sh (.tup (nats l)), .un], [.un, .un]⟩ := fun j x y hx hy => by
    obtain ⟨k, hk, rfl, rfl⟩ := nats_map hx hy
    generalize hki : (k : Int) = ki
    refine ⟨⟨[.sh (webD p wi P), .sh (.tup (nats l)), .sh (.int ki)], [.un, .un]⟩, rfl, ?_⟩
    refine w_call (W.of (a := [.d (webD p wi P), .d (.int ki)]) (ρ := ⟨[.sh (webD p wi P), .sh (.tup (nats l)), .sh (.int ki)], [.un, .un]⟩) rfl ⟨rfl, [.sh (webD p wi P), .sh (.int ki)], rfl, WF.mono (sum_of_ok hki.symm (h k hk)) ?_⟩)
    rintro r o ⟨rfl, rfl⟩
    exact ⟨_, rfl, rfl⟩
  refine wf_fn (ws_cons (ws_ret (w_prim (wa_cons (w_lcm (W.of (a := [.d (.tup (nats l))]) (ρ := ⟨[.sh (webD p wi P), .sh (.tup (nats l)), .un], [.un, .un]⟩) rfl ⟨[.tup (nats l)], nats l, rfl, rfl, ⟨by rw [nats_len, sizeLine_eq]; omega, rfl, rfl⟩, sumsD (picks P l), by rw [sumsD_len, picks_len, nats_len], core, wa_nil ⟨[.lst (sumsD (picks P l))], _, rfl, rfl, _, _, rfl, rfl, rfl⟩⟩))))))
theorem nums_vec : ∀ (v : List Int), nums (vec v) = some v
  | [] => rfl
  | i :: v => by
    show (match nums (vec v) with | some bs => some (i :: bs) | none => none) = _
    rw [nums_vec v]
theorem sum_vec (v : List Int) : fSum [.lst (vec v)] = some (.d (.int v.sum)) := by
  show (match nums (vec v) with | some bs => some (RB.d (.int bs.sum)) | none => none) = _
  rw [nums_vec]
end Ev

namespace Ev
open PySem L2
theorem new_rowT_ok {p wi : Int} {w n : Nat} {rows : List (Nat × List Int)} {v : List Int} (hpp : p ∈ primes) (hw : wi = w) (hwn : w ≤ n) (hn : n ≤ 1000) (hr : Rows p n rows) (hv : v.length = n) (hR : Rg p v) :
    WF (F_new_row [.sh (.int p), .sh (.int wi), .ow (rowsD rows), .sh (.tup (vec v))]) fun r o => o = [.un, .un, .ow (rowsD rows), .un] ∧ ∃ u, u.length = n ∧ Rg p u ∧ Lin.Red p n (absR rows) (co v) (co u) ∧ Lead p w u r := by
  obtain ⟨hp1, hp2⟩ := primes_lt hpp
  refine wf_fn (ws_cons (ws_ret (w_call (wa_cons (W.of (a := .d (.int p)) rfl (wa_cons (W.of (a := .d (.int wi)) rfl (wa_cons (w_call (W.of (a := [.d (.int p), .loc 2, .d (.tup (vec v))]) (ρ := ⟨[.sh (.int p), .sh (.int wi), .ow (rowsD rows), .sh (.tup (vec v))], [.un, .un, .att, .un]⟩) rfl ⟨rfl, [.sh (.int p), .ow (rowsD rows), .sh (.tup (vec v))], rfl, WF.mono (reducedS_ok (.inr rfl) hp1 hp2 hn hr hv hR) ?_⟩))))))))))
  rintro r o ⟨u, rfl, rfl, hu, hUR, hRed⟩
  refine wa_nil ⟨rfl, [.sh (.int p), .sh (.int wi), .ow (vec u)], rfl, WF.mono (leading_ok hpp hw (by omega) (by omega) hUR) ?_⟩
  rintro r o ⟨rfl, hL⟩
  exact ⟨r, _, retB_b r, rfl, u, hu, hUR, hRed, hL⟩
def wtF (web : D) (l : List Nat) (rows : List (Nat × List Int)) (kept : List Nat) (s4 s5 : Slot) : Env := ⟨[.sh web, .sh (.tup (nats l)), .ow (rowsD rows), .ow (nats kept), s4, s5], [.un, .un]⟩
theorem nats_snoc (fs : List Nat) (k : Nat) : nats fs ++ [.int (k : Int)] = nats (fs ++ [k]) := by
  unfold nats
  rw [List.map_append]
  rfl
theorem wtaken_ok {p wi : Int} {w : Nat} {P : List Pc} {l : List Nat} (hpp : p ∈ primes) (hw : wi = w) (h2 : w ≤ 10) (hP : Pcs p w P) (hl : l.length ≤ 100) (h : ∀ k ∈ l, k < P.length) :
    WF (F_taken [.sh (webD p wi P), .sh (.tup (nats l))]) fun r o => o = [.un, .un] ∧ ∃ fs rows, r = .d (.tup (nats (fs.map fun j => l.getD j 0))) ∧ Found p w w (row (picks P l)) l.length rows ∧ Taken p w (row (picks P l)) l.length fs ∧ rows.length = fs.length := by
  obtain ⟨hp1, hp2⟩ := primes_lt hpp
  refine wf_fn (ws_cons (ws_asgV (w_lst (wd_nil ⟨by simp, rfl, ⟨[.sh (webD p wi P), .sh (.tup (nats l)), .ow (rowsD []), .un, .un, .un], [.un, .un]⟩, rfl, ?_⟩))))
  refine ws_cons (ws_asgV (w_lst (wd_nil ⟨by simp, rfl, wtF (webD p wi P) l [] [] .un .un, rfl, ?_⟩)))
  refine ws_cons (ws_for (W.of (a := [.d (.tup (nats l))]) (ρ := wtF (webD p wi P) l [] [] .un .un) rfl ⟨[.tup (nats l)], nats l, rfl, rfl, fun j ρ => ∃ fs rows s4 s5, ρ = wtF (webD p wi P) l rows (fs.map fun j => l.getD j 0) s4 s5 ∧ fs.length ≤ j ∧ rows.length = fs.length ∧ Found p w w (row (picks P l)) j rows ∧ Taken p w (row (picks P l)) j fs, ⟨[], [], .un, .un, rfl, by simp, by simp, Found.nil, ⟨fun j => by simp, List.Pairwise.nil⟩⟩, ?_, ?_⟩))
  · rintro j x ρ2 hx ⟨fs, rows, s4, s5, rfl, hfl, hrl, hf, ht⟩
    unfold nats at hx
    rw [List.getElem?_map] at hx
    cases hj : l[j]? with
    | none => rw [hj] at hx; cases hx
    | some k =>
      rw [hj] at hx
      have hx : D.int (k : Int) = x := Option.some.inj hx
      subst hx
      have hjl : j < l.length := by
        obtain ⟨z, _⟩ := List.getElem?_eq_some_iff.mp hj
        exact z
      have hkj : l.getD j 0 = k := by rw [List.getD_eq_getElem?_getD, hj]; rfl
      have hk := h k (List.mem_of_getElem? hj)
      have hg := hP.g _ (pcAt_mem hk)
      have hS : (picks P l)[j]? = some (pcAt P k).1 := by
        unfold picks
        rw [List.getElem?_map, hj]
        rfl
      generalize hki : (k : Int) = ki
      refine ⟨wtF (webD p wi P) l rows (fs.map fun j => l.getD j 0) (.sh (.int ki)) s5, bnd_free rfl rfl, ?_⟩
      refine ws_cons (ws_asgV (w_call (wa_cons (W.of (a := .d (.int p)) (ρ := wtF (webD p wi P) l rows (fs.map fun j => l.getD j 0) (.sh (.int ki)) s5) rfl (wa_cons (W.of (a := .d (.int wi)) (ρ := wtF (webD p wi P) l rows (fs.map fun j => l.getD j 0) (.sh (.int ki)) s5) rfl (wa_cons (W.of (a := .loc 2) (ρ := wtF (webD p wi P) l rows (fs.map fun j => l.getD j 0) (.sh (.int ki)) s5) rfl (wa_cons (w_call (W.of (a := [.d (webD p wi P), .d (.int ki)]) (ρ := wtF (webD p wi P) l rows (fs.map fun j => l.getD j 0) (.sh (.int ki)) s5) rfl ⟨rfl, [.sh (webD p wi P), .sh (.int ki)], rfl, WF.mono (sum_of_ok hki.symm hk) ?_⟩)))))))))))
      rintro r o ⟨rfl, rfl⟩
      rw [back0 fun i => rfl]
      refine wa_nil ⟨rfl, [.sh (.int p), .sh (.int wi), .ow (rowsD rows), .sh (.tup (vec (pcAt P k).1))], rfl, WF.mono (new_rowT_ok hpp hw (Nat.le_refl w) (by omega) hf.r hg.l hg.r) ?_⟩
      rintro r o ⟨rfl, u, hu, hUR, hRed, hL⟩
      rw [← row_of hS] at hRed
      rcases hL with ⟨rfl, h0⟩ | ⟨q, t, hq, h0, t0, t1, htt, rfl⟩
      · refine ⟨rfl, wtF (webD p wi P) l rows (fs.map fun j => l.getD j 0) (.sh (.int ki)) (.sh .non), ?_, ?_⟩
        · show Env.bnd _ 5 _ = _
          rw [bnd_free (s := new1 s5 none) rfl rfl]
          rfl
        · have hsk := hf.skip (Nat.le_refl w) hRed h0
          exact ws_cons (ws_ite (W.of (a := false) rfl ⟨fun h => (by cases h), fun _ => ws_nil (ws_nil ⟨fs, rows, _, _, rfl, by omega, by omega, hsk.1, ht.skip hsk.2⟩)⟩))
      · generalize hqi : (q : Int) = qi
        refine ⟨rfl, wtF (webD p wi P) l rows (fs.map fun j => l.getD j 0) (.sh (.int ki)) (.sh (.tup [.int qi, .lst (vec (mulr p t u))])), ?_, ?_⟩
        · show Env.bnd _ 5 _ = _
          rw [bnd_free (s := new1 s5 none) rfl rfl]
          rfl
        · have hnw := hf.new hp1 (Nat.le_refl w) hRed hu hUR hq htt
          refine ws_cons (ws_ite (W.of (a := true) rfl ⟨fun _ => ?_, fun h => (by cases h)⟩))
          refine ws_cons (ws_ex (w_mut (xs0 := rowsD rows) rfl (W.of (a := [.tup [.int qi, .lst (vec (mulr p t u))]]) (ρ := wtF (webD p wi P) l rows (fs.map fun j => l.getD j 0) (.sh (.int ki)) (.sh (.tup [.int qi, .lst (vec (mulr p t u))]))) rfl ⟨rowsD rows, rowsD (rows ++ [(q, mulr p t u)]), .non, rfl, ?_, ?_⟩)))
          · rw [append_ok (by unfold rowsD; rw [List.length_map]; omega), ← rowsD_snoc, ← hqi]
          · refine ws_cons (ws_ex (w_mut (xs0 := nats (fs.map fun j => l.getD j 0)) rfl (W.of (a := [.int ki]) (ρ := wtF (webD p wi P) l (rows ++ [(q, mulr p t u)]) (fs.map fun j => l.getD j 0) (.sh (.int ki)) (.sh (.tup [.int qi, .lst (vec (mulr p t u))]))) rfl ⟨nats (fs.map fun j => l.getD j 0), nats ((fs ++ [j]).map fun j => l.getD j 0), .non, rfl, ?_, ?_⟩)))
            · rw [append_ok (by rw [nats_len, List.length_map]; omega), List.map_append, ← hki]
              show some (_, _) = some (nats (_ ++ [l.getD j 0]), _)
              rw [hkj, nats_snoc]
            · exact ws_nil (ws_nil ⟨fs ++ [j], rows ++ [(q, mulr p t u)], _, _, rfl, by rw [List.length_append]; simp; omega, by rw [List.length_append, List.length_append, hrl]; rfl, hnw.1, ht.new hnw.2⟩)
  · rintro ρ2 ⟨fs, rows, s4, s5, rfl, _, hrl, hf, ht⟩
    rw [nats_len] at hf ht
    refine ws_cons (ws_ret (w_prim (W.of (a := [.loc 3]) rfl ⟨[.lst (nats (fs.map fun j => l.getD j 0))], _, rfl, rfl, _, _, rfl, by rw [unlocks0 fun i => rfl]; rfl, fs, rows, rfl, hf, ht, hrl⟩)))
end Ev

namespace Ev
open PySem L2
theorem dat_nats {l : List Nat} : ∀ x ∈ nats l, dat x := fun x hx => by
  unfold nats at hx
  obtain ⟨k, _, rfl⟩ := List.mem_map.mp hx
  exact ⟨_, rfl⟩
theorem okd_nats {l : List Nat} (h : l.length ≤ 1000) : Okd (.tup (nats l)) := okd_tup (by rw [nats_len]; exact h) dat_nats
theorem lenP (P : List Pc) : fLen [.tup (pcsD P)] = some (.d (.int (P.length : Int))) := by rw [len_tup, pcsD_len]
theorem is_lot_of_ok {p wi : Int} {P : List Pc} {d : D} (h : Okd d) : WF (F_is_lot_of [.sh (webD p wi P), .sh d]) fun r o => r = .d (.bl (lotB (P.length : Int) d)) ∧ o = [.un, .un] := by
  refine wf_fn (ws_cons (ws_ret (w_call (wa_cons (w_prim (wa_cons (W.of (a := .d (.tup (pcsD P))) (ρ := ⟨[.sh (webD p wi P), .sh d], [.un, .un]⟩) rfl ?_)))))))
  generalize hmi : (P.length : Int) = mi
  refine wa_nil ⟨_, .d (.int mi), rfl, by rw [← hmi]; exact lenP P, ?_⟩
  refine W.of (a := [.d d]) (ρ := ⟨[.sh (webD p wi P), .sh d], [.un, .un]⟩) rfl ⟨rfl, [.sh (.int mi), .sh d], rfl, WF.mono (is_lot_ok h) ?_⟩
  rintro r o ⟨rfl, rfl⟩
  exact ⟨_, _, rfl, rfl, rfl⟩
theorem check_lot_ok {p wi : Int} {P : List Pc} {d : D} (h : Okd d) (hb : lotB (P.length : Int) d = true) : WF (F_check_lot [.sh (webD p wi P), .sh d]) fun r o => r = .d .non ∧ o = [.un, .un] := by
  refine wf_fn (ws_cons (ws_ite (wt_not (wt_e (w_call (W.of (a := [.d (webD p wi P), .d d]) (ρ := ⟨[.sh (webD p wi P), .sh d], [.un, .un]⟩) rfl ⟨rfl, [.sh (webD p wi P), .sh d], rfl, WF.mono (is_lot_of_ok h) ?_⟩))))))
  rintro r o ⟨rfl, rfl⟩
  rw [hb]
  exact ⟨_, true, rfl, rfl, fun z => absurd z (by decide), fun _ => ws_nil (ws_nil ⟨rfl, rfl⟩)⟩
theorem lot_len {l : List Nat} {P : List Pc} (hn : P.length ≤ 40) (h : IsLot P.length l) : l.length ≤ 40 := by have := h.len; omega
end Ev

namespace Ev
open PySem L2
theorem eq_lst (a b : List Int) : fEq [.lst (vec a), .lst (vec b)] = some (.d (.bl (decide (a = b)))) := by
  show (match eqD? (.lst (vec a)) (.lst (vec b)) with | some k => some (RB.d (.bl k)) | none => none) = _
  rw [eqD_lst]
/-! ### what is read -/
def Reads (p : Int) (w : Nat) (S : List (List Int)) (v : Nat) : Prop := Lin.Sp p w (Lin.Pre (row S) S.length) (co (marks w v))
structure ReadL (p : Int) (w : Nat) (S : List (List Int)) (L : List Nat) : Prop where
  m : ∀ v, v ∈ L ↔ v < w ∧ Reads p w S v
  o : L.Pairwise (· < ·)
theorem rise_nat : ∀ {l m : List Nat}, l.Pairwise (· < ·) → m.Pairwise (· < ·) → (∀ k, k ∈ l ↔ k ∈ m) → l = m
  | [], [], _, _, _ => rfl
  | [], y :: m, _, _, h => by have := (h y).mpr List.mem_cons_self; cases this
  | x :: l, [], _, _, h => by have := (h x).mp List.mem_cons_self; cases this
  | x :: l, y :: m, hl, hm, h => by
    obtain ⟨a1, a2⟩ := List.pairwise_cons.mp hl
    obtain ⟨b1, b2⟩ := List.pairwise_cons.mp hm
    have e : x = y := by
      rcases List.mem_cons.mp ((h x).mp List.mem_cons_self) with e | e
      · exact e
      · rcases List.mem_cons.mp ((h y).mpr List.mem_cons_self) with e' | e'
        · exact e'.symm
        · have := a1 y e'
          have := b1 x e
          omega
    subst e
    congr 1
    refine rise_nat a2 b2 fun k => ⟨fun m => ?_, fun m => ?_⟩
    · rcases List.mem_cons.mp ((h k).mp (List.mem_cons_of_mem _ m)) with rfl | z
      · exact absurd (a1 k m) (Nat.lt_irrefl _)
      · exact z
    · rcases List.mem_cons.mp ((h k).mpr (List.mem_cons_of_mem _ m)) with rfl | z
      · exact absurd (b1 k m) (Nat.lt_irrefl _)
      · exact z
theorem ReadL.uniq {p : Int} {w : Nat} {S : List (List Int)} {L M : List Nat} (h : ReadL p w S L) (g : ReadL p w S M) : L = M := rise_nat h.o g.o fun k => by rw [h.m, g.m]
theorem Taken.uniq {p : Int} {w k : Nat} {s : Nat → Lin.V} {fs gs : List Nat} (h : Taken p w s k fs) (g : Taken p w s k gs) : fs = gs := rise_nat h.o g.o fun j => by rw [h.m, g.m]
theorem dv_zero {p x : Int} (h0 : 0 ≤ x) (h1 : x < p) (h : p ∣ x) : x = 0 := by
  by_cases e : x = 0
  · exact e
  · exact absurd h (ndv e h0 h1)
theorem red_reads {p : Int} {w v : Nat} {S : List (List Int)} {rows : List (Nat × List Int)} {u : List Int} (f : Found p w w (row S) S.length rows) (hR : Lin.Red p w (absR rows) (co (marks w v)) (co u)) (hu : u.length = w) (hg : Rg p u) : u = List.replicate w 0 ↔ Reads p w S v := by
  have h1 : Reads p w S v ↔ ∀ i, i < w → p ∣ co u i := (f.t.pre (Nat.le_refl w)).symm.trans (hR.iff (Nat.le_refl w) f.r.s f.qs)
  rw [h1]
  have h2 := all_zero (v := u) (w := w) (by omega)
  rw [List.take_of_length_le (by omega)] at h2
  rw [h2]
  constructor
  · intro h i hi
    rw [co_eq, h i hi]
    exact Lin.dv0 p
  · intro h i hi
    obtain ⟨g0, g1⟩ := hg.at (j := i) (by omega)
    exact dv_zero g0 g1 (h i hi)
end Ev

namespace Ev
open PySem L2
theorem ixMatD {A : List (List Int)} {n : Nat} {ni : Int} {v : List Int} (e : ni = n) (h : A[n]? = some v) : fIx [.lst (matD A), .int ni] = some (.d (.lst (vec v))) := by
  subst e
  have : atI (matD A) (n : Int) = some (.lst (vec v)) := atI_ok (by unfold matD; rw [List.getElem?_map, h]; rfl)
  show (match atI (matD A) (n : Int) with | some d => some (RB.d d) | none => none) = _
  rw [this]
/-- the places at which q holds -/
def whichL (w : Nat) (q : Nat → Bool) : List Nat := (List.range w).filter q
theorem which_fm (w : Nat) (q : Nat → Bool) : ((List.range w).map fun i : Nat => if q i = true then some (D.int (i : Int)) else none).filterMap id = nats (whichL w q) := by
  unfold nats whichL
  rw [List.filterMap_map]
  generalize List.range w = l
  induction l with
  | nil => rfl
  | cons i l ih =>
    rw [List.filter_cons]
    by_cases h : q i = true
    · rw [List.filterMap_cons_some (b := D.int (i : Int)) (by show (if _ then _ else _) = _; rw [if_pos h]), if_pos h, List.map_cons]
      exact congrArg _ ih
    · rw [List.filterMap_cons_none (by show (if _ then _ else _) = _; rw [if_neg h]), if_neg h]
      exact ih
theorem which_mem {w : Nat} {q : Nat → Bool} {v : Nat} : v ∈ whichL w q ↔ v < w ∧ q v = true := by
  unfold whichL
  rw [List.mem_filter, List.mem_range]
theorem which_up (w : Nat) (q : Nat → Bool) : (whichL w q).Pairwise (· < ·) := List.Pairwise.filter _ List.pairwise_lt_range
def crF (web : D) (l : List Nat) (s2 s3 s4 : Slot) : Env := ⟨[.sh web, .sh (.tup (nats l)), s2, s3, s4], [.un, .un]⟩
end Ev

namespace Ev
open PySem L2
theorem nats_vec (L : List Nat) : nats L = vec (L.map fun k : Nat => (k : Int)) := by
  unfold nats vec
  rw [List.map_map]
  rfl
theorem inI_nats {j : Nat} {ji : Int} (e : ji = j) (L : List Nat) : inI ji (L.map fun k : Nat => (k : Int)) = decide (j ∈ L) := by
  unfold inI
  rw [List.any_map]
  by_cases h : j ∈ L
  · rw [decide_eq_true h, List.any_eq_true]
    exact ⟨j, h, decide_eq_true (show (j : Int) = ji from e.symm)⟩
  · rw [decide_eq_false h, List.any_eq_false]
    intro k hk q
    have : (k : Int) = ji := of_decide_eq_true q
    exact h (by rw [show j = k by omega]; exact hk)
theorem inM_nats {j : Nat} {ji : Int} (e : ji = j) (L : List Nat) : inM? (.int ji) (.tup (nats L)) = some (decide (j ∈ L)) := by
  have : inT? (.int ji) (.tup (nats L)) = some (decide (j ∈ L)) := by
    show (match nums (nats L) with | some ns => some (inI ji ns) | none => none) = _
    rw [nats_vec, nums_vec]
    show some _ = _
    rw [inI_nats e]
  unfold inM?
  rw [this]
theorem in_nats {j : Nat} {ji : Int} (e : ji = j) (L : List Nat) : fInM [.int ji, .tup (nats L)] = some (.d (.bl (decide (j ∈ L)))) := by
  show (match inM? (.int ji) (.tup (nats L)) with | some k => some (RB.d (.bl k)) | none => none) = _
  rw [inM_nats e]
theorem notIn_nats {j : Nat} {ji : Int} (e : ji = j) (L : List Nat) : fNotInM [.int ji, .tup (nats L)] = some (.d (.bl (!decide (j ∈ L)))) := by
  show (match inM? (.int ji) (.tup (nats L)) with | some k => some (RB.d (.bl (!k))) | none => none) = _
  rw [inM_nats e]
def urF (web : D) (l : List Nat) (s2 s3 : Slot) : Env := ⟨[.sh web, .sh (.tup (nats l)), s2, s3], [.un, .un]⟩
/-! ### the law's own -/
theorem picks_ok {p : Int} {w : Nat} {P : List Pc} {l : List Nat} (hP : Pcs p w P) (hl : IsLot P.length l) : ∀ s ∈ picks P l, s.length = w ∧ Rg p s := fun v hv => by
  unfold picks at hv
  obtain ⟨k, hk, rfl⟩ := List.mem_map.mp hv
  have := hP.g _ (pcAt_mem (hl.lt k hk))
  exact ⟨this.l, this.r⟩
theorem anyI_zero {u : List Int} {w : Nat} (h : u.length = w) : (!anyI u) = true ↔ u = List.replicate w 0 := by
  unfold anyI
  rw [Bool.not_eq_true', List.any_eq_false]
  constructor
  · intro q
    refine List.eq_replicate_iff.mpr ⟨h, fun x hx => ?_⟩
    have := q x hx
    simpa using this
  · rintro rfl x hx
    rw [List.eq_of_mem_replicate hx]
    decide
theorem any_vec (u : List Int) : fAnyI [.lst (vec u)] = some (.d (.bl (anyI u))) := by
  show (match nums (vec u) with | some ns => some (RB.d (.bl (anyI ns))) | none => none) = _
  rw [nums_vec]
end Ev

namespace Ev
open PySem L2
def lrF (parts : D) (l : List Nat) (s2 s3 s4 s5 : Slot) : Env := ⟨[.sh parts, .sh (.tup (nats l)), s2, s3, s4, s5], [.un, .un]⟩
def units (w : Nat) : List (List Int) := (List.range w).map fun v => marks w v
theorem units_len (w : Nat) : (units w).length = w := by unfold units; rw [List.length_map, List.length_range]
theorem units_get {w j : Nat} (h : j < w) : (units w)[j]? = some (marks w j) := by
  unfold units
  rw [List.getElem?_map, List.getElem?_range h]
  rfl
end Ev

namespace Ev
open PySem L2
def loF (h : List D) (mi : Int) (s2 s3 : Slot) : Env := ⟨[.ow h, .sh (.int mi), s2, s3], [.att, .un]⟩
theorem good_unit {p : Int} {w v : Nat} (hp : 1 < p) (hv : v < w) : Good p w (marks w v) := by
  refine ⟨marks_len w v, rg_marks hp w v, fun e => ?_⟩
  have h1 := marks_at (m := w) (k := v) hv
  rw [if_pos rfl, e, rep_getD] at h1
  omega
theorem pcsD_snoc (P : List Pc) (a : Pc) : pcsD P ++ [.tup [.tup (vec a.1), .int a.2]] = pcsD (P ++ [a]) := by
  unfold pcsD
  rw [List.map_append]
  rfl
def lpF (h : List D) (p wi mo : Int) (P : List Pc) (s5 s6 : Slot) : Env := ⟨[.ow h, .sh (.int p), .sh (.int wi), .sh (.int mo), .ow (pcsD P), s5, s6], [.att, .un, .un, .un]⟩
end Ev

namespace Ev
open PySem L2
def wpF (h : List D) (s1 s2 : Slot) : Env := ⟨[.ow h, s1, s2], [.att]⟩
end Ev

namespace Ev
open PySem L2
theorem php : ∀ (w : Nat) (l : List Nat), l.Nodup → (∀ x ∈ l, x < w) → l.length ≤ w ∧ (l.length = w → ∀ v, v < w → v ∈ l)
  | 0, l, _, h => by
    cases l with
    | nil => exact ⟨Nat.le_refl _, fun _ v hv => absurd hv (Nat.not_lt_zero _)⟩
    | cons a r => exact absurd (h a (by simp)) (Nat.not_lt_zero _)
  | w + 1, l, hn, h => by
    by_cases hm : w ∈ l
    · have hl : (l.erase w).length = l.length - 1 := List.length_erase_of_mem hm
      have hpos : 0 < l.length := List.length_pos_of_mem hm
      obtain ⟨h1, h2⟩ := php w (l.erase w) (hn.erase _) fun x hx => by
        have h3 := h x (List.mem_of_mem_erase hx)
        have h4 : x ≠ w := fun e => by subst e; exact (hn.not_mem_erase) hx
        omega
      refine ⟨by omega, fun e v hv => ?_⟩
      by_cases hvw : v = w
      · subst hvw; exact hm
      · exact List.mem_of_mem_erase (h2 (by omega) v (by omega))
    · obtain ⟨h1, _⟩ := php w l hn fun x hx => by
        have h3 := h x hx
        have h4 : x ≠ w := fun e => by subst e; exact hm hx
        omega
      exact ⟨by omega, fun e => by omega⟩
theorem php2 : ∀ (w : Nat) (l : List Nat), (∀ v, v < w → v ∈ l) → w ≤ l.length
  | 0, _, _ => Nat.zero_le _
  | w + 1, l, h => by
    have hm := h w (by omega)
    have hl : (l.erase w).length = l.length - 1 := List.length_erase_of_mem hm
    have hpos : 0 < l.length := List.length_pos_of_mem hm
    have := php2 w (l.erase w) fun v hv => (List.mem_erase_of_ne (by omega)).mpr (h v (by omega))
    omega
theorem stag_nodup {p : Int} (hp : 1 < p) : ∀ {rows : List (Nat × Lin.V)}, Lin.Stag p rows → (rows.map (·.1)).Nodup
  | [], _ => List.nodup_nil
  | (q, r) :: rest, ⟨h1, h0, hs⟩ => by
    rw [List.map_cons, List.nodup_cons]
    refine ⟨fun hm => ?_, stag_nodup hp hs⟩
    obtain ⟨a, ha, e⟩ := List.mem_map.mp hm
    have e : a.1 = q := e
    have h2 := h0 a ha
    have h3 := Lin.stag_mem hs a ha
    rw [e] at h3
    have h4 : p ∣ 1 := Lin.dvOf (Lin.dvSub h2 h3) (by omega)
    have := Int.le_of_dvd (by decide) h4
    omega
/-- the rows are as many as the width just where every version is read -/
theorem full_reads {p : Int} {w n : Nat} {s : Nat → Lin.V} {rows : List (Nat × List Int)} (hpp : p ∈ primes) (hw : w ≤ 1000) (f : Found p w w s n rows) : rows.length = w ↔ ∀ v, v < w → Lin.Sp p w (Lin.Pre s n) (co (marks w v)) := by
  obtain ⟨hp1, hp2⟩ := primes_lt hpp
  have hnd := stag_nodup hp1 f.r.s
  have hq : ∀ x ∈ (absR rows).map (·.1), x < w := fun x hx => by
    obtain ⟨a, ha, rfl⟩ := List.mem_map.mp hx
    exact f.qs a ha
  have hl : ((absR rows).map (·.1)).length = rows.length := by
    unfold absR
    rw [List.length_map, List.length_map]
  obtain ⟨h1, h2⟩ := php w _ hnd hq
  rw [hl] at h1 h2
  constructor
  · intro e v hv
    have hall := h2 e
    obtain ⟨r, o, _, u, rfl, rfl, hu1, hu2, hR⟩ := WF.get (reducedS_ok (v := marks w v) (.inr rfl) hp1 hp2 hw f.r (marks_len w v) (rg_marks hp1 w v))
    refine (f.t.pre (Nat.le_refl w)).mp ((hR.iff (Nat.le_refl w) f.r.s f.qs).mpr fun i hi => ?_)
    obtain ⟨a, ha, e⟩ := List.mem_map.mp (hall i hi)
    have := hR.z a ha
    rw [show a.1 = i from e] at this
    exact this
  · intro h
    have hall : ∀ v, v < w → v ∈ (absR rows).map (·.1) := fun v hv => by
      apply Classical.byContradiction
      intro hn
      have h3 := (f.t.pre (Nat.le_refl w)).mpr (h v hv)
      have h4 := Lin.stag_zero f.r.s f.qs h3 (fun a ha => by
        have hne : a.1 ≠ v := fun e => hn (List.mem_map.mpr ⟨a, ha, e⟩)
        have := f.qs a ha
        rw [co_eq, marks_at this, if_neg hne]
        exact Lin.dv0 p) v hv
      rw [co_eq, marks_at hv, if_pos rfl] at h4
      have := Int.le_of_dvd (by decide) h4
      omega
    have := php2 w _ hall
    rw [hl] at this
    omega
theorem ReadL.all {p : Int} {w : Nat} {S : List (List Int)} {L : List Nat} (h : ReadL p w S L) : L = List.range w ↔ ∀ v, v < w → Reads p w S v := by
  constructor
  · rintro rfl v hv
    exact ((h.m v).mp (List.mem_range.mpr hv)).2
  · intro k
    refine rise_nat h.o List.pairwise_lt_range fun v => ?_
    rw [h.m, List.mem_range]
    exact ⟨fun a => a.1, fun a => ⟨a, k v a⟩⟩
/-- more pieces read no less -/
theorem reads_more {p : Int} {w v : Nat} {S S' : List (List Int)} (h : ∀ s ∈ S, s ∈ S') (k : Reads p w S v) : Reads p w S' v := by
  refine Lin.Sp.mono (fun x ⟨j, hj, e⟩ => ?_) k
  have hm := h _ (getD_memL hj)
  obtain ⟨i, hi, e2⟩ := List.getElem_of_mem hm
  refine ⟨i, hi, ?_⟩
  rw [e]
  unfold row
  rw [List.getD_eq_getElem?_getD (l := S') , List.getElem?_eq_getElem hi]
  exact congrArg co e2.symm
end Ev

namespace Ev
open PySem L2
theorem cut_sub (xs : List D) (lo hi : Option Int) : (cutD xs lo hi).length ≤ xs.length ∧ ∀ x ∈ cutD xs lo hi, x ∈ xs := by
  unfold cutD
  refine ⟨?_, fun x hx => List.mem_of_mem_drop (List.mem_of_mem_take hx)⟩
  rw [List.length_take, List.length_drop]
  omega
theorem insS_len {k : Int} : ∀ (l : List Int), (insS k l).length ≤ l.length + 1
  | [] => by simp [insS]
  | x :: xs => by
    have := insS_len (k := k) xs
    unfold insS
    split
    · simp
    · split
      · simp
      · simp
        omega
theorem sdd_len : ∀ (ns : List Int), (sdd ns).length ≤ ns.length
  | [] => Nat.le_refl _
  | n :: ns => by
    have h1 := sdd_len ns
    have h2 := insS_len (k := n) (sdd ns)
    show (insS n (sdd ns)).length ≤ ns.length + 1
    omega
theorem sortSet_vec {ns : List Int} (h : ns.length < 4000) (h2 : (sdd ns).length < 64) : fSortSet [.tup (vec ns)] = some (.nw (vec (sdd ns))) := by
  show (match nums (vec ns) with | some ns => if ns.length < 4000 ∧ (sdd ns).length < 64 then some (RB.nw ((sdd ns).map D.int)) else none | none => none) = _
  rw [nums_vec]
  show (if ns.length < 4000 ∧ (sdd ns).length < 64 then _ else _) = _
  rw [if_pos ⟨h, h2⟩]
  rfl
def blF (h : List D) (mi : Int) (xs : List D) (s3 s4 : Slot) : Env := ⟨[.ow h, .sh (.int mi), .sh (.tup xs), s3, s4], [.att, .un, .un]⟩
end Ev

namespace Ev
open PySem L2
/-! ### pieces that are told alike -/
def pcP (a : Pc) : PyData := .tuple [.tuple (a.1.map PyData.int), .int a.2]
theorem py_pc (a : Pc) : (pcD a).py = some (pcP a) := by
  show (match D.pys [.tup (vec a.1), .int a.2] with | some ps => some (PyData.tuple ps) | none => none) = _
  have : D.pys [.tup (vec a.1), .int a.2] = some [.tuple (a.1.map PyData.int), .int a.2] := by
    unfold D.pys
    rw [py_tup]
    rfl
  rw [this]
  rfl
theorem pys_pcs : ∀ P : List Pc, D.pys (pcsD P) = some (P.map pcP)
  | [] => rfl
  | a :: P => by
    show D.pys (pcD a :: pcsD P) = _
    unfold D.pys
    rw [py_pc, pys_pcs P]
    rfl
theorem lay_pcs : ∀ P : List Pc, PyData.canLayAll0 (P.map pcP) = true
  | [] => rfl
  | a :: P => by
    show ((PyData.canLayAll0 (a.1.map PyData.int) && (PyData.canLay0 (.int a.2) && true)) && PyData.canLayAll0 (P.map pcP)) = true
    rw [lay_pcs P, lay_vec]
    rfl
theorem dep_pcs : ∀ P : List Pc, PyData.depthAll (P.map pcP) ≤ 2
  | [] => Nat.zero_le _
  | a :: P => by
    show max ((max (PyData.depthAll (a.1.map PyData.int) + 1) (max (PyData.depth (.int a.2)) 0)) + 1) (PyData.depthAll (P.map pcP)) ≤ 2
    rw [dep_vec]
    have := dep_pcs P
    exact Nat.max_le.mpr ⟨by show max (0 + 1) (max 0 0) + 1 ≤ 2; decide, this⟩
theorem eqv_pcs : ∀ P : List Pc, PyData.eqvAll (P.map pcP) (P.map pcP) = true
  | [] => rfl
  | a :: P => by
    show ((PyData.eqvAll (a.1.map PyData.int) (a.1.map PyData.int) && (PyData.eqv (.int a.2) (.int a.2) && true)) && PyData.eqvAll (P.map pcP) (P.map pcP)) = true
    rw [eqv_pcs P, eqv_vec, decide_eq_true rfl]
    show ((true && ((a.2 == a.2) && true)) && true) = true
    simp
theorem ne_pcs (P : List Pc) : fNe [.tup (pcsD P), .tup (pcsD P)] = some (.d (.bl false)) := by
  have hpy : (D.tup (pcsD P)).py = some (.tuple (P.map pcP)) := by
    show (match D.pys (pcsD P) with | some ps => some (PyData.tuple ps) | none => none) = _
    rw [pys_pcs]
  have hsh : SeqAt.shaped (.tuple (P.map pcP)) = true := by
    show (PyData.canLayAll0 (P.map pcP) && decide (PyData.depthAll (P.map pcP) + 1 ≤ 64)) = true
    rw [lay_pcs, decide_eq_true (by have := dep_pcs P; omega)]
    rfl
  have : eqD? (.tup (pcsD P)) (.tup (pcsD P)) = some true := by
    unfold eqD?
    rw [hpy]
    simp only [hsh, and_self, if_true]
    show some (PyData.eqvAll _ _) = _
    rw [eqv_pcs]
  show (match eqD? (.tup (pcsD P)) (.tup (pcsD P)) with | some k => some (RB.d (.bl (!k))) | none => none) = _
  rw [this]
  rfl
/-! ### places as data -/
theorem cast_inj : ∀ {l m : List Nat}, (l.map fun k : Nat => (k : Int)) = (m.map fun k : Nat => (k : Int)) → l = m
  | [], [], _ => rfl
  | [], _ :: _, h => by cases h
  | _ :: _, [], h => by cases h
  | a :: l, b :: m, h => by
    rw [List.map_cons, List.map_cons] at h
    injection h with h1 h2
    rw [cast_inj h2, show a = b by omega]
theorem nats_inj {l m : List Nat} (h : nats l = nats m) : l = m := by
  rw [nats_vec, nats_vec] at h
  refine cast_inj ?_
  have : ∀ {a b : List Int}, vec a = vec b → a = b := fun {a b} e => by
    have e2 := congrArg nums e
    rw [nums_vec, nums_vec] at e2
    exact Option.some.inj e2
  exact this h
theorem ne_nats (l m : List Nat) : fNe [.tup (nats l), .tup (nats m)] = some (.d (.bl (!decide (l = m)))) := by
  rw [nats_vec, nats_vec, ne_tup]
  by_cases h : l = m
  · subst h
    rw [decide_eq_true rfl, decide_eq_true rfl]
  · rw [decide_eq_false h, decide_eq_false fun e => h (cast_inj e)]
theorem eq_nats (l m : List Nat) : fEq [.tup (nats l), .tup (nats m)] = some (.d (.bl (decide (l = m)))) := by
  rw [nats_vec, nats_vec, eq_tup]
  by_cases h : l = m
  · subst h
    rw [decide_eq_true rfl, decide_eq_true rfl]
  · rw [decide_eq_false h, decide_eq_false fun e => h (cast_inj e)]
theorem up_nats {mi : Int} {m : Nat} (h : mi = m) : upFrom mi.toNat 0 = nats (List.range m) := by
  subst h
  apply List.ext_getElem?
  intro j
  unfold nats
  rw [List.getElem?_map, Int.toNat_natCast]
  by_cases hj : j < m
  · rw [List.getElem?_range hj]
    cases e : (upFrom m 0)[j]? with
    | none =>
      rw [List.getElem?_eq_none_iff, upFrom_length] at e
      omega
    | some d =>
      obtain ⟨_, rfl⟩ := upFrom_get _ _ _ _ e
      rw [Int.zero_add]
      rfl
  · rw [List.getElem?_eq_none (by rw [upFrom_length]; omega), List.getElem?_eq_none (by rw [List.length_range]; omega)]
    rfl
theorem tupR_nats {mi : Int} {m : Nat} (h : mi = m) (hm : m ≤ 1000) : fTupR1 [.int mi] = some (.d (.tup (nats (List.range m)))) := by
  rw [← up_nats h]
  show (if small23 mi then _ else _) = _
  rw [if_pos (by unfold small23; rw [decide_eq_true (by omega), decide_eq_true (by omega)]; rfl)]
theorem range_lot (m : Nat) : IsLot m (List.range m) := ⟨fun k hk => List.mem_range.mp hk, List.pairwise_lt_range⟩
/-- whole numbers that rise from 0 are places -/
theorem nats_of : ∀ (Z : List Int), (∀ z ∈ Z, 0 ≤ z) → Z = (Z.map Int.toNat).map fun k : Nat => (k : Int)
  | [], _ => rfl
  | z :: Z, h => by
    rw [List.map_cons, List.map_cons, ← nats_of Z fun x hx => h x (List.mem_cons_of_mem _ hx)]
    have := h z List.mem_cons_self
    rw [show ((z.toNat : Nat) : Int) = z by omega]
/-- two lots together, as a lot -/
theorem both_lots {m : Nat} {l k : List Nat} (hm : m ≤ 40) (hl : IsLot m l) (hk : IsLot m k) : ∃ M, fSortSet [.tup (nats l ++ nats k)] = some (.nw (nats M)) ∧ IsLot m M ∧ ∀ x ∈ l, x ∈ M := by
  have e : nats l ++ nats k = vec ((l ++ k).map fun j : Nat => (j : Int)) := by
    rw [nats_vec, nats_vec, vec_app, List.map_append]
  generalize hns : ((l ++ k).map fun j : Nat => (j : Int)) = ns at e
  have hmem : ∀ z, z ∈ sdd ns ↔ ∃ j, j ∈ l ++ k ∧ (j : Int) = z := fun z => by
    rw [mem_sdd, ← hns, List.mem_map]
  have hz0 : ∀ z ∈ sdd ns, 0 ≤ z := fun z hz => by
    obtain ⟨j, _, rfl⟩ := (hmem z).mp hz
    omega
  have hlt : ∀ j ∈ l ++ k, j < m := fun j hj => by
    rcases List.mem_append.mp hj with hj | hj
    · exact hl.lt j hj
    · exact hk.lt j hj
  have hM : IsLot m ((sdd ns).map Int.toNat) := by
    refine ⟨fun x hx => ?_, ?_⟩
    · obtain ⟨z, hz, rfl⟩ := List.mem_map.mp hx
      obtain ⟨j, hj, rfl⟩ := (hmem z).mp hz
      rw [Int.toNat_natCast]
      exact hlt j hj
    · rw [List.pairwise_map]
      refine (sdd_rise ns).imp_of_mem fun {a b} ha hb h => ?_
      have := hz0 a ha
      omega
  have hlen : (sdd ns).length ≤ 40 := by
    have := hM.len
    rw [List.length_map] at this
    omega
  have hl2 := hl.len
  have hk2 := hk.len
  have hnl : ns.length = l.length + k.length := by rw [← hns, List.length_map, List.length_append]
  refine ⟨(sdd ns).map Int.toNat, ?_, hM, fun x hx => ?_⟩
  · rw [e, sortSet_vec (by omega) (by omega), nats_vec, ← nats_of _ hz0]
  · exact List.mem_map.mpr ⟨(x : Int), (hmem _).mpr ⟨x, List.mem_append_left _ hx, rfl⟩, Int.toNat_natCast x⟩
end Ev

namespace Ev
open PySem L2
/-! ### the taken ones as a list -/
open Classical in
noncomputable def tkL (p : Int) (w : Nat) (s : Nat → Lin.V) (n : Nat) : List Nat := (List.range n).filter fun j => decide (Lin.Tk p w s j)
theorem tkL_mem {p : Int} {w n j : Nat} {s : Nat → Lin.V} : j ∈ tkL p w s n ↔ j < n ∧ Lin.Tk p w s j := by
  unfold tkL
  rw [List.mem_filter, List.mem_range, @decide_eq_true_iff _ (Classical.propDecidable _)]
theorem tkL_up (p : Int) (w n : Nat) (s : Nat → Lin.V) : (tkL p w s n).Pairwise (· < ·) := List.Pairwise.filter _ List.pairwise_lt_range
theorem Taken.eq {p : Int} {w n : Nat} {s : Nat → Lin.V} {fs : List Nat} (h : Taken p w s n fs) : fs = tkL p w s n := h.uniq ⟨fun j => tkL_mem, tkL_up ..⟩
noncomputable def tkP (p : Int) (w : Nat) (P : List Pc) (l : List Nat) : List Nat := tkL p w (row (picks P l)) l.length
noncomputable def rk (p : Int) (w : Nat) (P : List Pc) (l : List Nat) : Nat := (tkP p w P l).length
noncomputable def leanL (p : Int) (w : Nat) (P : List Pc) (l : List Nat) : List Nat := (tkP p w P l).map fun j => l.getD j 0
theorem rk_le (p : Int) (w : Nat) (P : List Pc) (l : List Nat) : rk p w P l ≤ l.length := by
  unfold rk tkP tkL
  have := List.length_filter_le (fun j => @decide (Lin.Tk p w (row (picks P l)) j) (Classical.propDecidable _)) (List.range l.length)
  rw [List.length_range] at this
  exact this
theorem rk_full {p : Int} {w : Nat} {P : List Pc} {l : List Nat} : rk p w P l = l.length ↔ ∀ j, j < l.length → Lin.Tk p w (row (picks P l)) j := by
  constructor
  · intro h j hj
    have h2 : (tkP p w P l).length = (List.range l.length).length := by rw [List.length_range]; exact h
    unfold tkP tkL at h2
    have := List.length_filter_eq_length_iff.mp h2 j (List.mem_range.mpr hj)
    exact (@decide_eq_true_iff _ (Classical.propDecidable _)).mp this
  · intro h
    have : tkP p w P l = List.range l.length := rise_nat (tkL_up ..) List.pairwise_lt_range fun k => by
      unfold tkP
      rw [tkL_mem, List.mem_range]
      exact ⟨fun a => a.1, fun a => ⟨a, h k a⟩⟩
    unfold rk
    rw [this, List.length_range]
theorem getD_mem0 {l : List Nat} {j : Nat} (h : j < l.length) : l.getD j 0 ∈ l := by
  rw [List.getD_eq_getElem?_getD, List.getElem?_eq_getElem h]
  exact List.getElem_mem h
theorem row_picks {P : List Pc} {l : List Nat} {j : Nat} (h : j < l.length) : row (picks P l) j = co (pcAt P (l.getD j 0)).1 := by
  refine row_of ?_
  unfold picks
  rw [List.getElem?_map, List.getD_eq_getElem?_getD, List.getElem?_eq_getElem h]
  rfl
theorem up_getD {l : List Nat} (h : l.Pairwise (· < ·)) {i j : Nat} (hij : i < j) (hj : j < l.length) : l.getD i 0 < l.getD j 0 := by
  rw [List.getD_eq_getElem?_getD, List.getD_eq_getElem?_getD, List.getElem?_eq_getElem hj, List.getElem?_eq_getElem (Nat.lt_trans hij hj)]
  exact List.pairwise_iff_getElem.mp h i j _ _ hij
theorem lean_sub {p : Int} {w : Nat} {P : List Pc} {l : List Nat} : ∀ k ∈ leanL p w P l, k ∈ l := fun k hk => by
  unfold leanL at hk
  obtain ⟨j, hj, rfl⟩ := List.mem_map.mp hk
  exact getD_mem0 (tkL_mem.mp hj).1
theorem lean_lot {p : Int} {w m : Nat} {P : List Pc} {l : List Nat} (h : IsLot m l) : IsLot m (leanL p w P l) := by
  refine ⟨fun k hk => h.lt k (lean_sub k hk), ?_⟩
  unfold leanL
  rw [List.pairwise_map]
  refine List.Pairwise.imp_of_mem ?_ (tkL_up p w l.length (row (picks P l)))
  intro a b ha hb hab
  exact up_getD h.up hab (tkL_mem.mp hb).1
theorem lean_len (p : Int) (w : Nat) (P : List Pc) (l : List Nat) : (leanL p w P l).length = rk p w P l := List.length_map ..
/-- the taken ones are alone -/
theorem rk_lean {p : Int} {w m : Nat} {P : List Pc} {l : List Nat} : rk p w P (leanL p w P l) = (leanL p w P l).length := by
  refine rk_full.mpr fun j hj hS => ?_
  have hj' : j < (tkP p w P l).length := by rw [lean_len] at hj; exact hj
  have hat : ∀ i, i < (tkP p w P l).length → (tkP p w P l).getD i 0 < l.length ∧ row (picks P (leanL p w P l)) i = row (picks P l) ((tkP p w P l).getD i 0) := fun i hi => by
    have hm : (tkP p w P l).getD i 0 < l.length := (tkL_mem.mp (getD_mem0 hi)).1
    refine ⟨hm, ?_⟩
    rw [row_picks (by rw [lean_len]; exact hi), row_picks hm]
    unfold leanL
    rw [List.getD_eq_getElem?_getD, List.getElem?_map, List.getElem?_eq_getElem hi, List.getD_eq_getElem?_getD (l := tkP p w P l), List.getElem?_eq_getElem hi]
    rfl
  refine (tkL_mem.mp (getD_mem0 hj')).2 ?_
  rw [(hat j hj').2] at hS
  refine Lin.Sp.mono (fun x ⟨i, hi, e⟩ => ?_) hS
  exact ⟨(tkP p w P l).getD i 0, up_getD (tkL_up ..) hi hj', by rw [e, (hat i (by omega)).2]⟩
/-! ### keepings -/
section
variable {p wi : Int} {w : Nat} {P : List Pc}
theorem found_of {l : List Nat} (hpp : p ∈ primes) (h2 : w ≤ 10) (hP : Pcs p w P) (hl : IsLot P.length l) : ∃ rows, Found p w w (row (picks P l)) l.length rows ∧ rows.length = rk p w P l := by
  have hl40 := lot_len hP.n hl
  obtain ⟨r, o, _, _, fs, rows, _, hf, ht, hrl⟩ := WF.get (wtaken_ok (wi := (w : Int)) hpp rfl h2 hP (by omega) hl.lt)
  exact ⟨rows, hf, by rw [hrl, ht.eq]; rfl⟩
theorem rk_w {l : List Nat} (hpp : p ∈ primes) (h2 : w ≤ 10) (hP : Pcs p w P) (hl : IsLot P.length l) : rk p w P l = w ↔ ∀ v, v < w → Reads p w (picks P l) v := by
  obtain ⟨rows, hf, e⟩ := found_of hpp h2 hP hl
  have := full_reads hpp (by omega) hf
  rw [e] at this
  rw [this]
  unfold Reads
  rw [picks_len]
theorem rk_lew {l : List Nat} (hpp : p ∈ primes) (h2 : w ≤ 10) (hP : Pcs p w P) (hl : IsLot P.length l) : rk p w P l ≤ w := by
  obtain ⟨rows, hf, e⟩ := found_of hpp h2 hP hl
  obtain ⟨hp1, hp2⟩ := primes_lt hpp
  have hnd := stag_nodup hp1 hf.r.s
  have hq : ∀ x ∈ (absR rows).map (·.1), x < w := fun x hx => by
    obtain ⟨a, ha, rfl⟩ := List.mem_map.mp hx
    exact hf.qs a ha
  have := (php w _ hnd hq).1
  unfold absR at this
  rw [List.length_map, List.length_map] at this
  omega
theorem lot_filter {m : Nat} {l : List Nat} (h : IsLot m l) (f : Nat → Bool) : IsLot m (l.filter f) := ⟨fun k hk => h.lt k (List.mem_filter.mp hk).1, List.Pairwise.filter _ h.up⟩
def dropK (l : List Nat) (k : Nat) : List Nat := l.filter fun i => !decide (i = k)
theorem picks_mem {P : List Pc} {l : List Nat} {k : Nat} (h : k ∈ l) : ∃ i, i < l.length ∧ co (pcAt P k).1 = row (picks P l) i := by
  obtain ⟨i, hi, e⟩ := List.getElem_of_mem h
  refine ⟨i, hi, ?_⟩
  rw [row_picks hi, List.getD_eq_getElem?_getD, List.getElem?_eq_getElem hi, ← e]
  rfl
/-- what is made of the ones ahead isn't needed -/
theorem drop_reads {l : List Nat} {j v : Nat} (hl : l.Pairwise (· < ·)) (hj : j < l.length) (ht : ¬ Lin.Tk p w (row (picks P l)) j) (h : Reads p w (picks P l) v) : Reads p w (picks P (dropK l (l.getD j 0))) v := by
  have ht' : Lin.Sp p w (Lin.Pre (row (picks P l)) j) (row (picks P l) j) := Classical.not_not.mp ht
  have hin : ∀ i, i < l.length → i ≠ j → Lin.Pre (row (picks P (dropK l (l.getD j 0)))) (picks P (dropK l (l.getD j 0))).length (row (picks P l) i) := fun i hi hne => by
    have hm : l.getD i 0 ∈ dropK l (l.getD j 0) := by
      unfold dropK
      refine List.mem_filter.mpr ⟨getD_mem0 hi, ?_⟩
      have : l.getD i 0 ≠ l.getD j 0 := by
        rcases Nat.lt_or_gt_of_ne hne with z | z
        · exact Nat.ne_of_lt (up_getD hl z hj)
        · exact Nat.ne_of_gt (up_getD hl z hi)
      rw [decide_eq_false this]
      rfl
    obtain ⟨k, hk, e⟩ := picks_mem (P := P) hm
    rw [picks_len]
    exact ⟨k, hk, by rw [row_picks hi, e]⟩
  unfold Reads at h ⊢
  refine Lin.Sp.trans (fun x ⟨i, hi, e⟩ => ?_) h
  rw [picks_len] at hi
  subst e
  by_cases hne : i = j
  · subst hne
    exact Lin.Sp.mono (fun y ⟨k, hk, e⟩ => by rw [e]; exact hin k (by omega) (by omega)) ht'
  · exact Lin.Sp.mem (hin i hi hne)
noncomputable def needL (p : Int) (w : Nat) (P : List Pc) (l : List Nat) : List Nat := l.filter fun k => decide (rk p w P (dropK l k) = rk p w P l)
theorem drop_len {l : List Nat} {k : Nat} (h : k ∈ l) : (dropK l k).length < l.length := by
  unfold dropK
  refine List.length_filter_lt_length_iff_exists.mpr ⟨k, h, by simp⟩
/-- of a keeping: it is lean just if none is needless -/
theorem need_nil {l : List Nat} (hpp : p ∈ primes) (h2 : w ≤ 10) (hP : Pcs p w P) (hl : IsLot P.length l) (hw : rk p w P l = w) : needL p w P l = [] ↔ rk p w P l = l.length := by
  unfold needL
  rw [List.filter_eq_nil_iff]
  constructor
  · intro h
    refine rk_full.mpr fun j hj => ?_
    apply Classical.byContradiction
    intro ht
    refine h _ (getD_mem0 hj) (decide_eq_true ?_)
    rw [hw]
    exact (rk_w hpp h2 hP (lot_filter hl _)).mpr fun v hv => drop_reads hl.up hj ht ((rk_w hpp h2 hP hl).mp hw v hv)
  · intro h k hk e
    have e := of_decide_eq_true e
    have := rk_le p w P (dropK l k)
    have := drop_len hk
    omega
end
end Ev

namespace Ev
open PySem L2
/-! ### comprehensions over a list of things -/
theorem fm_filter {α : Type} (q : α → Bool) (e : α → D) : ∀ l : List α, (l.map fun a => if q a = true then some (e a) else none).filterMap id = (l.filter q).map e
  | [] => rfl
  | a :: l => by
    rw [List.map_cons, List.filterMap_cons]
    cases h : q a with
    | true =>
      rw [List.filter_cons_of_pos h, List.map_cons, ← fm_filter q e l]
      rfl
    | false =>
      rw [List.filter_cons_of_neg (by rw [h]; decide), ← fm_filter q e l]
      rfl
section
variable {ρ : Env} {α : Type}
theorem w_lcfL {ows : List Nat} {tg : Tg} {f : List D → Option (List D)} {as : Es} {t : T} {elt : E} {P : B → Env → Prop} {l : List α} {g e : α → D} {q : α → Bool} (h : W (evA as ρ) fun bs ρ1 => ∃ ds, views ρ1 bs = some ds ∧ f ds = some (l.map g) ∧
      (l.length ≤ sizeLine ∧ (ows.all fun i => match ρ1.o[i]? with | some .att => false | _ => true) = true ∧ (tg.is.all fun i => ows.contains i) = true) ∧
      (∀ a ∈ l, ∃ ρ3, tg.set (wipeE (locks ρ1 bs) ows) (g a) = some ρ3 ∧ W (evT t ρ3) fun k ρ4 => k = q a ∧ (q a = true → W (evE elt ρ4) fun b ρ5 => ∃ ρ6, b.keep ρ5 = some (e a, ρ6) ∧ wipeE ρ6 ows = wipeE (locks ρ1 bs) ows) ∧ wipeE ρ4 ows = wipeE (locks ρ1 bs) ows) ∧
      P (.nw ((l.filter q).map e)) (unlocks ρ1 (unwipe (locks ρ1 bs) (wipeE (locks ρ1 bs) ows) ows) bs)) : W (evE (.lc ows tg f as (.some t) elt) ρ) P := by
  refine w_lcf (W.mono h fun bs ρ1 ⟨ds, h1, h2, h3, hs, hP⟩ => ⟨ds, _, h1, h2, by rw [List.length_map]; exact h3, l.map fun a => if q a = true then some (e a) else none, by rw [List.length_map, List.length_map], fun j x y hx hy => ?_, by rw [fm_filter]; exact hP⟩)
  rw [List.getElem?_map] at hx hy
  cases hj : l[j]? with
  | none => rw [hj] at hx; cases hx
  | some a =>
    rw [hj] at hx hy
    cases hx
    cases hy
    obtain ⟨ρ3, k1, k2⟩ := hs a (List.mem_of_getElem? hj)
    refine ⟨ρ3, k1, W.mono k2 fun k ρ4 ⟨e1, e2, e3⟩ => ⟨fun z => ?_, fun z => ?_⟩⟩
    · subst e1
      refine W.mono (e2 z) fun b ρ5 ⟨ρ6, k3, k4⟩ => ⟨e a, ρ6, k3, ?_, k4⟩
      show (if q a = true then some (e a) else none) = _
      rw [if_pos z]
    · subst e1
      exact ⟨by show (if q a = true then some (e a) else none) = _; rw [z]; rfl, e3⟩
theorem w_lcmL {ows : List Nat} {tg : Tg} {f : List D → Option (List D)} {as : Es} {elt : E} {P : B → Env → Prop} {l : List α} {g e : α → D} (h : W (evA as ρ) fun bs ρ1 => ∃ ds, views ρ1 bs = some ds ∧ f ds = some (l.map g) ∧
      (l.length ≤ sizeLine ∧ (ows.all fun i => match ρ1.o[i]? with | some .att => false | _ => true) = true ∧ (tg.is.all fun i => ows.contains i) = true) ∧
      (∀ a ∈ l, ∃ ρ3, tg.set (wipeE (locks ρ1 bs) ows) (g a) = some ρ3 ∧ W (evE elt ρ3) fun b ρ5 => ∃ ρ6, b.keep ρ5 = some (e a, ρ6) ∧ wipeE ρ6 ows = wipeE (locks ρ1 bs) ows) ∧
      P (.nw (l.map e)) (unlocks ρ1 (unwipe (locks ρ1 bs) (wipeE (locks ρ1 bs) ows) ows) bs)) : W (evE (.lc ows tg f as .none elt) ρ) P := by
  refine w_lcm (W.mono h fun bs ρ1 ⟨ds, h1, h2, h3, hs, hP⟩ => ⟨ds, _, h1, h2, by rw [List.length_map]; exact h3, l.map e, by rw [List.length_map, List.length_map], fun j x y hx hy => ?_, hP⟩)
  rw [List.getElem?_map] at hx hy
  cases hj : l[j]? with
  | none => rw [hj] at hx; cases hx
  | some a =>
    rw [hj] at hx hy
    cases hx
    cases hy
    exact hs a (List.mem_of_getElem? hj)
end
/-! ### lean, needless -/
section
variable {p wi : Int} {w : Nat} {P : List Pc} {l : List Nat}
theorem taken_is (hpp : p ∈ primes) (hw : wi = w) (h2 : w ≤ 10) (hP : Pcs p w P) (hl : IsLot P.length l) : WF (F_taken [.sh (webD p wi P), .sh (.tup (nats l))]) fun r o => o = [.un, .un] ∧ r = .d (.tup (nats (leanL p w P l))) := by
  have hl40 := lot_len hP.n hl
  refine WF.mono (wtaken_ok hpp hw h2 hP (by omega) hl.lt) ?_
  rintro r o ⟨rfl, fs, rows, rfl, _, ht, _⟩
  exact ⟨rfl, by rw [ht.eq]; rfl⟩
theorem dec_nat {a b : Nat} {ai bi : Int} (h1 : ai = a) (h2 : bi = b) : decide (ai = bi) = decide (a = b) := by
  by_cases e : a = b
  · rw [decide_eq_true e, decide_eq_true (by omega)]
  · rw [decide_eq_false e, decide_eq_false (by omega)]
/-- is_lean: of data of any kind -/
theorem is_lean_ok {d : D} (hpp : p ∈ primes) (hw : wi = w) (h2 : w ≤ 10) (hP : Pcs p w P) (hd : Okd d) :
    WF (F_is_lean [.sh (webD p wi P), .sh d]) fun r o => o = [.un, .un] ∧ ((lotB (P.length : Int) d = false ∧ r = .d (.bl false)) ∨ ∃ l, d = .tup (nats l) ∧ IsLot P.length l ∧ r = .d (.bl (decide (rk p w P l = l.length)))) := by
  refine wf_fn (ws_cons (ws_ret (we_and (w_call (W.of (a := [.d (webD p wi P), .d d]) (ρ := ⟨[.sh (webD p wi P), .sh d], [.un, .un]⟩) rfl ⟨rfl, [.sh (webD p wi P), .sh d], rfl, WF.mono (is_lot_of_ok hd) ?_⟩)))))
  rintro r o ⟨rfl, rfl⟩
  cases hb : lotB (P.length : Int) d with
  | false => exact ⟨false, rfl, fun z => absurd z (by decide), fun _ => ⟨_, _, rfl, rfl, .inl ⟨rfl, rfl⟩⟩⟩
  | true =>
    refine ⟨true, rfl, fun _ => ?_, fun z => absurd z (by decide)⟩
    obtain ⟨l, rfl, hl⟩ := lotB_nats rfl hb
    have hl40 := lot_len hP.n hl
    refine w_prim (wa_cons (w_prim (wa_cons (w_call (W.of (a := [.d (webD p wi P), .d (.tup (nats l))]) (ρ := ⟨[.sh (webD p wi P), .sh (.tup (nats l))], [.un, .un]⟩) rfl ⟨rfl, [.sh (webD p wi P), .sh (.tup (nats l))], rfl, WF.mono (taken_is hpp hw h2 hP hl) ?_⟩)))))
    rintro r o ⟨rfl, rfl⟩
    have hn : fLen [.tup (nats (leanL p w P l))] = some (.d (.int ((rk p w P l : Nat) : Int))) := by rw [len_tup, nats_len, lean_len]
    have hm : fLen [.tup (nats l)] = some (.d (.int ((l.length : Nat) : Int))) := by rw [len_tup, nats_len]
    have hdec := dec_nat (a := rk p w P l) (b := l.length) rfl rfl
    generalize ((rk p w P l : Nat) : Int) = ni at hn hdec
    generalize ((l.length : Nat) : Int) = mi at hm hdec
    refine wa_nil ⟨[.tup (nats (leanL p w P l))], .d (.int ni), rfl, hn, ?_⟩
    refine wa_cons (w_prim (W.of (a := [.d (.tup (nats l))]) (ρ := ⟨[.sh (webD p wi P), .sh (.tup (nats l))], [.un, .un]⟩) rfl ⟨[.tup (nats l)], .d (.int mi), rfl, hm, ?_⟩))
    exact wa_nil ⟨[.int ni, .int mi], _, rfl, eq_int ni mi, _, _, rfl, rfl, .inr ⟨l, rfl, hl, by rw [hdec]⟩⟩
def woF (l : List Nat) (ki : Int) (s : Slot) : Env := ⟨[.sh (.tup (nats l)), .sh (.int ki), s], [.un, .un]⟩
def neF (web : D) (l : List Nat) (s2 s3 : Slot) : Env := ⟨[.sh web, .sh (.tup (nats l)), s2, s3], [.un, .un]⟩
def lnF (parts : D) (l : List Nat) (s2 s3 s4 : Slot) : Env := ⟨[.sh parts, .sh (.tup (nats l)), s2, s3, s4], [.un, .un]⟩
end
end Ev

namespace Ev
open PySem L2
/-! ### rows that stand in other data -/
def redFH (p : Int) (n : Nat) (R : List D) (L : Slot) (d : D) (u : List Int) (pl rw tm : Slot) : Env := ⟨[.sh (.int p), L, .sh d, .ow (vec u), pl, rw, tm, .un, .un], [.un, .un, .un]⟩
theorem reducedH_ok {p : Int} {n : Nat} {rows : List (Nat × List Int)} {v : List Int} {d : D} (hd : d = .lst (vec v) ∨ d = .tup (vec v)) (hp : 1 < p) (hp2 : p < 1000) (hW : n ≤ 1000) (hr : Rows p n rows) (hv : v.length = n) (hR : Rg p v) :
    WF (F_reduced [.sh (.int p), .sh (.lst (rowsD rows)), .sh d]) fun r o => ∃ u, r = .nw (vec u) ∧ o = [.un, .un, .un] ∧ u.length = n ∧ Rg p u ∧ Lin.Red p n (absR rows) (co v) (co u) := by
  refine wf_fn (ws_cons (ws_asgV (w_prim (W.of rfl ⟨_, _, rfl, (by rcases hd with rfl | rfl <;> rfl), rfl, redFH p n (rowsD rows) (.sh (.lst (rowsD rows))) d v .un .un .un, rfl, ?_⟩))))
  refine ws_cons (ws_for (W.of (a := [.d (.lst (rowsD rows))]) (ρ := redFH p n (rowsD rows) (.sh (.lst (rowsD rows))) d v .un .un .un) rfl ⟨[.lst (rowsD rows)], rowsD rows, rfl, rfl, fun j ρ => ∃ u pl rw tm, ρ = redFH p n (rowsD rows) (.sh (.lst (rowsD rows))) d u pl rw tm ∧ u.length = n ∧ Rg p u ∧ Lin.Red p n (absR (rows.take j)) (co v) (co u), ⟨v, .un, .un, .un, rfl, hv, hR, Lin.red_nil⟩, ?_, ?_⟩))
  · rintro j x ρ2 hx ⟨u, pl, rw, tm, rfl, hu, hUR, hRed⟩
    obtain ⟨a, ha, rfl⟩ := rowsD_get hx
    obtain ⟨q, r⟩ := a
    obtain ⟨hq, hrl, hrr⟩ := hr.g _ (List.mem_of_getElem? ha)
    have hq : q < n := hq
    have hrl : r.length = n := hrl
    obtain ⟨hone, hz⟩ := stag_take hr.s ha
    have hstep : ∀ {x : List Int}, (∀ i, i < n → p ∣ co x i - (co u i - co u q * co r i)) → Lin.Red p n (absR (rows.take (j + 1))) (co v) (co x) := fun {x} e => by
      have := Lin.red_step hRed hz hone hq (fun b hb => by
        obtain ⟨c, hc, rfl⟩ := absR_mem hb
        exact (hr.g c (List.mem_of_mem_take hc)).1) e
      rw [take_succ_of ha]
      unfold absR at this ⊢
      rw [List.map_append]
      exact this
    generalize hqi : (q : Int) = qi
    refine ⟨redFH p n (rowsD rows) (.sh (.lst (rowsD rows))) d u (.sh (.int qi)) (.sh (.lst (vec r))) tm, set_t2 rfl rfl rfl rfl, ?_⟩
    refine ws_cons (ws_asgV (w_prim (W.of (a := [.loc 3, .d (.int qi)]) (ρ := redFH p n (rowsD rows) (.sh (.lst (rowsD rows))) d u (.sh (.int qi)) (.sh (.lst (vec r))) tm) rfl ⟨_, .d (.int (u.getD q 0)), rfl, (by rw [← hqi]; exact ix_lst (vec_at (by rw [hu]; exact hq))), rfl, redFH p n (rowsD rows) (.sh (.lst (rowsD rows))) d u (.sh (.int qi)) (.sh (.lst (vec r))) (.sh (.int (u.getD q 0))), bnd_free rfl rfl, ?_⟩)))
    have hk := hUR.at (j := q) (by omega)
    generalize hkk : u.getD q 0 = k at hk
    refine ws_cons (ws_ite (wt_eb (w_prim (W.of (a := [.d (.int k), .d (.int 0)]) (ρ := redFH p n (rowsD rows) (.sh (.lst (rowsD rows))) d u (.sh (.int qi)) (.sh (.lst (vec r))) (.sh (.int k))) rfl ⟨_, _, rfl, ne_int _ _, _, rfl, fun h => ?_, fun h => ?_⟩))))
    · have core : ∀ (j : Nat) (x y : D), (zipD (vec u) (vec r))[j]? = some x → (vec (sub p k u r))[j]? = some y → ∃ ρ3, (Tg.t [7, 8]).set ⟨[.sh (.int p), .sh (.lst (rowsD rows)), .sh d, .lk (vec u), .sh (.int qi), .sh (.lst (vec r)), .sh (.int k), .un, .un], [.un, .un, .un]⟩ x = some ρ3 ∧ W (evE (.prim fMod (.cons (.prim fSub (.cons (.var 7) (.cons (.prim fMul (.cons (.var 6) (.cons (.var 8) .nil))) .nil))) (.cons (.var 0) .nil))) ρ3) fun b ρ5 => ∃ ρ6, b.keep ρ5 = some (y, ρ6) ∧ wipeE ρ6 [7, 8] = ⟨[.sh (.int p), .sh (.lst (rowsD rows)), .sh d, .lk (vec u), .sh (.int qi), .sh (.lst (vec r)), .sh (.int k), .un, .un], [.un, .un, .un]⟩ := fun j x y hx hy => by
        obtain ⟨j1, j2, rfl⟩ := zip_vec hx
        obtain ⟨_, rfl⟩ := vec_get hy
        rw [sub_at j1 j2]
        refine ⟨⟨[.sh (.int p), .sh (.lst (rowsD rows)), .sh d, .lk (vec u), .sh (.int qi), .sh (.lst (vec r)), .sh (.int k), .sh (.int (u.getD j 0)), .sh (.int (r.getD j 0))], [.un, .un, .un]⟩, rfl, ?_⟩
        refine w_prim (wa_cons (w_prim (wa_cons (W.of rfl (wa_cons (w_prim (W.of rfl ⟨_, _, rfl, mul_ok (mulOk_l (by omega) (by omega)), W.of rfl ⟨_, _, rfl, rfl, W.of rfl ⟨_, _, rfl, mod_ok (by omega), _, rfl, rfl⟩⟩⟩)))))))
      refine ws_cons (ws_asgV (w_lcm (W.of (a := [.loc 3, .d (.lst (vec r))]) rfl ⟨[.lst (vec u), .lst (vec r)], _, rfl, rfl, ⟨by rw [zip_vec_len, sizeLine_eq]; omega, rfl, rfl⟩, vec (sub p k u r), by rw [zip_vec_len, vec_len, sub_len], core, rfl, redFH p n (rowsD rows) (.sh (.lst (rowsD rows))) d (sub p k u r) (.sh (.int qi)) (.sh (.lst (vec r))) (.sh (.int k)), rfl, ?_⟩)))
      refine ws_nil (ws_nil ⟨_, _, _, _, rfl, by rw [sub_len]; omega, sub_rg (by omega), hstep fun i hi => ?_⟩)
      show p ∣ (sub p k u r).getD i 0 - _
      rw [sub_at (by omega) (by omega)]
      show p ∣ (u.getD i 0 - k * r.getD i 0) % p - (u.getD i 0 - u.getD q 0 * r.getD i 0)
      rw [hkk]
      exact dv_mod _ _
    · have hk0 : k = 0 := by simpa using h
      refine ws_nil (ws_nil ⟨u, _, _, _, rfl, hu, hUR, hstep fun i hi => ?_⟩)
      show p ∣ co u i - (co u i - u.getD q 0 * co r i)
      rw [hkk, hk0]
      exact ⟨0, by omega⟩
  · rintro ρ2 ⟨u, pl, rw, tm, rfl, hu, hUR, hRed⟩
    have hl : (rowsD rows).length = rows.length := List.length_map ..
    rw [hl, List.take_length] at hRed
    refine ws_cons (ws_ret (W.of (a := .loc 3) rfl ⟨.nw (vec u), _, rfl, u, rfl, rfl, hu, hUR, hRed⟩))
theorem new_rowH_ok {p wi : Int} {w n : Nat} {rows : List (Nat × List Int)} {v : List Int} (hpp : p ∈ primes) (hw : wi = w) (hwn : w ≤ n) (hn : n ≤ 1000) (hr : Rows p n rows) (hv : v.length = n) (hR : Rg p v) :
    WF (F_new_row [.sh (.int p), .sh (.int wi), .sh (.lst (rowsD rows)), .sh (.tup (vec v))]) fun r o => o = [.un, .un, .un, .un] ∧ ∃ u, u.length = n ∧ Rg p u ∧ Lin.Red p n (absR rows) (co v) (co u) ∧ Lead p w u r := by
  obtain ⟨hp1, hp2⟩ := primes_lt hpp
  refine wf_fn (ws_cons (ws_ret (w_call (wa_cons (W.of (a := .d (.int p)) rfl (wa_cons (W.of (a := .d (.int wi)) rfl (wa_cons (w_call (W.of (a := [.d (.int p), .d (.lst (rowsD rows)), .d (.tup (vec v))]) (ρ := ⟨[.sh (.int p), .sh (.int wi), .sh (.lst (rowsD rows)), .sh (.tup (vec v))], [.un, .un, .un, .un]⟩) rfl ⟨rfl, [.sh (.int p), .sh (.lst (rowsD rows)), .sh (.tup (vec v))], rfl, WF.mono (reducedH_ok (.inr rfl) hp1 hp2 hn hr hv hR) ?_⟩))))))))))
  rintro r o ⟨u, rfl, rfl, hu, hUR, hRed⟩
  refine wa_nil ⟨rfl, [.sh (.int p), .sh (.int wi), .ow (vec u)], rfl, WF.mono (leading_ok hpp hw (by omega) (by omega) hUR) ?_⟩
  rintro r o ⟨rfl, hL⟩
  exact ⟨r, _, retB_b r, rfl, u, hu, hUR, hRed, hL⟩
end Ev

namespace Ev
open PySem L2
/-! ### the tape of this family of laws -/
def td (g : List Int) (i a b t : Int) : List D := [.lst (g.map D.int), .int i, .int a, .int b, .int t]
def Tap (g : List Int) (h : List D) : Prop := ∃ i a b t : Int, h = td g i a b t ∧ 0 ≤ i ∧ 0 ≤ b
def pkF (h : List D) (m : Int) (x y z : Slot) : Env := ⟨[.ow h, .sh (.int m), x, y, z], [.att, .un]⟩
theorem tape_ok (ns : List Int) (hl : ns.length ≤ 63) : WF (F_law_tape [.sh (.ro (ns.map D.int))]) fun r o => ∃ h, r = .nw h ∧ o = [.un] ∧ Tap ns h := by
  refine wf_fn (ws_cons (ws_ret (w_lst (wd_cons (w_prim (W.of (a := [.d (.ro (ns.map D.int))]) (ρ := ⟨[.sh (.ro (ns.map D.int))], [.un]⟩) rfl ⟨[.ro (ns.map D.int)], .nw (ns.map D.int), rfl, rfl, .lst (ns.map D.int), _, rfl, ?_⟩))))))
  refine W.of (a := [.int 0, .int 0, .int 1, .int 0]) (ρ := ⟨[.sh (.ro (ns.map D.int))], [.un]⟩) rfl ⟨by simp, ?_⟩
  exact ⟨.nw (td ns 0 0 1 0), _, rfl, td ns 0 0 1 0, rfl, rfl, 0, 0, 1, 0, rfl, by omega, by omega⟩
def PickEnd (g : List Int) (m : Int) (b : B) (ρ : Env) : Prop := ∃ r ρ', retB ρ b = some (r, ρ') ∧ ∃ k h', r = .d (.int k) ∧ ρ'.outs = [.ow h', .un] ∧ 0 ≤ k ∧ k < m ∧ Tap g h'
def pickTail : Ss := match ir_law_pick with
  | .cons _ (.cons _ (.cons _ (.cons _ ss))) => ss
  | _ => .nil
theorem pick_tail {g : List Int} {i a b t m c : Int} (hm : 0 < m) (hm2 : m < 1073741824) (hi : 0 ≤ i) (hb : 0 ≤ b) {nx : Env → Prop} {bk : Env → Prop} : WS (evSs pickTail (pkF (td g i a b t) m .un (.sh (.int c)) .un)) nx (PickEnd g m) bk := by
  refine ws_cons (ws_ite (W.of (a := decide (c ≥ 10 ^ 18)) (ρ := pkF (td g i a b t) m .un (.sh (.int c)) .un) rfl ⟨fun _ => ?_, fun _ => ?_⟩))
  · refine ws_cons (ws_seti (w_prim (W.of (a := [.d (.int c), .d (.int m)]) (ρ := pkF (td g i a b t) m .un (.sh (.int c)) .un) rfl ⟨[.int c, .int m], .d (.int (c / m)), rfl, fDiv_ok hm hm2, .int (c / m), _, rfl, ⟨_, rfl⟩, W.of (a := .d (.int 2)) rfl ⟨2, _, 2, rfl, rfl, rfl, ?_⟩⟩)))
    refine ws_cons (ws_ret (w_prim (W.of (a := [.d (.int c), .d (.int m)]) (ρ := pkF (td g i (c / m) b t) m .un (.sh (.int c)) .un) rfl ⟨[.int c, .int m], .d (.int (c % m)), rfl, fMod_ok hm, ?_⟩)))
    exact ⟨_, _, rfl, _, _, rfl, rfl, Int.emod_nonneg _ (by omega), Int.emod_lt_of_pos _ hm, i, c / m, b, t, rfl, hi, hb⟩
  · refine ws_nil ?_
    have h1 : fMul [.int b, .int 48271] = some (.d (.int (b * 48271))) := mul_ok (mulOk_r (by omega) (by omega))
    have h2 : fMul [.int t, .int 69621] = some (.d (.int (t * 69621))) := mul_ok (mulOk_r (by omega) (by omega))
    have h3 : fMod [.int c, .int 2147483629] = some (.d (.int (c % 2147483629))) := fMod_ok (by omega)
    generalize b * 48271 = u at h1
    generalize t * 69621 = v at h2
    generalize c % 2147483629 = e at h3
    refine ws_cons (ws_asgV (w_prim (wa_cons (w_prim (wa_cons (w_prim (W.of (a := [.d (.int b), .d (.int 48271)]) (ρ := pkF (td g i a b t) m .un (.sh (.int c)) .un) rfl ⟨[.int b, .int 48271], _, rfl, h1, wa_cons (w_prim (W.of (a := [.d (.int c), .d (.int 2147483629)]) (ρ := pkF (td g i a b t) m .un (.sh (.int c)) .un) rfl ⟨[.int c, .int 2147483629], _, rfl, h3, wa_nil ⟨[.int u, .int e], .d (.int (u + e)), rfl, rfl, wa_nil ⟨[.int (u + e)], .d (.int (u + e)), rfl, rfl, rfl, pkF (td g i a b t) m .un (.sh (.int c)) (.sh (.int (u + e))), rfl, ?_⟩⟩⟩))⟩)))))))
    generalize u + e = x
    have h4 : fMod [.int (x + v), .int 2147483647] = some (.d (.int ((x + v) % 2147483647))) := fMod_ok (by omega)
    refine ws_cons (ws_asgV (w_prim (wa_cons (w_prim (wa_cons (w_prim (wa_cons (W.of (a := .d (.int x)) (ρ := pkF (td g i a b t) m .un (.sh (.int c)) (.sh (.int x))) rfl (wa_cons (w_prim (W.of (a := [.d (.int t), .d (.int 69621)]) (ρ := pkF (td g i a b t) m .un (.sh (.int c)) (.sh (.int x))) rfl ⟨[.int t, .int 69621], _, rfl, h2, wa_nil ⟨[.int x, .int v], .d (.int (x + v)), rfl, rfl, wa_nil ⟨[.int (x + v)], .d (.int (x + v)), rfl, rfl, W.of (a := [.d (.int 2147483647)]) (ρ := pkF (td g i a b t) m .un (.sh (.int c)) (.sh (.int x))) rfl ⟨[.int (x + v), .int 2147483647], _, rfl, h4, rfl, pkF (td g i a b t) m .un (.sh (.int c)) (.sh (.int ((x + v) % 2147483647))), rfl, ?_⟩⟩⟩⟩)))))))))))
    have r0 : 0 ≤ (x + v) % 2147483647 := Int.emod_nonneg _ (by omega)
    have r1 : (x + v) % 2147483647 < 2147483647 := Int.emod_lt_of_pos _ (by omega)
    generalize (x + v) % 2147483647 = y at r0 r1
    have h5 : fDiv [.int y, .int 1009] = some (.d (.int (y / 1009))) := fDiv_ok (by omega) (by omega)
    have h6 : fMul [.int y, .int (y / 1009 + 40692)] = some (.d (.int (y * (y / 1009 + 40692)))) := mul_ok (mulOk_l (by omega) (by omega))
    generalize y / 1009 = q at h5 h6
    generalize y * (q + 40692) = z at h6
    have h7 : fMod [.int z, .int 2147483399] = some (.d (.int (z % 2147483399))) := fMod_ok (by omega)
    have s0 : 0 ≤ z % 2147483399 := Int.emod_nonneg _ (by omega)
    generalize z % 2147483399 = s at h7 s0
    refine ws_cons (ws_asgV (w_prim (wa_cons (w_prim (wa_cons (w_prim (wa_cons (W.of (a := .d (.int y)) (ρ := pkF (td g i a b t) m .un (.sh (.int c)) (.sh (.int y))) rfl (wa_cons (w_prim (wa_cons (w_prim (W.of (a := [.d (.int y), .d (.int 1009)]) (ρ := pkF (td g i a b t) m .un (.sh (.int c)) (.sh (.int y))) rfl ⟨[.int y, .int 1009], _, rfl, h5, W.of (a := [.d (.int 40692)]) (ρ := pkF (td g i a b t) m .un (.sh (.int c)) (.sh (.int y))) rfl ⟨[.int q, .int 40692], .d (.int (q + 40692)), rfl, rfl, wa_nil ⟨[.int y, .int (q + 40692)], .d (.int z), rfl, h6, wa_nil ⟨[.int z], .d (.int z), rfl, rfl, W.of (a := [.d (.int 2147483399)]) (ρ := pkF (td g i a b t) m .un (.sh (.int c)) (.sh (.int y))) rfl ⟨[.int z, .int 2147483399], _, rfl, h7, rfl, pkF (td g i a b t) m .un (.sh (.int c)) (.sh (.int s)), rfl, ?_⟩⟩⟩⟩⟩)))))))))))))
    refine ws_cons (ws_seti (W.of (a := .d (.int s)) (ρ := pkF (td g i a b t) m .un (.sh (.int c)) (.sh (.int s))) rfl ⟨.int s, _, rfl, ⟨_, rfl⟩, W.of (a := .d (.int 3)) rfl ⟨3, _, 3, rfl, rfl, rfl, ?_⟩⟩))
    have h8 : fDiv [.int s, .int 16] = some (.d (.int (s / 16))) := fDiv_ok (by omega) (by omega)
    generalize s / 16 = k at h8
    refine ws_cons (ws_ret (w_prim (wa_cons (w_prim (wa_cons (w_prim (W.of (a := [.d (.int s), .d (.int 16)]) (ρ := pkF (td g i a s t) m .un (.sh (.int c)) (.sh (.int s))) rfl ⟨[.int s, .int 16], _, rfl, h8, wa_nil ⟨[.int k], .d (.int k), rfl, rfl, W.of (a := [.d (.int m)]) (ρ := pkF (td g i a s t) m .un (.sh (.int c)) (.sh (.int s))) rfl ⟨[.int k, .int m], .d (.int (k % m)), rfl, fMod_ok hm, ?_⟩⟩⟩)))))))
    exact ⟨_, _, rfl, _, _, rfl, rfl, Int.emod_nonneg _ (by omega), Int.emod_lt_of_pos _ hm, i, a, s, t, rfl, hi, s0⟩
theorem pick_ok {g : List Int} {h : List D} {m : Int} (hm : 0 < m) (hm2 : m < 1073741824) (T : Tap g h) : WF (F_law_pick [.ow h, .sh (.int m)]) fun r o => ∃ k h', r = .d (.int k) ∧ o = [.ow h', .un] ∧ 0 ≤ k ∧ k < m ∧ Tap g h' := by
  obtain ⟨i, a, b, t, rfl, hi, hb⟩ := T
  refine wf_fn ?_
  show WS (evSs _ (pkF (td g i a b t) m .un .un .un)) _ (PickEnd g m) _
  refine ws_cons (ws_ite (W.of (a := decide (a > 1)) (ρ := pkF (td g i a b t) m .un .un .un) rfl ⟨fun h => ?_, fun _ => ws_nil ?_⟩))
  · refine ws_cons (ws_asg (w_prim (W.of (a := [.d (.int a), .d (.int m)]) (ρ := pkF (td g i a b t) m .un .un .un) rfl ⟨_, _, rfl, fMod_ok hm, .d (.int (a % m)), _, pkF (td g i a b t) m (.sh (.int (a % m))) .un .un, rfl, rfl, ?_⟩)))
    refine ws_cons (ws_seti (w_prim (W.of (a := [.d (.int a), .d (.int m)]) (ρ := pkF (td g i a b t) m (.sh (.int (a % m))) .un .un) rfl ⟨_, _, rfl, fDiv_ok hm hm2, .int (a / m), _, rfl, ⟨_, rfl⟩, W.of (a := .d (.int 2)) rfl ⟨2, _, 2, rfl, rfl, rfl, ?_⟩⟩)))
    refine ws_cons (ws_ret (W.of (a := .d (.int (a % m))) (ρ := pkF (td g i (a / m) b t) m (.sh (.int (a % m))) .un .un) rfl ?_))
    exact ⟨_, _, rfl, _, _, rfl, rfl, Int.emod_nonneg _ (by omega), Int.emod_lt_of_pos _ hm, i, a / m, b, t, rfl, hi, hb⟩
  · refine ws_cons (ws_seti (W.of (a := .d (.int (t + 1))) (ρ := pkF (td g i a b t) m .un .un .un) rfl ⟨_, _, rfl, ⟨_, rfl⟩, W.of (a := .d (.int 4)) rfl ⟨4, _, 4, rfl, rfl, rfl, ?_⟩⟩))
    refine ws_cons (ws_asgV (W.of (a := .d (.int 0)) (ρ := pkF (td g i a b (t + 1)) m .un .un .un) rfl ⟨rfl, pkF (td g i a b (t + 1)) m .un (.sh (.int 0)) .un, rfl, ?_⟩))
    refine ws_cons (ws_ite (W.of (a := decide (i < ((g.map D.int).length : Int))) (ρ := pkF (td g i a b (t + 1)) m .un (.sh (.int 0)) .un) rfl ⟨fun h2 => ?_, fun _ => ws_nil ?_⟩))
    · obtain ⟨x, hx, e⟩ := atI_map hi (of_decide_eq_true h2)
      refine ws_cons (ws_asgV (w_prim (wa_cons (w_prim (wa_cons (w_prim (W.of (a := [.d (.lst (g.map D.int)), .d (.int i)]) (ρ := pkF (td g i a b (t + 1)) m .un (.sh (.int 0)) .un) rfl ⟨[.lst (g.map D.int), .int i], .d (.int x), rfl, e, wa_nil ⟨[.int x], .d (.int x), rfl, rfl, wa_nil ⟨[.int x], .d (.int (absI x)), rfl, ?_, rfl, pkF (td g i a b (t + 1)) m .un (.sh (.int (absI x))) .un, rfl, ?_⟩⟩⟩)))))))
      · rfl
      refine ws_cons (ws_seti (W.of (a := .d (.int (i + 1))) (ρ := pkF (td g i a b (t + 1)) m .un (.sh (.int (absI x))) .un) rfl ⟨_, _, rfl, ⟨_, rfl⟩, W.of (a := .d (.int 1)) rfl ⟨1, _, 1, rfl, rfl, rfl, ?_⟩⟩))
      exact ws_nil (pick_tail (i := i + 1) hm hm2 (by omega) hb)
    · exact pick_tail hm hm2 hi hb
end Ev

namespace Ev
open PySem L2
theorem any_ok {g : List Int} {h xs : List D} {s : Slot} (hs : Seq xs s) (h0 : xs ≠ []) (hz : xs.length < 1073741824) (T : Tap g h) : WF (F_law_any [.ow h, s]) fun r o => ∃ d h', r = .d d ∧ o = [.ow h', s.after] ∧ d ∈ xs ∧ Tap g h' := by
  have hp : 0 < (xs.length : Int) := by
    cases xs with
    | nil => exact absurd rfl h0
    | cons _ _ => simp
  refine wf_fn ?_
  cases hs with
  | ow =>
    refine ws_cons (ws_ret (w_prim (wa_cons (W.of (a := .loc 1) (ρ := ⟨[.ow h, .ow xs], [.att, .att]⟩) rfl (wa_cons (w_call (W.of (a := [.loc 0, .d (.int xs.length)]) (ρ := ⟨[.ow h, .ow xs], [.att, .att]⟩) rfl ⟨rfl, [.ow h, .sh (.int xs.length)], rfl, WF.mono (pick_ok hp (by omega) T) ?_⟩)))))))
    rintro r o ⟨k, h', rfl, rfl, a0, a1, T'⟩
    obtain ⟨x, hx, _, e⟩ := atI_nat a0 a1
    exact wa_nil ⟨[.lst xs, .int k], .d x, rfl, (by show (match atI xs k with | some d => some (RB.d d) | none => none) = _; rw [e]), _, _, rfl, x, h', rfl, rfl, hx, T'⟩
  | lst =>
    refine ws_cons (ws_ret (w_prim (wa_cons (W.of (a := .d (.lst xs)) (ρ := ⟨[.ow h, .sh (.lst xs)], [.att, .un]⟩) rfl (wa_cons (w_call (W.of (a := [.loc 0, .d (.int xs.length)]) (ρ := ⟨[.ow h, .sh (.lst xs)], [.att, .un]⟩) rfl ⟨rfl, [.ow h, .sh (.int xs.length)], rfl, WF.mono (pick_ok hp (by omega) T) ?_⟩)))))))
    rintro r o ⟨k, h', rfl, rfl, a0, a1, T'⟩
    obtain ⟨x, hx, _, e⟩ := atI_nat a0 a1
    exact wa_nil ⟨[.lst xs, .int k], .d x, rfl, (by show (match atI xs k with | some d => some (RB.d d) | none => none) = _; rw [e]), _, _, rfl, x, h', rfl, rfl, hx, T'⟩
  | tup =>
    refine ws_cons (ws_ret (w_prim (wa_cons (W.of (a := .d (.tup xs)) (ρ := ⟨[.ow h, .sh (.tup xs)], [.att, .un]⟩) rfl (wa_cons (w_call (W.of (a := [.loc 0, .d (.int xs.length)]) (ρ := ⟨[.ow h, .sh (.tup xs)], [.att, .un]⟩) rfl ⟨rfl, [.ow h, .sh (.int xs.length)], rfl, WF.mono (pick_ok hp (by omega) T) ?_⟩)))))))
    rintro r o ⟨k, h', rfl, rfl, a0, a1, T'⟩
    obtain ⟨x, hx, _, e⟩ := atI_nat a0 a1
    exact wa_nil ⟨[.tup xs, .int k], .d x, rfl, (by show (match atI xs k with | some d => some (RB.d d) | none => none) = _; rw [e]), _, _, rfl, x, h', rfl, rfl, hx, T'⟩
/-- one list of a variable walked -/
theorem locks1 {ρ : Env} {i : Nat} {xs : List D} (hv : ρ.v[i]? = some (.ow xs)) : locks ρ [.loc i] = ρ.setv i (.lk xs) := by
  unfold locks Env.setv
  congr 1
  refine List.ext_getElem? fun j => ?_
  rw [mapI_ix, List.getElem?_set, Nat.zero_add]
  by_cases h : i = j
  · subst h
    have hi : i < ρ.v.length := (List.getElem?_eq_some_iff.mp hv).1
    rw [hv, if_pos rfl, if_pos hi]
    show some (lock1 (.ow xs) (i == i || false)) = _
    rw [beq_self_eq_true]
    rfl
  · rw [if_neg h]
    cases hj : ρ.v[j]? with
    | none => rfl
    | some s =>
      show some (lock1 s (j == i || false)) = _
      rw [beq_eq_false_iff_ne.mpr (Ne.symm h)]
      show some (lock1 s false) = _
      rw [lock1_eq]
theorem unlocks1 {ρ0 ρ : Env} {i : Nat} {xs ys : List D} (h0 : ρ0.v[i]? = some (.ow ys)) (hv : ρ.v[i]? = some (.lk xs)) : unlocks ρ0 ρ [.loc i] = ρ.setv i (.ow xs) := by
  unfold unlocks Env.setv
  congr 1
  refine List.ext_getElem? fun j => ?_
  rw [mapI_ix, List.getElem?_set, Nat.zero_add]
  by_cases h : i = j
  · subst h
    have hi : i < ρ.v.length := (List.getElem?_eq_some_iff.mp hv).1
    rw [hv, if_pos rfl, if_pos hi, h0]
    show some (unlock1 (.lk xs) (some (.ow ys)) (i == i || false)) = _
    rw [beq_self_eq_true]
    rfl
  · rw [if_neg h]
    cases hj : ρ.v[j]? with
    | none => rfl
    | some s =>
      show some (unlock1 s ρ0.v[j]? (j == i || false)) = _
      rw [beq_eq_false_iff_ne.mpr (Ne.symm h)]
      show some (unlock1 s ρ0.v[j]? false) = _
      rw [unlock1_eq]
theorem backI {ρ : Env} {i : Nat} {h h' : List D} {bs : List B} {o : List Slot} (hv : ρ.v[i]? = some (.ow h)) (hn : ∀ j, newAt bs o j = if j = i then some (.ow h') else none) : back ρ bs o = ρ.setv i (.ow h') := by
  unfold back Env.setv
  have e1 : mapI (fun j s => new1 s (newAt bs o j)) 0 ρ.v = ρ.v.set i (.ow h') := by
    refine List.ext_getElem? fun j => ?_
    rw [mapI_ix, List.getElem?_set, Nat.zero_add]
    by_cases e : i = j
    · subst e
      rw [hn, if_pos rfl, if_pos rfl, if_pos (List.getElem?_eq_some_iff.mp hv).1, hv]
      rfl
    · rw [if_neg e, hn, if_neg (Ne.symm e)]
      cases ρ.v[j]? with
      | none => rfl
      | some s => show some (new1 s none) = _; rw [new1_eq]
  have e2 : mapI (fun j s => newO s ρ.v[j]? (newAt bs o j)) 0 ρ.o = ρ.o := mapI_same fun j s hs => by
    rw [hn]
    by_cases e : j = i
    · subst e
      rw [if_pos rfl, hv]
      cases s <;> rfl
    · rw [if_neg e]
      exact newO_none _ _
  rw [e1, e2]
theorem erase_perm : ∀ (L : List D) (k : Nat) (h : k < L.length), (L[k] :: L.eraseIdx k).Perm L
  | a :: t, 0, _ => List.Perm.refl _
  | a :: t, k + 1, h => (List.Perm.swap a _ _).trans (List.Perm.cons a (erase_perm t k (by simpa using h)))
def mxF (h : List D) (s so : Slot) (L : List D) (s3 : Slot) : Env := ⟨[.ow h, s, .ow L, s3], [.att, so]⟩
theorem mixed_core {g : List Int} {h xs : List D} {s so : Slot} {P : B → Env → Prop} {ρ0 : Env} (hρ : mxF h s so xs .un = ρ0) (hz : xs.length ≤ 1000) (T : Tap g h) (hA : evA (.cons (.prim fLen (.cons (.var 1) (.nil))) (.nil)) ρ0 = .ok [.d (.int (xs.length : Int))] ρ0) (hP : ∀ ys h', ys.Perm xs → Tap g h' → P (.nw ys) (mxF h' s so [] .un)) :
    W (evE (.lc [3] (.n 3) itRange1 (.cons (.prim fLen (.cons (.var 1) (.nil))) (.nil)) .none (.mut mPopAt 2 (.cons (.call F_law_pick (.cons (.var 0) (.cons (.prim fLen (.cons (.var 2) (.nil))) (.nil)))) (.nil)))) ρ0) P := by
  subst hρ
  refine w_lc (W.of hA ⟨[.int (xs.length : Int)], _, rfl, range1_ok (by omega) (by omega), ⟨by rw [upFrom_length, sizeLine_eq]; omega, rfl, rfl⟩, fun j acc ρ => ∃ h L, ρ = mxF h s so L .un ∧ L.length + j = xs.length ∧ (acc ++ L).Perm xs ∧ Tap g h, ⟨h, xs, by rw [locks0 fun i => rfl]; rfl, rfl, List.Perm.refl _, T⟩, ?_, ?_⟩)
  · rintro j x acc ρ2 hx ⟨h, L, rfl, hL, hp, T⟩
    obtain ⟨hj, rfl⟩ := upFrom_get _ _ _ _ hx
    have hj' : j < xs.length := by omega
    generalize 0 + (j : Int) = ji
    refine ⟨mxF h s so L (.sh (.int ji)), rfl, W.of (a := true) rfl ⟨fun _ => ?_, fun z => absurd z (by decide)⟩⟩
    have hlen : fLen [.lst L] = some (.d (.int (L.length : Int))) := len_lst L
    have hpos : (0 : Int) < (L.length : Int) := by omega
    have hsm : (L.length : Int) < 1073741824 := by omega
    obtain ⟨li, hli⟩ : ∃ li : Int, li = (L.length : Int) := ⟨_, rfl⟩
    rw [← hli] at hlen hpos hsm
    refine w_mut (xs0 := L) rfl (wd_cons (w_call (wa_cons (W.of (a := .loc 0) (ρ := mxF h s so L (.sh (.int ji))) rfl (wa_cons (w_prim (W.of (a := [.loc 2]) (ρ := mxF h s so L (.sh (.int ji))) rfl ⟨[.lst L], .d (.int li), rfl, hlen, wa_nil ⟨rfl, [.ow h, .sh (.int li)], rfl, WF.mono (pick_ok hpos hsm T) ?_⟩⟩)))))))
    rintro r o ⟨k, h', rfl, rfl, k0, k1, T'⟩
    rw [backI (i := 0) (h' := h') rfl (fun j => by cases j <;> rfl)]
    obtain ⟨kn, rfl⟩ : ∃ kn : Nat, k = kn := ⟨k.toNat, by omega⟩
    have hkn : kn < L.length := by omega
    have hpop : mPopAt L [.int (kn : Int)] = some (L.eraseIdx kn, L[kn]) := by
      show (if L.length ≤ sizeLine then match ixN L.length (kn : Int) with
        | none => none
        | some j => match L[j]? with
          | none => none
          | some d => some (L.eraseIdx j, d) else none) = _
      rw [if_pos (by rw [sizeLine_eq]; omega), ixN_ok hkn]
      show (match L[kn]? with | none => none | some d => some (L.eraseIdx kn, d)) = _
      rw [List.getElem?_eq_getElem hkn]
    refine ⟨.int (kn : Int), mxF h' s so L (.sh (.int ji)), rfl, wd_nil ⟨L, L.eraseIdx kn, L[kn], rfl, hpop, L[kn], mxF h' s so (L.eraseIdx kn) (.sh (.int ji)), rfl, h', L.eraseIdx kn, rfl, ?_, ?_, T'⟩⟩
    · rw [List.length_eraseIdx, if_pos hkn]
      omega
    · have h2 : (L[kn] :: L.eraseIdx kn).Perm L := erase_perm L kn hkn
      rw [List.append_assoc]
      exact (List.Perm.append_left acc h2).trans hp
  · rintro acc ρ3 ⟨h, L, rfl, hL, hp, T⟩
    rw [upFrom_length] at hL
    have : L = [] := List.length_eq_zero_iff.mp (by omega)
    subst this
    rw [List.append_nil] at hp
    rw [unlocks0 fun i => rfl]
    exact hP acc h hp T
theorem mixed_ok {g : List Int} {h xs : List D} {s : Slot} (hs : Seq xs s) (hz : xs.length ≤ 1000) (T : Tap g h) : WF (F_law_mixed [.ow h, s]) fun r o => ∃ ys h', r = .nw ys ∧ o = [.ow h', s.after] ∧ ys.Perm xs ∧ Tap g h' := by
  refine wf_fn ?_
  cases hs with
  | ow =>
    generalize hs : start0 N_law_mixed.length [.ow h, .ow xs] = ρs
    refine ws_cons (ws_asgV ?_)
    have hs : ρs = ⟨[.ow h, .ow xs, .un, .un], [.att, .att]⟩ := hs.symm
    rw [hs]
    refine w_prim (W.of (a := [.loc 1]) (ρ := ⟨[.ow h, .ow xs, .un, .un], [.att, .att]⟩) rfl ⟨[.lst xs], .nw xs, rfl, rfl, rfl, mxF h (.ow xs) .att xs .un, rfl, ?_⟩)
    have hA : evA (.cons (.prim fLen (.cons (.var 1) (.nil))) (.nil)) (mxF h (.ow xs) .att xs .un) = .ok [.d (.int (xs.length : Int))] (mxF h (.ow xs) .att xs .un) := rfl
    generalize hρ : mxF h (.ow xs) .att xs .un = ρ0 at hA ⊢
    exact ws_cons (ws_ret (mixed_core (g := g) hρ hz T hA fun ys h' hp T' => ⟨.nw ys, mxF h' (.ow xs) .att [] .un, rfl, ys, h', rfl, rfl, hp, T'⟩))
  | lst =>
    generalize hs : start0 N_law_mixed.length [.ow h, .sh (.lst xs)] = ρs
    refine ws_cons (ws_asgV ?_)
    have hs : ρs = ⟨[.ow h, .sh (.lst xs), .un, .un], [.att, .un]⟩ := hs.symm
    rw [hs]
    refine w_prim (W.of (a := [.d (.lst xs)]) (ρ := ⟨[.ow h, .sh (.lst xs), .un, .un], [.att, .un]⟩) rfl ⟨[.lst xs], .nw xs, rfl, rfl, rfl, mxF h (.sh (.lst xs)) .un xs .un, rfl, ?_⟩)
    have hA : evA (.cons (.prim fLen (.cons (.var 1) (.nil))) (.nil)) (mxF h (.sh (.lst xs)) .un xs .un) = .ok [.d (.int (xs.length : Int))] (mxF h (.sh (.lst xs)) .un xs .un) := rfl
    generalize hρ : mxF h (.sh (.lst xs)) .un xs .un = ρ0 at hA ⊢
    exact ws_cons (ws_ret (mixed_core (g := g) hρ hz T hA fun ys h' hp T' => ⟨.nw ys, mxF h' (.sh (.lst xs)) .un [] .un, rfl, ys, h', rfl, rfl, hp, T'⟩))
  | tup =>
    generalize hs : start0 N_law_mixed.length [.ow h, .sh (.tup xs)] = ρs
    refine ws_cons (ws_asgV ?_)
    have hs : ρs = ⟨[.ow h, .sh (.tup xs), .un, .un], [.att, .un]⟩ := hs.symm
    rw [hs]
    refine w_prim (W.of (a := [.d (.tup xs)]) (ρ := ⟨[.ow h, .sh (.tup xs), .un, .un], [.att, .un]⟩) rfl ⟨[.tup xs], .nw xs, rfl, rfl, rfl, mxF h (.sh (.tup xs)) .un xs .un, rfl, ?_⟩)
    have hA : evA (.cons (.prim fLen (.cons (.var 1) (.nil))) (.nil)) (mxF h (.sh (.tup xs)) .un xs .un) = .ok [.d (.int (xs.length : Int))] (mxF h (.sh (.tup xs)) .un xs .un) := rfl
    generalize hρ : mxF h (.sh (.tup xs)) .un xs .un = ρ0 at hA ⊢
    exact ws_cons (ws_ret (mixed_core (g := g) hρ hz T hA fun ys h' hp T' => ⟨.nw ys, mxF h' (.sh (.tup xs)) .un [] .un, rfl, ys, h', rfl, rfl, hp, T'⟩))
end Ev

namespace Ev
open PySem L2
/-! ### the law's own rank, by pops -/
theorem law_inv_ok {p v : Int} (hpp : p ∈ primes) (h0 : 0 < v) (h1 : v < p) : WF (F_law_inverse [.sh (.int p), .sh (.int v)]) fun r o => ∃ t : Int, r = .d (.int t) ∧ o = [.un, .un] ∧ 0 < t ∧ t < p ∧ (t * v) % p = 1 := by
  obtain ⟨hp1, hp2⟩ := primes_lt hpp
  refine wf_fn (ws_cons (ws_for (W.of (a := [.d (.int p)]) (ρ := ⟨[.sh (.int p), .sh (.int v), .un], [.un, .un]⟩) rfl ⟨[.int p], _, rfl, range1_ok (by omega) (by omega), fun j ρ => ∃ s, ρ = ⟨[.sh (.int p), .sh (.int v), s], [.un, .un]⟩ ∧ ∀ i : Nat, i < j → ¬ v * (i : Int) % p = 1, ⟨.un, rfl, fun i hi => absurd hi (Nat.not_lt_zero _)⟩, ?_, ?_⟩)))
  · rintro j x ρ2 hx ⟨s, rfl, hs⟩
    obtain ⟨hj, rfl⟩ := upFrom_get _ _ _ _ hx
    have hjp : (j : Int) < p := by omega
    rw [Int.zero_add]
    have hm : fMul [.int v, .int (j : Int)] = some (.d (.int (v * (j : Int)))) := mul_ok (mulOk_l (by omega) (by omega))
    have hmod : fMod [.int (v * (j : Int)), .int p] = some (.d (.int (v * (j : Int) % p))) := mod_ok (by omega)
    have heq := eq_int (v * (j : Int) % p) 1
    obtain ⟨ji, hji⟩ : ∃ ji : Int, ji = (j : Int) := ⟨_, rfl⟩
    rw [← hji] at hm hmod heq hjp ⊢
    refine ⟨⟨[.sh (.int p), .sh (.int v), .sh (.int ji)], [.un, .un]⟩, bnd_free rfl rfl, ?_⟩
    refine ws_cons (ws_ite (wt_eb (w_prim (wa_cons (w_prim (wa_cons (w_prim (wa_cons (w_prim (W.of (a := [.d (.int v), .d (.int ji)]) (ρ := ⟨[.sh (.int p), .sh (.int v), .sh (.int ji)], [.un, .un]⟩) rfl ⟨[.int v, .int ji], .d (.int (v * ji)), rfl, hm, wa_nil ⟨[.int (v * ji)], .d (.int (v * ji)), rfl, rfl, ?_⟩⟩))))))))))
    refine W.of (a := [.d (.int p)]) (ρ := ⟨[.sh (.int p), .sh (.int v), .sh (.int ji)], [.un, .un]⟩) rfl ⟨[.int (v * ji), .int p], .d (.int (v * ji % p)), rfl, hmod, ?_⟩
    refine W.of (a := [.d (.int 1)]) (ρ := ⟨[.sh (.int p), .sh (.int v), .sh (.int ji)], [.un, .un]⟩) rfl ⟨[.int (v * ji % p), .int 1], _, rfl, heq, _, rfl, fun hb => ?_, fun hb => ?_⟩
    · have hb := of_decide_eq_true hb
      have hj0 : ji ≠ 0 := fun e => by
        rw [e, Int.mul_zero, Int.zero_emod] at hb
        omega
      refine ws_cons (ws_ret (W.of (a := .d (.int ji)) rfl ⟨.d (.int ji), _, rfl, ji, rfl, ?_, by omega, by omega, by rw [Int.mul_comm]; exact hb⟩))
      rw [unlocks0 fun i => rfl]
      rfl
    · have hb := of_decide_eq_false hb
      refine ws_nil (ws_nil ⟨_, rfl, fun i hi => ?_⟩)
      by_cases e : i = j
      · rw [e, ← hji]; exact hb
      · exact hs i (by omega)
  · rintro ρ2 ⟨s, rfl, hs⟩
    obtain ⟨t, _, t0, t1, ht⟩ := inverse_ok hpp h0 h1
    rw [upFrom_length] at hs
    have := hs t.toNat (by omega)
    rw [show ((t.toNat : Nat) : Int) = t by omega, Int.mul_comm] at this
    exact absurd ht this
theorem less_ok {p k : Int} {a b : List Int} (hp : 0 < p) (hp2 : p < 1000) (hk : 0 ≤ k ∧ k < 1000) (ha : a.length ≤ 1000) :
    WF (F_law_less [.sh (.int p), .sh (.lst (vec a)), .sh (.int k), .sh (.lst (vec b))]) fun r o => r = .nw (vec (sub p k a b)) ∧ o = [.un, .un, .un, .un] := by
  have core : ∀ (j : Nat) (x y : D), (zipD (vec a) (vec b))[j]? = some x → (vec (sub p k a b))[j]? = some y → ∃ ρ3, (Tg.t [4, 5]).set ⟨[.sh (.int p), .sh (.lst (vec a)), .sh (.int k), .sh (.lst (vec b)), .un, .un], [.un, .un, .un, .un]⟩ x = some ρ3 ∧ W (evE (.prim fMod (.cons (.prim fInt (.cons (.prim fSub (.cons (.var 4) (.cons (.prim fMul (.cons (.var 2) (.cons (.var 5) .nil))) .nil))) (.nil))) (.cons (.var 0) .nil))) ρ3) fun b' ρ5 => ∃ ρ6, b'.keep ρ5 = some (y, ρ6) ∧ wipeE ρ6 [4, 5] = ⟨[.sh (.int p), .sh (.lst (vec a)), .sh (.int k), .sh (.lst (vec b)), .un, .un], [.un, .un, .un, .un]⟩ := fun j x y hx hy => by
    obtain ⟨j1, j2, rfl⟩ := zip_vec hx
    obtain ⟨_, rfl⟩ := vec_get hy
    rw [sub_at j1 j2]
    have hm : fMul [.int k, .int (b.getD j 0)] = some (.d (.int (k * b.getD j 0))) := mul_ok (mulOk_l (by omega) (by omega))
    generalize a.getD j 0 = u
    generalize b.getD j 0 = v at hm
    have hd : fMod [.int (u - k * v), .int p] = some (.d (.int ((u - k * v) % p))) := mod_ok hp
    generalize k * v = z at hm hd
    refine ⟨⟨[.sh (.int p), .sh (.lst (vec a)), .sh (.int k), .sh (.lst (vec b)), .sh (.int u), .sh (.int v)], [.un, .un, .un, .un]⟩, rfl, ?_⟩
    refine w_prim (wa_cons (w_prim (wa_cons (w_prim (wa_cons (W.of (a := .d (.int u)) (ρ := ⟨[.sh (.int p), .sh (.lst (vec a)), .sh (.int k), .sh (.lst (vec b)), .sh (.int u), .sh (.int v)], [.un, .un, .un, .un]⟩) rfl (wa_cons (w_prim (W.of (a := [.d (.int k), .d (.int v)]) (ρ := ⟨[.sh (.int p), .sh (.lst (vec a)), .sh (.int k), .sh (.lst (vec b)), .sh (.int u), .sh (.int v)], [.un, .un, .un, .un]⟩) rfl ⟨[.int k, .int v], .d (.int z), rfl, hm, wa_nil ⟨[.int u, .int z], .d (.int (u - z)), rfl, rfl, wa_nil ⟨[.int (u - z)], .d (.int (u - z)), rfl, rfl, ?_⟩⟩⟩)))))))))
    exact W.of (a := [.d (.int p)]) (ρ := ⟨[.sh (.int p), .sh (.lst (vec a)), .sh (.int k), .sh (.lst (vec b)), .sh (.int u), .sh (.int v)], [.un, .un, .un, .un]⟩) rfl ⟨[.int (u - z), .int p], _, rfl, hd, _, rfl, rfl⟩
  exact wf_fn (ws_cons (ws_ret (w_lcm (W.of (a := [.d (.lst (vec a)), .d (.lst (vec b))]) (ρ := ⟨[.sh (.int p), .sh (.lst (vec a)), .sh (.int k), .sh (.lst (vec b)), .un, .un], [.un, .un, .un, .un]⟩) rfl ⟨[.lst (vec a), .lst (vec b)], _, rfl, rfl, ⟨by rw [zip_vec_len, sizeLine_eq]; omega, rfl, rfl⟩, vec (sub p k a b), by rw [zip_vec_len, vec_len, sub_len], core, .nw (vec (sub p k a b)), _, rfl, rfl, rfl⟩))))
theorem enum_mat (A : List (List Int)) : enumD 0 (matD A) = (List.range A.length).map fun i : Nat => D.tup [.int (i : Int), .lst (vec (A.getD i []))] := by
  refine List.ext_getElem? fun j => ?_
  rw [List.getElem?_map]
  by_cases h : j < A.length
  · rw [List.getElem?_range h]
    have hl : j < (enumD 0 (matD A)).length := by rw [enumD_length, matD_len]; exact h
    obtain ⟨a, ha, e⟩ := enumD_get _ _ _ _ (List.getElem?_eq_getElem hl)
    rw [matD_at h] at ha
    cases ha
    rw [List.getElem?_eq_getElem hl, e, Int.zero_add]
    rfl
  · rw [List.getElem?_eq_none (by rw [enumD_length, matD_len]; omega), List.getElem?_eq_none (by rw [List.length_range]; omega)]
    rfl
end Ev

namespace Ev
open PySem L2
/-! ### elimination by pops: what stays true -/
def TA (A : List (List Int)) (R : List (Nat × Lin.V)) : Lin.V → Prop := fun x => Lin.RS R x ∨ ∃ v ∈ A, x = co v
structure RI (p : Int) (w : Nat) (S : List (List Int)) (j : Nat) (A : List (List Int)) (R : List (Nat × Lin.V)) : Prop where
  g : ∀ v ∈ A, v.length = w ∧ Rg p v ∧ ∀ i, i < j → v.getD i 0 = 0
  s : Lin.Stag p R
  q : ∀ a ∈ R, a.1 < j
  a : ∀ k, k < S.length → Lin.Sp p w (TA A R) (row S k)
  b : ∀ x, TA A R x → Lin.Sp p w (Lin.Pre (row S) S.length) x
  n : A.length + R.length ≤ S.length
section
variable {p : Int} {w j : Nat} {S A : List (List Int)} {R : List (Nat × Lin.V)}
theorem RI.start (hS : ∀ s ∈ S, s.length = w ∧ Rg p s) : RI p w S 0 S [] where
  g := fun v hv => ⟨(hS v hv).1, (hS v hv).2, fun i hi => absurd hi (Nat.not_lt_zero _)⟩
  s := trivial
  q := fun a ha => by cases ha
  a := fun k hk => Lin.Sp.mem (.inr ⟨S[k], List.getElem_mem hk, row_of (List.getElem?_eq_getElem hk)⟩)
  b := fun x hx => by
    rcases hx with ⟨q, h⟩ | ⟨v, hv, rfl⟩
    · cases h
    · obtain ⟨k, hk, e⟩ := List.getElem_of_mem hv
      exact Lin.Sp.mem ⟨k, hk, by rw [row_of (List.getElem?_eq_getElem hk), e]⟩
  n := by simp
theorem RI.skip (h : RI p w S j A R) (hz : ∀ v ∈ A, v.getD j 0 = 0) : RI p w S (j + 1) A R where
  g := fun v hv => ⟨(h.g v hv).1, (h.g v hv).2.1, fun i hi => by
    by_cases e : i = j
    · rw [e]; exact hz v hv
    · exact (h.g v hv).2.2 i (by omega)⟩
  s := h.s
  q := fun a ha => Nat.lt_succ_of_lt (h.q a ha)
  a := h.a
  b := h.b
  n := h.n
theorem mem_erase {α : Type} {A : List α} {ix : Nat} {v : α} (h : ix < A.length) (hv : v ∈ A) : v = A[ix] ∨ v ∈ A.eraseIdx ix := by
  obtain ⟨k, hk, e⟩ := List.getElem_of_mem hv
  by_cases z : k = ix
  · subst z; exact .inl e.symm
  · exact .inr (List.mem_eraseIdx_iff_getElem.mpr ⟨k, hk, z, e⟩)
def popped (p t : Int) (j : Nat) (A : List (List Int)) (lead : List Int) : List (List Int) := A.map fun v => sub p (v.getD j 0 * t % p) v lead
theorem RI.step {ix : Nat} {t : Int} (h : RI p w S j A R) (hp : 1 < p) (hj : j < w) (hix : ix < A.length) (ht : t * (A[ix]).getD j 0 % p = 1) :
    RI p w S (j + 1) (popped p t j (A.eraseIdx ix) A[ix]) (R ++ [(j, fun i => t * co A[ix] i)]) := by
  have hL := h.g A[ix] (List.getElem_mem hix)
  generalize hld : A[ix] = lead at hL ht ⊢
  have hlA : lead ∈ A := hld ▸ List.getElem_mem hix
  have ht1 : p ∣ t * co lead j - 1 := dv_of_mod ht
  have hk : ∀ v : List Int, p ∣ (v.getD j 0 * t % p) - v.getD j 0 * t := fun v => dv_mod _ _
  have hvA : ∀ v ∈ A.eraseIdx ix, v ∈ A := fun v hv => List.mem_of_mem_eraseIdx hv
  have hsub : ∀ v ∈ A.eraseIdx ix, ∀ i, i < w → p ∣ co (sub p (v.getD j 0 * t % p) v lead) i - (co v i - (v.getD j 0 * t % p) * co lead i) := fun v hv i hi => by
    rw [co_eq, sub_at (by rw [(h.g v (hvA v hv)).1]; exact hi) (by rw [hL.1]; exact hi)]
    exact dv_mod _ _
  have hin : ∀ v ∈ A.eraseIdx ix, TA (popped p t j (A.eraseIdx ix) lead) (R ++ [(j, fun i => t * co lead i)]) (co (sub p (v.getD j 0 * t % p) v lead)) := fun v hv => .inr ⟨_, List.mem_map.mpr ⟨v, hv, rfl⟩, rfl⟩
  have hlead : Lin.Sp p w (TA (popped p t j (A.eraseIdx ix) lead) (R ++ [(j, fun i => t * co lead i)])) (co lead) :=
    (Lin.Sp.smul (co lead j) (Lin.Sp.mem (s := fun i => t * co lead i) (.inl ⟨j, by simp⟩))).congr fun i hi => Lin.dvOf (Lin.dvMul (-(co lead i)) ht1) (by
      have : co lead j * (t * co lead i) = co lead i * (t * co lead j) := by rw [Int.mul_left_comm, Int.mul_comm (co lead j), Int.mul_left_comm]
      show co lead i - co lead j * (t * co lead i) = _
      rw [this, Int.neg_mul, Int.mul_sub, Int.mul_one]
      omega)
  refine ⟨fun v' hv' => ?_, ?_, fun a ha => ?_, fun k hk' => ?_, fun x hx => ?_, ?_⟩
  · obtain ⟨v, hv, rfl⟩ := List.mem_map.mp hv'
    have hvg := h.g v (hvA v hv)
    refine ⟨by rw [sub_len, hvg.1, hL.1, Nat.min_self], sub_rg (by omega), fun i hi => ?_⟩
    rw [sub_at (by rw [hvg.1]; omega) (by rw [hL.1]; omega)]
    by_cases e : i = j
    · subst e
      refine Int.emod_eq_zero_of_dvd ?_
      have a1 := Lin.dvMul (lead.getD i 0) (hk v)
      have a2 := Lin.dvMul (v.getD i 0) ht1
      rw [co_eq] at a2
      generalize v.getD i 0 * t % p = k at a1
      generalize v.getD i 0 = vi at *
      generalize lead.getD i 0 = c at *
      rw [Int.mul_sub] at a1 a2
      have e3 : c * (vi * t) = vi * (t * c) := by rw [Int.mul_left_comm, Int.mul_comm c]
      rw [e3] at a1
      exact Lin.dvOf (Lin.dvMul (-1) (Lin.dvAdd a1 a2)) (by rw [Int.mul_comm k]; omega)
    · rw [hvg.2.2 i (by omega), hL.2.2 i (by omega), Int.mul_zero]
      rfl
  · refine Lin.stag_snoc ht1 h.s fun a ha => ?_
    show p ∣ t * co lead a.1
    rw [co_eq, hL.2.2 _ (h.q a ha), Int.mul_zero]
    exact Lin.dv0 p
  · rcases List.mem_append.mp ha with ha | ha
    · exact Nat.lt_succ_of_lt (h.q a ha)
    · have : a = (j, fun i => t * co lead i) := by simpa using ha
      rw [this]
      exact Nat.lt_succ_self j
  · refine Lin.Sp.trans (fun x hx => ?_) (h.a k hk')
    rcases hx with ⟨q, hq⟩ | ⟨v, hv, rfl⟩
    · exact Lin.Sp.mem (.inl ⟨q, List.mem_append_left _ hq⟩)
    · rcases mem_erase hix hv with e | hv
      · rw [e, hld]
        exact hlead
      · exact (Lin.Sp.sum (Lin.Sp.mem (hin v hv)) (Lin.Sp.smul (v.getD j 0 * t % p) hlead)).congr fun i hi => Lin.dvOf (Lin.dvMul (-1) (hsub v hv i hi)) (by omega)
  · rcases hx with ⟨q, hq⟩ | ⟨v', hv', rfl⟩
    · rcases List.mem_append.mp hq with hq | hq
      · exact h.b x (.inl ⟨q, hq⟩)
      · have : x = fun i => t * co lead i := by
          have : (q, x) = (j, fun i => t * co lead i) := by simpa using hq
          exact (Prod.mk.inj this).2
        rw [this]
        exact Lin.Sp.smul t (h.b _ (.inr ⟨lead, hlA, rfl⟩))
    · obtain ⟨v, hv, rfl⟩ := List.mem_map.mp hv'
      exact (Lin.Sp.sum (h.b _ (.inr ⟨v, hvA v hv, rfl⟩)) (Lin.Sp.smul (-(v.getD j 0 * t % p)) (h.b _ (.inr ⟨lead, hlA, rfl⟩)))).congr fun i hi => Lin.dvOf (hsub v hv i hi) (by rw [Int.neg_mul]; omega)
  · unfold popped
    have := h.n
    rw [List.length_map, List.length_eraseIdx, if_pos hix, List.length_append]
    simp
    omega
/-- as many as any staggered rows that make the same -/
theorem RI.end {rows : List (Nat × List Int)} (h : RI p w S w A R) (hpp : p ∈ primes) (f : Found p w w (row S) S.length rows) : R.length = rows.length := by
  obtain ⟨hp1, hp2⟩ := primes_lt hpp
  have hl : (absR rows).length = rows.length := List.length_map ..
  have h1 : ∀ x, Lin.RS R x → Lin.Sp p w (Lin.RS (absR rows)) x := fun x hx => Lin.Sp.trans (fun y ⟨k, hk, e⟩ => by rw [e]; exact f.t.a k hk) (h.b x (.inl hx))
  have h2 : ∀ x, Lin.RS (absR rows) x → Lin.Sp p w (Lin.RS R) x := fun x hx => by
    refine Lin.Sp.trans (fun y hy => ?_) (Lin.Sp.trans (fun y ⟨k, hk, e⟩ => by rw [e]; exact h.a k hk) (Lin.Sp.mono Lin.ts_pre (f.t.b x hx)))
    rcases hy with hy | ⟨v, hv, rfl⟩
    · exact Lin.Sp.mem hy
    · exact .zero fun i hi => by rw [co_eq, (h.g v hv).2.2 i hi]; exact Lin.dv0 p
  have a1 := Lin.stag_le hp1 (prime_inv hpp) h.s h.q h1
  have a2 := Lin.stag_le hp1 (prime_inv hpp) f.r.s f.qs h2
  omega
end
end Ev

namespace Ev
open PySem L2
def rkF (p : Int) (S A : List (List Int)) (f : Int) (s4 s5 s6 s7 : Slot) : Env := ⟨[.sh (.int p), .ow (sumsD S), .ow (matD A), .sh (.int f), s4, s5, s6, s7, .un, .un], [.un, .att]⟩
def rkBody : Ss := match ir_law_rank with
  | .cons _ (.cons (.for _ _ _ b) _) => b
  | _ => .nil
def nzs (A : List (List Int)) (j : Nat) : List Nat := (List.range A.length).filter fun i => !decide ((A.getD i []).getD j 0 = 0)
section
variable {p : Int} {w j : Nat} {S A : List (List Int)} {R : List (Nat × Lin.V)} {s4 s5 s6 s7 : Slot} {rt : B → Env → Prop} {bk : Env → Prop}
theorem map_erase {α β : Type} (f : α → β) : ∀ (A : List α) (i : Nat), (A.map f).eraseIdx i = (A.eraseIdx i).map f
  | [], _ => rfl
  | a :: A, 0 => rfl
  | a :: A, i + 1 => by
    show f a :: (A.map f).eraseIdx i = f a :: (A.eraseIdx i).map f
    rw [map_erase f A i]
theorem getD_at {A : List (List Int)} {i : Nat} (h : i < A.length) : A.getD i [] = A[i] := by rw [List.getD_eq_getElem?_getD, List.getElem?_eq_getElem h]; rfl
theorem rk_turn {f ji : Int} (hpp : p ∈ primes) (hw : w ≤ 1000) (hSn : S.length ≤ 1000) (h : RI p w S j A R) (hj : j < w) (hji : ji = j) (hf : f = (R.length : Int)) :
    WS (evSs rkBody (rkF p S A f (.sh (.int ji)) s5 s6 s7)) (fun ρ => ∃ A' R' f' s5 s6 s7, ρ = rkF p S A' f' (.sh (.int ji)) s5 s6 s7 ∧ RI p w S (j + 1) A' R' ∧ f' = (R'.length : Int)) rt bk := by
  obtain ⟨hp1, hp2⟩ := primes_lt hpp
  have hAn : A.length ≤ 1000 := by have := h.n; omega
  have hAg : ∀ i, i < A.length → (A.getD i []).length = w ∧ Rg p (A.getD i []) := fun i hi => by
    rw [getD_at hi]
    exact ⟨(h.g _ (List.getElem_mem hi)).1, (h.g _ (List.getElem_mem hi)).2.1⟩
  refine ws_cons (ws_asgV (w_lcfL (l := List.range A.length) (g := fun i : Nat => D.tup [.int (i : Int), .lst (vec (A.getD i []))]) (e := fun i : Nat => D.int (i : Int)) (q := fun i => !decide ((A.getD i []).getD j 0 = 0)) (W.of (a := [.loc 2]) (ρ := rkF p S A f (.sh (.int ji)) s5 s6 s7) rfl ⟨[.lst (matD A)], rfl, by show some (enumD 0 (matD A)) = _; rw [enum_mat], ⟨by rw [List.length_range, sizeLine_eq]; omega, rfl, rfl⟩, fun i hi => ?_, ?_⟩)))
  · rw [locks1 (xs := matD A) rfl]
    have hi := List.mem_range.mp hi
    have hx := hAg i hi
    have hix : fIx [.lst (vec (A.getD i [])), .int ji] = some (.d (.int ((A.getD i []).getD j 0))) := by rw [hji]; exact ix_lst (vec_at (by rw [hx.1]; exact hj))
    generalize hv : A.getD i [] = v at hix
    generalize hz : v.getD j 0 = z at hix
    generalize (i : Int) = ii
    refine ⟨⟨[.sh (.int p), .ow (sumsD S), .lk (matD A), .sh (.int f), .sh (.int ji), s5, s6, s7, .sh (.lst (vec v)), .sh (.int ii)], [.un, .att]⟩, set_t2 rfl rfl rfl rfl, ?_⟩
    refine wt_eb (w_prim (wa_cons (w_prim (W.of (a := [.d (.lst (vec v)), .d (.int ji)]) (ρ := ⟨[.sh (.int p), .ow (sumsD S), .lk (matD A), .sh (.int f), .sh (.int ji), s5, s6, s7, .sh (.lst (vec v)), .sh (.int ii)], [.un, .att]⟩) rfl ⟨[.lst (vec v), .int ji], .d (.int z), rfl, hix, ?_⟩))))
    exact W.of (a := [.d (.int 0)]) (ρ := ⟨[.sh (.int p), .ow (sumsD S), .lk (matD A), .sh (.int f), .sh (.int ji), s5, s6, s7, .sh (.lst (vec v)), .sh (.int ii)], [.un, .att]⟩) rfl ⟨[.int z, .int 0], _, rfl, ne_int z 0, _, rfl, rfl, fun _ => W.of (a := .d (.int ii)) rfl ⟨_, rfl, rfl⟩, rfl⟩
  rw [locks1 (xs := matD A) rfl, unlocks1 (xs := matD A) (ys := matD A) rfl rfl]
  show _ ∧ ∃ ρ3, bindB _ 5 (.nw (nats (nzs A j))) = some ρ3 ∧ _
  refine ⟨rfl, rkF p S A f (.sh (.int ji)) (.ow (nats (nzs A j))) s6 s7, bnd_free rfl rfl, ?_⟩
  cases hnz : nzs A j with
  | nil =>
    have hz : ∀ v ∈ A, v.getD j 0 = 0 := fun v hv => by
      obtain ⟨k, hk, e⟩ := List.getElem_of_mem hv
      apply Classical.byContradiction
      intro hn
      have : k ∈ nzs A j := List.mem_filter.mpr ⟨List.mem_range.mpr hk, by rw [getD_at hk, e, decide_eq_false hn]; rfl⟩
      rw [hnz] at this
      cases this
    refine ws_cons (ws_ite (W.of (a := false) (ρ := rkF p S A f (.sh (.int ji)) (.ow (nats [])) s6 s7) rfl ⟨fun z => absurd z (by decide), fun _ => ws_nil (ws_nil ⟨A, R, f, _, _, _, rfl, h.skip hz, hf⟩)⟩))
  | cons ix rest =>
    have hixm : ix ∈ nzs A j := by rw [hnz]; simp
    have hix : ix < A.length := List.mem_range.mp (List.mem_filter.mp hixm).1
    have hne : (A[ix]).getD j 0 ≠ 0 := fun e => by
      have := (List.mem_filter.mp hixm).2
      rw [getD_at hix, e] at this
      simp at this
    have hLg := h.g A[ix] (List.getElem_mem hix)
    have hpop : mPopAt (matD A) [.int (ix : Int)] = some (matD (A.eraseIdx ix), .lst (vec A[ix])) := by
      show (if (matD A).length ≤ sizeLine then match ixN (matD A).length (ix : Int) with
        | none => none
        | some j => match (matD A)[j]? with
          | none => none
          | some d => some ((matD A).eraseIdx j, d) else none) = _
      rw [if_pos (by rw [matD_len, sizeLine_eq]; omega), matD_len, ixN_ok hix]
      show (match (matD A)[ix]? with | none => none | some d => some ((matD A).eraseIdx ix, d)) = _
      rw [matD_at hix, getD_at hix]
      unfold matD
      rw [map_erase]
    have hlen : fLen [.lst (nats (ix :: rest))] = some (.d (.int (((ix :: rest).length : Nat) : Int))) := by rw [len_lst, nats_len]
    have hpos : (0 : Int) < (((ix :: rest).length : Nat) : Int) := by simp
    have hi0 : fIx [.lst (nats (ix :: rest)), .int 0] = some (.d (.int (ix : Int))) := ix_lst (i := 0) (d := .int (ix : Int)) rfl
    generalize (((ix :: rest).length : Nat) : Int) = li at hlen hpos
    generalize hLL : nats (ix :: rest) = LL at hlen hi0
    generalize hixi : (ix : Int) = ii at hpop hi0
    refine ws_cons (ws_ite (wt_eb (w_prim (wa_cons (w_prim (W.of (a := [.loc 5]) (ρ := rkF p S A f (.sh (.int ji)) (.ow LL) s6 s7) rfl ⟨[.lst LL], .d (.int li), rfl, hlen, W.of (a := [.d (.int 0)]) (ρ := rkF p S A f (.sh (.int ji)) (.ow LL) s6 s7) rfl ⟨[.int li, .int 0], .d (.bl (decide (li > 0))), rfl, rfl, _, rfl, fun _ => ?_, fun z => absurd (decide_eq_true hpos) (by rw [z]; decide)⟩⟩))))))
    generalize hlead : A[ix] = lead at hne hLg hpop
    refine ws_cons (ws_asgV (w_mut (xs0 := matD A) rfl (wd_cons (w_prim (W.of (a := [.loc 5, .d (.int 0)]) (ρ := rkF p S A f (.sh (.int ji)) (.ow LL) s6 s7) rfl ⟨[.lst LL, .int 0], .d (.int ii), rfl, hi0, .int ii, rkF p S A f (.sh (.int ji)) (.ow LL) s6 s7, rfl, wd_nil ⟨matD A, matD (A.eraseIdx ix), .lst (vec lead), rfl, hpop, rfl, rkF p S (A.eraseIdx ix) f (.sh (.int ji)) (.ow LL) (.sh (.lst (vec lead))) s7, bnd_free rfl rfl, ?_⟩⟩)))))
    have hvj := hLg.2.1.at (j := j) (by rw [hLg.1]; exact hj)
    have hixl : fIx [.lst (vec lead), .int ji] = some (.d (.int (lead.getD j 0))) := by rw [hji]; exact ix_lst (vec_at (by rw [hLg.1]; exact hj))
    refine ws_cons (ws_asgV (w_call (wa_cons (W.of (a := .d (.int p)) (ρ := rkF p S (A.eraseIdx ix) f (.sh (.int ji)) (.ow LL) (.sh (.lst (vec lead))) s7) rfl (wa_cons (w_prim (W.of (a := [.d (.lst (vec lead)), .d (.int ji)]) (ρ := rkF p S (A.eraseIdx ix) f (.sh (.int ji)) (.ow LL) (.sh (.lst (vec lead))) s7) rfl ⟨[.lst (vec lead), .int ji], .d (.int (lead.getD j 0)), rfl, hixl, wa_nil ⟨rfl, [.sh (.int p), .sh (.int (lead.getD j 0))], rfl, WF.mono (law_inv_ok hpp (by omega) hvj.2) ?_⟩⟩)))))))
    rintro r o ⟨t, rfl, rfl, t0, t1, ht⟩
    rw [back0 fun i => rfl]
    refine ⟨rfl, rkF p S (A.eraseIdx ix) f (.sh (.int ji)) (.ow LL) (.sh (.lst (vec lead))) (.sh (.int t)), bnd_free rfl rfl, ?_⟩
    have hEn : (A.eraseIdx ix).length ≤ 1000 := by rw [List.length_eraseIdx]; split <;> omega
    refine ws_cons (ws_asgV (w_lcmL (l := A.eraseIdx ix) (g := fun v => D.lst (vec v)) (e := fun v => D.lst (vec (sub p (v.getD j 0 * t % p) v lead))) (W.of (a := [.loc 2]) (ρ := rkF p S (A.eraseIdx ix) f (.sh (.int ji)) (.ow LL) (.sh (.lst (vec lead))) (.sh (.int t))) rfl ⟨[.lst (matD (A.eraseIdx ix))], rfl, rfl, ⟨by rw [sizeLine_eq]; omega, rfl, rfl⟩, fun v hv => ?_, ?_⟩)))
    · rw [locks1 (xs := matD (A.eraseIdx ix)) rfl]
      have hvg := h.g v (List.mem_of_mem_eraseIdx hv)
      have hixv : fIx [.lst (vec v), .int ji] = some (.d (.int (v.getD j 0))) := by rw [hji]; exact ix_lst (vec_at (by rw [hvg.1]; exact hj))
      have hvr := hvg.2.1.at (j := j) (by rw [hvg.1]; exact hj)
      have hm : fMul [.int (v.getD j 0), .int t] = some (.d (.int (v.getD j 0 * t))) := mul_ok (mulOk_l (by omega) (by omega))
      have hd : fMod [.int (v.getD j 0 * t), .int p] = some (.d (.int (v.getD j 0 * t % p))) := mod_ok (by omega)
      have k0 : 0 ≤ v.getD j 0 * t % p := Int.emod_nonneg _ (by omega)
      have k1 : v.getD j 0 * t % p < p := Int.emod_lt_of_pos _ (by omega)
      generalize v.getD j 0 * t % p = k at hd k0 k1
      generalize v.getD j 0 * t = z at hm hd
      generalize v.getD j 0 = y at hixv hm
      refine ⟨⟨[.sh (.int p), .ow (sumsD S), .lk (matD (A.eraseIdx ix)), .sh (.int f), .sh (.int ji), .ow LL, .sh (.lst (vec lead)), .sh (.int t), .sh (.lst (vec v)), .un], [.un, .att]⟩, rfl, ?_⟩
      refine w_call (wa_cons (W.of (a := .d (.int p)) (ρ := ⟨[.sh (.int p), .ow (sumsD S), .lk (matD (A.eraseIdx ix)), .sh (.int f), .sh (.int ji), .ow LL, .sh (.lst (vec lead)), .sh (.int t), .sh (.lst (vec v)), .un], [.un, .att]⟩) rfl (wa_cons (W.of (a := .d (.lst (vec v))) (ρ := ⟨[.sh (.int p), .ow (sumsD S), .lk (matD (A.eraseIdx ix)), .sh (.int f), .sh (.int ji), .ow LL, .sh (.lst (vec lead)), .sh (.int t), .sh (.lst (vec v)), .un], [.un, .att]⟩) rfl (wa_cons (w_prim (wa_cons (w_prim (wa_cons (w_prim (wa_cons (w_prim (W.of (a := [.d (.lst (vec v)), .d (.int ji)]) (ρ := ⟨[.sh (.int p), .ow (sumsD S), .lk (matD (A.eraseIdx ix)), .sh (.int f), .sh (.int ji), .ow LL, .sh (.lst (vec lead)), .sh (.int t), .sh (.lst (vec v)), .un], [.un, .att]⟩) rfl ⟨[.lst (vec v), .int ji], .d (.int y), rfl, hixv, W.of (a := [.d (.int t)]) (ρ := ⟨[.sh (.int p), .ow (sumsD S), .lk (matD (A.eraseIdx ix)), .sh (.int f), .sh (.int ji), .ow LL, .sh (.lst (vec lead)), .sh (.int t), .sh (.lst (vec v)), .un], [.un, .att]⟩) rfl ⟨[.int y, .int t], .d (.int z), rfl, hm, wa_nil ⟨[.int z], .d (.int z), rfl, rfl, ?_⟩⟩⟩)))))))))))))
      refine W.of (a := [.d (.int p)]) (ρ := ⟨[.sh (.int p), .ow (sumsD S), .lk (matD (A.eraseIdx ix)), .sh (.int f), .sh (.int ji), .ow LL, .sh (.lst (vec lead)), .sh (.int t), .sh (.lst (vec v)), .un], [.un, .att]⟩) rfl ⟨[.int z, .int p], .d (.int k), rfl, hd, ?_⟩
      refine W.of (a := [.d (.lst (vec lead))]) (ρ := ⟨[.sh (.int p), .ow (sumsD S), .lk (matD (A.eraseIdx ix)), .sh (.int f), .sh (.int ji), .ow LL, .sh (.lst (vec lead)), .sh (.int t), .sh (.lst (vec v)), .un], [.un, .att]⟩) rfl ⟨rfl, [.sh (.int p), .sh (.lst (vec v)), .sh (.int k), .sh (.lst (vec lead))], rfl, WF.mono (less_ok (by omega) hp2 ⟨k0, by omega⟩ (by rw [hvg.1]; exact hw)) ?_⟩
      rintro r o ⟨rfl, rfl⟩
      rw [back0 fun i => rfl]
      exact ⟨_, rfl, rfl⟩
    rw [locks1 (xs := matD (A.eraseIdx ix)) rfl, unlocks1 (xs := matD (A.eraseIdx ix)) (ys := matD (A.eraseIdx ix)) rfl rfl]
    have hpm : ((A.eraseIdx ix).map fun v => D.lst (vec (sub p (v.getD j 0 * t % p) v lead))) = matD (popped p t j (A.eraseIdx ix) lead) := by
      unfold matD popped
      rw [List.map_map]
      rfl
    rw [hpm]
    have hst := h.step (ix := ix) (t := t) hp1 hj hix (by rw [hlead]; exact ht)
    rw [hlead] at hst
    generalize popped p t j (A.eraseIdx ix) lead = B at hst
    refine ⟨rfl, rkF p S B f (.sh (.int ji)) (.ow LL) (.sh (.lst (vec lead))) (.sh (.int t)), rfl, ?_⟩
    refine ws_cons (ws_asgV (W.of (a := .d (.int (f + 1))) (ρ := rkF p S B f (.sh (.int ji)) (.ow LL) (.sh (.lst (vec lead))) (.sh (.int t))) rfl ⟨rfl, rkF p S B (f + 1) (.sh (.int ji)) (.ow LL) (.sh (.lst (vec lead))) (.sh (.int t)), rfl, ?_⟩))
    exact ws_nil (ws_nil ⟨B, _, f + 1, _, _, _, rfl, hst, by rw [List.length_append, hf]; rfl⟩)
end
end Ev

namespace Ev
open PySem L2
theorem law_rank_ri {p : Int} {w : Nat} {S : List (List Int)} (hpp : p ∈ primes) (hw : w ≤ 1000) (hSn : S.length ≤ 1000) (hS : ∀ s ∈ S, s.length = w ∧ Rg p s) :
    WF (F_law_rank [.sh (.int p), .ow (sumsD S)]) fun r o => o = [.un, .ow (sumsD S)] ∧ ∃ A R, r = .d (.int ((R.length : Nat) : Int)) ∧ RI p w S w A R := by
  refine wf_fn ?_
  generalize hs : start0 N_law_rank.length [.sh (.int p), .ow (sumsD S)] = ρs
  refine ws_cons (ws_par ?_)
  have hs : ρs = ⟨[.sh (.int p), .ow (sumsD S), .un, .un, .un, .un, .un, .un, .un, .un], [.un, .att]⟩ := hs.symm
  rw [hs]
  refine w_lcmL (l := S) (g := fun s => D.tup (vec s)) (e := fun s => D.lst (vec s)) (W.of (a := [.loc 1]) (ρ := ⟨[.sh (.int p), .ow (sumsD S), .un, .un, .un, .un, .un, .un, .un, .un], [.un, .att]⟩) rfl ⟨[.lst (sumsD S)], rfl, rfl, ⟨by rw [sizeLine_eq]; omega, rfl, rfl⟩, fun s hs => ?_, ?_⟩)
  · refine ⟨⟨[.sh (.int p), .lk (sumsD S), .un, .un, .un, .un, .un, .un, .sh (.tup (vec s)), .un], [.un, .att]⟩, rfl, ?_⟩
    exact w_prim (W.of (a := [.d (.tup (vec s))]) (ρ := ⟨[.sh (.int p), .lk (sumsD S), .un, .un, .un, .un, .un, .un, .sh (.tup (vec s)), .un], [.un, .att]⟩) rfl ⟨[.tup (vec s)], .nw (vec s), rfl, rfl, ⟨[.sh (.int p), .lk (sumsD S), .un, .un, .un, .un, .un, .un, .sh (.tup (vec s)), .un], [.un, .att]⟩, rfl, rfl⟩)
  refine W.of (a := .d (.int 0)) (ρ := ⟨[.sh (.int p), .ow (sumsD S), .un, .un, .un, .un, .un, .un, .un, .un], [.un, .att]⟩) rfl ⟨.nw (matD S), ⟨[.sh (.int p), .ow (sumsD S), .un, .un, .un, .un, .un, .un, .un, .un], [.un, .att]⟩, .d (.int 0), ⟨[.sh (.int p), .ow (sumsD S), .un, .un, .un, .un, .un, .un, .un, .un], [.un, .att]⟩, ⟨[.sh (.int p), .ow (sumsD S), .ow (matD S), .un, .un, .un, .un, .un, .un, .un], [.un, .att]⟩, rkF p S S 0 .un .un .un .un, rfl, rfl, rfl, rfl, ?_⟩
  have hst := RI.start hS
  cases hSS : S with
  | nil =>
    subst hSS
    have h0 : RI p w [] w [] [] := by
      refine ⟨fun v hv => (by cases hv), trivial, fun a ha => (by cases ha), fun k hk => absurd hk (Nat.not_lt_zero _), fun x hx => ?_, Nat.le_refl _⟩
      rcases hx with ⟨q, h⟩ | ⟨v, hv, _⟩
      · cases h
      · cases hv
    refine ws_cons (ws_for (W.of (a := [.d (.int 0)]) (ρ := rkF p [] [] 0 .un .un .un .un) rfl ⟨[.int 0], [], rfl, rfl, fun j ρ => ρ = rkF p [] [] 0 .un .un .un .un, rfl, ?_, ?_⟩))
    · rintro j x ρ2 hx _
      simp at hx
    · rintro ρ2 rfl
      exact ws_cons (ws_ret (W.of (a := .d (.int 0)) rfl ⟨.d (.int 0), _, rfl, rfl, [], [], rfl, h0⟩))
  | cons s0 S0 =>
    rw [← hSS]
    have hs0 : s0.length = w := (hS s0 (by rw [hSS]; simp)).1
    have hlen : fLen [.lst (matD S)] = some (.d (.int ((S.length : Nat) : Int))) := by rw [len_lst, matD_len]
    have hpos : (0 : Int) < ((S.length : Nat) : Int) := by rw [hSS]; simp
    have hi0 : fIx [.lst (matD S), .int 0] = some (.d (.lst (vec s0))) := by rw [hSS]; exact ix_lst (i := 0) (d := .lst (vec s0)) rfl
    have hl0 : fLen [.lst (vec s0)] = some (.d (.int ((w : Nat) : Int))) := by rw [len_lst, vec_len, hs0]
    obtain ⟨wi, hwi⟩ : ∃ wi : Int, wi = ((w : Nat) : Int) := ⟨_, rfl⟩
    rw [← hwi] at hl0
    generalize ((S.length : Nat) : Int) = ni at hlen hpos
    generalize hρ : rkF p S S 0 .un .un .un .un = ρ0
    refine ws_cons (ws_for ?_)
    rw [← hρ]
    refine wa_cons (w_ite (wt_eb (w_prim (wa_cons (w_prim (W.of (a := [.loc 2]) (ρ := rkF p S S 0 .un .un .un .un) rfl ⟨[.lst (matD S)], .d (.int ni), rfl, hlen, W.of (a := [.d (.int 0)]) (ρ := rkF p S S 0 .un .un .un .un) rfl ⟨[.int ni, .int 0], .d (.bl (decide (ni > 0))), rfl, rfl, _, rfl, fun _ => ?_, fun z => absurd (decide_eq_true hpos) (by rw [z]; decide)⟩⟩))))))
    refine w_prim (wa_cons (w_prim (W.of (a := [.loc 2, .d (.int 0)]) (ρ := rkF p S S 0 .un .un .un .un) rfl ⟨[.lst (matD S), .int 0], .d (.lst (vec s0)), rfl, hi0, wa_nil ⟨[.lst (vec s0)], .d (.int wi), rfl, hl0, wa_nil ?_⟩⟩)))
    refine ⟨[.int wi], _, rfl, range1_ok (by omega) (by omega), fun j ρ => ∃ A R f s4 s5 s6 s7, ρ = rkF p S A f s4 s5 s6 s7 ∧ RI p w S j A R ∧ f = ((R.length : Nat) : Int), ⟨S, [], 0, .un, .un, .un, .un, locks0 (fun i => rfl), hst, rfl⟩, ?_, ?_⟩
    · rintro j x ρ2 hx ⟨A, R, f, s4, s5, s6, s7, rfl, hI, hf⟩
      obtain ⟨hj, rfl⟩ := upFrom_get _ _ _ _ hx
      have hj' : j < w := by omega
      obtain ⟨ji, hji⟩ : ∃ ji : Int, ji = 0 + (j : Int) := ⟨_, rfl⟩
      rw [← hji]
      refine ⟨rkF p S A f (.sh (.int ji)) s5 s6 s7, bnd_free rfl rfl, ?_⟩
      refine WS.mono (rk_turn hpp hw hSn hI hj' (by omega) hf) ?_ (fun _ _ h => h) (fun _ h => h)
      rintro ρ ⟨A', R', f', s5', s6', s7', rfl, hI', hf'⟩
      exact ⟨A', R', f', _, _, _, _, rfl, hI', hf'⟩
    · rintro ρ2 ⟨A, R, f, s4, s5, s6, s7, rfl, hI, hf⟩
      rw [upFrom_length, show wi.toNat = w by omega] at hI
      rw [unlocks0 fun i => rfl]
      exact ws_cons (ws_ret (W.of (a := .d (.int f)) rfl ⟨.d (.int f), _, rfl, rfl, A, R, by rw [hf], hI⟩))
/-- of pieces: the rank -/
theorem law_rank_picks {p : Int} {w : Nat} {P : List Pc} {l : List Nat} (hpp : p ∈ primes) (h2 : w ≤ 10) (hP : Pcs p w P) (hl : l.length ≤ 100) (h : ∀ k ∈ l, k < P.length) :
    WF (F_law_rank [.sh (.int p), .ow (sumsD (picks P l))]) fun r o => o = [.un, .ow (sumsD (picks P l))] ∧ r = .d (.int ((rk p w P l : Nat) : Int)) := by
  have hS : ∀ s ∈ picks P l, s.length = w ∧ Rg p s := fun v hv => by
    unfold picks at hv
    obtain ⟨k, hk, rfl⟩ := List.mem_map.mp hv
    have := hP.g _ (pcAt_mem (h k hk))
    exact ⟨this.l, this.r⟩
  obtain ⟨r0, o0, _, _, fs, rows, _, hf, ht, hrl⟩ := WF.get (wtaken_ok (wi := (w : Int)) hpp rfl h2 hP hl h)
  refine WF.mono (law_rank_ri hpp (by omega) (by rw [picks_len]; omega) hS) ?_
  rintro r o ⟨rfl, A, R, rfl, hI⟩
  have := hI.end hpp (by rw [picks_len]; exact hf)
  refine ⟨rfl, ?_⟩
  rw [this, hrl, ht.eq]
  rfl
end Ev

namespace Ev
open PySem L2
/-! ### what makes nought -/
structure Nou (p : Int) (w : Nat) (S : List (List Int)) (c : List Int) : Prop where
  l : c.length = S.length
  r : Rg p c
  e : ∀ i, i < w → p ∣ Lin.sumTo S.length (fun k => co c k * row S k i)
def noF (p wi : Int) (S : List (List Int)) (R : List (Nat × List Int)) (s4 s5 s6 : Slot) : Env := ⟨[.sh (.int p), .sh (.tup (sumsD S)), .sh (.int wi), .ow (rowsD R), s4, s5, s6], [.un, .un]⟩
section
variable {p wi : Int} {w : Nat} {S : List (List Int)}
/-- what the rest behind the width tells of the first that isn't alone -/
theorem rest_nought {rows : List (Nat × List Int)} {u : List Int} {k : Nat} (hp : 1 < p) (hS : ∀ s ∈ S, s.length = w) (hk : k < S.length) (f : Found p w (w + S.length) (row (mks S)) k rows) (hR : Lin.Red p (w + S.length) (absR rows) (row (mks S) k) (co u)) (hg : Rg p u) (hl : u.length = w + S.length) (h0 : ∀ i, i < w → u.getD i 0 = 0) :
    Nou p w S (u.drop w) ∧ co (u.drop w) k = 1 ∧ ∀ j, k < j → j < S.length → co (u.drop w) j = 0 := by
  have hat : ∀ j, co (u.drop w) j = co u (w + j) := fun j => by rw [co_eq, co_eq, List.getD_eq_getElem?_getD, List.getD_eq_getElem?_getD, List.getElem?_drop]
  have hdr : Rg p (u.drop w) := fun x hx => hg x (List.mem_of_mem_drop hx)
  have hdl : (u.drop w).length = S.length := by rw [List.length_drop]; omega
  have hrow : ∀ x, Lin.RS (absR rows) x → ∀ i, i < w → p ∣ x i - Lin.sumTo S.length (fun j => x (w + j) * row (mks S) j i) := fun x hx => Lin.Sp.marks (fun y ⟨j0, hj0, _, e⟩ i hi => by
    subst e
    have hj0' : j0 < S.length := by omega
    have := Lin.sumTo_delta (p := p) (f := fun j => row (mks S) j0 (w + j) * row (mks S) j i) (a := row (mks S) j0 i) hj0' (by
      show p ∣ row (mks S) j0 (w + j0) * row (mks S) j0 i - row (mks S) j0 i
      rw [rowM_r hS hj0' hj0', if_pos rfl, Int.one_mul, Int.sub_self]
      exact Lin.dv0 p) fun j hj hn => by
      show p ∣ row (mks S) j0 (w + j) * row (mks S) j i
      rw [rowM_r hS hj0' hj, if_neg hn, Int.zero_mul]
      exact Lin.dv0 p
    exact Lin.dvOf (Lin.dvMul (-1) this) (by omega)) (f.t.b x hx)
  have hD := Lin.Sp.marks hrow hR.sp
  have hz : ∀ j, j < S.length → k ≤ j → p ∣ row (mks S) k (w + j) - co u (w + j) := fun j hj hkj => hR.sp.at0 (i := w + j) (by omega) fun x hx => (f.t.b x hx).at0 (by omega) fun y ⟨j0, hj0, _, e⟩ => by
    subst e
    rw [rowM_r hS (by omega) hj, if_neg (by omega)]
    exact Lin.dv0 p
  have hrg : ∀ j, j < S.length → 0 ≤ co u (w + j) ∧ co u (w + j) < p := fun j hj => hg.at (by omega)
  refine ⟨⟨hdl, hdr, fun i hi => ?_⟩, ?_, fun j hj hjn => ?_⟩
  · have h1 := hD i hi
    have h3 : co u i = 0 := h0 i hi
    have h4 := Lin.sumTo_delta (p := p) (n := S.length) (f := fun j => row (mks S) k (w + j) * row (mks S) j i) (a := row (mks S) k i) hk (by
      show p ∣ row (mks S) k (w + k) * row (mks S) k i - row (mks S) k i
      rw [rowM_r hS hk hk, if_pos rfl, Int.one_mul, Int.sub_self]
      exact Lin.dv0 p) fun j hj hn => by
      show p ∣ row (mks S) k (w + j) * row (mks S) j i
      rw [rowM_r hS hk hj, if_neg hn, Int.zero_mul]
      exact Lin.dv0 p
    have h5 : Lin.sumTo S.length (fun j => (row (mks S) k (w + j) - co u (w + j)) * row (mks S) j i) = Lin.sumTo S.length (fun j => row (mks S) k (w + j) * row (mks S) j i) - Lin.sumTo S.length (fun j => co (u.drop w) j * row S j i) := by
      rw [← Lin.sumTo_sub]
      exact Lin.sumTo_eq fun j hj => by rw [Int.sub_mul, hat, rowM_l hS hj hi]
    rw [h3] at h1
    simp only [h5, Int.sub_zero] at h1
    exact Lin.dvOf (Lin.dvAdd h1 h4) (by omega)
  · rw [hat]
    have a := hz k hk (Nat.le_refl k)
    rw [rowM_r hS hk hk, if_pos rfl] at a
    exact (eq_of_dv (p := p) ⟨by omega, hp⟩ (hrg k hk) a).symm
  · rw [hat]
    have a := hz j hjn (by omega)
    rw [rowM_r hS hk hjn, if_neg (by omega)] at a
    exact (eq_of_dv (p := p) ⟨by omega, by omega⟩ (hrg j hjn) a).symm
def NouEnd (p : Int) (w : Nat) (S : List (List Int)) (r : RB) : Prop := (r = .d .non ∧ ∀ k, k < S.length → Lin.Tk p w (row S) k) ∨ ∃ c m, r = .d (.tup (vec c)) ∧ Nou p w S c ∧ m < S.length ∧ ¬ Lin.Tk p w (row S) m ∧ (∀ k, k < m → Lin.Tk p w (row S) k) ∧ co c m = 1 ∧ ∀ j, m < j → j < S.length → co c j = 0
theorem nought_ok (hpp : p ∈ primes) (hw : w ≤ 100) (hm : S.length ≤ 100) (hS : ∀ s ∈ S, s.length = w ∧ Rg p s) (h0 : S = [] → wi = 0) (h1 : S ≠ [] → wi = w) (hwo : WF (F_width_of [.sh (.tup (sumsD S))]) fun r o => r = .d (.int wi) ∧ o = [.un]) :
    WF (F_nought_of [.sh (.int p), .sh (.tup (sumsD S))]) fun r o => o = [.un, .un] ∧ NouEnd p w S r := by
  obtain ⟨hp1, hp2⟩ := primes_lt hpp
  have hl : ∀ s ∈ S, s.length = w := fun s h => (hS s h).1
  have hM : ∀ v ∈ mks S, v.length = w + S.length ∧ Rg p v := fun v hv => by
    obtain ⟨k, hk⟩ := List.mem_iff_getElem?.mp hv
    have hkl : k < S.length := by
      obtain ⟨z, _⟩ := List.getElem?_eq_some_iff.mp hk
      rw [mks_len] at z
      exact z
    rw [mks_get (getD_get hkl)] at hk
    cases hk
    obtain ⟨a, b⟩ := hS _ (getD_memL hkl)
    exact ⟨by rw [List.length_append, marks_len, a], rg_app b (rg_marks hp1 _ _)⟩
  have htk : ∀ k, k < S.length → (Lin.Tk p w (row (mks S)) k ↔ Lin.Tk p w (row S) k) := fun k hk => ⟨fun h => Lin.tk_swap hk (fun j hj i hi => (rowM_l hl hj hi).symm) h, fun h => Lin.tk_swap hk (fun j hj i hi => rowM_l hl hj hi) h⟩
  refine wf_fn (ws_cons (ws_asgV (w_call (W.of (a := [.d (.tup (sumsD S))]) (ρ := ⟨[.sh (.int p), .sh (.tup (sumsD S)), .un, .un, .un, .un, .un], [.un, .un]⟩) rfl ⟨rfl, [.sh (.tup (sumsD S))], rfl, WF.mono hwo ?_⟩))))
  rintro r o ⟨rfl, rfl⟩
  refine ⟨rfl, ⟨[.sh (.int p), .sh (.tup (sumsD S)), .sh (.int wi), .un, .un, .un, .un], [.un, .un]⟩, rfl, ?_⟩
  refine ws_cons (ws_asgV (w_lst (wd_nil ⟨by simp, rfl, noF p wi S [] .un .un .un, rfl, ?_⟩)))
  refine ws_cons (ws_for (wa_cons (w_call (W.of (a := [.d (.tup (sumsD S))]) (ρ := noF p wi S [] .un .un .un) rfl ⟨rfl, [.sh (.tup (sumsD S))], rfl, WF.mono (marked_ok (by omega) (fun s h => by rw [hl s h]; omega)) ?_⟩))))
  rintro r o ⟨rfl, rfl⟩
  rw [back0 fun i => rfl]
  refine wa_nil ⟨[.lst (matD (mks S))], matD (mks S), rfl, rfl, fun j ρ => ∃ rows s4 s5 s6, ρ = noF p wi S rows s4 s5 s6 ∧ rows.length = j ∧ Found p w (w + S.length) (row (mks S)) j rows ∧ ∀ k, k < j → Lin.Tk p w (row S) k, ⟨[], .un, .un, .un, locks0 (fun i => rfl), rfl, Found.nil, fun k hk => absurd hk (Nat.not_lt_zero _)⟩, ?_, ?_⟩
  · rintro j x ρ2 hx ⟨rows, s4, s5, s6, rfl, hrl, hf, hT⟩
    obtain ⟨v, hv, rfl⟩ := matD_get hx
    have hj : j < S.length := by
      obtain ⟨z, _⟩ := List.getElem?_eq_some_iff.mp hv
      rw [mks_len] at z
      exact z
    have hSne : S ≠ [] := fun e => by rw [e] at hj; exact absurd hj (Nat.not_lt_zero _)
    have hwi := h1 hSne
    have hvg := hM v (List.mem_of_getElem? hv)
    refine ⟨noF p wi S rows (.sh (.lst (vec v))) s5 s6, bnd_free rfl rfl, ?_⟩
    refine ws_cons (ws_asgV (w_call (W.of (a := [.d (.int p), .loc 3, .d (.lst (vec v))]) (ρ := noF p wi S rows (.sh (.lst (vec v))) s5 s6) rfl ⟨rfl, [.sh (.int p), .ow (rowsD rows), .sh (.lst (vec v))], rfl, WF.mono (reducedS_ok (.inl rfl) hp1 hp2 (by omega) hf.r hvg.1 hvg.2) ?_⟩)))
    rintro r o ⟨u, rfl, rfl, hu, hUR, hRed⟩
    rw [backI (i := 3) (h := rowsD rows) (h' := rowsD rows) rfl (fun j => by rcases j with _ | _ | _ | _ | j <;> rfl)]
    rw [← row_of hv] at hRed
    refine ⟨rfl, noF p wi S rows (.sh (.lst (vec v))) (.ow (vec u)) s6, bnd_free rfl rfl, ?_⟩
    refine ws_cons (ws_asgV (w_call (W.of (a := [.d (.int p), .d (.int wi), .loc 5]) (ρ := noF p wi S rows (.sh (.lst (vec v))) (.ow (vec u)) s6) rfl ⟨rfl, [.sh (.int p), .sh (.int wi), .ow (vec u)], rfl, WF.mono (leading_ok hpp hwi (by omega) (by omega) hUR) ?_⟩)))
    rintro r o ⟨rfl, hL⟩
    rw [backI (i := 5) (h := vec u) (h' := vec u) rfl (fun j => by rcases j with _ | _ | _ | _ | _ | _ | j <;> rfl)]
    rcases hL with ⟨rfl, hz⟩ | ⟨q, t, hq, hz, t0, t1, htt, rfl⟩
    · refine ⟨rfl, noF p wi S rows (.sh (.lst (vec v))) (.ow (vec u)) (.sh .non), bnd_free rfl rfl, ?_⟩
      have hsk := hf.skip (by omega) hRed hz
      obtain ⟨n1, n2, n3⟩ := rest_nought hp1 hl hj hf hRed hUR hu hz
      have hcut : fCutL [.lst (vec u), .int wi] = some (.nw (vec (u.drop w))) := by
        rw [hwi, cutL_lst (by rw [vec_len]; omega), vec_drop]
      refine ws_cons (ws_ite (W.of (a := true) rfl ⟨fun _ => ?_, fun z => absurd z (by decide)⟩))
      refine ws_cons (ws_ret (w_prim (wa_cons (w_prim (W.of (a := [.loc 5, .d (.int wi)]) (ρ := noF p wi S rows (.sh (.lst (vec v))) (.ow (vec u)) (.sh .non)) rfl ⟨[.lst (vec u), .int wi], _, rfl, hcut, wa_nil ⟨[.lst (vec (u.drop w))], .d (.tup (vec (u.drop w))), rfl, rfl, _, _, rfl, ?_, .inr ⟨u.drop w, j, rfl, n1, hj, fun h => hsk.2 ((htk j hj).mpr h), hT, n2, n3⟩⟩⟩)))))
      rw [unlocks0 fun i => rfl]
      rfl
    · have hnw := hf.new hp1 (by omega) hRed hu hUR hq htt
      refine ⟨rfl, noF p wi S rows (.sh (.lst (vec v))) (.ow (vec u)) (.sh (.tup [.int (q : Int), .lst (vec (mulr p t u))])), bnd_free rfl rfl, ?_⟩
      refine ws_cons (ws_ite (W.of (a := false) rfl ⟨fun z => absurd z (by decide), fun _ => ws_nil ?_⟩))
      refine ws_cons (ws_ex (w_mut (xs0 := rowsD rows) rfl (W.of (a := [.tup [.int (q : Int), .lst (vec (mulr p t u))]]) (ρ := noF p wi S rows (.sh (.lst (vec v))) (.ow (vec u)) (.sh (.tup [.int (q : Int), .lst (vec (mulr p t u))]))) rfl ⟨rowsD rows, rowsD (rows ++ [(q, mulr p t u)]), .non, rfl, ?_, ?_⟩)))
      · rw [append_ok (by unfold rowsD; rw [List.length_map]; omega), ← rowsD_snoc]
      · refine ws_nil ⟨rows ++ [(q, mulr p t u)], _, _, _, rfl, by rw [List.length_append, hrl]; rfl, hnw.1, fun k hk => ?_⟩
        by_cases e : k = j
        · rw [e]; exact (htk j hj).mp hnw.2
        · exact hT k (by omega)
  · rintro ρ2 ⟨rows, s4, s5, s6, rfl, hrl, hf, hT⟩
    rw [unlocks0 fun i => rfl]
    rw [matD_len, mks_len] at hT
    exact ws_cons (ws_ret (W.of (a := .d .non) rfl ⟨.d .non, _, rfl, rfl, .inl ⟨rfl, hT⟩⟩))
end
end Ev

namespace Ev
open PySem L2
/-! ### ranks of lots, by what they make -/
theorem tk_congr {p : Int} {w k : Nat} {s s' : Nat → Lin.V} (e : ∀ j, j ≤ k → s j = s' j) (h : Lin.Tk p w s k) : Lin.Tk p w s' k := fun q => h (by
  rw [e k (Nat.le_refl k)]
  exact Lin.Sp.mono (fun x ⟨j, hj, ex⟩ => ⟨j, hj, by rw [ex, e j (by omega)]⟩) q)
theorem row_app {P : List Pc} {l : List Nat} {x j : Nat} (h : j < l.length) : row (picks P l) j = row (picks P (l ++ [x])) j := by
  rw [row_picks h, row_picks (by rw [List.length_append]; omega), List.getD_eq_getElem?_getD, List.getD_eq_getElem?_getD, List.getElem?_append_left h]
theorem row_end {P : List Pc} {l : List Nat} {x : Nat} : row (picks P (l ++ [x])) l.length = co (pcAt P x).1 := by
  rw [row_picks (by rw [List.length_append]; simp), List.getD_eq_getElem?_getD]
  simp
theorem sp_sumz {p : Int} {w : Nat} {s : Nat → Lin.V} {T : Lin.V → Prop} {e : Nat → Int} : ∀ {m : Nat}, (∀ k, k < m → e k = 0 ∨ T (s k)) → Lin.Sp p w T (fun i => Lin.sumTo m (fun k => e k * s k i))
  | 0, _ => .zero fun i hi => Lin.dv0 p
  | m + 1, h => by
    have ih := sp_sumz (p := p) (w := w) (m := m) fun k hk => h k (by omega)
    rcases h m (by omega) with z | z
    · refine ih.congr fun i hi => ?_
      show p ∣ (Lin.sumTo m (fun k => e k * s k i) + e m * s m i) - Lin.sumTo m (fun k => e k * s k i)
      rw [z, Int.zero_mul]
      exact Lin.dvOf (Lin.dv0 p) (by omega)
    · exact (ih.sum (Lin.Sp.smul (e m) (Lin.Sp.mem z))).congr fun i hi => Lin.dvOf (Lin.dv0 p) (by
        show (Lin.sumTo m (fun k => e k * s k i) + e m * s m i) - (Lin.sumTo m (fun k => e k * s k i) + e m * s m i) = 0
        omega)
section
variable {p : Int} {w : Nat} {P : List Pc}
/-- a piece is made of a lot's -/
def Mk' (p : Int) (w : Nat) (P : List Pc) (m : List Nat) (k : Nat) : Prop := Lin.Sp p w (Lin.Pre (row (picks P m)) m.length) (co (pcAt P k).1)
theorem mk_mem {m : List Nat} {k : Nat} (h : k ∈ m) : Mk' p w P m k := by
  obtain ⟨i, hi, e⟩ := picks_mem (P := P) h
  exact Lin.Sp.mem ⟨i, hi, e⟩
theorem found_any {l : List Nat} (hpp : p ∈ primes) (h2 : w ≤ 10) (hP : Pcs p w P) (hl : l.length ≤ 100) (h : ∀ k ∈ l, k < P.length) : ∃ rows, Found p w w (row (picks P l)) l.length rows ∧ rows.length = rk p w P l := by
  obtain ⟨r, o, _, _, fs, rows, _, hf, ht, hrl⟩ := WF.get (wtaken_ok (wi := (w : Int)) hpp rfl h2 hP hl h)
  exact ⟨rows, hf, by rw [hrl, ht.eq]; rfl⟩
theorem rk_mono {l m : List Nat} (hpp : p ∈ primes) (h2 : w ≤ 10) (hP : Pcs p w P) (hl : l.length ≤ 100) (h : ∀ k ∈ l, k < P.length) (hm : m.length ≤ 100) (h' : ∀ k ∈ m, k < P.length) (hs : ∀ k ∈ l, Mk' p w P m k) : rk p w P l ≤ rk p w P m := by
  obtain ⟨hp1, hp2⟩ := primes_lt hpp
  obtain ⟨r1, f1, e1⟩ := found_any hpp h2 hP hl h
  obtain ⟨r2, f2, e2⟩ := found_any hpp h2 hP hm h'
  have := Lin.stag_le hp1 (prime_inv hpp) f1.r.s f1.qs fun x hx => by
    refine Lin.Sp.trans (fun y ⟨j, hj, e⟩ => ?_) (Lin.Sp.mono Lin.ts_pre (f1.t.b x hx))
    rw [e, row_picks hj]
    refine Lin.Sp.trans (fun z ⟨i, hi, e⟩ => ?_) (hs _ (getD_mem0 hj))
    rw [e]
    exact f2.t.a i hi
  unfold absR at this
  rw [List.length_map, List.length_map] at this
  omega
theorem rk_perm {l m : List Nat} (hpp : p ∈ primes) (h2 : w ≤ 10) (hP : Pcs p w P) (hl : l.length ≤ 100) (h : ∀ k ∈ l, k < P.length) (hp : l.Perm m) : rk p w P l = rk p w P m := by
  have hm : m.length ≤ 100 := by rw [← hp.length_eq]; exact hl
  have h' : ∀ k ∈ m, k < P.length := fun k hk => h k (hp.mem_iff.mpr hk)
  have a := rk_mono hpp h2 hP hl h hm h' fun k hk => mk_mem (hp.mem_iff.mp hk)
  have b := rk_mono hpp h2 hP hm h' hl h fun k hk => mk_mem (hp.mem_iff.mpr hk)
  omega
/-- a lot and one piece more -/
theorem rk_snoc {l : List Nat} {x : Nat} (h : rk p w P l = l.length) : rk p w P (l ++ [x]) = l.length + 1 ↔ ¬ Mk' p w P l x := by
  have hlen : (l ++ [x]).length = l.length + 1 := by rw [List.length_append]; rfl
  have hpre : ∀ v, Lin.Sp p w (Lin.Pre (row (picks P (l ++ [x]))) l.length) v ↔ Lin.Sp p w (Lin.Pre (row (picks P l)) l.length) v := fun v => ⟨fun q => q.mono fun y ⟨j, hj, e⟩ => ⟨j, hj, by rw [e, row_app hj]⟩, fun q => q.mono fun y ⟨j, hj, e⟩ => ⟨j, hj, by rw [e, ← row_app hj]⟩⟩
  have hlast : Lin.Tk p w (row (picks P (l ++ [x]))) l.length ↔ ¬ Mk' p w P l x := by
    unfold Lin.Tk Mk'
    rw [hpre, row_end]
  rw [← hlast, ← hlen]
  constructor
  · intro e
    exact rk_full.mp e l.length (by omega)
  · intro e
    refine rk_full.mpr fun j hj => ?_
    by_cases z : j < l.length
    · exact tk_congr (fun i hi => row_app (by omega)) (rk_full.mp h j z)
    · have : j = l.length := by omega
      rw [this]
      exact e
theorem drop_len1 {l : List Nat} (h : l.Nodup) {k : Nat} (hk : k ∈ l) : (dropK l k).length + 1 = l.length := by
  have hp : l.Perm (k :: dropK l k) := by
    refine (List.perm_cons_erase hk).trans (List.Perm.cons k ?_)
    unfold dropK
    rw [h.erase_eq_filter]
    refine List.Perm.of_eq (List.filter_congr fun y _ => ?_)
    by_cases e : y = k
    · simp [e]
    · simp [e]
  rw [hp.length_eq]
  rfl
/-- which pieces can be left out for another one -/
theorem ring_iff {l : List Nat} {x j : Nat} {c : List Int} (hpp : p ∈ primes) (h2 : w ≤ 10) (hP : Pcs p w P) (hl : l.Nodup) (hln : l.length ≤ 90) (h : ∀ k ∈ l, k < P.length) (hx : x < P.length) (hk : rk p w P l = l.length) (hc : Nou p w (picks P (l ++ [x])) c) (h1 : co c l.length = 1) (hj : j < l.length) :
    rk p w P (dropK l (l.getD j 0) ++ [x]) = l.length ↔ co c j ≠ 0 := by
  obtain ⟨hp1, hp2⟩ := primes_lt hpp
  have hkl := drop_len1 hl (getD_mem0 hj)
  have hlen : (dropK l (l.getD j 0) ++ [x]).length = l.length := by rw [List.length_append]; exact hkl
  have hin : ∀ k ∈ dropK l (l.getD j 0) ++ [x], k < P.length := fun k hk => by
    rcases List.mem_append.mp hk with hk | hk
    · exact h k (List.mem_filter.mp hk).1
    · have : k = x := by simpa using hk
      rw [this]; exact hx
  have hrel : ∀ i, i < w → p ∣ Lin.sumTo (l.length + 1) (fun k => co c k * row (picks P (l ++ [x])) k i) := fun i hi => by
    have := hc.e i hi
    rw [picks_len, List.length_append] at this
    exact this
  have hne : ∀ i, i < l.length → i ≠ j → l.getD i 0 ∈ dropK l (l.getD j 0) := fun i hi hij => by
    unfold dropK
    refine List.mem_filter.mpr ⟨getD_mem0 hi, ?_⟩
    have : l.getD i 0 ≠ l.getD j 0 := fun e => by
      rw [List.getD_eq_getElem?_getD, List.getD_eq_getElem?_getD, List.getElem?_eq_getElem hi, List.getElem?_eq_getElem hj] at e
      exact hij ((List.getElem_inj hl).mp e)
    rw [decide_eq_false this]
    rfl
  have hrow : ∀ i, i < l.length → row (picks P (l ++ [x])) i = co (pcAt P (l.getD i 0)).1 := fun i hi => by rw [← row_app hi, row_picks hi]
  constructor
  · intro e hz
    -- without it the others make the piece
    have hd : Lin.Sp p w (Lin.Pre (row (picks P (dropK l (l.getD j 0)))) (dropK l (l.getD j 0)).length) (co (pcAt P x).1) := by
      have hs := sp_sumz (p := p) (w := w) (s := row (picks P (l ++ [x]))) (T := Lin.Pre (row (picks P (dropK l (l.getD j 0)))) (dropK l (l.getD j 0)).length) (e := co c) (m := l.length) fun k hk => by
        by_cases z : k = j
        · rw [z]; exact .inl hz
        · right
          rw [hrow k hk]
          obtain ⟨i, hi, e⟩ := picks_mem (P := P) (hne k hk z)
          exact ⟨i, hi, e⟩
      refine (Lin.Sp.smul (-1) hs).congr fun i hi => ?_
      have a := hrel i hi
      have hst : Lin.sumTo (l.length + 1) (fun k => co c k * row (picks P (l ++ [x])) k i) = Lin.sumTo l.length (fun k => co c k * row (picks P (l ++ [x])) k i) + co c l.length * row (picks P (l ++ [x])) l.length i := rfl
      rw [hst, h1, row_end, Int.one_mul] at a
      exact Lin.dvOf a (by omega)
    have hbad := rk_full.mp (e.trans hlen.symm) (dropK l (l.getD j 0)).length (by rw [hlen]; omega)
    refine hbad ?_
    rw [row_end]
    exact hd.mono fun y ⟨i, hi, e⟩ => ⟨i, hi, by rw [e, row_app hi]⟩
  · intro hz
    have hm := rk_mono hpp h2 hP (by omega) h (m := dropK l (l.getD j 0) ++ [x]) (by omega) hin fun k hk => by
      by_cases z : k = l.getD j 0
      · rw [z]
        -- the others and the piece make it
        obtain ⟨hc0, hc1⟩ := hc.r.at (j := j) (by rw [hc.l, picks_len, List.length_append]; omega)
        obtain ⟨t, ht⟩ := prime_inv hpp (co c j) (ndv hz hc0 hc1)
        have hs := sp_sumz (p := p) (w := w) (s := fun k => row (picks P (l ++ [x])) (Lin.skip j k)) (T := Lin.Pre (row (picks P (dropK l (l.getD j 0) ++ [x]))) (dropK l (l.getD j 0) ++ [x]).length) (e := fun k => co c (Lin.skip j k)) (m := l.length) fun k hk => by
          right
          have hm : ∃ y, y ∈ dropK l (l.getD j 0) ++ [x] ∧ row (picks P (l ++ [x])) (Lin.skip j k) = co (pcAt P y).1 := by
            unfold Lin.skip
            by_cases z : k < j
            · rw [if_pos z]
              exact ⟨_, List.mem_append_left _ (hne k hk (by omega)), hrow k hk⟩
            · rw [if_neg z]
              by_cases z2 : k + 1 < l.length
              · exact ⟨_, List.mem_append_left _ (hne (k + 1) z2 (by omega)), hrow (k + 1) z2⟩
              · rw [show k + 1 = l.length by omega]
                exact ⟨x, by simp, row_end⟩
          obtain ⟨y, hy, e⟩ := hm
          obtain ⟨i, hi, e2⟩ := picks_mem (P := P) hy
          show Lin.Pre _ _ (row (picks P (l ++ [x])) (Lin.skip j k))
          rw [e]
          exact ⟨i, hi, e2⟩
        refine (Lin.Sp.smul (-t) hs).congr fun i hi => ?_
        have a := hrel i hi
        rw [Lin.sum_skip (k0 := j) (by omega), hrow j hj] at a
        have b := Lin.dvMul t a
        have d := Lin.dvMul (co (pcAt P (l.getD j 0)).1 i) ht
        generalize co (pcAt P (l.getD j 0)).1 i = v at *
        show p ∣ v - -t * Lin.sumTo l.length (fun k => co c (Lin.skip j k) * row (picks P (l ++ [x])) (Lin.skip j k) i)
        generalize Lin.sumTo l.length (fun k => co c (Lin.skip j k) * row (picks P (l ++ [x])) (Lin.skip j k) i) = u at *
        generalize co c j = cj at *
        rw [Int.mul_add] at b
        rw [Int.mul_sub, Int.mul_one] at d
        have e3 : v * (t * cj) = t * (cj * v) := by rw [Int.mul_left_comm, Int.mul_comm v]
        rw [e3] at d
        rw [Int.neg_mul]
        exact Lin.dvOf (Lin.dvSub b d) (by omega)
      · refine mk_mem (List.mem_append_left _ ?_)
        unfold dropK
        exact List.mem_filter.mpr ⟨hk, by rw [decide_eq_false z]; rfl⟩
    have hle := rk_le p w P (dropK l (l.getD j 0) ++ [x])
    omega
end
end Ev

namespace Ev
open PySem L2
/-! ### the law's lots -/
def toldD (p wi : Int) (P : List Pc) : D := .tup [.int p, .int wi, .lst (pcsD P)]
theorem ixPL {P : List Pc} {k : Nat} (h : k < P.length) : fIx [.lst (pcsD P), .int (k : Int)] = some (.d (pcD (pcAt P k))) := by
  refine ix_lst ?_
  unfold pcsD pcAt
  rw [List.getElem?_map, List.getD_eq_getElem?_getD, List.getElem?_eq_getElem h]
  rfl
section
variable {p wi : Int} {w : Nat} {P : List Pc}
def inwF (p wi : Int) (P : List Pc) (l : List Nat) (s : Slot) : Env := ⟨[.sh (toldD p wi P), .sh (.tup (nats l)), s], [.un, .un]⟩
theorem law_in_ok {l : List Nat} (hpp : p ∈ primes) (h2 : w ≤ 10) (hP : Pcs p w P) (hl : l.length ≤ 100) (h : ∀ k ∈ l, k < P.length) :
    WF (F_law_in [.sh (toldD p wi P), .sh (.tup (nats l))]) fun r o => o = [.un, .un] ∧ r = .d (.int ((rk p w P l : Nat) : Int)) := by
  refine wf_fn (ws_cons (ws_ret (w_call (wa_cons (W.of (a := .d (.int p)) (ρ := inwF p wi P l .un) rfl (wa_cons (w_lcmL (l := l) (g := fun k : Nat => D.int (k : Int)) (e := fun k : Nat => D.tup (vec (pcAt P k).1)) (W.of (a := [.d (.tup (nats l))]) (ρ := inwF p wi P l .un) rfl ⟨[.tup (nats l)], rfl, rfl, ⟨by rw [sizeLine_eq]; omega, rfl, rfl⟩, fun k hk => ?_, ?_⟩))))))))
  · have hix := ixPL (h k hk)
    generalize (k : Int) = ki at hix
    refine ⟨inwF p wi P l (.sh (.int ki)), rfl, ?_⟩
    refine w_prim (wa_cons (w_prim (wa_cons (w_prim (W.of (a := [.d (toldD p wi P), .d (.int 2)]) (ρ := inwF p wi P l (.sh (.int ki))) rfl ⟨[toldD p wi P, .int 2], .d (.lst (pcsD P)), rfl, rfl, W.of (a := [.d (.int ki)]) (ρ := inwF p wi P l (.sh (.int ki))) rfl ⟨[.lst (pcsD P), .int ki], _, rfl, hix, ?_⟩⟩)))))
    exact W.of (a := [.d (.int 0)]) (ρ := inwF p wi P l (.sh (.int ki))) rfl ⟨[pcD (pcAt P k), .int 0], .d (.tup (vec (pcAt P k).1)), rfl, rfl, _, rfl, rfl⟩
  · have e : (l.map fun k : Nat => D.tup (vec (pcAt P k).1)) = sumsD (picks P l) := by
      unfold sumsD picks
      rw [List.map_map]
      rfl
    rw [e]
    refine wa_nil ⟨rfl, [.sh (.int p), .ow (sumsD (picks P l))], rfl, WF.mono (law_rank_picks hpp h2 hP hl h) ?_⟩
    rintro r o ⟨rfl, rfl⟩
    exact ⟨_, _, rfl, rfl, rfl⟩
def wouF (l : List Nat) (ki : Int) (s : Slot) : Env := ⟨[.sh (.tup (nats l)), .sh (.int ki), s], [.un, .un]⟩
theorem law_without_ok {l : List Nat} {k : Nat} {ki : Int} (e : ki = k) (hl : l.length ≤ 1000) : WF (F_law_without [.sh (.tup (nats l)), .sh (.int ki)]) fun r o => r = .d (.tup (nats (dropK l k))) ∧ o = [.un, .un] := by
  refine wf_fn (ws_cons (ws_ret (w_prim (wa_cons (w_lcfL (l := l) (g := fun i : Nat => D.int (i : Int)) (e := fun i : Nat => D.int (i : Int)) (q := fun i => !decide (i = k)) (W.of (a := [.d (.tup (nats l))]) (ρ := wouF l ki .un) rfl ⟨[.tup (nats l)], rfl, rfl, ⟨by rw [sizeLine_eq]; omega, rfl, rfl⟩, fun i hi => ?_, ?_⟩))))))
  · have hd := dec_nat (a := i) (b := k) rfl e
    generalize (i : Int) = ii at hd
    refine ⟨wouF l ki (.sh (.int ii)), rfl, ?_⟩
    exact wt_eb (w_prim (W.of (a := [.d (.int ii), .d (.int ki)]) (ρ := wouF l ki (.sh (.int ii))) rfl ⟨[.int ii, .int ki], _, rfl, ne_int ii ki, _, rfl, by rw [hd], fun _ => W.of (a := .d (.int ii)) rfl ⟨_, rfl, rfl⟩, rfl⟩))
  · exact wa_nil ⟨[.lst (nats (dropK l k))], _, rfl, rfl, _, _, rfl, rfl, rfl⟩
/-- places sorted -/
def srtN (l : List Nat) : List Nat := l.mergeSort fun a b => decide (a ≤ b)
theorem srtN_perm (l : List Nat) : (srtN l).Perm l := List.mergeSort_perm _ _
theorem srtN_le (l : List Nat) : (srtN l).Pairwise (· ≤ ·) := by
  have := List.pairwise_mergeSort (le := fun a b : Nat => decide (a ≤ b)) (fun a b c h k => decide_eq_true (by have := of_decide_eq_true h; have := of_decide_eq_true k; omega)) (fun a b => by by_cases h : a ≤ b <;> simp [h]; omega) l
  exact this.imp fun h => of_decide_eq_true h
theorem srtN_lot {m : Nat} {l : List Nat} (hd : l.Nodup) (h : ∀ k ∈ l, k < m) : IsLot m (srtN l) := by
  refine ⟨fun k hk => h k ((srtN_perm l).mem_iff.mp hk), ?_⟩
  have hn : (srtN l).Nodup := (srtN_perm l).nodup_iff.mpr hd
  exact (srtN_le l).imp₂ (fun a b h1 h2 => by omega) hn
theorem sorted_nats (l : List Nat) : sorted? (nats l) = some (nats (srtN l)) := by
  have hpy : ∀ l : List Nat, D.pys (nats l) = some (l.map fun k : Nat => PyData.int (k : Int)) := fun l => by
    rw [nats_vec, pys_vec, List.map_map]
    rfl
  have hle : ∀ a b : Nat, leD (.int (a : Int)) (.int (b : Int)) = decide (a ≤ b) := fun a b => by
    show (!PyProof.Rows.lexLt PyProof.Rows.itemOrd [.inl (b : Int)] [.inl (a : Int)]) = _
    rw [PyProof.Rows.lex_cons]
    show (!(decide ((b : Int) < (a : Int)) || (!decide ((a : Int) < (b : Int)) && false))) = _
    by_cases h : a ≤ b
    · rw [decide_eq_true h, decide_eq_false (show ¬ (b : Int) < (a : Int) by omega)]
      simp
    · rw [decide_eq_false h, decide_eq_true (show (b : Int) < (a : Int) by omega)]
      simp
  unfold sorted?
  rw [hpy]
  show (if (alikeB (l.map fun k : Nat => PyData.int (k : Int)) && sortB (l.map fun k : Nat => PyData.int (k : Int)) && deepB (l.map fun k : Nat => PyData.int (k : Int))) = true then some ((nats l).mergeSort leD) else none) = _
  have c1 : alikeB (l.map fun k : Nat => PyData.int (k : Int)) = true := List.all_eq_true.mpr fun a ha => List.all_eq_true.mpr fun b hb => by
    obtain ⟨x, _, rfl⟩ := List.mem_map.mp ha
    obtain ⟨y, _, rfl⟩ := List.mem_map.mp hb
    rfl
  have c2 : sortB (l.map fun k : Nat => PyData.int (k : Int)) = true := by
    have : ((l.map fun k : Nat => PyData.int (k : Int)).all isNT) = true := List.all_eq_true.mpr fun a ha => by
      obtain ⟨x, _, rfl⟩ := List.mem_map.mp ha
      rfl
    unfold sortB
    rw [this, Bool.or_true]
  have c3 : deepB (l.map fun k : Nat => PyData.int (k : Int)) = true := List.all_eq_true.mpr fun a ha => by
    obtain ⟨x, _, rfl⟩ := List.mem_map.mp ha
    rfl
  rw [c1, c2, c3]
  have q := List.map_mergeSort (r := fun a b : Nat => decide (a ≤ b)) (s := leD) (f := fun k : Nat => D.int (k : Int)) (l := l) fun a _ b _ => (hle a b).symm
  show some ((l.map fun k : Nat => D.int (k : Int)).mergeSort leD) = _
  rw [← q]
  rfl
theorem sortL_nats (l : List Nat) : fSortedA [.lst (nats l)] = some (.nw (nats (srtN l))) := by
  show (match sorted? (nats l) with | some ys => some (RB.nw ys) | none => none) = _
  rw [sorted_nats]
theorem sortT_nats (l : List Nat) : fSortedA [.tup (nats l)] = some (.nw (nats (srtN l))) := by
  show (match sorted? (nats l) with | some ys => some (RB.nw ys) | none => none) = _
  rw [sorted_nats]
theorem snocT_nats (l : List Nat) {k : Nat} {ki : Int} (e : ki = k) (h : l.length ≤ 1000) : fAdd [.tup (nats l), .tup [.int ki]] = some (.d (.tup (nats (l ++ [k])))) := by
  rw [add_tup (by show (nats l).length + 1 ≤ 1000000; rw [nats_len]; omega), ← nats_snoc, e]
theorem law_with_ok {l : List Nat} {k : Nat} {ki : Int} (e : ki = k) (hl : l.length ≤ 1000) : WF (F_law_with [.sh (.tup (nats l)), .sh (.int ki)]) fun r o => r = .d (.tup (nats (srtN (l ++ [k])))) ∧ o = [.un, .un] := by
  refine wf_fn (ws_cons (ws_ret (w_prim (wa_cons (w_prim (wa_cons (w_prim (W.of (a := [.d (.tup (nats l)), .d (.tup [.int ki])]) (ρ := ⟨[.sh (.tup (nats l)), .sh (.int ki)], [.un, .un]⟩) rfl ⟨[.tup (nats l), .tup [.int ki]], _, rfl, snocT_nats l e hl, wa_nil ⟨[.tup (nats (l ++ [k]))], _, rfl, sortT_nats _, ?_⟩⟩))))))))
  exact wa_nil ⟨[.lst (nats (srtN (l ++ [k])))], _, rfl, rfl, _, _, rfl, rfl, rfl⟩
theorem law_all_ok (hn : P.length ≤ 1000) : WF (F_law_all [.sh (toldD p wi P)]) fun r o => r = .d (.tup (nats (List.range P.length))) ∧ o = [.un] := by
  have hlen : fLen [.lst (pcsD P)] = some (.d (.int ((P.length : Nat) : Int))) := by rw [len_lst, pcsD_len]
  have ht := tupR_nats (mi := ((P.length : Nat) : Int)) rfl hn
  generalize ((P.length : Nat) : Int) = ni at hlen ht
  refine wf_fn (ws_cons (ws_ret (w_prim (wa_cons (w_prim (wa_cons (w_prim (W.of (a := [.d (toldD p wi P), .d (.int 2)]) (ρ := ⟨[.sh (toldD p wi P)], [.un]⟩) rfl ⟨[toldD p wi P, .int 2], .d (.lst (pcsD P)), rfl, rfl, wa_nil ⟨[.lst (pcsD P)], .d (.int ni), rfl, hlen, ?_⟩⟩))))))))
  exact wa_nil ⟨[.int ni], _, rfl, ht, _, _, rfl, rfl, rfl⟩
theorem perm_nats {ys : List D} {l : List Nat} (h : ys.Perm (nats l)) : ∃ L, ys = nats L ∧ L.Perm l := by
  let f : D → Nat := fun d => match d with | .int i => i.toNat | _ => 0
  have hf : ∀ l : List Nat, (nats l).map f = l := fun l => by
    unfold nats
    rw [List.map_map]
    have : (f ∘ fun k : Nat => D.int (k : Int)) = id := by
      funext k
      rfl
    rw [this, List.map_id]
  refine ⟨ys.map f, ?_, ?_⟩
  · have : ∀ (xs : List D), (∀ x ∈ xs, ∃ k : Nat, x = .int (k : Int)) → xs = nats (xs.map f) := fun xs => by
      intro hx
      unfold nats
      rw [List.map_map]
      have : xs.map ((fun k : Nat => D.int (k : Int)) ∘ f) = xs.map id := List.map_congr_left fun x hx' => by
        obtain ⟨k, rfl⟩ := hx x hx'
        rfl
      rw [this, List.map_id]
    refine this ys fun x hx => ?_
    obtain ⟨k, _, e⟩ := List.mem_map.mp (h.mem_iff.mp hx)
    exact ⟨k, e.symm⟩
  · have := h.map f
    rw [hf] at this
    exact this
def ltkF (p wi : Int) (P : List Pc) (L : List Nat) (s1 : Slot) (F : List Nat) (s3 : Slot) : Env := ⟨[.sh (toldD p wi P), s1, .sh (.tup (nats F)), s3], [.un, .att]⟩
/-- the law's taking, one behind another: those that stand alone -/
theorem law_taken_ok {L : List Nat} (hpp : p ∈ primes) (h2 : w ≤ 10) (hP : Pcs p w P) (hd : L.Nodup) (hL : ∀ k ∈ L, k < P.length) (hn : L.length ≤ 60) :
    WF (F_law_taken [.sh (toldD p wi P), .ow (nats L)]) fun r o => o = [.un, .ow (nats L)] ∧ ∃ l, r = .d (.tup (nats l)) ∧ IsLot P.length l ∧ rk p w P l = l.length ∧ ∀ k ∈ l, k ∈ L := by
  refine wf_fn (ws_cons (ws_asgV (w_tup (wd_nil ⟨by simp, rfl, ltkF p wi P L (.ow (nats L)) [] .un, rfl, ?_⟩))))
  refine ws_cons (ws_for (W.of (a := [.loc 1]) (ρ := ltkF p wi P L (.ow (nats L)) [] .un) rfl ⟨[.lst (nats L)], nats L, rfl, rfl, fun j ρ => ∃ F s3, ρ = ltkF p wi P L (.lk (nats L)) F s3 ∧ F.Nodup ∧ (∀ k ∈ F, k ∈ L.take j) ∧ F.length ≤ j ∧ rk p w P F = F.length, ⟨[], .un, rfl, List.nodup_nil, by simp, Nat.le_refl _, rk_full.mpr fun k hk => absurd hk (Nat.not_lt_zero _)⟩, ?_, ?_⟩))
  · rintro j x ρ2 hx ⟨F, s3, rfl, hF, hFL, hFn, hFk⟩
    obtain ⟨hj, rfl⟩ := nats_get hx
    generalize hxx : L.getD j 0 = xx
    have hxL : xx ∈ L := hxx ▸ getD_mem0 hj
    have hnot : xx ∉ F := fun hm => by
      have := hFL _ hm
      obtain ⟨i, hi, e⟩ := List.getElem_of_mem this
      rw [List.length_take] at hi
      rw [List.getElem_take] at e
      rw [List.getD_eq_getElem?_getD, List.getElem?_eq_getElem hj] at hxx
      have := (List.getElem_inj hd (i := i) (j := j) (h₀ := by omega) (h₁ := hj)).mp (e.trans hxx.symm)
      omega
    have hin : ∀ k ∈ F ++ [xx], k < P.length := fun k hk => by
      rcases List.mem_append.mp hk with hk | hk
      · exact hL k (List.mem_of_mem_take (hFL k hk))
      · have : k = xx := by simpa using hk
        rw [this]; exact hL _ hxL
    have htk : L.take (j + 1) = L.take j ++ [xx] := take_succ_of (by rw [← hxx, List.getD_eq_getElem?_getD, List.getElem?_eq_getElem hj]; rfl)
    obtain ⟨xi, hxi⟩ : ∃ xi : Int, xi = ((xx : Nat) : Int) := ⟨_, rfl⟩
    rw [← hxi]
    have hsn := snocT_nats F hxi (by omega)
    refine ⟨ltkF p wi P L (.lk (nats L)) F (.sh (.int xi)), bnd_free rfl rfl, ?_⟩
    refine ws_cons (ws_ite (wt_eb (w_prim (wa_cons (w_call (wa_cons (W.of (a := .d (toldD p wi P)) (ρ := ltkF p wi P L (.lk (nats L)) F (.sh (.int xi))) rfl (wa_cons (w_prim (W.of (a := [.d (.tup (nats F)), .d (.tup [.int xi])]) (ρ := ltkF p wi P L (.lk (nats L)) F (.sh (.int xi))) rfl ⟨[.tup (nats F), .tup [.int xi]], _, rfl, hsn, wa_nil ⟨rfl, [.sh (toldD p wi P), .sh (.tup (nats (F ++ [xx])))], rfl, WF.mono (law_in_ok hpp h2 hP (by rw [List.length_append]; show F.length + 1 ≤ 100; omega) hin) ?_⟩⟩))))))))))
    rintro r o ⟨rfl, rfl⟩
    rw [back0 fun i => rfl]
    have hlen : fLen [.tup (nats F)] = some (.d (.int ((F.length : Nat) : Int))) := by rw [len_tup, nats_len]
    have hle := rk_le p w P (F ++ [xx])
    rw [List.length_append] at hle
    have hle : rk p w P (F ++ [xx]) ≤ F.length + 1 := hle
    have hdc : decide (((rk p w P (F ++ [xx]) : Nat) : Int) > ((F.length : Nat) : Int)) = decide (rk p w P (F ++ [xx]) = F.length + 1) := decide_eq_decide.mpr ⟨fun h => by omega, fun h => by omega⟩
    generalize ((rk p w P (F ++ [xx]) : Nat) : Int) = ri at hdc
    generalize ((F.length : Nat) : Int) = fi at hdc hlen
    refine wa_cons (w_prim (W.of (a := [.d (.tup (nats F))]) (ρ := ltkF p wi P L (.lk (nats L)) F (.sh (.int xi))) rfl ⟨[.tup (nats F)], .d (.int fi), rfl, hlen, ?_⟩))
    refine wa_nil ⟨[.int ri, .int fi], .d (.bl (decide (ri > fi))), rfl, rfl, _, rfl, fun h => ?_, fun h => ?_⟩
    · rw [hdc] at h
      have h := of_decide_eq_true h
      refine ws_cons (ws_asgV (w_prim (W.of (a := [.d (.tup (nats F)), .d (.tup [.int xi])]) (ρ := ltkF p wi P L (.lk (nats L)) F (.sh (.int xi))) rfl ⟨[.tup (nats F), .tup [.int xi]], _, rfl, hsn, rfl, ltkF p wi P L (.lk (nats L)) (F ++ [xx]) (.sh (.int xi)), rfl, ?_⟩)))
      refine ws_nil (ws_nil ⟨F ++ [xx], _, rfl, ?_, fun k hk => ?_, by rw [List.length_append]; show F.length + 1 ≤ j + 1; omega, by rw [h, List.length_append]; rfl⟩)
      · exact List.nodup_append.mpr ⟨hF, by simp, fun a ha b hb => by
          have : b = xx := by simpa using hb
          rw [this]
          rintro rfl
          exact hnot ha⟩
      · rw [htk]
        rcases List.mem_append.mp hk with hk | hk
        · exact List.mem_append_left _ (hFL k hk)
        · exact List.mem_append_right _ hk
    · exact ws_nil (ws_nil ⟨F, _, rfl, hF, fun k hk => by rw [htk]; exact List.mem_append_left _ (hFL k hk), by omega, hFk⟩)
  · rintro ρ2 ⟨F, s3, rfl, hF, hFL, hFn, hFk⟩
    rw [nats_len, List.take_length] at hFL
    rw [nats_len] at hFn
    refine ws_cons (ws_ret (w_prim (wa_cons (w_prim (W.of (a := [.d (.tup (nats F))]) rfl ⟨[.tup (nats F)], _, rfl, sortT_nats F, wa_nil ⟨[.lst (nats (srtN F))], .d (.tup (nats (srtN F))), rfl, rfl, _, _, rfl, ?_, srtN F, rfl, srtN_lot hF (fun k hk => hL k (hFL k hk)), ?_, fun k hk => hFL k ((srtN_perm F).mem_iff.mp hk)⟩⟩)))))
    · rw [unlocks1 (xs := nats L) (ys := nats L) rfl rfl]
      rfl
    · rw [rk_perm hpp h2 hP (by rw [(srtN_perm F).length_eq]; omega) (fun k hk => hL k (hFL k ((srtN_perm F).mem_iff.mp hk))) (srtN_perm F), hFk, (srtN_perm F).length_eq]
end
end Ev

namespace Ev
open PySem L2
/-! ### webs drawn -/
def lsF (h : List D) (p wi : Int) (s3 s4 s5 s6 : Slot) : Env := ⟨[.ow h, .sh (.int p), .sh (.int wi), s3, s4, s5, s6], [.att, .un, .un]⟩
theorem good_set {p : Int} {w i : Nat} {v : List Int} {z : Int} (hl : v.length = w) (hR : Rg p v) (hi : i < w) (z0 : 0 < z) (z1 : z < p) : Good p w (v.set i z) := by
  refine ⟨by rw [List.length_set, hl], fun x hx => ?_, fun q => ?_⟩
  · rcases List.mem_or_eq_of_mem_set hx with h' | rfl
    · exact hR x h'
    · omega
  · have : (v.set i z).getD i 0 = z := by
      rw [List.getD_eq_getElem?_getD, List.getElem?_set, if_pos rfl, if_pos (by omega)]
      rfl
    rw [q, rep_getD] at this
    omega
theorem vec_set (v : List Int) (i : Nat) (z : Int) : (vec v).set i (.int z) = vec (v.set i z) := by
  unfold vec
  rw [List.map_set]
def SumEnd (g : List Int) (p : Int) (w : Nat) (b : B) (ρ : Env) : Prop := ∃ r ρ', retB ρ b = some (r, ρ') ∧ ∃ s h', r = .d (.tup (vec s)) ∧ ρ'.outs = [.ow h', .un, .un] ∧ Good p w s ∧ Tap g h'
theorem law_sum_ok {g : List Int} {h : List D} {p wi : Int} {w : Nat} (hpp : p ∈ primes) (hwi : wi = w) (h1 : 1 ≤ w) (h2 : w ≤ 10) (T : Tap g h) :
    WF (F_law_sum [.ow h, .sh (.int p), .sh (.int wi)]) fun r o => ∃ s h', r = .d (.tup (vec s)) ∧ o = [.ow h', .un, .un] ∧ Good p w s ∧ Tap g h' := by
  obtain ⟨hp1, hp2⟩ := primes_lt hpp
  refine wf_fn (ws_cons (ws_par (w_call (W.of (a := [.loc 0, .d (.int 5)]) (ρ := lsF h p wi .un .un .un .un) rfl ⟨rfl, [.ow h, .sh (.int 5)], rfl, WF.mono (pick_ok (by decide) (by decide) T) ?_⟩))))
  rintro r o ⟨kd, h, rfl, rfl, kd0, kd1, T⟩
  rw [backI (i := 0) (h' := h) rfl (fun j => by cases j <;> rfl)]
  refine w_call (W.of (a := [.loc 0, .d (.int wi)]) (ρ := lsF h p wi .un .un .un .un) rfl ⟨rfl, [.ow h, .sh (.int wi)], rfl, WF.mono (pick_ok (by omega) (by omega) T) ?_⟩)
  rintro r o ⟨on, h, rfl, rfl, on0, on1, T⟩
  rw [backI (i := 0) (h' := h) rfl (fun j => by cases j <;> rfl)]
  obtain ⟨k, hk⟩ : ∃ k : Nat, on = k := ⟨on.toNat, by omega⟩
  have hkw : k < w := by omega
  refine ⟨.d (.int kd), lsF h p wi .un .un .un .un, .d (.int on), lsF h p wi .un .un .un .un, lsF h p wi (.sh (.int kd)) .un .un .un, lsF h p wi (.sh (.int kd)) (.sh (.int on)) .un .un, rfl, rfl, rfl, rfl, ?_⟩
  refine ws_cons (ws_asgV (w_prim (wa_cons (w_lst (W.of (a := [.int 0]) (ρ := lsF h p wi (.sh (.int kd)) (.sh (.int on)) .un .un) rfl ⟨by simp, ?_⟩)))))
  refine W.of (a := [.d (.int wi)]) (ρ := lsF h p wi (.sh (.int kd)) (.sh (.int on)) .un .un) rfl ⟨[.lst [.int 0], .int wi], _, rfl, by rw [hwi]; exact noughts_lst (by omega), rfl, lsF h p wi (.sh (.int kd)) (.sh (.int on)) (.ow (vec (List.replicate w 0))) .un, rfl, ?_⟩
  have hrR : Rg p (List.replicate w 0) := rg_rep (by omega) w
  have hrl : (List.replicate w (0 : Int)).length = w := List.length_replicate
  have hix : ∀ {v : List Int}, v.length = w → ixN (vec v).length on = some k := fun {v} hv => by rw [hk]; exact ixN_ok (by rw [vec_len, hv]; exact hkw)
  have fin : ∀ (v : List Int) (h : List D) (s6 : Slot), Good p w v → Tap g h → W (evE (.prim fTuple (.cons (.var 5) (.nil))) (lsF h p wi (.sh (.int kd)) (.sh (.int on)) (.ow (vec v)) s6)) (SumEnd g p w) := fun v h s6 hv T => w_prim (W.of (a := [.loc 5]) (ρ := lsF h p wi (.sh (.int kd)) (.sh (.int on)) (.ow (vec v)) s6) rfl ⟨[.lst (vec v)], .d (.tup (vec v)), rfl, rfl, .d (.tup (vec v)), _, rfl, v, h, rfl, rfl, hv, T⟩)
  -- a value from 1 on
  have val : ∀ (v : List Int) (h : List D), Tap g h → ∀ {P : B → Env → Prop}, (∀ (z : Int) (h' : List D), 0 < z → z < p → Tap g h' → P (.d (.int z)) (lsF h' p wi (.sh (.int kd)) (.sh (.int on)) (.ow (vec v)) .un)) → W (evE (.prim fAdd (.cons (.con (.int 1)) (.cons (.call F_law_pick (.cons (.var 0) (.cons (.prim fSub (.cons (.var 1) (.cons (.con (.int 1)) .nil))) (.nil)))) .nil))) (lsF h p wi (.sh (.int kd)) (.sh (.int on)) (.ow (vec v)) .un)) P := fun v h T {P} q => by
    refine w_prim (wa_cons (W.of (a := .d (.int 1)) (ρ := lsF h p wi (.sh (.int kd)) (.sh (.int on)) (.ow (vec v)) .un) rfl (wa_cons (w_call (W.of (a := [.loc 0, .d (.int (p - 1))]) (ρ := lsF h p wi (.sh (.int kd)) (.sh (.int on)) (.ow (vec v)) .un) rfl ⟨rfl, [.ow h, .sh (.int (p - 1))], rfl, WF.mono (pick_ok (by omega) (by omega) T) ?_⟩)))))
    rintro r o ⟨y, h', rfl, rfl, y0, y1, T'⟩
    rw [backI (i := 0) (h' := h') rfl (fun j => by cases j <;> rfl)]
    exact wa_nil ⟨[.int 1, .int y], .d (.int (1 + y)), rfl, rfl, q (1 + y) h' (by omega) (by omega) T'⟩
  have put : ∀ (v : List Int) (h : List D) (z : Int) {nx : Env → Prop}, v.length = w → Rg p v → 0 < z → z < p → Tap g h → nx (lsF h p wi (.sh (.int kd)) (.sh (.int on)) (.ow (vec (v.set k z))) .un) → ∃ d ρ2, (B.d (.int z)).keep (lsF h p wi (.sh (.int kd)) (.sh (.int on)) (.ow (vec v)) .un) = some (d, ρ2) ∧ (∃ xs, ρ2.v[5]? = some (.ow xs)) ∧ W (evE (.var 4) ρ2) fun k ρ3 => ∃ z xs j, k.view ρ3 = some (.int z) ∧ ρ3.v[5]? = some (.ow xs) ∧ ixN xs.length z = some j ∧ nx (ρ3.setv 5 (.ow (xs.set j d))) := fun v h z {nx} hv hR z0 z1 T q =>
    ⟨.int z, lsF h p wi (.sh (.int kd)) (.sh (.int on)) (.ow (vec v)) .un, rfl, ⟨_, rfl⟩, W.of (a := .d (.int on)) rfl ⟨on, vec v, k, rfl, rfl, hix hv, by rw [vec_set]; exact q⟩⟩
  refine ws_cons (ws_ite (wt_or (W.of (a := decide (kd < 2)) (ρ := lsF h p wi (.sh (.int kd)) (.sh (.int on)) (.ow (vec (List.replicate w 0))) .un) rfl ⟨fun hk2 => ?_, fun hk2 => ?_⟩)))
  · refine ⟨fun _ => ?_, fun z => absurd z (by decide)⟩
    refine ws_cons (ws_seti (w_ite (W.of (a := decide (kd < 2)) (ρ := lsF h p wi (.sh (.int kd)) (.sh (.int on)) (.ow (vec (List.replicate w 0))) .un) rfl ⟨fun _ => W.of (a := .d (.int 1)) rfl ?_, fun z => absurd (z.symm.trans hk2) (by decide)⟩)))
    exact put _ h 1 (nx := fun ρ => WS (evSs (.cons (.ret (.prim fTuple (.cons (.var 5) (.nil)))) (.nil)) ρ) _ (SumEnd g p w) _) hrl hrR (by omega) hp1 T (ws_cons (ws_ret (fin _ h _ (good_set hrl hrR hkw (by omega) hp1) T)))
  · refine wt_eb (w_prim (W.of (a := [.d (.int wi), .d (.int 1)]) (ρ := lsF h p wi (.sh (.int kd)) (.sh (.int on)) (.ow (vec (List.replicate w 0))) .un) rfl ⟨[.int wi, .int 1], _, rfl, eq_int wi 1, _, rfl, fun hw1 => ?_, fun hw1 => ws_nil ?_⟩))
    · refine ws_cons (ws_seti (w_ite (W.of (a := decide (kd < 2)) (ρ := lsF h p wi (.sh (.int kd)) (.sh (.int on)) (.ow (vec (List.replicate w 0))) .un) rfl ⟨fun z => absurd (z.symm.trans hk2) (by decide), fun _ => val _ h T fun z h' z0 z1 T' => ?_⟩)))
      exact put _ h' z (nx := fun ρ => WS (evSs (.cons (.ret (.prim fTuple (.cons (.var 5) (.nil)))) (.nil)) ρ) _ (SumEnd g p w) _) hrl hrR z0 z1 T' (ws_cons (ws_ret (fin _ h' _ (good_set hrl hrR hkw z0 z1) T')))
    · have hw2 : 2 ≤ w := by
        have := of_decide_eq_false hw1
        omega
      refine ws_cons (ws_ite (wt_eb (w_prim (W.of (a := [.d (.int kd), .d (.int 2)]) (ρ := lsF h p wi (.sh (.int kd)) (.sh (.int on)) (.ow (vec (List.replicate w 0))) .un) rfl ⟨[.int kd, .int 2], _, rfl, eq_int kd 2, _, rfl, fun _ => ?_, fun _ => ws_nil ?_⟩))))
      · refine ws_cons (ws_seti2 (W.of (a := .d (.tup [.int 1, .int (p - 1)])) (ρ := lsF h p wi (.sh (.int kd)) (.sh (.int on)) (.ow (vec (List.replicate w 0))) .un) rfl ⟨.int 1, .int (p - 1), lsF h p wi (.sh (.int kd)) (.sh (.int on)) (.ow (vec (List.replicate w 0))) .un, rfl, ⟨_, rfl⟩, W.of (a := .d (.int on)) rfl ⟨on, vec (List.replicate w 0), k, rfl, rfl, hix hrl, ⟨_, rfl⟩, ?_⟩⟩))
        rw [vec_set]
        have hgs := good_set hrl hrR hkw (z := 1) (by omega) hp1
        generalize (List.replicate w (0:Int)).set k 1 = v1 at hgs ⊢
        show W (evE _ (lsF h p wi (.sh (.int kd)) (.sh (.int on)) (.ow (vec v1)) .un)) _
        refine w_prim (wa_cons (w_prim (wa_cons (W.of (a := .d (.int (on + 1))) (ρ := lsF h p wi (.sh (.int kd)) (.sh (.int on)) (.ow (vec v1)) .un) rfl (wa_cons (w_call (W.of (a := [.loc 0, .d (.int (wi - 1))]) (ρ := lsF h p wi (.sh (.int kd)) (.sh (.int on)) (.ow (vec v1)) .un) rfl ⟨rfl, [.ow h, .sh (.int (wi - 1))], rfl, WF.mono (pick_ok (by omega) (by omega) T) ?_⟩)))))))
        rintro r o ⟨y, h, rfl, rfl, y0, y1, T⟩
        rw [backI (i := 0) (h' := h) rfl (fun j => by cases j <;> rfl)]
        have hm : fMod [.int (on + 1 + y), .int wi] = some (.d (.int ((on + 1 + y) % wi))) := mod_ok (by omega)
        have m0 : 0 ≤ (on + 1 + y) % wi := Int.emod_nonneg _ (by omega)
        have m1 : (on + 1 + y) % wi < wi := Int.emod_lt_of_pos _ (by omega)
        refine wa_nil ⟨[.int (on + 1), .int y], .d (.int (on + 1 + y)), rfl, rfl, ?_⟩
        generalize on + 1 + y = u at hm m0 m1
        generalize u % wi = m at hm m0 m1
        obtain ⟨mn, hmn⟩ : ∃ mn : Nat, m = mn := ⟨m.toNat, by omega⟩
        refine W.of (a := [.d (.int wi)]) (ρ := lsF h p wi (.sh (.int kd)) (.sh (.int on)) (.ow (vec v1)) .un) rfl ⟨[.int u, .int wi], _, rfl, hm, m, vec v1, mn, rfl, rfl, by rw [hmn]; exact ixN_ok (by rw [vec_len, hgs.l]; omega), ?_⟩
        rw [vec_set]
        exact ws_cons (ws_ret (fin _ h _ (good_set hgs.l hgs.r (by omega) (by omega) (by omega)) T))
      · refine ws_cons (ws_asgV (w_lc (W.of (a := [.d (.int wi)]) (ρ := lsF h p wi (.sh (.int kd)) (.sh (.int on)) (.ow (vec (List.replicate w 0))) .un) rfl ⟨[.int wi], _, rfl, range1_ok (by omega) (by omega), ⟨by rw [upFrom_length, sizeLine_eq]; omega, rfl, rfl⟩, fun j acc ρ => ∃ h v, ρ = lsF h p wi (.sh (.int kd)) (.sh (.int on)) (.ow (vec (List.replicate w 0))) .un ∧ acc = vec v ∧ v.length = j ∧ Rg p v ∧ Tap g h, ⟨h, [], rfl, rfl, rfl, (fun x hx => by cases hx), T⟩, ?_, ?_⟩)))
        · rintro j x acc ρ2 hx ⟨h, v, rfl, rfl, hvl, hvR, T⟩
          obtain ⟨hj, rfl⟩ := upFrom_get _ _ _ _ hx
          generalize 0 + (j : Int) = ji
          have add : ∀ (y : Int) (h' : List D), 0 ≤ y → y < p → Tap g h' → ∃ d ρ6, (B.d (.int y)).keep (lsF h' p wi (.sh (.int kd)) (.sh (.int on)) (.ow (vec (List.replicate w 0))) (.sh (.int ji))) = some (d, ρ6) ∧ ∃ h v_1, wipeE ρ6 [6] = lsF h p wi (.sh (.int kd)) (.sh (.int on)) (.ow (vec (List.replicate w 0))) .un ∧ vec v ++ [d] = vec v_1 ∧ v_1.length = j + 1 ∧ Rg p v_1 ∧ Tap g h := fun y h' y0 y1 T' => ⟨.int y, _, rfl, h', v ++ [y], rfl, vec_app v [y], by rw [List.length_append, hvl]; rfl, rg_app hvR (fun x hx => by
            have : x = y := by simpa using hx
            omega), T'⟩
          refine ⟨lsF h p wi (.sh (.int kd)) (.sh (.int on)) (.ow (vec (List.replicate w 0))) (.sh (.int ji)), rfl, W.of (a := true) rfl ⟨fun _ => ?_, fun z => absurd z (by decide)⟩⟩
          refine w_ite (wt_eb (w_prim (wa_cons (w_call (W.of (a := [.loc 0, .d (.int 3)]) (ρ := lsF h p wi (.sh (.int kd)) (.sh (.int on)) (.ow (vec (List.replicate w 0))) (.sh (.int ji))) rfl ⟨rfl, [.ow h, .sh (.int 3)], rfl, WF.mono (pick_ok (by decide) (by decide) T) ?_⟩)))))
          rintro r o ⟨y, h, rfl, rfl, y0, y1, T⟩
          rw [backI (i := 0) (h' := h) rfl (fun j => by cases j <;> rfl)]
          refine W.of (a := [.d (.int 0)]) (ρ := lsF h p wi (.sh (.int kd)) (.sh (.int on)) (.ow (vec (List.replicate w 0))) (.sh (.int ji))) rfl ⟨[.int y, .int 0], .d (.bl (decide (y > 0))), rfl, rfl, _, rfl, fun _ => ?_, fun _ => W.of (a := .d (.int 0)) rfl (add 0 h (by omega) (by omega) T)⟩
          refine w_call (W.of (a := [.loc 0, .d (.int p)]) (ρ := lsF h p wi (.sh (.int kd)) (.sh (.int on)) (.ow (vec (List.replicate w 0))) (.sh (.int ji))) rfl ⟨rfl, [.ow h, .sh (.int p)], rfl, WF.mono (pick_ok (by omega) (by omega) T) ?_⟩)
          rintro r o ⟨y, h', rfl, rfl, y0, y1, T'⟩
          rw [backI (i := 0) (h' := h') rfl (fun j => by cases j <;> rfl)]
          exact add y h' y0 y1 T'
        · rintro acc ρ3 ⟨h, v, rfl, rfl, hvl, hvR, T⟩
          rw [upFrom_length] at hvl
          have hvw : v.length = w := by omega
          refine ⟨rfl, lsF h p wi (.sh (.int kd)) (.sh (.int on)) (.ow (vec v)) .un, rfl, ?_⟩
          refine ws_cons (ws_seti (val v h T fun z h' z0 z1 T' => ?_))
          exact put v h' z (nx := fun ρ => WS (evSs (.cons (.ret (.prim fTuple (.cons (.var 5) (.nil)))) (.nil)) ρ) _ (SumEnd g p w) _) hvw hvR z0 z1 T' (ws_cons (ws_ret (fin _ h' _ (good_set hvw hvR hkw z0 z1) T')))
end Ev

namespace Ev
open PySem L2
def PcG (p : Int) (w : Nat) (R : List Pc) : Prop := ∀ a ∈ R, Good p w a.1 ∧ 1 ≤ a.2 ∧ a.2 ≤ 1000000
def pcF (h : List D) (p wi mi mo : Int) (R : List Pc) (s6 s7 : Slot) : Env := ⟨[.ow h, .sh (.int p), .sh (.int wi), .sh (.int mi), .sh (.int mo), .ow (pcsD R), s6, s7], [.att, .un, .un, .un, .un]⟩
def PcI (g : List Int) (p wi mi mo : Int) (w j : Nat) (ρ : Env) : Prop := ∃ h R s6 s7, ρ = pcF h p wi mi mo R s6 s7 ∧ R.length = j ∧ PcG p w R ∧ Tap g h
def pcTail : Ss := match ir_law_pieces with
  | .cons _ (.cons (.for _ _ _ (.cons _ (.cons _ ss))) _) => ss
  | _ => .nil
theorem pcs_snoc (R : List Pc) (a : Pc) : pcsD R ++ [pcD a] = pcsD (R ++ [a]) := by
  unfold pcsD
  rw [List.map_append]
  rfl
theorem pc_tail {g : List Int} {h : List D} {p wi mi mo ji : Int} {w j : Nat} {R : List Pc} {v : List Int} (hmo : 0 < mo ∧ mo ≤ 1000000) (hR : R.length = j) (hj : j ≤ 100) (hG : PcG p w R) (hv : Good p w v) (T : Tap g h) {rt : B → Env → Prop} {bk : Env → Prop} :
    WS (evSs pcTail (pcF h p wi mi mo R (.sh (.int ji)) (.sh (.tup (vec v))))) (PcI g p wi mi mo w (j + 1)) rt bk := by
  refine ws_cons (ws_ex (w_mut (xs0 := pcsD R) rfl (wd_cons (w_tup (wd_cons (W.of (a := .d (.tup (vec v))) (ρ := pcF h p wi mi mo R (.sh (.int ji)) (.sh (.tup (vec v)))) rfl ⟨.tup (vec v), _, rfl, wd_cons (w_prim (wa_cons (W.of (a := .d (.int 1)) (ρ := pcF h p wi mi mo R (.sh (.int ji)) (.sh (.tup (vec v)))) rfl (wa_cons (w_call (W.of (a := [.loc 0, .d (.int mo)]) (ρ := pcF h p wi mi mo R (.sh (.int ji)) (.sh (.tup (vec v)))) rfl ⟨rfl, [.ow h, .sh (.int mo)], rfl, WF.mono (pick_ok (by omega) (by omega) T) ?_⟩))))))⟩))))))
  rintro r o ⟨y, h', rfl, rfl, y0, y1, T'⟩
  rw [backI (i := 0) (h' := h') rfl (fun j => by cases j <;> rfl)]
  refine wa_nil ⟨[.int 1, .int y], .d (.int (1 + y)), rfl, rfl, .int (1 + y), _, rfl, wd_nil ⟨by simp, .tup [.tup (vec v), .int (1 + y)], _, rfl, wd_nil ⟨pcsD R, pcsD (R ++ [(v, 1 + y)]), .non, rfl, (append_ok (by rw [pcsD_len]; omega)).trans (by rw [← pcs_snoc]; rfl), ws_nil ⟨h', R ++ [(v, 1 + y)], _, _, rfl, by rw [List.length_append, hR]; rfl, fun a ha => ?_, T'⟩⟩⟩⟩
  rcases List.mem_append.mp ha with ha | ha
  · exact hG a ha
  · have : a = (v, 1 + y) := by simpa using ha
    rw [this]
    exact ⟨hv, by show 1 ≤ 1 + y; omega, by show 1 + y ≤ 1000000; omega⟩
theorem law_pieces_ok {g : List Int} {h : List D} {p wi mi mo : Int} {w m : Nat} (hpp : p ∈ primes) (hwi : wi = w) (h1 : 1 ≤ w) (h2 : w ≤ 10) (hmi : mi = m) (hm : m ≤ 100) (hmo : 0 < mo ∧ mo ≤ 1000000) (T : Tap g h) :
    WF (F_law_pieces [.ow h, .sh (.int p), .sh (.int wi), .sh (.int mi), .sh (.int mo)]) fun r o => ∃ R h', r = .nw (pcsD R) ∧ o = [.ow h', .un, .un, .un, .un] ∧ R.length = m ∧ PcG p w R ∧ Tap g h' := by
  refine wf_fn (ws_cons (ws_asgV (w_lst (wd_nil ⟨by simp, rfl, pcF h p wi mi mo [] .un .un, rfl, ?_⟩))))
  refine ws_cons (ws_for (W.of (a := [.d (.int mi)]) (ρ := pcF h p wi mi mo [] .un .un) rfl ⟨[.int mi], upFrom mi.toNat 0, rfl, range1_ok (by omega) (by omega), PcI g p wi mi mo w, ⟨h, [], _, _, rfl, rfl, (fun a ha => by cases ha), T⟩, ?_, ?_⟩))
  · rintro j x ρ2 hx ⟨h, R, s6, s7, rfl, hR, hG, T⟩
    obtain ⟨hj, rfl⟩ := upFrom_get _ _ _ _ hx
    have hj100 : j ≤ 100 := by omega
    obtain ⟨ji, hji⟩ : ∃ ji : Int, ji = 0 + (j : Int) := ⟨_, rfl⟩
    rw [← hji]
    refine ⟨pcF h p wi mi mo R (.sh (.int ji)) s7, bnd_free rfl rfl, ?_⟩
    refine ws_cons (ws_asgV (w_call (W.of (a := [.loc 0, .d (.int p), .d (.int wi)]) (ρ := pcF h p wi mi mo R (.sh (.int ji)) s7) rfl ⟨rfl, [.ow h, .sh (.int p), .sh (.int wi)], rfl, WF.mono (law_sum_ok hpp hwi h1 h2 T) ?_⟩)))
    rintro r o ⟨s, h, rfl, rfl, hs, T⟩
    rw [backI (i := 0) (h' := h) rfl (fun j => by cases j <;> rfl)]
    refine ⟨rfl, pcF h p wi mi mo R (.sh (.int ji)) (.sh (.tup (vec s))), bnd_free rfl rfl, ?_⟩
    refine ws_cons (ws_ite (wt_and (wt_eb (w_prim (W.of (a := [.d (.int ji), .d (.int 0)]) (ρ := pcF h p wi mi mo R (.sh (.int ji)) (.sh (.tup (vec s)))) rfl ⟨[.int ji, .int 0], .d (.bl (decide (ji > 0))), rfl, rfl, _, rfl, fun hj0 => ?_, fun _ => ⟨fun z => absurd z (by decide), fun _ => ws_nil (pc_tail hmo hR hj100 hG hs T)⟩⟩)))))
    have hj0 := of_decide_eq_true hj0
    refine wt_eb (w_prim (wa_cons (w_call (W.of (a := [.loc 0, .d (.int 7)]) (ρ := pcF h p wi mi mo R (.sh (.int ji)) (.sh (.tup (vec s)))) rfl ⟨rfl, [.ow h, .sh (.int 7)], rfl, WF.mono (pick_ok (by decide) (by decide) T) ?_⟩))))
    rintro r o ⟨y, h, rfl, rfl, y0, y1, T⟩
    rw [backI (i := 0) (h' := h) rfl (fun j => by cases j <;> rfl)]
    refine W.of (a := [.d (.int 0)]) (ρ := pcF h p wi mi mo R (.sh (.int ji)) (.sh (.tup (vec s)))) rfl ⟨[.int y, .int 0], _, rfl, eq_int y 0, _, rfl, fun _ => ?_, fun _ => ws_nil (pc_tail hmo hR hj100 hG hs T)⟩
    refine ws_cons (ws_asgV (w_prim (wa_cons (w_prim (wa_cons (W.of (a := .loc 5) (ρ := pcF h p wi mi mo R (.sh (.int ji)) (.sh (.tup (vec s)))) rfl (wa_cons (w_call (W.of (a := [.loc 0, .d (.int ji)]) (ρ := pcF h p wi mi mo R (.sh (.int ji)) (.sh (.tup (vec s)))) rfl ⟨rfl, [.ow h, .sh (.int ji)], rfl, WF.mono (pick_ok (by omega) (by omega) T) ?_⟩)))))))))
    rintro r o ⟨y, h, rfl, rfl, y0, y1, T⟩
    rw [backI (i := 0) (h' := h) rfl (fun j => by cases j <;> rfl)]
    obtain ⟨k, rfl⟩ : ∃ k : Nat, y = k := ⟨y.toNat, by omega⟩
    have hk : k < R.length := by omega
    have hix := ixPL hk
    have hg := (hG _ (pcAt_mem hk)).1
    generalize pcAt R k = a at hix hg
    generalize (k : Int) = ki at hix
    refine wa_nil ⟨[.lst (pcsD R), .int ki], _, rfl, hix, ?_⟩
    refine W.of (a := [.d (.int 0)]) (ρ := pcF h p wi mi mo R (.sh (.int ji)) (.sh (.tup (vec s)))) rfl ⟨[pcD a, .int 0], .d (.tup (vec a.1)), rfl, rfl, rfl, pcF h p wi mi mo R (.sh (.int ji)) (.sh (.tup (vec a.1))), rfl, ?_⟩
    exact ws_nil (pc_tail hmo hR hj100 hG hg T)
  · rintro ρ2 ⟨h, R, s6, s7, rfl, hR, hG, T⟩
    rw [upFrom_length] at hR
    rw [unlocks0 fun i => rfl]
    refine ws_cons (ws_ret (W.of (a := .loc 5) (ρ := pcF h p wi mi mo R s6 s7) rfl ⟨.nw (pcsD R), pcF h p wi mi mo R s6 s7, rfl, R, h, rfl, rfl, by omega, hG, T⟩))
end Ev

namespace Ev
open PySem L2
def sm (R : List Pc) : List D := R.map fun a => D.tup (vec a.1)
theorem sm_eq (R : List Pc) : sm R = sumsD (R.map Prod.fst) := by
  unfold sm sumsD
  rw [List.map_map]
  rfl
def mk1 (w j : Nat) : List D := (List.range w).map fun i : Nat => D.int (if i = j then 1 else 0)
theorem mk1_eq (w j : Nat) : mk1 w j = vec (marks w j) := by
  unfold mk1 vec marks
  rw [List.map_map]
  rfl
theorem good_marks {p : Int} {w j : Nat} (hp : 1 < p) (hj : j < w) : Good p w (marks w j) := by
  refine ⟨marks_len w j, rg_marks hp w j, fun q => ?_⟩
  have := marks_at (m := w) (k := j) hj
  rw [q, rep_getD, if_pos rfl] at this
  omega
def flF (p wi z : Int) (R0 R : List Pc) (s5 s6 s7 s8 s9 s10 : Slot) : Env := ⟨[.sh (.int p), .sh (.int wi), .ow (pcsD R0), .sh (.int z), .ow (pcsD R), s5, s6, s7, s8, s9, s10], [.un, .un, .att, .un]⟩
theorem law_filled_ok {p wi z : Int} {w : Nat} {R0 : List Pc} (hpp : p ∈ primes) (hwi : wi = w) (h2 : w ≤ 10) (h0 : R0.length ≤ 30) (hG : PcG p w R0) (hz : 1 ≤ z ∧ z ≤ 1000000) :
    WF (F_law_filled [.sh (.int p), .sh (.int wi), .ow (pcsD R0), .sh (.int z)]) fun r o => ∃ R, r = .nw (pcsD R) ∧ o = [.un, .un, .ow (pcsD R0), .un] ∧ R.length ≤ 40 ∧ PcG p w R := by
  obtain ⟨hp1, hp2⟩ := primes_lt hpp
  refine wf_fn (ws_cons (ws_asgV (w_prim (W.of (a := [.loc 2]) (ρ := ⟨[.sh (.int p), .sh (.int wi), .ow (pcsD R0), .sh (.int z), .un, .un, .un, .un, .un, .un, .un], [.un, .un, .att, .un]⟩) rfl ⟨[.lst (pcsD R0)], .nw (pcsD R0), rfl, rfl, rfl, flF p wi z R0 R0 .un .un .un .un .un .un, rfl, ?_⟩))))
  refine ws_cons (ws_for (W.of (a := [.d (.int wi)]) (ρ := flF p wi z R0 R0 .un .un .un .un .un .un) rfl ⟨[.int wi], upFrom wi.toNat 0, rfl, range1_ok (by omega) (by omega), fun j ρ => ∃ R s5 s6 s7, ρ = flF p wi z R0 R s5 s6 s7 .un .un .un ∧ R.length ≤ R0.length + j ∧ PcG p w R, ⟨R0, _, _, _, rfl, Nat.le_refl _, hG⟩, ?_, ?_⟩))
  · rintro j x ρ2 hx ⟨R, s5, s6, s7, rfl, hR, hG⟩
    obtain ⟨hj, rfl⟩ := upFrom_get _ _ _ _ hx
    have hjw : j < w := by omega
    have hR40 : R.length ≤ 40 := by omega
    obtain ⟨ji, hji⟩ : ∃ ji : Int, ji = 0 + (j : Int) := ⟨_, rfl⟩
    rw [← hji]
    refine ⟨flF p wi z R0 R (.sh (.int ji)) s6 s7 .un .un .un, bnd_free rfl rfl, ?_⟩
    refine ws_cons (ws_asgV (w_prim (wa_cons (w_lcmL (l := List.range w) (g := fun i : Nat => D.int (i : Int)) (e := fun i : Nat => D.int (if i = j then 1 else 0)) (W.of (a := [.d (.int wi)]) (ρ := flF p wi z R0 R (.sh (.int ji)) s6 s7 .un .un .un) rfl ⟨[.int wi], rfl, (range1_ok (by omega) (by omega)).trans (congrArg some (up_nats hwi)), ⟨by rw [List.length_range, sizeLine_eq]; omega, rfl, rfl⟩, fun i hi => ?_, ?_⟩)))))
    · rw [locks0 fun i => rfl]
      have hii : ∀ ii : Int, ii = (i : Int) → decide (ii = ji) = decide (i = j) := fun ii e => decide_eq_decide.mpr ⟨fun h => by omega, fun h => by omega⟩
      obtain ⟨ii, e⟩ : ∃ ii : Int, ii = (i : Int) := ⟨_, rfl⟩
      have hii := hii ii e
      rw [← e]
      refine ⟨flF p wi z R0 R (.sh (.int ji)) s6 s7 .un .un (.sh (.int ii)), rfl, ?_⟩
      refine w_ite (wt_eb (w_prim (W.of (a := [.d (.int ii), .d (.int ji)]) (ρ := flF p wi z R0 R (.sh (.int ji)) s6 s7 .un .un (.sh (.int ii))) rfl ⟨[.int ii, .int ji], _, rfl, eq_int ii ji, _, rfl, fun h => ?_, fun h => ?_⟩)))
      · rw [hii] at h
        rw [if_pos (of_decide_eq_true h)]
        exact W.of (a := .d (.int 1)) (ρ := flF p wi z R0 R (.sh (.int ji)) s6 s7 .un .un (.sh (.int ii))) rfl ⟨_, rfl, rfl⟩
      · rw [hii] at h
        rw [if_neg (of_decide_eq_false h)]
        exact W.of (a := .d (.int 0)) (ρ := flF p wi z R0 R (.sh (.int ji)) s6 s7 .un .un (.sh (.int ii))) rfl ⟨_, rfl, rfl⟩
    rw [locks0 fun i => rfl, unlocks0 fun i => rfl]
    refine wa_nil ⟨[.lst (mk1 w j)], .d (.tup (mk1 w j)), rfl, rfl, rfl, flF p wi z R0 R (.sh (.int ji)) (.sh (.tup (mk1 w j))) s7 .un .un .un, bnd_free rfl rfl, ?_⟩
    rw [mk1_eq]
    have hgm := good_marks (p := p) hp1 hjw
    generalize marks w j = u at hgm
    refine ws_cons (ws_asgV (w_lcmL (l := R) (g := pcD) (e := fun a => D.tup (vec a.1)) (W.of (a := [.loc 4]) (ρ := flF p wi z R0 R (.sh (.int ji)) (.sh (.tup (vec u))) s7 .un .un .un) rfl ⟨[.lst (pcsD R)], rfl, rfl, ⟨by rw [sizeLine_eq]; omega, rfl, rfl⟩, fun a ha => ?_, ?_⟩)))
    · rw [locks1 (xs := pcsD R) rfl]
      refine ⟨⟨[.sh (.int p), .sh (.int wi), .ow (pcsD R0), .sh (.int z), .lk (pcsD R), .sh (.int ji), .sh (.tup (vec u)), s7, .sh (.tup (vec a.1)), .sh (.int a.2), .un], [.un, .un, .att, .un]⟩, set_t2 rfl rfl rfl rfl, ?_⟩
      exact W.of (a := .d (.tup (vec a.1))) (ρ := ⟨[.sh (.int p), .sh (.int wi), .ow (pcsD R0), .sh (.int z), .lk (pcsD R), .sh (.int ji), .sh (.tup (vec u)), s7, .sh (.tup (vec a.1)), .sh (.int a.2), .un], [.un, .un, .att, .un]⟩) rfl ⟨_, rfl, rfl⟩
    rw [locks1 (xs := pcsD R) rfl, unlocks1 (xs := pcsD R) (ys := pcsD R) rfl rfl]
    show _ ∧ ∃ ρ3, bindB _ 7 (.nw (sm R)) = some ρ3 ∧ _
    rw [sm_eq]
    refine ⟨rfl, flF p wi z R0 R (.sh (.int ji)) (.sh (.tup (vec u))) (.ow (sumsD (R.map Prod.fst))) .un .un .un, bnd_free rfl rfl, ?_⟩
    have hS : ∀ s ∈ R.map Prod.fst, s.length = w ∧ Rg p s := fun s hs => by
      obtain ⟨a, ha, rfl⟩ := List.mem_map.mp hs
      exact ⟨(hG a ha).1.l, (hG a ha).1.r⟩
    have hSn : (R.map Prod.fst).length ≤ 40 := by rw [List.length_map]; exact hR40
    generalize R.map Prod.fst = S at hS hSn
    have hS1 : ∀ s ∈ S ++ [u], s.length = w ∧ Rg p s := fun s hs => by
      rcases List.mem_append.mp hs with hs | hs
      · exact hS s hs
      · have : s = u := by simpa using hs
        rw [this]
        exact ⟨hgm.l, hgm.r⟩
    have hadd : fAdd [.lst (sumsD S), .lst [.tup (vec u)]] = some (.nw (sumsD (S ++ [u]))) := by
      rw [add_lst (by rw [sumsD_len]; show S.length + 1 ≤ _; omega)]
      unfold sumsD
      rw [List.map_append]
      rfl
    have hap : mAppend (pcsD R) [.tup [.tup (vec u), .int z]] = some (pcsD (R ++ [(u, z)]), .non) := (append_ok (by rw [pcsD_len]; omega)).trans (by rw [← pcs_snoc]; rfl)
    refine ws_cons (ws_ite (wt_eb (w_prim (wa_cons (w_call (wa_cons (W.of (a := .d (.int p)) (ρ := flF p wi z R0 R (.sh (.int ji)) (.sh (.tup (vec u))) (.ow (sumsD S)) .un .un .un) rfl (wa_cons (w_prim (W.of (a := [.loc 7, .nw [.tup (vec u)]]) (ρ := flF p wi z R0 R (.sh (.int ji)) (.sh (.tup (vec u))) (.ow (sumsD S)) .un .un .un) rfl ⟨[.lst (sumsD S), .lst [.tup (vec u)]], _, rfl, hadd, wa_nil ⟨rfl, [.sh (.int p), .ow (sumsD (S ++ [u]))], rfl, WF.mono (law_rank_ri hpp (by omega) (by rw [List.length_append]; show S.length + 1 ≤ _; omega) hS1) ?_⟩⟩))))))))))
    rintro r o ⟨rfl, A, RR, rfl, _⟩
    rw [back0 fun i => rfl]
    generalize ((RR.length : Nat) : Int) = r1
    refine wa_cons (w_call (W.of (a := [.d (.int p), .loc 7]) (ρ := flF p wi z R0 R (.sh (.int ji)) (.sh (.tup (vec u))) (.ow (sumsD S)) .un .un .un) rfl ⟨rfl, [.sh (.int p), .ow (sumsD S)], rfl, WF.mono (law_rank_ri hpp (by omega) (by omega) hS) ?_⟩))
    rintro r o ⟨rfl, A, RR, rfl, _⟩
    rw [backI (i := 7) (h' := sumsD S) rfl (fun j => by rcases j with _ | _ | _ | _ | _ | _ | _ | _ | j <;> rfl)]
    generalize ((RR.length : Nat) : Int) = r2
    refine wa_nil ⟨[.int r1, .int r2], .d (.bl (decide (r1 > r2))), rfl, rfl, _, rfl, fun _ => ?_, fun _ => ?_⟩
    · refine ws_cons (ws_ex (w_mut (xs0 := pcsD R) rfl (W.of (a := [.tup [.tup (vec u), .int z]]) (ρ := flF p wi z R0 R (.sh (.int ji)) (.sh (.tup (vec u))) (.ow (sumsD S)) .un .un .un) rfl ⟨pcsD R, _, .non, rfl, hap, ?_⟩)))
      refine ws_nil (ws_nil ⟨R ++ [(u, z)], _, _, _, rfl, by rw [List.length_append]; show R.length + 1 ≤ _; omega, fun a ha => ?_⟩)
      rcases List.mem_append.mp ha with ha | ha
      · exact hG a ha
      · have : a = (u, z) := by simpa using ha
        rw [this]
        exact ⟨hgm, hz⟩
    · exact ws_nil (ws_nil ⟨R, _, _, _, rfl, by omega, hG⟩)
  · rintro ρ2 ⟨R, s5, s6, s7, rfl, hR, hG⟩
    rw [upFrom_length] at hR
    rw [unlocks0 fun i => rfl]
    exact ws_cons (ws_ret (W.of (a := .loc 4) (ρ := flF p wi z R0 R s5 s6 s7 .un .un .un) rfl ⟨.nw (pcsD R), flF p wi z R0 R s5 s6 s7 .un .un .un, rfl, R, rfl, rfl, by omega, hG⟩))
end Ev

namespace Ev
open PySem L2
def grF (h : List D) (mo : Int) (s2 s3 s4 : Slot) : Env := ⟨[.ow h, .sh (.int mo), s2, s3, s4], [.att, .un]⟩
theorem law_great_ok {g : List Int} {h : List D} {mo : Int} (hmo : 0 < mo ∧ mo ≤ 30) (T : Tap g h) :
    WF (F_law_great [.ow h, .sh (.int mo)]) fun r o => ∃ p wi w P h', r = .d (toldD p wi P) ∧ o = [.ow h', .un] ∧ p ∈ primes ∧ wi = ((w : Nat) : Int) ∧ 1 ≤ w ∧ w ≤ 10 ∧ Pcs p w P ∧ Tap g h' := by
  refine wf_fn (ws_cons (ws_par (w_call (wa_cons (W.of (a := .loc 0) (ρ := grF h mo .un .un .un) rfl (wa_cons (w_lst (W.of (a := [.int 2, .int 3, .int 5, .int 7, .int 13, .int 251]) (ρ := grF h mo .un .un .un) rfl ⟨by simp, wa_nil ⟨rfl, [.ow h, .ow [.int 2, .int 3, .int 5, .int 7, .int 13, .int 251]], rfl, WF.mono (any_ok .ow (by simp) (by simp) T) ?_⟩⟩))))))))
  rintro r o ⟨d, h, rfl, rfl, hd, T⟩
  rw [backI (i := 0) (h' := h) rfl (fun j => by rcases j with _ | _ | j <;> rfl)]
  obtain ⟨p, rfl, hpp⟩ : ∃ p : Int, d = .int p ∧ p ∈ primes := by
    simp only [List.mem_cons, List.not_mem_nil, or_false] at hd
    rcases hd with rfl | rfl | rfl | rfl | rfl | rfl <;> exact ⟨_, rfl, by decide⟩
  refine w_prim (wa_cons (W.of (a := .d (.int 1)) (ρ := grF h mo .un .un .un) rfl (wa_cons (w_call (W.of (a := [.loc 0, .d (.int 10)]) (ρ := grF h mo .un .un .un) rfl ⟨rfl, [.ow h, .sh (.int 10)], rfl, WF.mono (pick_ok (by decide) (by decide) T) ?_⟩)))))
  rintro r o ⟨y, h, rfl, rfl, y0, y1, T⟩
  rw [backI (i := 0) (h' := h) rfl (fun j => by cases j <;> rfl)]
  refine wa_nil ⟨[.int 1, .int y], .d (.int (1 + y)), rfl, rfl, ?_⟩
  obtain ⟨w, hw⟩ : ∃ w : Nat, 1 + y = w := ⟨(1 + y).toNat, by omega⟩
  have h1 : 1 ≤ w := by omega
  have h2 : w ≤ 10 := by omega
  generalize 1 + y = wi at hw
  refine ⟨.d (.int p), grF h mo .un .un .un, .d (.int wi), grF h mo .un .un .un, grF h mo (.sh (.int p)) .un .un, grF h mo (.sh (.int p)) (.sh (.int wi)) .un, rfl, rfl, rfl, rfl, ?_⟩
  -- the pieces
  refine ws_cons (ws_asgV (w_call (wa_cons (W.of (a := .loc 0) (ρ := grF h mo (.sh (.int p)) (.sh (.int wi)) .un) rfl (wa_cons (W.of (a := .d (.int p)) (ρ := grF h mo (.sh (.int p)) (.sh (.int wi)) .un) rfl (wa_cons (W.of (a := .d (.int wi)) (ρ := grF h mo (.sh (.int p)) (.sh (.int wi)) .un) rfl (wa_cons (w_prim (wa_cons (W.of (a := .d (.int 1)) (ρ := grF h mo (.sh (.int p)) (.sh (.int wi)) .un) rfl (wa_cons (w_call (W.of (a := [.loc 0, .d (.int mo)]) (ρ := grF h mo (.sh (.int p)) (.sh (.int wi)) .un) rfl ⟨rfl, [.ow h, .sh (.int mo)], rfl, WF.mono (pick_ok (by omega) (by omega) T) ?_⟩)))))))))))))))
  rintro r o ⟨y, h, rfl, rfl, z0, z1, T⟩
  rw [backI (i := 0) (h' := h) rfl (fun j => by cases j <;> rfl)]
  refine wa_nil ⟨[.int 1, .int y], .d (.int (1 + y)), rfl, rfl, ?_⟩
  obtain ⟨m, hm⟩ : ∃ m : Nat, 1 + y = m := ⟨(1 + y).toNat, by omega⟩
  have hm30 : m ≤ 30 := by omega
  generalize 1 + y = mi at hm
  refine wa_cons (w_call (wa_cons (W.of (a := .loc 0) (ρ := grF h mo (.sh (.int p)) (.sh (.int wi)) .un) rfl (wa_cons (w_lst (W.of (a := [.int 1, .int 3, .int 9, .int 1000000]) (ρ := grF h mo (.sh (.int p)) (.sh (.int wi)) .un) rfl ⟨by simp, wa_nil ⟨rfl, [.ow h, .ow [.int 1, .int 3, .int 9, .int 1000000]], rfl, WF.mono (any_ok .ow (by simp) (by simp) T) ?_⟩⟩))))))
  rintro r o ⟨d, h, rfl, rfl, hd, T⟩
  rw [backI (i := 0) (h' := h) rfl (fun j => by rcases j with _ | _ | j <;> rfl)]
  obtain ⟨mz, rfl, hmz⟩ : ∃ mz : Int, d = .int mz ∧ 0 < mz ∧ mz ≤ 1000000 := by
    simp only [List.mem_cons, List.not_mem_nil, or_false] at hd
    rcases hd with rfl | rfl | rfl | rfl <;> exact ⟨_, rfl, by decide⟩
  refine wa_nil ⟨rfl, [.ow h, .sh (.int p), .sh (.int wi), .sh (.int mi), .sh (.int mz)], rfl, WF.mono (law_pieces_ok hpp hw h1 h2 hm (by omega) hmz T) ?_⟩
  rintro r o ⟨R, h, rfl, rfl, hR, hG, T⟩
  rw [backI (i := 0) (h' := h) rfl (fun j => by cases j <;> rfl)]
  refine ⟨rfl, grF h mo (.sh (.int p)) (.sh (.int wi)) (.ow (pcsD R)), rfl, ?_⟩
  refine ws_cons (ws_ret (w_tup (wd_cons (W.of (a := .d (.int p)) (ρ := grF h mo (.sh (.int p)) (.sh (.int wi)) (.ow (pcsD R))) rfl ⟨.int p, _, rfl, wd_cons (W.of (a := .d (.int wi)) (ρ := grF h mo (.sh (.int p)) (.sh (.int wi)) (.ow (pcsD R))) rfl ⟨.int wi, _, rfl, wd_cons (w_call (wa_cons (W.of (a := .d (.int p)) (ρ := grF h mo (.sh (.int p)) (.sh (.int wi)) (.ow (pcsD R))) rfl (wa_cons (W.of (a := .d (.int wi)) (ρ := grF h mo (.sh (.int p)) (.sh (.int wi)) (.ow (pcsD R))) rfl (wa_cons (W.of (a := .loc 4) (ρ := grF h mo (.sh (.int p)) (.sh (.int wi)) (.ow (pcsD R))) rfl (wa_cons (w_prim (wa_cons (W.of (a := .d (.int 1)) (ρ := grF h mo (.sh (.int p)) (.sh (.int wi)) (.ow (pcsD R))) rfl (wa_cons (w_call (W.of (a := [.loc 0, .d (.int 9)]) (ρ := grF h mo (.sh (.int p)) (.sh (.int wi)) (.ow (pcsD R))) rfl ⟨rfl, [.ow h, .sh (.int 9)], rfl, WF.mono (pick_ok (by decide) (by decide) T) ?_⟩))))))))))))))⟩)⟩))))
  rintro r o ⟨y, h, rfl, rfl, u0, u1, T⟩
  rw [backI (i := 0) (h' := h) rfl (fun j => by cases j <;> rfl)]
  refine wa_nil ⟨[.int 1, .int y], .d (.int (1 + y)), rfl, rfl, ?_⟩
  have hz : 1 ≤ 1 + y ∧ 1 + y ≤ 1000000 := by omega
  generalize 1 + y = z at hz
  refine wa_nil ⟨rfl, [.sh (.int p), .sh (.int wi), .ow (pcsD R), .sh (.int z)], rfl, WF.mono (law_filled_ok hpp hw h2 (by omega) hG hz) ?_⟩
  rintro r o ⟨R', rfl, rfl, hR', hG'⟩
  rw [backI (i := 4) (h' := pcsD R) rfl (fun j => by rcases j with _ | _ | _ | _ | _ | j <;> rfl)]
  refine ⟨.lst (pcsD R'), grF h mo (.sh (.int p)) (.sh (.int wi)) (.ow (pcsD R)), rfl, wd_nil ⟨by simp, .d (toldD p wi R'), grF h mo (.sh (.int p)) (.sh (.int wi)) (.ow (pcsD R)), rfl, p, wi, w, R', h, rfl, rfl, hpp, hw, h1, h2, ⟨hR', fun a ha => (hG' a ha).1, fun a ha => (hG' a ha).2⟩, T⟩⟩
end Ev

namespace Ev
open PySem L2
section
variable {p : Int} {w : Nat} {P : List Pc}
/-- one of a relation is made of those that stand with it -/
theorem rel_mk {L M : List Nat} {c : List Int} {m : Nat} (hpp : p ∈ primes) (hc : Nou p w (picks P L) c) (hm : m < L.length) (hz : co c m ≠ 0) (h : ∀ j, j < L.length → j ≠ m → co c j = 0 ∨ L.getD j 0 ∈ M) : Mk' p w P M (L.getD m 0) := by
  obtain ⟨hp1, hp2⟩ := primes_lt hpp
  obtain ⟨n, hn⟩ : ∃ n, L.length = n + 1 := ⟨L.length - 1, by omega⟩
  have hsk : ∀ k, k < n → Lin.skip m k < L.length ∧ Lin.skip m k ≠ m := fun k hk => by
    unfold Lin.skip
    by_cases z : k < m
    · rw [if_pos z]; omega
    · rw [if_neg z]; omega
  obtain ⟨hc0, hc1⟩ := hc.r.at (j := m) (by rw [hc.l, picks_len]; exact hm)
  obtain ⟨t, ht⟩ := prime_inv hpp (co c m) (ndv hz hc0 hc1)
  have hs := sp_sumz (p := p) (w := w) (s := fun k => row (picks P L) (Lin.skip m k)) (T := Lin.Pre (row (picks P M)) M.length) (e := fun k => co c (Lin.skip m k)) (m := n) fun k hk => by
    obtain ⟨a, b⟩ := hsk k hk
    rcases h _ a b with z | z
    · exact .inl z
    · right
      obtain ⟨i, hi, e2⟩ := picks_mem (P := P) z
      show Lin.Pre _ _ (row (picks P L) (Lin.skip m k))
      rw [row_picks a]
      exact ⟨i, hi, e2⟩
  refine (Lin.Sp.smul (-t) hs).congr fun i hi => ?_
  have a := hc.e i hi
  rw [picks_len, hn, Lin.sum_skip (k0 := m) (by omega), row_picks hm] at a
  have b := Lin.dvMul t a
  have d := Lin.dvMul (co (pcAt P (L.getD m 0)).1 i) ht
  generalize co (pcAt P (L.getD m 0)).1 i = v at *
  show p ∣ v - -t * Lin.sumTo n (fun k => co c (Lin.skip m k) * row (picks P L) (Lin.skip m k) i)
  generalize Lin.sumTo n (fun k => co c (Lin.skip m k) * row (picks P L) (Lin.skip m k) i) = u at *
  generalize co c m = cj at *
  rw [Int.mul_add] at b
  rw [Int.mul_sub, Int.mul_one] at d
  have e3 : v * (t * cj) = t * (cj * v) := by rw [Int.mul_left_comm, Int.mul_comm v]
  rw [e3] at d
  rw [Int.neg_mul]
  exact Lin.dvOf (Lin.dvSub b d) (by omega)
theorem nodup_perm {L M : List Nat} (a : L.Nodup) (b : M.Nodup) (h : ∀ k, k ∈ L ↔ k ∈ M) : L.Perm M := (List.perm_ext_iff_of_nodup a b).mpr h
/-- what lies in a lot that stands alone stands alone -/
theorem ind_sub {L M : List Nat} (hpp : p ∈ primes) (h2 : w ≤ 10) (hP : Pcs p w P) (hL : L.length ≤ 100) (hin : ∀ k ∈ L, k < P.length) (hd : L.Nodup) (hM : M.Nodup) (hs : ∀ k ∈ M, k ∈ L) (hk : rk p w P L = L.length) : rk p w P M = M.length := by
  have hp : L.Perm (M ++ L.filter fun k => !decide (k ∈ M)) := by
    refine nodup_perm hd (List.nodup_append.mpr ⟨hM, hd.filter _, fun a ha b hb e => ?_⟩) fun k => ⟨fun h => ?_, fun h => ?_⟩
    · have := (List.mem_filter.mp hb).2
      rw [← e] at this
      simp [ha] at this
    · by_cases z : k ∈ M
      · exact List.mem_append_left _ z
      · exact List.mem_append_right _ (List.mem_filter.mpr ⟨h, by simp [z]⟩)
    · rcases List.mem_append.mp h with h | h
      · exact hs k h
      · exact (List.mem_filter.mp h).1
  have e := rk_perm hpp h2 hP hL hin hp
  rw [hk, hp.length_eq] at e
  generalize L.filter (fun k => !decide (k ∈ M)) = R at e
  refine rk_full.mpr fun j hj => ?_
  refine tk_congr (fun i hi => ?_) (rk_full.mp e.symm j (by rw [List.length_append]; omega))
  rw [row_picks (by rw [List.length_append]; omega), row_picks (by omega), List.getD_eq_getElem?_getD, List.getD_eq_getElem?_getD, List.getElem?_append_left (by omega)]
structure Circ (p : Int) (w : Nat) (P : List Pc) (rs : List Nat) : Prop where
  lot : IsLot P.length rs
  dep : rk p w P rs < rs.length
  ind : ∀ k ∈ rs, rk p w P (dropK rs k) = (dropK rs k).length
noncomputable def rfl' (p : Int) (w : Nat) (P : List Pc) (l : List Nat) (x : Nat) : List Nat := l.filter fun k => decide (rk p w P (dropK l k ++ [x]) = l.length)
theorem lot_nodup {m : Nat} {l : List Nat} (h : IsLot m l) : l.Nodup := h.up.imp fun h => by omega
theorem drop_nodup {l : List Nat} (h : l.Nodup) (k : Nat) : (dropK l k).Nodup := h.filter _
theorem mem_drop {l : List Nat} {k y : Nat} : y ∈ dropK l k ↔ y ∈ l ∧ y ≠ k := by
  unfold dropK
  rw [List.mem_filter]
  exact ⟨fun ⟨a, b⟩ => ⟨a, by simpa using b⟩, fun ⟨a, b⟩ => ⟨a, by simpa using b⟩⟩
theorem snoc_nodup {l : List Nat} {x : Nat} (h : l.Nodup) (hx : x ∉ l) : (l ++ [x]).Nodup := List.nodup_append.mpr ⟨h, by simp, fun a ha b hb e => by
  have : b = x := by simpa using hb
  exact hx (by rw [← this, ← e]; exact ha)⟩
theorem circ_of {l : List Nat} {x : Nat} {c : List Int} (hpp : p ∈ primes) (h2 : w ≤ 10) (hP : Pcs p w P) (hl : IsLot P.length l) (hx : x < P.length) (hxl : x ∉ l) (hk : rk p w P l = l.length) (hc : Nou p w (picks P (l ++ [x])) c) (h1 : co c l.length = 1) : Circ p w P (srtN (rfl' p w P l x ++ [x])) := by
  have hl40 := lot_len hP.n hl
  have hnd := lot_nodup hl
  have hFs : ∀ k ∈ rfl' p w P l x, k ∈ l := fun k hk => (List.mem_filter.mp hk).1
  have hFn : (rfl' p w P l x).Nodup := hnd.filter _
  have hFx : x ∉ rfl' p w P l x := fun h => hxl (hFs x h)
  have hFi := ind_sub hpp h2 hP (by omega) hl.lt hnd hFn hFs hk
  have hFl : (rfl' p w P l x).length ≤ 40 := Nat.le_trans (List.length_filter_le _ _) hl40
  have hin : ∀ k ∈ rfl' p w P l x ++ [x], k < P.length := fun k hk => by
    rcases List.mem_append.mp hk with hk | hk
    · exact hl.lt k (hFs k hk)
    · have : k = x := by simpa using hk
      rw [this]; exact hx
  have hsn := snoc_nodup hFn hFx
  have hlen : (rfl' p w P l x ++ [x]).length = (rfl' p w P l x).length + 1 := by rw [List.length_append]; rfl
  have hlot := srtN_lot hsn hin
  have hpm := srtN_perm (rfl' p w P l x ++ [x])
  refine ⟨hlot, ?_, fun k hkm => ?_⟩
  · rw [hpm.length_eq, ← rk_perm hpp h2 hP (by omega) hin hpm.symm, hlen]
    have hmk : Mk' p w P (rfl' p w P l x) ((l ++ [x]).getD l.length 0) := rel_mk hpp hc (by rw [List.length_append]; simp) (by rw [h1]; omega) fun j hj hjm => by
      have hjl : j < l.length := by
        rw [List.length_append] at hj
        have hj : j < l.length + 1 := hj
        omega
      by_cases z : co c j = 0
      · exact .inl z
      · right
        rw [List.getD_eq_getElem?_getD, List.getElem?_append_left hjl, ← List.getD_eq_getElem?_getD]
        exact List.mem_filter.mpr ⟨getD_mem0 hjl, decide_eq_true ((ring_iff hpp h2 hP hnd (by omega) hl.lt hx hk hc h1 hjl).mpr z)⟩
    rw [List.getD_eq_getElem?_getD, List.getElem?_append_right (Nat.le_refl _), Nat.sub_self] at hmk
    have hmk : Mk' p w P (rfl' p w P l x) x := hmk
    have : ¬ rk p w P (rfl' p w P l x ++ [x]) = (rfl' p w P l x).length + 1 := fun q => (rk_snoc hFi).mp q hmk
    have hle := rk_le p w P (rfl' p w P l x ++ [x])
    rw [hlen] at hle
    omega
  · have hdn := drop_nodup (lot_nodup hlot) k
    have hmem : ∀ y, y ∈ dropK (srtN (rfl' p w P l x ++ [x])) k → y ≠ k ∧ (y ∈ rfl' p w P l x ∨ y = x) := fun y hy => by
      obtain ⟨a, b⟩ := mem_drop.mp hy
      refine ⟨b, ?_⟩
      rcases List.mem_append.mp (hpm.mem_iff.mp a) with h | h
      · exact .inl h
      · exact .inr (by simpa using h)
    rcases List.mem_append.mp (hpm.mem_iff.mp hkm) with hkF | hkx
    · have hq := of_decide_eq_true (List.mem_filter.mp hkF).2
      have hkl := hFs k hkF
      have hd1 := drop_len1 hnd hkl
      have hxd : x ∉ dropK l k := fun h => hxl (mem_drop.mp h).1
      refine ind_sub hpp h2 hP (L := dropK l k ++ [x]) (by rw [List.length_append]; show (dropK l k).length + 1 ≤ 100; omega) (fun y hy => ?_) (snoc_nodup (drop_nodup hnd k) hxd) hdn (fun y hy => ?_) (by rw [hq, List.length_append]; exact hd1.symm)
      · rcases List.mem_append.mp hy with hy | hy
        · exact hl.lt y (mem_drop.mp hy).1
        · have : y = x := by simpa using hy
          rw [this]; exact hx
      · obtain ⟨a, b | b⟩ := hmem y hy
        · exact List.mem_append_left _ (mem_drop.mpr ⟨hFs y b, a⟩)
        · rw [b]; simp
    · have hkx : k = x := by simpa using hkx
      refine ind_sub hpp h2 hP (L := l) (by omega) hl.lt hnd hdn (fun y hy => ?_) hk
      obtain ⟨a, b | b⟩ := hmem y hy
      · exact hFs y b
      · exact absurd (b.trans hkx.symm) a
theorem circ_full {rs : List Nat} {c : List Int} {m : Nat} (hpp : p ∈ primes) (h2 : w ≤ 10) (hP : Pcs p w P) (h : Circ p w P rs) (hc : Nou p w (picks P rs) c) (hm : m < rs.length) (h1 : co c m = 1) : ∀ j, j < rs.length → co c j ≠ 0 := by
  intro j hj hz
  have hl40 := lot_len hP.n h.lot
  have hnd := lot_nodup h.lot
  have hjm : j ≠ m := fun e => by rw [e, h1] at hz; omega
  have hat : ∀ a b, a < rs.length → b < rs.length → a ≠ b → rs.getD a 0 ≠ rs.getD b 0 := fun a b ha hb hab e => by
    rw [List.getD_eq_getElem?_getD, List.getD_eq_getElem?_getD, List.getElem?_eq_getElem ha, List.getElem?_eq_getElem hb] at e
    exact hab ((List.getElem_inj hnd).mp e)
  have hD := h.ind _ (getD_mem0 hj)
  have hDn := drop_nodup hnd (rs.getD j 0)
  have hDl := drop_len1 hnd (getD_mem0 hj)
  have hDin : ∀ k ∈ dropK rs (rs.getD j 0), k < P.length := fun k hk => h.lot.lt k (mem_drop.mp hk).1
  have hmD : rs.getD m 0 ∈ dropK rs (rs.getD j 0) := mem_drop.mpr ⟨getD_mem0 hm, hat m j hm hj hjm.symm⟩
  have hmk := rel_mk (M := dropK (dropK rs (rs.getD j 0)) (rs.getD m 0)) hpp hc hm (by rw [h1]; omega) fun i hi him => by
    by_cases z : i = j
    · rw [z]; exact .inl hz
    · exact .inr (mem_drop.mpr ⟨mem_drop.mpr ⟨getD_mem0 hi, hat i j hi hj z⟩, hat i m hi hm him⟩)
  generalize dropK rs (rs.getD j 0) = D at hD hDn hDl hDin hmD hmk
  generalize rs.getD m 0 = km at hmD hmk
  have hi := ind_sub hpp h2 hP (by omega) hDin hDn (drop_nodup hDn km) (fun k hk => (mem_drop.mp hk).1) hD
  have hp : D.Perm (dropK D km ++ [km]) := nodup_perm hDn (snoc_nodup (drop_nodup hDn km) fun h => (mem_drop.mp h).2 rfl) fun k => ⟨fun h => by
    by_cases z : k = km
    · rw [z]; simp
    · exact List.mem_append_left _ (mem_drop.mpr ⟨h, z⟩), fun h => by
    rcases List.mem_append.mp h with h | h
    · exact (mem_drop.mp h).1
    · have : k = km := by simpa using h
      rw [this]; exact hmD⟩
  have e := rk_perm hpp h2 hP (by omega) hDin hp
  rw [hD, hp.length_eq, List.length_append] at e
  exact (rk_snoc hi).mp e.symm hmk
/-- with one piece more there is no relation that uses all -/
theorem circ_with {rs : List Nat} {c : List Int} {k y : Nat} (hpp : p ∈ primes) (h2 : w ≤ 10) (hP : Pcs p w P) (h : Circ p w P rs) (hk : k ∈ rs) (hy : y < P.length) (hyr : y ∉ rs) (hi : rk p w P (dropK rs k ++ [y]) = rs.length) (hc : Nou p w (picks P (srtN (rs ++ [y]))) c) : ∃ j, j < c.length ∧ co c j = 0 := by
  apply Classical.byContradiction
  intro hno
  have hl40 := lot_len hP.n h.lot
  have hnd := lot_nodup h.lot
  have hpm := srtN_perm (rs ++ [y])
  have hlen : (rs ++ [y]).length = rs.length + 1 := by rw [List.length_append]; rfl
  have hin : ∀ k ∈ rs ++ [y], k < P.length := fun k hk => by
    rcases List.mem_append.mp hk with hk | hk
    · exact h.lot.lt k hk
    · have : k = y := by simpa using hk
      rw [this]; exact hy
  have hsn := snoc_nodup hnd hyr
  have hlot := srtN_lot hsn hin
  obtain ⟨m, hm, e⟩ := List.getElem_of_mem (hpm.mem_iff.mpr (show y ∈ rs ++ [y] by simp))
  have e2 : (srtN (rs ++ [y])).getD m 0 = y := by rw [List.getD_eq_getElem?_getD, List.getElem?_eq_getElem hm]; exact e
  have hmk := rel_mk (M := rs) hpp hc hm (fun z => hno ⟨m, by rw [hc.l, picks_len]; exact hm, z⟩) fun j hj hjm => by
    right
    have hmem := hpm.mem_iff.mp (getD_mem0 hj)
    rcases List.mem_append.mp hmem with q | q
    · exact q
    · exfalso
      have q : (srtN (rs ++ [y])).getD j 0 = y := by simpa using q
      have q := q.trans e2.symm
      rw [List.getD_eq_getElem?_getD, List.getD_eq_getElem?_getD, List.getElem?_eq_getElem hm, List.getElem?_eq_getElem hj] at q
      exact hjm ((List.getElem_inj (lot_nodup hlot)).mp q)
  rw [e2] at hmk
  have a := rk_mono hpp h2 hP (l := rs ++ [y]) (m := rs) (by omega) hin (by omega) h.lot.lt fun k hk => by
    rcases List.mem_append.mp hk with hk | hk
    · exact mk_mem hk
    · have : k = y := by simpa using hk
      rw [this]; exact hmk
  have hd1 := drop_len1 hnd hk
  have b := rk_mono hpp h2 hP (l := dropK rs k ++ [y]) (m := rs ++ [y]) (by rw [List.length_append]; show (dropK rs k).length + 1 ≤ 100; omega) (fun z hz => by
    rcases List.mem_append.mp hz with hz | hz
    · exact h.lot.lt z (mem_drop.mp hz).1
    · have : z = y := by simpa using hz
      rw [this]; exact hy) (by omega) hin fun z hz => by
    refine mk_mem ?_
    rcases List.mem_append.mp hz with hz | hz
    · exact List.mem_append_left _ (mem_drop.mp hz).1
    · exact List.mem_append_right _ hz
  have := h.dep
  omega
end
end Ev

namespace Ev
open PySem L2
theorem in_vec (z : Int) (L : List Int) : fInM [.int z, .tup (vec L)] = some (.d (.bl (decide (z ∈ L)))) := by
  have h1 : inI z L = decide (z ∈ L) := by
    unfold inI
    by_cases h : z ∈ L
    · rw [decide_eq_true h, List.any_eq_true]
      exact ⟨z, h, decide_eq_true rfl⟩
    · rw [decide_eq_false h, List.any_eq_false]
      intro k hk q
      exact h (by rw [← (of_decide_eq_true q : k = z)]; exact hk)
  have h2 : inT? (.int z) (.tup (vec L)) = some (decide (z ∈ L)) := by
    show (match nums (vec L) with | some ns => some (inI z ns) | none => none) = _
    rw [nums_vec]
    show some _ = _
    rw [h1]
  show (match inM? (.int z) (.tup (vec L)) with | some k => some (RB.d (.bl k)) | none => none) = _
  unfold inM?
  rw [h2]
theorem width_nil : WF (F_width_of [.sh (.tup (sumsD []))]) fun r o => r = .d (.int 0) ∧ o = [.un] := by
  refine wf_fn (ws_cons (ws_ite (wt_eb (w_prim (wa_cons (w_prim (W.of (a := [.d (.tup (sumsD []))]) (ρ := ⟨[.sh (.tup (sumsD []))], [.un]⟩) rfl ⟨[.tup (sumsD [])], .d (.int 0), rfl, rfl, ?_⟩)))))))
  refine W.of (a := [.d (.int 0)]) (ρ := ⟨[.sh (.tup (sumsD []))], [.un]⟩) rfl ⟨[.int 0, .int 0], .d (.bl true), rfl, eq_int 0 0, true, rfl, fun _ => ?_, fun z => absurd z (by decide)⟩
  exact ws_cons (ws_ret (W.of (a := .d (.int 0)) (ρ := ⟨[.sh (.tup (sumsD []))], [.un]⟩) rfl ⟨.d (.int 0), _, rfl, rfl, rfl⟩))
section
variable {p wi : Int} {w : Nat} {P : List Pc}
theorem nought_lot {L : List Nat} (hpp : p ∈ primes) (h2 : w ≤ 10) (hP : Pcs p w P) (hd : L.Nodup) (hin : ∀ k ∈ L, k < P.length) :
    WF (F_nought_of [.sh (.int p), .sh (.tup (sumsD (picks P L)))]) fun r o => o = [.un, .un] ∧ NouEnd p w (picks P L) r := by
  have hl : L.length ≤ 40 := by
    have := lot_len hP.n (srtN_lot hd hin)
    rw [(srtN_perm L).length_eq] at this
    exact this
  have hg : ∀ s ∈ picks P L, Good p w s := fun s hs => by
    unfold picks at hs
    obtain ⟨k, hk, rfl⟩ := List.mem_map.mp hs
    exact hP.g _ (pcAt_mem (hin k hk))
  have hS : ∀ s ∈ picks P L, s.length = w ∧ Rg p s := fun s hs => ⟨(hg s hs).l, (hg s hs).r⟩
  have hn : (picks P L).length ≤ 40 := by rw [picks_len]; exact hl
  generalize picks P L = S at hg hS hn
  cases hSS : S with
  | nil => exact nought_ok (wi := 0) hpp (by omega) (by simp) (fun s hs => by cases hs) (fun _ => rfl) (fun h => absurd rfl h) width_nil
  | cons a b =>
    rw [hSS] at hg hS hn
    exact nought_ok (wi := (w : Int)) hpp (by omega) (by omega) hS (fun h => by cases h) (fun _ => rfl) (width_of_ok ⟨hn, hg⟩ (by simp))
def ClEnd (p : Int) (w : Nat) (S : List (List Int)) (r : RB) : Prop := (r = .d .non ∧ ((∀ k, k < S.length → Lin.Tk p w (row S) k) ∨ ∃ c m, Nou p w S c ∧ m < S.length ∧ ¬ Lin.Tk p w (row S) m ∧ co c m = 1 ∧ ∃ j, j < c.length ∧ co c j = 0)) ∨ ∃ c m, r = .d (.tup (vec c)) ∧ Nou p w S c ∧ m < S.length ∧ ¬ Lin.Tk p w (row S) m ∧ co c m = 1 ∧ ∀ j, j < c.length → co c j ≠ 0
def clF (p wi : Int) (P : List Pc) (L : List Nat) (s2 : Slot) : Env := ⟨[.sh (webD p wi P), .sh (.tup (nats L)), s2], [.un, .un]⟩
theorem closing_ok {L : List Nat} (hpp : p ∈ primes) (h2 : w ≤ 10) (hP : Pcs p w P) (hL : IsLot P.length L) :
    WF (F_closing [.sh (webD p wi P), .sh (.tup (nats L))]) fun r o => o = [.un, .un] ∧ ClEnd p w (picks P L) r := by
  have hl40 := lot_len hP.n hL
  refine wf_fn (ws_cons (ws_asgV (w_call (wa_cons (w_prim (W.of (a := [.d (webD p wi P)]) (ρ := clF p wi P L .un) rfl ⟨[webD p wi P], .d (.int p), rfl, rfl, wa_cons (w_call (W.of (a := [.d (webD p wi P), .d (.tup (nats L))]) (ρ := clF p wi P L .un) rfl ⟨rfl, [.sh (webD p wi P), .sh (.tup (nats L))], rfl, WF.mono (sums_of_ok (by omega) hL.lt) ?_⟩))⟩))))))
  rintro r o ⟨rfl, rfl⟩
  refine wa_nil ⟨rfl, [.sh (.int p), .sh (.tup (sumsD (picks P L)))], rfl, WF.mono (nought_lot hpp h2 hP (lot_nodup hL) hL.lt) ?_⟩
  rintro r o ⟨rfl, ⟨rfl, hT⟩ | ⟨c, m, rfl, hN, hm, hTm, _, h1, _⟩⟩
  · refine ⟨rfl, clF p wi P L (.sh .non), rfl, ?_⟩
    refine ws_cons (ws_ite (wt_or (W.of (a := true) (ρ := clF p wi P L (.sh .non)) rfl ⟨fun _ => ⟨fun _ => ?_, fun z => absurd z (by decide)⟩, fun z => absurd z (by decide)⟩)))
    exact ws_cons (ws_ret (W.of (a := .d .non) (ρ := clF p wi P L (.sh .non)) rfl ⟨.d .non, _, rfl, rfl, .inl ⟨rfl, .inl hT⟩⟩))
  · refine ⟨rfl, clF p wi P L (.sh (.tup (vec c))), rfl, ?_⟩
    refine ws_cons (ws_ite (wt_or (W.of (a := false) (ρ := clF p wi P L (.sh (.tup (vec c)))) rfl ⟨fun z => absurd z (by decide), fun _ => wt_eb (w_prim (W.of (a := [.d (.int 0), .d (.tup (vec c))]) (ρ := clF p wi P L (.sh (.tup (vec c)))) rfl ⟨[.int 0, .tup (vec c)], _, rfl, in_vec 0 c, _, rfl, fun h => ?_, fun h => ?_⟩))⟩)))
    · obtain ⟨j, hj, e⟩ := List.getElem_of_mem (of_decide_eq_true h)
      exact ws_cons (ws_ret (W.of (a := .d .non) (ρ := clF p wi P L (.sh (.tup (vec c)))) rfl ⟨.d .non, _, rfl, rfl, .inl ⟨rfl, .inr ⟨c, m, hN, hm, hTm, h1, j, hj, by rw [co_eq, List.getD_eq_getElem?_getD, List.getElem?_eq_getElem hj]; exact e⟩⟩⟩))
    · refine ws_nil (ws_cons (ws_ret (W.of (a := .d (.tup (vec c))) (ρ := clF p wi P L (.sh (.tup (vec c)))) rfl ⟨.d (.tup (vec c)), _, rfl, rfl, .inr ⟨c, m, rfl, hN, hm, hTm, h1, fun j hj z => of_decide_eq_false h ?_⟩⟩)))
      rw [co_eq, List.getD_eq_getElem?_getD, List.getElem?_eq_getElem hj] at z
      have z : c[j] = 0 := z
      rw [← z]
      exact List.getElem_mem hj
theorem is_ring_ok {L : List Nat} (hpp : p ∈ primes) (h2 : w ≤ 10) (hP : Pcs p w P) (hL : IsLot P.length L) :
    WF (F_is_ring [.sh (webD p wi P), .sh (.tup (nats L))]) fun r o => o = [.un, .un] ∧ ∃ b r', r = .d (.bl b) ∧ ClEnd p w (picks P L) r' ∧ (b = false ↔ r' = .d .non) := by
  have hl40 := lot_len hP.n hL
  refine wf_fn (ws_cons (ws_ret (we_and (w_call (W.of (a := [.d (webD p wi P), .d (.tup (nats L))]) (ρ := ⟨[.sh (webD p wi P), .sh (.tup (nats L))], [.un, .un]⟩) rfl ⟨rfl, [.sh (webD p wi P), .sh (.tup (nats L))], rfl, WF.mono (is_lot_of_ok (okd_nats (by omega))) ?_⟩)))))
  rintro r o ⟨rfl, rfl⟩
  rw [lotB_of rfl hL]
  refine ⟨true, rfl, fun _ => ?_, fun z => absurd z (by decide)⟩
  refine w_prim (wa_cons (w_call (W.of (a := [.d (webD p wi P), .d (.tup (nats L))]) (ρ := ⟨[.sh (webD p wi P), .sh (.tup (nats L))], [.un, .un]⟩) rfl ⟨rfl, [.sh (webD p wi P), .sh (.tup (nats L))], rfl, WF.mono (closing_ok hpp h2 hP hL) ?_⟩)))
  rintro r o ⟨rfl, h⟩
  rcases h with ⟨rfl, h⟩ | ⟨c, m, rfl, h⟩
  · exact W.of (a := [.d .non]) (ρ := ⟨[.sh (webD p wi P), .sh (.tup (nats L))], [.un, .un]⟩) rfl ⟨[.non, .non], .d (.bl false), rfl, rfl, _, _, rfl, rfl, false, _, rfl, .inl ⟨rfl, h⟩, by simp⟩
  · exact W.of (a := [.d .non]) (ρ := ⟨[.sh (webD p wi P), .sh (.tup (nats L))], [.un, .un]⟩) rfl ⟨[.tup (vec c), .non], .d (.bl true), rfl, rfl, _, _, rfl, rfl, true, _, rfl, .inr ⟨c, m, rfl, h⟩, by simp⟩
end
end Ev

namespace Ev
open PySem L2
def prD (a : Nat × Int) : D := .tup [.int (a.1 : Int), .int a.2]
theorem zip_nv : ∀ (L : List Nat) (c : List Int), zipD (nats L) (vec c) = (L.zip c).map prD
  | [], _ => rfl
  | _ :: _, [] => rfl
  | k :: L, x :: c => by
    show D.tup [.int (k : Int), .int x] :: zipD (nats L) (vec c) = _
    rw [zip_nv L c]
    rfl
def sup (L : List Nat) (c : List Int) : List Nat := ((L.zip c).filter fun a => !decide (a.2 = 0)).map Prod.fst
theorem sup_eq {x : Nat} {Q : Nat → Bool} : ∀ (l : List Nat) (c : List Int), c.length = l.length + 1 → (∀ j, j < l.length → Q (l.getD j 0) = !decide (co c j = 0)) → co c l.length ≠ 0 → sup (l ++ [x]) c = l.filter Q ++ [x]
  | [], [z], _, _, h => by
    have h : z ≠ 0 := h
    unfold sup
    simp [h]
  | [], [], h, _, _ => by simp at h
  | [], _ :: _ :: _, h, _, _ => by simp at h
  | k :: l, [], h, _, _ => by simp at h
  | k :: l, z :: c, h, hQ, h1 => by
    have ih := sup_eq (x := x) (Q := Q) l c (by simpa using h) (fun j hj => hQ (j + 1) (by simpa using hj)) h1
    have h0 : Q k = !decide (z = 0) := hQ 0 (by simp)
    have e : sup (k :: l ++ [x]) (z :: c) = (if (!decide (z = 0)) = true then k :: sup (l ++ [x]) c else sup (l ++ [x]) c) := by
      unfold sup
      show List.map Prod.fst (List.filter _ ((k, z) :: (l ++ [x]).zip c)) = _
      rw [List.filter_cons]
      by_cases q : z = 0 <;> simp [q]
    rw [e, ih, List.filter_cons, h0]
    by_cases q : z = 0 <;> simp [q]
section
variable {p wi : Int} {w : Nat} {P : List Pc}
theorem is_lean_lot {l : List Nat} (hpp : p ∈ primes) (hw : wi = w) (h2 : w ≤ 10) (hP : Pcs p w P) (hl : IsLot P.length l) : WF (F_is_lean [.sh (webD p wi P), .sh (.tup (nats l))]) fun r o => o = [.un, .un] ∧ r = .d (.bl (decide (rk p w P l = l.length))) := by
  have hl40 := lot_len hP.n hl
  refine WF.mono (is_lean_ok hpp hw h2 hP (okd_nats (l := l) (by omega))) ?_
  rintro r o ⟨rfl, h | ⟨l', e, _, rfl⟩⟩
  · rw [lotB_of rfl hl] at h
    exact absurd h.1 (by decide)
  · cases nats_inj (D.tup.inj e)
    exact ⟨rfl, rfl⟩
theorem is_piece_ok {x : Nat} {xi : Int} (e : xi = x) (hx : x < P.length) : WF (F_is_piece [.sh (webD p wi P), .sh (.int xi)]) fun r o => o = [.un, .un] ∧ r = .d (.bl true) := by
  have hlen := lenP P
  obtain ⟨ni, hni⟩ : ∃ ni : Int, (P.length : Int) = ni := ⟨_, rfl⟩
  rw [hni] at hlen
  refine wf_fn (ws_cons (ws_ret (w_call (wa_cons (W.of (a := .d (.int 0)) (ρ := ⟨[.sh (webD p wi P), .sh (.int xi)], [.un, .un]⟩) rfl (wa_cons (w_prim (wa_cons (w_prim (wa_cons (w_prim (W.of (a := [.d (webD p wi P)]) (ρ := ⟨[.sh (webD p wi P), .sh (.int xi)], [.un, .un]⟩) rfl ⟨[webD p wi P], .d (.tup (pcsD P)), rfl, rfl, wa_nil ⟨[.tup (pcsD P)], .d (.int ni), rfl, hlen, ?_⟩⟩))))))))))))
  refine W.of (a := [.d (.int 1)]) (ρ := ⟨[.sh (webD p wi P), .sh (.int xi)], [.un, .un]⟩) rfl ⟨[.int ni, .int 1], .d (.int (ni - 1)), rfl, rfl, ?_⟩
  refine W.of (a := [.d (.int xi)]) (ρ := ⟨[.sh (webD p wi P), .sh (.int xi)], [.un, .un]⟩) rfl ⟨rfl, [.sh (.int 0), .sh (.int (ni - 1)), .sh (.int xi)], rfl, WF.mono (within_ok 0 (ni - 1) xi) ?_⟩
  rintro r o ⟨rfl, rfl⟩
  refine ⟨_, _, rfl, rfl, ?_⟩
  rw [decide_eq_true (show (0 : Int) ≤ xi by omega), decide_eq_true (show xi ≤ ni - 1 by omega)]
  rfl
def rgF (p wi : Int) (P : List Pc) (l : List Nat) (xi : Int) (s3 s4 : Slot) : Env := ⟨[.sh (webD p wi P), .sh (.tup (nats l)), .sh (.int xi), s3, s4, .un, .un], [.un, .un, .un]⟩
def RgEnd (p : Int) (w : Nat) (P : List Pc) (l : List Nat) (x : Nat) (r : RB) : Prop := (r = .d .non ∧ rk p w P (l ++ [x]) = l.length + 1) ∨ ∃ c, Nou p w (picks P (l ++ [x])) c ∧ co c l.length = 1 ∧ rk p w P (l ++ [x]) ≠ l.length + 1 ∧ r = .d (.tup (nats (srtN (rfl' p w P l x ++ [x]))))
theorem ring_ok {l : List Nat} {x : Nat} {xi : Int} (hpp : p ∈ primes) (hw : wi = w) (h2 : w ≤ 10) (hP : Pcs p w P) (hl : IsLot P.length l) (e : xi = x) (hx : x < P.length) (hxl : x ∉ l) (hk : rk p w P l = l.length) :
    WF (F_ring [.sh (webD p wi P), .sh (.tup (nats l)), .sh (.int xi)]) fun r o => o = [.un, .un, .un] ∧ RgEnd p w P l x r := by
  have hl40 := lot_len hP.n hl
  have hlen : (l ++ [x]).length = l.length + 1 := by rw [List.length_append]; rfl
  have hin : ∀ k ∈ l ++ [x], k < P.length := fun k hk => by
    rcases List.mem_append.mp hk with hk | hk
    · exact hl.lt k hk
    · have : k = x := by simpa using hk
      rw [this]; exact hx
  refine wf_fn (ws_cons (ws_ex (w_call (W.of (a := [.d (webD p wi P), .d (.tup (nats l))]) (ρ := rgF p wi P l xi .un .un) rfl ⟨rfl, [.sh (webD p wi P), .sh (.tup (nats l))], rfl, WF.mono (check_lot_ok (okd_nats (by omega)) (lotB_of rfl hl)) ?_⟩))))
  rintro r o ⟨rfl, rfl⟩
  refine ws_cons (ws_ite (wt_not (wt_e (w_call (W.of (a := [.d (webD p wi P), .d (.tup (nats l))]) (ρ := rgF p wi P l xi .un .un) rfl ⟨rfl, [.sh (webD p wi P), .sh (.tup (nats l))], rfl, WF.mono (is_lean_lot hpp hw h2 hP hl) ?_⟩)))))
  rintro r o ⟨rfl, rfl⟩
  rw [decide_eq_true hk]
  refine ⟨_, true, rfl, rfl, fun z => absurd z (by decide), fun _ => ws_nil ?_⟩
  refine ws_cons (ws_ite (wt_or (wt_not (wt_e (w_call (W.of (a := [.d (webD p wi P), .d (.int xi)]) (ρ := rgF p wi P l xi .un .un) rfl ⟨rfl, [.sh (webD p wi P), .sh (.int xi)], rfl, WF.mono (is_piece_ok e hx) ?_⟩))))))
  rintro r o ⟨rfl, rfl⟩
  refine ⟨_, true, rfl, rfl, fun z => absurd z (by decide), fun _ => wt_eb (w_prim (W.of (a := [.d (.int xi), .d (.tup (nats l))]) (ρ := rgF p wi P l xi .un .un) rfl ⟨[.int xi, .tup (nats l)], _, rfl, in_nats e l, _, rfl, fun z => absurd (of_decide_eq_true z) hxl, fun _ => ws_nil ?_⟩))⟩
  refine ws_cons (ws_asgV (w_prim (W.of (a := [.d (.tup (nats l)), .d (.tup [.int xi])]) (ρ := rgF p wi P l xi .un .un) rfl ⟨[.tup (nats l), .tup [.int xi]], _, rfl, snocT_nats l e (by omega), rfl, rgF p wi P l xi (.sh (.tup (nats (l ++ [x])))) .un, rfl, ?_⟩)))
  refine ws_cons (ws_asgV (w_call (wa_cons (w_prim (W.of (a := [.d (webD p wi P)]) (ρ := rgF p wi P l xi (.sh (.tup (nats (l ++ [x])))) .un) rfl ⟨[webD p wi P], .d (.int p), rfl, rfl, wa_cons (w_call (W.of (a := [.d (webD p wi P), .d (.tup (nats (l ++ [x])))]) (ρ := rgF p wi P l xi (.sh (.tup (nats (l ++ [x])))) .un) rfl ⟨rfl, [.sh (webD p wi P), .sh (.tup (nats (l ++ [x])))], rfl, WF.mono (sums_of_ok (by rw [hlen]; omega) hin) ?_⟩))⟩)))))
  rintro r o ⟨rfl, rfl⟩
  refine wa_nil ⟨rfl, [.sh (.int p), .sh (.tup (sumsD (picks P (l ++ [x]))))], rfl, WF.mono (nought_lot hpp h2 hP (snoc_nodup (lot_nodup hl) hxl) hin) ?_⟩
  rintro r o ⟨rfl, ⟨rfl, hT⟩ | ⟨c, m, rfl, hN, hm, hTm, hT, h1, _⟩⟩
  · refine ⟨rfl, rgF p wi P l xi (.sh (.tup (nats (l ++ [x])))) (.sh .non), rfl, ?_⟩
    refine ws_cons (ws_ite (W.of (a := true) (ρ := rgF p wi P l xi (.sh (.tup (nats (l ++ [x])))) (.sh .non)) rfl ⟨fun _ => ?_, fun z => absurd z (by decide)⟩))
    refine ws_cons (ws_ret (W.of (a := .d .non) (ρ := rgF p wi P l xi (.sh (.tup (nats (l ++ [x])))) (.sh .non)) rfl ⟨.d .non, _, rfl, rfl, .inl ⟨rfl, ?_⟩⟩))
    rw [← hlen]
    exact rk_full.mpr fun j hj => hT j (by rw [picks_len]; exact hj)
  · rw [picks_len, hlen] at hm
    have hml : m = l.length := by
      apply Classical.byContradiction
      intro hne
      have hml : m < l.length := by omega
      exact hTm (tk_congr (fun i hi => row_app (by omega)) (rk_full.mp hk m hml))
    subst hml
    have hcl : c.length = l.length + 1 := by rw [hN.l, picks_len, hlen]
    have hrk : rk p w P (l ++ [x]) ≠ l.length + 1 := fun q => hTm (rk_full.mp (q.trans hlen.symm) l.length (by omega))
    have hs := sup_eq (x := x) (Q := fun k => decide (rk p w P (dropK l k ++ [x]) = l.length)) l c hcl (fun j hj => by
      have := ring_iff hpp h2 hP (lot_nodup hl) (by omega) hl.lt hx hk hN h1 hj
      by_cases z : co c j = 0
      · rw [decide_eq_true z]
        exact decide_eq_false fun q => this.mp q z
      · rw [decide_eq_false z]
        exact decide_eq_true (this.mpr z)) (by rw [h1]; omega)
    refine ⟨rfl, rgF p wi P l xi (.sh (.tup (nats (l ++ [x])))) (.sh (.tup (vec c))), rfl, ?_⟩
    refine ws_cons (ws_ite (W.of (a := false) (ρ := rgF p wi P l xi (.sh (.tup (nats (l ++ [x])))) (.sh (.tup (vec c)))) rfl ⟨fun z => absurd z (by decide), fun _ => ws_nil ?_⟩))
    refine ws_cons (ws_ret (w_prim (wa_cons (w_prim (wa_cons (w_lcfL (l := (l ++ [x]).zip c) (g := prD) (e := fun a : Nat × Int => D.int (a.1 : Int)) (q := fun a : Nat × Int => !decide (a.2 = 0)) (W.of (a := [.d (.tup (nats (l ++ [x]))), .d (.tup (vec c))]) (ρ := rgF p wi P l xi (.sh (.tup (nats (l ++ [x])))) (.sh (.tup (vec c)))) rfl ⟨[.tup (nats (l ++ [x])), .tup (vec c)], rfl, congrArg some (zip_nv _ _), ⟨by rw [List.length_zip, sizeLine_eq]; omega, rfl, rfl⟩, fun a ha => ?_, ?_⟩)))))))
    · obtain ⟨k, z⟩ := a
      obtain ⟨ki, hki⟩ : ∃ ki : Int, (k : Int) = ki := ⟨_, rfl⟩
      have hpr : prD (k, z) = .tup [.int ki, .int z] := by rw [← hki]; rfl
      rw [hpr]
      refine ⟨⟨[.sh (webD p wi P), .sh (.tup (nats l)), .sh (.int xi), .sh (.tup (nats (l ++ [x]))), .sh (.tup (vec c)), .sh (.int ki), .sh (.int z)], [.un, .un, .un]⟩, rfl, ?_⟩
      exact wt_eb (w_prim (W.of (a := [.d (.int z), .d (.int 0)]) (ρ := ⟨[.sh (webD p wi P), .sh (.tup (nats l)), .sh (.int xi), .sh (.tup (nats (l ++ [x]))), .sh (.tup (vec c)), .sh (.int ki), .sh (.int z)], [.un, .un, .un]⟩) rfl ⟨[.int z, .int 0], _, rfl, ne_int z 0, _, rfl, rfl, fun _ => W.of (a := .d (.int ki)) rfl ⟨_, congrArg (fun i : Int => some (D.int i, _)) hki.symm, rfl⟩, rfl⟩))
    · have hnn : (((l ++ [x]).zip c).filter fun a : Nat × Int => !decide (a.2 = 0)).map (fun a : Nat × Int => D.int (a.1 : Int)) = nats (rfl' p w P l x ++ [x]) := by
        have : nats (sup (l ++ [x]) c) = nats (rfl' p w P l x ++ [x]) := by rw [hs]; rfl
        rw [← this]
        unfold nats sup
        rw [List.map_map]
        rfl
      rw [hnn]
      refine wa_nil ⟨[.lst (nats (rfl' p w P l x ++ [x]))], _, rfl, sortL_nats _, ?_⟩
      exact wa_nil ⟨[.lst (nats (srtN (rfl' p w P l x ++ [x])))], _, rfl, rfl, .d (.tup (nats (srtN (rfl' p w P l x ++ [x])))), _, rfl, rfl, .inr ⟨c, hN, h1, hrk, rfl⟩⟩
end
end Ev

namespace Ev
open PySem L2
section
variable {p wi : Int} {w : Nat} {P : List Pc}
def lwrF (p wi : Int) (P : List Pc) (l : List Nat) (xi : Int) (s3 s4 : Slot) : Env := ⟨[.sh (toldD p wi P), .sh (.tup (nats l)), .sh (.int xi), s3, s4], [.un, .un, .un]⟩
theorem law_ring_ok {l : List Nat} {x : Nat} {xi : Int} (hpp : p ∈ primes) (h2 : w ≤ 10) (hP : Pcs p w P) (hl : IsLot P.length l) (e : xi = x) (hx : x < P.length) :
    WF (F_law_ring [.sh (toldD p wi P), .sh (.tup (nats l)), .sh (.int xi)]) fun r o => o = [.un, .un, .un] ∧ ((r = .d .non ∧ rk p w P (l ++ [x]) = l.length + 1) ∨ (rk p w P (l ++ [x]) ≠ l.length + 1 ∧ r = .d (.tup (nats (srtN (rfl' p w P l x ++ [x])))))) := by
  have hl40 := lot_len hP.n hl
  have hlen : (l ++ [x]).length = l.length + 1 := by rw [List.length_append]; rfl
  have hin : ∀ L : List Nat, (∀ k ∈ L, k ∈ l) → ∀ k ∈ L ++ [x], k < P.length := fun L hL k hk => by
    rcases List.mem_append.mp hk with hk | hk
    · exact hl.lt k (hL k hk)
    · have : k = x := by simpa using hk
      rw [this]; exact hx
  have hsn := snocT_nats l e (by omega)
  have hll : fLen [.tup (nats l)] = some (.d (.int ((l.length : Nat) : Int))) := by rw [len_tup, nats_len]
  obtain ⟨li, hli⟩ : ∃ li : Int, ((l.length : Nat) : Int) = li := ⟨_, rfl⟩
  rw [hli] at hll
  refine wf_fn (ws_cons (ws_ite (wt_eb (w_prim (wa_cons (w_call (wa_cons (W.of (a := .d (toldD p wi P)) (ρ := lwrF p wi P l xi .un .un) rfl (wa_cons (w_prim (W.of (a := [.d (.tup (nats l)), .d (.tup [.int xi])]) (ρ := lwrF p wi P l xi .un .un) rfl ⟨[.tup (nats l), .tup [.int xi]], _, rfl, hsn, wa_nil ⟨rfl, [.sh (toldD p wi P), .sh (.tup (nats (l ++ [x])))], rfl, WF.mono (law_in_ok hpp h2 hP (by omega) (hin l fun k h => h)) ?_⟩⟩)))))))))))
  rintro r o ⟨rfl, rfl⟩
  have hle := rk_le p w P (l ++ [x])
  rw [hlen] at hle
  obtain ⟨ri, hri⟩ : ∃ ri : Int, ((rk p w P (l ++ [x]) : Nat) : Int) = ri := ⟨_, rfl⟩
  rw [hri]
  refine wa_cons (w_prim (W.of (a := [.d (.tup (nats l))]) (ρ := lwrF p wi P l xi .un .un) rfl ⟨[.tup (nats l)], .d (.int li), rfl, hll, ?_⟩))
  refine wa_nil ⟨[.int ri, .int li], .d (.bl (decide (ri > li))), rfl, rfl, _, rfl, fun h => ?_, fun h => ?_⟩
  · have h := of_decide_eq_true h
    exact ws_cons (ws_ret (W.of (a := .d .non) (ρ := lwrF p wi P l xi .un .un) rfl ⟨.d .non, _, rfl, rfl, .inl ⟨rfl, by omega⟩⟩))
  · have h := of_decide_eq_false h
    have hne : rk p w P (l ++ [x]) ≠ l.length + 1 := by omega
    refine ws_nil (ws_cons (ws_asgV (w_lcfL (l := l) (g := fun k : Nat => D.int (k : Int)) (e := fun k : Nat => D.int (k : Int)) (q := fun k => decide (rk p w P (dropK l k ++ [x]) = l.length)) (W.of (a := [.d (.tup (nats l))]) (ρ := lwrF p wi P l xi .un .un) rfl ⟨[.tup (nats l)], rfl, rfl, ⟨by rw [sizeLine_eq]; omega, rfl, rfl⟩, fun k hk => ?_, ?_⟩))))
    · obtain ⟨ki, hki⟩ : ∃ ki : Int, ki = (k : Int) := ⟨_, rfl⟩
      rw [← hki]
      refine ⟨lwrF p wi P l xi .un (.sh (.int ki)), rfl, ?_⟩
      refine wt_eb (w_prim (wa_cons (w_call (wa_cons (W.of (a := .d (toldD p wi P)) (ρ := lwrF p wi P l xi .un (.sh (.int ki))) rfl (wa_cons (w_prim (wa_cons (w_call (W.of (a := [.d (.tup (nats l)), .d (.int ki)]) (ρ := lwrF p wi P l xi .un (.sh (.int ki))) rfl ⟨rfl, [.sh (.tup (nats l)), .sh (.int ki)], rfl, WF.mono (law_without_ok hki (by omega)) ?_⟩))))))))))
      rintro r o ⟨rfl, rfl⟩
      have hdl : (dropK l k).length ≤ l.length := List.length_filter_le _ _
      refine W.of (a := [.d (.tup [.int xi])]) (ρ := lwrF p wi P l xi .un (.sh (.int ki))) rfl ⟨[.tup (nats (dropK l k)), .tup [.int xi]], _, rfl, snocT_nats (dropK l k) e (by omega), ?_⟩
      refine wa_nil ⟨rfl, [.sh (toldD p wi P), .sh (.tup (nats (dropK l k ++ [x])))], rfl, WF.mono (law_in_ok hpp h2 hP (by rw [List.length_append]; show (dropK l k).length + 1 ≤ 100; omega) (hin (dropK l k) fun k h => (mem_drop.mp h).1)) ?_⟩
      rintro r o ⟨rfl, rfl⟩
      have hdc := dec_nat (a := rk p w P (dropK l k ++ [x])) (b := l.length) rfl hli.symm
      generalize ((rk p w P (dropK l k ++ [x]) : Nat) : Int) = rj at hdc
      refine wa_cons (w_prim (W.of (a := [.d (.tup (nats l))]) (ρ := lwrF p wi P l xi .un (.sh (.int ki))) rfl ⟨[.tup (nats l)], .d (.int li), rfl, hll, ?_⟩))
      exact wa_nil ⟨[.int rj, .int li], _, rfl, eq_int rj li, _, rfl, hdc, fun _ => W.of (a := .d (.int ki)) rfl ⟨_, rfl, rfl⟩, rfl⟩
    · show _ ∧ ∃ ρ3, bindB _ 3 (.nw (nats (rfl' p w P l x))) = some ρ3 ∧ _
      refine ⟨rfl, lwrF p wi P l xi (.ow (nats (rfl' p w P l x))) .un, rfl, ?_⟩
      have hFl : (rfl' p w P l x).length ≤ l.length := List.length_filter_le _ _
      generalize rfl' p w P l x = F at hFl
      have hadd : fAdd [.lst (nats F), .lst [.int xi]] = some (.nw (nats (F ++ [x]))) := by
        rw [add_lst (by rw [nats_len]; show F.length + 1 ≤ _; omega), ← nats_snoc, e]
      refine ws_cons (ws_ret (w_prim (wa_cons (w_prim (wa_cons (w_prim (W.of (a := [.loc 3, .nw [.int xi]]) (ρ := lwrF p wi P l xi (.ow (nats F)) .un) rfl ⟨[.lst (nats F), .lst [.int xi]], _, rfl, hadd, wa_nil ⟨[.lst (nats (F ++ [x]))], _, rfl, sortL_nats _, ?_⟩⟩)))))))
      exact wa_nil ⟨[.lst (nats (srtN (F ++ [x])))], _, rfl, rfl, .d (.tup (nats (srtN (F ++ [x])))), _, rfl, rfl, .inr ⟨hne, rfl⟩⟩
theorem law_lean_ok {g : List Int} {h : List D} {sl : Slot} (hsl : Slot.sh (.tup (nats (List.range P.length))) = sl) (hpp : p ∈ primes) (h2 : w ≤ 10) (hP : Pcs p w P) (T : Tap g h) :
    WF (F_law_lean [.ow h, .sh (toldD p wi P), sl]) fun r o => ∃ l h', r = .d (.tup (nats l)) ∧ o = [.ow h', .un, .un] ∧ IsLot P.length l ∧ rk p w P l = l.length ∧ Tap g h' := by
  have hn := hP.n
  have hR1 : (List.range P.length).length = P.length := List.length_range
  have hR2 : (List.range P.length).Nodup := List.nodup_range
  have hR3 : ∀ k ∈ List.range P.length, k < P.length := fun k hk => List.mem_range.mp hk
  generalize List.range P.length = R at hR1 hR2 hR3 hsl
  have hR4 : (nats R).length ≤ 1000 := by rw [nats_len]; omega
  generalize hal : nats R = al at hR4 hsl
  generalize htl : toldD p wi P = tl
  have hq : Seq al sl := by rw [← hsl]; exact .tup
  have ha : sl.after = .un := by rw [← hsl]; rfl
  refine wf_fn ?_
  generalize hρ : start0 N_law_lean.length [.ow h, .sh tl, sl] = ρ0
  have hρ : ρ0 = ⟨[.ow h, .sh tl, .sh (.tup al)], [.att, .un, .un]⟩ := by rw [← hρ, ← hsl]; rfl
  have e1 : evE (.var 1) ρ0 = .ok (.d tl) ρ0 := by rw [hρ]; rfl
  have e2 : evA (.cons (.var 0) (.cons (.var 2) (.nil))) ρ0 = .ok [.loc 0, .d (.tup al)] ρ0 := by rw [hρ]; rfl
  have e3 : args ρ0 [.loc 0, .d (.tup al)] = some [.ow h, sl] := by rw [hρ, ← hsl]; rfl
  refine ws_cons (ws_ret (w_call (wa_cons (W.of e1 (wa_cons (w_call (W.of e2 ⟨rfl, _, e3, WF.mono (mixed_ok hq hR4 T) ?_⟩)))))))
  rintro r o ⟨ys, h', rfl, rfl, hp, T'⟩
  rw [hρ, ha]
  rw [backI (i := 0) (h' := h') rfl (fun j => by cases j <;> rfl)]
  rw [← hal] at hp
  obtain ⟨L, rfl, hL⟩ := perm_nats hp
  rw [← htl]
  refine wa_nil ⟨rfl, [.sh (toldD p wi P), .ow (nats L)], rfl, WF.mono (law_taken_ok hpp h2 hP (hL.nodup_iff.mpr hR2) (fun k hk => hR3 k (hL.mem_iff.mp hk)) (by rw [hL.length_eq, hR1]; omega)) ?_⟩
  rintro r o ⟨rfl, l, rfl, hl, hk, _⟩
  rw [back0 fun i => rfl]
  exact ⟨_, _, rfl, l, h', rfl, rfl, hl, hk, T'⟩
end
end Ev

namespace Ev
open PySem L2
theorem range_sum (f : Nat → Int) : ∀ n, ((List.range n).map f).sum = Lin.sumTo n f
  | 0 => rfl
  | n + 1 => by
    rw [List.range_succ, List.map_append, List.sum_append, range_sum f n]
    simp [Lin.sumTo]
theorem zip_vn {v : List Int} {L : List Nat} (h : v.length = L.length) : zipD (vec v) (nats L) = (List.range L.length).map fun j : Nat => D.tup [.int (v.getD j 0), .int ((L.getD j 0 : Nat) : Int)] := by
  have hl : (zipD (vec v) (nats L)).length = L.length := by rw [zipD_length, vec_len, nats_len, h, Nat.min_self]
  refine List.ext_getElem (by rw [hl, List.length_map, List.length_range]) fun j h1 h2 => ?_
  obtain ⟨a, b, ha, hb, e⟩ := zipD_get _ _ j _ (List.getElem?_eq_getElem h1)
  obtain ⟨_, rfl⟩ := vec_get ha
  obtain ⟨_, rfl⟩ := nats_get hb
  rw [e]
  simp
section
variable {p wi : Int} {w : Nat} {P : List Pc}
structure Vals (p : Int) (w : Nat) (P : List Pc) (rs : List Nat) (v : List Int) : Prop where
  l : v.length = rs.length
  n : 0 < rs.length
  o : v.getD 0 0 = 1
  r : ∀ x ∈ v, 0 < x ∧ x < p
  e : ∀ i, i < w → p ∣ Lin.sumTo rs.length (fun k => v.getD k 0 * (pcAt P (rs.getD k 0)).1.getD i 0)
theorem vals_of {rs : List Nat} {c : List Int} {t : Int} (hpp : p ∈ primes) (hc : Nou p w (picks P rs) c) (hn : 0 < rs.length) (hz : ∀ j, j < c.length → co c j ≠ 0) (t0 : 0 < t) (t1 : t < p) (ht : (t * c.getD 0 0) % p = 1) : Vals p w P rs (c.map fun a => a * t % p) := by
  obtain ⟨hp1, hp2⟩ := primes_lt hpp
  have hcl : c.length = rs.length := by rw [hc.l, picks_len]
  have hat : ∀ k, k < rs.length → (c.map fun a => a * t % p).getD k 0 = c.getD k 0 * t % p := fun k hk => by
    rw [List.getD_eq_getElem?_getD, List.getElem?_map, List.getD_eq_getElem?_getD, List.getElem?_eq_getElem (by omega)]
    rfl
  refine ⟨by rw [List.length_map, hcl], hn, ?_, fun x hx => ?_, fun i hi => ?_⟩
  · rw [hat 0 hn, Int.mul_comm]
    exact ht
  · obtain ⟨a, ha, rfl⟩ := List.mem_map.mp hx
    have h0 : 0 ≤ a * t % p := Int.emod_nonneg _ (by omega)
    have h1 : a * t % p < p := Int.emod_lt_of_pos _ (by omega)
    refine ⟨?_, h1⟩
    obtain ⟨j, hj, e⟩ := List.getElem_of_mem ha
    have haz : a ≠ 0 := fun q => hz j hj (by rw [co_eq, List.getD_eq_getElem?_getD, List.getElem?_eq_getElem hj]; exact e.trans q)
    have hng : ¬ p ∣ a := ndv haz (hc.r a ha).1 (hc.r a ha).2
    apply Classical.byContradiction
    intro hn0
    have hz0 : a * t % p = 0 := by omega
    have hd : p ∣ a * t := Int.dvd_of_emod_eq_zero hz0
    obtain ⟨s, hs⟩ := prime_inv hpp t (ndv (by omega) (by omega) t1)
    have h3 : p ∣ a * (s * t) - a := by
      have := Lin.dvMul a hs
      rw [Int.mul_sub, Int.mul_one] at this
      exact this
    have h4 : p ∣ a * (s * t) := by
      have := Lin.dvMul s hd
      rw [Int.mul_left_comm] at this
      exact this
    exact hng (Lin.dvOf (Lin.dvSub h4 h3) (by omega))
  · have a := Lin.dvMul t (hc.e i hi)
    rw [picks_len] at a
    have b : p ∣ Lin.sumTo rs.length (fun k => (c.map fun a => a * t % p).getD k 0 * (pcAt P (rs.getD k 0)).1.getD i 0) - Lin.sumTo rs.length (fun k => t * (co c k * row (picks P rs) k i)) := Lin.sumTo_congr fun k hk => by
      show p ∣ (c.map fun a => a * t % p).getD k 0 * (pcAt P (rs.getD k 0)).1.getD i 0 - t * (co c k * row (picks P rs) k i)
      rw [hat k hk, row_picks hk, co_eq, co_eq]
      generalize (pcAt P (rs.getD k 0)).1.getD i 0 = s
      generalize c.getD k 0 = a
      have h1 : p ∣ a * t - a * t % p := Int.dvd_self_sub_emod
      have h2 := Lin.dvMul s h1
      have e1 : s * (a * t - a * t % p) = s * (a * t) - s * (a * t % p) := Int.mul_sub _ _ _
      rw [e1] at h2
      have e2 : a * t % p * s = s * (a * t % p) := Int.mul_comm _ _
      have e3 : t * (a * s) = s * (a * t) := by rw [Int.mul_left_comm, Int.mul_comm t s, Int.mul_left_comm]
      rw [e2, e3]
      exact Lin.dvOf (Lin.dvMul (-1) h2) (by omega)
    rw [Lin.sumTo_mul] at b
    exact Lin.dvOf (Lin.dvAdd b a) (by omega)
def rvF (p wi : Int) (P : List Pc) (rs : List Nat) (s2 s3 s4 : Slot) : Env := ⟨[.sh (webD p wi P), .sh (.tup (nats rs)), s2, s3, s4], [.un, .un]⟩
theorem circ_closing {rs : List Nat} (hpp : p ∈ primes) (h2 : w ≤ 10) (hP : Pcs p w P) (h : Circ p w P rs) {r : RB} (q : ClEnd p w (picks P rs) r) : ∃ c m, r = .d (.tup (vec c)) ∧ Nou p w (picks P rs) c ∧ m < rs.length ∧ ∀ j, j < c.length → co c j ≠ 0 := by
  rcases q with ⟨_, q | ⟨c, m, hc, hm, _, h1, j, hj, hz⟩⟩ | ⟨c, m, rfl, hc, hm, _, h1, hz⟩
  · exfalso
    have := rk_full.mpr fun j hj => q j (by rw [picks_len]; exact hj)
    have := h.dep
    omega
  · exfalso
    rw [hc.l, picks_len] at hj
    rw [picks_len] at hm
    exact circ_full hpp h2 hP h hc hm h1 j hj hz
  · rw [picks_len] at hm
    exact ⟨c, m, rfl, hc, hm, hz⟩
theorem ring_values_ok {rs : List Nat} (hpp : p ∈ primes) (h2 : w ≤ 10) (hP : Pcs p w P) (h : Circ p w P rs) :
    WF (F_ring_values [.sh (webD p wi P), .sh (.tup (nats rs))]) fun r o => o = [.un, .un] ∧ ∃ v, r = .d (.tup (vec v)) ∧ Vals p w P rs v := by
  obtain ⟨hp1, hp2⟩ := primes_lt hpp
  have hl40 := lot_len hP.n h.lot
  refine wf_fn (ws_cons (ws_ex (w_call (W.of (a := [.d (webD p wi P), .d (.tup (nats rs))]) (ρ := rvF p wi P rs .un .un .un) rfl ⟨rfl, [.sh (webD p wi P), .sh (.tup (nats rs))], rfl, WF.mono (check_lot_ok (okd_nats (by omega)) (lotB_of rfl h.lot)) ?_⟩))))
  rintro r o ⟨rfl, rfl⟩
  refine ws_cons (ws_asgV (w_call (W.of (a := [.d (webD p wi P), .d (.tup (nats rs))]) (ρ := rvF p wi P rs .un .un .un) rfl ⟨rfl, [.sh (webD p wi P), .sh (.tup (nats rs))], rfl, WF.mono (closing_ok hpp h2 hP h.lot) ?_⟩)))
  rintro r o ⟨rfl, q⟩
  obtain ⟨c, m, rfl, hc, hm, hz⟩ := circ_closing hpp h2 hP h q
  have hcl : c.length = rs.length := by rw [hc.l, picks_len]
  have hc0 : c.getD 0 0 ≠ 0 := hz 0 (by omega)
  obtain ⟨c0, c1⟩ := hc.r.at (j := 0) (by omega)
  have hix : fIx [.tup (vec c), .int 0] = some (.d (.int (c.getD 0 0))) := ix_tup (i := 0) (vec_at (by omega))
  have hvo := fun t => vals_of (t := t) hpp hc (by omega) hz
  have hcr := hc.r
  refine ⟨rfl, rvF p wi P rs (.sh (.tup (vec c))) .un .un, rfl, ?_⟩
  generalize hz0 : c.getD 0 0 = z at hc0 c0 c1 hix hvo
  refine ws_cons (ws_ite (W.of (a := false) (ρ := rvF p wi P rs (.sh (.tup (vec c))) .un .un) rfl ⟨fun z => absurd z (by decide), fun _ => ws_nil ?_⟩))
  obtain ⟨t, hie, t0, t1, ht⟩ := inverse_ok hpp (v := z) (by omega) c1
  refine ws_cons (ws_asgV (w_call (wa_cons (w_prim (W.of (a := [.d (webD p wi P)]) (ρ := rvF p wi P rs (.sh (.tup (vec c))) .un .un) rfl ⟨[webD p wi P], .d (.int p), rfl, rfl, wa_cons (w_prim (W.of (a := [.d (.tup (vec c)), .d (.int 0)]) (ρ := rvF p wi P rs (.sh (.tup (vec c))) .un .un) rfl ⟨[.tup (vec c), .int 0], _, rfl, hix, wa_nil ⟨rfl, [.sh (.int p), .sh (.int z)], rfl, WF.of hie ?_⟩⟩))⟩)))))
  refine ⟨rfl, rvF p wi P rs (.sh (.tup (vec c))) (.sh (.int t)) .un, rfl, ?_⟩
  refine ws_cons (ws_ret (w_prim (wa_cons (w_lcmL (l := c) (g := D.int) (e := fun a => D.int (a * t % p)) (W.of (a := [.d (.tup (vec c))]) (ρ := rvF p wi P rs (.sh (.tup (vec c))) (.sh (.int t)) .un) rfl ⟨[.tup (vec c)], rfl, rfl, ⟨by rw [sizeLine_eq]; omega, rfl, rfl⟩, fun a ha => ?_, ?_⟩)))))
  · have hr := hcr a ha
    have hmul : fMul [.int a, .int t] = some (.d (.int (a * t))) := mul_ok (mulOk_r (by omega) (by omega))
    have hmod : fMod [.int (a * t), .int p] = some (.d (.int (a * t % p))) := fMod_ok (by omega)
    generalize a * t = b at hmul hmod
    generalize b % p = d at hmod
    refine ⟨rvF p wi P rs (.sh (.tup (vec c))) (.sh (.int t)) (.sh (.int a)), rfl, ?_⟩
    refine w_prim (wa_cons (w_prim (W.of (a := [.d (.int a), .d (.int t)]) (ρ := rvF p wi P rs (.sh (.tup (vec c))) (.sh (.int t)) (.sh (.int a))) rfl ⟨[.int a, .int t], _, rfl, hmul, wa_cons (w_prim (W.of (a := [.d (webD p wi P)]) (ρ := rvF p wi P rs (.sh (.tup (vec c))) (.sh (.int t)) (.sh (.int a))) rfl ⟨[webD p wi P], .d (.int p), rfl, rfl, wa_nil ⟨[.int b, .int p], _, rfl, hmod, _, rfl, rfl⟩⟩))⟩)))
  · have hv := hvo t t0 t1 ht
    have he : (c.map fun a => D.int (a * t % p)) = vec (c.map fun a => a * t % p) := by
      unfold vec
      rw [List.map_map]
      rfl
    rw [he]
    exact wa_nil ⟨[.lst (vec (c.map fun a => a * t % p))], _, rfl, rfl, _, _, rfl, rfl, _, rfl, hv⟩
def mnF (p wi : Int) (P : List Pc) (rs : List Nat) (v : List Int) (s3 s4 s5 : Slot) : Env := ⟨[.sh (toldD p wi P), .sh (.tup (nats rs)), .sh (.tup (vec v)), s3, s4, s5], [.un, .un, .un]⟩
theorem makes_nought_ok {rs : List Nat} {v : List Int} (hpp : p ∈ primes) (hwi : wi = w) (h2 : w ≤ 10) (hP : Pcs p w P) (hl : IsLot P.length rs) (hv : Vals p w P rs v) :
    WF (F_law_makes_nought [.sh (toldD p wi P), .sh (.tup (nats rs)), .sh (.tup (vec v))]) fun r o => o = [.un, .un, .un] ∧ r = .d (.bl true) := by
  obtain ⟨hp1, hp2⟩ := primes_lt hpp
  have hl40 := lot_len hP.n hl
  have hvl := hv.l
  have hl1 : fLen [.tup (vec v)] = some (.d (.int ((rs.length : Nat) : Int))) := by rw [len_tup, vec_len, hv.l]
  have hl2 : fLen [.tup (nats rs)] = some (.d (.int ((rs.length : Nat) : Int))) := by rw [len_tup, nats_len]
  have hix : fIx [.tup (vec v), .int 0] = some (.d (.int 1)) := by
    have := ix_tup (i := 0) (vec_at (v := v) (j := 0) (by rw [hv.l]; exact hv.n))
    rw [hv.o] at this
    exact this
  obtain ⟨ni, hni⟩ : ∃ ni : Int, ((rs.length : Nat) : Int) = ni := ⟨_, rfl⟩
  rw [hni] at hl1 hl2
  refine wf_fn (ws_cons (ws_ite (wt_or (wt_not (wt_e (w_prim (W.of (a := [.d (.tup (vec v)), .d (.ty "tuple")]) (ρ := mnF p wi P rs v .un .un .un) rfl ⟨[.tup (vec v), .ty "tuple"], .d (.bl true), rfl, rfl, .bl true, true, rfl, rfl, fun z => absurd z (by decide), fun _ => ?_⟩)))))))
  refine wt_or (wt_eb (w_prim (wa_cons (w_prim (W.of (a := [.d (.tup (vec v))]) (ρ := mnF p wi P rs v .un .un .un) rfl ⟨[.tup (vec v)], .d (.int ni), rfl, hl1, wa_cons (w_prim (W.of (a := [.d (.tup (nats rs))]) (ρ := mnF p wi P rs v .un .un .un) rfl ⟨[.tup (nats rs)], .d (.int ni), rfl, hl2, wa_nil ⟨[.int ni, .int ni], .d (.bl false), rfl, by rw [ne_int, decide_eq_true rfl]; rfl, false, rfl, fun z => absurd z (by decide), fun _ => ?_⟩⟩))⟩)))))
  refine wt_eb (w_prim (wa_cons (w_prim (W.of (a := [.d (.tup (vec v)), .d (.int 0)]) (ρ := mnF p wi P rs v .un .un .un) rfl ⟨[.tup (vec v), .int 0], _, rfl, hix, ?_⟩))))
  refine W.of (a := [.d (.int 1)]) (ρ := mnF p wi P rs v .un .un .un) rfl ⟨[.int 1, .int 1], .d (.bl false), rfl, rfl, false, rfl, fun z => absurd z (by decide), fun _ => ws_nil ?_⟩
  -- the values
  refine ws_cons (ws_ite (wt_not (wt_e (w_prim (wa_cons (w_lcmL (l := v) (g := D.int) (e := fun _ => D.bl true) (W.of (a := [.d (.tup (vec v))]) (ρ := mnF p wi P rs v .un .un .un) rfl ⟨[.tup (vec v)], rfl, rfl, ⟨by rw [sizeLine_eq]; omega, rfl, rfl⟩, fun a ha => ?_, ?_⟩)))))))
  · obtain ⟨a0, a1⟩ := hv.r a ha
    refine ⟨mnF p wi P rs v .un (.sh (.int a)) .un, rfl, ?_⟩
    refine we_and (W.of (a := .d (.bl true)) (ρ := mnF p wi P rs v .un (.sh (.int a)) .un) rfl ⟨true, rfl, fun _ => we_and (W.of (a := .d (.bl true)) (ρ := mnF p wi P rs v .un (.sh (.int a)) .un) rfl ⟨true, rfl, fun _ => w_chain (W.of (a := .d (.int 0)) (ρ := mnF p wi P rs v .un (.sh (.int a)) .un) rfl (W.of (a := .d (.int a)) (ρ := mnF p wi P rs v .un (.sh (.int a)) .un) rfl ⟨.int 0, .int a, decide (0 < a), rfl, rfl, rfl, fun z => absurd (of_decide_eq_false z) (by omega), fun _ => ?_⟩)), fun z => absurd z (by decide)⟩), fun z => absurd z (by decide)⟩)
    refine w_prim (W.of (a := [.d (toldD p wi P), .d (.int 0)]) (ρ := mnF p wi P rs v .un (.sh (.int a)) .un) rfl ⟨[toldD p wi P, .int 0], .d (.int p), rfl, rfl, .int a, .int p, .d (.bl (decide (a < p))), rfl, rfl, rfl, mnF p wi P rs v .un (.sh (.int a)) .un, by rw [decide_eq_true a1]; rfl, rfl⟩)
  refine wa_nil ⟨[.lst (v.map fun _ => D.bl true)], .d (.bl true), rfl, ?_, .bl true, true, rfl, rfl, fun z => absurd z (by decide), fun _ => ws_nil ?_⟩
  · have := all_map (fun _ : Int => true) v
    rw [show v.all (fun _ => true) = true from List.all_eq_true.mpr fun _ _ => rfl] at this
    exact this
  refine ws_cons (ws_for (wa_cons (w_prim (W.of (a := [.d (toldD p wi P), .d (.int 1)]) (ρ := mnF p wi P rs v .un .un .un) rfl ⟨[toldD p wi P, .int 1], .d (.int wi), rfl, rfl, wa_nil ⟨[.int wi], upFrom wi.toNat 0, rfl, range1_ok (by omega) (by omega), fun j ρ => ∃ s3, ρ = mnF p wi P rs v s3 .un .un, ⟨_, rfl⟩, ?_, ?_⟩⟩))))
  · rintro j x ρ2 hx ⟨s3, rfl⟩
    obtain ⟨hj, rfl⟩ := upFrom_get _ _ _ _ hx
    have hjw : j < w := by omega
    obtain ⟨ji, hji⟩ : ∃ ji : Int, ji = 0 + (j : Int) := ⟨_, rfl⟩
    rw [← hji]
    refine ⟨mnF p wi P rs v (.sh (.int ji)) .un .un, bnd_free rfl rfl, ?_⟩
    refine ws_cons (ws_ite (wt_eb (w_prim (wa_cons (w_prim (wa_cons (w_prim (wa_cons (w_prim (wa_cons (w_lcmL (l := List.range rs.length) (g := fun k : Nat => D.tup [.int (v.getD k 0), .int ((rs.getD k 0 : Nat) : Int)]) (e := fun k : Nat => D.int (v.getD k 0 * (pcAt P (rs.getD k 0)).1.getD j 0)) (W.of (a := [.d (.tup (vec v)), .d (.tup (nats rs))]) (ρ := mnF p wi P rs v (.sh (.int ji)) .un .un) rfl ⟨[.tup (vec v), .tup (nats rs)], rfl, congrArg some (zip_vn hv.l), ⟨by rw [List.length_range, sizeLine_eq]; omega, rfl, rfl⟩, fun k hk => ?_, ?_⟩))))))))))))
    · have hk := List.mem_range.mp hk
      have hkP := hl.lt _ (getD_mem0 hk)
      have hixP := ixPL hkP
      have hg := hP.g _ (pcAt_mem hkP)
      have hvk := hv.r (v.getD k 0) (by
        rw [List.getD_eq_getElem?_getD, List.getElem?_eq_getElem (by omega)]
        exact List.getElem_mem _)
      generalize pcAt P (rs.getD k 0) = a at hixP hg
      generalize ((rs.getD k 0 : Nat) : Int) = ki at hixP
      generalize v.getD k 0 = vk at hvk
      have hixS : fIx [.tup (vec a.1), .int ji] = some (.d (.int (a.1.getD j 0))) := by rw [hji, Int.zero_add]; exact ix_tup (vec_at (by rw [hg.l]; exact hjw))
      generalize a.1.getD j 0 = s at hixS
      have hmul : fMul [.int vk, .int s] = some (.d (.int (vk * s))) := mul_ok (mulOk_l (by omega) (by omega))
      refine ⟨mnF p wi P rs v (.sh (.int ji)) (.sh (.int vk)) (.sh (.int ki)), rfl, ?_⟩
      refine w_prim (wa_cons (W.of (a := .d (.int vk)) (ρ := mnF p wi P rs v (.sh (.int ji)) (.sh (.int vk)) (.sh (.int ki))) rfl (wa_cons (w_prim (wa_cons (w_prim (wa_cons (w_prim (wa_cons (w_prim (W.of (a := [.d (toldD p wi P), .d (.int 2)]) (ρ := mnF p wi P rs v (.sh (.int ji)) (.sh (.int vk)) (.sh (.int ki))) rfl ⟨[toldD p wi P, .int 2], .d (.lst (pcsD P)), rfl, rfl, ?_⟩)))))))))))
      refine W.of (a := [.d (.int ki)]) (ρ := mnF p wi P rs v (.sh (.int ji)) (.sh (.int vk)) (.sh (.int ki))) rfl ⟨[.lst (pcsD P), .int ki], _, rfl, hixP, ?_⟩
      refine W.of (a := [.d (.int 0)]) (ρ := mnF p wi P rs v (.sh (.int ji)) (.sh (.int vk)) (.sh (.int ki))) rfl ⟨[pcD a, .int 0], .d (.tup (vec a.1)), rfl, rfl, ?_⟩
      refine W.of (a := [.d (.int ji)]) (ρ := mnF p wi P rs v (.sh (.int ji)) (.sh (.int vk)) (.sh (.int ki))) rfl ⟨[.tup (vec a.1), .int ji], _, rfl, hixS, ?_⟩
      exact wa_nil ⟨[.int vk, .int s], _, rfl, hmul, _, rfl, rfl⟩
    · have he : ((List.range rs.length).map fun k : Nat => D.int (v.getD k 0 * (pcAt P (rs.getD k 0)).1.getD j 0)) = vec ((List.range rs.length).map fun k => v.getD k 0 * (pcAt P (rs.getD k 0)).1.getD j 0) := by
        unfold vec
        rw [List.map_map]
        rfl
      have hsum := sum_vec ((List.range rs.length).map fun k => v.getD k 0 * (pcAt P (rs.getD k 0)).1.getD j 0)
      rw [range_sum] at hsum
      have hd := hv.e j hjw
      rw [he]
      generalize ((List.range rs.length).map fun k => v.getD k 0 * (pcAt P (rs.getD k 0)).1.getD j 0) = u at hsum
      generalize Lin.sumTo rs.length (fun k => v.getD k 0 * (pcAt P (rs.getD k 0)).1.getD j 0) = s at hsum hd
      have hmod : fMod [.int s, .int p] = some (.d (.int 0)) := by
        rw [fMod_ok (by omega), Int.emod_eq_zero_of_dvd hd]
      refine wa_nil ⟨[.lst (vec u)], _, rfl, hsum, wa_nil ⟨[.int s], .d (.int s), rfl, rfl, ?_⟩⟩
      refine wa_cons (w_prim (W.of (a := [.d (toldD p wi P), .d (.int 0)]) (ρ := mnF p wi P rs v (.sh (.int ji)) .un .un) rfl ⟨[toldD p wi P, .int 0], .d (.int p), rfl, rfl, wa_nil ⟨[.int s, .int p], _, rfl, hmod, ?_⟩⟩))
      exact W.of (a := [.d (.int 0)]) (ρ := mnF p wi P rs v (.sh (.int ji)) .un .un) rfl ⟨[.int 0, .int 0], .d (.bl false), rfl, rfl, false, rfl, fun z => absurd z (by decide), fun _ => ws_nil (ws_nil ⟨_, rfl⟩)⟩
  · rintro ρ2 ⟨s3, rfl⟩
    rw [unlocks0 fun i => rfl]
    exact ws_cons (ws_ret (W.of (a := .d (.bl true)) (ρ := mnF p wi P rs v s3 .un .un) rfl ⟨.d (.bl true), _, rfl, rfl, rfl⟩))
end
end Ev

namespace Ev
open PySem L2
theorem drop_cut (xs : List D) (i : Nat) : cutD xs (some (i : Int)) none = xs.drop i := by
  by_cases h : i ≤ xs.length
  · exact cutL_eq h
  · have h1 : xs.drop i = xs.drop xs.length := by rw [List.drop_length, List.drop_of_length_le (by omega)]
    have e : HT.sIx xs.length 0 (some (i : Int)) = xs.length := by
      show (if (i : Int) < 0 then ((i : Int) + (xs.length : Int)).toNat else min (i : Int).toNat xs.length) = _
      rw [if_neg (by omega)]
      omega
    have e' : HT.sIx xs.length 0 (some ((xs.length : Nat) : Int)) = xs.length := by
      show (if ((xs.length : Nat) : Int) < 0 then (((xs.length : Nat) : Int) + (xs.length : Int)).toNat else min ((xs.length : Nat) : Int).toNat xs.length) = _
      rw [if_neg (by omega)]
      omega
    have := cutL_eq (xs := xs) (Nat.le_refl xs.length)
    rw [h1, ← this]
    unfold cutD
    rw [e, e']
theorem take_cut (xs : List D) (i : Nat) : cutD xs none (some (i : Int)) = xs.take i := by
  by_cases h : i ≤ xs.length
  · exact cutH_eq h
  · have h1 : xs.take i = xs.take xs.length := by rw [List.take_length, List.take_of_length_le (by omega)]
    have e : HT.sIx xs.length xs.length (some (i : Int)) = xs.length := by
      show (if (i : Int) < 0 then ((i : Int) + (xs.length : Int)).toNat else min (i : Int).toNat xs.length) = _
      rw [if_neg (by omega)]
      omega
    have e' : HT.sIx xs.length xs.length (some ((xs.length : Nat) : Int)) = xs.length := by
      show (if ((xs.length : Nat) : Int) < 0 then (((xs.length : Nat) : Int) + (xs.length : Int)).toNat else min ((xs.length : Nat) : Int).toNat xs.length) = _
      rw [if_neg (by omega)]
      omega
    have := cutH_eq (xs := xs) (Nat.le_refl xs.length)
    rw [h1, ← this]
    unfold cutD
    rw [e, e']
theorem drop_nats (l : List Nat) (i : Nat) : fCutL [.tup (nats l), .int (i : Int)] = some (.d (.tup (nats (l.drop i)))) := by
  show some (RB.d (.tup (cutD (nats l) (some (i : Int)) none))) = _
  rw [drop_cut]
  unfold nats
  rw [List.map_drop]
theorem take_nats (l : List Nat) (i : Nat) : fCutH [.lst (nats l), .int (i : Int)] = some (.nw (nats (l.take i))) := by
  show some (RB.nw (cutD (nats l) none (some (i : Int)))) = _
  rw [take_cut]
  unfold nats
  rw [List.map_take]
theorem ne_nats_self (l : List Nat) : fNe [.tup (nats l), .tup (nats l)] = some (.d (.bl false)) := by
  rw [ne_nats, decide_eq_true rfl]
  rfl
section
variable {p wi : Int} {w : Nat} {P : List Pc}
theorem is_ring_circ {rs : List Nat} (hpp : p ∈ primes) (h2 : w ≤ 10) (hP : Pcs p w P) (h : Circ p w P rs) :
    WF (F_is_ring [.sh (webD p wi P), .sh (.tup (nats rs))]) fun r o => o = [.un, .un] ∧ r = .d (.bl true) := by
  refine WF.mono (is_ring_ok hpp h2 hP h.lot) ?_
  rintro r o ⟨rfl, b, r', rfl, hc, hb⟩
  obtain ⟨c, m, rfl, _⟩ := circ_closing hpp h2 hP h hc
  cases b with
  | true => exact ⟨rfl, rfl⟩
  | false => exact absurd (hb.mp rfl) (by simp)
theorem is_ring_ind {L : List Nat} (hpp : p ∈ primes) (h2 : w ≤ 10) (hP : Pcs p w P) (hL : IsLot P.length L) (hk : rk p w P L = L.length) :
    WF (F_is_ring [.sh (webD p wi P), .sh (.tup (nats L))]) fun r o => o = [.un, .un] ∧ r = .d (.bl false) := by
  refine WF.mono (is_ring_ok hpp h2 hP hL) ?_
  rintro r o ⟨rfl, b, r', rfl, hc, hb⟩
  rcases hc with ⟨q, _⟩ | ⟨c, m, rfl, _, hm, hT, _⟩
  · exact ⟨rfl, by rw [hb.mpr q]⟩
  · rw [picks_len] at hm
    exact absurd (rk_full.mp hk m hm) hT
theorem is_ring_with {rs : List Nat} {k y : Nat} (hpp : p ∈ primes) (h2 : w ≤ 10) (hP : Pcs p w P) (h : Circ p w P rs) (hk : k ∈ rs) (hy : y < P.length) (hyr : y ∉ rs) (hi : rk p w P (dropK rs k ++ [y]) = rs.length) :
    WF (F_is_ring [.sh (webD p wi P), .sh (.tup (nats (srtN (rs ++ [y]))))]) fun r o => o = [.un, .un] ∧ r = .d (.bl false) := by
  have hlot := srtN_lot (snoc_nodup (lot_nodup h.lot) hyr) (m := P.length) fun k hk => by
    rcases List.mem_append.mp hk with hk | hk
    · exact h.lot.lt k hk
    · have : k = y := by simpa using hk
      rw [this]; exact hy
  refine WF.mono (is_ring_ok hpp h2 hP hlot) ?_
  rintro r o ⟨rfl, b, r', rfl, hc, hb⟩
  rcases hc with ⟨q, _⟩ | ⟨c, m, rfl, hc, _, _, _, hz⟩
  · exact ⟨rfl, by rw [hb.mpr q]⟩
  · obtain ⟨j, hj, e⟩ := circ_with hpp h2 hP h hk hy hyr hi hc
    exact absurd e (hz j hj)
def lmF (sc : List D) (h : List D) (p wi : Int) (P : List Pc) (al l5 l : List Nat) (s7 s8 s9 s10 : Slot) : Env := ⟨[.sh (.ro sc), .ow h, .sh (toldD p wi P), .sh (webD p wi P), .sh (.tup (nats al)), .sh (.tup (nats l5)), .sh (.tup (nats l)), s7, s8, s9, s10], [.un]⟩
def LInv (sc : List D) (g : List Int) (p wi : Int) (P : List Pc) (al l5 l : List Nat) (ρ : Env) : Prop := ∃ h s7 s8 s9, ρ = lmF sc h p wi P al l5 l s7 s8 s9 .un ∧ Tap g h
def ringBody : Ss := match ir_law with
  | .cons _ (.cons _ (.cons _ (.cons _ (.cons _ (.cons (.for _ _ _ b) _))))) => b
  | _ => .nil
theorem law_turn {sc : List D} {g : List Int} {h : List D} {al l5 l : List Nat} {x : Nat} {xi : Int} {s8 s9 : Slot} (hpp : p ∈ primes) (hw : wi = w) (h2 : w ≤ 10) (hP : Pcs p w P) (hl : IsLot P.length l) (e : xi = x) (hx : x < P.length) (hxl : x ∉ l) (hk : rk p w P l = l.length) (T : Tap g h) {rt : B → Env → Prop} {bk : Env → Prop} :
    WS (evSs ringBody (lmF sc h p wi P al l5 l (.sh (.int xi)) s8 s9 .un)) (LInv sc g p wi P al l5 l) rt bk := by
  have hl40 := lot_len hP.n hl
  refine ws_cons (ws_asgV (w_call (W.of (a := [.d (toldD p wi P), .d (.tup (nats l)), .d (.int xi)]) (ρ := lmF sc h p wi P al l5 l (.sh (.int xi)) s8 s9 .un) rfl ⟨rfl, [.sh (toldD p wi P), .sh (.tup (nats l)), .sh (.int xi)], rfl, WF.mono (law_ring_ok hpp h2 hP hl e hx) ?_⟩)))
  rintro r o ⟨rfl, ⟨rfl, hr⟩ | ⟨hr, rfl⟩⟩
  · rw [back0 fun i => rfl]
    refine ⟨rfl, lmF sc h p wi P al l5 l (.sh (.int xi)) (.sh .non) s9 .un, bnd_free rfl rfl, ?_⟩
    refine ws_cons (ws_ite (wt_eb (w_prim (wa_cons (w_call (W.of (a := [.d (webD p wi P), .d (.tup (nats l)), .d (.int xi)]) (ρ := lmF sc h p wi P al l5 l (.sh (.int xi)) (.sh .non) s9 .un) rfl ⟨rfl, [.sh (webD p wi P), .sh (.tup (nats l)), .sh (.int xi)], rfl, WF.mono (ring_ok hpp hw h2 hP hl e hx hxl hk) ?_⟩))))))
    rintro r o ⟨rfl, ⟨rfl, _⟩ | ⟨c, _, _, q, _⟩⟩
    · rw [back0 fun i => rfl]
      refine W.of (a := [.d .non]) (ρ := lmF sc h p wi P al l5 l (.sh (.int xi)) (.sh .non) s9 .un) rfl ⟨[.non, .non], .d (.bl false), rfl, rfl, false, rfl, fun z => absurd z (by decide), fun _ => ws_nil ?_⟩
      exact ws_cons (ws_ite (W.of (a := false) (ρ := lmF sc h p wi P al l5 l (.sh (.int xi)) (.sh .non) s9 .un) rfl ⟨fun z => absurd z (by decide), fun _ => ws_nil (ws_nil ⟨h, _, _, _, rfl, T⟩)⟩))
    · exact absurd hr q
  · rw [back0 fun i => rfl]
    refine ⟨rfl, lmF sc h p wi P al l5 l (.sh (.int xi)) (.sh (.tup (nats (srtN (rfl' p w P l x ++ [x]))))) s9 .un, bnd_free rfl rfl, ?_⟩
    refine ws_cons (ws_ite (wt_eb (w_prim (wa_cons (w_call (W.of (a := [.d (webD p wi P), .d (.tup (nats l)), .d (.int xi)]) (ρ := lmF sc h p wi P al l5 l (.sh (.int xi)) (.sh (.tup (nats (srtN (rfl' p w P l x ++ [x]))))) s9 .un) rfl ⟨rfl, [.sh (webD p wi P), .sh (.tup (nats l)), .sh (.int xi)], rfl, WF.mono (ring_ok hpp hw h2 hP hl e hx hxl hk) ?_⟩))))))
    rintro r o ⟨rfl, ⟨_, q⟩ | ⟨c, hc, h1, _, rfl⟩⟩
    · exact absurd q hr
    rw [back0 fun i => rfl]
    have hC := circ_of hpp h2 hP hl hx hxl hk hc h1
    have hpm := srtN_perm (rfl' p w P l x ++ [x])
    have hxr : x ∈ srtN (rfl' p w P l x ++ [x]) := hpm.mem_iff.mpr (by simp)
    have hrl : ∀ y ∈ srtN (rfl' p w P l x ++ [x]), y ≠ x → y ∈ l := fun y hy hyx => by
      rcases List.mem_append.mp (hpm.mem_iff.mp hy) with q | q
      · exact (List.mem_filter.mp q).1
      · exact absurd (by simpa using q) hyx
    generalize srtN (rfl' p w P l x ++ [x]) = rs at hC hxr hrl
    have hrs40 := lot_len hP.n hC.lot
    have hrn := lot_nodup hC.lot
    refine W.of (a := [.d (.tup (nats rs))]) (ρ := lmF sc h p wi P al l5 l (.sh (.int xi)) (.sh (.tup (nats rs))) s9 .un) rfl ⟨[.tup (nats rs), .tup (nats rs)], _, rfl, ne_nats_self rs, false, rfl, fun z => absurd z (by decide), fun _ => ws_nil ?_⟩
    refine ws_cons (ws_ite (W.of (a := true) (ρ := lmF sc h p wi P al l5 l (.sh (.int xi)) (.sh (.tup (nats rs))) s9 .un) rfl ⟨fun _ => ?_, fun z => absurd z (by decide)⟩))
    -- a ring, and its values
    refine ws_cons (ws_ite (wt_or (wt_eb (w_prim (wa_cons (w_call (W.of (a := [.d (webD p wi P), .d (.tup (nats rs))]) (ρ := lmF sc h p wi P al l5 l (.sh (.int xi)) (.sh (.tup (nats rs))) s9 .un) rfl ⟨rfl, [.sh (webD p wi P), .sh (.tup (nats rs))], rfl, WF.mono (is_ring_circ hpp h2 hP hC) ?_⟩)))))))
    rintro r o ⟨rfl, rfl⟩
    rw [back0 fun i => rfl]
    refine W.of (a := [.d (.bl true)]) (ρ := lmF sc h p wi P al l5 l (.sh (.int xi)) (.sh (.tup (nats rs))) s9 .un) rfl ⟨[.bl true, .bl true], .d (.bl false), rfl, rfl, false, rfl, fun z => absurd z (by decide), fun _ => ?_⟩
    refine wt_not (wt_e (w_call (wa_cons (W.of (a := .d (toldD p wi P)) (ρ := lmF sc h p wi P al l5 l (.sh (.int xi)) (.sh (.tup (nats rs))) s9 .un) rfl (wa_cons (W.of (a := .d (.tup (nats rs))) (ρ := lmF sc h p wi P al l5 l (.sh (.int xi)) (.sh (.tup (nats rs))) s9 .un) rfl (wa_cons (w_call (W.of (a := [.d (webD p wi P), .d (.tup (nats rs))]) (ρ := lmF sc h p wi P al l5 l (.sh (.int xi)) (.sh (.tup (nats rs))) s9 .un) rfl ⟨rfl, [.sh (webD p wi P), .sh (.tup (nats rs))], rfl, WF.mono (ring_values_ok hpp h2 hP hC) ?_⟩)))))))))
    rintro r o ⟨rfl, v, rfl, hv⟩
    rw [back0 fun i => rfl]
    refine wa_nil ⟨rfl, [.sh (toldD p wi P), .sh (.tup (nats rs)), .sh (.tup (vec v))], rfl, WF.mono (makes_nought_ok hpp hw h2 hP hC.lot hv) ?_⟩
    rintro r o ⟨rfl, rfl⟩
    rw [back0 fun i => rfl]
    refine ⟨.bl true, true, rfl, rfl, fun z => absurd z (by decide), fun _ => ws_nil ?_⟩
    -- without one
    have hne : nats rs ≠ [] := by
      unfold nats
      intro q
      rw [List.map_eq_nil_iff] at q
      rw [q] at hxr
      cases hxr
    have hany : ∀ s : Slot, s = .sh (.tup (nats rs)) → WF (F_law_any [.ow h, s]) fun r o => ∃ d h', r = .d d ∧ o = [.ow h', .un] ∧ d ∈ nats rs ∧ Tap g h' := fun s es => by
      have := any_ok (g := g) (h := h) (xs := nats rs) (s := s) (by rw [es]; exact .tup) hne (by rw [nats_len]; omega) T
      rw [es] at this ⊢
      exact this
    refine ws_cons (ws_ite (wt_eb (w_prim (wa_cons (w_call (wa_cons (W.of (a := .d (webD p wi P)) (ρ := lmF sc h p wi P al l5 l (.sh (.int xi)) (.sh (.tup (nats rs))) s9 .un) rfl (wa_cons (w_call (wa_cons (W.of (a := .d (.tup (nats rs))) (ρ := lmF sc h p wi P al l5 l (.sh (.int xi)) (.sh (.tup (nats rs))) s9 .un) rfl (wa_cons (w_call (W.of (a := [.loc 1, .d (.tup (nats rs))]) (ρ := lmF sc h p wi P al l5 l (.sh (.int xi)) (.sh (.tup (nats rs))) s9 .un) rfl ⟨rfl, [.ow h, .sh (.tup (nats rs))], rfl, WF.mono (hany _ rfl) ?_⟩))))))))))))))
    rintro r o ⟨d, h', rfl, rfl, hd, T'⟩
    rw [backI (i := 1) (h' := h') rfl (fun j => by rcases j with _ | _ | j <;> rfl)]
    obtain ⟨k, hkr, rfl⟩ : ∃ k, k ∈ rs ∧ d = .int ((k : Nat) : Int) := by
      unfold nats at hd
      obtain ⟨k, hk, rfl⟩ := List.mem_map.mp hd
      exact ⟨k, hk, rfl⟩
    obtain ⟨ki, hki⟩ : ∃ ki : Int, ki = ((k : Nat) : Int) := ⟨_, rfl⟩
    rw [← hki]
    refine wa_nil ⟨rfl, [.sh (.tup (nats rs)), .sh (.int ki)], rfl, WF.mono (law_without_ok hki (by omega)) ?_⟩
    rintro r o ⟨rfl, rfl⟩
    rw [back0 fun i => rfl]
    refine wa_nil ⟨rfl, [.sh (webD p wi P), .sh (.tup (nats (dropK rs k)))], rfl, WF.mono (is_ring_ind hpp h2 hP (lot_filter hC.lot _) (hC.ind k hkr)) ?_⟩
    rintro r o ⟨rfl, rfl⟩
    rw [back0 fun i => rfl]
    refine W.of (a := [.d (.bl false)]) (ρ := lmF sc h' p wi P al l5 l (.sh (.int xi)) (.sh (.tup (nats rs))) s9 .un) rfl ⟨[.bl false, .bl false], .d (.bl false), rfl, rfl, false, rfl, fun z => absurd z (by decide), fun _ => ws_nil ?_⟩
    -- with one more
    refine ws_cons (ws_asgV (w_lcfL (l := l) (g := fun k : Nat => D.int (k : Int)) (e := fun k : Nat => D.int (k : Int)) (q := fun k => !decide (k ∈ rs)) (W.of (a := [.d (.tup (nats l))]) (ρ := lmF sc h' p wi P al l5 l (.sh (.int xi)) (.sh (.tup (nats rs))) s9 .un) rfl ⟨[.tup (nats l)], rfl, rfl, ⟨by rw [sizeLine_eq]; omega, rfl, rfl⟩, fun y hy => ?_, ?_⟩)))
    · rw [locks0 fun i => rfl]
      obtain ⟨yi, hyi⟩ : ∃ yi : Int, yi = ((y : Nat) : Int) := ⟨_, rfl⟩
      rw [← hyi]
      refine ⟨lmF sc h' p wi P al l5 l (.sh (.int xi)) (.sh (.tup (nats rs))) s9 (.sh (.int yi)), rfl, ?_⟩
      exact wt_eb (w_prim (W.of (a := [.d (.int yi), .d (.tup (nats rs))]) (ρ := lmF sc h' p wi P al l5 l (.sh (.int xi)) (.sh (.tup (nats rs))) s9 (.sh (.int yi))) rfl ⟨[.int yi, .tup (nats rs)], _, rfl, notIn_nats hyi rs, _, rfl, rfl, fun _ => W.of (a := .d (.int yi)) rfl ⟨_, rfl, rfl⟩, rfl⟩))
    · rw [locks0 fun i => rfl, unlocks0 fun i => rfl]
      have hF : ∀ y ∈ l.filter (fun k => !decide (k ∈ rs)), y ∈ l ∧ y ∉ rs := fun y hy => by
        obtain ⟨a, b⟩ := List.mem_filter.mp hy
        exact ⟨a, by simpa using b⟩
      show _ ∧ ∃ ρ3, bindB _ 9 (.nw (nats (l.filter fun k => !decide (k ∈ rs)))) = some ρ3 ∧ _
      generalize l.filter (fun k => !decide (k ∈ rs)) = F at hF
      refine ⟨rfl, lmF sc h' p wi P al l5 l (.sh (.int xi)) (.sh (.tup (nats rs))) (.ow (nats F)) .un, bnd_free rfl rfl, ?_⟩
      cases F with
      | nil =>
        exact ws_cons (ws_ite (wt_and (W.of (a := false) (ρ := lmF sc h' p wi P al l5 l (.sh (.int xi)) (.sh (.tup (nats rs))) (.ow (nats [])) .un) rfl ⟨fun z => absurd z (by decide), fun _ => ⟨fun z => absurd z (by decide), fun _ => ws_nil (ws_nil (ws_nil ⟨h', _, _, _, rfl, T'⟩))⟩⟩)))
      | cons y F =>
        obtain ⟨hyl, hyr⟩ := hF y (by simp)
        have hlen : fLen [.lst (nats (y :: F))] = some (.d (.int (((y :: F).length : Nat) : Int))) := by rw [len_lst, nats_len]
        have hpos : (((y :: F).length : Nat) : Int) > 0 := by simp
        generalize (((y :: F).length : Nat) : Int) = ni at hlen hpos
        refine ws_cons (ws_ite (wt_and (wt_eb (w_prim (wa_cons (w_prim (W.of (a := [.loc 9]) (ρ := lmF sc h' p wi P al l5 l (.sh (.int xi)) (.sh (.tup (nats rs))) (.ow (nats (y :: F))) .un) rfl ⟨[.lst (nats (y :: F))], .d (.int ni), rfl, hlen, ?_⟩)))))))
        refine W.of (a := [.d (.int 0)]) (ρ := lmF sc h' p wi P al l5 l (.sh (.int xi)) (.sh (.tup (nats rs))) (.ow (nats (y :: F))) .un) rfl ⟨[.int ni, .int 0], .d (.bl (decide (ni > 0))), rfl, rfl, _, rfl, fun _ => ?_, fun z => absurd (of_decide_eq_false z) (by omega)⟩
        have hd1 := drop_len1 hrn hxr
        have hi : rk p w P (dropK rs x ++ [y]) = rs.length := by
          have hnd : (dropK rs x ++ [y]).Nodup := snoc_nodup (drop_nodup hrn x) fun q => hyr (mem_drop.mp q).1
          have := ind_sub hpp h2 hP (L := l) (by omega) hl.lt (lot_nodup hl) hnd (fun z hz => by
            rcases List.mem_append.mp hz with hz | hz
            · obtain ⟨a, b⟩ := mem_drop.mp hz
              exact hrl z a b
            · have : z = y := by simpa using hz
              rw [this]; exact hyl) hk
          rw [this, List.length_append]
          exact hd1
        have hix : fIx [.lst (nats (y :: F)), .int 0] = some (.d (.int ((y : Nat) : Int))) := ix_lst (i := 0) rfl
        obtain ⟨yi, hyi⟩ : ∃ yi : Int, yi = ((y : Nat) : Int) := ⟨_, rfl⟩
        rw [← hyi] at hix
        refine wt_eb (w_prim (wa_cons (w_call (wa_cons (W.of (a := .d (webD p wi P)) (ρ := lmF sc h' p wi P al l5 l (.sh (.int xi)) (.sh (.tup (nats rs))) (.ow (nats (y :: F))) .un) rfl (wa_cons (w_call (wa_cons (W.of (a := .d (.tup (nats rs))) (ρ := lmF sc h' p wi P al l5 l (.sh (.int xi)) (.sh (.tup (nats rs))) (.ow (nats (y :: F))) .un) rfl (wa_cons (w_prim (W.of (a := [.loc 9, .d (.int 0)]) (ρ := lmF sc h' p wi P al l5 l (.sh (.int xi)) (.sh (.tup (nats rs))) (.ow (nats (y :: F))) .un) rfl ⟨[.lst (nats (y :: F)), .int 0], _, rfl, hix, wa_nil ⟨rfl, [.sh (.tup (nats rs)), .sh (.int yi)], rfl, WF.mono (law_with_ok hyi (by omega)) ?_⟩⟩))))))))))))
        rintro r o ⟨rfl, rfl⟩
        refine wa_nil ⟨rfl, [.sh (webD p wi P), .sh (.tup (nats (srtN (rs ++ [y]))))], rfl, WF.mono (is_ring_with hpp h2 hP hC hxr (hl.lt y hyl) hyr hi) ?_⟩
        rintro r o ⟨rfl, rfl⟩
        exact W.of (a := [.d (.bl false)]) (ρ := lmF sc h' p wi P al l5 l (.sh (.int xi)) (.sh (.tup (nats rs))) (.ow (nats (y :: F))) .un) rfl ⟨[.bl false, .bl false], .d (.bl false), rfl, rfl, false, rfl, fun z => absurd z (by decide), fun _ => ws_nil (ws_nil (ws_nil ⟨h', _, _, _, rfl, T'⟩))⟩
end
end Ev

namespace Ev
open PySem L2
def maF (sc : List D) (h : List D) (s2 s3 s4 s5 s6 : Slot) : Env := ⟨[.sh (.ro sc), .ow h, s2, s3, s4, s5, s6, .un, .un, .un, .un], [.un]⟩
theorem law_for {sc : List D} {g : List Int} {h : List D} {p wi : Int} {w : Nat} {P : List Pc} {l5 l : List Nat} (hpp : p ∈ primes) (hw : wi = w) (h2 : w ≤ 10) (hP : Pcs p w P) (hl : IsLot P.length l) (hk : rk p w P l = l.length) (T : Tap g h) {nx : Env → Prop} {rt : B → Env → Prop} {bk : Env → Prop} (hn : ∀ ρ, LInv sc g p wi P (List.range P.length) l5 l ρ → nx ρ) :
    WS (evS (.for (.n 7) itSeq (.cons (.prim fCutH (.cons (.call F_law_mixed (.cons (.var 1) (.cons (.lc [10] (.n 10) itSeq (.cons (.var 4) .nil) (.some (.eb (.prim fNotInM (.cons (.var 10) (.cons (.var 6) .nil))))) (.var 10)) (.nil)))) (.cons (.con (.int 12)) .nil))) .nil) ringBody) (lmF sc h p wi P (List.range P.length) l5 l .un .un .un .un)) nx rt bk := by
  have hn40 := hP.n
  have hR1 : (List.range P.length).length = P.length := List.length_range
  have hR2 : (List.range P.length).Nodup := List.nodup_range
  have hR3 : ∀ k ∈ List.range P.length, k < P.length := fun k hk => List.mem_range.mp hk
  generalize List.range P.length = R at hR1 hR2 hR3 hn ⊢
  have hF : ∀ k ∈ R.filter (fun k => !decide (k ∈ l)), k < P.length ∧ k ∉ l := fun k hk => by
    obtain ⟨a, b⟩ := List.mem_filter.mp hk
    exact ⟨hR3 k a, by simpa using b⟩
  have hFl : (R.filter (fun k => !decide (k ∈ l))).length ≤ 40 := Nat.le_trans (List.length_filter_le _ _) (by omega)
  refine ws_for (wa_cons (w_prim (wa_cons (w_call (wa_cons (W.of (a := .loc 1) (ρ := lmF sc h p wi P R l5 l .un .un .un .un) rfl (wa_cons (w_lcfL (l := R) (g := fun k : Nat => D.int (k : Int)) (e := fun k : Nat => D.int (k : Int)) (q := fun k => !decide (k ∈ l)) (W.of (a := [.d (.tup (nats R))]) (ρ := lmF sc h p wi P R l5 l .un .un .un .un) rfl ⟨[.tup (nats R)], rfl, rfl, ⟨by rw [sizeLine_eq]; omega, rfl, rfl⟩, fun y hy => ?_, ?_⟩)))))))))
  · obtain ⟨yi, hyi⟩ : ∃ yi : Int, yi = ((y : Nat) : Int) := ⟨_, rfl⟩
    rw [← hyi]
    refine ⟨lmF sc h p wi P R l5 l .un .un .un (.sh (.int yi)), rfl, ?_⟩
    exact wt_eb (w_prim (W.of (a := [.d (.int yi), .d (.tup (nats l))]) (ρ := lmF sc h p wi P R l5 l .un .un .un (.sh (.int yi))) rfl ⟨[.int yi, .tup (nats l)], _, rfl, notIn_nats hyi l, _, rfl, rfl, fun _ => W.of (a := .d (.int yi)) rfl ⟨_, rfl, rfl⟩, rfl⟩))
  · have hnn : (R.filter (fun k => !decide (k ∈ l))).map (fun k : Nat => D.int (k : Int)) = nats (R.filter (fun k => !decide (k ∈ l))) := rfl
    rw [hnn]
    generalize R.filter (fun k => !decide (k ∈ l)) = F at hF hFl
    have hz : (nats F).length ≤ 1000 := by rw [nats_len]; omega
    generalize hnf : nats F = nf at hz
    generalize hsl : Slot.ow nf = sl
    have hq : Seq nf sl := by rw [← hsl]; exact .ow
    have ha : sl.after = .ow nf := by rw [← hsl]; rfl
    refine wa_nil ⟨rfl, [.ow h, sl], by rw [← hsl]; rfl, WF.mono (mixed_ok hq hz T) ?_⟩
    rintro r o ⟨ys, h', rfl, rfl, hp, T'⟩
    rw [ha]
    rw [backI (i := 1) (h' := h') rfl (fun j => by rcases j with _ | _ | j <;> rfl)]
    rw [← hnf] at hp
    obtain ⟨L, rfl, hL⟩ := perm_nats hp
    refine W.of (a := [.d (.int 12)]) (ρ := lmF sc h' p wi P R l5 l .un .un .un .un) rfl ⟨[.lst (nats L), .int 12], _, rfl, take_nats L 12, wa_nil ⟨[.lst (nats (L.take 12))], nats (L.take 12), rfl, rfl, fun j ρ => LInv sc g p wi P R l5 l ρ, ⟨h', _, _, _, rfl, T'⟩, ?_, ?_⟩⟩
    · rintro j x ρ2 hx ⟨h, s7, s8, s9, rfl, T⟩
      obtain ⟨hj, rfl⟩ := nats_get hx
      obtain ⟨hx1, hx2⟩ := hF _ (hL.mem_iff.mp (List.mem_of_mem_take (getD_mem0 hj)))
      generalize (L.take 12).getD j 0 = y at hx1 hx2
      obtain ⟨yi, hyi⟩ : ∃ yi : Int, yi = ((y : Nat) : Int) := ⟨_, rfl⟩
      rw [← hyi]
      exact ⟨lmF sc h p wi P R l5 l (.sh (.int yi)) s8 s9 .un, bnd_free rfl rfl, law_turn hpp hw h2 hP hl hyi hx1 hx2 hk T⟩
    · rintro ρ2 ⟨h, s7, s8, s9, rfl, T⟩
      rw [unlocks0 fun i => rfl]
      exact hn _ ⟨h, _, _, _, rfl, T⟩
theorem law_wf (ns : List Int) (hl : ns.length ≤ 63) : WF (F_law [.sh (.ro (ns.map D.int))]) fun r o => r = .d (.bl true) := by
  refine wf_fn (ws_cons (ws_asgV (w_call (W.of (a := [.d (.ro (ns.map D.int))]) (ρ := ⟨[.sh (.ro (ns.map D.int)), .un, .un, .un, .un, .un, .un, .un, .un, .un, .un], [.un]⟩) rfl ⟨rfl, [.sh (.ro (ns.map D.int))], rfl, WF.mono (tape_ok ns hl) ?_⟩))))
  rintro r o ⟨h, rfl, rfl, T⟩
  rw [back0 (fun i => rfl)]
  refine ⟨rfl, maF (ns.map D.int) h .un .un .un .un .un, rfl, ?_⟩
  generalize hsc : ns.map D.int = sc
  refine ws_cons (ws_asgV (w_call (W.of (a := [.loc 1, .d (.int 30)]) (ρ := maF sc h .un .un .un .un .un) rfl ⟨rfl, [.ow h, .sh (.int 30)], rfl, WF.mono (law_great_ok (by decide) T) ?_⟩)))
  rintro r o ⟨p, wi, w, P, h, rfl, rfl, hpp, hw, h1, h2, hP, T⟩
  rw [backI (i := 1) (h' := h) rfl (fun j => by rcases j with _ | _ | j <;> rfl)]
  refine ⟨rfl, maF sc h (.sh (toldD p wi P)) .un .un .un .un, rfl, ?_⟩
  have hn40 := hP.n
  refine ws_cons (ws_par (w_call (wa_cons (w_prim (W.of (a := [.d (toldD p wi P), .d (.int 0)]) (ρ := maF sc h (.sh (toldD p wi P)) .un .un .un .un) rfl ⟨[toldD p wi P, .int 0], .d (.int p), rfl, rfl, wa_cons (w_prim (W.of (a := [.d (toldD p wi P), .d (.int 1)]) (ρ := maF sc h (.sh (toldD p wi P)) .un .un .un .un) rfl ⟨[toldD p wi P, .int 1], .d (.int wi), rfl, rfl, ?_⟩))⟩)))))
  refine wa_cons (w_prim (wa_cons (w_prim (W.of (a := [.d (toldD p wi P), .d (.int 2)]) (ρ := maF sc h (.sh (toldD p wi P)) .un .un .un .un) rfl ⟨[toldD p wi P, .int 2], .d (.lst (pcsD P)), rfl, rfl, wa_nil ⟨[.lst (pcsD P)], .d (.tup (pcsD P)), rfl, rfl, wa_nil ⟨rfl, [.sh (.int p), .sh (.int wi), .sh (.tup (pcsD P))], rfl, WF.of (web_ok hpp hw h1 h2 hP) ?_⟩⟩⟩))))
  rw [back0 (fun i => rfl)]
  refine w_call (W.of (a := [.d (toldD p wi P)]) (ρ := maF sc h (.sh (toldD p wi P)) .un .un .un .un) rfl ⟨rfl, [.sh (toldD p wi P)], rfl, WF.mono (law_all_ok (by omega)) ?_⟩)
  rintro r o ⟨rfl, rfl⟩
  rw [back0 (fun i => rfl)]
  refine ⟨.d (webD p wi P), maF sc h (.sh (toldD p wi P)) .un .un .un .un, .d (.tup (nats (List.range P.length))), maF sc h (.sh (toldD p wi P)) .un .un .un .un, maF sc h (.sh (toldD p wi P)) (.sh (webD p wi P)) .un .un .un, maF sc h (.sh (toldD p wi P)) (.sh (webD p wi P)) (.sh (.tup (nats (List.range P.length)))) .un .un, rfl, rfl, rfl, rfl, ?_⟩
  have hρ : ∀ ρ0, ρ0 = maF sc h (.sh (toldD p wi P)) (.sh (webD p wi P)) (.sh (.tup (nats (List.range P.length)))) .un .un → evA (.cons (.var 1) (.cons (.var 2) (.cons (.var 4) (.nil)))) ρ0 = .ok [.loc 1, .d (toldD p wi P), .d (.tup (nats (List.range P.length)))] ρ0 := fun ρ0 e => by rw [e]; rfl
  have hρ2 : ∀ ρ0, ρ0 = maF sc h (.sh (toldD p wi P)) (.sh (webD p wi P)) (.sh (.tup (nats (List.range P.length)))) .un .un → args ρ0 [.loc 1, .d (toldD p wi P), .d (.tup (nats (List.range P.length)))] = some [.ow h, .sh (toldD p wi P), .sh (.tup (nats (List.range P.length)))] := fun ρ0 e => by rw [e]; rfl
  generalize h0 : maF sc h (.sh (toldD p wi P)) (.sh (webD p wi P)) (.sh (.tup (nats (List.range P.length)))) .un .un = ρ0
  have e1 := hρ ρ0 h0.symm
  have e2 := hρ2 ρ0 h0.symm
  clear hρ hρ2
  generalize hsl : Slot.sh (.tup (nats (List.range P.length))) = sl at e2
  refine ws_cons (ws_asgV (w_call (W.of e1 ⟨rfl, _, e2, WF.mono (law_lean_ok hsl hpp h2 hP T) ?_⟩)))
  rintro r o ⟨l5, h, rfl, rfl, hl5, hk5, T⟩
  rw [← h0]
  rw [backI (i := 1) (h' := h) rfl (fun j => by rcases j with _ | _ | j <;> rfl)]
  refine ⟨rfl, maF sc h (.sh (toldD p wi P)) (.sh (webD p wi P)) (.sh (.tup (nats (List.range P.length)))) (.sh (.tup (nats l5))) .un, rfl, ?_⟩
  have hl540 := lot_len hP.n hl5
  have fin : ∀ (l : List Nat) (h : List D), IsLot P.length l → rk p w P l = l.length → Tap ns h → WS (evSs (.cons (.for (.n 7) itSeq (.cons (.prim fCutH (.cons (.call F_law_mixed (.cons (.var 1) (.cons (.lc [10] (.n 10) itSeq (.cons (.var 4) .nil) (.some (.eb (.prim fNotInM (.cons (.var 10) (.cons (.var 6) .nil))))) (.var 10)) (.nil)))) (.cons (.con (.int 12)) .nil))) .nil) ringBody) (.cons (.ret (.con (.bl true))) (.nil))) (lmF sc h p wi P (List.range P.length) l5 l .un .un .un .un)) (fun ρ => RB.d D.non = .d (.bl true)) (fun b ρ => ∃ r ρ', retB ρ b = some (r, ρ') ∧ r = .d (.bl true)) (fun _ => False) := fun l h hl hk T => by
    refine ws_cons (law_for hpp hw h2 hP hl hk T ?_)
    rintro ρ ⟨h, s7, s8, s9, rfl, T⟩
    exact ws_cons (ws_ret (W.of (a := .d (.bl true)) (ρ := lmF sc h p wi P (List.range P.length) l5 l s7 s8 s9 .un) rfl ⟨.d (.bl true), _, rfl, rfl⟩))
  refine ws_cons (ws_asgV (w_ite (wt_eb (w_prim (wa_cons (w_call (W.of (a := [.loc 1, .d (.int 2)]) (ρ := maF sc h (.sh (toldD p wi P)) (.sh (webD p wi P)) (.sh (.tup (nats (List.range P.length)))) (.sh (.tup (nats l5))) .un) rfl ⟨rfl, [.ow h, .sh (.int 2)], rfl, WF.mono (pick_ok (by decide) (by decide) T) ?_⟩)))))))
  rintro r o ⟨y, h, rfl, rfl, y0, y1, T⟩
  rw [backI (i := 1) (h' := h) rfl (fun j => by rcases j with _ | _ | j <;> rfl)]
  refine W.of (a := [.d (.int 0)]) (ρ := maF sc h (.sh (toldD p wi P)) (.sh (webD p wi P)) (.sh (.tup (nats (List.range P.length)))) (.sh (.tup (nats l5))) .un) rfl ⟨[.int y, .int 0], _, rfl, eq_int y 0, _, rfl, fun _ => ?_, fun _ => ?_⟩
  · refine w_prim (wa_cons (W.of (a := .d (.tup (nats l5))) (ρ := maF sc h (.sh (toldD p wi P)) (.sh (webD p wi P)) (.sh (.tup (nats (List.range P.length)))) (.sh (.tup (nats l5))) .un) rfl (wa_cons (w_call (W.of (a := [.loc 1, .d (.int 3)]) (ρ := maF sc h (.sh (toldD p wi P)) (.sh (webD p wi P)) (.sh (.tup (nats (List.range P.length)))) (.sh (.tup (nats l5))) .un) rfl ⟨rfl, [.ow h, .sh (.int 3)], rfl, WF.mono (pick_ok (by decide) (by decide) T) ?_⟩)))))
    rintro r o ⟨y, h, rfl, rfl, y0, y1, T⟩
    rw [backI (i := 1) (h' := h) rfl (fun j => by rcases j with _ | _ | j <;> rfl)]
    obtain ⟨k, rfl⟩ : ∃ k : Nat, y = k := ⟨y.toNat, by omega⟩
    have hcut := drop_nats l5 k
    have hd : IsLot P.length (l5.drop k) := ⟨fun z hz => hl5.lt z (List.mem_of_mem_drop hz), hl5.up.drop⟩
    have hdk := ind_sub hpp h2 hP (by omega) hl5.lt (lot_nodup hl5) (lot_nodup hd) (fun z hz => List.mem_of_mem_drop hz) hk5
    generalize l5.drop k = l at hcut hd hdk
    generalize (k : Int) = ki at hcut
    refine wa_nil ⟨[.tup (nats l5), .int ki], _, rfl, hcut, rfl, lmF sc h p wi P (List.range P.length) l5 l .un .un .un .un, rfl, ?_⟩
    exact fin l h hd hdk T
  · exact W.of (a := .d (.tup (nats l5))) (ρ := maF sc h (.sh (toldD p wi P)) (.sh (webD p wi P)) (.sh (.tup (nats (List.range P.length)))) (.sh (.tup (nats l5))) .un) rfl ⟨rfl, lmF sc h p wi P (List.range P.length) l5 l5 .un .un .un .un, rfl, fin l5 h hl5 hk5 T⟩
theorem law_true (ns : List Int) (hl : ns.length ≤ 63) : ∃ o, F_law [.sh (.ro (ns.map D.int))] = .ok (.d (.bl true)) o := by
  obtain ⟨r, o, e, rfl⟩ := (law_wf ns hl).get
  exact ⟨o, e⟩
end Ev

namespace Ev
open PySem L2
theorem all_mk {K : PySem.W.Frag} {h : Heap} {mg : Str → Option Value} (X : K.In h) (G : h.Ns mainGlobals mg)
    {q0 : Addr} {oc0 kV0 dc0 pm0 cd0 ct0 : Value} {od0 an0 : Option Addr} {sl0 : Array (Option Value)}
    (a0 : PySem.W.nsIn K mainGlobals "is_integer" = some (some (.ref q0)))
    (l0 : K.lookup q0 = some ⟨oc0, od0, .func (PySem.W.fnOf "is_integer" "is_integer" (defArgs st_is_integer) (defBody st_is_integer) (defScope st_is_integer) .none kV0 dc0 pm0 an0 cd0 ct0), sl0⟩)
    (c0 : PySem.W.codeIn K cd0 "is_integer" = true) (k0 : PySem.W.keepIn K (.ref q0) = true)
    {q1 : Addr} {oc1 kV1 dc1 pm1 cd1 ct1 : Value} {od1 an1 : Option Addr} {sl1 : Array (Option Value)}
    (a1 : PySem.W.nsIn K mainGlobals "is_within" = some (some (.ref q1)))
    (l1 : K.lookup q1 = some ⟨oc1, od1, .func (PySem.W.fnOf "is_within" "is_within" (defArgs st_is_within) (defBody st_is_within) (defScope st_is_within) .none kV1 dc1 pm1 an1 cd1 ct1), sl1⟩)
    (c1 : PySem.W.codeIn K cd1 "is_within" = true) (k1 : PySem.W.keepIn K (.ref q1) = true)
    {q2 : Addr} {oc2 kV2 dc2 pm2 cd2 ct2 : Value} {od2 an2 : Option Addr} {sl2 : Array (Option Value)}
    (a2 : PySem.W.nsIn K mainGlobals "is_lot" = some (some (.ref q2)))
    (l2 : K.lookup q2 = some ⟨oc2, od2, .func (PySem.W.fnOf "is_lot" "is_lot" (defArgs st_is_lot) (defBody st_is_lot) (defScope st_is_lot) .none kV2 dc2 pm2 an2 cd2 ct2), sl2⟩)
    (c2 : PySem.W.codeIn K cd2 "is_lot" = true) (k2 : PySem.W.keepIn K (.ref q2) = true)
    {q3 : Addr} {oc3 kV3 dc3 pm3 cd3 ct3 : Value} {od3 an3 : Option Addr} {sl3 : Array (Option Value)}
    (a3 : PySem.W.nsIn K mainGlobals "is_prime" = some (some (.ref q3)))
    (l3 : K.lookup q3 = some ⟨oc3, od3, .func (PySem.W.fnOf "is_prime" "is_prime" (defArgs st_is_prime) (defBody st_is_prime) (defScope st_is_prime) .none kV3 dc3 pm3 an3 cd3 ct3), sl3⟩)
    (c3 : PySem.W.codeIn K cd3 "is_prime" = true) (k3 : PySem.W.keepIn K (.ref q3) = true)
    {q4 : Addr} {oc4 kV4 dc4 pm4 cd4 ct4 : Value} {od4 an4 : Option Addr} {sl4 : Array (Option Value)}
    (a4 : PySem.W.nsIn K mainGlobals "is_values" = some (some (.ref q4)))
    (l4 : K.lookup q4 = some ⟨oc4, od4, .func (PySem.W.fnOf "is_values" "is_values" (defArgs st_is_values) (defBody st_is_values) (defScope st_is_values) .none kV4 dc4 pm4 an4 cd4 ct4), sl4⟩)
    (c4 : PySem.W.codeIn K cd4 "is_values" = true) (k4 : PySem.W.keepIn K (.ref q4) = true)
    {q5 : Addr} {oc5 kV5 dc5 pm5 cd5 ct5 : Value} {od5 an5 : Option Addr} {sl5 : Array (Option Value)}
    (a5 : PySem.W.nsIn K mainGlobals "is_sum" = some (some (.ref q5)))
    (l5 : K.lookup q5 = some ⟨oc5, od5, .func (PySem.W.fnOf "is_sum" "is_sum" (defArgs st_is_sum) (defBody st_is_sum) (defScope st_is_sum) .none kV5 dc5 pm5 an5 cd5 ct5), sl5⟩)
    (c5 : PySem.W.codeIn K cd5 "is_sum" = true) (k5 : PySem.W.keepIn K (.ref q5) = true)
    {q6 : Addr} {oc6 kV6 dc6 pm6 cd6 ct6 : Value} {od6 an6 : Option Addr} {sl6 : Array (Option Value)}
    (a6 : PySem.W.nsIn K mainGlobals "width_of" = some (some (.ref q6)))
    (l6 : K.lookup q6 = some ⟨oc6, od6, .func (PySem.W.fnOf "width_of" "width_of" (defArgs st_width_of) (defBody st_width_of) (defScope st_width_of) .none kV6 dc6 pm6 an6 cd6 ct6), sl6⟩)
    (c6 : PySem.W.codeIn K cd6 "width_of" = true) (k6 : PySem.W.keepIn K (.ref q6) = true)
    {q7 : Addr} {oc7 kV7 dc7 pm7 cd7 ct7 : Value} {od7 an7 : Option Addr} {sl7 : Array (Option Value)}
    (a7 : PySem.W.nsIn K mainGlobals "inverse" = some (some (.ref q7)))
    (l7 : K.lookup q7 = some ⟨oc7, od7, .func (PySem.W.fnOf "inverse" "inverse" (defArgs st_inverse) (defBody st_inverse) (defScope st_inverse) .none kV7 dc7 pm7 an7 cd7 ct7), sl7⟩)
    (c7 : PySem.W.codeIn K cd7 "inverse" = true) (k7 : PySem.W.keepIn K (.ref q7) = true)
    {q8 : Addr} {oc8 kV8 dc8 pm8 cd8 ct8 : Value} {od8 an8 : Option Addr} {sl8 : Array (Option Value)}
    (a8 : PySem.W.nsIn K mainGlobals "reduced" = some (some (.ref q8)))
    (l8 : K.lookup q8 = some ⟨oc8, od8, .func (PySem.W.fnOf "reduced" "reduced" (defArgs st_reduced) (defBody st_reduced) (defScope st_reduced) .none kV8 dc8 pm8 an8 cd8 ct8), sl8⟩)
    (c8 : PySem.W.codeIn K cd8 "reduced" = true) (k8 : PySem.W.keepIn K (.ref q8) = true)
    {q9 : Addr} {oc9 kV9 dc9 pm9 cd9 ct9 : Value} {od9 an9 : Option Addr} {sl9 : Array (Option Value)}
    (a9 : PySem.W.nsIn K mainGlobals "leading" = some (some (.ref q9)))
    (l9 : K.lookup q9 = some ⟨oc9, od9, .func (PySem.W.fnOf "leading" "leading" (defArgs st_leading) (defBody st_leading) (defScope st_leading) .none kV9 dc9 pm9 an9 cd9 ct9), sl9⟩)
    (c9 : PySem.W.codeIn K cd9 "leading" = true) (k9 : PySem.W.keepIn K (.ref q9) = true)
    {q10 : Addr} {oc10 kV10 dc10 pm10 cd10 ct10 : Value} {od10 an10 : Option Addr} {sl10 : Array (Option Value)}
    (a10 : PySem.W.nsIn K mainGlobals "new_row" = some (some (.ref q10)))
    (l10 : K.lookup q10 = some ⟨oc10, od10, .func (PySem.W.fnOf "new_row" "new_row" (defArgs st_new_row) (defBody st_new_row) (defScope st_new_row) .none kV10 dc10 pm10 an10 cd10 ct10), sl10⟩)
    (c10 : PySem.W.codeIn K cd10 "new_row" = true) (k10 : PySem.W.keepIn K (.ref q10) = true)
    {q11 : Addr} {oc11 kV11 dc11 pm11 cd11 ct11 : Value} {od11 an11 : Option Addr} {sl11 : Array (Option Value)}
    (a11 : PySem.W.nsIn K mainGlobals "marked" = some (some (.ref q11)))
    (l11 : K.lookup q11 = some ⟨oc11, od11, .func (PySem.W.fnOf "marked" "marked" (defArgs st_marked) (defBody st_marked) (defScope st_marked) .none kV11 dc11 pm11 an11 cd11 ct11), sl11⟩)
    (c11 : PySem.W.codeIn K cd11 "marked" = true) (k11 : PySem.W.keepIn K (.ref q11) = true)
    {q12 : Addr} {oc12 kV12 dc12 pm12 cd12 ct12 : Value} {od12 an12 : Option Addr} {sl12 : Array (Option Value)}
    (a12 : PySem.W.nsIn K mainGlobals "nought_of" = some (some (.ref q12)))
    (l12 : K.lookup q12 = some ⟨oc12, od12, .func (PySem.W.fnOf "nought_of" "nought_of" (defArgs st_nought_of) (defBody st_nought_of) (defScope st_nought_of) .none kV12 dc12 pm12 an12 cd12 ct12), sl12⟩)
    (c12 : PySem.W.codeIn K cd12 "nought_of" = true) (k12 : PySem.W.keepIn K (.ref q12) = true)
    {q13 : Addr} {oc13 kV13 dc13 pm13 cd13 ct13 : Value} {od13 an13 : Option Addr} {sl13 : Array (Option Value)}
    (a13 : PySem.W.nsIn K mainGlobals "is_pair" = some (some (.ref q13)))
    (l13 : K.lookup q13 = some ⟨oc13, od13, .func (PySem.W.fnOf "is_pair" "is_pair" (defArgs st_is_pair) (defBody st_is_pair) (defScope st_is_pair) .none kV13 dc13 pm13 an13 cd13 ct13), sl13⟩)
    (c13 : PySem.W.codeIn K cd13 "is_pair" = true) (k13 : PySem.W.keepIn K (.ref q13) = true)
    {q14 : Addr} {oc14 kV14 dc14 pm14 cd14 ct14 : Value} {od14 an14 : Option Addr} {sl14 : Array (Option Value)}
    {qC14 : Addr} (aC14 : PySem.W.nsIn K mainGlobals "Web" = some (some (.ref qC14)))
    (a14 : PySem.W.findIn K (.ref qC14) "__init__" = some (some (.ref q14))) (i14 : PySem.W.isFn K (.ref q14) = true)
    (l14 : K.lookup q14 = some ⟨oc14, od14, .func (PySem.W.fnOf "__init__" "Web.__init__" (defArgs st_i_Web) (defBody st_i_Web) (defScope st_i_Web) .none kV14 dc14 pm14 an14 cd14 ct14), sl14⟩)
    (c14 : PySem.W.codeIn K cd14 "Web.__init__" = true) (k14 : PySem.W.keepIn K (.ref q14) = true)
    (pg14 : PySem.W.plainGet K qC14 Str.empty = true) (hd14 : PySem.W.hasDictIn K qC14 = true) (po14 : PySem.W.plainOver K qC14 = true) (sa14 : PySem.W.findIn K (.ref qC14) "__setattr__" = some (some (.builtin "object.__setattr__"))) (mk14 : PySem.W.makesIn K qC14 = true) (kc14 : PySem.W.keepIn K (.ref qC14) = true)
    (n14_0 : PySem.W.findIn K (.ref qC14) "prime" = some none)
    (n14_1 : PySem.W.findIn K (.ref qC14) "many" = some none)
    (n14_2 : PySem.W.findIn K (.ref qC14) "pieces" = some none)
    {q15 : Addr} {oc15 kV15 dc15 pm15 cd15 ct15 : Value} {od15 an15 : Option Addr} {sl15 : Array (Option Value)}
    (a15 : PySem.W.nsIn K mainGlobals "is_lot_of" = some (some (.ref q15)))
    (l15 : K.lookup q15 = some ⟨oc15, od15, .func (PySem.W.fnOf "is_lot_of" "is_lot_of" (defArgs st_is_lot_of) (defBody st_is_lot_of) (defScope st_is_lot_of) .none kV15 dc15 pm15 an15 cd15 ct15), sl15⟩)
    (c15 : PySem.W.codeIn K cd15 "is_lot_of" = true) (k15 : PySem.W.keepIn K (.ref q15) = true)
    {q16 : Addr} {oc16 kV16 dc16 pm16 cd16 ct16 : Value} {od16 an16 : Option Addr} {sl16 : Array (Option Value)}
    (a16 : PySem.W.nsIn K mainGlobals "is_piece" = some (some (.ref q16)))
    (l16 : K.lookup q16 = some ⟨oc16, od16, .func (PySem.W.fnOf "is_piece" "is_piece" (defArgs st_is_piece) (defBody st_is_piece) (defScope st_is_piece) .none kV16 dc16 pm16 an16 cd16 ct16), sl16⟩)
    (c16 : PySem.W.codeIn K cd16 "is_piece" = true) (k16 : PySem.W.keepIn K (.ref q16) = true)
    {q17 : Addr} {oc17 kV17 dc17 pm17 cd17 ct17 : Value} {od17 an17 : Option Addr} {sl17 : Array (Option Value)}
    (a17 : PySem.W.nsIn K mainGlobals "check_lot" = some (some (.ref q17)))
    (l17 : K.lookup q17 = some ⟨oc17, od17, .func (PySem.W.fnOf "check_lot" "check_lot" (defArgs st_check_lot) (defBody st_check_lot) (defScope st_check_lot) .none kV17 dc17 pm17 an17 cd17 ct17), sl17⟩)
    (c17 : PySem.W.codeIn K cd17 "check_lot" = true) (k17 : PySem.W.keepIn K (.ref q17) = true)
    {q18 : Addr} {oc18 kV18 dc18 pm18 cd18 ct18 : Value} {od18 an18 : Option Addr} {sl18 : Array (Option Value)}
    (a18 : PySem.W.nsIn K mainGlobals "sum_of" = some (some (.ref q18)))
    (l18 : K.lookup q18 = some ⟨oc18, od18, .func (PySem.W.fnOf "sum_of" "sum_of" (defArgs st_sum_of) (defBody st_sum_of) (defScope st_sum_of) .none kV18 dc18 pm18 an18 cd18 ct18), sl18⟩)
    (c18 : PySem.W.codeIn K cd18 "sum_of" = true) (k18 : PySem.W.keepIn K (.ref q18) = true)
    {q19 : Addr} {oc19 kV19 dc19 pm19 cd19 ct19 : Value} {od19 an19 : Option Addr} {sl19 : Array (Option Value)}
    (a19 : PySem.W.nsIn K mainGlobals "sums_of" = some (some (.ref q19)))
    (l19 : K.lookup q19 = some ⟨oc19, od19, .func (PySem.W.fnOf "sums_of" "sums_of" (defArgs st_sums_of) (defBody st_sums_of) (defScope st_sums_of) .none kV19 dc19 pm19 an19 cd19 ct19), sl19⟩)
    (c19 : PySem.W.codeIn K cd19 "sums_of" = true) (k19 : PySem.W.keepIn K (.ref q19) = true)
    {q20 : Addr} {oc20 kV20 dc20 pm20 cd20 ct20 : Value} {od20 an20 : Option Addr} {sl20 : Array (Option Value)}
    (a20 : PySem.W.nsIn K mainGlobals "taken" = some (some (.ref q20)))
    (l20 : K.lookup q20 = some ⟨oc20, od20, .func (PySem.W.fnOf "taken" "taken" (defArgs st_taken) (defBody st_taken) (defScope st_taken) .none kV20 dc20 pm20 an20 cd20 ct20), sl20⟩)
    (c20 : PySem.W.codeIn K cd20 "taken" = true) (k20 : PySem.W.keepIn K (.ref q20) = true)
    {q21 : Addr} {oc21 kV21 dc21 pm21 cd21 ct21 : Value} {od21 an21 : Option Addr} {sl21 : Array (Option Value)}
    (a21 : PySem.W.nsIn K mainGlobals "is_lean" = some (some (.ref q21)))
    (l21 : K.lookup q21 = some ⟨oc21, od21, .func (PySem.W.fnOf "is_lean" "is_lean" (defArgs st_is_lean) (defBody st_is_lean) (defScope st_is_lean) .none kV21 dc21 pm21 an21 cd21 ct21), sl21⟩)
    (c21 : PySem.W.codeIn K cd21 "is_lean" = true) (k21 : PySem.W.keepIn K (.ref q21) = true)
    {q22 : Addr} {oc22 kV22 dc22 pm22 cd22 ct22 : Value} {od22 an22 : Option Addr} {sl22 : Array (Option Value)}
    (a22 : PySem.W.nsIn K mainGlobals "closing" = some (some (.ref q22)))
    (l22 : K.lookup q22 = some ⟨oc22, od22, .func (PySem.W.fnOf "closing" "closing" (defArgs st_closing) (defBody st_closing) (defScope st_closing) .none kV22 dc22 pm22 an22 cd22 ct22), sl22⟩)
    (c22 : PySem.W.codeIn K cd22 "closing" = true) (k22 : PySem.W.keepIn K (.ref q22) = true)
    {q23 : Addr} {oc23 kV23 dc23 pm23 cd23 ct23 : Value} {od23 an23 : Option Addr} {sl23 : Array (Option Value)}
    (a23 : PySem.W.nsIn K mainGlobals "is_ring" = some (some (.ref q23)))
    (l23 : K.lookup q23 = some ⟨oc23, od23, .func (PySem.W.fnOf "is_ring" "is_ring" (defArgs st_is_ring) (defBody st_is_ring) (defScope st_is_ring) .none kV23 dc23 pm23 an23 cd23 ct23), sl23⟩)
    (c23 : PySem.W.codeIn K cd23 "is_ring" = true) (k23 : PySem.W.keepIn K (.ref q23) = true)
    {q24 : Addr} {oc24 kV24 dc24 pm24 cd24 ct24 : Value} {od24 an24 : Option Addr} {sl24 : Array (Option Value)}
    (a24 : PySem.W.nsIn K mainGlobals "ring" = some (some (.ref q24)))
    (l24 : K.lookup q24 = some ⟨oc24, od24, .func (PySem.W.fnOf "ring" "ring" (defArgs st_ring) (defBody st_ring) (defScope st_ring) .none kV24 dc24 pm24 an24 cd24 ct24), sl24⟩)
    (c24 : PySem.W.codeIn K cd24 "ring" = true) (k24 : PySem.W.keepIn K (.ref q24) = true)
    {q25 : Addr} {oc25 kV25 dc25 pm25 cd25 ct25 : Value} {od25 an25 : Option Addr} {sl25 : Array (Option Value)}
    (a25 : PySem.W.nsIn K mainGlobals "ring_values" = some (some (.ref q25)))
    (l25 : K.lookup q25 = some ⟨oc25, od25, .func (PySem.W.fnOf "ring_values" "ring_values" (defArgs st_ring_values) (defBody st_ring_values) (defScope st_ring_values) .none kV25 dc25 pm25 an25 cd25 ct25), sl25⟩)
    (c25 : PySem.W.codeIn K cd25 "ring_values" = true) (k25 : PySem.W.keepIn K (.ref q25) = true)
    {q26 : Addr} {oc26 kV26 dc26 pm26 cd26 ct26 : Value} {od26 an26 : Option Addr} {sl26 : Array (Option Value)}
    (a26 : PySem.W.nsIn K mainGlobals "_law_tape" = some (some (.ref q26)))
    (l26 : K.lookup q26 = some ⟨oc26, od26, .func (PySem.W.fnOf "_law_tape" "_law_tape" (defArgs st_law_tape) (defBody st_law_tape) (defScope st_law_tape) .none kV26 dc26 pm26 an26 cd26 ct26), sl26⟩)
    (c26 : PySem.W.codeIn K cd26 "_law_tape" = true) (k26 : PySem.W.keepIn K (.ref q26) = true)
    {q27 : Addr} {oc27 kV27 dc27 pm27 cd27 ct27 : Value} {od27 an27 : Option Addr} {sl27 : Array (Option Value)}
    (a27 : PySem.W.nsIn K mainGlobals "_law_pick" = some (some (.ref q27)))
    (l27 : K.lookup q27 = some ⟨oc27, od27, .func (PySem.W.fnOf "_law_pick" "_law_pick" (defArgs st_law_pick) (defBody st_law_pick) (defScope st_law_pick) .none kV27 dc27 pm27 an27 cd27 ct27), sl27⟩)
    (c27 : PySem.W.codeIn K cd27 "_law_pick" = true) (k27 : PySem.W.keepIn K (.ref q27) = true)
    {q28 : Addr} {oc28 kV28 dc28 pm28 cd28 ct28 : Value} {od28 an28 : Option Addr} {sl28 : Array (Option Value)}
    (a28 : PySem.W.nsIn K mainGlobals "_law_any" = some (some (.ref q28)))
    (l28 : K.lookup q28 = some ⟨oc28, od28, .func (PySem.W.fnOf "_law_any" "_law_any" (defArgs st_law_any) (defBody st_law_any) (defScope st_law_any) .none kV28 dc28 pm28 an28 cd28 ct28), sl28⟩)
    (c28 : PySem.W.codeIn K cd28 "_law_any" = true) (k28 : PySem.W.keepIn K (.ref q28) = true)
    {q29 : Addr} {oc29 kV29 dc29 pm29 cd29 ct29 : Value} {od29 an29 : Option Addr} {sl29 : Array (Option Value)}
    (a29 : PySem.W.nsIn K mainGlobals "_law_mixed" = some (some (.ref q29)))
    (l29 : K.lookup q29 = some ⟨oc29, od29, .func (PySem.W.fnOf "_law_mixed" "_law_mixed" (defArgs st_law_mixed) (defBody st_law_mixed) (defScope st_law_mixed) .none kV29 dc29 pm29 an29 cd29 ct29), sl29⟩)
    (c29 : PySem.W.codeIn K cd29 "_law_mixed" = true) (k29 : PySem.W.keepIn K (.ref q29) = true)
    {q30 : Addr} {oc30 kV30 dc30 pm30 cd30 ct30 : Value} {od30 an30 : Option Addr} {sl30 : Array (Option Value)}
    (a30 : PySem.W.nsIn K mainGlobals "_law_inverse" = some (some (.ref q30)))
    (l30 : K.lookup q30 = some ⟨oc30, od30, .func (PySem.W.fnOf "_law_inverse" "_law_inverse" (defArgs st_law_inverse) (defBody st_law_inverse) (defScope st_law_inverse) .none kV30 dc30 pm30 an30 cd30 ct30), sl30⟩)
    (c30 : PySem.W.codeIn K cd30 "_law_inverse" = true) (k30 : PySem.W.keepIn K (.ref q30) = true)
    {q31 : Addr} {oc31 kV31 dc31 pm31 cd31 ct31 : Value} {od31 an31 : Option Addr} {sl31 : Array (Option Value)}
    (a31 : PySem.W.nsIn K mainGlobals "_law_less" = some (some (.ref q31)))
    (l31 : K.lookup q31 = some ⟨oc31, od31, .func (PySem.W.fnOf "_law_less" "_law_less" (defArgs st_law_less) (defBody st_law_less) (defScope st_law_less) .none kV31 dc31 pm31 an31 cd31 ct31), sl31⟩)
    (c31 : PySem.W.codeIn K cd31 "_law_less" = true) (k31 : PySem.W.keepIn K (.ref q31) = true)
    {q32 : Addr} {oc32 kV32 dc32 pm32 cd32 ct32 : Value} {od32 an32 : Option Addr} {sl32 : Array (Option Value)}
    (a32 : PySem.W.nsIn K mainGlobals "_law_rank" = some (some (.ref q32)))
    (l32 : K.lookup q32 = some ⟨oc32, od32, .func (PySem.W.fnOf "_law_rank" "_law_rank" (defArgs st_law_rank) (defBody st_law_rank) (defScope st_law_rank) .none kV32 dc32 pm32 an32 cd32 ct32), sl32⟩)
    (c32 : PySem.W.codeIn K cd32 "_law_rank" = true) (k32 : PySem.W.keepIn K (.ref q32) = true)
    {q33 : Addr} {oc33 kV33 dc33 pm33 cd33 ct33 : Value} {od33 an33 : Option Addr} {sl33 : Array (Option Value)}
    (a33 : PySem.W.nsIn K mainGlobals "_law_sum" = some (some (.ref q33)))
    (l33 : K.lookup q33 = some ⟨oc33, od33, .func (PySem.W.fnOf "_law_sum" "_law_sum" (defArgs st_law_sum) (defBody st_law_sum) (defScope st_law_sum) .none kV33 dc33 pm33 an33 cd33 ct33), sl33⟩)
    (c33 : PySem.W.codeIn K cd33 "_law_sum" = true) (k33 : PySem.W.keepIn K (.ref q33) = true)
    {q34 : Addr} {oc34 kV34 dc34 pm34 cd34 ct34 : Value} {od34 an34 : Option Addr} {sl34 : Array (Option Value)}
    (a34 : PySem.W.nsIn K mainGlobals "_law_pieces" = some (some (.ref q34)))
    (l34 : K.lookup q34 = some ⟨oc34, od34, .func (PySem.W.fnOf "_law_pieces" "_law_pieces" (defArgs st_law_pieces) (defBody st_law_pieces) (defScope st_law_pieces) .none kV34 dc34 pm34 an34 cd34 ct34), sl34⟩)
    (c34 : PySem.W.codeIn K cd34 "_law_pieces" = true) (k34 : PySem.W.keepIn K (.ref q34) = true)
    {q35 : Addr} {oc35 kV35 dc35 pm35 cd35 ct35 : Value} {od35 an35 : Option Addr} {sl35 : Array (Option Value)}
    (a35 : PySem.W.nsIn K mainGlobals "_law_filled" = some (some (.ref q35)))
    (l35 : K.lookup q35 = some ⟨oc35, od35, .func (PySem.W.fnOf "_law_filled" "_law_filled" (defArgs st_law_filled) (defBody st_law_filled) (defScope st_law_filled) .none kV35 dc35 pm35 an35 cd35 ct35), sl35⟩)
    (c35 : PySem.W.codeIn K cd35 "_law_filled" = true) (k35 : PySem.W.keepIn K (.ref q35) = true)
    {q36 : Addr} {oc36 kV36 dc36 pm36 cd36 ct36 : Value} {od36 an36 : Option Addr} {sl36 : Array (Option Value)}
    (a36 : PySem.W.nsIn K mainGlobals "_law_great" = some (some (.ref q36)))
    (l36 : K.lookup q36 = some ⟨oc36, od36, .func (PySem.W.fnOf "_law_great" "_law_great" (defArgs st_law_great) (defBody st_law_great) (defScope st_law_great) .none kV36 dc36 pm36 an36 cd36 ct36), sl36⟩)
    (c36 : PySem.W.codeIn K cd36 "_law_great" = true) (k36 : PySem.W.keepIn K (.ref q36) = true)
    {q37 : Addr} {oc37 kV37 dc37 pm37 cd37 ct37 : Value} {od37 an37 : Option Addr} {sl37 : Array (Option Value)}
    (a37 : PySem.W.nsIn K mainGlobals "_law_in" = some (some (.ref q37)))
    (l37 : K.lookup q37 = some ⟨oc37, od37, .func (PySem.W.fnOf "_law_in" "_law_in" (defArgs st_law_in) (defBody st_law_in) (defScope st_law_in) .none kV37 dc37 pm37 an37 cd37 ct37), sl37⟩)
    (c37 : PySem.W.codeIn K cd37 "_law_in" = true) (k37 : PySem.W.keepIn K (.ref q37) = true)
    {q38 : Addr} {oc38 kV38 dc38 pm38 cd38 ct38 : Value} {od38 an38 : Option Addr} {sl38 : Array (Option Value)}
    (a38 : PySem.W.nsIn K mainGlobals "_law_without" = some (some (.ref q38)))
    (l38 : K.lookup q38 = some ⟨oc38, od38, .func (PySem.W.fnOf "_law_without" "_law_without" (defArgs st_law_without) (defBody st_law_without) (defScope st_law_without) .none kV38 dc38 pm38 an38 cd38 ct38), sl38⟩)
    (c38 : PySem.W.codeIn K cd38 "_law_without" = true) (k38 : PySem.W.keepIn K (.ref q38) = true)
    {q39 : Addr} {oc39 kV39 dc39 pm39 cd39 ct39 : Value} {od39 an39 : Option Addr} {sl39 : Array (Option Value)}
    (a39 : PySem.W.nsIn K mainGlobals "_law_with" = some (some (.ref q39)))
    (l39 : K.lookup q39 = some ⟨oc39, od39, .func (PySem.W.fnOf "_law_with" "_law_with" (defArgs st_law_with) (defBody st_law_with) (defScope st_law_with) .none kV39 dc39 pm39 an39 cd39 ct39), sl39⟩)
    (c39 : PySem.W.codeIn K cd39 "_law_with" = true) (k39 : PySem.W.keepIn K (.ref q39) = true)
    {q40 : Addr} {oc40 kV40 dc40 pm40 cd40 ct40 : Value} {od40 an40 : Option Addr} {sl40 : Array (Option Value)}
    (a40 : PySem.W.nsIn K mainGlobals "_law_taken" = some (some (.ref q40)))
    (l40 : K.lookup q40 = some ⟨oc40, od40, .func (PySem.W.fnOf "_law_taken" "_law_taken" (defArgs st_law_taken) (defBody st_law_taken) (defScope st_law_taken) .none kV40 dc40 pm40 an40 cd40 ct40), sl40⟩)
    (c40 : PySem.W.codeIn K cd40 "_law_taken" = true) (k40 : PySem.W.keepIn K (.ref q40) = true)
    {q41 : Addr} {oc41 kV41 dc41 pm41 cd41 ct41 : Value} {od41 an41 : Option Addr} {sl41 : Array (Option Value)}
    (a41 : PySem.W.nsIn K mainGlobals "_law_all" = some (some (.ref q41)))
    (l41 : K.lookup q41 = some ⟨oc41, od41, .func (PySem.W.fnOf "_law_all" "_law_all" (defArgs st_law_all) (defBody st_law_all) (defScope st_law_all) .none kV41 dc41 pm41 an41 cd41 ct41), sl41⟩)
    (c41 : PySem.W.codeIn K cd41 "_law_all" = true) (k41 : PySem.W.keepIn K (.ref q41) = true)
    {q42 : Addr} {oc42 kV42 dc42 pm42 cd42 ct42 : Value} {od42 an42 : Option Addr} {sl42 : Array (Option Value)}
    (a42 : PySem.W.nsIn K mainGlobals "_law_lean" = some (some (.ref q42)))
    (l42 : K.lookup q42 = some ⟨oc42, od42, .func (PySem.W.fnOf "_law_lean" "_law_lean" (defArgs st_law_lean) (defBody st_law_lean) (defScope st_law_lean) .none kV42 dc42 pm42 an42 cd42 ct42), sl42⟩)
    (c42 : PySem.W.codeIn K cd42 "_law_lean" = true) (k42 : PySem.W.keepIn K (.ref q42) = true)
    {q43 : Addr} {oc43 kV43 dc43 pm43 cd43 ct43 : Value} {od43 an43 : Option Addr} {sl43 : Array (Option Value)}
    (a43 : PySem.W.nsIn K mainGlobals "_law_ring" = some (some (.ref q43)))
    (l43 : K.lookup q43 = some ⟨oc43, od43, .func (PySem.W.fnOf "_law_ring" "_law_ring" (defArgs st_law_ring) (defBody st_law_ring) (defScope st_law_ring) .none kV43 dc43 pm43 an43 cd43 ct43), sl43⟩)
    (c43 : PySem.W.codeIn K cd43 "_law_ring" = true) (k43 : PySem.W.keepIn K (.ref q43) = true)
    {q44 : Addr} {oc44 kV44 dc44 pm44 cd44 ct44 : Value} {od44 an44 : Option Addr} {sl44 : Array (Option Value)}
    (a44 : PySem.W.nsIn K mainGlobals "_law_makes_nought" = some (some (.ref q44)))
    (l44 : K.lookup q44 = some ⟨oc44, od44, .func (PySem.W.fnOf "_law_makes_nought" "_law_makes_nought" (defArgs st_law_makes_nought) (defBody st_law_makes_nought) (defScope st_law_makes_nought) .none kV44 dc44 pm44 an44 cd44 ct44), sl44⟩)
    (c44 : PySem.W.codeIn K cd44 "_law_makes_nought" = true) (k44 : PySem.W.keepIn K (.ref q44) = true)
    {q45 : Addr} {oc45 kV45 dc45 pm45 cd45 ct45 : Value} {od45 an45 : Option Addr} {sl45 : Array (Option Value)}
    (a45 : PySem.W.nsIn K mainGlobals "law" = some (some (.ref q45)))
    (l45 : K.lookup q45 = some ⟨oc45, od45, .func (PySem.W.fnOf "law" "law" (defArgs st_law) (defBody st_law) (defScope st_law) .none kV45 dc45 pm45 an45 cd45 ct45), sl45⟩)
    (c45 : PySem.W.codeIn K cd45 "law" = true) (k45 : PySem.W.keepIn K (.ref q45) = true)
    (u0 : PySem.W.nsIn K mainGlobals "abs" = some none)
    (u1 : PySem.W.nsIn K mainGlobals "all" = some none)
    (u2 : PySem.W.nsIn K mainGlobals "bool" = some none)
    {tk3 : Tok} (u3 : PySem.W.nsIn K mainGlobals "MOST_PIECES" = some (some (.int 40 tk3)))
    {tk4 : Tok} (u4 : PySem.W.nsIn K mainGlobals "MOST_PRIME" = some (some (.int 251 tk4)))
    {tk5 : Tok} (u5 : PySem.W.nsIn K mainGlobals "MOST_SIZE" = some (some (.int 1000000 tk5)))
    {tk6 : Tok} (u6 : PySem.W.nsIn K mainGlobals "MOST_VERSIONS" = some (some (.int 10 tk6)))
    (u7 : PySem.W.nsIn K mainGlobals "enumerate" = some none)
    (u8 : PySem.W.nsIn K mainGlobals "int" = some none)
    (u9 : PySem.W.nsIn K mainGlobals "isinstance" = some none)
    (u10 : PySem.W.nsIn K mainGlobals "len" = some none)
    (u11 : PySem.W.nsIn K mainGlobals "list" = some none)
    (u12 : PySem.W.nsIn K mainGlobals "range" = some none)
    (u13 : PySem.W.nsIn K mainGlobals "sorted" = some none)
    (u14 : PySem.W.nsIn K mainGlobals "sum" = some none)
    (u15 : PySem.W.nsIn K mainGlobals "tuple" = some none)
    (u16 : PySem.W.nsIn K mainGlobals "zip" = some none)
    : ∃ T : Facts K mg, ∃ kV dc pm an cd ct, T.d_law = PySem.W.fnOf "law" "law" (defArgs st_law) (defBody st_law) (defScope st_law) .none kV dc pm an cd ct := by
  have f0 := fun_mk (st := st_is_integer) l0 c0 k0
  have f1 := fun_mk (st := st_is_within) l1 c1 k1
  have f2 := fun_mk (st := st_is_lot) l2 c2 k2
  have f3 := fun_mk (st := st_is_prime) l3 c3 k3
  have f4 := fun_mk (st := st_is_values) l4 c4 k4
  have f5 := fun_mk (st := st_is_sum) l5 c5 k5
  have f6 := fun_mk (st := st_width_of) l6 c6 k6
  have f7 := fun_mk (st := st_inverse) l7 c7 k7
  have f8 := fun_mk (st := st_reduced) l8 c8 k8
  have f9 := fun_mk (st := st_leading) l9 c9 k9
  have f10 := fun_mk (st := st_new_row) l10 c10 k10
  have f11 := fun_mk (st := st_marked) l11 c11 k11
  have f12 := fun_mk (st := st_nought_of) l12 c12 k12
  have f13 := fun_mk (st := st_is_pair) l13 c13 k13
  have f14 := fun_mk (st := st_i_Web) l14 c14 k14
  have f15 := fun_mk (st := st_is_lot_of) l15 c15 k15
  have f16 := fun_mk (st := st_is_piece) l16 c16 k16
  have f17 := fun_mk (st := st_check_lot) l17 c17 k17
  have f18 := fun_mk (st := st_sum_of) l18 c18 k18
  have f19 := fun_mk (st := st_sums_of) l19 c19 k19
  have f20 := fun_mk (st := st_taken) l20 c20 k20
  have f21 := fun_mk (st := st_is_lean) l21 c21 k21
  have f22 := fun_mk (st := st_closing) l22 c22 k22
  have f23 := fun_mk (st := st_is_ring) l23 c23 k23
  have f24 := fun_mk (st := st_ring) l24 c24 k24
  have f25 := fun_mk (st := st_ring_values) l25 c25 k25
  have f26 := fun_mk (st := st_law_tape) l26 c26 k26
  have f27 := fun_mk (st := st_law_pick) l27 c27 k27
  have f28 := fun_mk (st := st_law_any) l28 c28 k28
  have f29 := fun_mk (st := st_law_mixed) l29 c29 k29
  have f30 := fun_mk (st := st_law_inverse) l30 c30 k30
  have f31 := fun_mk (st := st_law_less) l31 c31 k31
  have f32 := fun_mk (st := st_law_rank) l32 c32 k32
  have f33 := fun_mk (st := st_law_sum) l33 c33 k33
  have f34 := fun_mk (st := st_law_pieces) l34 c34 k34
  have f35 := fun_mk (st := st_law_filled) l35 c35 k35
  have f36 := fun_mk (st := st_law_great) l36 c36 k36
  have f37 := fun_mk (st := st_law_in) l37 c37 k37
  have f38 := fun_mk (st := st_law_without) l38 c38 k38
  have f39 := fun_mk (st := st_law_with) l39 c39 k39
  have f40 := fun_mk (st := st_law_taken) l40 c40 k40
  have f41 := fun_mk (st := st_law_all) l41 c41 k41
  have f42 := fun_mk (st := st_law_lean) l42 c42 k42
  have f43 := fun_mk (st := st_law_ring) l43 c43 k43
  have f44 := fun_mk (st := st_law_makes_nought) l44 c44 k44
  have f45 := fun_mk (st := st_law) l45 c45 k45
  have b0 := f0.binds (ps := ["thing"]) fun _ _ _ _ _ _ us hl => match us, hl with | [_], _ => rfl
  have b1 := f1.binds (ps := ["least", "most", "thing"]) fun _ _ _ _ _ _ us hl => match us, hl with | [_, _, _], _ => rfl
  have b2 := f2.binds (ps := ["many", "thing"]) fun _ _ _ _ _ _ us hl => match us, hl with | [_, _], _ => rfl
  have b3 := f3.binds (ps := ["thing"]) fun _ _ _ _ _ _ us hl => match us, hl with | [_], _ => rfl
  have b4 := f4.binds (ps := ["prime", "many", "thing"]) fun _ _ _ _ _ _ us hl => match us, hl with | [_, _, _], _ => rfl
  have b5 := f5.binds (ps := ["prime", "width", "thing"]) fun _ _ _ _ _ _ us hl => match us, hl with | [_, _, _], _ => rfl
  have b6 := f6.binds (ps := ["sums"]) fun _ _ _ _ _ _ us hl => match us, hl with | [_], _ => rfl
  have b7 := f7.binds (ps := ["prime", "value"]) fun _ _ _ _ _ _ us hl => match us, hl with | [_, _], _ => rfl
  have b8 := f8.binds (ps := ["prime", "rows", "values"]) fun _ _ _ _ _ _ us hl => match us, hl with | [_, _, _], _ => rfl
  have b9 := f9.binds (ps := ["prime", "width", "values"]) fun _ _ _ _ _ _ us hl => match us, hl with | [_, _, _], _ => rfl
  have b10 := f10.binds (ps := ["prime", "width", "rows", "values"]) fun _ _ _ _ _ _ us hl => match us, hl with | [_, _, _, _], _ => rfl
  have b11 := f11.binds (ps := ["sums"]) fun _ _ _ _ _ _ us hl => match us, hl with | [_], _ => rfl
  have b12 := f12.binds (ps := ["prime", "sums"]) fun _ _ _ _ _ _ us hl => match us, hl with | [_, _], _ => rfl
  have b13 := f13.binds (ps := ["prime", "many", "thing"]) fun _ _ _ _ _ _ us hl => match us, hl with | [_, _, _], _ => rfl
  have b14 := f14.binds (ps := ["self", "prime", "many", "pieces"]) fun _ _ _ _ _ _ us hl => match us, hl with | [_, _, _, _], _ => rfl
  have b15 := f15.binds (ps := ["web", "thing"]) fun _ _ _ _ _ _ us hl => match us, hl with | [_, _], _ => rfl
  have b16 := f16.binds (ps := ["web", "thing"]) fun _ _ _ _ _ _ us hl => match us, hl with | [_, _], _ => rfl
  have b17 := f17.binds (ps := ["web", "lot"]) fun _ _ _ _ _ _ us hl => match us, hl with | [_, _], _ => rfl
  have b18 := f18.binds (ps := ["web", "piece"]) fun _ _ _ _ _ _ us hl => match us, hl with | [_, _], _ => rfl
  have b19 := f19.binds (ps := ["web", "lot"]) fun _ _ _ _ _ _ us hl => match us, hl with | [_, _], _ => rfl
  have b20 := f20.binds (ps := ["web", "order"]) fun _ _ _ _ _ _ us hl => match us, hl with | [_, _], _ => rfl
  have b21 := f21.binds (ps := ["web", "thing"]) fun _ _ _ _ _ _ us hl => match us, hl with | [_, _], _ => rfl
  have b22 := f22.binds (ps := ["web", "lot"]) fun _ _ _ _ _ _ us hl => match us, hl with | [_, _], _ => rfl
  have b23 := f23.binds (ps := ["web", "thing"]) fun _ _ _ _ _ _ us hl => match us, hl with | [_, _], _ => rfl
  have b24 := f24.binds (ps := ["web", "lot", "piece"]) fun _ _ _ _ _ _ us hl => match us, hl with | [_, _, _], _ => rfl
  have b25 := f25.binds (ps := ["web", "lot"]) fun _ _ _ _ _ _ us hl => match us, hl with | [_, _], _ => rfl
  have b26 := f26.binds (ps := ["_law_script"]) fun _ _ _ _ _ _ us hl => match us, hl with | [_], _ => rfl
  have b27 := f27.binds (ps := ["_law_tape_here", "_law_many"]) fun _ _ _ _ _ _ us hl => match us, hl with | [_, _], _ => rfl
  have b28 := f28.binds (ps := ["_law_tape_here", "_law_things"]) fun _ _ _ _ _ _ us hl => match us, hl with | [_, _], _ => rfl
  have b29 := f29.binds (ps := ["_law_tape_here", "_law_things"]) fun _ _ _ _ _ _ us hl => match us, hl with | [_, _], _ => rfl
  have b30 := f30.binds (ps := ["_law_prime", "_law_value"]) fun _ _ _ _ _ _ us hl => match us, hl with | [_, _], _ => rfl
  have b31 := f31.binds (ps := ["_law_prime", "_law_row", "_law_times", "_law_lead"]) fun _ _ _ _ _ _ us hl => match us, hl with | [_, _, _, _], _ => rfl
  have b32 := f32.binds (ps := ["_law_prime", "_law_rows"]) fun _ _ _ _ _ _ us hl => match us, hl with | [_, _], _ => rfl
  have b33 := f33.binds (ps := ["_law_tape_here", "_law_prime", "_law_many"]) fun _ _ _ _ _ _ us hl => match us, hl with | [_, _, _], _ => rfl
  have b34 := f34.binds (ps := ["_law_tape_here", "_law_prime", "_law_many", "_law_count", "_law_sizes"]) fun _ _ _ _ _ _ us hl => match us, hl with | [_, _, _, _, _], _ => rfl
  have b35 := f35.binds (ps := ["_law_prime", "_law_many", "_law_pieces_here", "_law_size"]) fun _ _ _ _ _ _ us hl => match us, hl with | [_, _, _, _], _ => rfl
  have b36 := f36.binds (ps := ["_law_tape_here", "_law_most"]) fun _ _ _ _ _ _ us hl => match us, hl with | [_, _], _ => rfl
  have b37 := f37.binds (ps := ["_law_told", "_law_lot"]) fun _ _ _ _ _ _ us hl => match us, hl with | [_, _], _ => rfl
  have b38 := f38.binds (ps := ["_law_lot", "_law_piece"]) fun _ _ _ _ _ _ us hl => match us, hl with | [_, _], _ => rfl
  have b39 := f39.binds (ps := ["_law_lot", "_law_piece"]) fun _ _ _ _ _ _ us hl => match us, hl with | [_, _], _ => rfl
  have b40 := f40.binds (ps := ["_law_told", "_law_pieces_here"]) fun _ _ _ _ _ _ us hl => match us, hl with | [_, _], _ => rfl
  have b41 := f41.binds (ps := ["_law_told"]) fun _ _ _ _ _ _ us hl => match us, hl with | [_], _ => rfl
  have b42 := f42.binds (ps := ["_law_tape_here", "_law_told", "_law_lot"]) fun _ _ _ _ _ _ us hl => match us, hl with | [_, _, _], _ => rfl
  have b43 := f43.binds (ps := ["_law_told", "_law_lot", "_law_piece"]) fun _ _ _ _ _ _ us hl => match us, hl with | [_, _, _], _ => rfl
  have b44 := f44.binds (ps := ["_law_told", "_law_lot", "_law_values"]) fun _ _ _ _ _ _ us hl => match us, hl with | [_, _, _], _ => rfl
  have b45 := f45.binds (ps := ["_law_script"]) fun _ _ _ _ _ _ us hl => match us, hl with | [_], _ => rfl
  exact ⟨⟨q0, _, f0, PySem.W.mg_of X G a0, b0, q1, _, f1, PySem.W.mg_of X G a1, b1, q2, _, f2, PySem.W.mg_of X G a2, b2, q3, _, f3, PySem.W.mg_of X G a3, b3, q4, _, f4, PySem.W.mg_of X G a4, b4, q5, _, f5, PySem.W.mg_of X G a5, b5, q6, _, f6, PySem.W.mg_of X G a6, b6, q7, _, f7, PySem.W.mg_of X G a7, b7, q8, _, f8, PySem.W.mg_of X G a8, b8, q9, _, f9, PySem.W.mg_of X G a9, b9, q10, _, f10, PySem.W.mg_of X G a10, b10, q11, _, f11, PySem.W.mg_of X G a11, b11, q12, _, f12, PySem.W.mg_of X G a12, b12, q13, _, f13, PySem.W.mg_of X G a13, b13, qC14, PySem.W.mg_of X G aC14, q14, _, f14, ⟨mk14, a14, i14, kc14⟩, ⟨pg14, hd14, po14, sa14⟩, n14_0, n14_1, n14_2, b14, q15, _, f15, PySem.W.mg_of X G a15, b15, q16, _, f16, PySem.W.mg_of X G a16, b16, q17, _, f17, PySem.W.mg_of X G a17, b17, q18, _, f18, PySem.W.mg_of X G a18, b18, q19, _, f19, PySem.W.mg_of X G a19, b19, q20, _, f20, PySem.W.mg_of X G a20, b20, q21, _, f21, PySem.W.mg_of X G a21, b21, q22, _, f22, PySem.W.mg_of X G a22, b22, q23, _, f23, PySem.W.mg_of X G a23, b23, q24, _, f24, PySem.W.mg_of X G a24, b24, q25, _, f25, PySem.W.mg_of X G a25, b25, q26, _, f26, PySem.W.mg_of X G a26, b26, q27, _, f27, PySem.W.mg_of X G a27, b27, q28, _, f28, PySem.W.mg_of X G a28, b28, q29, _, f29, PySem.W.mg_of X G a29, b29, q30, _, f30, PySem.W.mg_of X G a30, b30, q31, _, f31, PySem.W.mg_of X G a31, b31, q32, _, f32, PySem.W.mg_of X G a32, b32, q33, _, f33, PySem.W.mg_of X G a33, b33, q34, _, f34, PySem.W.mg_of X G a34, b34, q35, _, f35, PySem.W.mg_of X G a35, b35, q36, _, f36, PySem.W.mg_of X G a36, b36, q37, _, f37, PySem.W.mg_of X G a37, b37, q38, _, f38, PySem.W.mg_of X G a38, b38, q39, _, f39, PySem.W.mg_of X G a39, b39, q40, _, f40, PySem.W.mg_of X G a40, b40, q41, _, f41, PySem.W.mg_of X G a41, b41, q42, _, f42, PySem.W.mg_of X G a42, b42, q43, _, f43, PySem.W.mg_of X G a43, b43, q44, _, f44, PySem.W.mg_of X G a44, b44, q45, _, f45, PySem.W.mg_of X G a45, b45, PySem.W.mg_none_of X G u0, PySem.W.mg_none_of X G u1, PySem.W.mg_none_of X G u2, tk3, PySem.W.mg_of X G u3, tk4, PySem.W.mg_of X G u4, tk5, PySem.W.mg_of X G u5, tk6, PySem.W.mg_of X G u6, PySem.W.mg_none_of X G u7, PySem.W.mg_none_of X G u8, PySem.W.mg_none_of X G u9, PySem.W.mg_none_of X G u10, PySem.W.mg_none_of X G u11, PySem.W.mg_none_of X G u12, PySem.W.mg_none_of X G u13, PySem.W.mg_none_of X G u14, PySem.W.mg_none_of X G u15, PySem.W.mg_none_of X G u16⟩, _, _, _, _, _, _, rfl⟩
def spLaw (K : PySem.W.Frag) : Sp := fun vs H Q _ => ∃ (a : Addr) (ns : List Int), vs = [.ref a] ∧ SqL K H a (ns.map V.int) ∧ ns.length ≤ 63 ∧ ∀ H', Q (.bl true) H'
theorem dens_nums {K : PySem.W.Frag} {CL : Nat → Addr × List Str} {F : Hp} : ∀ ns : List Int, DenL K CL F (ns.map V.int) (ns.map D.int)
  | [] => .nil
  | n :: ns => .cons (.int n) (dens_nums ns)
theorem law_sp {K : PySem.W.Frag} {CL : Nat → Addr × List Str} {vs : List V} {H : Hp} {Q : VK} {E : XK} (h : spLaw K vs H Q E) : spF K CL F_law 1 vs H Q E := by
  obtain ⟨a, ns, rfl, hs, hl, q⟩ := h
  obtain ⟨o, e⟩ := law_true ns hl
  refine ⟨rfl, fun b => if b = a then H a else none, [.sh (.ro (ns.map D.int))], ⟨rfl, fun b u z => ?_, fun i s z => ?_, fun i i' xs ys b z => ?_⟩, ?_⟩
  · by_cases hb : b = a
    · subst hb
      simpa using z
    · simp [hb] at z
  · match i, z with
    | 0, z =>
      cases z
      refine ⟨.ref a, rfl, .ro ?_ (dens_nums ns)⟩
      rcases hs with (hs | ⟨ob, hs⟩) | hs
      · exact .inl (.inl (by simpa using hs))
      · exact .inl (.inr ⟨ob, by simpa using hs⟩)
      · exact .inr hs
    | _ + 1, z => simp at z
  · match i, z with
    | 0, z => cases z
    | _ + 1, z => simp at z
  · rw [e]
    intro F' v H' _ _ rd
    cases rd
    exact q H'
theorem walk {l : PySem.W.OpenLaw} {q : Program} {loose : List Str} {XP : (Str → Option Value) → Heap → Prop} {YP : World → Heap → Prop} {d : DefRec} {K : Params → PySem.W.Frag} (hn : l.most = some 63) (hdf : d.params.defaults = []) (hd : d.name = "law")
    (hY : ∀ (w : World) (h : Heap), YP w h → (K w.params).In h)
    (Fc : ∀ (w : World) (mg : Str → Option Value) (h : Heap), (K w.params).In h → h.Ns mainGlobals mg → ∃ T : Facts (K w.params) mg, ∃ kV dc pm an cd ct, T.d_law = PySem.W.fnOf "law" "law" (defArgs st_law) (defBody st_law) (defScope st_law) .none kV dc pm an cd ct) :
    PySem.W.WalkO q loose XP YP l.row.toRowW d [] (fun f vs => PySem.call f vs) :=
  L2.walk_of (n := 63) (k := 8) (x := "_law_script") (CX := fun _ => CX0) (sp := fun w => spLaw (K w.params)) hn (by decide) hdf ⟨rfl, by decide, by decide⟩ hY
    (fun w mg fa h KX G hmg => by
      obtain ⟨T, kV, dc, pm, an, cd, ct, e⟩ := Fc w mg h KX G
      rw [hd, T.m_law] at hmg
      cases hmg
      refine ⟨T.d_law, fun s u => ?_, fun base _ _ => (ok_law T (fun n => if n = 0 then (T.q_Web, fs_Web) else (0, [])) rfl).imp fun vs H Q E h => law_sp h⟩
      rw [e]
      exact .of_eq rfl)
    (fun _ _ a ns hl _ hS => ⟨a, ns, rfl, hS, hl, fun _ => rfl⟩) fun _ _ _ _ _ z => z
end Ev
open PySem PySem.W PyProof.Rows
set_option maxRecDepth 100000 in
set_option maxHeartbeats 0 in
theorem PySem.Challenge.cw_lightfirst_k11_whole_rings_that_pieces_c_holds : PySem.Challenge.rw_lightfirst_k11_whole_rings_that_pieces_c.Holds := by
  w_on; o_law; k_head; (case hw => w_witness2)
  k_fill
  refine Ev.walk (l := PySem.Challenge.rw_lightfirst_k11_whole_rings_that_pieces_c) rfl rfl rfl (fun w h Y => PySem.W.kIn_of Y) ?F
  case F =>
    intro w mg h KX G
    refine' Ev.all_mk KX G ?a0 ?l0 ?c0 ?k0 ?a1 ?l1 ?c1 ?k1 ?a2 ?l2 ?c2 ?k2 ?a3 ?l3 ?c3 ?k3 ?a4 ?l4 ?c4 ?k4 ?a5 ?l5 ?c5 ?k5 ?a6 ?l6 ?c6 ?k6 ?a7 ?l7 ?c7 ?k7 ?a8 ?l8 ?c8 ?k8 ?a9 ?l9 ?c9 ?k9 ?a10 ?l10 ?c10 ?k10 ?a11 ?l11 ?c11 ?k11 ?a12 ?l12 ?c12 ?k12 ?a13 ?l13 ?c13 ?k13 ?aC14 ?a14 ?i14 ?l14 ?c14 ?k14 ?pg14 ?hd14 ?po14 ?sa14 ?mk14 ?kc14 ?n14_0 ?n14_1 ?n14_2 ?a15 ?l15 ?c15 ?k15 ?a16 ?l16 ?c16 ?k16 ?a17 ?l17 ?c17 ?k17 ?a18 ?l18 ?c18 ?k18 ?a19 ?l19 ?c19 ?k19 ?a20 ?l20 ?c20 ?k20 ?a21 ?l21 ?c21 ?k21 ?a22 ?l22 ?c22 ?k22 ?a23 ?l23 ?c23 ?k23 ?a24 ?l24 ?c24 ?k24 ?a25 ?l25 ?c25 ?k25 ?a26 ?l26 ?c26 ?k26 ?a27 ?l27 ?c27 ?k27 ?a28 ?l28 ?c28 ?k28 ?a29 ?l29 ?c29 ?k29 ?a30 ?l30 ?c30 ?k30 ?a31 ?l31 ?c31 ?k31 ?a32 ?l32 ?c32 ?k32 ?a33 ?l33 ?c33 ?k33 ?a34 ?l34 ?c34 ?k34 ?a35 ?l35 ?c35 ?k35 ?a36 ?l36 ?c36 ?k36 ?a37 ?l37 ?c37 ?k37 ?a38 ?l38 ?c38 ?k38 ?a39 ?l39 ?c39 ?k39 ?a40 ?l40 ?c40 ?k40 ?a41 ?l41 ?c41 ?k41 ?a42 ?l42 ?c42 ?k42 ?a43 ?l43 ?c43 ?k43 ?a44 ?l44 ?c44 ?k44 ?a45 ?l45 ?c45 ?k45 ?u0 ?u1 ?u2 ?u3 ?u4 ?u5 ?u6 ?u7 ?u8 ?u9 ?u10 ?u11 ?u12 ?u13 ?u14 ?u15 ?u16
    (case a0 => k_is)
    (case l0 => k_is)
    (case c0 => k_is)
    (case k0 => k_is)
    (case a1 => k_is)
    (case l1 => k_is)
    (case c1 => k_is)
    (case k1 => k_is)
    (case a2 => k_is)
    (case l2 => k_is)
    (case c2 => k_is)
    (case k2 => k_is)
    (case a3 => k_is)
    (case l3 => k_is)
    (case c3 => k_is)
    (case k3 => k_is)
    (case a4 => k_is)
    (case l4 => k_is)
    (case c4 => k_is)
    (case k4 => k_is)
    (case a5 => k_is)
    (case l5 => k_is)
    (case c5 => k_is)
    (case k5 => k_is)
    (case a6 => k_is)
    (case l6 => k_is)
    (case c6 => k_is)
    (case k6 => k_is)
    (case a7 => k_is)
    (case l7 => k_is)
    (case c7 => k_is)
    (case k7 => k_is)
    (case a8 => k_is)
    (case l8 => k_is)
    (case c8 => k_is)
    (case k8 => k_is)
    (case a9 => k_is)
    (case l9 => k_is)
    (case c9 => k_is)
    (case k9 => k_is)
    (case a10 => k_is)
    (case l10 => k_is)
    (case c10 => k_is)
    (case k10 => k_is)
    (case a11 => k_is)
    (case l11 => k_is)
    (case c11 => k_is)
    (case k11 => k_is)
    (case a12 => k_is)
    (case l12 => k_is)
    (case c12 => k_is)
    (case k12 => k_is)
    (case a13 => k_is)
    (case l13 => k_is)
    (case c13 => k_is)
    (case k13 => k_is)
    (case aC14 => k_is)
    (case a14 => k_is)
    (case i14 => k_is)
    (case l14 => k_is)
    (case c14 => k_is)
    (case k14 => k_is)
    (case pg14 => k_is)
    (case hd14 => k_is)
    (case po14 => k_is)
    (case sa14 => k_is)
    (case mk14 => k_is)
    (case kc14 => k_is)
    (case n14_0 => k_is)
    (case n14_1 => k_is)
    (case n14_2 => k_is)
    (case a15 => k_is)
    (case l15 => k_is)
    (case c15 => k_is)
    (case k15 => k_is)
    (case a16 => k_is)
    (case l16 => k_is)
    (case c16 => k_is)
    (case k16 => k_is)
    (case a17 => k_is)
    (case l17 => k_is)
    (case c17 => k_is)
    (case k17 => k_is)
    (case a18 => k_is)
    (case l18 => k_is)
    (case c18 => k_is)
    (case k18 => k_is)
    (case a19 => k_is)
    (case l19 => k_is)
    (case c19 => k_is)
    (case k19 => k_is)
    (case a20 => k_is)
    (case l20 => k_is)
    (case c20 => k_is)
    (case k20 => k_is)
    (case a21 => k_is)
    (case l21 => k_is)
    (case c21 => k_is)
    (case k21 => k_is)
    (case a22 => k_is)
    (case l22 => k_is)
    (case c22 => k_is)
    (case k22 => k_is)
    (case a23 => k_is)
    (case l23 => k_is)
    (case c23 => k_is)
    (case k23 => k_is)
    (case a24 => k_is)
    (case l24 => k_is)
    (case c24 => k_is)
    (case k24 => k_is)
    (case a25 => k_is)
    (case l25 => k_is)
    (case c25 => k_is)
    (case k25 => k_is)
    (case a26 => k_is)
    (case l26 => k_is)
    (case c26 => k_is)
    (case k26 => k_is)
    (case a27 => k_is)
    (case l27 => k_is)
    (case c27 => k_is)
    (case k27 => k_is)
    (case a28 => k_is)
    (case l28 => k_is)
    (case c28 => k_is)
    (case k28 => k_is)
    (case a29 => k_is)
    (case l29 => k_is)
    (case c29 => k_is)
    (case k29 => k_is)
    (case a30 => k_is)
    (case l30 => k_is)
    (case c30 => k_is)
    (case k30 => k_is)
    (case a31 => k_is)
    (case l31 => k_is)
    (case c31 => k_is)
    (case k31 => k_is)
    (case a32 => k_is)
    (case l32 => k_is)
    (case c32 => k_is)
    (case k32 => k_is)
    (case a33 => k_is)
    (case l33 => k_is)
    (case c33 => k_is)
    (case k33 => k_is)
    (case a34 => k_is)
    (case l34 => k_is)
    (case c34 => k_is)
    (case k34 => k_is)
    (case a35 => k_is)
    (case l35 => k_is)
    (case c35 => k_is)
    (case k35 => k_is)
    (case a36 => k_is)
    (case l36 => k_is)
    (case c36 => k_is)
    (case k36 => k_is)
    (case a37 => k_is)
    (case l37 => k_is)
    (case c37 => k_is)
    (case k37 => k_is)
    (case a38 => k_is)
    (case l38 => k_is)
    (case c38 => k_is)
    (case k38 => k_is)
    (case a39 => k_is)
    (case l39 => k_is)
    (case c39 => k_is)
    (case k39 => k_is)
    (case a40 => k_is)
    (case l40 => k_is)
    (case c40 => k_is)
    (case k40 => k_is)
    (case a41 => k_is)
    (case l41 => k_is)
    (case c41 => k_is)
    (case k41 => k_is)
    (case a42 => k_is)
    (case l42 => k_is)
    (case c42 => k_is)
    (case k42 => k_is)
    (case a43 => k_is)
    (case l43 => k_is)
    (case c43 => k_is)
    (case k43 => k_is)
    (case a44 => k_is)
    (case l44 => k_is)
    (case c44 => k_is)
    (case k44 => k_is)
    (case a45 => k_is)
    (case l45 => k_is)
    (case c45 => k_is)
    (case k45 => k_is)
    (case u0 => k_is)
    (case u1 => k_is)
    (case u2 => k_is)
    (case u3 => k_is)
    (case u4 => k_is)
    (case u5 => k_is)
    (case u6 => k_is)
    (case u7 => k_is)
    (case u8 => k_is)
    (case u9 => k_is)
    (case u10 => k_is)
    (case u11 => k_is)
    (case u12 => k_is)
    (case u13 => k_is)
    (case u14 => k_is)
    (case u15 => k_is)
    (case u16 => k_is)
