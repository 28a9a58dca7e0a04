import PyProof.Rows.All
import Wide.All
import OpenK.AllK
import Wide.FinOn
import HandS.ForMost
import HandS.Lambda
import HandS.Wide
import HandS.TupAny
import HandS.TupMul
import HandS.IsInst
import HandS.Style
import HandS.Deep
import HandS.Zip
import HandS.TupLe
import KE.SortData
import KE.SortKeyHeap
import HandS.EndTab
import KE.KNestM
import PyProof.EnumMake
import PyProof.TupleIter
import HandS.Strs
import HandS.SetFor
import HandS.Dict
import KE.GoesZip
import HandS.Conv
import KE.DataAny
import HandS.Gcd
import KE.KMathGC
import HandS.Ends
import HandS.Words
import KE.KDictZip
import HandS.Sort
import HandS.DictComp
import HandS.Iter
import PySem.Challenge.RW_lightfirst_k10_whole_rings_of_small_webs
set_option Elab.async false
set_option linter.all false
set_option maxRecDepth 100000
/-! A small evaluator of data, and what ties it to the layer. -/
namespace Ev
open PySem L2
/-! ### data -/
inductive D where
  | non | bl (b : Bool) | int (i : Int) | str (x : Str) | tup (xs : List D) | lst (xs : List D) | ro (xs : List D) | obj (c : Nat) (xs : List D) | dk (ks : List Key) (xs : List D) | dt (ks : List (List Key)) (xs : List D) | ty (n : String) | cls (c : Nat) | tn (xs : List D)
  deriving Inhabited
/-- what a variable holds: nothing, data that never changes, a list of the frame's own, such a list while a loop walks it, the mark of a parameter whose list still stands in its variable -/
inductive Slot where
  | un | sh (d : D) | ow (xs : List D) | lk (xs : List D) | att | od (ks : List (List Key)) (xs : List D)
  deriving Inhabited
/-- what an expression gives: data, a new list, the list of a variable -/
inductive B where
  | d (x : D) | nw (xs : List D) | loc (i : Nat)
  deriving Inhabited
inductive RB where
  | d (x : D) | nw (xs : List D)
  deriving Inhabited
@[reducible] def RB.b : RB → B
  | .d x => .d x
  | .nw xs => .nw xs
structure Env where
  v : List Slot
  o : List Slot
  deriving Inhabited
/-- an exception: its class by number, its fields -/
structure Exc where
  c : Nat
  fs : List D
inductive Res (α : Type) where
  | no | ok (a : α) (ρ : Env) | ex (x : Exc) (ρ : Env)
@[inline] def Res.bind {α β : Type} : Res α → (α → Env → Res β) → Res β
  | .no, _ => .no
  | .ok a ρ, f => f a ρ
  | .ex x ρ, _ => .ex x ρ
inductive FRes where
  | no | ok (r : RB) (o : List Slot) | ex (x : Exc) (o : List Slot)
/-- a def: from what is passed (sh, ow) -/
abbrev Fn := List Slot → FRes
def Env.setv (ρ : Env) (i : Nat) (s : Slot) : Env := { ρ with v := ρ.v.set i s }
/-- x = ..: a parameter's list is told in o from now on -/
def Env.bnd (ρ : Env) (i : Nat) (s : Slot) : Option Env :=
  match ρ.v[i]?, ρ.o[i]? with
  | none, _ => none
  | some (.ow xs), some .att => some { v := ρ.v.set i s, o := ρ.o.set i (.ow xs) }
  | some _, some .att => none
  | some _, _ => some { ρ with v := ρ.v.set i s }
/-- the list of a variable becomes data -/
def Env.frz (ρ : Env) (i : Nat) (xs : List D) : Env :=
  match ρ.o[i]? with
  | some .att => { v := ρ.v.set i (.sh (.lst xs)), o := ρ.o.set i (.sh (.lst xs)) }
  | _ => { ρ with v := ρ.v.set i (.sh (.lst xs)) }
def B.view (ρ : Env) : B → Option D
  | .d x => some x
  | .nw xs => some (.lst xs)
  | .loc i => match ρ.v[i]? with
    | some (.sh x) => some x
    | some (.ow xs) => some (.lst xs)
    | some (.lk xs) => some (.lst xs)
    | _ => none
def views (ρ : Env) : List B → Option (List D)
  | [] => some []
  | b :: bs => match b.view ρ with
    | none => none
    | some d => match views ρ bs with
      | none => none
      | some ds => some (d :: ds)
/-- what is to stand in other data: from now on it is data -/
def B.keep (ρ : Env) : B → Option (D × Env)
  | .d x => some (x, ρ)
  | .nw xs => some (.lst xs, ρ)
  | .loc i => match ρ.v[i]? with
    | some (.sh x) => some (x, ρ)
    | some (.ow xs) => some (.lst xs, ρ.frz i xs)
    | _ => none
/-- what is passed -/
def B.arg (ρ : Env) : B → Option Slot
  | .d x => some (.sh x)
  | .nw xs => some (.ow xs)
  | .loc i => match ρ.v[i]? with
    | some (.sh x) => some (.sh x)
    | some (.ow xs) => some (.ow xs)
    | _ => none
def args (ρ : Env) : List B → Option (List Slot)
  | [] => some []
  | b :: bs => match b.arg ρ with
    | none => none
    | some d => match args ρ bs with
      | none => none
      | some ds => some (d :: ds)
/-- no variable's list is passed twice -/
def noTwice : List B → Bool
  | [] => true
  | .loc i :: bs => (bs.all fun b => match b with | .loc j => i != j | _ => true) && noTwice bs
  | _ :: bs => noTwice bs
def mapI (f : Nat → Slot → Slot) : Nat → List Slot → List Slot
  | _, [] => []
  | n, s :: r => f n s :: mapI f (n + 1) r
def newAt : List B → List Slot → Nat → Option Slot
  | .loc j :: bs, s :: ss, i => if i = j then some s else newAt bs ss i
  | _ :: bs, _ :: ss, i => newAt bs ss i
  | _, _, _ => none
def new1 : Slot → Option Slot → Slot
  | .ow _, some (.ow xs) => .ow xs
  | .ow _, some (.sh d) => .sh d
  | s, _ => s
def newO : Slot → Option Slot → Option Slot → Slot
  | .att, some (.ow _), some (.sh d) => .sh d
  | s, _, _ => s
/-- behind a call: what was passed is as the callee left it -/
def back (ρ : Env) (bs : List B) (ss : List Slot) : Env :=
  { v := mapI (fun i s => new1 s (newAt bs ss i)) 0 ρ.v, o := mapI (fun i s => newO s ρ.v[i]? (newAt bs ss i)) 0 ρ.o }
def hasLoc (i : Nat) : List B → Bool
  | [] => false
  | .loc j :: bs => i == j || hasLoc i bs
  | _ :: bs => hasLoc i bs
def lock1 : Slot → Bool → Slot
  | .ow xs, true => .lk xs
  | s, _ => s
def locks (ρ : Env) (bs : List B) : Env := { ρ with v := mapI (fun i s => lock1 s (hasLoc i bs)) 0 ρ.v }
def unlock1 : Slot → Option Slot → Bool → Slot
  | .lk xs, some (.ow _), true => .ow xs
  | s, _, _ => s
/-- ρ0: ahead of the locks -/
def unlocks (ρ0 ρ : Env) (bs : List B) : Env := { ρ with v := mapI (fun i s => unlock1 s ρ0.v[i]? (hasLoc i bs)) 0 ρ.v }
inductive Tg where
  | n (i : Nat) | t (is : List Nat)
def Tg.is : Tg → List Nat
  | .n i => [i]
  | .t is => is
def bndAll (ρ : Env) : List Nat → List D → Option Env
  | [], [] => some ρ
  | i :: is, d :: ds => match ρ.bnd i (.sh d) with
    | none => none
    | some ρ' => bndAll ρ' is ds
  | _, _ => none
def Tg.set (ρ : Env) (x : D) : Tg → Option Env
  | .n i => ρ.bnd i (.sh x)
  | .t is => match x with
    | .tup ds => bndAll ρ is ds
    | _ => none
def D.truth : D → Option Bool
  | .non => some false
  | .bl b => some b
  | .int i => some (i != 0)
  | .str x => if x.length ≤ 1000000 then some ((x.length : Int) != 0) else none
  | .tup xs => some (!xs.isEmpty)
  | .lst xs => some (!xs.isEmpty)
  | .ro _ => none
  | .obj _ _ => none
  | .dk _ _ => none
  | .dt _ _ => none
  | .tn _ => none
  | .ty _ => none
  | .cls _ => none
mutual
inductive E where
  | var (i : Nat) | con (d : D)
  | prim (f : List D → Option RB) (as : Es)
  | tup (as : Es) | lst (as : Es) | dnew
  | call (g : Fn) (as : Es)
  | mut (f : List D → List D → Option (List D × D)) (i : Nat) (as : Es)
  | and (a b : E) | or (a b : E) | notb (a : E)
  | chain (f f' : List D → Option RB) (a b d : E)
  | ite (c : T) (a b : E)
  | lc (own : List Nat) (tg : Tg) (f : List D → Option (List D)) (as : Es) (c : OT) (elt : E)
  | sortk (f : List D → List D → Option (List D)) (as : Es) (j : Nat) (key : E)
  | dc (own : List Nat) (tg : Tg) (f : List D → Option (List D)) (as : Es) (c : OT) (ek ev : E)
  | dct (own : List Nat) (tg : Tg) (f : List D → Option (List D)) (as : Es) (c : OT) (ek ev : E)
  /-- a dict of one's own: what stands at a key, whether a key is there (or not), made data -/
  | dget (i : Nat) (ek : E) | din (neg : Bool) (i : Nat) (ek : E) | dfrz (i : Nat)
  /-- one key with its value goes; how many there are; value and key, one pair for each key (j: the walk's own variable) -/
  | dpop (i : Nat) (ek : E) | dlen (i : Nat) | ditems (i j : Nat)
inductive Es where
  | nil | cons (e : E) (es : Es)
inductive OT where
  | none | some (t : T)
inductive T where
  | e (e : E) | eb (e : E) | and (a b : T) | or (a b : T) | not (a : T)
end
def Es.len : Es → Nat
  | .nil => 0
  | .cons _ es => es.len + 1
inductive Flow where
  | nx | rt (b : B) | brk
mutual
inductive S where
  | asg (tg : Tg) (e : E)
  | par (i j : Nat) (a b : E)
  /-- i = j, the list of j moves -/
  | mv (i j : Nat)
  | seti (i : Nat) (ix v : E)
  /-- i = {}; i, j = {}, e; i[key] = v -/
  | dnew (i : Nat) | dpar (i j : Nat) (e : E) | dset (i : Nat) (ek ev : E)
  /-- i = j, the own dict of j moves -/
  | mvd (i j : Nat)
  /-- i, j = {ek: ev}, {} -/
  | dpar2 (i j : Nat) (ek ev : E)
  | seti2 (i : Nat) (ix1 ix2 v : E)
  | ex (e : E) | ret (e : E) | retN
  | ite (c : T) (a b : Ss)
  | «for» (tg : Tg) (f : List D → Option (List D)) (as : Es) (body : Ss)
  | «while» (c : T) (body : Ss)
  | brk | pass
  | never
inductive Ss where
  | nil | cons (s : S) (ss : Ss)
end
def wipeE (ρ : Env) (own : List Nat) : Env := { ρ with v := mapI (fun i s => if own.contains i then .un else s) 0 ρ.v }
/-- behind a block: its own variables as ahead of it -/
def unwipe (ρ0 ρ : Env) (own : List Nat) : Env := { ρ with v := mapI (fun i s => if own.contains i then ρ0.v.getD i .un else s) 0 ρ.v }
/-- one turn after another of a comprehension -/
def lcLoop (step : D → Env → Res (Option D)) : List D → List D → Env → Res (List D)
  | [], acc, ρ => .ok acc ρ
  | x :: xs, acc, ρ => match step x ρ with
    | .no => .no
    | .ex _ _ => .no
    | .ok none ρ' => lcLoop step xs acc ρ'
    | .ok (some y) ρ' => lcLoop step xs (acc ++ [y]) ρ'
/-- a key of a dict; a dict's keys and values when one more is put -/
def keyB : B → Option Key
  | .d (.int i) => some (.inl i)
  | .d (.str x) => some (.inr x)
  | _ => none
/-- a key that is a tuple of whole numbers and texts -/
def keysD : List D → Option (List Key)
  | [] => some []
  | .int i :: xs => (keysD xs).map (.inl i :: ·)
  | .str x :: xs => (keysD xs).map (.inr x :: ·)
  | _ => none
def keysB : B → Option (List Key)
  | .d (.tup xs) => keysD xs
  | _ => none
def hasK {κ : Type} [DecidableEq κ] (ks : List κ) (k : κ) : Bool := ks.any fun j => decide (j = k)
def putKs {κ : Type} [DecidableEq κ] (ks : List κ) (k : κ) : List κ := if hasK ks k = true then ks else ks ++ [k]
def putX {κ : Type} [DecidableEq κ] {α : Type} (ks : List κ) (xs : List α) (k : κ) (x : α) : List α := if hasK ks k = true then (ks.zip xs).map fun a => if a.1 = k then x else a.2 else xs ++ [x]
def dcLoop {κ : Type} [DecidableEq κ] (step : D → Env → Res (Option (κ × D))) : List D → List κ → List D → Env → Res (List κ × List D)
  | [], ks, vs, ρ => .ok (ks, vs) ρ
  | x :: xs, ks, vs, ρ => match step x ρ with
    | .no => .no
    | .ex _ _ => .no
    | .ok none ρ' => dcLoop step xs ks vs ρ'
    | .ok (some (k, y)) ρ' => dcLoop step xs (putKs ks k) (putX ks vs k y) ρ'
/-- what a lambda of one parameter (slot j) sees: the data that the variables hold -/
def keyEnv (ρ : Env) (j : Nat) (x : D) : Env := { v := (ρ.v.map fun s => match s with | .sh d => .sh d | _ => .un).set j (.sh x), o := [] }
def keyAll (step : D → Option D) : List D → Option (List D)
  | [] => some []
  | x :: xs => match step x with
    | none => none
    | some y => match keyAll step xs with
      | none => none
      | some ys => some (y :: ys)
def itemsOf : List D → Option (List D)
  | [.lst xs] => some xs
  | [.ro xs] => some xs
  | [.tup xs] => some xs
  | _ => none
/-- what stands at a key, of any kind of keys -/
def valY {κ α : Type} [DecidableEq κ] (ks : List κ) (xs : List α) (k : κ) : Option α := ((ks.zip xs).find? fun a => decide (a.1 = k)).map (·.2)
def dropKs {κ : Type} [DecidableEq κ] (ks : List κ) (k : κ) : List κ := ks.filter fun j => decide (j ≠ k)
def dropX {κ α : Type} [DecidableEq κ] (ks : List κ) (xs : List α) (k : κ) : List α := ((ks.zip xs).filter fun a => decide (a.1 ≠ k)).map (·.2)
def keyDs (k : List Key) : List D := k.map fun a => match a with
  | .inl i => .int i
  | .inr x => .str x
def itemsY (ks0 : List (List Key)) (xs : List D) : List (List Key) → Option (List D)
  | [] => some []
  | k :: ks => match valY ks0 xs k with
    | none => none
    | some d => match itemsY ks0 xs ks with
      | none => none
      | some ys => some (.tup [d, .tup (keyDs k)] :: ys)
mutual
def evE : E → Env → Res B
  | .var i, ρ => match ρ.v[i]? with
    | some (.sh d) => .ok (.d d) ρ
    | some (.ow _) => .ok (.loc i) ρ
    | some (.lk _) => .ok (.loc i) ρ
    | _ => .no
  | .con d, ρ => .ok (.d d) ρ
  | .prim f as, ρ => (evA as ρ).bind fun bs ρ1 => match views ρ1 bs with
    | none => .no
    | some ds => match f ds with
      | none => .no
      | some r => .ok r.b ρ1
  | .tup as, ρ => (evD as ρ).bind fun ds ρ1 => if ds.length ≤ 1000 then .ok (.d (.tup ds)) ρ1 else .no
  | .lst as, ρ => (evD as ρ).bind fun ds ρ1 => if ds.length ≤ 1000 then .ok (.nw ds) ρ1 else .no
  | .dnew, ρ => .ok (.d (.dk [] [])) ρ
  | .call g as, ρ => (evA as ρ).bind fun bs ρ1 => if noTwice bs then match args ρ1 bs with
    | none => .no
    | some ss => match g ss with
      | .no => .no
      | .ok r o => .ok r.b (back ρ1 bs o)
      | .ex x o => .ex x (back ρ1 bs o) else .no
  | .mut f i as, ρ => match ρ.v[i]? with
    | some (.ow _) => (evD as ρ).bind fun ds ρ2 => match ρ2.v[i]? with
      | some (.ow xs) => match f xs ds with
        | none => .no
        | some (ys, x) => .ok (.d x) (ρ2.setv i (.ow ys))
      | _ => .no
    | _ => .no
  | .and a b, ρ => (evE a ρ).bind fun x ρ1 => match x.view ρ1 with
    | some (.bl c) => if c then evE b ρ1 else .ok (.d (.bl false)) ρ1
    | _ => .no
  | .or a b, ρ => (evE a ρ).bind fun x ρ1 => match x.view ρ1 with
    | some (.bl c) => if c then .ok (.d (.bl true)) ρ1 else evE b ρ1
    | _ => .no
  | .notb a, ρ => (evE a ρ).bind fun x ρ1 => match x.view ρ1 with
    | some (.bl c) => .ok (.d (.bl (!c))) ρ1
    | _ => .no
  | .chain f f' a b d, ρ => (evE a ρ).bind fun x ρ1 => (evE b ρ1).bind fun y ρ2 => match x.view ρ2, y.view ρ2 with
    | some u, some v => (match f [u, v] with
      | some (.d (.bl k)) => (match k with
        | false => .ok (.d (.bl false)) ρ2
        | true => (evE d ρ2).bind fun z ρ3 => match y.view ρ3, z.view ρ3 with
          | some v', some w => (match f' [v', w] with
            | none => .no
            | some r => .ok r.b ρ3)
          | _, _ => .no)
      | _ => .no)
    | _, _ => .no
  | .ite c a b, ρ => (evT c ρ).bind fun k ρ1 => if k then evE a ρ1 else evE b ρ1
  | .lc own tg f as c elt, ρ => (evA as ρ).bind fun bs ρ1 => match views ρ1 bs with
    | none => .no
    | some ds => match f ds with
      | none => .no
      | some items => if items.length ≤ sizeLine ∧ (own.all fun i => match ρ1.o[i]? with | some .att => false | _ => true) = true ∧ (tg.is.all fun i => own.contains i) = true then
        (lcLoop (fun x ρ => match tg.set ρ x with
          | none => .no
          | some ρ' => (evO c ρ').bind fun k ρ'' => if k then (evE elt ρ'').bind fun b ρ2 => match b.keep ρ2 with
              | none => .no
              | some (d, ρ3) => .ok (some d) (wipeE ρ3 own) else .ok none (wipeE ρ'' own)) items [] (wipeE (locks ρ1 bs) own)).bind fun acc ρ3 => .ok (.nw acc) (unlocks ρ1 (unwipe (locks ρ1 bs) ρ3 own) bs) else .no
  | .sortk f as j key, ρ => (evA as ρ).bind fun bs ρ1 => match views ρ1 bs with
    | none => .no
    | some ds => match itemsOf ds with
      | none => .no
      | some xs => match keyAll (fun x => match evE key (keyEnv ρ1 j x) with
          | .ok (.d y) _ => some y
          | _ => none) xs with
        | none => .no
        | some ks => match f xs ks with
          | none => .no
          | some ys => .ok (.nw ys) ρ1
  | .dc own tg f as c ek ev, ρ => (evA as ρ).bind fun bs ρ1 => match views ρ1 bs with
    | none => .no
    | some ds => match f ds with
      | none => .no
      | some items => if items.length ≤ sizeLine ∧ (own.all fun i => match ρ1.o[i]? with | some .att => false | _ => true) = true ∧ (tg.is.all fun i => own.contains i) = true then
        (dcLoop (fun x ρ => match tg.set ρ x with
          | none => .no
          | some ρ' => (evO c ρ').bind fun k ρ'' => if k then (evE ek ρ'').bind fun b ρ2 => match keyB b with
              | none => .no
              | some key => (evE ev ρ2).bind fun b2 ρ3 => match b2.keep ρ3 with
                | none => .no
                | some (d, ρ4) => .ok (some (key, d)) (wipeE ρ4 own) else .ok none (wipeE ρ'' own)) items [] [] (wipeE (locks ρ1 bs) own)).bind fun acc ρ3 => .ok (.d (.dk acc.1 acc.2)) (unlocks ρ1 (unwipe (locks ρ1 bs) ρ3 own) bs) else .no
  | .dct own tg f as c ek ev, ρ => (evA as ρ).bind fun bs ρ1 => match views ρ1 bs with
    | none => .no
    | some ds => match f ds with
      | none => .no
      | some items => if items.length ≤ sizeLine ∧ (own.all fun i => match ρ1.o[i]? with | some .att => false | _ => true) = true ∧ (tg.is.all fun i => own.contains i) = true then
        (dcLoop (fun x ρ => match tg.set ρ x with
          | none => .no
          | some ρ' => (evO c ρ').bind fun k ρ'' => if k then (evE ek ρ'').bind fun b ρ2 => match keysB b with
              | none => .no
              | some key => (evE ev ρ2).bind fun b2 ρ3 => match b2.keep ρ3 with
                | none => .no
                | some (d, ρ4) => .ok (some (key, d)) (wipeE ρ4 own) else .ok none (wipeE ρ'' own)) items [] [] (wipeE (locks ρ1 bs) own)).bind fun acc ρ3 => .ok (.d (.dt acc.1 acc.2)) (unlocks ρ1 (unwipe (locks ρ1 bs) ρ3 own) bs) else .no
  | .dget i ek, ρ => match ρ.v[i]? with
    | some (.od _ _) => (evE ek ρ).bind fun b ρ1 => match ρ1.v[i]? with
      | some (.od ks xs) => match keysB b with
        | none => .no
        | some k => match valY ks xs k with
          | none => .no
          | some d => .ok (.d d) ρ1
      | _ => .no
    | _ => .no
  | .din neg i ek, ρ => (evE ek ρ).bind fun b ρ1 => match ρ1.v[i]? with
      | some (.od ks _) => match keysB b with
        | none => .no
        | some k => .ok (.d (.bl (hasK ks k != neg))) ρ1
      | _ => .no
  | .dpop i ek, ρ => match ρ.v[i]? with
    | some (.od _ _) => (evE ek ρ).bind fun b ρ1 => match ρ1.v[i]? with
      | some (.od ks xs) => match keysB b with
        | none => .no
        | some k => match valY ks xs k with
          | none => .no
          | some d => .ok (.d d) (ρ1.setv i (.od (dropKs ks k) (dropX ks xs k)))
      | _ => .no
    | _ => .no
  | .dlen i, ρ => match ρ.v[i]? with
    | some (.od ks _) => .ok (.d (.int ((ks.length : Nat) : Int))) ρ
    | _ => .no
  | .ditems i j, ρ => match ρ.v[i]? with
    | some (.od ks xs) => if i ≠ j ∧ j < ρ.v.length ∧ ks.length ≤ 1000000 then match itemsY ks xs ks with
      | none => .no
      | some ys => .ok (.nw ys) ρ else .no
    | _ => .no
  | .dfrz i, ρ => match ρ.v[i]? with
    | some (.od ks xs) => .ok (.d (.dt ks xs)) (ρ.setv i .un)
    | _ => .no
def evA : Es → Env → Res (List B)
  | .nil, ρ => .ok [] ρ
  | .cons e es, ρ => (evE e ρ).bind fun b ρ1 => (evA es ρ1).bind fun bs ρ2 => .ok (b :: bs) ρ2
def evO : OT → Env → Res Bool
  | .none, ρ => .ok true ρ
  | .some t, ρ => evT t ρ
def evD : Es → Env → Res (List D)
  | .nil, ρ => .ok [] ρ
  | .cons e es, ρ => (evE e ρ).bind fun b ρ1 => match b.keep ρ1 with
    | none => .no
    | some (d, ρ2) => (evD es ρ2).bind fun ds ρ3 => .ok (d :: ds) ρ3
def evT : T → Env → Res Bool
  | .e e, ρ => (evE e ρ).bind fun b ρ1 => match b.view ρ1 with
    | none => .no
    | some d => match d.truth with
      | none => .no
      | some k => .ok k ρ1
  | .eb e, ρ => (evE e ρ).bind fun b ρ1 => match b.view ρ1 with
    | some (.bl k) => .ok k ρ1
    | _ => .no
  | .and a b, ρ => (evT a ρ).bind fun k ρ1 => if k then evT b ρ1 else .ok false ρ1
  | .or a b, ρ => (evT a ρ).bind fun k ρ1 => if k then .ok true ρ1 else evT b ρ1
  | .not a, ρ => (evT a ρ).bind fun k ρ1 => .ok (!k) ρ1
end
def forLoop (step : D → Env → Res Flow) : List D → Env → Res Flow
  | [], ρ => .ok .nx ρ
  | x :: xs, ρ => match step x ρ with
    | .no => .no
    | .ex e ρ' => .ex e ρ'
    | .ok .nx ρ' => forLoop step xs ρ'
    | .ok (.rt b) ρ' => .ok (.rt b) ρ'
    | .ok .brk ρ' => .ok .nx ρ'
def whileLoop (c : Env → Res Bool) (step : Env → Res Flow) : Nat → Env → Res Flow
  | 0, _ => .no
  | n + 1, ρ => match c ρ with
    | .no => .no
    | .ex e ρ' => .ex e ρ'
    | .ok false ρ' => .ok .nx ρ'
    | .ok true ρ' => match step ρ' with
      | .no => .no
      | .ex e ρ'' => .ex e ρ''
      | .ok .nx ρ'' => whileLoop c step n ρ''
      | .ok (.rt b) ρ'' => .ok (.rt b) ρ''
      | .ok .brk ρ'' => .ok .nx ρ''
/-- more turns than any while here takes -/
def FUEL : Nat := 1000000000
/-- a variable's list becomes data, all else stays -/
def B.stab (ρ : Env) : B → Option (B × Env)
  | .d x => some (.d x, ρ)
  | .nw xs => some (.nw xs, ρ)
  | .loc i => match (B.loc i).keep ρ with
    | none => none
    | some (x, ρ') => some (.d x, ρ')
/-- x = b -/
def bindB (ρ : Env) (i : Nat) : B → Option Env
  | .d x => ρ.bnd i (.sh x)
  | .nw xs => ρ.bnd i (.ow xs)
  | .loc _ => none
/-- the list of a variable gets an item -/
def setAt (f : Env → Res B) (i : Nat) (d : D) (ρ : Env) (k : Env → Res Flow) : Res Flow := match ρ.v[i]? with
  | some (.ow _) => (f ρ).bind fun x ρ1 => match x.view ρ1 with
    | some (.int z) => (match ρ1.v[i]? with
      | some (.ow xs) => match ixN xs.length z with
        | none => .no
        | some j => k (ρ1.setv i (.ow (xs.set j d)))
      | _ => .no)
    | _ => .no
  | _ => .no
mutual
def evS : S → Env → Res Flow
  | .asg (.n i) e, ρ => (evE e ρ).bind fun b ρ1 => match b.stab ρ1 with
    | none => .no
    | some (b', ρ2) => match bindB ρ2 i b' with
      | none => .no
      | some ρ3 => .ok .nx ρ3
  | .asg (.t is) e, ρ => (evE e ρ).bind fun b ρ1 => match b.keep ρ1 with
    | some (.tup ds, ρ2) => match bndAll ρ2 is ds with
      | none => .no
      | some ρ3 => .ok .nx ρ3
    | _ => .no
  | .par i j a b, ρ => (evE a ρ).bind fun x ρ1 => (evE b ρ1).bind fun y ρ2 => match x.stab ρ2 with
    | none => .no
    | some (x', ρ3) => match y.stab ρ3 with
      | none => .no
      | some (y', ρ4) => match bindB ρ4 i x' with
        | none => .no
        | some ρ5 => match bindB ρ5 j y' with
          | none => .no
          | some ρ6 => .ok .nx ρ6
  | .mv i j, ρ => match ρ.v[j]? with
    | some (.ow xs) => if ρ.o[j]?.isNone then (match (ρ.setv j .un).bnd i (.ow xs) with
      | none => .no
      | some ρ3 => .ok .nx ρ3) else .no
    | _ => .no
  | .dnew i, ρ => match ρ.bnd i (.od [] []) with
    | none => .no
    | some ρ' => .ok .nx ρ'
  | .dpar i j e, ρ => (evE e ρ).bind fun b ρ1 => match b.stab ρ1 with
    | none => .no
    | some (b', ρ2) => match ρ2.bnd i (.od [] []) with
      | none => .no
      | some ρ3 => match bindB ρ3 j b' with
        | none => .no
        | some ρ4 => .ok .nx ρ4
  | .mvd i j, ρ => match ρ.v[j]? with
    | some (.od ks xs) => match (ρ.setv j .un).bnd i (.od ks xs) with
      | none => .no
      | some ρ' => .ok .nx ρ'
    | _ => .no
  | .dpar2 i j ek ev, ρ => (evE ek ρ).bind fun kb ρ1 => match keysB kb with
    | none => .no
    | some k => (evE ev ρ1).bind fun b ρ2 => match b.keep ρ2 with
      | none => .no
      | some (d, ρ3) => match ρ3.bnd i (.od [k] [d]) with
        | none => .no
        | some ρ4 => match ρ4.bnd j (.od [] []) with
          | none => .no
          | some ρ5 => .ok .nx ρ5
  | .dset i ek ev, ρ => (evE ev ρ).bind fun b ρ1 => match b.keep ρ1 with
    | none => .no
    | some (d, ρ2) => match ρ2.v[i]? with
      | some (.od _ _) => (evE ek ρ2).bind fun kb ρ3 => match ρ3.v[i]? with
        | some (.od ks xs) => match keysB kb with
          | none => .no
          | some k => if xs.length < sizeLine then .ok .nx (ρ3.setv i (.od (putKs ks k) (putX ks xs k d))) else .no
        | _ => .no
      | _ => .no
  | .seti i ix v, ρ => (evE v ρ).bind fun b ρ1 => match b.keep ρ1 with
    | none => .no
    | some (d, ρ2) => match ρ2.v[i]? with
      | some (.ow _) => (evE ix ρ2).bind fun k ρ3 => match k.view ρ3 with
        | some (.int z) => (match ρ3.v[i]? with
          | some (.ow xs) => match ixN xs.length z with
            | none => .no
            | some j => .ok .nx (ρ3.setv i (.ow (xs.set j d)))
          | _ => .no)
        | _ => .no
      | _ => .no
  | .seti2 i ix1 ix2 v, ρ => (evE v ρ).bind fun b ρ1 => match b.keep ρ1 with
    | some (.tup [d1, d2], ρ2) => setAt (evE ix1) i d1 ρ2 fun ρ3 => setAt (evE ix2) i d2 ρ3 fun ρ4 => .ok .nx ρ4
    | _ => .no
  | .ex e, ρ => (evE e ρ).bind fun _ ρ1 => .ok .nx ρ1
  | .ret e, ρ => (evE e ρ).bind fun b ρ1 => .ok (.rt b) ρ1
  | .retN, ρ => .ok (.rt (.d .non)) ρ
  | .ite c a b, ρ => (evT c ρ).bind fun k ρ1 => if k then evSs a ρ1 else evSs b ρ1
  | .for tg f as body, ρ => (evA as ρ).bind fun bs ρ1 => match views ρ1 bs with
    | none => .no
    | some ds => match f ds with
      | none => .no
      | some items => match forLoop (fun x ρ => match tg.set ρ x with
          | none => .no
          | some ρ' => evSs body ρ') items (locks ρ1 bs) with
        | .no => .no
        | .ex x ρ2 => .ex x (unlocks ρ1 ρ2 bs)
        | .ok fl ρ2 => .ok fl (unlocks ρ1 ρ2 bs)
  | .while c body, ρ => whileLoop (evT c) (evSs body) FUEL ρ
  | .brk, ρ => .ok .brk ρ
  | .pass, ρ => .ok .nx ρ
  | .never, _ => .no
def evSs : Ss → Env → Res Flow
  | .nil, ρ => .ok .nx ρ
  | .cons s ss, ρ => match evS s ρ with
    | .no => .no
    | .ex x ρ' => .ex x ρ'
    | .ok .nx ρ' => evSs ss ρ'
    | .ok (.rt b) ρ' => .ok (.rt b) ρ'
    | .ok .brk ρ' => .ok .brk ρ'
end
/-! ### a def -/
def outOf (ρ : Env) : Nat → List Slot → List Slot
  | _, [] => []
  | j, .att :: r => ρ.v.getD j .un :: outOf ρ (j + 1) r
  | j, s :: r => s :: outOf ρ (j + 1) r
def Env.outs (ρ : Env) : List Slot := outOf ρ 0 ρ.o
/-- what is handed back: a list of the def's own is a new one -/
def retB (ρ : Env) : B → Option (RB × Env)
  | .d x => some (.d x, ρ)
  | .nw xs => some (.nw xs, ρ)
  | .loc i => match ρ.v[i]? with
    | some (.sh x) => some (.d x, ρ)
    | some (.ow xs) => match ρ.o[i]? with
      | some .att => some (.d (.lst xs), ρ.frz i xs)
      | _ => some (.nw xs, ρ)
    | _ => none
def Slot.pass : Slot → Slot
  | .ow _ => .att
  | _ => .un
def start0 (n : Nat) (ss : List Slot) : Env :=
  { v := ss ++ List.replicate (n - ss.length) .un, o := ss.map Slot.pass }
def runFn (n : Nat) (body : Ss) : Fn := fun ss => match evSs body (start0 n ss) with
  | .no => .no
  | .ex x ρ => .ex x ρ.outs
  | .ok .nx ρ => .ok (.d .non) ρ.outs
  | .ok .brk _ => .no
  | .ok (.rt b) ρ => match retB ρ b with
    | none => .no
    | some (r, ρ') => .ok r ρ'.outs
/-- a def that lets no exception out -/
def runFn0 (n : Nat) (body : Ss) : Fn := fun ss => match runFn n body ss with
  | .ex _ _ => .no
  | r => r
end Ev
namespace Ev
open PySem L2
/-- the classes by number; the tables of code objects that may grow -/
structure CLs where
  cl : Nat → Addr × List Str
  tb : List (Addr × Str)
  B : Hp
instance : CoeFun CLs fun _ => Nat → Addr × List Str := ⟨CLs.cl⟩
def CLs.at (CL : CLs) (a : Addr) : Prop := a ∈ CL.tb.map (·.1)
/-- the tables are no data; what is known all the time is told -/
def TN (CL : CLs) (F : Hp) : Prop := (∀ a, CL.at a → F a = none) ∧ ∀ a o, CL.B a = some o → F a = some o
theorem TN.grow {CL : CLs} {F F' : Hp} (t : TN CL F) (f : ∀ a o, F a = some o → F' a = some o) (n : ∀ a, CL.at a → F' a = none) : TN CL F' := ⟨n, fun a o e => f a o (t.2 a o e)⟩
/-! ### data in the heap -/
mutual
inductive Den (K : PySem.W.Frag) (CL : CLs) (F : Hp) : V → D → Prop
  | non : Den K CL F .non .non
  | bl (b : Bool) : Den K CL F (.bl b) (.bl b)
  | int (i : Int) : Den K CL F (.int i) (.int i)
  | str (x : Str) : Den K CL F (.str x) (.str x)
  | tup {a : Addr} {vs : List V} {xs : List D} : F a = some (.tup vs) → DenL K CL F vs xs → Den K CL F (.ref a) (.tup xs)
  | lst {a : Addr} {vs : List V} {xs : List D} : F a = some (.lst vs) → DenL K CL F vs xs → Den K CL F (.ref a) (.lst xs)
  | ro {a : Addr} {vs : List V} {xs : List D} : SqL K F a vs → DenL K CL F vs xs → Den K CL F (.ref a) (.ro xs)
  | obj {a dx : Addr} {c : Nat} {vs : List V} {xs : List D} : F a = some (.ins (CL c).1 dx ((CL c).2.zip vs)) → vs.length = (CL c).2.length → DenL K CL F vs xs → Den K CL F (.ref a) (.obj c xs)
  | dk {a : Addr} {od : Obj} {ks : List Key} {vs : List V} {xs : List D} : F a = some (.frz od (.dK (ks.zip vs))) → vs.length = ks.length → DenL K CL F vs xs → Den K CL F (.ref a) (.dk ks xs)
  | dt {a : Addr} {od : Obj} {ks : List (List Key)} {vs : List V} {xs : List D} : F a = some (.frz od (.dT (ks.zip vs))) → vs.length = ks.length → DenL K CL F vs xs → Den K CL F (.ref a) (.dt ks xs)
  /-- a tuple whose object is known: it has no dict of its own -/
  | tn {a : Addr} {o : Obj} {vs : List V} {xs : List D} : F a = some (.frz o (.tup vs)) → o.dict = none → DenL K CL F vs xs → Den K CL F (.ref a) (.tn xs)
  | ty (n : String) : Den K CL F (.ty n) (.ty n)
  | cls (c : Nat) : Den K CL F (.ref (CL c).1) (.cls c)
inductive DenL (K : PySem.W.Frag) (CL : CLs) (F : Hp) : List V → List D → Prop
  | nil : DenL K CL F [] []
  | cons {v : V} {vs : List V} {d : D} {ds : List D} : Den K CL F v d → DenL K CL F vs ds → DenL K CL F (v :: vs) (d :: ds)
end
/-- F' tells all that F tells -/
def Ex (H H' : Hp) : Prop := ∀ a o, H a = some o → H' a = some o
theorem Ex.refl (H : Hp) : Ex H H := fun _ _ h => h
theorem Ex.trans {H H1 H2 : Hp} (a : Ex H H1) (b : Ex H1 H2) : Ex H H2 := fun x o h => b x o (a x o h)
theorem Ex.new {H : Hp} {p : Addr} {o : HO} (h : H p = none) : Ex H (upd H p o) := fun a u e => by
  rw [upd_ne (ne_of_none e h)]
  exact e
theorem Ex.both {F H : Hp} {p : Addr} {o : HO} (h : Ex F H) : Ex (upd F p o) (upd H p o) := fun a u e => by
  by_cases q : a = p
  · subst q; rw [upd_same] at e ⊢; exact e
  · rw [upd_ne q] at e ⊢; exact h a u e
theorem Ex.rd {H H' : Hp} {a : Addr} {u : HO} (e : Ex H H') (h : Rd H a u) : Rd H' a u := by
  rcases h with h | ⟨o, h⟩
  · exact Or.inl (e a _ h)
  · exact Or.inr ⟨o, e a _ h⟩
theorem Ex.l {K : PySem.W.Frag} {H H' : Hp} {a : Addr} {xs : List V} (e : Ex H H') (h : SqL K H a xs) : SqL K H' a xs := by
  rcases h with h | h
  · exact Or.inl (e.rd h)
  · exact Or.inr h
theorem Ex.tS {K : PySem.W.Frag} {H H' : Hp} {a : Addr} {xs : List V} (e : Ex H H') (h : SqT K H a xs) : SqT K H' a xs := by
  rcases h with h | h
  · exact Or.inl (e.rd h)
  · exact Or.inr h
theorem Ex.t {K : PySem.W.Frag} {H H' : Hp} {a : Addr} {xs : List V} (e : Ex H H') (h : H a = some (.tup xs)) : SqT K H' a xs := .inl (.inl (e _ _ h))
section
variable {K : PySem.W.Frag} {CL : CLs} {F F' H H' : Hp}
mutual
theorem Den.mono (e : Ex F F') : ∀ (d : D) {v : V}, Den K CL F v d → Den K CL F' v d
  | .non, _, .non => .non
  | .bl _, _, .bl b => .bl b
  | .int _, _, .int i => .int i
  | .str _, _, .str x => .str x
  | .tup xs, _, .tup h l => .tup (e _ _ h) (DenL.mono e xs l)
  | .lst xs, _, .lst h l => .lst (e _ _ h) (DenL.mono e xs l)
  | .ro xs, _, .ro h l => .ro (e.l h) (DenL.mono e xs l)
  | .obj c xs, _, .obj h z l => .obj (e _ _ h) z (DenL.mono e xs l)
  | .dk ks xs, _, .dk h z l => .dk (e _ _ h) z (DenL.mono e xs l)
  | .dt ks xs, _, .dt h z l => .dt (e _ _ h) z (DenL.mono e xs l)
  | .tn xs, _, .tn h z l => .tn (e _ _ h) z (DenL.mono e xs l)
  | .ty n, _, h => by cases h; exact .ty n
  | .cls n, _, h => by cases h; exact .cls n
theorem DenL.mono (e : Ex F F') : ∀ (ds : List D) {vs : List V}, DenL K CL F vs ds → DenL K CL F' vs ds
  | [], _, .nil => .nil
  | d :: ds, _, .cons h l => .cons (Den.mono e d h) (DenL.mono e ds l)
end
theorem DenL.length : ∀ {vs : List V} {ds : List D}, DenL K CL F vs ds → vs.length = ds.length
  | _, _, .nil => rfl
  | _, _, .cons _ t => by simp [DenL.length t]
theorem DenL.append : ∀ {vs ws : List V} {ds es : List D}, DenL K CL F vs ds → DenL K CL F ws es → DenL K CL F (vs ++ ws) (ds ++ es)
  | _, _, _, _, .nil, s => s
  | _, _, _, _, .cons r t, s => .cons r (DenL.append t s)
theorem DenL.get : ∀ {vs : List V} {ds : List D} {i : Nat} {d : D}, DenL K CL F vs ds → ds[i]? = some d → ∃ v, vs[i]? = some v ∧ Den K CL F v d
  | _, _, _, _, .nil, e => by simp at e
  | _, _, 0, _, .cons r _, e => by simp at e; subst e; exact ⟨_, rfl, r⟩
  | _, _, i + 1, d, .cons _ t, e => by
    obtain ⟨v, h1, h2⟩ := DenL.get (i := i) (d := d) t (by simpa using e)
    exact ⟨v, by simpa using h1, h2⟩
theorem DenL.set {d : D} {v : V} (r : Den K CL F v d) : ∀ {vs : List V} {ds : List D} (i : Nat), DenL K CL F vs ds → DenL K CL F (vs.set i v) (ds.set i d)
  | _, _, _, .nil => .nil
  | _, _, 0, .cons _ t => .cons r t
  | _, _, i + 1, .cons q t => .cons q (DenL.set r i t)
theorem DenL.take : ∀ {vs : List V} {ds : List D} (n : Nat), DenL K CL F vs ds → DenL K CL F (vs.take n) (ds.take n)
  | _, _, 0, _ => .nil
  | _, _, _ + 1, .nil => .nil
  | _, _, n + 1, .cons r t => .cons r (DenL.take n t)
theorem DenL.drop : ∀ {vs : List V} {ds : List D} (n : Nat), DenL K CL F vs ds → DenL K CL F (vs.drop n) (ds.drop n)
  | _, _, 0, r => r
  | _, _, _ + 1, .nil => .nil
  | _, _, n + 1, .cons _ t => DenL.drop n t
theorem DenL.eraseIdx : ∀ {vs : List V} {ds : List D} (n : Nat), DenL K CL F vs ds → DenL K CL F (vs.eraseIdx n) (ds.eraseIdx n)
  | _, _, _, .nil => .nil
  | _, _, 0, .cons r t => t
  | _, _, n + 1, .cons r t => .cons r (DenL.eraseIdx n t)
end
/-! ### a frame's variables -/
structure Ctx where
  CL : CLs
  Ps : List V
  E : XK
def SlotOk (K : PySem.W.Frag) (c : Ctx) (F H : Hp) : Slot → Option (Option V) → Prop
  | .un, _ => True
  | .att, _ => True
  | .sh d, w => ∃ v, w = some (some v) ∧ Den K c.CL F v d
  | .ow xs, w => ∃ a vs, w = some (some (.ref a)) ∧ H a = some (.lst vs) ∧ F a = none ∧ DenL K c.CL F vs xs
  | .lk xs, w => ∃ a vs, w = some (some (.ref a)) ∧ H a = some (.lst vs) ∧ F a = none ∧ DenL K c.CL F vs xs
  | .od ks xs, w => ∃ a vs, w = some (some (.ref a)) ∧ H a = some (.dT (ks.zip vs)) ∧ F a = none ∧ vs.length = ks.length ∧ DenL K c.CL F vs xs
def Slot.held : Slot → Bool
  | .ow _ => true
  | .lk _ => true
  | .od _ _ => true
  | _ => false
/-- a list -/
def Slot.hl : Slot → Bool
  | .ow _ => true
  | .lk _ => true
  | _ => false
theorem Slot.hl_held {s : Slot} (h : s.hl = true) : s.held = true := by
  cases s <;> first | rfl | cases h
def Slot.live : Slot → Bool
  | .ow _ => true
  | .lk _ => true
  | .sh _ => true
  | _ => false
/-- in o: what was passed is told of -/
def Slot.told : Slot → Bool
  | .ow _ => true
  | .att => true
  | .sh _ => true
  | _ => false
def sl (ρ : Env) : List Slot := ρ.v ++ ρ.o
def vl (c : Ctx) (σ : St) : St := σ ++ c.Ps.map some
structure Rel (K : PySem.W.Frag) (c : Ctx) (F : Hp) (ρ : Env) (σ : St) (H : Hp) : Prop where
  len : ρ.v.length = σ.length
  lenO : ρ.o.length = c.Ps.length
  ex : Ex F H
  ok : ∀ (k : Nat) (s : Slot), (sl ρ)[k]? = some s → SlotOk K c F H s (vl c σ)[k]?
  apart : ∀ (k k' : Nat) (s s' : Slot) (a : Addr), (sl ρ)[k]? = some s → (sl ρ)[k']? = some s' → s.held = true → s'.held = true → (vl c σ)[k]? = some (some (.ref a)) → (vl c σ)[k']? = some (some (.ref a)) → k = k'
  att : ∀ j : Nat, ρ.o[j]? = some .att → ∃ v s, σ[j]? = some (some v) ∧ c.Ps[j]? = some v ∧ ρ.v[j]? = some s ∧ s.hl = true
  noLk : ∀ (j : Nat) (xs : List D), ρ.o[j]? ≠ some (.lk xs)
  fz : ∀ (j : Nat) (d : D) (a : Addr), ρ.o[j]? = some (.sh d) → c.Ps[j]? = some (.ref a) → F a ≠ none
  tb : LamX.Tabs c.CL.tb H
  tn : TN c.CL F
/-- something lies there, and is no tuple -/
def notTupH : Option HO → Bool
  | none => false
  | some (.tup _) => false
  | some _ => true
abbrev Liv (H : Hp) (a : Addr) : Prop := notTupH (H a) = true
theorem Liv.of {H : Hp} {a : Addr} {o : HO} (h : H a = some o) (k : notTupH (some o) = true) : Liv H a := by
  unfold Liv
  rw [h]
  exact k
theorem Liv.ne {H : Hp} {a : Addr} (h : Liv H a) : H a ≠ none := fun e => by
  unfold Liv at h
  rw [e] at h
  cases h
theorem Liv.keep {H H' : Hp} {a : Addr} (h : Liv H a) (k : ∀ o, H a = some o → H' a = some o) : Liv H' a := by
  cases e : H a with
  | none => exact absurd e h.ne
  | some o =>
    unfold Liv at h ⊢
    rw [k o e, ← e]
    exact h
/-- the frame's lists that may change -/
def own (c : Ctx) (ρ : Env) (σ : St) (a : Addr) : Prop := (∃ (k : Nat) (xs : List D), (sl ρ)[k]? = some (.ow xs) ∧ (vl c σ)[k]? = some (some (.ref a))) ∨ c.CL.at a ∨ ∃ (k : Nat) (ks : List (List Key)) (xs : List D), (sl ρ)[k]? = some (.od ks xs) ∧ (vl c σ)[k]? = some (some (.ref a))
structure Go (K : PySem.W.Frag) (c : Ctx) (F : Hp) (ρ : Env) (σ : St) (H : Hp) (F' : Hp) (ρ' : Env) (σ' : St) (H' : Hp) : Prop where
  f : Ex F F'
  keep : ∀ a o, H a = some o → ¬ own c ρ σ a → H' a = some o
  fr : ∀ a, F a = none → Liv H a → ¬ own c ρ σ a → F' a = none
  ow : ∀ a, own c ρ' σ' a → own c ρ σ a ∨ H a = none
  lk : ∀ (k : Nat) (xs : List D), ρ'.v[k]? = some (.lk xs) → ρ.v[k]? = some (.lk xs) ∧ σ'[k]? = σ[k]?
  grow : ∀ a, H a ≠ none → H' a ≠ none
  tell : ∀ (j : Nat) (s : Slot), ρ.o[j]? = some s → s.told = true → ∃ s', ρ'.o[j]? = some s' ∧ s'.told = true
  atb : ∀ j : Nat, ρ'.o[j]? = some .att → ρ.o[j]? = some .att
/-- an expression: no variable is stored -/
structure GoE (K : PySem.W.Frag) (c : Ctx) (σ : St) (F : Hp) (ρ : Env) (H : Hp) (F' : Hp) (ρ' : Env) (H' : Hp) : Prop where
  f : Ex F F'
  keep : ∀ a o, H a = some o → ¬ own c ρ σ a → H' a = some o
  fr : ∀ a, F a = none → Liv H a → ¬ own c ρ σ a → F' a = none
  ow : ∀ a, own c ρ' σ a → own c ρ σ a
  lk : ∀ (k : Nat) (xs : List D), ρ'.v[k]? = some (.lk xs) → ρ.v[k]? = some (.lk xs)
  grow : ∀ a, H a ≠ none → H' a ≠ none
  live : ∀ (k : Nat) (s : Slot), ρ.v[k]? = some s → s.live = true → ∃ s', ρ'.v[k]? = some s' ∧ s'.live = true
  tell : ∀ (j : Nat) (s : Slot), ρ.o[j]? = some s → s.told = true → ∃ s', ρ'.o[j]? = some s' ∧ s'.told = true
  atb : ∀ j : Nat, ρ'.o[j]? = some .att → ρ.o[j]? = some .att
section
variable {K : PySem.W.Frag} {c : Ctx} {F F1 F2 F' H H1 H2 H' : Hp} {ρ ρ1 ρ2 ρ' : Env} {σ σ1 σ2 σ' : St}
theorem tabs_at {CL : CLs} {H : Hp} (t : LamX.Tabs CL.tb H) {a : Addr} (h : CL.at a) : ∃ ps, H a = some (.tbl ps) := by
  obtain ⟨p, hp, rfl⟩ := List.mem_map.mp h
  obtain ⟨ps, e, _⟩ := t p hp
  exact ⟨ps, e⟩
theorem tabs_lst {CL : CLs} {H : Hp} (t : LamX.Tabs CL.tb H) {a : Addr} {vs : List V} (e : H a = some (.lst vs)) : ¬ CL.at a := fun h => by
  obtain ⟨ps, e2⟩ := tabs_at t h
  rw [e] at e2
  cases e2
theorem own_there (R : Rel K c F ρ σ H) {a : Addr} (h : own c ρ σ a) : H a ≠ none := by
  rcases h with ⟨k, xs, h1, h2⟩ | h
  · obtain ⟨b, vs, e, h3, h4, _⟩ := R.ok k _ h1
    rw [h2] at e
    cases e
    rw [h3]
    simp
  · rcases h with h | ⟨k, ks, xs, h1, h2⟩
    · obtain ⟨ps, e⟩ := tabs_at R.tb h
      rw [e]
      simp
    · obtain ⟨b, vs, e, h3, h4, _⟩ := R.ok k _ h1
      rw [h2] at e
      cases e
      rw [h3]
      simp
/-- tables stay, where a list is written -/
theorem tabs_upd {T : List (Addr × Str)} {H : Hp} {a : Addr} {us vs : List V} (t : LamX.Tabs T H) (e : H a = some (.lst us)) : LamX.Tabs T (upd H a (.lst vs)) := fun p hp => by
  obtain ⟨ps, h1, h2, h3⟩ := t p hp
  refine ⟨ps, ?_, h2, fun pos cv hc => ?_⟩
  · rw [upd_ne (ne_of h1 e (by simp))]
    exact h1
  · obtain ⟨q, e1, e2⟩ := h3 pos cv hc
    refine ⟨q, e1, ?_⟩
    rw [upd_ne (ne_of e2 e (by unfold LamX.CodeO; simp))]
    exact e2
theorem Go.refl (K : PySem.W.Frag) (c : Ctx) (F : Hp) (ρ : Env) (σ : St) (H : Hp) : Go K c F ρ σ H F ρ σ H :=
  ⟨Ex.refl _, fun _ _ h _ => h, fun _ h _ _ => h, fun _ h => .inl h, fun _ _ h => ⟨h, rfl⟩, fun _ h => h, fun _ s h e => ⟨s, h, e⟩, fun _ h => h⟩
theorem Go.trans (x : Go K c F ρ σ H F1 ρ1 σ1 H1) (y : Go K c F1 ρ1 σ1 H1 F2 ρ2 σ2 H2) : Go K c F ρ σ H F2 ρ2 σ2 H2 where
  f := x.f.trans y.f
  keep := fun a o h n => y.keep a o (x.keep a o h n) fun q => by
    rcases x.ow a q with q | q
    · exact n q
    · rw [h] at q; cases q
  fr := fun a h1 h2 n => y.fr a (x.fr a h1 h2 n) (h2.keep fun o e => x.keep a o e n) fun q => by
    rcases x.ow a q with q | q
    · exact n q
    · exact h2.ne q
  ow := fun a q => by
    rcases y.ow a q with q | q
    · exact x.ow a q
    · cases e : H a with
      | none => exact .inr rfl
      | some o => exact absurd q (x.grow a (by rw [e]; simp))
  lk := fun k xs h => let ⟨h1, h2⟩ := y.lk k xs h; let ⟨h3, h4⟩ := x.lk k xs h1; ⟨h3, h2.trans h4⟩
  grow := fun a h => y.grow a (x.grow a h)
  tell := fun k s h e => let ⟨s', h1, e1⟩ := x.tell k s h e; y.tell k s' h1 e1
  atb := fun j h => x.atb j (y.atb j h)
theorem GoE.refl (K : PySem.W.Frag) (c : Ctx) (σ : St) (F : Hp) (ρ : Env) (H : Hp) : GoE K c σ F ρ H F ρ H :=
  ⟨Ex.refl _, fun _ _ h _ => h, fun _ h _ _ => h, fun _ h => h, fun _ _ h => h, fun _ h => h, fun _ s h e => ⟨s, h, e⟩, fun _ s h e => ⟨s, h, e⟩, fun _ h => h⟩
theorem GoE.go (x : GoE K c σ F ρ H F1 ρ1 H1) : Go K c F ρ σ H F1 ρ1 σ H1 := ⟨x.f, x.keep, x.fr, fun a h => .inl (x.ow a h), fun k xs h => ⟨x.lk k xs h, rfl⟩, x.grow, x.tell, x.atb⟩
theorem GoE.trans (x : GoE K c σ F ρ H F1 ρ1 H1) (y : GoE K c σ F1 ρ1 H1 F2 ρ2 H2) : GoE K c σ F ρ H F2 ρ2 H2 where
  f := x.f.trans y.f
  keep := fun a o h n => y.keep a o (x.keep a o h n) fun q => n (x.ow a q)
  fr := fun a h1 h2 n => y.fr a (x.fr a h1 h2 n) (h2.keep fun o e => x.keep a o e n) fun q => n (x.ow a q)
  ow := fun a q => x.ow a (y.ow a q)
  lk := fun k xs h => x.lk k xs (y.lk k xs h)
  grow := fun a h => y.grow a (x.grow a h)
  live := fun k s h e => let ⟨s', h1, e1⟩ := x.live k s h e; y.live k s' h1 e1
  tell := fun k s h e => let ⟨s', h1, e1⟩ := x.tell k s h e; y.tell k s' h1 e1
  atb := fun j h => x.atb j (y.atb j h)
end
end Ev
namespace Ev
open PySem L2
/-! ### the relation over one list of places -/
structure RelC (K : PySem.W.Frag) (c : Ctx) (F : Hp) (ss : List Slot) (ws : St) (H : Hp) : Prop where
  ok : ∀ (k : Nat) (s : Slot), ss[k]? = some s → SlotOk K c F H s ws[k]?
  apart : ∀ (k k' : Nat) (s s' : Slot) (a : Addr), ss[k]? = some s → ss[k']? = some s' → s.held = true → s'.held = true → ws[k]? = some (some (.ref a)) → ws[k']? = some (some (.ref a)) → k = k'
section
variable {K : PySem.W.Frag} {c : Ctx} {F F1 F2 F' H H1 H2 H' : Hp} {ρ ρ1 ρ2 ρ' : Env} {σ σ1 σ2 σ' : St} {ss ss' : List Slot} {ws ws' : St}
theorem Ex.ne (f : Ex F F') {a : Addr} (h : F a ≠ none) : F' a ≠ none := by
  cases q : F a with
  | none => exact absurd q h
  | some o => rw [f a o q]; simp
theorem Rel.relc (R : Rel K c F ρ σ H) : RelC K c F (sl ρ) (vl c σ) H := ⟨R.ok, R.apart⟩
/-- what a frame's own may be: a list, a dict with tuples as keys -/
def OwnO (o : HO) : Prop := (∃ vs, o = .lst vs) ∨ ∃ kvs, o = .dT kvs
theorem OwnO.lst {vs : List V} : OwnO (.lst vs) := .inl ⟨_, rfl⟩
theorem OwnO.dT {kvs : List (List Key × V)} : OwnO (.dT kvs) := .inr ⟨_, rfl⟩
theorem OwnO.liv {o : HO} (h : OwnO o) : notTupH (some o) = true := by
  rcases h with ⟨_, rfl⟩ | ⟨_, rfl⟩ <;> rfl
theorem OwnO.ne {o u : HO} (h : OwnO o) (h1 : ∀ vs, u ≠ .lst vs) (h2 : ∀ kvs, u ≠ .dT kvs) : o ≠ u := by
  rcases h with ⟨_, rfl⟩ | ⟨_, rfl⟩
  · exact fun e => h1 _ e.symm
  · exact fun e => h2 _ e.symm
theorem tabs_own {CL : CLs} {H : Hp} (t : LamX.Tabs CL.tb H) {a : Addr} {o : HO} (e : H a = some o) (h : OwnO o) : ¬ CL.at a := fun q => by
  obtain ⟨ps, e2⟩ := tabs_at t q
  rw [e] at e2
  cases e2
  rcases h with ⟨_, e3⟩ | ⟨_, e3⟩ <;> cases e3
theorem SlotOk.grow {s : Slot} {w : Option (Option V)} (h : SlotOk K c F H s w) (f : Ex F F') (hh : ∀ a o, s.held = true → w = some (some (.ref a)) → H a = some o → OwnO o → F a = none → H' a = some o ∧ F' a = none) : SlotOk K c F' H' s w := by
  cases s with
  | un => trivial
  | att => trivial
  | sh d => obtain ⟨v, e, q⟩ := h; exact ⟨v, e, q.mono f⟩
  | ow xs => obtain ⟨a, vs, e, h1, h2, q⟩ := h; obtain ⟨h3, h4⟩ := hh a _ rfl e h1 .lst h2; exact ⟨a, vs, e, h3, h4, DenL.mono f _ q⟩
  | lk xs => obtain ⟨a, vs, e, h1, h2, q⟩ := h; obtain ⟨h3, h4⟩ := hh a _ rfl e h1 .lst h2; exact ⟨a, vs, e, h3, h4, DenL.mono f _ q⟩
  | od ks xs => obtain ⟨a, vs, e, h1, h2, l, q⟩ := h; obtain ⟨h3, h4⟩ := hh a _ rfl e h1 .dT h2; exact ⟨a, vs, e, h3, h4, l, DenL.mono f _ q⟩
theorem SlotOk.heldAt {s : Slot} {w : Option (Option V)} (h : SlotOk K c F H s w) (e : s.held = true) : ∃ a o, w = some (some (.ref a)) ∧ H a = some o ∧ OwnO o ∧ F a = none := by
  cases s with
  | ow xs => obtain ⟨a, vs, e, h1, h2, q⟩ := h; exact ⟨a, _, e, h1, .lst, h2⟩
  | lk xs => obtain ⟨a, vs, e, h1, h2, q⟩ := h; exact ⟨a, _, e, h1, .lst, h2⟩
  | od ks xs => obtain ⟨a, vs, e, h1, h2, q⟩ := h; exact ⟨a, _, e, h1, .dT, h2⟩
  | un => cases e
  | att => cases e
  | sh _ => cases e
/-- objects are added -/
theorem Rel.grow (R : Rel K c F ρ σ H) (f : Ex F F') (h : Ex H H') (x : Ex F' H') (fr : ∀ a, F a = none → Liv H a → F' a = none) : Rel K c F' ρ σ H' :=
  ⟨R.len, R.lenO, x, fun k s e => (R.ok k s e).grow f fun a vs _ _ h1 ho h2 => ⟨h _ _ h1, fr a h2 (Liv.of h1 ho.liv)⟩, R.apart, R.att, R.noLk, fun j d a e1 e2 => f.ne (R.fz j d a e1 e2), fun p hp => (R.tb p hp).ext h, R.tn.grow f fun a h0 => fr a (R.tn.1 a h0) (by obtain ⟨ps, e⟩ := tabs_at R.tb h0; exact Liv.of e rfl)⟩
theorem GoE.grown (c : Ctx) (ρ : Env) (σ : St) (f : Ex F F') (h : Ex H H') (fr : ∀ a, F a = none → Liv H a → F' a = none) : GoE K c σ F ρ H F' ρ H' :=
  ⟨f, fun a o e _ => h a o e, fun a h1 h2 _ => fr a h1 h2, fun _ h => h, fun _ _ h => h, fun a e => by
    cases q : H a with
    | none => exact absurd q e
    | some o => rw [h a o q]; simp, fun _ s h e => ⟨s, h, e⟩, fun _ s h e => ⟨s, h, e⟩, fun _ h => h⟩
theorem sl_setv {i : Nat} {s : Slot} (hi : i < ρ.v.length) : sl (ρ.setv i s) = (sl ρ).set i s := by
  unfold sl Env.setv
  simp only [List.set_append, hi, if_true]
theorem vl_set {i : Nat} {w : Option V} (hi : i < σ.length) : vl c (σ.set i w) = (vl c σ).set i w := by
  unfold vl
  simp only [List.set_append, hi, if_true]
theorem sl_v {k : Nat} (hk : k < ρ.v.length) : (sl ρ)[k]? = ρ.v[k]? := by
  unfold sl
  exact List.getElem?_append_left hk
theorem vl_v {k : Nat} (hk : k < σ.length) : (vl c σ)[k]? = σ[k]? := by
  unfold vl
  exact List.getElem?_append_left hk
theorem lt_of_get {α : Type} {l : List α} {i : Nat} {a : α} (h : l[i]? = some a) : i < l.length := by
  rcases Nat.lt_or_ge i l.length with q | q
  · exact q
  · rw [List.getElem?_eq_none q] at h; cases h
theorem Rel.slot (R : Rel K c F ρ σ H) {i : Nat} {s : Slot} (h : ρ.v[i]? = some s) : SlotOk K c F H s σ[i]? := by
  have hi := lt_of_get h
  have := R.ok i s (by rw [sl_v hi]; exact h)
  rwa [vl_v (by rw [← R.len]; exact hi)] at this
/-- a list of the frame's own becomes data: at every place where it stands -/
theorem RelC.frz (R : RelC K c F ss ws H) {a : Addr} {vs : List V} {xs : List D} (h1 : H a = some (.lst vs)) (h2 : F a = none) (l : DenL K c.CL F vs xs)
    (hs : ∀ (k : Nat) (s : Slot), ss'[k]? = some s → (s = .sh (.lst xs) ∧ ws[k]? = some (some (.ref a))) ∨ (ss[k]? = some s ∧ (s.held = true → ws[k]? ≠ some (some (.ref a))))) :
    RelC K c (upd F a (.lst vs)) ss' ws H := by
  have f : Ex F (upd F a (.lst vs)) := Ex.new h2
  refine ⟨fun k s e => ?_, fun k k' s s' b e e' g g' w w' => ?_⟩
  · rcases hs k s e with ⟨rfl, w⟩ | ⟨e, n⟩
    · exact ⟨.ref a, w, .lst upd_same (DenL.mono f _ l)⟩
    · refine (R.ok k s e).grow f fun b us g w h3 ho h4 => ⟨h3, ?_⟩
      have hb : b ≠ a := fun z => n g (by rw [w, z])
      rw [upd_ne hb]; exact h4
  · rcases hs k s e with ⟨rfl, _⟩ | ⟨e, _⟩
    · cases g
    · rcases hs k' s' e' with ⟨rfl, _⟩ | ⟨e', _⟩
      · cases g'
      · exact R.apart k k' s s' b e e' g g' w w'
theorem Env.frz_v (ρ : Env) (i : Nat) (xs : List D) : (ρ.frz i xs).v = ρ.v.set i (.sh (.lst xs)) := by
  unfold Env.frz
  split <;> rfl
theorem Env.frz_o (ρ : Env) (i : Nat) (xs : List D) : (ρ.frz i xs).o.length = ρ.o.length := by
  unfold Env.frz
  split <;> simp
theorem Env.frz_noLk {i : Nat} {xs : List D} (h : ∀ (j : Nat) (ys : List D), ρ.o[j]? ≠ some (.lk ys)) (j : Nat) (ys : List D) : (ρ.frz i xs).o[j]? ≠ some (.lk ys) := by
  unfold Env.frz
  split
  · intro e
    rw [List.getElem?_set] at e
    split at e
    · first | (cases e; done) | (split at e <;> cases e)
    · exact h j ys e
  · exact h j ys
theorem Rel.frz (R : Rel K c F ρ σ H) {i : Nat} {xs : List D} (hi : ρ.v[i]? = some (.ow xs)) :
    ∃ a vs F', σ[i]? = some (some (.ref a)) ∧ F' = upd F a (.lst vs) ∧ Rel K c F' (ρ.frz i xs) σ H ∧ GoE K c σ F ρ H F' (ρ.frz i xs) H ∧ Den K c.CL F' (.ref a) (.lst xs) := by
  have il := lt_of_get hi
  obtain ⟨a, vs, w, h1, h2, l⟩ := R.slot hi
  have iσ : i < σ.length := by rw [← R.len]; exact il
  have wi : (vl c σ)[i]? = some (some (.ref a)) := by rw [vl_v iσ]; exact w
  have si : (sl ρ)[i]? = some (.ow xs) := by rw [sl_v il]; exact hi
  -- which places change
  have key : ∀ (k : Nat) (s : Slot), (sl (ρ.frz i xs))[k]? = some s → (s = .sh (.lst xs) ∧ (vl c σ)[k]? = some (some (.ref a))) ∨ ((sl ρ)[k]? = some s ∧ (s.held = true → (vl c σ)[k]? ≠ some (some (.ref a))) ∧ k ≠ i) := by
    intro k s e
    have other : k ≠ i → (sl ρ)[k]? = some s → s.held = true → (vl c σ)[k]? ≠ some (some (.ref a)) := fun n e g z => n (R.apart k i s _ a e si g rfl z wi)
    unfold Env.frz at e
    split at e
    · rename_i ha
      have jl := lt_of_get ha
      unfold sl at e
      simp only at e
      rw [List.getElem?_append] at e
      simp only [List.length_set] at e
      split at e
      · rename_i kl
        rw [List.getElem?_set] at e
        split at e
        · rename_i q
          subst q
          first | rw [if_pos kl] at e | skip
          cases e
          exact .inl ⟨rfl, wi⟩
        · rename_i q
          have e' : (sl ρ)[k]? = some s := by rw [sl_v kl]; exact e
          exact .inr ⟨e', other (fun z => q z.symm) e', fun z => q z.symm⟩
      · rename_i kl
        rw [List.getElem?_set] at e
        split at e
        · rename_i q
          first | rw [if_pos jl] at e | skip
          cases e
          refine .inl ⟨rfl, ?_⟩
          obtain ⟨v, s, g1, g2, _⟩ := R.att i ha
          rw [w] at g1
          cases g1
          unfold vl
          rw [List.getElem?_append_right (by rw [← R.len]; omega)]
          rw [← R.len, ← q]
          simp [g2]
        · rename_i q
          have e' : (sl ρ)[k]? = some s := by unfold sl; rw [List.getElem?_append_right (by omega)]; exact e
          exact .inr ⟨e', other (fun z => kl (by omega)) e', fun z => kl (by omega)⟩
    · change (sl (ρ.setv i (.sh (.lst xs))))[k]? = some s at e
      rw [sl_setv il, List.getElem?_set] at e
      split at e
      · rename_i q
        subst q
        split at e
        · cases e
          exact .inl ⟨rfl, wi⟩
        · cases e
      · rename_i q
        exact .inr ⟨e, other (fun z => q z.symm) e, fun z => q z.symm⟩
  have f : Ex F (upd F a (.lst vs)) := Ex.new h2
  have rc := R.relc.frz h1 h2 l (ss' := sl (ρ.frz i xs)) fun k s e => by
    rcases key k s e with q | ⟨q, n, _⟩
    · exact .inl q
    · exact .inr ⟨q, n⟩
  refine ⟨a, vs, _, w, rfl, ⟨by rw [Env.frz_v, List.length_set]; exact R.len, by rw [Env.frz_o]; exact R.lenO, fun b o e => ?_, rc.ok, rc.apart, fun j e => ?_, Env.frz_noLk R.noLk, fun j d b e1 e2 => ?_, R.tb, R.tn.grow f fun b hb => (upd_ne (show b ≠ a from fun z => tabs_lst R.tb h1 (by rw [← z]; exact hb))).trans (R.tn.1 b hb)⟩, ⟨f, fun _ _ h _ => h, fun b g1 g2 n => ?_, fun b q => q.elim (fun ⟨k, ys, e, z⟩ => ?_) fun q => .inr (q.imp id fun ⟨k, ks, ys, e, z⟩ => ⟨k, ks, ys, by rcases key k _ e with q | ⟨q, _⟩; exact absurd q (by simp); exact q, z⟩), fun k ys e => ?_, fun _ h => h, fun k s e g => ?_, fun k s e g => ?_, fun j e => ?_⟩, .lst upd_same (DenL.mono f _ l)⟩
  · by_cases q : b = a
    · subst q; rw [upd_same] at e; cases e; exact h1
    · rw [upd_ne q] at e; exact R.ex b o e
  · -- an attached one is another
    have hj : j ≠ i := by
      intro z
      subst z
      unfold Env.frz at e
      split at e
      · rename_i ha
        have jl := lt_of_get ha
        rw [List.getElem?_set_self jl] at e
        cases e
      · rename_i ha
        exact ha e
    have e' : ρ.o[j]? = some .att := by
      unfold Env.frz at e
      split at e
      · rw [List.getElem?_set_ne (fun z => hj z.symm)] at e
        exact e
      · exact e
    obtain ⟨v, s, g1, g2, g3, g4⟩ := R.att j e'
    exact ⟨v, s, g1, g2, by rw [Env.frz_v, List.getElem?_set_ne (fun z => hj z.symm)]; exact g3, g4⟩
  · by_cases hb : b = a
    · subst hb; rw [upd_same]; simp
    · rw [upd_ne hb]
      have k := key (ρ.v.length + j) (.sh d) (by
        unfold sl
        rw [List.getElem?_append_right (by rw [Env.frz_v, List.length_set]; omega), Env.frz_v, List.length_set]
        simpa using e1)
      rcases k with ⟨_, w2⟩ | ⟨q, _, _⟩
      · exfalso
        apply hb
        unfold vl at w2
        rw [List.getElem?_append_right (by rw [← R.len]; omega), ← R.len] at w2
        simp only [Nat.add_sub_cancel_left, List.getElem?_map, e2, Option.map_some, Option.some.injEq, V.ref.injEq] at w2
        exact w2
      · refine R.fz j d b ?_ e2
        unfold sl at q
        rw [List.getElem?_append_right (by omega)] at q
        simpa using q
  · have hb : b ≠ a := fun z => n (by subst z; exact .inl ⟨i, xs, si, wi⟩)
    rw [upd_ne hb]; exact g1
  · rcases key k _ e with ⟨q, _⟩ | ⟨q, _, _⟩
    · cases q
    · exact .inl ⟨k, ys, q, z⟩
  · rw [Env.frz_v, List.getElem?_set] at e
    split at e
    · first | (cases e; done) | (split at e <;> cases e)
    · exact e
  · rw [Env.frz_v, List.getElem?_set]
    by_cases q : i = k
    · subst q
      exact ⟨_, by rw [if_pos rfl, if_pos il], rfl⟩
    · exact ⟨s, by rw [if_neg q]; exact e, g⟩
  · unfold Env.frz
    split
    · rename_i ha
      show ∃ s', (ρ.o.set i _)[k]? = _ ∧ _
      rw [List.getElem?_set]
      by_cases q : i = k
      · subst q
        exact ⟨_, by rw [if_pos rfl, if_pos (lt_of_get ha)], rfl⟩
      · exact ⟨s, by rw [if_neg q]; exact e, g⟩
    · exact ⟨s, e, g⟩
  · unfold Env.frz at e
    split at e
    · rename_i ha
      rw [List.getElem?_set] at e
      by_cases q : i = j
      · subst q; exact ha
      · rw [if_neg q] at e; exact e
    · exact e
/-- the content of a list of the frame's own changes -/
theorem Rel.setow (R : Rel K c F ρ σ H) {i : Nat} {xs ys : List D} {a : Addr} {vs : List V} (hi : ρ.v[i]? = some (.ow xs)) (w : σ[i]? = some (some (.ref a))) (l : DenL K c.CL F vs ys) :
    Rel K c F (ρ.setv i (.ow ys)) σ (upd H a (.lst vs)) ∧ GoE K c σ F ρ H F (ρ.setv i (.ow ys)) (upd H a (.lst vs)) := by
  have il := lt_of_get hi
  have iσ : i < σ.length := by rw [← R.len]; exact il
  have wi : (vl c σ)[i]? = some (some (.ref a)) := by rw [vl_v iσ]; exact w
  have si : (sl ρ)[i]? = some (.ow xs) := by rw [sl_v il]; exact hi
  obtain ⟨a', us, w', h1, h2, _⟩ := R.slot hi
  rw [w] at w'
  cases w'
  have key : ∀ (k : Nat) (s : Slot), (sl (ρ.setv i (.ow ys)))[k]? = some s → (k = i ∧ s = .ow ys) ∨ (k ≠ i ∧ (sl ρ)[k]? = some s) := fun k s e => by
    rw [sl_setv il, List.getElem?_set] at e
    split at e
    · rename_i q
      split at e
      · cases e; exact .inl ⟨q.symm, rfl⟩
      · cases e
    · rename_i q
      exact .inr ⟨fun z => q z.symm, e⟩
  refine ⟨⟨by show (ρ.v.set i _).length = _; rw [List.length_set]; exact R.len, R.lenO, fun b o e => ?_, fun k s e => ?_, fun k k' s s' b e e' g g' z z' => ?_, fun j e => ?_, R.noLk, R.fz, tabs_upd R.tb h1, R.tn⟩, ⟨Ex.refl _, fun b o e n => ?_, fun b g1 _ _ => g1, fun b q => q.elim (fun ⟨k, zs, e, z⟩ => ?_) fun q => .inr (q.imp id fun ⟨k, ks, ys, e, z⟩ => ⟨k, ks, ys, by rcases key k _ e with ⟨_, q⟩ | ⟨_, q⟩; cases q; exact q, z⟩), fun k zs e => ?_, fun b e => ?_, fun k s e g => ?_, fun _ s h e => ⟨s, h, e⟩, fun _ h => h⟩⟩
  · have hb : b ≠ a := fun z => by subst z; rw [h2] at e; cases e
    rw [upd_ne hb]; exact R.ex b o e
  · rcases key k s e with ⟨rfl, rfl⟩ | ⟨n, e⟩
    · exact ⟨a, vs, wi, upd_same, h2, l⟩
    · refine (R.ok k s e).grow (Ex.refl _) fun b us g z h3 ho h4 => ⟨?_, h4⟩
      have hb : b ≠ a := fun q => n (R.apart k i s _ a e si g rfl (by rw [z, q]) wi)
      rw [upd_ne hb]; exact h3
  · rcases key k s e with ⟨rfl, rfl⟩ | ⟨n, e1⟩
    · rcases key k' s' e' with ⟨rfl, rfl⟩ | ⟨n', e2⟩
      · rfl
      · exact R.apart k k' _ s' b si e2 rfl g' z z'
    · rcases key k' s' e' with ⟨h0, rfl⟩ | ⟨n', e2⟩
      · subst h0
        exact R.apart k _ s _ b e1 si g rfl z z'
      · exact R.apart k k' s s' b e1 e2 g g' z z'
  · obtain ⟨v, s, g1, g2, g3, g4⟩ := R.att j e
    by_cases q : i = j
    · subst q
      exact ⟨v, .ow ys, g1, g2, by show (ρ.v.set i _)[i]? = _; rw [List.getElem?_set_self il], rfl⟩
    · exact ⟨v, s, g1, g2, by show (ρ.v.set i _)[j]? = _; rw [List.getElem?_set_ne q]; exact g3, g4⟩
  · have hb : b ≠ a := fun z => n (by subst z; exact .inl ⟨i, xs, si, wi⟩)
    rw [upd_ne hb]; exact e
  · rcases key k _ e with ⟨rfl, q⟩ | ⟨n, e⟩
    · exact .inl ⟨k, xs, si, z⟩
    · exact .inl ⟨k, zs, e, z⟩
  · change (ρ.v.set i _)[k]? = _ at e
    rw [List.getElem?_set] at e
    split at e
    · first | (cases e; done) | (split at e <;> cases e)
    · exact e
  · by_cases q : b = a
    · subst q; rw [upd_same]; simp
    · rw [upd_ne q]; exact e
  · change ∃ s', (ρ.v.set i _)[k]? = _ ∧ _
    rw [List.getElem?_set]
    by_cases q : i = k
    · subst q
      exact ⟨_, by rw [if_pos rfl, if_pos il], rfl⟩
    · exact ⟨s, by rw [if_neg q]; exact e, g⟩
end
end Ev
namespace Ev
open PySem L2
/-- how an exception lies: its class, its own dict with its fields, if it has some -/
def XDen (K : PySem.W.Frag) (c : Ctx) (F H : Hp) (x : Exc) (C : Value) (d : Option Addr) : Prop :=
  C = .ref (c.CL x.c).1 ∧ match d with
    | none => x.fs = []
    | some q => ∃ vs, H q = some (.xd ((c.CL x.c).2.zip vs)) ∧ vs.length = (c.CL x.c).2.length ∧ DenL K c.CL F vs x.fs
/-- its dict is new -/
def Nw (H : Hp) (d : Option Addr) : Prop := ∀ q, d = some q → H q = none
theorem Nw.back {H H1 : Hp} {d : Option Addr} (gr : ∀ a, H a ≠ none → H1 a ≠ none) (n : Nw H1 d) : Nw H d := fun q e => by
  cases z : H q with
  | none => rfl
  | some o => exact absurd (n q e) (gr q (by rw [z]; simp))
theorem Nw.none {H : Hp} : Nw H Option.none := fun _ e => by cases e
def BDen (K : PySem.W.Frag) (c : Ctx) (σ : St) (H : Hp) (F' : Hp) (ρ' : Env) (H' : Hp) (v : V) : B → Prop
  | .d x => Den K c.CL F' v x
  | .nw xs => ∃ a vs, v = .ref a ∧ H' a = some (.lst vs) ∧ F' a = none ∧ DenL K c.CL F' vs xs ∧ H a = none
  | .loc i => ∃ s, ρ'.v[i]? = some s ∧ s.live = true ∧ σ[i]? = some (some v)
inductive BDens (K : PySem.W.Frag) (c : Ctx) (σ : St) (H : Hp) (F' : Hp) (ρ' : Env) (H' : Hp) : List V → List B → Prop
  | nil : BDens K c σ H F' ρ' H' [] []
  | cons {v : V} {b : B} {vs : List V} {bs : List B} : BDen K c σ H F' ρ' H' v b → BDens K c σ H F' ρ' H' vs bs →
      (∀ xs : List D, b = B.nw xs → ∀ (i : Nat) (ys : List D), bs[i]? = some (B.nw ys) → vs[i]? ≠ some v) → BDens K c σ H F' ρ' H' (v :: vs) (b :: bs)
/-- what is read of a value: data, or a list as it stands now -/
def View (K : PySem.W.Frag) (c : Ctx) (F H : Hp) (v : V) : D → Prop
  | .lst xs => ∃ a vs, v = .ref a ∧ H a = some (.lst vs) ∧ DenL K c.CL F vs xs
  | d => Den K c.CL F v d
inductive Views (K : PySem.W.Frag) (c : Ctx) (F H : Hp) : List V → List D → Prop
  | nil : Views K c F H [] []
  | cons {v : V} {d : D} {vs : List V} {ds : List D} : View K c F H v d → Views K c F H vs ds → Views K c F H (v :: vs) (d :: ds)
section
variable {K : PySem.W.Frag} {c : Ctx} {F F1 F2 F' H H1 H2 H' : Hp} {ρ ρ1 ρ2 ρ' : Env} {σ : St} {v : V} {b : B} {vs : List V} {bs : List B}
theorem View.of (x : Ex F H) {d : D} (h : Den K c.CL F v d) : View K c F H v d := by
  cases d with
  | lst xs => cases h with | lst h l => exact ⟨_, _, rfl, x _ _ h, l⟩
  | non => exact h
  | bl _ => exact h
  | int _ => exact h
  | str _ => exact h
  | tup _ => exact h
  | obj _ _ => exact h
  | dk _ _ => exact h
  | dt _ _ => exact h
  | tn _ => exact h
  | ro _ => exact h
  | ty _ => exact h
  | cls _ => exact h
theorem View.sq {xs : List D} (x : Ex F H) (h : View K c F H v (.lst xs)) : ∃ a vs, v = .ref a ∧ SqL K H a vs ∧ DenL K c.CL F vs xs := by
  obtain ⟨a, vs, e, h, l⟩ := h
  exact ⟨a, vs, e, .inl (.inl h), l⟩
theorem BDen.view (R : Rel K c F' ρ' σ H') (h : BDen K c σ H F' ρ' H' v b) {d : D} (e : b.view ρ' = some d) : View K c F' H' v d := by
  cases b with
  | d x => cases e; exact View.of R.ex h
  | nw xs => cases e; obtain ⟨a, vs, r, h1, h2, h3, _⟩ := h; exact ⟨a, vs, r, h1, h3⟩
  | loc i =>
    obtain ⟨s, h1, _, h2⟩ := h
    have ok := R.slot h1
    rw [h2] at ok
    unfold B.view at e
    simp only [h1] at e
    cases s with
    | un => cases e
    | od _ _ => cases e
    | att => cases e
    | sh x => cases e; obtain ⟨u, e1, q⟩ := ok; cases e1; exact View.of R.ex q
    | ow xs => cases e; obtain ⟨a, us, e1, q1, q2, q3⟩ := ok; cases e1; exact ⟨a, us, rfl, q1, q3⟩
    | lk xs => cases e; obtain ⟨a, us, e1, q1, q2, q3⟩ := ok; cases e1; exact ⟨a, us, rfl, q1, q3⟩
theorem BDens.views (R : Rel K c F' ρ' σ H') : ∀ {vs : List V} {bs : List B} {ds : List D}, BDens K c σ H F' ρ' H' vs bs → Ev.views ρ' bs = some ds → Views K c F' H' vs ds
  | _, _, _, .nil, e => by cases e; exact .nil
  | _, _, _, .cons (b := b) (bs := bs) h t _, e => by
    unfold Ev.views at e
    split at e
    · cases e
    · rename_i d h1
      split at e
      · cases e
      · rename_i ds h2
        cases e
        exact .cons (h.view R h1) (BDens.views R t h2)
/-- what is bound stays bound while more is evaluated -/
theorem BDen.stay (R : Rel K c F ρ σ H) (g : GoE K c σ F ρ H F1 ρ1 H1) (h : BDen K c σ H F1 ρ1 H1 v b) (g2 : GoE K c σ F1 ρ1 H1 F2 ρ2 H2) : BDen K c σ H F2 ρ2 H2 v b := by
  cases b with
  | d x => exact Den.mono g2.f x h
  | nw xs =>
    obtain ⟨a, vs, r, h1, h2, h3, h4⟩ := h
    have n : ¬ own c ρ1 σ a := fun q => own_there R (g.ow a q) h4
    exact ⟨a, vs, r, g2.keep a _ h1 n, g2.fr a h2 (Liv.of h1 rfl) n, DenL.mono g2.f _ h3, h4⟩
  | loc i =>
    obtain ⟨s, h1, h2, h3⟩ := h
    obtain ⟨s', h4, h5⟩ := g2.live i s h1 h2
    exact ⟨s', h4, h5, h3⟩
theorem BDen.back (gr : ∀ a, H a ≠ none → H1 a ≠ none) (h : BDen K c σ H1 F' ρ' H' v b) : BDen K c σ H F' ρ' H' v b := by
  cases b with
  | d x => exact h
  | nw xs =>
    obtain ⟨a, vs, r, h1, h2, h3, h4⟩ := h
    refine ⟨a, vs, r, h1, h2, h3, ?_⟩
    cases q : H a with
    | none => rfl
    | some o => exact absurd h4 (gr a (by rw [q]; simp))
  | loc i => exact h
theorem BDens.back (gr : ∀ a, H a ≠ none → H1 a ≠ none) : ∀ {vs : List V} {bs : List B}, BDens K c σ H1 F' ρ' H' vs bs → BDens K c σ H F' ρ' H' vs bs
  | _, _, .nil => .nil
  | _, _, .cons h t n => .cons (h.back gr) (BDens.back gr t) n
theorem BDens.get : ∀ {vs : List V} {bs : List B} {i : Nat} {b : B}, BDens K c σ H F' ρ' H' vs bs → bs[i]? = some b → ∃ v, vs[i]? = some v ∧ BDen K c σ H F' ρ' H' v b
  | _, _, _, _, .nil, e => by simp at e
  | _, _, 0, _, .cons r _ _, e => by simp at e; subst e; exact ⟨_, rfl, r⟩
  | _, _, i + 1, d, .cons _ t _, e => by
    obtain ⟨v, h1, h2⟩ := BDens.get (i := i) (b := d) t (by simpa using e)
    exact ⟨v, by simpa using h1, h2⟩
theorem BDens.length : ∀ {vs : List V} {bs : List B}, BDens K c σ H F' ρ' H' vs bs → vs.length = bs.length
  | _, _, .nil => rfl
  | _, _, .cons _ t _ => by simp [BDens.length t]
/-- one more ahead of some -/
theorem BDens.more (R : Rel K c F ρ σ H) (g : GoE K c σ F ρ H F1 ρ1 H1) (h : BDen K c σ H F1 ρ1 H1 v b) (g2 : GoE K c σ F1 ρ1 H1 F2 ρ2 H2) (t : BDens K c σ H1 F2 ρ2 H2 vs bs) : BDens K c σ H F2 ρ2 H2 (v :: vs) (b :: bs) := by
  refine .cons (h.stay R g g2) (t.back g.grow) ?_
  rintro xs rfl i ys e z
  obtain ⟨a, us, rfl, h1, _⟩ := h
  obtain ⟨w, e2, q⟩ := t.get e
  rw [z] at e2
  cases e2
  obtain ⟨a', us', e3, _, _, _, h4⟩ := q
  cases e3
  rw [h1] at h4
  cases h4
/-- the places that bear a list bear one that stood ahead -/
theorem held_old (R0 : Rel K c F ρ σ H) (g : GoE K c σ F ρ H F1 ρ1 H1) (R : Rel K c F1 ρ1 σ H1) {k : Nat} {s : Slot} {a : Addr} (e : (sl ρ1)[k]? = some s) (hh : s.held = true) (w : (vl c σ)[k]? = some (some (.ref a))) : H a ≠ none := by
  cases s with
  | ow ys =>
    exact own_there R0 (g.ow a (.inl ⟨k, ys, e, w⟩))
  | od ks ys =>
    exact own_there R0 (g.ow a (.inr (.inr ⟨k, ks, ys, e, w⟩)))
  | lk ys =>
    by_cases kl : k < ρ1.v.length
    · have e' : ρ1.v[k]? = some (.lk ys) := by rw [← sl_v kl]; exact e
      obtain ⟨b', us', w', z1, _⟩ := R0.slot (g.lk k ys e')
      rw [vl_v (by rw [← R.len]; exact kl)] at w
      rw [w] at w'
      cases w'
      rw [z1]; simp
    · unfold sl at e
      rw [List.getElem?_append_right (Nat.le_of_not_lt kl)] at e
      exact absurd e (R.noLk _ _)
  | un => cases hh
  | att => cases hh
  | sh _ => cases hh
/-- what is to stand in other data -/
theorem B.keep_ok (R0 : Rel K c F ρ σ H) (g : GoE K c σ F ρ H F1 ρ1 H1) (R : Rel K c F1 ρ1 σ H1) (h : BDen K c σ H F1 ρ1 H1 v b) {d : D} (e : b.keep ρ1 = some (d, ρ2)) :
    ∃ F2, Rel K c F2 ρ2 σ H1 ∧ GoE K c σ F ρ H F2 ρ2 H1 ∧ Den K c.CL F2 v d := by
  cases b with
  | d x => cases e; exact ⟨F1, R, g, h⟩
  | nw xs =>
    cases e
    obtain ⟨a, vs, rfl, h1, h2, h3, h4⟩ := h
    have f : Ex F1 (upd F1 a (.lst vs)) := Ex.new h2
    have ha : H1 a ≠ none := by rw [h1]; simp
    refine ⟨upd F1 a (.lst vs), ⟨R.len, R.lenO, fun b o e => ?_, fun k s e => ?_, R.apart, R.att, R.noLk, fun j d a e1 e2 => f.ne (R.fz j d a e1 e2), R.tb, R.tn.grow f fun b hb => (upd_ne (show b ≠ a from fun z => tabs_lst R.tb h1 (by rw [← z]; exact hb))).trans (R.tn.1 b hb)⟩, ⟨g.f.trans f, g.keep, fun b g1 g2 g3 => ?_, g.ow, g.lk, g.grow, g.live, g.tell, g.atb⟩, .lst upd_same (DenL.mono f _ h3)⟩
    · by_cases q : b = a
      · subst q; rw [upd_same] at e; cases e; exact h1
      · rw [upd_ne q] at e; exact R.ex b o e
    · refine (R.ok k s e).grow f fun b us hh w q1 qo q2 => ⟨q1, ?_⟩
      have hb : b ≠ a := fun z => held_old R0 g R e hh w (by rw [z]; exact h4)
      rw [upd_ne hb]; exact q2
    · have hb : b ≠ a := fun z => by subst z; exact g2.ne h4
      rw [upd_ne hb]; exact g.fr b g1 g2 g3
  | loc i =>
    obtain ⟨s, h1, _, h2⟩ := h
    unfold B.keep at e
    simp only [h1] at e
    cases s with
    | un => cases e
    | od _ _ => cases e
    | att => cases e
    | lk xs => cases e
    | sh x =>
      cases e
      obtain ⟨u, e1, q⟩ := R.slot h1
      rw [h2] at e1
      cases e1
      exact ⟨F1, R, g, q⟩
    | ow xs =>
      cases e
      obtain ⟨a, vs, F2, w, _, R2, g2, q⟩ := R.frz h1
      rw [h2] at w
      cases w
      exact ⟨F2, R2, g.trans g2, q⟩
end
end Ev
namespace Ev
open PySem L2
/-- what is wanted behind a piece of evaluation that began at (F, ρ, H) -/
def PostR {α : Type} (K : PySem.W.Frag) (c : Ctx) (σ : St) (F : Hp) (ρ : Env) (H : Hp) (r : Res α) (Ok : Hp → Env → Hp → α → Prop) : Prop :=
  match r with
  | .no => False
  | .ok a ρ' => ∀ F' H', Rel K c F' ρ' σ H' → GoE K c σ F ρ H F' ρ' H' → Ok F' ρ' H' a
  | .ex x ρ' => ∀ F' H' C d, Rel K c F' ρ' σ H' → GoE K c σ F ρ H F' ρ' H' → Nw H d → XDen K c F' H' x C d → c.E C d H'
section
variable {α β : Type} {K : PySem.W.Frag} {c : Ctx} {F F1 F2 F' H H1 H2 H' : Hp} {ρ ρ1 ρ2 ρ' : Env} {σ : St} {v : V} {b : B} {vs : List V} {bs : List B}
theorem PostR.bind {r : Res α} {f : α → Env → Res β} {Ok : Hp → Env → Hp → β → Prop} (h : PostR K c σ F ρ H (r.bind f) Ok) : PostR K c σ F ρ H r fun F1 ρ1 H1 a => PostR K c σ F ρ H (f a ρ1) Ok := by
  cases r with
  | no => exact h
  | ok a ρ' => exact fun F' H' _ _ => h
  | ex x ρ' => exact h
theorem PostR.rebase {r : Res α} {Ok : Hp → Env → Hp → α → Prop} (g : GoE K c σ F ρ H F1 ρ1 H1) (h : PostR K c σ F ρ H r Ok) : PostR K c σ F1 ρ1 H1 r fun F' ρ' H' a => GoE K c σ F ρ H F' ρ' H' ∧ Ok F' ρ' H' a := by
  cases r with
  | no => exact h
  | ok a ρ' => exact fun F' H' R g' => ⟨g.trans g', h F' H' R (g.trans g')⟩
  | ex x ρ' => exact fun F' H' C d R g' n q => h F' H' C d R (g.trans g') (n.back g.grow) q
theorem PostR.imp {r : Res α} {Ok Ok' : Hp → Env → Hp → α → Prop} (h : PostR K c σ F ρ H r Ok) (k : ∀ F' ρ' H' a, Rel K c F' ρ' σ H' → GoE K c σ F ρ H F' ρ' H' → Ok F' ρ' H' a → Ok' F' ρ' H' a) : PostR K c σ F ρ H r Ok' := by
  cases r with
  | no => exact h
  | ok a ρ' => exact fun F' H' R g => k _ _ _ _ R g (h F' H' R g)
  | ex x ρ' => exact h
/-! ### readings -/
def OkB (K : PySem.W.Frag) (c : Ctx) (σ : St) (H : Hp) (Q : VK) : Hp → Env → Hp → B → Prop := fun F' ρ' H' b => ∀ v, BDen K c σ H F' ρ' H' v b → Q v H'
def tEv (K : PySem.W.Frag) (c : Ctx) (e : E) : TE := fun σ H Q => ∃ F ρ, Rel K c F ρ σ H ∧ PostR K c σ F ρ H (evE e ρ) (OkB K c σ H Q)
def OkA (K : PySem.W.Frag) (c : Ctx) (σ : St) (H : Hp) (Q : List V → Hp → Prop) : Hp → Env → Hp → List B → Prop := fun F' ρ' H' bs => ∀ vs, BDens K c σ H F' ρ' H' vs bs → Q vs H'
def tEvA (K : PySem.W.Frag) (c : Ctx) (es : Es) : TA := fun σ H Q => ∃ F ρ, Rel K c F ρ σ H ∧ PostR K c σ F ρ H (evA es ρ) (OkA K c σ H Q)
def tEvT (K : PySem.W.Frag) (c : Ctx) (t : T) : TT := fun σ H Q => ∃ F ρ, Rel K c F ρ σ H ∧ PostR K c σ F ρ H (evT t ρ) fun _ _ H' k => Q k H'
abbrev PEv (X : Cx) (c : Ctx) (x : Expr) (e : E) : Prop := PE X x (tEv X.K c e)
abbrev PAv (X : Cx) (c : Ctx) (xs : List Expr) (es : Es) : Prop := PA X xs (tEvA X.K c es)
abbrev PTv (X : Cx) (c : Ctx) (x : Expr) (t : T) : Prop := PT X x (tEvT X.K c t)
theorem PE.wk {X : Cx} {e : Expr} {t t' : TE} (h : PE X e t) (w : ∀ σ H Q, t' σ H Q → t σ H Q) : PE X e t' := ⟨fun pins s σ H Q I q => h.run pins s σ H Q I (w _ _ _ q)⟩
theorem PT.wk {X : Cx} {e : Expr} {t t' : TT} (h : PT X e t) (w : ∀ σ H Q, t' σ H Q → t σ H Q) : PT X e t' := ⟨fun pins s σ H Q I q => h.run pins s σ H Q I (w _ _ _ q)⟩
theorem PW.wk {X : Cx} {e : Expr} {t t' : TT} (h : PW X e t) (w : ∀ σ H Q, t' σ H Q → t σ H Q) : PW X e t' := ⟨fun wh pins s σ H Q I q => h.run wh pins s σ H Q I (w _ _ _ q)⟩
theorem PA.wk {X : Cx} {e : List Expr} {t t' : TA} (h : PA X e t) (w : ∀ σ H Q, t' σ H Q → t σ H Q) : PA X e t' := ⟨fun ps pins s σ H Q I q => h.run ps pins s σ H Q I (w _ _ _ q)⟩
theorem PS.wk {X : Cx} {e : Stmt} {t t' : TS} (h : PS X e t) (w : ∀ D σ H, t' D σ H → t D σ H) : PS X e t' := ⟨fun pins s σ H D I q => h.run pins s σ H D I (w _ _ _ q)⟩
theorem PSs.wk {X : Cx} {e : List Stmt} {t t' : TS} (h : PSs X e t) (w : ∀ D σ H, t' D σ H → t D σ H) : PSs X e t' := ⟨fun pins s σ H D I q => h.run pins s σ H D I (w _ _ _ q)⟩
/-- evaluating e, then what follows -/
theorem tEv_bind {e : E} {f : B → Env → Res β} {Ok : Hp → Env → Hp → β → Prop} {Q : VK} (R : Rel K c F ρ σ H) (P : PostR K c σ F ρ H ((evE e ρ).bind f) Ok)
    (k : ∀ F1 ρ1 H1 b v, Rel K c F1 ρ1 σ H1 → GoE K c σ F ρ H F1 ρ1 H1 → BDen K c σ H F1 ρ1 H1 v b → PostR K c σ F ρ H (f b ρ1) Ok → Q v H1) : tEv K c e σ H Q :=
  ⟨F, ρ, R, P.bind.imp fun F1 ρ1 H1 b R1 g q v hb => k F1 ρ1 H1 b v R1 g hb q⟩
theorem tEvA_bind {es : Es} {f : List B → Env → Res β} {Ok : Hp → Env → Hp → β → Prop} {Q : List V → Hp → Prop} (R : Rel K c F ρ σ H) (P : PostR K c σ F ρ H ((evA es ρ).bind f) Ok)
    (k : ∀ F1 ρ1 H1 bs vs, Rel K c F1 ρ1 σ H1 → GoE K c σ F ρ H F1 ρ1 H1 → BDens K c σ H F1 ρ1 H1 vs bs → PostR K c σ F ρ H (f bs ρ1) Ok → Q vs H1) : tEvA K c es σ H Q :=
  ⟨F, ρ, R, P.bind.imp fun F1 ρ1 H1 b R1 g q v hb => k F1 ρ1 H1 b v R1 g hb q⟩
theorem tEvT_bind {t : T} {f : Bool → Env → Res β} {Ok : Hp → Env → Hp → β → Prop} {Q : Bool → Hp → Prop} (R : Rel K c F ρ σ H) (P : PostR K c σ F ρ H ((evT t ρ).bind f) Ok)
    (k : ∀ F1 ρ1 H1 b, Rel K c F1 ρ1 σ H1 → GoE K c σ F ρ H F1 ρ1 H1 → PostR K c σ F ρ H (f b ρ1) Ok → Q b H1) : tEvT K c t σ H Q :=
  ⟨F, ρ, R, P.bind.imp fun F1 ρ1 H1 b R1 g q => k F1 ρ1 H1 b R1 g q⟩
/-- a piece at the end, moved to its own start -/
theorem tEv_last {e : E} {Q Q' : VK} (R : Rel K c F1 ρ1 σ H1) (g : GoE K c σ F ρ H F1 ρ1 H1) (P : PostR K c σ F ρ H (evE e ρ1) (OkB K c σ H Q)) (k : ∀ v H2, Q v H2 → Q' v H2) : tEv K c e σ H1 Q' :=
  ⟨F1, ρ1, R, (P.rebase g).imp fun F2 ρ2 H2 b R2 g2 q v hb => k v H2 (q.2 v (hb.back g.grow))⟩
/-! ### leaves -/
theorem e_var {X : Cx} {c : Ctx} {i : Nat} {x : Expr} (h : PE X x (tVar i)) : PEv X c x (.var i) := PE.wk h fun σ H Q ⟨F, ρ, R, P⟩ => by
  unfold evE at P
  split at P
  · rename_i d e
    obtain ⟨v, w, q⟩ := R.slot e
    exact ⟨v, w, P F H R (GoE.refl ..) v q⟩
  · rename_i xs e
    obtain ⟨a, vs, w, q⟩ := R.slot e
    exact ⟨_, w, P F H R (GoE.refl ..) _ ⟨_, e, rfl, w⟩⟩
  · rename_i xs e
    obtain ⟨a, vs, w, q⟩ := R.slot e
    exact ⟨_, w, P F H R (GoE.refl ..) _ ⟨_, e, rfl, w⟩⟩
  · exact P.elim
theorem e_con {X : Cx} {c : Ctx} {x : Expr} {v : V} {d : D} (h : PE X x (tC v)) (hd : ∀ F, Den X.K c.CL F v d) : PEv X c x (.con d) := PE.wk h fun σ H Q ⟨F, ρ, R, P⟩ => P F H R (GoE.refl ..) v (hd F)
theorem e_int {X : Cx} {c : Ctx} {i : Int} {j pos} : PEv X c (.Constant (.int i) j pos) (.con (.int i)) := e_con pe_int fun _ => .int i
theorem e_bl {X : Cx} {c : Ctx} {i : Bool} {j pos} : PEv X c (.Constant (.bool i) j pos) (.con (.bl i)) := e_con pe_bl fun _ => .bl i
theorem e_non {X : Cx} {c : Ctx} {j pos} : PEv X c (.Constant .none j pos) (.con .non) := e_con pe_non fun _ => .non
theorem e_str {X : Cx} {c : Ctx} {i : Str} {j pos} : PEv X c (.Constant (.str i) j pos) (.con (.str i)) := e_con pe_str fun _ => .str i
/-- a constant of the module -/
theorem e_glob {X : Cx} {c : Ctx} {x : Str} {v : V} {d : D} {u : Value} {pos : Pos} (hg : Gl X x) (hm : X.mg x = some u) (r : RelV v u) (hd : ∀ F, Den X.K c.CL F v d) (hdb : (x == ("__debug__" : Str)) = false := by decide) : PEv X c (.Name x pos) (.con d) := e_con (pe_glob hg hm r hdb) hd
/-! ### arguments -/
theorem a_nil {X : Cx} {c : Ctx} : PAv X c [] .nil := PA.wk pa_nil fun σ H Q ⟨F, ρ, R, P⟩ => P F H R (GoE.refl ..) [] .nil
theorem a_split {e : E} {es : Es} {Q : List V → Hp → Prop} (h : tEvA K c (.cons e es) σ H Q) : tEv K c e σ H fun v H1 => tEvA K c es σ H1 fun vs H2 => Q (v :: vs) H2 := by
  obtain ⟨F, ρ, R, P⟩ := h
  unfold evA at P
  refine tEv_bind R P fun F1 ρ1 H1 b v R1 g1 hb P1 => ⟨F1, ρ1, R1, ?_⟩
  refine (P1.bind.rebase g1).imp fun F2 ρ2 H2 bs R2 g2 q vs hbs => q.2 F2 H2 R2 q.1 (v :: vs) (BDens.more R g1 hb g2 hbs)
theorem a_cons {X : Cx} {c : Ctx} {x : Expr} {xs : List Expr} {e : E} {es : Es} (h : PEv X c x e) (t : PAv X c xs es) (hs : starEach (x :: xs) X.env = (false, eval x X.env) :: starEach xs X.env := by rfl) : PAv X c (x :: xs) (.cons e es) :=
  PA.wk (pa_cons h t hs) fun σ H Q hw => a_split hw
/-! ### operations on values -/
def RDen (K : PySem.W.Frag) (c : Ctx) (H F' H' : Hp) (v : V) : RB → Prop
  | .d x => Den K c.CL F' v x
  | .nw xs => ∃ a vs, v = .ref a ∧ H' a = some (.lst vs) ∧ F' a = none ∧ DenL K c.CL F' vs xs ∧ H a = none
def Fin (K : PySem.W.Frag) (c : Ctx) (F H : Hp) (res : RB) (Q : VK) : Prop := ∀ v F' H', Ex F F' → Ex H H' → Ex F' H' → (∀ a, F a = none → Liv H a → F' a = none) → RDen K c H F' H' v res → Q v H'
/-- r on values does what f does on data -/
def Prim (K : PySem.W.Frag) (c : Ctx) (r : List V → Hp → VK → Prop) (f : List D → Option RB) : Prop := ∀ F H vs ds res Q, Ex F H → Views K c F H vs ds → f ds = some res → Fin K c F H res Q → r vs H Q
theorem prim_go {f : List D → Option RB} {r : List V → Hp → VK → Prop} {es : Es} {Q : VK} (p : Prim K c r f) (h : tEv K c (.prim f es) σ H Q) : tEvA K c es σ H fun vs H1 => r vs H1 Q := by
  obtain ⟨F, ρ, R, P⟩ := h
  unfold evE at P
  refine tEvA_bind R P fun F1 ρ1 H1 bs vs R1 g1 hb P1 => ?_
  split at P1
  · exact P1.elim
  · rename_i ds e1
    split at P1
    · exact P1.elim
    · rename_i res e2
      refine p F1 H1 vs ds res Q R1.ex (hb.views R1 e1) e2 fun v F2 H2 f h x fr rd => ?_
      have g2 := g1.trans (GoE.grown c ρ1 σ f h fr)
      refine P1 F2 H2 (R1.grow f h x fr) g2 v ?_
      cases res with
      | d x => exact rd
      | nw xs =>
        obtain ⟨a, us, q1, q2, q3, q4, q5⟩ := rd
        refine ⟨a, us, q1, q2, q3, q4, ?_⟩
        cases q : H a with
        | none => rfl
        | some o => exact absurd q5 (g1.grow a (by rw [q]; simp))
/-- two operands -/
theorem prim_go2 {f : List D → Option RB} {r : R2} {a b : E} {Q : VK} (p : Prim K c (fun vs H Q => ∃ x y, vs = [x, y] ∧ r x y H Q) f) (h : tEv K c (.prim f (.cons a (.cons b .nil))) σ H Q) : tOp r (tEv K c a) (tEv K c b) σ H Q := by
  have q := a_split (prim_go p h)
  obtain ⟨F, ρ, R, P⟩ := q
  refine ⟨F, ρ, R, P.imp fun F1 ρ1 H1 b R1 g1 k v hv => ?_⟩
  obtain ⟨F2, ρ2, R2, P2⟩ := a_split (k v hv)
  refine ⟨F2, ρ2, R2, P2.imp fun F3 ρ3 H3 b3 R3 g3 k3 w hw => ?_⟩
  obtain ⟨F4, ρ4, R4, P4⟩ := k3 w hw
  obtain ⟨x, y, e, q⟩ := P4 F4 H3 R4 (GoE.refl ..) [] .nil
  cases e
  exact q
theorem prim_go1 {f : List D → Option RB} {r : V → Hp → VK → Prop} {a : E} {Q : VK} (p : Prim K c (fun vs H Q => ∃ x, vs = [x] ∧ r x H Q) f) (h : tEv K c (.prim f (.cons a .nil)) σ H Q) : tUn r (tEv K c a) σ H Q := by
  have q := a_split (prim_go p h)
  obtain ⟨F, ρ, R, P⟩ := q
  refine ⟨F, ρ, R, P.imp fun F1 ρ1 H1 b R1 g1 k v hv => ?_⟩
  obtain ⟨F2, ρ2, R2, P2⟩ := k v hv
  obtain ⟨x, e, q⟩ := P2 F2 H1 R2 (GoE.refl ..) [] .nil
  cases e
  exact q
theorem e_bin {X : Cx} {c : Ctx} {x y : Expr} {a b : E} {op : Operator} {pos : Pos} {r : R2} {f : List D → Option RB} (ho : OpR X (binaryOp op) r) (p : Prim X.K c (fun vs H Q => ∃ x y, vs = [x, y] ∧ r x y H Q) f) (ha : PEv X c x a) (hb : PEv X c y b) :
    PEv X c (.BinOp x op y pos) (.prim f (.cons a (.cons b .nil))) := PE.wk (pe_op ho ha hb) fun _ _ _ h => prim_go2 p h
theorem e_un {X : Cx} {c : Ctx} {x : Expr} {a : E} {op : UnaryOp} {pos : Pos} {r : V → Hp → VK → Prop} {f : List D → Option RB} (ho : UnR X (unaryOp op) r) (p : Prim X.K c (fun vs H Q => ∃ x, vs = [x] ∧ r x H Q) f) (ha : PEv X c x a)  :
    PEv X c (.UnaryOp op x pos) (.prim f (.cons a .nil)) := PE.wk (pe_un ho ha) fun _ _ _ h => prim_go1 p h
theorem e_cmp {X : Cx} {c : Ctx} {x y : Expr} {a b : E} {op : CmpOp} {pos : Pos} {r : R2} {f : List D → Option RB} (ho : OpR X (compareOp op) r) (p : Prim X.K c (fun vs H Q => ∃ x y, vs = [x, y] ∧ r x y H Q) f) (ha : PEv X c x a) (hb : PEv X c y b)
    (hm : behindInMarks op y = false) : PEv X c (.Compare x [op] [y] pos) (.prim f (.cons a (.cons b .nil))) := PE.wk (pe_cmpR ho ha hb hm) fun _ _ _ h => prim_go2 p h
theorem e_ix {X : Cx} {c : Ctx} {x y : Expr} {a b : E} {pos : Pos} {r : R2} {f : List D → Option RB} (ho : IxR X r) (p : Prim X.K c (fun vs H Q => ∃ x y, vs = [x, y] ∧ r x y H Q) f) (ha : PEv X c x a) (hb : PEv X c y b)
    (hm : PlainIx y) : PEv X c (.Subscript x y pos) (.prim f (.cons a (.cons b .nil))) := PE.wk (pe_ix ho ha hb hm) fun _ _ _ h => prim_go2 p h
theorem e_prim {X : Cx} {c : Ctx} {x : Expr} {es : Es} {r : List V → Hp → VK → Prop} {f : List D → Option RB} (p : Prim X.K c r f) (h : PE X x (tCB r (tEvA X.K c es))) : PEv X c x (.prim f es) := PE.wk h fun _ _ _ h => prim_go p h
theorem chain_go {a b d : E} {r r' : R2} {f f' : List D → Option RB} {Q : VK} (p : Prim K c (fun vs H Q => ∃ x y, vs = [x, y] ∧ r x y H Q) f) (p' : Prim K c (fun vs H Q => ∃ x y, vs = [x, y] ∧ r' x y H Q) f') (h : tEv K c (.chain f f' a b d) σ H Q) :
    tChain r r' (tEv K c a) (tEv K c b) (tEv K c d) σ H Q := by
  obtain ⟨F, ρ, R, P⟩ := h
  unfold evE at P
  refine tEv_bind R P fun F1 ρ1 H1 b1 v1 R1 g1 hb1 P1 => ?_
  refine ⟨F1, ρ1, R1, (P1.bind.rebase g1).imp fun F2 ρ2 H2 b2 R2 g2 q2 v2 hb2 => ?_⟩
  obtain ⟨g02, P2⟩ := q2
  have s1 := hb1.stay R g1 g2
  have s2 := hb2.back g1.grow
  split at P2
  · rename_i d1 d2 e1 e2
    split at P2
    · rename_i k ek
      suffices hq : ∃ x y, [v1, v2] = [x, y] ∧ r x y H2 (fun z H3 => ∃ k, z = .bl k ∧ (if k = true then tEv K c d σ H3 fun w' H4 => r' v2 w' H4 Q else Q (.bl false) H3)) by
        obtain ⟨x, y, e, q⟩ := hq
        cases e
        exact q
      refine p F2 H2 [v1, v2] [d1, d2] _ _ R2.ex (.cons (s1.view R2 e1) (.cons (s2.view R2 e2) .nil)) ek (fun v F3 H3 f3 h3 x3 fr3 rd => ?_)
      have R3 := R2.grow f3 h3 x3 fr3
      have g3 := g02.trans (GoE.grown c ρ2 σ f3 h3 fr3)
      cases rd
      refine ⟨k, rfl, ?_⟩
      cases k with
      | false =>
        rw [if_neg (by decide)]
        exact P2 F3 H3 R3 g3 _ (.bl false)
      | true =>
        rw [if_pos rfl]
        refine ⟨F3, ρ2, R3, (PostR.bind P2 |>.rebase g3).imp fun F4 ρ4 H4 b4 R4 g4 q4 v4 hb4 => ?_⟩
        obtain ⟨g04, P4⟩ := q4
        have s2' := s2.stay R g02 ((GoE.grown c ρ2 σ f3 h3 fr3).trans g4)
        have s4 := hb4.back g3.grow
        split at P4
        · rename_i d3 d4 e3 e4
          split at P4
          · exact P4.elim
          · rename_i res er
            suffices hq : ∃ x y, [v2, v4] = [x, y] ∧ r' x y H4 Q by
              obtain ⟨x, y, e, q⟩ := hq
              cases e
              exact q
            refine p' F4 H4 [v2, v4] [d3, d4] _ Q R4.ex (.cons (s2'.view R4 e3) (.cons (s4.view R4 e4) .nil)) er (fun v F5 H5 f5 h5 x5 fr5 rd5 => ?_)
            refine P4 F5 H5 (R4.grow f5 h5 x5 fr5) (g04.trans (GoE.grown c ρ4 σ f5 h5 fr5)) v ?_
            cases res with
            | d x => exact rd5
            | nw xs =>
              obtain ⟨a, us, q1, q2, q3, q4, q5⟩ := rd5
              refine ⟨a, us, q1, q2, q3, q4, ?_⟩
              cases q : H a with
              | none => rfl
              | some o => exact absurd q5 (g04.grow a (by rw [q]; simp))
        · exact P4.elim
    · exact P2.elim
  · exact P2.elim
/-- a chain of two comparisons: both by values, the middle once -/
theorem e_chain {X : Cx} {c : Ctx} {x : Expr} {a b d : E} {r r' : R2} {f f' : List D → Option RB} (p : Prim X.K c (fun vs H Q => ∃ x y, vs = [x, y] ∧ r x y H Q) f) (p' : Prim X.K c (fun vs H Q => ∃ x y, vs = [x, y] ∧ r' x y H Q) f')
    (h : PE X x (tChain r r' (tEv X.K c a) (tEv X.K c b) (tEv X.K c d))) : PEv X c x (.chain f f' a b d) := PE.wk h fun _ _ _ q => chain_go p p' q
/-! ### displays -/
def tEvD (K : PySem.W.Frag) (c : Ctx) (es : Es) : TA := fun σ H Q => ∃ F ρ, Rel K c F ρ σ H ∧ PostR K c σ F ρ H (evD es ρ) fun F' _ H' ds => ∀ vs, DenL K c.CL F' vs ds → Q vs H'
abbrev PDv (X : Cx) (c : Ctx) (xs : List Expr) (es : Es) : Prop := PA X xs (tEvD X.K c es)
theorem d_nil {X : Cx} {c : Ctx} : PDv X c [] .nil := PA.wk pa_nil fun σ H Q ⟨F, ρ, R, P⟩ => P F H R (GoE.refl ..) [] .nil
theorem d_cons {X : Cx} {c : Ctx} {x : Expr} {xs : List Expr} {e : E} {es : Es} (h : PEv X c x e) (t : PDv X c xs es) (hs : starEach (x :: xs) X.env = (false, eval x X.env) :: starEach xs X.env := by rfl) : PDv X c (x :: xs) (.cons e es) :=
  PA.wk (pa_cons h t hs) fun σ H Q ⟨F, ρ, R, P⟩ => by
    unfold evD at P
    refine tEv_bind R P fun F1 ρ1 H1 b v R1 g1 hb P1 => ?_
    split at P1
    · exact P1.elim
    · rename_i d ρ2 e
      obtain ⟨F2, R2, g2, q⟩ := B.keep_ok R g1 R1 hb e
      exact ⟨F2, ρ2, R2, (P1.bind.rebase g2).imp fun F3 ρ3 H3 ds R3 g3 k vs l => k.2 F3 H3 R3 k.1 (v :: vs) (.cons (Den.mono g3.f _ q) l)⟩
theorem tEvD_bind {es : Es} {f : List D → Env → Res β} {Ok : Hp → Env → Hp → β → Prop} {Q : List V → Hp → Prop} (R : Rel K c F ρ σ H) (P : PostR K c σ F ρ H ((evD es ρ).bind f) Ok)
    (k : ∀ F1 ρ1 H1 ds vs, Rel K c F1 ρ1 σ H1 → GoE K c σ F ρ H F1 ρ1 H1 → DenL K c.CL F1 vs ds → PostR K c σ F ρ H (f ds ρ1) Ok → Q vs H1) : tEvD K c es σ H Q :=
  ⟨F, ρ, R, P.bind.imp fun F1 ρ1 H1 b R1 g q v hb => k F1 ρ1 H1 b v R1 g hb q⟩
theorem sz1000 {n : Nat} (h : n ≤ 1000) : n ≤ sizeLine := Nat.le_trans h (by decide)
theorem GoE.new_of (g : GoE K c σ F ρ H F1 ρ1 H1) {p : Addr} (h : H1 p = none) : H p = none := by
  cases q : H p with
  | none => rfl
  | some o => exact absurd h (g.grow p (by rw [q]; simp))
theorem Rel.noneF (R : Rel K c F ρ σ H) {p : Addr} (h : H p = none) : F p = none := by
  cases q : F p with
  | none => rfl
  | some o => rw [R.ex p o q] at h; cases h
theorem e_tup {X : Cx} {c : Ctx} {xs : List Expr} {es : Es} {k : Nat} {pos : Pos} (h : PE X (.Tuple xs k pos) (tTup (tEvD X.K c es))) : PEv X c (.Tuple xs k pos) (.tup es) := PE.wk h fun σ H Q ⟨F, ρ, R, P⟩ => by
  unfold evE at P
  refine tEvD_bind R P fun F1 ρ1 H1 ds vs R1 g1 l P1 => ?_
  split at P1
  · rename_i hl
    refine ⟨sz1000 (by rw [l.length]; exact hl), fun p hp => ?_⟩
    have hF := R1.noneF hp
    have f : Ex F1 (upd F1 p (.tup vs)) := Ex.new hF
    have fr : ∀ a, F1 a = none → Liv H1 a → upd F1 p (.tup vs) a = none := fun a e1 e2 => by rw [upd_ne (fun z => by subst z; exact e2.ne hp)]; exact e1
    exact P1 (upd F1 p (.tup vs)) _ (R1.grow f (Ex.new hp) (Ex.both R1.ex) fr) (g1.trans (GoE.grown c ρ1 σ f (Ex.new hp) fr)) _ (.tup upd_same (DenL.mono f _ l))
  · exact P1.elim
/-- what is made is locked at once -/
theorem pe_frz {X : Cx} {e : Expr} {t : TE} (h : PE X e t) : PE X e (fun σ H Q => t σ H fun v H' => ∃ d u, v = .ref d ∧ H' d = some u ∧ Mut (some u) ∧ ∀ od, Q v (upd H' d (.frz od u))) :=
  ⟨fun pins s σ H Q I q => thn (h.run pins s σ H _ I q) fun a s1 ⟨v, H', I', r, d, u, e, hd, mu, k⟩ => let ⟨od, I2⟩ := I'.lock hd mu; ⟨v, _, I2, r, k od⟩⟩
theorem e_dnew {X : Cx} {c : Ctx} {x : Expr} (h : PE X x tDNewK) : PEv X c x .dnew := PE.wk (pe_frz h) fun σ H Q ⟨F, ρ, R, P⟩ => by
  intro p hp
  refine ⟨p, .dK [], rfl, upd_same, trivial, fun od => ?_⟩
  rw [upd_upd]
  unfold evE at P
  have hF : F p = none := R.noneF hp
  have f : Ex F (upd F p (.frz od (.dK []))) := Ex.new hF
  have fr : ∀ a, F a = none → Liv H a → (upd F p (.frz od (.dK []))) a = none := fun a e1 e2 => by
    rw [upd_ne fun z => by subst z; exact e2.ne hp]
    exact e1
  exact P (upd F p (.frz od (.dK []))) _ (R.grow f (Ex.new hp) (Ex.both R.ex) fr) (GoE.grown c ρ σ f (Ex.new hp) fr) _ (.dk (vs := []) upd_same rfl .nil)
theorem e_lst {X : Cx} {c : Ctx} {xs : List Expr} {es : Es} {pos : Pos} (h : PE X (.List xs pos) (tLst (tEvD X.K c es))) : PEv X c (.List xs pos) (.lst es) := PE.wk h fun σ H Q ⟨F, ρ, R, P⟩ => by
  unfold evE at P
  refine tEvD_bind R P fun F1 ρ1 H1 ds vs R1 g1 l P1 => ?_
  split at P1
  · rename_i hl
    refine ⟨sz1000 (by rw [l.length]; exact hl), fun p hp => ?_⟩
    have hF := R1.noneF hp
    have x : Ex F1 (upd H1 p (.lst vs)) := R1.ex.trans (Ex.new hp)
    have fr : ∀ a, F1 a = none → Liv H1 a → F1 a = none := fun a e1 e2 => e1
    exact P1 F1 _ (R1.grow (Ex.refl _) (Ex.new hp) x fr) (g1.trans (GoE.grown c ρ1 σ (Ex.refl _) (Ex.new hp) fr)) _ ⟨p, vs, rfl, upd_same, hF, l, g1.new_of hp⟩
  · exact P1.elim
/-! ### and, or, not, if -/
theorem e_and {X : Cx} {c : Ctx} {x : Expr} {a b : E} (h : PE X x (tAndV (tEv X.K c a) (tEv X.K c b))) : PEv X c x (.and a b) := PE.wk h fun σ H Q ⟨F, ρ, R, P⟩ => by
  unfold evE at P
  refine tEv_bind R P fun F1 ρ1 H1 b1 v1 R1 g1 hb1 P1 => ?_
  split at P1
  · rename_i k e
    cases hb1.view R1 e
    refine ⟨k, rfl, ?_⟩
    cases k with
    | true =>
      rw [if_pos rfl]
      rw [if_pos rfl] at P1
      exact tEv_last R1 g1 P1 fun _ _ q => q
    | false =>
      rw [if_neg (by decide)]
      rw [if_neg (by decide)] at P1
      exact P1 F1 H1 R1 g1 _ (.bl false)
  · exact P1.elim
theorem e_one {X : Cx} {c : Ctx} {x : Expr} {op : BoolOp} {pos : Pos} {a : E} (h : PEv X c x a) : PEv X c (.BoolOp op [x] pos) a := pe_one h
theorem e_not {X : Cx} {c : Ctx} {x : Expr} {a : E} {pos : Pos} (h : PEv X c x a) : PEv X c (.UnaryOp .Not x pos) (.notb a) := PE.wk (pe_not h) fun σ H Q ⟨F, ρ, R, P⟩ => by
  unfold evE at P
  refine tEv_bind R P fun F1 ρ1 H1 b1 v1 R1 g1 hb1 P1 => ?_
  split at P1
  · rename_i k e
    cases hb1.view R1 e
    exact ⟨k, rfl, P1 F1 H1 R1 g1 _ (.bl _)⟩
  · exact P1.elim
theorem e_ite {X : Cx} {c : Ctx} {x y z : Expr} {t : T} {a b : E} {pos : Pos} (ht : PTv X c x t) (ha : PEv X c y a) (hb : PEv X c z b) : PEv X c (.IfExp x y z pos) (.ite t a b) := PE.wk (pe_ifExp ht ha hb) fun σ H Q ⟨F, ρ, R, P⟩ => by
  unfold evE at P
  refine tEvT_bind R P fun F1 ρ1 H1 k R1 g1 P1 => ?_
  cases k with
  | true =>
    rw [if_pos rfl]
    rw [if_pos rfl] at P1
    exact tEv_last R1 g1 P1 fun _ _ q => q
  | false =>
    rw [if_neg (by decide)]
    rw [if_neg (by decide)] at P1
    exact tEv_last R1 g1 P1 fun _ _ q => q
/-! ### tests -/
theorem View.truth {H : Hp} {d : D} {k : Bool} (x : Ex F H) (hv : View K c F H v d) (e : d.truth = some k) : TruV K v H k := by
  cases d with
  | non => cases hv; cases e; rfl
  | bl b => cases hv; cases e; rfl
  | int i => cases hv; cases e; rfl
  | str s =>
    cases hv
    have e' : (if s.length ≤ 1000000 then some ((s.length : Int) != 0) else none) = some k := e
    by_cases h : s.length ≤ 1000000
    · rw [if_pos h] at e'
      cases e'
      exact ⟨Nat.le_trans h (by decide), rfl⟩
    · rw [if_neg h] at e'
      cases e'
  | tup xs =>
    cases hv with
    | tup h l =>
      cases e
      refine .inr (.inl ⟨_, x.t h, ?_⟩)
      cases l <;> rfl
  | lst xs =>
    obtain ⟨a, vs, rfl, h, l⟩ := hv.sq x
    cases e
    refine .inl ⟨vs, h, ?_⟩
    cases l <;> rfl
  | obj _ _ => cases e
  | dk _ _ => cases e
  | dt _ _ => cases e
  | tn _ => cases e
  | ro _ => cases e
  | ty _ => cases e
  | cls _ => cases e
/-- a value by its truth -/
theorem t_e {X : Cx} {c : Ctx} {x : Expr} {a : E} (h : PEv X c x a) (he : ∀ whole, isTrue x X.env whole = (do let v ← whole; standAt x.pos; holding [v] (truthy v)) := by intro _; rfl) : PTv X c x (.e a) := PT.wk (pt_truth h he) fun σ H Q ⟨F, ρ, R, P⟩ => by
  unfold evT at P
  refine tEv_bind R P fun F1 ρ1 H1 b1 v1 R1 g1 hb1 P1 => ?_
  split at P1
  · exact P1.elim
  · rename_i d e
    split at P1
    · exact P1.elim
    · rename_i k ek
      exact ⟨k, (hb1.view R1 e).truth R1.ex ek, P1 F1 H1 R1 g1⟩
/-- an expression that gives True or False -/
theorem tEvT_eb {e : E} {Q : Bool → Hp → Prop} (h : tEvT K c (.eb e) σ H Q) : tEv K c e σ H fun x H' => ∃ k, x = .bl k ∧ Q k H' := by
  obtain ⟨F, ρ, R, P⟩ := h
  unfold evT at P
  refine tEv_bind R P fun F1 ρ1 H1 b1 v1 R1 g1 hb1 P1 => ?_
  split at P1
  · rename_i k e
    cases hb1.view R1 e
    exact ⟨k, rfl, P1 F1 H1 R1 g1⟩
  · exact P1.elim
theorem t_cmp {X : Cx} {c : Ctx} {x : Expr} {r : R2} {f : List D → Option RB} {a b : E} (p : Prim X.K c (fun vs H Q => ∃ x y, vs = [x, y] ∧ r x y H Q) f) (h : PT X x (tTest (tOp r (tEv X.K c a) (tEv X.K c b)))) : PTv X c x (.eb (.prim f (.cons a (.cons b .nil)))) :=
  PT.wk h fun _ _ _ q => prim_go2 p (tEvT_eb q)
theorem tAnd_go {a b : T} {Q : Bool → Hp → Prop} (h : tEvT K c (.and a b) σ H Q) : tAnd (tEvT K c a) (tEvT K c b) σ H Q := by
  obtain ⟨F, ρ, R, P⟩ := h
  unfold evT at P
  refine tEvT_bind R P fun F1 ρ1 H1 k R1 g1 P1 => ?_
  cases k with
  | true =>
    rw [if_pos rfl]
    rw [if_pos rfl] at P1
    exact ⟨F1, ρ1, R1, (P1.rebase g1).imp fun F2 ρ2 H2 b R2 g2 q => q.2⟩
  | false =>
    rw [if_neg (by decide)]
    rw [if_neg (by decide)] at P1
    exact P1 F1 H1 R1 g1
theorem tOr_go {a b : T} {Q : Bool → Hp → Prop} (h : tEvT K c (.or a b) σ H Q) : tOr (tEvT K c a) (tEvT K c b) σ H Q := by
  obtain ⟨F, ρ, R, P⟩ := h
  unfold evT at P
  refine tEvT_bind R P fun F1 ρ1 H1 k R1 g1 P1 => ?_
  cases k with
  | true =>
    rw [if_pos rfl]
    rw [if_pos rfl] at P1
    exact P1 F1 H1 R1 g1
  | false =>
    rw [if_neg (by decide)]
    rw [if_neg (by decide)] at P1
    exact ⟨F1, ρ1, R1, (P1.rebase g1).imp fun F2 ρ2 H2 b R2 g2 q => q.2⟩
abbrev PWv (X : Cx) (c : Ctx) (x : Expr) (t : T) : Prop := PW X x (tEvT X.K c t)
theorem w_and1 {X : Cx} {c : Ctx} {x : Expr} {t : T} {pos : Pos} (h : PTv X c x t) : PWv X c (.BoolOp .And [x] pos) t := pw_and1 h
theorem w_or1 {X : Cx} {c : Ctx} {x : Expr} {t : T} {pos : Pos} (h : PTv X c x t) : PWv X c (.BoolOp .Or [x] pos) t := pw_or1 h
theorem w_and {X : Cx} {c : Ctx} {x y : Expr} {rest : List Expr} {t u : T} {pos : Pos} (h : PTv X c x t) (h2 : PWv X c (.BoolOp .And (y :: rest) pos) u) : PWv X c (.BoolOp .And (x :: y :: rest) pos) (.and t u) := PW.wk (pw_and h h2) fun _ _ _ q => tAnd_go q
theorem w_or {X : Cx} {c : Ctx} {x y : Expr} {rest : List Expr} {t u : T} {pos : Pos} (h : PTv X c x t) (h2 : PWv X c (.BoolOp .Or (y :: rest) pos) u) : PWv X c (.BoolOp .Or (x :: y :: rest) pos) (.or t u) := PW.wk (pw_or h h2) fun _ _ _ q => tOr_go q
theorem t_w {X : Cx} {c : Ctx} {x : Expr} {t : T} (h : PWv X c x t) : PTv X c x t := h.pt
theorem t_not {X : Cx} {c : Ctx} {x : Expr} {t : T} {pos : Pos} (h : PTv X c x t) : PTv X c (.UnaryOp .Not x pos) (.not t) := PT.wk (pt_not h) fun σ H Q ⟨F, ρ, R, P⟩ => by
  unfold evT at P
  exact tEvT_bind R P fun F1 ρ1 H1 k R1 g1 P1 => P1 F1 H1 R1 g1
end
end Ev
namespace Ev
open PySem L2
theorem mapI_get (f : Nat → Slot → Slot) : ∀ (l : List Slot) (n k : Nat), (mapI f n l)[k]? = l[k]?.map (f (n + k))
  | [], n, k => by simp [mapI]
  | s :: r, n, 0 => by simp [mapI]
  | s :: r, n, k + 1 => by
    unfold mapI
    simp only [List.getElem?_cons_succ]
    rw [mapI_get f r (n + 1) k]
    congr 2
    omega
theorem mapI_length (f : Nat → Slot → Slot) : ∀ (l : List Slot) (n : Nat), (mapI f n l).length = l.length
  | [], n => rfl
  | s :: r, n => by simp [mapI, mapI_length f r]
theorem newAt_some : ∀ {bs : List B} {ss : List Slot} {k : Nat} {s : Slot}, newAt bs ss k = some s → ∃ i : Nat, bs[i]? = some (B.loc k) ∧ ss[i]? = some s
  | [], _, _, _, h => by simp [newAt] at h
  | .d x :: bs, [], _, _, h => by simp [newAt] at h
  | .nw x :: bs, [], _, _, h => by simp [newAt] at h
  | .loc x :: bs, [], _, _, h => by simp [newAt] at h
  | .d x :: bs, s :: ss, k, t, h => let ⟨i, h1, h2⟩ := newAt_some (bs := bs) (ss := ss) (k := k) (s := t) (by simpa [newAt] using h); ⟨i + 1, by simpa using h1, by simpa using h2⟩
  | .nw x :: bs, s :: ss, k, t, h => let ⟨i, h1, h2⟩ := newAt_some (bs := bs) (ss := ss) (k := k) (s := t) (by simpa [newAt] using h); ⟨i + 1, by simpa using h1, by simpa using h2⟩
  | .loc j :: bs, s :: ss, k, t, h => by
    unfold newAt at h
    by_cases e : k = j
    · rw [if_pos e] at h; cases h; subst e; exact ⟨0, rfl, rfl⟩
    · rw [if_neg e] at h
      obtain ⟨i, h1, h2⟩ := newAt_some h
      exact ⟨i + 1, by simpa using h1, by simpa using h2⟩
theorem noTwice_uniq : ∀ {bs : List B} {i i' k : Nat}, noTwice bs = true → bs[i]? = some (.loc k) → bs[i']? = some (.loc k) → i = i'
  | [], _, _, _, _, h, _ => by simp at h
  | .d x :: bs, 0, _, _, _, h, _ => by simp at h
  | .d x :: bs, _, 0, _, _, _, h => by simp at h
  | .d x :: bs, i + 1, i' + 1, k, n, h, h' => congrArg Nat.succ (noTwice_uniq (bs := bs) n (by simpa using h) (by simpa using h'))
  | .nw x :: bs, 0, _, _, _, h, _ => by simp at h
  | .nw x :: bs, _, 0, _, _, _, h => by simp at h
  | .nw x :: bs, i + 1, i' + 1, k, n, h, h' => congrArg Nat.succ (noTwice_uniq (bs := bs) n (by simpa using h) (by simpa using h'))
  | .loc j :: bs, 0, 0, _, _, _, _ => rfl
  | .loc j :: bs, 0, i' + 1, k, n, h, h' => by
    simp at h
    subst h
    unfold noTwice at n
    simp only [Bool.and_eq_true, List.all_eq_true] at n
    have := n.1 (.loc j) (List.mem_of_getElem? (by simpa using h'))
    simp at this
  | .loc j :: bs, i + 1, 0, k, n, h, h' => by
    simp at h'
    subst h'
    unfold noTwice at n
    simp only [Bool.and_eq_true, List.all_eq_true] at n
    have := n.1 (.loc j) (List.mem_of_getElem? (by simpa using h))
    simp at this
  | .loc j :: bs, i + 1, i' + 1, k, n, h, h' => by
    unfold noTwice at n
    simp only [Bool.and_eq_true] at n
    exact congrArg Nat.succ (noTwice_uniq (bs := bs) n.2 (by simpa using h) (by simpa using h'))
theorem newAt_of : ∀ {bs : List B} {ss : List Slot} {i k : Nat} {s : Slot}, noTwice bs = true → bs[i]? = some (.loc k) → ss[i]? = some s → newAt bs ss k = some s
  | [], _, _, _, _, _, h, _ => by simp at h
  | _ :: _, [], _, _, _, _, _, h => by simp at h
  | .d x :: bs, t :: ss, 0, _, _, _, h, _ => by simp at h
  | .nw x :: bs, t :: ss, 0, _, _, _, h, _ => by simp at h
  | .d x :: bs, t :: ss, i + 1, k, s, n, h, h' => by unfold newAt; exact newAt_of n (by simpa using h) (by simpa using h')
  | .nw x :: bs, t :: ss, i + 1, k, s, n, h, h' => by unfold newAt; exact newAt_of n (by simpa using h) (by simpa using h')
  | .loc j :: bs, t :: ss, 0, k, s, n, h, h' => by
    simp at h h'
    subst h; subst h'
    unfold newAt
    rw [if_pos rfl]
  | .loc j :: bs, t :: ss, i + 1, k, s, n, h, h' => by
    have hj : k ≠ j := by
      intro e
      subst e
      have := noTwice_uniq (i := i + 1) (i' := 0) n h rfl
      omega
    unfold newAt
    rw [if_neg hj]
    unfold noTwice at n
    simp only [Bool.and_eq_true] at n
    exact newAt_of n.2 (by simpa using h) (by simpa using h')
/-! ### what is passed, what comes back -/
def pown (CL : CLs) (vs : List V) (ss : List Slot) (a : Addr) : Prop := (∃ (i : Nat) (xs : List D), ss[i]? = some (.ow xs) ∧ vs[i]? = some (.ref a)) ∨ CL.at a
def ArgOk (K : PySem.W.Frag) (CL : CLs) (F H : Hp) (v : Option V) : Slot → Prop
  | .sh d => ∃ u, v = some u ∧ Den K CL F u d
  | .ow xs => ∃ a us, v = some (.ref a) ∧ H a = some (.lst us) ∧ F a = none ∧ DenL K CL F us xs
  | _ => False
structure ARel (K : PySem.W.Frag) (CL : CLs) (F H : Hp) (vs : List V) (ss : List Slot) : Prop where
  len : vs.length = ss.length
  ex : Ex F H
  ok : ∀ (i : Nat) (s : Slot), ss[i]? = some s → ArgOk K CL F H vs[i]? s
  apart : ∀ (i i' : Nat) (xs ys : List D) (a : Addr), ss[i]? = some (.ow xs) → ss[i']? = some (.ow ys) → vs[i]? = some (.ref a) → vs[i']? = some (.ref a) → i = i'
  tb : LamX.Tabs CL.tb H
  tn : TN CL F
structure FGo (CL : CLs) (F H : Hp) (vs : List V) (ss : List Slot) (F' H' : Hp) : Prop where
  f : Ex F F'
  ex : Ex F' H'
  keep : ∀ a o, H a = some o → ¬ pown CL vs ss a → H' a = some o
  fr : ∀ a, F a = none → Liv H a → ¬ pown CL vs ss a → F' a = none
  grow : ∀ a, H a ≠ none → H' a ≠ none
  tb : LamX.Tabs CL.tb H'
  tn : TN CL F'
def ORel (K : PySem.W.Frag) (CL : CLs) (F' H' : Hp) (vs : List V) (ss o : List Slot) : Prop := ∀ (i : Nat) (xs : List D), ss[i]? = some (.ow xs) →
  (∃ ys a us, o[i]? = some (.ow ys) ∧ vs[i]? = some (.ref a) ∧ H' a = some (.lst us) ∧ F' a = none ∧ DenL K CL F' us ys) ∨
  (∃ d a, o[i]? = some (.sh d) ∧ vs[i]? = some (.ref a) ∧ Den K CL F' (.ref a) d ∧ F' a ≠ none)
abbrev c0 (CL : CLs) : Ctx := ⟨CL, [], fun _ _ _ => False⟩
/-- the promise of a def whose doing is g -/
def spF (K : PySem.W.Frag) (CL : CLs) (g : Fn) (n : Nat) : Sp := fun vs H Q E => vs.length = n ∧ ∃ F ss, ARel K CL F H vs ss ∧ match g ss with
  | .no => False
  | .ok r o => ∀ F' v H', FGo CL F H vs ss F' H' → ORel K CL F' H' vs ss o → RDen K (c0 CL) H F' H' v r → Q v H'
  | .ex x o => ∀ F' H' C d, FGo CL F H vs ss F' H' → ORel K CL F' H' vs ss o → Nw H d → XDen K (c0 CL) F' H' x C d → E C d H'
section
variable {α β : Type} {K : PySem.W.Frag} {c : Ctx} {F F1 F2 F' H H1 H2 H' : Hp} {ρ ρ1 ρ2 ρ' : Env} {σ : St} {v : V} {b : B} {vs : List V} {bs : List B} {ss o : List Slot}
theorem args_get : ∀ {bs : List B} {ss : List Slot}, args ρ bs = some ss → ss.length = bs.length ∧ ∀ (i : Nat) (s : Slot), ss[i]? = some s → ∃ b, bs[i]? = some b ∧ b.arg ρ = some s
  | [], ss, h => by cases h; exact ⟨rfl, fun i s e => by simp at e⟩
  | b :: bs, ss, h => by
    unfold args at h
    split at h
    · cases h
    · rename_i s hs
      split at h
      · cases h
      · rename_i r hr
        cases h
        obtain ⟨h1, h2⟩ := args_get hr
        refine ⟨by simp [h1], fun i t e => ?_⟩
        cases i with
        | zero => simp at e; subst e; exact ⟨b, rfl, hs⟩
        | succ i => exact h2 i t (by simpa using e)
theorem BDens.nws (h : BDens K c σ H F' ρ' H' vs bs) {i i' : Nat} {xs ys : List D} {v : V} (e : bs[i]? = some (.nw xs)) (e' : bs[i']? = some (.nw ys)) (w : vs[i]? = some v) (w' : vs[i']? = some v) : i = i' := by
  induction h generalizing i i' with
  | nil => simp at e
  | cons _ _ n ih =>
    cases i with
    | zero =>
      cases i' with
      | zero => rfl
      | succ i' =>
        simp at e w
        subst e; subst w
        exact absurd (by simpa using w') (n xs rfl i' ys (by simpa using e'))
    | succ i =>
      cases i' with
      | zero =>
        simp at e' w'
        subst e'; subst w'
        exact absurd (by simpa using w) (n ys rfl i xs (by simpa using e))
      | succ i' => exact congrArg Nat.succ (ih (by simpa using e) (by simpa using e') (by simpa using w) (by simpa using w'))
/-- a list that is passed: a new one, or a variable's -/
theorem passed (R0 : Rel K c F ρ σ H) (g : GoE K c σ F ρ H F1 ρ1 H1) (R : Rel K c F1 ρ1 σ H1) (hb : BDens K c σ H F1 ρ1 H1 vs bs) (ha : args ρ1 bs = some ss) {i : Nat} {xs : List D} {a : Addr} (e : ss[i]? = some (.ow xs)) (w : vs[i]? = some (.ref a)) :
    (bs[i]? = some (.nw xs) ∧ H a = none) ∨ (∃ k : Nat, bs[i]? = some (B.loc k) ∧ ρ1.v[k]? = some (Slot.ow xs) ∧ σ[k]? = some (some (V.ref a)) ∧ (sl ρ1)[k]? = some (Slot.ow xs) ∧ (vl c σ)[k]? = some (some (V.ref a))) := by
  obtain ⟨b, e1, e2⟩ := (args_get ha).2 i _ e
  obtain ⟨v, w1, q⟩ := hb.get e1
  rw [w] at w1
  cases w1
  cases b with
  | d x => cases e2
  | nw ys =>
    cases e2
    obtain ⟨a', us, z, _, _, _, h⟩ := q
    cases z
    exact .inl ⟨e1, h⟩
  | loc k =>
    obtain ⟨s, h1, h2, h3⟩ := q
    unfold B.arg at e2
    simp only [h1] at e2
    cases s with
    | ow ys =>
      cases e2
      have kl := lt_of_get h1
      exact .inr ⟨k, e1, h1, h3, by rw [sl_v kl]; exact h1, by rw [vl_v (by rw [← R.len]; exact kl)]; exact h3⟩
    | sh _ => cases e2
    | lk _ => cases e2
    | od _ _ => cases e2
    | un => cases e2
    | att => cases e2
theorem args_ok (R0 : Rel K c F ρ σ H) (g : GoE K c σ F ρ H F1 ρ1 H1) (R : Rel K c F1 ρ1 σ H1) (hb : BDens K c σ H F1 ρ1 H1 vs bs) (ha : args ρ1 bs = some ss) (hn : noTwice bs = true) : ARel K c.CL F1 H1 vs ss := by
  obtain ⟨l1, l2⟩ := args_get ha
  refine ⟨by rw [hb.length, l1], R.ex, fun i s e => ?_, fun i i' xs ys a e e' w w' => ?_, R.tb, R.tn⟩
  · obtain ⟨b, e1, e2⟩ := l2 i s e
    obtain ⟨v, w1, q⟩ := hb.get e1
    cases b with
    | d x => cases e2; exact ⟨v, w1, q⟩
    | nw xs => cases e2; obtain ⟨a, us, rfl, h1, h2, h3, _⟩ := q; exact ⟨a, us, w1, h1, h2, h3⟩
    | loc k =>
      obtain ⟨s', h1, h2, h3⟩ := q
      unfold B.arg at e2
      simp only [h1] at e2
      have ok := R.slot h1
      rw [h3] at ok
      cases s' with
      | ow ys => cases e2; obtain ⟨a, us, z, q1, q2, q3⟩ := ok; cases z; exact ⟨a, us, w1, q1, q2, q3⟩
      | sh d => cases e2; obtain ⟨u, z, q1⟩ := ok; cases z; exact ⟨v, w1, q1⟩
      | lk _ => cases e2
      | od _ _ => cases e2
      | un => cases e2
      | att => cases e2
  · rcases passed R0 g R hb ha e w with ⟨p1, p2⟩ | ⟨k, p1, p2, p3, p4, p5⟩
    · rcases passed R0 g R hb ha e' w' with ⟨q1, q2⟩ | ⟨k', q1, q2, q3, q4, q5⟩
      · exact hb.nws p1 q1 w w'
      · exact absurd p2 (held_old R0 g R q4 rfl q5)
    · rcases passed R0 g R hb ha e' w' with ⟨q1, q2⟩ | ⟨k', q1, q2, q3, q4, q5⟩
      · exact absurd q2 (held_old R0 g R p4 rfl p5)
      · have := R.apart k k' _ _ a p4 q4 rfl rfl p5 q5
        subst this
        exact noTwice_uniq hn p1 q1
theorem sl_o {j : Nat} : (sl ρ)[ρ.v.length + j]? = ρ.o[j]? := by
  unfold sl
  rw [List.getElem?_append_right (by omega)]
  simp
theorem vl_o (R : Rel K c F ρ σ H) {j : Nat} : (vl c σ)[ρ.v.length + j]? = c.Ps[j]?.map some := by
  unfold vl
  rw [R.len, List.getElem?_append_right (by omega)]
  simp
theorem Rel.slotO (R : Rel K c F ρ σ H) {j : Nat} {s : Slot} (h : ρ.o[j]? = some s) : SlotOk K c F H s (c.Ps[j]?.map some) := by
  have := R.ok (ρ.v.length + j) s (by rw [sl_o]; exact h)
  rwa [vl_o R] at this
/-- behind a call -/
theorem back_ok (R0 : Rel K c F ρ σ H) (g : GoE K c σ F ρ H F1 ρ1 H1) (R : Rel K c F1 ρ1 σ H1) (hb : BDens K c σ H F1 ρ1 H1 vs bs) (ha : args ρ1 bs = some ss) (hn : noTwice bs = true) (fg : FGo c.CL F1 H1 vs ss F' H') (or : ORel K c.CL F' H' vs ss o) :
    Rel K c F' (back ρ1 bs o) σ H' ∧ GoE K c σ F ρ H F' (back ρ1 bs o) H' := by
  -- no list that stood ahead and was not passed is changed
  have np : ∀ (k : Nat) (s : Slot) (a : Addr), (sl ρ1)[k]? = some s → s.held = true → (vl c σ)[k]? = some (some (.ref a)) → pown c.CL vs ss a → ∃ (i : Nat) (xs : List D), bs[i]? = some (B.loc k) ∧ ss[i]? = some (Slot.ow xs) ∧ s = Slot.ow xs ∧ vs[i]? = some (V.ref a) := by
    rintro k s a e hh w (⟨i, xs, e1, w1⟩ | htab)
    rotate_left
    · obtain ⟨b, us, z1, z2, z3, _⟩ := (R.ok k s e).heldAt hh
      rw [w] at z1
      cases z1
      exact absurd htab (tabs_own R.tb z2 z3)
    rcases passed R0 g R hb ha e1 w1 with ⟨p1, p2⟩ | ⟨k', p1, p2, p3, p4, p5⟩
    · exact absurd p2 (held_old R0 g R e hh w)
    · have := R.apart k k' _ _ a e p4 hh rfl w p5
      subst this
      rw [e] at p4
      cases p4
      exact ⟨i, xs, p1, e1, rfl, w1⟩
  have vlen : (back ρ1 bs o).v.length = ρ1.v.length := mapI_length ..
  have olen : (back ρ1 bs o).o.length = ρ1.o.length := mapI_length ..
  have gv : ∀ k, (back ρ1 bs o).v[k]? = ρ1.v[k]?.map fun s => new1 s (newAt bs o k) := fun k => by
    show (mapI _ 0 ρ1.v)[k]? = _
    rw [mapI_get]
    simp
  have go : ∀ k, (back ρ1 bs o).o[k]? = ρ1.o[k]?.map fun s => newO s ρ1.v[k]? (newAt bs o k) := fun k => by
    show (mapI _ 0 ρ1.o)[k]? = _
    rw [mapI_get]
    simp
  -- a place of a variable: what it was, what it is
  have keyv : ∀ (k : Nat) (s' : Slot), (back ρ1 bs o).v[k]? = some s' → ∃ s, ρ1.v[k]? = some s ∧
      ((s' = s ∧ ∀ a, s.held = true → σ[k]? = some (some (.ref a)) → ¬ pown c.CL vs ss a) ∨
       (∃ (xs ys : List D) (a : Addr) (us : List V), s = Slot.ow xs ∧ s' = Slot.ow ys ∧ σ[k]? = some (some (V.ref a)) ∧ H' a = some (HO.lst us) ∧ F' a = none ∧ DenL K c.CL F' us ys) ∨
       (∃ (xs : List D) (d : D) (a : Addr), s = Slot.ow xs ∧ s' = Slot.sh d ∧ σ[k]? = some (some (V.ref a)) ∧ Den K c.CL F' (V.ref a) d ∧ F' a ≠ none ∧ newAt bs o k = some (Slot.sh d))) := by
    intro k s' e
    rw [gv] at e
    cases h : ρ1.v[k]? with
    | none => rw [h] at e; cases e
    | some s =>
      rw [h] at e
      simp only [Option.map_some, Option.some.injEq] at e
      refine ⟨s, rfl, ?_⟩
      have kl := lt_of_get h
      have hs : (sl ρ1)[k]? = some s := by rw [sl_v kl]; exact h
      have hw : (vl c σ)[k]? = σ[k]? := vl_v (by rw [← R.len]; exact kl)
      by_cases hp : ∃ a, s.held = true ∧ σ[k]? = some (some (.ref a)) ∧ pown c.CL vs ss a
      · obtain ⟨a, hh, w, p⟩ := hp
        obtain ⟨i, xs, b1, b2, rfl, b4⟩ := np k s a hs hh (by rw [hw]; exact w) p
        rcases or i xs b2 with ⟨ys, a', us, q1, q2, q3, q4, q5⟩ | ⟨d, a', q1, q2, q3, q4⟩
        · rw [b4] at q2
          cases q2
          have na : newAt bs o k = some (.ow ys) := newAt_of hn b1 q1
          rw [na] at e
          exact .inr (.inl ⟨xs, ys, a, us, rfl, e.symm, w, q3, q4, q5⟩)
        · rw [b4] at q2
          cases q2
          have na : newAt bs o k = some (.sh d) := newAt_of hn b1 q1
          rw [na] at e
          exact .inr (.inr ⟨xs, d, a, rfl, e.symm, w, q3, q4, na⟩)
      · left
        refine ⟨?_, fun a hh w p => hp ⟨a, hh, w, p⟩⟩
        rw [← e]
        cases s with
        | ow xs =>
          -- it was not passed
          cases q : newAt bs o k with
          | none => rfl
          | some t =>
            exfalso
            obtain ⟨i, b1, b2⟩ := newAt_some q
            obtain ⟨v, w1, s2, z1, z2, z3⟩ := hb.get b1
            obtain ⟨a, us, z4, _⟩ := R.slot h
            rw [z3] at z4
            cases z4
            apply hp
            refine ⟨a, rfl, z3, .inl ⟨i, xs, ?_, w1⟩⟩
            have il : i < ss.length := by rw [(args_get ha).1]; exact lt_of_get b1
            obtain ⟨b', c1, c2⟩ := (args_get ha).2 i ss[i] (List.getElem?_eq_getElem il)
            rw [b1] at c1
            cases c1
            unfold B.arg at c2
            simp only [h] at c2
            rw [List.getElem?_eq_getElem il]
            exact c2.symm
        | un => rfl
        | att => rfl
        | sh _ => rfl
        | lk _ => rfl
        | od _ _ => rfl
  have keyo : ∀ (j : Nat) (s' : Slot), (back ρ1 bs o).o[j]? = some s' → ∃ s, ρ1.o[j]? = some s ∧ (s' = s ∨ (∃ (d : D) (a : Addr), s = Slot.att ∧ s' = Slot.sh d ∧ c.Ps[j]? = some (V.ref a) ∧ Den K c.CL F' (V.ref a) d ∧ F' a ≠ none)) := by
    intro j s' e
    rw [go] at e
    cases h : ρ1.o[j]? with
    | none => rw [h] at e; cases e
    | some s =>
      rw [h] at e
      simp only [Option.map_some, Option.some.injEq] at e
      refine ⟨s, rfl, ?_⟩
      cases s with
      | att =>
        obtain ⟨v, t, g1, g2, g3, g4⟩ := R.att j h
        by_cases hd : ∃ d, newAt bs o j = some (.sh d) ∧ ∃ xs, t = .ow xs
        · obtain ⟨d, hd, xs, rfl⟩ := hd
          rw [g3, hd] at e
          have e' : s' = .sh d := e.symm
          subst e'
          obtain ⟨s2, h2, k2⟩ := keyv j (.sh d) (by rw [gv, g3, hd]; rfl)
          rw [g3] at h2
          cases h2
          rcases k2 with ⟨k2, _⟩ | ⟨_, _, _, _, _, k2, _⟩ | ⟨ys, d', a, _, k2, k3, k4, k5, _⟩
          · cases k2
          · cases k2
          · cases k2
            rw [k3] at g1
            cases g1
            exact .inr ⟨d, a, rfl, rfl, g2, k4, k5⟩
        · left
          rw [← e]
          cases q : newAt bs o j with
          | none => cases ρ1.v[j]? with
            | none => rfl
            | some s2 => cases s2 <;> rfl
          | some t2 =>
            rw [g3]
            cases t with
            | ow xs =>
              cases t2 with
              | sh d => exact absurd ⟨d, q, xs, rfl⟩ hd
              | ow _ => rfl
              | lk _ => rfl
              | od _ _ => rfl
              | un => rfl
              | att => rfl
            | lk _ => rfl
            | od _ _ => rfl
            | un => cases g4
            | att => cases g4
            | sh _ => cases g4
      | un => exact .inl e.symm
      | sh _ => exact .inl e.symm
      | ow _ => exact .inl e.symm
      | lk _ => exact .inl e.symm
      | od _ _ => exact .inl e.symm
  -- over all places
  have key : ∀ (k : Nat) (s' : Slot), (sl (back ρ1 bs o))[k]? = some s' → (SlotOk K c F' H' s' (vl c σ)[k]?) ∧ (s'.held = true → ∃ s, (sl ρ1)[k]? = some s ∧ s.held = true ∧ (∀ xs, s' = .ow xs → ∃ ys, s = .ow ys) ∧ (∀ ks xs, s' = .od ks xs → s = .od ks xs)) := by
    intro k s' e
    have stay : ∀ s : Slot, (sl ρ1)[k]? = some s → (∀ a, s.held = true → (vl c σ)[k]? = some (some (.ref a)) → ¬ pown c.CL vs ss a) → SlotOk K c F' H' s (vl c σ)[k]? := fun s hs hnp =>
      (R.ok k s hs).grow fg.f fun a us hh w q1 qo q2 => ⟨fg.keep a _ q1 (hnp a hh w), fg.fr a q2 (Liv.of q1 qo.liv) (hnp a hh w)⟩
    by_cases kl : k < ρ1.v.length
    · rw [sl_v (by rw [vlen]; exact kl)] at e
      obtain ⟨s, h, q⟩ := keyv k s' e
      have hs : (sl ρ1)[k]? = some s := by rw [sl_v kl]; exact h
      have hw : (vl c σ)[k]? = σ[k]? := vl_v (by rw [← R.len]; exact kl)
      rcases q with ⟨rfl, q⟩ | ⟨xs, ys, a, us, rfl, rfl, w, q1, q2, q3⟩ | ⟨xs, d, a, rfl, rfl, w, q1, q2, _⟩
      · exact ⟨stay s' hs fun a hh w => q a hh (by rw [← hw]; exact w), fun hh => ⟨s', hs, hh, fun xs z => ⟨xs, z⟩, fun _ _ z => z⟩⟩
      · exact ⟨⟨a, us, by rw [hw]; exact w, q1, q2, q3⟩, fun _ => ⟨_, hs, rfl, fun _ _ => ⟨xs, rfl⟩, fun _ _ z => nomatch z⟩⟩
      · exact ⟨⟨.ref a, by rw [hw]; exact w, q1⟩, fun z => nomatch z⟩
    · have ek : k = ρ1.v.length + (k - ρ1.v.length) := by omega
      have e2 : (back ρ1 bs o).o[k - ρ1.v.length]? = some s' := by
        have : (sl (back ρ1 bs o))[(back ρ1 bs o).v.length + (k - ρ1.v.length)]? = some s' := by rw [vlen, ← ek]; exact e
        rwa [sl_o] at this
      obtain ⟨s, h, q⟩ := keyo _ s' e2
      have hs : (sl ρ1)[k]? = some s := by rw [ek, sl_o]; exact h
      rcases q with rfl | ⟨d, a, rfl, rfl, q1, q2, q3⟩
      · refine ⟨stay s' hs fun a hh w p => ?_, fun hh => ⟨s', hs, hh, fun xs z => ⟨xs, z⟩, fun _ _ z => z⟩⟩
        obtain ⟨i, xs, b1, b2, _, b4⟩ := np k s' a hs hh w p
        obtain ⟨v, w1, s2, z1, _⟩ := hb.get b1
        exact kl (lt_of_get z1)
      · refine ⟨⟨.ref a, ?_, q2⟩, fun z => nomatch z⟩
        rw [ek, vl_o R, q1]
        rfl
  refine ⟨⟨by rw [vlen]; exact R.len, by rw [olen]; exact R.lenO, fg.ex, fun k s e => (key k s e).1, fun k k' s s' a e e' hh hh' w w' => ?_, fun j e => ?_, fun j xs e => ?_, fun j d a e1 e2 => ?_, fg.tb, fg.tn⟩,
    ⟨g.f.trans fg.f, fun a ob e n => ?_, fun a e1 e2 n => ?_, fun a q => q.elim (fun ⟨k, xs, e, w⟩ => ?_) fun q => q.elim (fun h => .inr (.inl h)) fun ⟨k, ks, xs, e, w⟩ => (by obtain ⟨t, q1, q2, _, q3⟩ := (key k _ e).2 rfl; rw [q3 ks xs rfl] at q1; exact g.ow a (.inr (.inr ⟨k, ks, xs, q1, w⟩))), fun k xs e => ?_, fun a e => fg.grow a (g.grow a e), fun k s e hl => ?_, fun j s e hl => ?_, fun j e => ?_⟩⟩
  · obtain ⟨t, q1, q2, _⟩ := (key k s e).2 hh
    obtain ⟨t', q1', q2', _⟩ := (key k' s' e').2 hh'
    exact R.apart k k' t t' a q1 q1' q2 q2' w w'
  · obtain ⟨s, h, q⟩ := keyo j _ e
    rcases q with rfl | ⟨d, a, rfl, q, _⟩
    · obtain ⟨v, t, g1, g2, g3, g4⟩ := R.att j h
      have e0 := e
      rw [go, h] at e0
      refine ⟨v, new1 t (newAt bs o j), g1, g2, by rw [gv, g3]; rfl, ?_⟩
      cases t with
      | ow xs =>
        cases q : newAt bs o j with
        | none => rfl
        | some t2 =>
          cases t2 with
          | sh d => rw [g3, q] at e0; cases e0
          | ow _ => rfl
          | lk _ => rfl
          | od _ _ => rfl
          | un => rfl
          | att => rfl
      | lk _ => rfl
      | od _ _ => cases g4
      | un => cases g4
      | att => cases g4
      | sh _ => cases g4
    · cases q
  · obtain ⟨s, h, q⟩ := keyo j _ e
    rcases q with rfl | ⟨d, a, rfl, q, _⟩
    · exact R.noLk j xs h
    · cases q
  · obtain ⟨s, h, q⟩ := keyo j _ e1
    rcases q with rfl | ⟨d', a', rfl, q, q1, q2, q3⟩
    · exact fg.f.ne (R.fz j d a h e2)
    · rw [e2] at q1
      cases q1
      exact q3
  · refine fg.keep a ob (g.keep a ob e n) fun q => q.elim (fun ⟨i, xs, e1, w1⟩ => ?_) fun h => n (.inr (.inl h))
    rcases passed R0 g R hb ha e1 w1 with ⟨_, p2⟩ | ⟨k', p1, p2, p3, p4, p5⟩
    · rw [e] at p2; cases p2
    · exact n (g.ow a (.inl ⟨k', xs, p4, p5⟩))
  · refine fg.fr a (g.fr a e1 e2 n) (e2.keep fun o e => g.keep a o e n) fun q => q.elim (fun ⟨i, xs, e3, w1⟩ => ?_) fun h => n (.inr (.inl h))
    rcases passed R0 g R hb ha e3 w1 with ⟨_, p2⟩ | ⟨k', p1, p2, p3, p4, p5⟩
    · exact e2.ne p2
    · exact n (g.ow a (.inl ⟨k', xs, p4, p5⟩))
  · obtain ⟨t, q1, q2, q3, _⟩ := (key k _ e).2 rfl
    obtain ⟨ys, rfl⟩ := q3 xs rfl
    exact g.ow a (.inl ⟨k, ys, q1, w⟩)
  · obtain ⟨s, h, q⟩ := keyv k _ e
    rcases q with ⟨rfl, q⟩ | ⟨_, _, _, _, _, q, _⟩ | ⟨_, _, _, _, q, _⟩
    · exact g.lk k xs h
    · cases q
    · cases q
  · obtain ⟨s', h1, h2⟩ := g.live k s e hl
    refine ⟨new1 s' (newAt bs o k), by rw [gv, h1]; rfl, ?_⟩
    cases s' with
    | ow xs =>
      cases newAt bs o k with
      | none => rfl
      | some t2 => cases t2 <;> rfl
    | lk _ => rfl
    | sh _ => rfl
    | un => cases h2
    | od _ _ => cases h2
    | att => cases h2
  · obtain ⟨s', h1, h2⟩ := g.tell j s e hl
    refine ⟨newO s' ρ1.v[j]? (newAt bs o j), by rw [go, h1]; rfl, ?_⟩
    cases s' with
    | att => cases ρ1.v[j]? with
      | none => rfl
      | some t => cases t with
        | ow _ => cases newAt bs o j with
          | none => rfl
          | some t2 => cases t2 <;> rfl
        | _ => rfl
    | ow _ => rfl
    | sh _ => rfl
    | un => cases h2
    | od _ _ => cases h2
    | lk _ => cases h2
  · obtain ⟨s, h, q⟩ := keyo j _ e
    rcases q with rfl | ⟨_, _, _, q, _⟩
    · exact g.atb j h
    · cases q
theorem evA_len : ∀ {es : Es} {ρ ρ' : Env} {bs : List B}, evA es ρ = .ok bs ρ' → bs.length = es.len
  | .nil, _, _, _, h => by unfold evA at h; cases h; rfl
  | .cons e es, ρ, ρ', bs, h => by
    unfold evA at h
    cases h1 : evE e ρ with
    | no => rw [h1] at h; cases h
    | ex x ρ1 => rw [h1] at h; cases h
    | ok b ρ1 =>
      rw [h1] at h
      have h : (evA es ρ1).bind (fun bs ρ2 => .ok (b :: bs) ρ2) = .ok bs ρ' := h
      cases h2 : evA es ρ1 with
      | no => rw [h2] at h; cases h
      | ex x ρ1 => rw [h2] at h; cases h
      | ok bs2 ρ2 =>
        rw [h2] at h
        cases h
        have := evA_len h2
        simp [Es.len, this]
/-- a call: from the callee's promise -/
theorem call_go {g : Fn} {es : Es} {n : Nat} {Q : VK} {E : XK} (hE : ∀ C d H, c.E C d H → E C d H) (h : tEv K c (.call g es) σ H Q) (hl : es.len = n) : tEvA K c es σ H fun vs H1 => spF K c.CL g n (vs ++ []) H1 Q E := by
  obtain ⟨F, ρ, R, P⟩ := h
  unfold evE at P
  refine ⟨F, ρ, R, ?_⟩
  cases hr : evA es ρ with
  | no => rw [hr] at P; exact P
  | ex x ρ' => rw [hr] at P; exact P
  | ok bs ρ1 =>
    rw [hr] at P
    intro F1 H1 R1 g1 vs hb
    have P1 : PostR K c σ F ρ H (if noTwice bs then match args ρ1 bs with
      | none => .no
      | some ss => match g ss with
        | .no => .no
        | .ok r o => .ok r.b (back ρ1 bs o)
        | .ex x o => .ex x (back ρ1 bs o) else .no) (OkB K c σ H Q) := P
    rw [List.append_nil]
    refine ⟨by rw [hb.length, evA_len hr, hl], ?_⟩
    split at P1
    · rename_i hn
      split at P1
      · exact P1.elim
      · rename_i ss ha
        refine ⟨F1, ss, args_ok R g1 R1 hb ha hn, ?_⟩
        cases hg : g ss with
        | no => rw [hg] at P1; exact P1.elim
        | ok r o =>
          rw [hg] at P1
          intro F' v H' fg or rd
          obtain ⟨R2, g2⟩ := back_ok R g1 R1 hb ha hn fg or
          refine P1 F' H' R2 g2 v ?_
          cases r with
          | d x => exact rd
          | nw xs =>
            obtain ⟨a, us, q1, q2, q3, q4, q5⟩ := rd
            exact ⟨a, us, q1, q2, q3, q4, g1.new_of q5⟩
        | ex x o =>
          rw [hg] at P1
          intro F' H' C d fg or nw xd
          obtain ⟨R2, g2⟩ := back_ok R g1 R1 hb ha hn fg or
          exact hE _ _ _ (P1 F' H' C d R2 g2 (nw.back g1.grow) xd)
    · exact P1.elim
theorem e_call {X : Cx} {c : Ctx} {x : Expr} {g : Fn} {es : Es} {n : Nat} {E : XK} (h : PE X x (tCall (spF X.K c.CL g n) [] E (tEvA X.K c es))) (hl : es.len = n) (hE : ∀ C d H, c.E C d H → E C d H) : PEv X c x (.call g es) := PE.wk h fun _ _ _ q => call_go hE q hl
end
end Ev
namespace Ev
open PySem L2
section
variable {α β : Type} {K : PySem.W.Frag} {c : Ctx} {F F1 F2 F' H H1 H2 H' : Hp} {ρ ρ1 ρ2 ρ' : Env} {σ σ1 σ2 σ' : St} {v : V} {b : B} {vs : List V} {bs : List B}
/-! ### a variable is bound -/
theorem Env.bnd_cases {i : Nat} {s : Slot} (h : ρ.bnd i s = some ρ') : i < ρ.v.length ∧ ρ'.v = ρ.v.set i s ∧
    ((ρ'.o = ρ.o ∧ ρ.o[i]? ≠ some .att) ∨ ∃ xs, ρ.v[i]? = some (.ow xs) ∧ ρ.o[i]? = some .att ∧ ρ'.o = ρ.o.set i (.ow xs)) := by
  unfold Env.bnd at h
  split at h
  · cases h
  · rename_i xs h1 h2
    cases h
    exact ⟨lt_of_get h1, rfl, .inr ⟨xs, h1, h2, rfl⟩⟩
  · cases h
  · rename_i s0 h1 h3 h4
    cases h
    exact ⟨lt_of_get h1, rfl, .inl ⟨rfl, fun z => by
      first
        | exact h4 z
        | exact h3 z
        | (cases s0 <;> simp_all)⟩⟩
theorem Rel.bnd (R : Rel K c F ρ σ H) {i : Nat} {s : Slot} {w : V} (h : ρ.bnd i s = some ρ') (hs : SlotOk K c F H s (some (some w))) (hk : ∀ xs, s ≠ .lk xs)
    (fresh : ∀ (a : Addr) (k : Nat) (t : Slot), s.held = true → w = .ref a → (sl ρ)[k]? = some t → t.held = true → (vl c σ)[k]? ≠ some (some (.ref a))) :
    Rel K c F ρ' (σ.set i (some w)) H ∧ (∀ a, own c ρ' (σ.set i (some w)) a → own c ρ σ a ∨ (s.held = true ∧ w = .ref a)) ∧
    (∀ (k : Nat) (xs : List D), ρ'.v[k]? = some (.lk xs) → ρ.v[k]? = some (.lk xs) ∧ (σ.set i (some w))[k]? = σ[k]?) ∧
    (∀ (j : Nat) (t : Slot), ρ.o[j]? = some t → t.told = true → ∃ t', ρ'.o[j]? = some t' ∧ t'.told = true) ∧
    (∀ (k : Nat) (t : Slot) (a : Addr), (sl ρ')[k]? = some t → t.held = true → (vl c (σ.set i (some w)))[k]? = some (some (.ref a)) → (∃ (k' : Nat) (t' : Slot), (sl ρ)[k']? = some t' ∧ t'.held = true ∧ (vl c σ)[k']? = some (some (V.ref a))) ∨ (s.held = true ∧ w = .ref a)) ∧
    (∀ j : Nat, ρ'.o[j]? = some .att → ρ.o[j]? = some .att) := by
  obtain ⟨il, ev, eo⟩ := Env.bnd_cases h
  have iσ : i < σ.length := by rw [← R.len]; exact il
  have vlen : ρ'.v.length = ρ.v.length := by rw [ev, List.length_set]
  have olen : ρ'.o.length = ρ.o.length := by
    rcases eo with ⟨eo, _⟩ | ⟨xs, _, _, eo⟩
    · rw [eo]
    · rw [eo, List.length_set]
  have gv : ∀ k, k < ρ.v.length → (sl ρ')[k]? = if i = k then some s else (sl ρ)[k]? := fun k kl => by
    rw [sl_v (by rw [vlen]; exact kl), ev, List.getElem?_set, sl_v kl]
    by_cases q : i = k
    · rw [if_pos q, if_pos q, if_pos il]
    · rw [if_neg q, if_neg q]
  have wv : ∀ k, (vl c (σ.set i (some w)))[k]? = if i = k then some (some w) else (vl c σ)[k]? := fun k => by
    rw [vl_set iσ, List.getElem?_set]
    have : i < (vl c σ).length := by unfold vl; rw [List.length_append]; omega
    by_cases q : i = k
    · rw [if_pos q, if_pos q, if_pos this]
    · rw [if_neg q, if_neg q]
  -- each place: the new one, one as it was, or the parameter's list moved
  have key : ∀ (k : Nat) (t : Slot), (sl ρ')[k]? = some t → (k = i ∧ t = s) ∨ (k ≠ i ∧ (sl ρ)[k]? = some t) ∨
      (k ≠ i ∧ k = ρ.v.length + i ∧ ∃ xs, t = .ow xs ∧ (sl ρ)[i]? = some (.ow xs) ∧ (vl c σ)[k]? = (vl c σ)[i]?) := by
    intro k t e
    by_cases kl : k < ρ.v.length
    · rw [gv k kl] at e
      by_cases q : i = k
      · rw [if_pos q] at e; cases e; exact .inl ⟨q.symm, rfl⟩
      · rw [if_neg q] at e; exact .inr (.inl ⟨fun z => q z.symm, e⟩)
    · have ki : k ≠ i := by omega
      have ek : k = ρ.v.length + (k - ρ.v.length) := by omega
      have e2 : ρ'.o[k - ρ.v.length]? = some t := by
        have : (sl ρ')[ρ'.v.length + (k - ρ.v.length)]? = some t := by rw [vlen, ← ek]; exact e
        rwa [sl_o] at this
      rcases eo with ⟨eo, _⟩ | ⟨xs, h1, h2, eo⟩
      · rw [eo] at e2
        exact .inr (.inl ⟨ki, by rw [ek, sl_o]; exact e2⟩)
      · rw [eo, List.getElem?_set] at e2
        by_cases q : i = k - ρ.v.length
        · rw [if_pos q, if_pos (lt_of_get h2)] at e2
          cases e2
          refine .inr (.inr ⟨ki, by omega, xs, rfl, by rw [sl_v il]; exact h1, ?_⟩)
          obtain ⟨v, t, g1, g2, _⟩ := R.att i h2
          rw [ek, vl_o R, ← q, g2, vl_v iσ, g1]
          rfl
        · rw [if_neg q] at e2
          exact .inr (.inl ⟨ki, by rw [ek, sl_o]; exact e2⟩)
  refine ⟨⟨by rw [vlen, List.length_set]; exact R.len, by rw [olen]; exact R.lenO, R.ex, fun k t e => ?_, fun k k' t t' a e e' hh hh' q q' => ?_, fun j e => ?_, fun j xs e => ?_, fun j d a e1 e2 => ?_, R.tb, R.tn⟩, fun a q => q.elim (fun ⟨k, xs, e, q⟩ => ?_) fun h => h.elim (fun h => .inl (.inr (.inl h))) fun ⟨k, ks, xs, e, q⟩ => (by
    rw [wv] at q
    rcases key k _ e with ⟨rfl, rfl⟩ | ⟨n, e⟩ | ⟨n, ek, ys, z, e, r⟩
    · rw [if_pos rfl] at q
      cases q
      exact .inr ⟨rfl, rfl⟩
    · rw [if_neg fun z => n z.symm] at q
      exact .inl (.inr (.inr ⟨k, ks, xs, e, q⟩))
    · cases z), fun k xs e => ?_, fun j t e ht => ?_, fun k t a e hh q => ?_, fun j e => ?_⟩
  · rw [wv]
    rcases key k t e with ⟨rfl, rfl⟩ | ⟨n, e⟩ | ⟨n, ek, xs, rfl, e, q⟩
    · rw [if_pos rfl]; exact hs
    · rw [if_neg fun z => n z.symm]; exact R.ok k t e
    · rw [if_neg fun z => n z.symm, q]; exact R.ok i _ e
  · -- apart: by the old places
    rw [wv] at q q'
    rcases key k t e with ⟨rfl, rfl⟩ | ⟨n, e⟩ | ⟨n, ek, xs, rfl, e, r⟩
    · rw [if_pos rfl] at q
      cases q
      rcases key k' t' e' with ⟨rfl, rfl⟩ | ⟨n', e'⟩ | ⟨n', ek', ys, rfl, e', r'⟩
      · rfl
      · rw [if_neg fun z => n' z.symm] at q'
        exact absurd q' (fresh a k' t' hh rfl e' hh')
      · rw [if_neg fun z => n' z.symm, r'] at q'
        exact absurd q' (fresh a k _ hh rfl e' rfl)
    · rw [if_neg fun z => n z.symm] at q
      rcases key k' t' e' with ⟨rfl, rfl⟩ | ⟨n', e'⟩ | ⟨n', ek', ys, rfl, e', r'⟩
      · rw [if_pos rfl] at q'
        cases q'
        exact absurd q (fresh a k t hh' rfl e hh)
      · rw [if_neg fun z => n' z.symm] at q'
        exact R.apart k k' t t' a e e' hh hh' q q'
      · rw [if_neg fun z => n' z.symm, r'] at q'
        exact absurd (R.apart k i t _ a e e' hh rfl q q') n
    · rw [if_neg fun z => n z.symm, r] at q
      rcases key k' t' e' with ⟨rfl, rfl⟩ | ⟨n', e'⟩ | ⟨n', ek', ys, rfl, e', r'⟩
      · rw [if_pos rfl] at q'
        cases q'
        exact absurd q (fresh a k' _ hh' rfl e rfl)
      · rw [if_neg fun z => n' z.symm] at q'
        exact absurd (R.apart i k' _ t' a e e' rfl hh' q q').symm n'
      · omega
  · have ji : j ≠ i := by
      intro z
      subst z
      rcases eo with ⟨eo, n⟩ | ⟨xs, h1, h2, eo⟩
      · rw [eo] at e; exact n e
      · rw [eo, List.getElem?_set_self (lt_of_get h2)] at e; cases e
    have e' : ρ.o[j]? = some .att := by
      rcases eo with ⟨eo, n⟩ | ⟨xs, h1, h2, eo⟩
      · rw [eo] at e; exact e
      · rw [eo, List.getElem?_set_ne (fun z => ji z.symm)] at e; exact e
    obtain ⟨v, t, g1, g2, g3, g4⟩ := R.att j e'
    exact ⟨v, t, by rw [List.getElem?_set_ne (fun z => ji z.symm)]; exact g1, g2, by rw [ev, List.getElem?_set_ne (fun z => ji z.symm)]; exact g3, g4⟩
  · rcases eo with ⟨eo, n⟩ | ⟨ys, h1, h2, eo⟩
    · rw [eo] at e; exact R.noLk j xs e
    · rw [eo, List.getElem?_set] at e
      split at e
      · first | (cases e; done) | (split at e <;> cases e)
      · exact R.noLk j xs e
  · rcases eo with ⟨eo, n⟩ | ⟨ys, h1, h2, eo⟩
    · rw [eo] at e1; exact R.fz j d a e1 e2
    · rw [eo, List.getElem?_set] at e1
      split at e1
      · first | (cases e1; done) | (split at e1 <;> cases e1)
      · exact R.fz j d a e1 e2
  · rw [wv] at q
    rcases key k _ e with ⟨rfl, rfl⟩ | ⟨n, e⟩ | ⟨n, ek, ys, hy, e, r⟩
    · rw [if_pos rfl] at q
      cases q
      exact .inr ⟨rfl, rfl⟩
    · rw [if_neg fun z => n z.symm] at q
      exact .inl (.inl ⟨k, xs, e, q⟩)
    · rw [if_neg fun z => n z.symm, r] at q
      exact .inl (.inl ⟨i, ys, e, q⟩)
  · rw [ev, List.getElem?_set] at e
    by_cases q : i = k
    · rw [if_pos q, if_pos il] at e
      cases e
      exact absurd rfl (hk xs)
    · rw [if_neg q] at e
      exact ⟨e, List.getElem?_set_ne q⟩
  · rcases eo with ⟨eo, n⟩ | ⟨ys, h1, h2, eo⟩
    · rw [eo]; exact ⟨t, e, ht⟩
    · rw [eo, List.getElem?_set]
      by_cases q : i = j
      · subst q
        exact ⟨_, by rw [if_pos rfl, if_pos (lt_of_get h2)], rfl⟩
      · exact ⟨t, by rw [if_neg q]; exact e, ht⟩
  · rw [wv] at q
    rcases key k t e with ⟨rfl, rfl⟩ | ⟨n, e⟩ | ⟨n, ek, ys, rfl, e, r⟩
    · rw [if_pos rfl] at q
      cases q
      exact .inr ⟨hh, rfl⟩
    · rw [if_neg fun z => n z.symm] at q
      exact .inl ⟨k, t, e, hh, q⟩
    · rw [if_neg fun z => n z.symm, r] at q
      exact .inl ⟨i, _, e, rfl, q⟩
  · rcases eo with ⟨eo, n⟩ | ⟨ys, h1, h2, eo⟩
    · rw [eo] at e; exact e
    · rw [eo, List.getElem?_set] at e
      by_cases q : i = j
      · subst q; exact h2
      · rw [if_neg q] at e; exact e
/-- data is bound -/
theorem Rel.bndSh (R : Rel K c F ρ σ H) {i : Nat} {d : D} {w : V} (h : ρ.bnd i (.sh d) = some ρ') (hd : Den K c.CL F w d) : Rel K c F ρ' (σ.set i (some w)) H ∧ Go K c F ρ σ H F ρ' (σ.set i (some w)) H := by
  obtain ⟨R', o, l, t, _, ab⟩ := R.bnd h ⟨w, rfl, hd⟩ (fun _ z => nomatch z) fun _ _ _ z => nomatch z
  refine ⟨R', ⟨Ex.refl _, fun _ _ h _ => h, fun _ h _ _ => h, fun a q => ?_, l, fun _ h => h, t, ab⟩⟩
  rcases o a q with q | ⟨z, _⟩
  · exact .inl q
  · cases z
/-- a new list is bound -/
theorem Rel.bndOw (R0 : Rel K c F ρ σ H) (g : GoE K c σ F ρ H F1 ρ1 H1) (R : Rel K c F1 ρ1 σ H1) {i : Nat} {xs : List D} (hb : BDen K c σ H F1 ρ1 H1 v (.nw xs)) (h : ρ1.bnd i (.ow xs) = some ρ') : Rel K c F1 ρ' (σ.set i (some v)) H1 ∧ Go K c F ρ σ H F1 ρ' (σ.set i (some v)) H1 := by
  obtain ⟨a, vs, rfl, h1, h2, h3, h4⟩ := hb
  obtain ⟨R', o, l, t, _, ab⟩ := R.bnd h ⟨a, vs, rfl, h1, h2, h3⟩ (fun _ z => nomatch z) fun b k t _ e q hh w => by
    cases e
    exact held_old R0 g R q hh w h4
  refine ⟨R', ⟨g.f, g.keep, g.fr, fun b q => ?_, fun k ys e => ?_, g.grow, fun j s e hs => ?_, fun j e => g.atb j (ab j e)⟩⟩
  · rcases o b q with q | ⟨_, z⟩
    · exact .inl (g.ow b q)
    · cases z; exact .inr h4
  · obtain ⟨q1, q2⟩ := l k ys e
    exact ⟨g.lk k ys q1, q2⟩
  · obtain ⟨s', q1, q2⟩ := g.tell j s e hs
    exact t j s' q1 q2
/-! ### what is wanted behind a statement -/
def PostS (K : PySem.W.Frag) (c : Ctx) (F : Hp) (ρ : Env) (σ : St) (H : Hp) (r : Res Flow) (D : Ends) : Prop :=
  match r with
  | .no => False
  | .ok .nx ρ' => ∀ F' σ' H', Rel K c F' ρ' σ' H' → Go K c F ρ σ H F' ρ' σ' H' → D.nx σ' H'
  | .ok .brk ρ' => ∀ F' σ' H', Rel K c F' ρ' σ' H' → Go K c F ρ σ H F' ρ' σ' H' → D.bk σ' H'
  | .ok (.rt b) ρ' => ∀ F' σ' H' v, Rel K c F' ρ' σ' H' → Go K c F ρ σ H F' ρ' σ' H' → BDen K c σ' H F' ρ' H' v b → D.rt v H'
  | .ex x ρ' => ∀ F' σ' H' C d, Rel K c F' ρ' σ' H' → Go K c F ρ σ H F' ρ' σ' H' → Nw H d → XDen K c F' H' x C d → c.E C d H'
theorem PostS.rebase {r : Res Flow} {D : Ends} (g : Go K c F ρ σ H F1 ρ1 σ1 H1) (h : PostS K c F ρ σ H r D) : PostS K c F1 ρ1 σ1 H1 r D := by
  match r, h with
  | .no, h => exact h
  | .ok .nx ρ', h => exact fun F' σ' H' R g' => h F' σ' H' R (g.trans g')
  | .ok .brk ρ', h => exact fun F' σ' H' R g' => h F' σ' H' R (g.trans g')
  | .ok (.rt b) ρ', h => exact fun F' σ' H' v R g' q => h F' σ' H' v R (g.trans g') (q.back g.grow)
  | .ex x ρ', h => exact fun F' σ' H' C d R g' n q => h F' σ' H' C d R (g.trans g') (n.back g.grow) q
def tEvS (K : PySem.W.Frag) (c : Ctx) (s : S) : TS := fun D σ H => ∃ F ρ, Rel K c F ρ σ H ∧ PostS K c F ρ σ H (evS s ρ) D
def tEvSs (K : PySem.W.Frag) (c : Ctx) (s : Ss) : TS := fun D σ H => ∃ F ρ, Rel K c F ρ σ H ∧ PostS K c F ρ σ H (evSs s ρ) D
abbrev PSv (X : Cx) (c : Ctx) (x : Stmt) (s : S) : Prop := PS X x (tEvS X.K c s)
abbrev PSsv (X : Cx) (c : Ctx) (xs : List Stmt) (s : Ss) : Prop := PSs X xs (tEvSs X.K c s)
/-- a statement that begins with the evaluation of an expression -/
theorem PostS.bind {r : Res α} {f : α → Env → Res Flow} {D : Ends} (h : PostS K c F ρ σ H (r.bind f) D) : PostR K c σ F ρ H r fun F1 ρ1 H1 a => PostS K c F ρ σ H (f a ρ1) D := by
  cases r with
  | no => exact h
  | ok a ρ' => exact fun _ _ _ _ => h
  | ex x ρ' => exact fun F' H' C d R g n q => h F' σ H' C d R g.go n q
theorem sEv_bind {e : E} {f : B → Env → Res Flow} {D : Ends} {Q : VK} (R : Rel K c F ρ σ H) (P : PostS K c F ρ σ H ((evE e ρ).bind f) D)
    (k : ∀ F1 ρ1 H1 b v, Rel K c F1 ρ1 σ H1 → GoE K c σ F ρ H F1 ρ1 H1 → BDen K c σ H F1 ρ1 H1 v b → PostS K c F ρ σ H (f b ρ1) D → Q v H1) : tEv K c e σ H Q :=
  ⟨F, ρ, R, P.bind.imp fun F1 ρ1 H1 b R1 g q v hb => k F1 ρ1 H1 b v R1 g hb q⟩
theorem sEvT_bind {t : T} {f : Bool → Env → Res Flow} {D : Ends} {Q : Bool → Hp → Prop} (R : Rel K c F ρ σ H) (P : PostS K c F ρ σ H ((evT t ρ).bind f) D)
    (k : ∀ F1 ρ1 H1 b, Rel K c F1 ρ1 σ H1 → GoE K c σ F ρ H F1 ρ1 H1 → PostS K c F ρ σ H (f b ρ1) D → Q b H1) : tEvT K c t σ H Q :=
  ⟨F, ρ, R, P.bind.imp fun F1 ρ1 H1 b R1 g q => k F1 ρ1 H1 b R1 g q⟩
theorem ss_nil {X : Cx} {c : Ctx} : PSsv X c [] .nil := PSs.wk pss_nil fun D σ H ⟨F, ρ, R, P⟩ => by
  unfold evSs at P
  exact P F σ H R (Go.refl ..)
theorem seq_go {s : S} {ss : Ss} {D : Ends} (h : tEvSs K c (.cons s ss) D σ H) : tSeq (tEvS K c s) (tEvSs K c ss) D σ H := by
  obtain ⟨F, ρ, R, P⟩ := h
  unfold evSs at P
  refine ⟨F, ρ, R, ?_⟩
  match hr : evS s ρ, P with
  | .no, P => exact P
  | .ex x ρ', P => exact P
  | .ok .nx ρ', P => exact fun F' σ' H' R' g => ⟨F', ρ', R', PostS.rebase g P⟩
  | .ok .brk ρ', P => exact P
  | .ok (.rt b) ρ', P => exact P
theorem ss_cons {X : Cx} {c : Ctx} {x : Stmt} {xs : List Stmt} {s : S} {ss : Ss} (h : PSv X c x s) (t : PSsv X c xs ss) : PSsv X c (x :: xs) (.cons s ss) := PSs.wk (pss_cons h t) fun _ _ _ q => seq_go q
/-! ### the statements -/
theorem s_ex {X : Cx} {c : Ctx} {x : Stmt} {e : E} {te : TE} (h : PS X x (tDrop te)) (w : ∀ σ H Q, tEv X.K c e σ H Q → te σ H Q) : PSv X c x (.ex e) := PS.wk h fun D σ H ⟨F, ρ, R, P⟩ => by
  unfold evS at P
  exact w _ _ _ (sEv_bind R P fun F1 ρ1 H1 b v R1 g1 hb P1 => P1 F1 σ H1 R1 g1.go)
theorem s_ret {X : Cx} {c : Ctx} {x : Expr} {pos : Pos} {e : E} (h : PEv X c x e) : PSv X c (.Return (some x) pos) (.ret e) := PS.wk (ps_ret h) fun D σ H ⟨F, ρ, R, P⟩ => by
  unfold evS at P
  exact sEv_bind R P fun F1 ρ1 H1 b v R1 g1 hb P1 => P1 F1 σ H1 v R1 g1.go hb
theorem s_never {X : Cx} {c : Ctx} {x : Stmt} : PSv X c x .never := PS.wk ps_never fun D σ H ⟨F, ρ, R, P⟩ => by
  unfold evS at P
  exact P
theorem s_ite {X : Cx} {c : Ctx} {x : Expr} {xs ys : List Stmt} {pos : Pos} {t : T} {a b : Ss} (h : PTv X c x t) (ha : PSsv X c xs a) (hb : PSsv X c ys b) : PSv X c (.If x xs ys pos) (.ite t a b) := PS.wk (ps_if h ha hb) fun D σ H ⟨F, ρ, R, P⟩ => by
  unfold evS at P
  refine sEvT_bind R P fun F1 ρ1 H1 k R1 g1 P1 => ?_
  cases k with
  | true =>
    rw [if_pos rfl]
    rw [if_pos rfl] at P1
    exact ⟨F1, ρ1, R1, P1.rebase g1.go⟩
  | false =>
    rw [if_neg (by decide)]
    rw [if_neg (by decide)] at P1
    exact ⟨F1, ρ1, R1, P1.rebase g1.go⟩
/-- a value is bound to a name -/
theorem stab_ok (R0 : Rel K c F ρ σ H) (g : GoE K c σ F ρ H F1 ρ1 H1) (R : Rel K c F1 ρ1 σ H1) (h : BDen K c σ H F1 ρ1 H1 v b) {b' : B} (e : b.stab ρ1 = some (b', ρ2)) :
    ∃ F2, Rel K c F2 ρ2 σ H1 ∧ GoE K c σ F ρ H F2 ρ2 H1 ∧ GoE K c σ F1 ρ1 H1 F2 ρ2 H1 ∧ BDen K c σ H F2 ρ2 H1 v b' := by
  cases b with
  | d x => cases e; exact ⟨F1, R, g, GoE.refl .., h⟩
  | nw xs => cases e; exact ⟨F1, R, g, GoE.refl .., h⟩
  | loc i =>
    obtain ⟨s, h1, h2, h3⟩ := h
    unfold B.stab B.keep at e
    simp only [h1] at e
    have ok := R.slot h1
    rw [h3] at ok
    cases s with
    | un => cases e
    | od _ _ => cases e
    | att => cases e
    | lk xs => cases e
    | sh x =>
      cases e
      obtain ⟨u, e1, q⟩ := ok
      cases e1
      exact ⟨F1, R, g, GoE.refl .., q⟩
    | ow xs =>
      cases e
      obtain ⟨a, us, F2, w, _, R2, g2, q⟩ := R.frz h1
      rw [h3] at w
      cases w
      exact ⟨F2, R2, g.trans g2, g2, q⟩
theorem bindB_ok (R0 : Rel K c F ρ σ H) (g : GoE K c σ F ρ H F1 ρ1 H1) (R : Rel K c F1 ρ1 σ H1) (h : BDen K c σ H F1 ρ1 H1 v b) {i : Nat} (e : bindB ρ1 i b = some ρ2) :
    Rel K c F1 ρ2 (σ.set i (some v)) H1 ∧ Go K c F ρ σ H F1 ρ2 (σ.set i (some v)) H1 := by
  cases b with
  | d x => obtain ⟨R', g'⟩ := R.bndSh e h; exact ⟨R', g.go.trans g'⟩
  | nw xs => exact Rel.bndOw R0 g R h e
  | loc i => cases e
theorem s_asg {X : Cx} {c : Ctx} {x : Stmt} {i : Nat} {e : E} {te : TE} (h : PS X x (tAsg te (gName i))) (w : ∀ σ H Q, tEv X.K c e σ H Q → te σ H Q) : PSv X c x (.asg (.n i) e) := PS.wk h fun D σ H ⟨F, ρ, R, P⟩ => by
  unfold evS at P
  refine w _ _ _ (sEv_bind R P fun F1 ρ1 H1 b v R1 g1 hb P1 => ?_)
  split at P1
  · exact P1.elim
  · rename_i b' ρ2 e1
    obtain ⟨F2, R2, g2, _, hb2⟩ := stab_ok R g1 R1 hb e1
    split at P1
    · exact P1.elim
    · rename_i ρ3 e2
      obtain ⟨R3, g3⟩ := bindB_ok R g2 R2 hb2 e2
      exact P1 F2 _ H1 R3 g3
theorem stab_nw {xs : List D} (e : b.stab ρ = some (.nw xs, ρ')) : b = .nw xs := by
  cases b with
  | d x => cases e
  | nw ys => cases e; rfl
  | loc i =>
    exfalso
    unfold B.stab at e
    split at e
    · simp at e
    · rename_i h; cases h
    · split at e <;> simp at e
/-- a, b = x, y -/
theorem s_par {X : Cx} {c : Ctx} {x : Stmt} {i j : Nat} {a b : E} (hij : i ≠ j) (h : PS X x (tPar i j (tCons (tEv X.K c a) (tCons (tEv X.K c b) tNil)))) : PSv X c x (.par i j a b) := PS.wk h fun D σ H ⟨F, ρ, R, P⟩ => by
  unfold evS at P
  refine sEv_bind R P fun F1 ρ1 H1 b1 v1 R1 g1 hb1 P1 => ?_
  refine ⟨F1, ρ1, R1, (P1.bind.rebase g1).imp fun F2 ρ2 H2 b2 R2 g2 q2 v2 hb2 => ?_⟩
  obtain ⟨g02, P2⟩ := q2
  have s1 := hb1.stay R g1 g2
  refine ⟨v1, v2, rfl, ?_⟩
  split at P2
  · exact P2.elim
  · rename_i b1' ρ3 e1
    obtain ⟨F3, R3, g3, g23, hb1'⟩ := stab_ok R g02 R2 s1 e1
    have hb2' := (hb2.back g1.grow).stay R g02 g23
    split at P2
    · exact P2.elim
    · rename_i b2' ρ4 e2
      obtain ⟨F4, R4, g4, g34, hb2'⟩ := stab_ok R g3 R3 hb2' e2
      have hb1'' := hb1'.stay R g3 g34
      split at P2
      · exact P2.elim
      · rename_i ρ5 e3
        obtain ⟨R5, g5⟩ := bindB_ok R g4 R4 hb1'' e3
        split at P2
        · exact P2.elim
        · rename_i ρ6 e4
          -- the second one: its value is as it was
          cases b2' with
          | d y =>
            obtain ⟨R6, g6⟩ := R5.bndSh e4 hb2'
            exact P2 F4 _ H2 R6 (g5.trans g6)
          | loc k => cases e4
          | nw ys =>
            obtain ⟨q, us, rfl, h1, h2, h3, h4⟩ := hb2'
            -- not the first one, not an elder one
            have old : ∀ (k : Nat) (t : Slot), (sl ρ5)[k]? = some t → t.held = true → (vl c (σ.set i (some v1)))[k]? ≠ some (some (.ref q)) := fun k t e hh w => by
              have n4 : ∀ (k : Nat) (t : Slot), (sl ρ4)[k]? = some t → t.held = true → (vl c σ)[k]? ≠ some (some (.ref q)) := fun k t e hh w => held_old R g4 R4 e hh w h4
              cases b1' with
              | loc k => cases e3
              | d x =>
                obtain ⟨_, _, _, _, hh5, _⟩ := R4.bnd e3 ⟨v1, rfl, hb1''⟩ (fun _ z => nomatch z) fun _ _ _ z => nomatch z
                rcases hh5 k t q e hh w with ⟨k', t', a1, a2, a3⟩ | ⟨z, _⟩
                · exact n4 k' t' a1 a2 a3
                · cases z
              | nw xs =>
                obtain ⟨a1, us1, rfl, p1, p2, p3, p4⟩ := hb1''
                obtain ⟨_, _, _, _, hh5, _⟩ := R4.bnd e3 ⟨a1, us1, rfl, p1, p2, p3⟩ (fun _ z => nomatch z) fun b k t _ e q hh w => by
                  cases e
                  exact held_old R g4 R4 q hh w p4
                rcases hh5 k t q e hh w with ⟨k', t', a1, a2, a3⟩ | ⟨_, z⟩
                · exact n4 k' t' a1 a2 a3
                · cases z
                  -- both were made by stab of new ones
                  have eb2 : b2 = .nw ys := stab_nw e2
                  have eb1 : b1 = .nw xs := stab_nw e1
                  subst eb2; subst eb1
                  obtain ⟨_, _, z1, z2, _⟩ := hb1
                  cases z1
                  obtain ⟨_, _, z3, _, _, _, z4⟩ := hb2
                  cases z3
                  rw [z2] at z4
                  cases z4
            obtain ⟨R6, o, l, t, _, ab⟩ := R5.bnd e4 ⟨q, us, rfl, h1, h2, h3⟩ (fun _ z => nomatch z) fun a k t _ e w hh z => by
              cases e
              exact old k t w hh z
            refine P2 F4 _ H2 R6 ⟨g5.f, g5.keep, g5.fr, fun b w => ?_, fun k zs e => ?_, g5.grow, fun j s e hs => ?_, fun j e => g5.atb j (ab j e)⟩
            · rcases o b w with w | ⟨_, z⟩
              · exact g5.ow b w
              · cases z; exact .inr h4
            · obtain ⟨q1, q2⟩ := l k zs e
              obtain ⟨q3, q4⟩ := g5.lk k zs q1
              exact ⟨q3, q2.trans q4⟩
            · obtain ⟨s', q1, q2⟩ := g5.tell j s e hs
              exact t j s' q1 q2
end
end Ev
namespace Ev
open PySem L2
section
variable {α β : Type} {K : PySem.W.Frag} {c : Ctx} {F F1 F2 F' H H1 H2 H' : Hp} {ρ ρ0 ρ1 ρ2 ρ' : Env} {σ σ1 σ2 σ' : St} {v : V} {b : B} {vs : List V} {bs : List B} {ds items : List D} {is : List Nat}
/-! ### locks -/
theorem hasLoc_of : ∀ {bs : List B} {i : Nat}, B.loc i ∈ bs → hasLoc i bs = true
  | .d x :: bs, i, h => by
    unfold hasLoc
    rcases List.mem_cons.mp h with e | h
    · cases e
    · exact hasLoc_of h
  | .nw x :: bs, i, h => by
    unfold hasLoc
    rcases List.mem_cons.mp h with e | h
    · cases e
    · exact hasLoc_of h
  | .loc j :: bs, i, h => by
    unfold hasLoc
    rcases List.mem_cons.mp h with e | h
    · cases e; simp
    · rw [hasLoc_of h]; simp
theorem locks_v (k : Nat) : (locks ρ bs).v[k]? = ρ.v[k]?.map fun s => lock1 s (hasLoc k bs) := by
  show (mapI _ 0 ρ.v)[k]? = _
  rw [mapI_get]; simp
theorem locks_len : (locks ρ bs).v.length = ρ.v.length := mapI_length ..
theorem lock1_held {s : Slot} {k : Bool} : (lock1 s k).held = s.held := by
  cases s <;> cases k <;> rfl
theorem lock1_ok {s : Slot} {k : Bool} {w : Option (Option V)} : SlotOk K c F H (lock1 s k) w ↔ SlotOk K c F H s w := by
  cases s <;> cases k <;> exact Iff.rfl
theorem unlocks_v (k : Nat) : (unlocks ρ0 ρ bs).v[k]? = ρ.v[k]?.map fun s => unlock1 s ρ0.v[k]? (hasLoc k bs) := by
  show (mapI _ 0 ρ.v)[k]? = _
  rw [mapI_get]; simp
theorem unlocks_len : (unlocks ρ0 ρ bs).v.length = ρ.v.length := mapI_length ..
theorem unlock1_cases {s : Slot} {t : Option Slot} {k : Bool} : unlock1 s t k = s ∨ ∃ xs ys, s = .lk xs ∧ t = some (.ow ys) ∧ k = true ∧ unlock1 s t k = .ow xs := by
  cases s with
  | lk xs =>
    cases t with
    | none => exact .inl rfl
    | some t =>
      cases t with
      | ow ys => cases k with
        | true => exact .inr ⟨xs, ys, rfl, rfl, rfl, rfl⟩
        | false => exact .inl rfl
      | _ => exact .inl rfl
  | _ => exact .inl rfl
/-- only the variables' part changes, held places stay held, and each place is right -/
theorem Rel.turnV (R : Rel K c F ρ σ H) (ho : ρ'.o = ρ.o) (hl : ρ'.v.length = ρ.v.length) (h : ∀ (k : Nat) (t : Slot), ρ'.v[k]? = some t → ∃ s, ρ.v[k]? = some s ∧ (t.held = s.held ∧ t.hl = s.hl) ∧ (SlotOk K c F H s σ[k]? → SlotOk K c F H t σ[k]?)) : Rel K c F ρ' σ H := by
  have key : ∀ (k : Nat) (t : Slot), (sl ρ')[k]? = some t → ∃ s, (sl ρ)[k]? = some s ∧ t.held = s.held ∧ (SlotOk K c F H s (vl c σ)[k]? → SlotOk K c F H t (vl c σ)[k]?) := fun k t e => by
    by_cases kl : k < ρ.v.length
    · rw [sl_v (by rw [hl]; exact kl)] at e
      obtain ⟨s, h1, h2, h3⟩ := h k t e
      refine ⟨s, by rw [sl_v kl]; exact h1, h2.1, ?_⟩
      rw [vl_v (by rw [← R.len]; exact kl)]
      exact h3
    · refine ⟨t, ?_, rfl, fun q => q⟩
      unfold sl at e ⊢
      rw [List.getElem?_append_right (by omega)] at e ⊢
      rw [ho, hl] at e
      exact e
  refine ⟨hl.trans R.len, by rw [ho]; exact R.lenO, R.ex, fun k t e => ?_, fun k k' t t' a e e' hh hh' w w' => ?_, fun j e => ?_, fun j xs => by rw [ho]; exact R.noLk j xs, fun j d a => by rw [ho]; exact R.fz j d a, R.tb, R.tn⟩
  · obtain ⟨s, h1, _, h3⟩ := key k t e
    exact h3 (R.ok k s h1)
  · obtain ⟨s, h1, h2, _⟩ := key k t e
    obtain ⟨s', h1', h2', _⟩ := key k' t' e'
    exact R.apart k k' s s' a h1 h1' (h2 ▸ hh) (h2' ▸ hh') w w'
  · obtain ⟨v, s, g1, g2, g3, g4⟩ := R.att j (by rw [← ho]; exact e)
    have jl : j < ρ'.v.length := by rw [hl]; exact lt_of_get g3
    obtain ⟨s', h1, h2, _⟩ := h j ρ'.v[j] (List.getElem?_eq_getElem jl)
    rw [g3] at h1
    cases h1
    exact ⟨v, ρ'.v[j], g1, g2, List.getElem?_eq_getElem jl, h2.2.trans g4⟩
theorem Rel.locks (R : Rel K c F ρ σ H) (bs : List B) : Rel K c F (Ev.locks ρ bs) σ H := R.turnV rfl locks_len fun k t e => by
  rw [locks_v] at e
  cases q : ρ.v[k]? with
  | none => rw [q] at e; cases e
  | some s =>
    rw [q] at e
    simp only [Option.map_some, Option.some.injEq] at e
    subst e
    exact ⟨s, rfl, ⟨lock1_held, by cases s <;> cases hasLoc k bs <;> rfl⟩, fun h => lock1_ok.mpr h⟩
theorem locks_od {k : Nat} {ks : List (List Key)} {xs : List D} (e : (sl (locks ρ bs))[k]? = some (.od ks xs)) : (sl ρ)[k]? = some (.od ks xs) := by
  by_cases kl : k < ρ.v.length
  · rw [sl_v (by rw [locks_len]; exact kl), locks_v] at e
    cases q : ρ.v[k]? with
    | none => rw [q] at e; cases e
    | some s =>
      rw [q] at e
      simp only [Option.map_some, Option.some.injEq] at e
      rw [sl_v kl, q]
      cases s with
      | od ys zs => cases h : hasLoc k bs <;> rw [h] at e <;> exact congrArg some e
      | _ => cases h : hasLoc k bs <;> rw [h] at e <;> cases e
  · unfold sl at e ⊢
    rw [List.getElem?_append_right (by omega)]
    rw [List.getElem?_append_right (by rw [locks_len]; omega), locks_len] at e
    exact e
theorem unlocks_od {ρ0 : Env} {k : Nat} {ks : List (List Key)} {xs : List D} (e : (sl (unlocks ρ0 ρ bs))[k]? = some (.od ks xs)) : (sl ρ)[k]? = some (.od ks xs) := by
  by_cases kl : k < ρ.v.length
  · rw [sl_v (by rw [unlocks_len]; exact kl), unlocks_v] at e
    cases q : ρ.v[k]? with
    | none => rw [q] at e; cases e
    | some s =>
      rw [q] at e
      simp only [Option.map_some, Option.some.injEq] at e
      rw [sl_v kl, q]
      rcases unlock1_cases (s := s) (t := ρ0.v[k]?) (k := hasLoc k bs) with z | ⟨zs, ys, rfl, z1, _, z⟩
      · rw [z] at e
        exact congrArg some e
      · rw [z] at e
        cases e
  · unfold sl at e ⊢
    rw [List.getElem?_append_right (by omega)]
    rw [List.getElem?_append_right (by rw [unlocks_len]; omega), unlocks_len] at e
    exact e
theorem own_locks {a : Addr} (R : Rel K c F ρ σ H) (h : own c (locks ρ bs) σ a) : own c ρ σ a := by
  rcases h with ⟨k, xs, e, w⟩ | h
  rotate_left
  · exact .inr (h.imp id fun ⟨k, ks, xs, e, w⟩ => ⟨k, ks, xs, locks_od e, w⟩)
  by_cases kl : k < ρ.v.length
  · rw [sl_v (by rw [locks_len]; exact kl), locks_v] at e
    cases q : ρ.v[k]? with
    | none => rw [q] at e; cases e
    | some s =>
      rw [q] at e
      simp only [Option.map_some, Option.some.injEq] at e
      cases s with
      | ow ys => exact .inl ⟨k, ys, by rw [sl_v kl]; exact q, w⟩
      | _ => cases h : hasLoc k bs <;> rw [h] at e <;> cases e
  · refine .inl ⟨k, xs, ?_, w⟩
    unfold sl at e ⊢
    rw [List.getElem?_append_right (by omega)]
    rw [List.getElem?_append_right (by rw [locks_len]; omega), locks_len] at e
    exact e
/-- what was evaluated for a loop is read alike at each turn -/
theorem views_stay (R0 : Rel K c F ρ σ H) (g : GoE K c σ F ρ H F1 ρ1 H1) (R : Rel K c F1 ρ1 σ H1) (bs0 : List B) (f : Ex F1 F2) (e2 : Ex F2 H2) (kp : ∀ a o, H1 a = some o → ¬ own c (locks ρ1 bs0) σ a → H2 a = some o) :
    ∀ {vs : List V} {bs : List B} {ds : List D}, BDens K c σ H F1 ρ1 H1 vs bs → (∀ b ∈ bs, b ∈ bs0) → Ev.views ρ1 bs = some ds → Views K c F2 H2 vs ds
  | _, _, _, .nil, _, e => by cases e; exact .nil
  | _, _, _, .cons (v := v) (b := b) (bs := bs) h t _, hm, e => by
    have RL := R.locks bs0
    unfold Ev.views at e
    split at e
    · cases e
    · rename_i d h1
      split at e
      · cases e
      · rename_i ds h2
        cases e
        refine .cons ?_ (views_stay R0 g R bs0 f e2 kp t (fun b q => hm b (List.mem_cons_of_mem _ q)) h2)
        cases b with
        | d x => cases h1; exact View.of e2 (Den.mono f _ h)
        | nw xs =>
          cases h1
          obtain ⟨a, us, rfl, q1, q2, q3, q4⟩ := h
          refine ⟨a, us, rfl, kp a _ q1 fun z => ?_, DenL.mono f _ q3⟩
          rcases own_locks R z with ⟨k, ys, z1, z2⟩ | z
          · exact held_old R0 g R z1 rfl z2 q4
          · rcases z with z | ⟨k, ks, ys, z1, z2⟩
            · exact tabs_lst R.tb q1 z
            · exact held_old R0 g R z1 rfl z2 q4
        | loc i =>
          obtain ⟨s, p1, _, p2⟩ := h
          have il := lt_of_get p1
          have ok := R.slot p1
          rw [p2] at ok
          unfold B.view at h1
          simp only [p1] at h1
          have lkd : (locks ρ1 bs0).v[i]? = some (lock1 s true) := by rw [locks_v, p1, hasLoc_of (hm _ List.mem_cons_self)]; rfl
          have nown : ∀ a, s.held = true → v = .ref a → ¬ own c (locks ρ1 bs0) σ a := fun a hh ev q => by
            subst ev
            rcases q with ⟨k, ys, z1, z2⟩ | q
            rotate_left
            · obtain ⟨b, us, e1, e2, e3, _⟩ := ok.heldAt hh
              cases e1
              rcases q with q | ⟨k, ks, ys, z1, z2⟩
              · exact tabs_own R.tb e2 e3 q
              · have : i = k := RL.apart i k (lock1 s true) (.od ks ys) a (by rw [sl_v (by rw [locks_len]; exact il)]; exact lkd) z1 (by rw [lock1_held]; exact hh) rfl (by rw [vl_v (by rw [← R.len]; exact il)]; exact p2) z2
                subst this
                rw [sl_v (by rw [locks_len]; exact il), lkd] at z1
                cases s with
                | od _ _ => cases h1
                | _ => cases z1
            have : i = k := RL.apart i k (lock1 s true) (.ow ys) a (by rw [sl_v (by rw [locks_len]; exact il)]; exact lkd) z1 (by rw [lock1_held]; exact hh) rfl (by rw [vl_v (by rw [← R.len]; exact il)]; exact p2) z2
            subst this
            rw [sl_v (by rw [locks_len]; exact il), lkd] at z1
            cases s <;> cases z1
          cases s with
          | un => cases h1
          | od _ _ => cases h1
          | att => cases h1
          | sh x => cases h1; obtain ⟨u, e1, q⟩ := ok; cases e1; exact View.of e2 (Den.mono f _ q)
          | ow xs => cases h1; obtain ⟨a, us, e1, q1, q2, q3⟩ := ok; cases e1; exact ⟨a, us, rfl, kp a _ q1 (nown a rfl rfl), DenL.mono f _ q3⟩
          | lk xs => cases h1; obtain ⟨a, us, e1, q1, q2, q3⟩ := ok; cases e1; exact ⟨a, us, rfl, kp a _ q1 (nown a rfl rfl), DenL.mono f _ q3⟩
/-- the locks are taken off -/
theorem unlock_ok (R0 : Rel K c F ρ σ H) (g : GoE K c σ F ρ H F1 ρ1 H1) (R : Rel K c F1 ρ1 σ H1) (g2 : Go K c F1 (locks ρ1 bs) σ H1 F2 ρ2 σ2 H2) (R2 : Rel K c F2 ρ2 σ2 H2) :
    Rel K c F2 (unlocks ρ1 ρ2 bs) σ2 H2 ∧ Go K c F ρ σ H F2 (unlocks ρ1 ρ2 bs) σ2 H2 ∧
    ((∀ a, own c ρ2 σ2 a → own c (locks ρ1 bs) σ a) → ∀ a, own c (unlocks ρ1 ρ2 bs) σ2 a → own c ρ σ a) := by
  have hR : Rel K c F2 (unlocks ρ1 ρ2 bs) σ2 H2 := R2.turnV rfl unlocks_len fun k t e => by
    rw [unlocks_v] at e
    cases q : ρ2.v[k]? with
    | none => rw [q] at e; cases e
    | some s =>
      rw [q] at e
      simp only [Option.map_some, Option.some.injEq] at e
      subst e
      refine ⟨s, rfl, ?_⟩
      rcases unlock1_cases (s := s) (t := ρ1.v[k]?) (k := hasLoc k bs) with z | ⟨xs, ys, rfl, _, _, z⟩
      · rw [z]; exact ⟨⟨rfl, rfl⟩, fun h => h⟩
      · rw [z]; exact ⟨⟨rfl, rfl⟩, fun h => h⟩
  -- a list of the frame's own behind it: one that was, or one whose lock was taken off
  have ho : ∀ a, own c (unlocks ρ1 ρ2 bs) σ2 a → own c ρ2 σ2 a ∨ own c ρ σ a := by
    rintro a (⟨k, xs, e, w⟩ | h)
    rotate_left
    · exact .inl (.inr (h.imp id fun ⟨k, ks, xs, e, w⟩ => ⟨k, ks, xs, unlocks_od e, w⟩))
    by_cases kl : k < ρ2.v.length
    · rw [sl_v (by rw [unlocks_len]; exact kl), unlocks_v] at e
      cases q : ρ2.v[k]? with
      | none => rw [q] at e; cases e
      | some s =>
        rw [q] at e
        simp only [Option.map_some, Option.some.injEq] at e
        rcases unlock1_cases (s := s) (t := ρ1.v[k]?) (k := hasLoc k bs) with z | ⟨zs, ys, rfl, z1, _, z⟩
        · rw [z] at e
          subst e
          exact .inl (.inl ⟨k, xs, by rw [sl_v kl]; exact q, w⟩)
        · obtain ⟨_, q2⟩ := g2.lk k zs q
          have kl1 := lt_of_get z1
          refine .inr (g.ow a (.inl ⟨k, ys, by rw [sl_v kl1]; exact z1, ?_⟩))
          rw [vl_v (by rw [← R2.len]; exact kl), q2] at w
          rw [vl_v (by rw [← R.len]; exact kl1)]
          exact w
    · refine .inl (.inl ⟨k, xs, ?_, w⟩)
      unfold sl at e ⊢
      rw [List.getElem?_append_right (by omega)]
      rw [List.getElem?_append_right (by rw [unlocks_len]; omega), unlocks_len] at e
      exact e
  refine ⟨hR, ⟨g.f.trans g2.f, fun a o e n => ?_, fun a e1 e2 n => ?_, fun a h => ?_, fun k xs e => ?_, fun a e => g2.grow a (g.grow a e), fun j s e hs => ?_, fun j e => g.atb j (g2.atb j e)⟩, fun st a h => ?_⟩
  · exact g2.keep a o (g.keep a o e n) fun z => n (g.ow a (own_locks R z))
  · exact g2.fr a (g.fr a e1 e2 n) (e2.keep fun o e => g.keep a o e n) fun z => n (g.ow a (own_locks R z))
  · rcases ho a h with h | h
    · rcases g2.ow a h with h | h
      · exact .inl (g.ow a (own_locks R h))
      · cases q : H a with
        | none => exact .inr rfl
        | some o => exact absurd h (g.grow a (by rw [q]; simp))
    · exact .inl h
  · rw [unlocks_v] at e
    cases q : ρ2.v[k]? with
    | none => rw [q] at e; cases e
    | some s =>
      rw [q] at e
      simp only [Option.map_some, Option.some.injEq] at e
      rcases unlock1_cases (s := s) (t := ρ1.v[k]?) (k := hasLoc k bs) with z | ⟨zs, ys, rfl, _, _, z⟩
      · have es : s = .lk xs := z.symm.trans e
        subst es
        obtain ⟨q1, q2⟩ := g2.lk k xs q
        refine ⟨?_, q2⟩
        rw [locks_v] at q1
        cases p : ρ1.v[k]? with
        | none => rw [p] at q1; cases q1
        | some t =>
          rw [p] at q1 z
          simp only [Option.map_some, Option.some.injEq] at q1
          cases t with
          | ow ts =>
            exfalso
            cases hl : hasLoc k bs with
            | true => rw [hl] at z; cases z
            | false => rw [hl] at q1; cases q1
          | lk ts =>
            cases hl : hasLoc k bs <;> rw [hl] at q1 <;> cases q1 <;> exact g.lk k _ p
          | un => cases q1
          | od _ _ => cases q1
          | att => cases q1
          | sh _ => cases q1
      · rw [z] at e
        cases e
  · obtain ⟨s', h1, h2⟩ := g.tell j s e hs
    exact g2.tell j s' h1 h2
  · rcases ho a h with h | h
    · exact g.ow a (own_locks R (st a h))
    · exact h
/-! ### what is walked -/
/-- the walk yields these items, one a turn, as long as what it walks stands -/
def JOk (K : PySem.W.Frag) (c : Ctx) (F0 : Hp) (vs : List V) (ds : List D) (J : It) (items : List D) : Prop := ∀ (F H : Hp) (i : Nat), Ex F0 F → Ex F H → Views K c F H vs ds →
  (∀ d, items[i]? = some d → J.go i H ∧ ∀ x H', J.yld i H x H' → ∃ F', Ex F F' ∧ Ex H H' ∧ Ex F' H' ∧ (∀ a, F a = none → Liv H a → F' a = none) ∧ Den K c.CL F' x d) ∧ (items.length ≤ i → J.stop i H)
def IterV (K : PySem.W.Frag) (c : Ctx) (r : List V → Hp → (It → Hp → Prop) → Prop) (f : List D → Option (List D)) : Prop := ∀ F H vs ds items R, Ex F H → Views K c F H vs ds → f ds = some items →
  (∀ J F' H', Ex F F' → Ex H H' → Ex F' H' → (∀ a, F a = none → Liv H a → F' a = none) → JOk K c F' vs ds J items → R J H') → r vs H R
def tIA (ta : TA) (r : List V → Hp → (It → Hp → Prop) → Prop) : TI := fun σ H R => ta σ H fun vs H1 => r vs H1 R
/-! ### targets -/
theorem bndAll_go : ∀ (is : List Nat) {ρ ρ' : Env} {σ : St} {H : Hp} {vs : List V} {ds : List D}, Rel K c F ρ σ H → DenL K c.CL F vs ds → bndAll ρ is ds = some ρ' →
    ∃ σ', Rel K c F ρ' σ' H ∧ Go K c F ρ σ H F ρ' σ' H ∧ (∀ a, own c ρ' σ' a → own c ρ σ a) ∧ σ' = (is.zip vs).foldl (fun σ p => σ.set p.1 (some p.2)) σ ∧ is.length = vs.length
  | [], ρ, ρ', σ, H, _, _, R, .nil, e => by cases e; exact ⟨σ, R, Go.refl .., fun _ h => h, rfl, rfl⟩
  | [], _, _, _, _, _, _, _, .cons _ _, e => by cases e
  | _ :: _, _, _, _, _, _, _, _, .nil, e => by cases e
  | i :: is, ρ, ρ', σ, H, v :: vs, d :: ds, R, .cons hd l, e => by
    unfold bndAll at e
    split at e
    · cases e
    · rename_i ρ1 e1
      obtain ⟨R1, g1⟩ := R.bndSh e1 hd
      obtain ⟨_, o, _⟩ := R.bnd e1 ⟨v, rfl, hd⟩ (fun _ z => nomatch z) fun _ _ _ z => nomatch z
      obtain ⟨σ', R', g', o', es, el⟩ := bndAll_go is R1 l e
      refine ⟨σ', R', g1.trans g', fun a h => ?_, by rw [es]; rfl, by simp [el]⟩
      rcases o a (o' a h) with q | ⟨z, _⟩
      · exact q
      · cases z
theorem foldl_len : ∀ (is : List Nat) {vs : List V} {σ : St}, ((is.zip vs).foldl (fun σ p => σ.set p.1 (some p.2)) σ).length = σ.length
  | [], _, _ => rfl
  | i :: is, [], _ => rfl
  | i :: is, v :: vs, σ => by
    show ((is.zip vs).foldl _ (σ.set i (some v))).length = _
    rw [foldl_len is, List.length_set]
/-- a target: what stands behind its binding -/
def tEvG (K : PySem.W.Frag) (c : Ctx) (tg : Tg) : TG := fun v σ H Q => ∃ F ρ x, Rel K c F ρ σ H ∧ Den K c.CL F v x ∧ match tg.set ρ x with
  | none => False
  | some ρ' => ∀ σ', Rel K c F ρ' σ' H → Go K c F ρ σ H F ρ' σ' H → (∀ a, own c ρ' σ' a → own c ρ σ a) → (∀ k, k ∉ tg.is → σ'[k]? = σ[k]?) → σ'.length = σ.length → Q σ' H
abbrev PGv (X : Cx) (c : Ctx) (x : Expr) (tg : Tg) : Prop := PG X x (tEvG X.K c tg)
theorem PG.wk {X : Cx} {e : Expr} {t t' : TG} (h : PG X e t) (w : ∀ v σ H Q, t' v σ H Q → t v σ H Q) : PG X e t' := ⟨fun pins s σ H v u Q I r q => h.run pins s σ H v u Q I r (w _ _ _ _ q)⟩
theorem g_name {X : Cx} {c : Ctx} {x : Expr} {i : Nat} (h : PG X x (gName i)) : PGv X c x (.n i) := PG.wk h fun v σ H Q ⟨F, ρ, d, R, hd, q⟩ => by
  cases e : (Tg.n i).set ρ d with
  | none => rw [e] at q; exact q.elim
  | some ρ' =>
    rw [e] at q
    obtain ⟨R1, g1⟩ := R.bndSh e hd
    obtain ⟨_, o, _⟩ := R.bnd e ⟨v, rfl, hd⟩ (fun _ z => nomatch z) fun _ _ _ z => nomatch z
    refine q _ R1 g1 (fun a h => ?_) (fun k hk => List.getElem?_set_ne fun z => hk (by subst z; exact List.mem_singleton.mpr rfl)) (List.length_set ..)
    rcases o a h with q | ⟨z, _⟩
    · exact q
    · cases z
def gNames : List Nat → TGs
  | [] => gNil
  | i :: is => gCons (gName i) (gNames is)
theorem gNames_go : ∀ (is : List Nat) {vs : List V} {σ : St} {H : Hp} {Q : St → Hp → Prop}, is.length = vs.length → Q ((is.zip vs).foldl (fun σ p => σ.set p.1 (some p.2)) σ) H → gNames is vs σ H Q
  | [], [], _, _, _, _, q => ⟨rfl, q⟩
  | i :: is, v :: vs, σ, H, Q, e, q => ⟨v, vs, rfl, gNames_go is (by simpa using e) q⟩
theorem foldl_ne : ∀ (is : List Nat) {vs : List V} {σ : St} {k : Nat}, k ∉ is → ((is.zip vs).foldl (fun σ p => σ.set p.1 (some p.2)) σ)[k]? = σ[k]?
  | [], _, _, _, _ => rfl
  | i :: is, [], _, _, _ => rfl
  | i :: is, v :: vs, σ, k, h => by
    simp only [List.mem_cons, not_or] at h
    show ((is.zip vs).foldl _ (σ.set i (some v)))[k]? = _
    rw [foldl_ne is h.2, List.getElem?_set_ne fun z => h.1 z.symm]
theorem g_tup {X : Cx} {c : Ctx} {x : Expr} {is : List Nat} (h : PG X x (gTup X.K is.length (gNames is))) : PGv X c x (.t is) := PG.wk h fun v σ H Q ⟨F, ρ, d, R, hd, q⟩ => by
  cases e : (Tg.t is).set ρ d with
  | none => rw [e] at q; exact q.elim
  | some ρ' =>
    rw [e] at q
    cases d with
    | tup xs =>
      cases hd with
      | @tup a us _ hs l =>
        obtain ⟨σ', R', g', o', es, el⟩ := bndAll_go is R l e
        refine ⟨a, us, rfl, R.ex.t hs, el.symm, gNames_go is el ?_⟩
        rw [← es]
        exact q σ' R' g' o' (fun k hk => by rw [es]; exact foldl_ne is hk) (by rw [es]; exact foldl_len is)
    | _ => cases e
/-! ### for -/
theorem for_go {tg : Tg} {f : List D → Option (List D)} {as : Es} {body : Ss} {r : List V → Hp → (It → Hp → Prop) → Prop} {D : Ends} (p : IterV K c r f) (h : tEvS K c (.for tg f as body) D σ H) :
    tFor (tIA (tEvA K c as) r) (tEvG K c tg) (tEvSs K c body) D σ H := by
  obtain ⟨F, ρ, R, P⟩ := h
  unfold evS at P
  refine ⟨F, ρ, R, P.bind.imp fun F1 ρ1 H1 bs R1 g1 P1 vs hb => ?_⟩
  split at P1
  · exact P1.elim
  · rename_i ds e1
    split at P1
    · exact P1.elim
    · rename_i items e2
      refine p F1 H1 vs ds items _ R1.ex (hb.views R1 e1) e2 fun J F1' H1' f1 h1 x1 fr1 jok => ?_
      have R1' := R1.grow f1 h1 x1 fr1
      have gg := g1.trans (GoE.grown c ρ1 σ f1 h1 fr1)
      generalize hst : (fun x ρ => match tg.set ρ x with
          | none => Res.no
          | some ρ' => evSs body ρ') = step at P1
      generalize hr0 : forLoop step items (locks ρ1 bs) = r0 at P1
      refine ⟨fun i m σ2 H2 => m = items.length - i ∧ i ≤ items.length ∧ ∃ F2 ρ2, Rel K c F2 ρ2 σ2 H2 ∧ Go K c F1' (locks ρ1 bs) σ H1' F2 ρ2 σ2 H2 ∧ forLoop step (items.drop i) ρ2 = r0,
        ⟨_, rfl, Nat.zero_le _, F1', locks ρ1 bs, R1'.locks bs, Go.refl .., by simpa using hr0⟩, ?_⟩
      rintro i m σ2 H2 ⟨rfl, hi, F2, ρ2, R2, g2, hr⟩
      -- what stands at this turn
      have hviews : Views K c F2 H2 vs ds := views_stay R g1 R1 bs (f1.trans g2.f) R2.ex (fun a o e n => g2.keep a o (h1 a o e) n) hb (fun _ q => q) e1
      obtain ⟨jgo, jstop⟩ := jok F2 H2 i g2.f R2.ex hviews
      by_cases hlt : i < items.length
      · obtain ⟨go, yl⟩ := jgo items[i] (List.getElem?_eq_getElem hlt)
        refine .inr ⟨go, fun σ' H' => i + 1 ≤ items.length ∧ ∃ F2 ρ2, Rel K c F2 ρ2 σ' H' ∧ Go K c F1' (locks ρ1 bs) σ H1' F2 ρ2 σ' H' ∧ forLoop step (items.drop (i + 1)) ρ2 = r0,
          fun σ' H' q => ⟨items.length - (i + 1), by omega, rfl, q.1, q.2⟩, fun x H' y => ?_⟩
        obtain ⟨F3, f3, h3, x3, fr3, hd⟩ := yl x H' y
        have R3 := R2.grow f3 h3 x3 fr3
        have g3 := g2.trans (GoE.grown c ρ2 σ2 f3 h3 fr3).go
        rw [List.drop_eq_getElem_cons hlt] at hr
        unfold forLoop at hr
        have hs : step items[i] ρ2 = match tg.set ρ2 items[i] with
          | none => Res.no
          | some ρ' => evSs body ρ' := by rw [← hst]
        refine ⟨F3, ρ2, items[i], R3, hd, ?_⟩
        cases et : tg.set ρ2 items[i] with
        | none =>
          rw [et] at hs
          simp only [hs] at hr
          rw [← hr] at P1
          exact P1
        | some ρ3 =>
          rw [et] at hs
          simp only at hs
          intro σ3 R4 g4 _ _ _
          have g04 := g3.trans g4
          refine ⟨F3, ρ3, R4, ?_⟩
          match hb : evSs body ρ3 with
          | .no =>
            rw [hb] at hs
            simp only [hs] at hr
            rw [← hr] at P1
            exact P1
          | .ex x ρ4 =>
            rw [hb] at hs
            simp only [hs] at hr
            rw [← hr] at P1
            intro F' σ' H' C d R5 g5 nw q
            obtain ⟨R6, g6, _⟩ := unlock_ok R gg R1' (g04.trans g5) R5
            exact P1 F' σ' H' C d R6 g6 (nw.back fun a e => g04.grow a (gg.grow a e)) q
          | .ok .nx ρ4 =>
            rw [hb] at hs
            simp only [hs] at hr
            exact fun F' σ' H' R5 g5 => ⟨hlt, F', ρ4, R5, g04.trans g5, hr⟩
          | .ok .brk ρ4 =>
            rw [hb] at hs
            simp only [hs] at hr
            rw [← hr] at P1
            intro F' σ' H' R5 g5
            obtain ⟨R6, g6, _⟩ := unlock_ok R gg R1' (g04.trans g5) R5
            exact P1 F' σ' H' R6 g6
          | .ok (.rt b) ρ4 =>
            rw [hb] at hs
            simp only [hs] at hr
            rw [← hr] at P1
            intro F' σ' H' v R5 g5 q
            obtain ⟨R6, g6, _⟩ := unlock_ok R gg R1' (g04.trans g5) R5
            refine P1 F' σ' H' v R6 g6 ?_
            cases b with
            | d x => exact q
            | nw xs =>
              obtain ⟨a, us, q1, q2, q3, q4, q5⟩ := q
              refine ⟨a, us, q1, q2, q3, q4, ?_⟩
              cases z : H a with
              | none => rfl
              | some o => exact absurd q5 (h3.ne (g2.grow a (gg.grow a (by rw [z]; simp))))
            | loc k =>
              obtain ⟨s, q1, q2, q3⟩ := q
              refine ⟨_, by rw [unlocks_v, q1]; rfl, ?_, q3⟩
              rcases unlock1_cases (s := s) (t := ρ1.v[k]?) (k := hasLoc k bs) with z | ⟨zs, ys, rfl, _, _, z⟩
              · show (unlock1 s ρ1.v[k]? (hasLoc k bs)).live = true
                rw [z]; exact q2
              · show (unlock1 (.lk zs) ρ1.v[k]? (hasLoc k bs)).live = true
                rw [z]; rfl
      · have ei : i = items.length := by omega
        refine .inl ⟨jstop (by omega), ?_⟩
        rw [ei, List.drop_length] at hr
        unfold forLoop at hr
        rw [← hr] at P1
        obtain ⟨R6, g6, _⟩ := unlock_ok R gg R1' g2 R2
        exact P1 F2 σ2 H2 R6 g6
theorem s_for {X : Cx} {c : Ctx} {x : Stmt} {tg : Tg} {f : List D → Option (List D)} {as : Es} {body : Ss} {r : List V → Hp → (It → Hp → Prop) → Prop} (p : IterV X.K c r f) (h : PS X x (tFor (tIA (tEvA X.K c as) r) (tEvG X.K c tg) (tEvSs X.K c body))) : PSv X c x (.for tg f as body) :=
  PS.wk h fun _ _ _ q => for_go p q
/-! ### while -/
theorem while_go {t : T} {body : Ss} {D : Ends} (h : tEvS K c (.while t body) D σ H) : tWhile (tEvT K c t) (tEvSs K c body) D σ H := by
  obtain ⟨F, ρ, R, P⟩ := h
  unfold evS at P
  refine ⟨fun m σ2 H2 => ∃ F2 ρ2, Rel K c F2 ρ2 σ2 H2 ∧ PostS K c F2 ρ2 σ2 H2 (whileLoop (evT t) (evSs body) m ρ2) D, ⟨FUEL, F, ρ, R, P⟩, ?_⟩
  rintro m σ2 H2 ⟨F2, ρ2, R2, P2⟩
  cases m with
  | zero => exact P2.elim
  | succ m =>
    unfold whileLoop at P2
    refine ⟨F2, ρ2, R2, ?_⟩
    match ht : evT t ρ2, P2 with
    | .no, P2 => exact P2
    | .ex x ρ3, P2 => exact fun F' H' C d R3 g3 n q => P2 F' σ2 H' C d R3 g3.go n q
    | .ok false ρ3, P2 =>
      intro F3 H3 R3 g3
      exact iteF (P2 F3 σ2 H3 R3 g3.go)
    | .ok true ρ3, P2 =>
      intro F3 H3 R3 g3
      dsimp only at P2
      refine iteT ⟨fun σ' H' => ∃ F2 ρ2, Rel K c F2 ρ2 σ' H' ∧ PostS K c F2 ρ2 σ' H' (whileLoop (evT t) (evSs body) m ρ2) D, fun σ' H' q => ⟨m, Nat.lt_succ_self m, q⟩, F3, ρ3, R3, ?_⟩
      match hb : evSs body ρ3, P2 with
      | .no, P2 => exact P2
      | .ex x ρ4, P2 => exact PostS.rebase g3.go P2
      | .ok .nx ρ4, P2 => exact fun F' σ' H' R5 g5 => ⟨F', ρ4, R5, PostS.rebase (g3.go.trans g5) P2⟩
      | .ok .brk ρ4, P2 => exact PostS.rebase g3.go P2
      | .ok (.rt b) ρ4, P2 => exact PostS.rebase g3.go P2
theorem s_while {X : Cx} {c : Ctx} {x : Stmt} {t : T} {body : Ss} (h : PS X x (tWhile (tEvT X.K c t) (tEvSs X.K c body))) : PSv X c x (.while t body) := PS.wk h fun _ _ _ q => while_go q
end
end Ev
namespace Ev
open PySem L2
abbrev Ctx.noE (c : Ctx) : Ctx := { c with E := fun _ _ _ => False }
section
variable {α β : Type} {K : PySem.W.Frag} {c : Ctx} {F F1 F2 F3 F' H H1 H2 H3 H' : Hp} {ρ ρ0 ρ1 ρ2 ρ3 ρ' : Env} {σ σ1 σ2 σ3 σ' : St} {v : V} {b : B} {vs : List V} {bs : List B} {ds items : List D} {is ows : List Nat}
theorem Rel.noE (R : Rel K c F ρ σ H) : Rel K c.noE F ρ σ H := ⟨R.len, R.lenO, R.ex, R.ok, R.apart, R.att, R.noLk, R.fz, R.tb, R.tn⟩
theorem Rel.reE (R : Rel K c.noE F ρ σ H) : Rel K c F ρ σ H := ⟨R.len, R.lenO, R.ex, R.ok, R.apart, R.att, R.noLk, R.fz, R.tb, R.tn⟩
theorem GoE.reE (g : GoE K c.noE σ F ρ H F' ρ' H') : GoE K c σ F ρ H F' ρ' H' := ⟨g.f, g.keep, g.fr, g.ow, g.lk, g.grow, g.live, g.tell, g.atb⟩
theorem Go.reEgo (g : Go K c.noE F ρ σ H F' ρ' σ' H') : Go K c F ρ σ H F' ρ' σ' H' := ⟨g.f, g.keep, g.fr, g.ow, g.lk, g.grow, g.tell, g.atb⟩
/-! ### a block's own variables -/
theorem wipe_get : ∀ (ows : List Nat) (σ : St) (k : Nat), (wipe σ ows)[k]? = if k ∈ ows then σ[k]?.map (fun _ => none) else σ[k]?
  | [], σ, k => by simp [wipe]
  | i :: is, σ, k => by
    unfold wipe
    rw [List.getElem?_set]
    by_cases e : i = k
    · subst e
      rw [if_pos rfl, if_pos List.mem_cons_self, wipe_length]
      by_cases h : i < σ.length
      · rw [if_pos h, List.getElem?_eq_getElem h]; rfl
      · rw [if_neg h, List.getElem?_eq_none (by omega)]; rfl
    · rw [if_neg e, wipe_get is]
      by_cases h : k ∈ is
      · rw [if_pos h, if_pos (List.mem_cons_of_mem _ h)]
      · rw [if_neg h, if_neg fun z => (List.mem_cons.mp z).elim (fun z => e z.symm) h]
theorem wipeE_v (k : Nat) : (wipeE ρ ows).v[k]? = ρ.v[k]?.map fun s => if k ∈ ows then .un else s := by
  show (mapI _ 0 ρ.v)[k]? = _
  rw [mapI_get]
  simp
theorem wipeE_len : (wipeE ρ ows).v.length = ρ.v.length := mapI_length ..
theorem unwipe_v (k : Nat) : (unwipe ρ0 ρ ows).v[k]? = ρ.v[k]?.map fun s => if k ∈ ows then ρ0.v.getD k .un else s := by
  show (mapI _ 0 ρ.v)[k]? = _
  rw [mapI_get]
  simp
theorem unwipe_len : (unwipe ρ0 ρ ows).v.length = ρ.v.length := mapI_length ..
theorem wipe_key (R : Rel K c F ρ σ H) (k : Nat) (t : Slot) (e : (sl (wipeE ρ ows))[k]? = some t) : t = .un ∨ ((sl ρ)[k]? = some t ∧ (vl c (wipe σ ows))[k]? = (vl c σ)[k]? ∧ (k < ρ.v.length → k ∉ ows)) := by
  by_cases kl : k < ρ.v.length
  · rw [sl_v (by rw [wipeE_len]; exact kl), wipeE_v] at e
    cases q : ρ.v[k]? with
    | none => rw [q] at e; cases e
    | some s =>
      rw [q] at e
      simp only [Option.map_some, Option.some.injEq] at e
      by_cases h : k ∈ ows
      · rw [if_pos h] at e; exact .inl e.symm
      · rw [if_neg h] at e
        subst e
        refine .inr ⟨by rw [sl_v kl]; exact q, ?_, fun _ => h⟩
        rw [vl_v (by rw [wipe_length, ← R.len]; exact kl), vl_v (by rw [← R.len]; exact kl), wipe_get, if_neg h]
  · refine .inr ⟨?_, ?_, fun z => absurd z kl⟩
    · unfold sl at e ⊢
      rw [List.getElem?_append_right (by rw [wipeE_len]; omega), wipeE_len] at e
      rw [List.getElem?_append_right (by omega)]
      exact e
    · unfold vl
      rw [List.getElem?_append_right (by rw [wipe_length, ← R.len]; omega), List.getElem?_append_right (by rw [← R.len]; omega), wipe_length]
theorem Rel.wipe (R : Rel K c F ρ σ H) (ha : ∀ i ∈ ows, ρ.o[i]? ≠ some .att) : Rel K c F (wipeE ρ ows) (L2.wipe σ ows) H := by
  refine ⟨by rw [wipeE_len, wipe_length]; exact R.len, R.lenO, R.ex, fun k t e => ?_, fun k k' t t' a e e' hh hh' w w' => ?_, fun j e => ?_, R.noLk, R.fz, R.tb, R.tn⟩
  · rcases wipe_key R k t e with rfl | ⟨q1, q2, _⟩
    · trivial
    · rw [q2]; exact R.ok k t q1
  · rcases wipe_key R k t e with rfl | ⟨q1, q2, _⟩
    · cases hh
    · rcases wipe_key R k' t' e' with rfl | ⟨q1', q2', _⟩
      · cases hh'
      · rw [q2] at w; rw [q2'] at w'
        exact R.apart k k' t t' a q1 q1' hh hh' w w'
  · have hj : j ∉ ows := fun z => ha j z e
    obtain ⟨v, s, g1, g2, g3, g4⟩ := R.att j e
    exact ⟨v, s, by rw [wipe_get, if_neg hj]; exact g1, g2, by rw [wipeE_v, g3, Option.map_some, if_neg hj], g4⟩
theorem own_wipe (R : Rel K c F ρ σ H) {a : Addr} (h : own c (wipeE ρ ows) (L2.wipe σ ows) a) : own c ρ σ a := by
  rcases h with ⟨k, xs, e, w⟩ | h | ⟨k, ks, xs, e, w⟩
  rotate_left
  · exact .inr (.inl h)
  · rcases wipe_key R k _ e with z | ⟨q1, q2, _⟩
    · cases z
    · exact .inr (.inr ⟨k, ks, xs, q1, by rw [← q2]; exact w⟩)
  rcases wipe_key R k _ e with z | ⟨q1, q2, _⟩
  · cases z
  · exact .inl ⟨k, xs, q1, by rw [← q2]; exact w⟩
/-- an object that neither F nor a variable tells of changes -/
theorem Rel.poke (R : Rel K c F ρ σ H) {p : Addr} {vs us : List V} (hp : H p = some (.lst us)) (hF : F p = none) (hn : ∀ (k : Nat) (s : Slot), (sl ρ)[k]? = some s → s.held = true → (vl c σ)[k]? ≠ some (some (.ref p))) : Rel K c F ρ σ (upd H p (.lst vs)) := by
  refine ⟨R.len, R.lenO, fun a u e => ?_, fun k s e => ?_, R.apart, R.att, R.noLk, R.fz, tabs_upd R.tb hp, R.tn⟩
  · rw [upd_ne (ne_of_none e hF)]; exact R.ex a u e
  · refine (R.ok k s e).grow (Ex.refl _) fun a us hh w q1 qo q2 => ⟨?_, q2⟩
    rw [upd_ne fun z => hn k s e hh (by rw [w, z])]
    exact q1
/-- behind a block its own variables are as ahead of it -/
theorem unwipe_ok (RL : Rel K c F ρ σ H) (ha : ∀ i ∈ ows, ρ.o[i]? ≠ some .att) (g : GoE K c (L2.wipe σ ows) F (wipeE ρ ows) H F2 ρ2 H2) (R2 : Rel K c F2 ρ2 (L2.wipe σ ows) H2) :
    Rel K c F2 (unwipe ρ ρ2 ows) σ H2 ∧ Go K c F ρ σ H F2 (unwipe ρ ρ2 ows) σ H2 ∧ (∀ a, own c (unwipe ρ ρ2 ows) σ a → own c ρ σ a) ∧
    (∀ (k : Nat) (s : Slot), ρ.v[k]? = some s → s.live = true → ∃ s', (unwipe ρ ρ2 ows).v[k]? = some s' ∧ s'.live = true) := by
  have RB := RL.wipe ha
  have l2 : ρ2.v.length = ρ.v.length := by rw [R2.len, wipe_length, RL.len]
  have lu : (unwipe ρ ρ2 ows).v.length = ρ.v.length := unwipe_len.trans l2
  -- an own list of the block's end stood at the block's start, at a place that is not the block's own
  have key : ∀ (k : Nat) (t : Slot), (sl (unwipe ρ ρ2 ows))[k]? = some t →
      (k < ρ.v.length ∧ k ∈ ows ∧ ρ.v[k]? = some t) ∨ ((sl ρ2)[k]? = some t ∧ (vl c (L2.wipe σ ows))[k]? = (vl c σ)[k]? ∧ (k < ρ.v.length → k ∉ ows)) := by
    intro k t e
    by_cases kl : k < ρ.v.length
    · rw [sl_v (by rw [lu]; exact kl), unwipe_v] at e
      rw [List.getElem?_eq_getElem (by rw [l2]; exact kl)] at e
      simp only [Option.map_some, Option.some.injEq] at e
      by_cases h : k ∈ ows
      · rw [if_pos h] at e
        refine .inl ⟨kl, h, ?_⟩
        rw [← e, List.getD_eq_getElem?_getD, List.getElem?_eq_getElem kl]
        rfl
      · rw [if_neg h] at e
        refine .inr ⟨by rw [sl_v (by rw [l2]; exact kl), List.getElem?_eq_getElem (by rw [l2]; exact kl), e], ?_, fun _ => h⟩
        rw [vl_v (by rw [wipe_length, ← RL.len]; exact kl), vl_v (by rw [← RL.len]; exact kl), wipe_get, if_neg h]
    · refine .inr ⟨?_, ?_, fun z => absurd z kl⟩
      · unfold sl at e ⊢
        rw [List.getElem?_append_right (by rw [lu]; omega), lu] at e
        rw [List.getElem?_append_right (by rw [l2]; omega), l2]
        exact e
      · unfold vl
        rw [List.getElem?_append_right (by rw [wipe_length, ← RL.len]; omega), List.getElem?_append_right (by rw [← RL.len]; omega), wipe_length]
  -- a held place of the block's end: where it stood at the start
  have held2 : ∀ (k : Nat) (t : Slot) (a : Addr), (sl ρ2)[k]? = some t → t.held = true → (vl c (L2.wipe σ ows))[k]? = some (some (.ref a)) → ∃ (k' : Nat) (t' : Slot), (sl ρ)[k']? = some t' ∧ t'.held = true ∧ (vl c σ)[k']? = some (some (V.ref a)) ∧ (k' < ρ.v.length → k' ∉ ows) := by
    intro k t a e hh w
    cases t with
    | ow xs =>
      rcases g.ow a (.inl ⟨k, xs, e, w⟩) with ⟨k', ys, e', w'⟩ | ht
      rotate_left
      · obtain ⟨b, us, z1, z2, z3, _⟩ := (R2.ok k _ e).heldAt rfl
        rw [w] at z1
        cases z1
        rcases ht with ht | ⟨k', ks', ys, e', w'⟩
        · exact absurd ht (tabs_own R2.tb z2 z3)
        · rcases wipe_key RL k' _ e' with z | ⟨q1, q2, q3⟩
          · cases z
          · exact ⟨k', _, q1, rfl, by rw [← q2]; exact w', q3⟩
      rcases wipe_key RL k' _ e' with z | ⟨q1, q2, q3⟩
      · cases z
      · exact ⟨k', _, q1, rfl, by rw [← q2]; exact w', q3⟩
    | lk xs =>
      by_cases kl : k < ρ2.v.length
      · rw [sl_v kl] at e
        have e0 := g.lk k xs e
        have kl' : k < ρ.v.length := by rw [← l2]; exact kl
        rcases wipe_key (ows := ows) RL k (.lk xs) (by rw [sl_v (by rw [wipeE_len]; exact kl')]; exact e0) with z | ⟨q1, q2, q3⟩
        · cases z
        · exact ⟨k, _, q1, rfl, by rw [← q2]; exact w, q3⟩
      · unfold sl at e
        rw [List.getElem?_append_right (by omega)] at e
        exact absurd e (R2.noLk _ _)
    | od ks xs =>
      obtain ⟨b, us, z1, z2, z3, _⟩ := (R2.ok k _ e).heldAt rfl
      rw [w] at z1
      cases z1
      rcases g.ow a (.inr (.inr ⟨k, ks, xs, e, w⟩)) with ⟨k', ys, e', w'⟩ | ht | ⟨k', ks', ys, e', w'⟩
      · rcases wipe_key RL k' _ e' with z | ⟨q1, q2, q3⟩
        · cases z
        · exact ⟨k', _, q1, rfl, by rw [← q2]; exact w', q3⟩
      · exact absurd ht (tabs_own R2.tb z2 z3)
      · rcases wipe_key RL k' _ e' with z | ⟨q1, q2, q3⟩
        · cases z
        · exact ⟨k', _, q1, rfl, by rw [← q2]; exact w', q3⟩
    | un => cases hh
    | att => cases hh
    | sh _ => cases hh
  -- what a wiped place held stays
  have stayW : ∀ (k : Nat) (t : Slot) (a : Addr) (u : HO), k < ρ.v.length → k ∈ ows → ρ.v[k]? = some t → t.held = true → σ[k]? = some (some (.ref a)) → H a = some u → OwnO u → F a = none → H2 a = some u ∧ F2 a = none := by
    intro k t a us kl hk e hh w q1 qo q2
    have n : ¬ own c (wipeE ρ ows) (L2.wipe σ ows) a := fun q => by
      rcases q with ⟨k', ys, e', w'⟩ | q | ⟨k', ks', ys, e', w'⟩
      · rcases wipe_key RL k' _ e' with z | ⟨z1, z2, z3⟩
        · cases z
        · have : k = k' := RL.apart k k' t _ a (by rw [sl_v kl]; exact e) z1 hh rfl (by rw [vl_v (by rw [← RL.len]; exact kl)]; exact w) (by rw [← z2]; exact w')
          subst this
          exact z3 kl hk
      · exact tabs_own RL.tb q1 qo q
      · rcases wipe_key RL k' _ e' with z | ⟨z1, z2, z3⟩
        · cases z
        · have : k = k' := RL.apart k k' t _ a (by rw [sl_v kl]; exact e) z1 hh rfl (by rw [vl_v (by rw [← RL.len]; exact kl)]; exact w) (by rw [← z2]; exact w')
          subst this
          exact z3 kl hk
    exact ⟨g.keep a _ q1 n, g.fr a q2 (Liv.of q1 qo.liv) n⟩
  have so : ∀ a, own c (unwipe ρ ρ2 ows) σ a → own c ρ σ a := by
    rintro a (⟨k, xs, e, w⟩ | h | ⟨k, ks, xs, e, w⟩)
    rotate_left
    · exact .inr (.inl h)
    · rcases key k _ e with ⟨kl, hk, q⟩ | ⟨q1, q2, _⟩
      · exact .inr (.inr ⟨k, ks, xs, by rw [sl_v kl]; exact q, w⟩)
      · exact own_wipe RL (g.ow a (.inr (.inr ⟨k, ks, xs, q1, by rw [q2]; exact w⟩)))
    rcases key k _ e with ⟨kl, hk, q⟩ | ⟨q1, q2, _⟩
    · exact .inl ⟨k, xs, by rw [sl_v kl]; exact q, w⟩
    · exact own_wipe RL (g.ow a (.inl ⟨k, xs, q1, by rw [q2]; exact w⟩))
  refine ⟨⟨by rw [lu]; exact RL.len, R2.lenO, R2.ex, fun k t e => ?_, fun k k' t t' a e e' hh hh' w w' => ?_, fun j e => ?_, R2.noLk, R2.fz, R2.tb, R2.tn⟩,
    ⟨g.f, fun a o e n => g.keep a o e fun z => n (own_wipe RL z), fun a e1 e2 n => g.fr a e1 e2 fun z => n (own_wipe RL z), fun a h => .inl (so a h), fun k xs e => ?_, g.grow, g.tell, g.atb⟩, so, fun k s e hl => ?_⟩
  · rcases key k t e with ⟨kl, hk, q⟩ | ⟨q1, q2, _⟩
    · rw [vl_v (by rw [← RL.len]; exact kl)]
      exact (RL.slot q).grow g.f fun a us hh w z1 zo z2 => stayW k t a us kl hk q hh w z1 zo z2
    · rw [← q2]; exact R2.ok k t q1
  · rcases key k t e with ⟨kl, hk, q⟩ | ⟨q1, q2, q3⟩
    · have s1 : (sl ρ)[k]? = some t := by rw [sl_v kl]; exact q
      rcases key k' t' e' with ⟨kl', hk', q'⟩ | ⟨q1', q2', q3'⟩
      · exact RL.apart k k' t t' a s1 (by rw [sl_v kl']; exact q') hh hh' w w'
      · obtain ⟨k2, t2, z1, z2, z3, z4⟩ := held2 k' t' a q1' hh' (by rw [q2']; exact w')
        have : k = k2 := RL.apart k k2 t t2 a s1 z1 hh z2 w z3
        subst this
        exact absurd hk (z4 kl)
    · rcases key k' t' e' with ⟨kl', hk', q'⟩ | ⟨q1', q2', q3'⟩
      · obtain ⟨k2, t2, z1, z2, z3, z4⟩ := held2 k t a q1 hh (by rw [q2]; exact w)
        have : k' = k2 := RL.apart k' k2 t' t2 a (by rw [sl_v kl']; exact q') z1 hh' z2 w' z3
        subst this
        exact absurd hk' (z4 kl')
      · exact R2.apart k k' t t' a q1 q1' hh hh' (by rw [q2]; exact w) (by rw [q2']; exact w')
  · obtain ⟨v, s, g1, g2, g3, g4⟩ := R2.att j e
    have hj : j ∉ ows := fun z => by
      rw [wipe_get, if_pos z] at g1
      cases q : σ[j]? with
      | none => rw [q] at g1; cases g1
      | some x => rw [q] at g1; cases g1
    rw [wipe_get, if_neg hj] at g1
    exact ⟨v, s, g1, g2, by rw [unwipe_v, g3, Option.map_some, if_neg hj], g4⟩
  · rw [unwipe_v] at e
    refine ⟨?_, rfl⟩
    cases q : ρ2.v[k]? with
    | none => rw [q] at e; cases e
    | some s =>
      rw [q] at e
      simp only [Option.map_some, Option.some.injEq] at e
      have kl : k < ρ.v.length := by rw [← l2]; exact lt_of_get q
      by_cases h : k ∈ ows
      · rw [if_pos h, List.getD_eq_getElem?_getD, List.getElem?_eq_getElem kl] at e
        rw [List.getElem?_eq_getElem kl]
        exact congrArg some e
      · rw [if_neg h] at e
        subst e
        have e0 := g.lk k xs q
        rw [wipeE_v] at e0
        cases p : ρ.v[k]? with
        | none => rw [p] at e0; cases e0
        | some t => rw [p, Option.map_some, if_neg h] at e0; exact e0
  · by_cases h : k ∈ ows
    · have kl := lt_of_get e
      refine ⟨s, ?_, hl⟩
      rw [unwipe_v, List.getElem?_eq_getElem (by rw [l2]; exact kl), Option.map_some, if_pos h, List.getD_eq_getElem?_getD, e]
      rfl
    · obtain ⟨s', h1, h2⟩ := g.live k s (by rw [wipeE_v, e, Option.map_some, if_neg h]) hl
      exact ⟨s', by rw [unwipe_v, h1, Option.map_some, if_neg h], h2⟩
/-! ### comprehensions -/
def tEvO (K : PySem.W.Frag) (c : Ctx) (t : OT) : TT := fun σ H Q => ∃ F ρ, Rel K c F ρ σ H ∧ PostR K c σ F ρ H (evO t ρ) fun _ _ H' k => Q k H'
theorem PTs.wk {X : Cx} {e : List Expr} {t t' : TT} (h : PTs X e t) (w : ∀ σ H Q, t' σ H Q → t σ H Q) : PTs X e t' := ⟨fun pins s σ H Q I q => h.run pins s σ H Q I (w _ _ _ q)⟩
theorem o_none {X : Cx} {c : Ctx} : PTs X [] (tEvO X.K c .none) := PTs.wk pts_nil fun σ H Q ⟨F, ρ, R, P⟩ => by
  unfold evO at P
  exact P F H R (GoE.refl ..)
theorem o_some {X : Cx} {c : Ctx} {x : Expr} {t : T} (h : PTv X c x t) : PTs X [x] (tEvO X.K c (.some t)) := PTs.wk (pts_one h) fun σ H Q ⟨F, ρ, R, P⟩ => by
  unfold evO at P
  exact ⟨F, ρ, R, P⟩
theorem bndAll_keep : ∀ (is : List Nat) {ρ ρ' : Env} {ds : List D}, bndAll ρ is ds = some ρ' → ∀ k, k ∉ is → ρ'.v[k]? = ρ.v[k]?
  | [], _, _, [], e, _, _ => by cases e; rfl
  | [], _, _, _ :: _, e, _, _ => by cases e
  | _ :: _, _, _, [], e, _, _ => by cases e
  | i :: is, ρ, ρ', d :: ds, e, k, h => by
    unfold bndAll at e
    simp only [List.mem_cons, not_or] at h
    split at e
    · cases e
    · rename_i ρ1 e1
      rw [bndAll_keep is e k h.2, (Env.bnd_cases e1).2.1, List.getElem?_set_ne fun z => h.1 z.symm]
theorem Tg.set_keep {tg : Tg} {x : D} (e : tg.set ρ x = some ρ') {k : Nat} (h : k ∉ tg.is) : ρ'.v[k]? = ρ.v[k]? := by
  cases tg with
  | n i =>
    rw [(Env.bnd_cases (show ρ.bnd i (.sh x) = some ρ' from e)).2.1, List.getElem?_set_ne fun z => h (by subst z; exact List.mem_singleton.mpr rfl)]
  | t is =>
    cases x with
    | tup xs => exact bndAll_keep is e k h
    | _ => cases e
/-- one turn of a block: from the wiped variables to the wiped variables -/
theorem turn_go (R2 : Rel K c F2 ρ2 (L2.wipe σ ows) H2) (g4o : ∀ a, own c ρ3 σ3 a → own c ρ2 (L2.wipe σ ows) a) (g4 : Go K c F2 ρ2 (L2.wipe σ ows) H2 F2 ρ3 σ3 H2) (hk : ∀ k, k ∉ ows → ρ3.v[k]? = ρ2.v[k]?)
    (hw : ∀ k ∈ ows, ∀ s, ρ2.v[k]? = some s → s = .un) (hσ : L2.wipe σ3 ows = L2.wipe σ ows) (g : GoE K c σ3 F2 ρ3 H2 F3 ρ' H3) (R3 : Rel K c F3 ρ' σ3 H3) (ha : ∀ i ∈ ows, ρ'.o[i]? ≠ some .att) :
    Rel K c F3 (wipeE ρ' ows) (L2.wipe σ ows) H3 ∧ GoE K c (L2.wipe σ ows) F2 ρ2 H2 F3 (wipeE ρ' ows) H3 := by
  refine ⟨by rw [← hσ]; exact R3.wipe ha, ⟨g.f, fun a o e n => g.keep a o e fun z => n (g4o a z), fun a e1 e2 n => g.fr a e1 e2 fun z => n (g4o a z), fun a h => ?_, fun k xs e => ?_, g.grow, fun k s e hl => ?_, fun j s e hl => ?_, fun j e => g4.atb j (g.atb j e)⟩⟩
  · rw [← hσ] at h
    exact g4o a (g.ow a (own_wipe R3 h))
  · rw [wipeE_v] at e
    cases q : ρ'.v[k]? with
    | none => rw [q] at e; cases e
    | some s =>
      rw [q, Option.map_some] at e
      by_cases h : k ∈ ows
      · rw [if_pos h] at e; cases e
      · rw [if_neg h] at e
        cases e
        rw [← hk k h]
        exact g.lk k xs q
  · by_cases h : k ∈ ows
    · rw [hw k h s e] at hl; cases hl
    · obtain ⟨s', h1, h2⟩ := g.live k s (by rw [hk k h]; exact e) hl
      exact ⟨s', by rw [wipeE_v, h1, Option.map_some, if_neg h], h2⟩
  · obtain ⟨s', h1, h2⟩ := g4.tell j s e hl
    exact g.tell j s' h1 h2
end
end Ev
namespace Ev
open PySem L2
section
variable {K : PySem.W.Frag} {c : Ctx} {F F1 F2 F3 F' H H1 H2 H3 H' : Hp} {ρ ρ0 ρ1 ρ2 ρ3 ρ' : Env} {σ σ1 σ2 σ3 σ' : St} {v : V} {b : B} {vs : List V} {bs : List B} {ds items : List D} {is ows : List Nat}
theorem lc_go {tg : Tg} {f : List D → Option (List D)} {as : Es} {oc : OT} {elt : E} {r : List V → Hp → (It → Hp → Prop) → Prop} {Q : VK} (p : IterV K c r f) (h : tEv K c (.lc ows tg f as oc elt) σ H Q) :
    tLc (tIA (tEvA K c as) r) (tEvG K c.noE tg) (tEvO K c.noE oc) (tEv K c.noE elt) ows σ H Q := by
  obtain ⟨F, ρ, R, P⟩ := h
  unfold evE at P
  refine ⟨F, ρ, R, P.bind.imp fun F1 ρ1 H1 bs R1 g1 P1 vs hb => ?_⟩
  split at P1
  · exact P1.elim
  · rename_i ds e1
    split at P1
    · exact P1.elim
    · rename_i items e2
      split at P1
      · rename_i hcond
        obtain ⟨hlen, hatt, htg⟩ := hcond
        refine p F1 H1 vs ds items _ R1.ex (hb.views R1 e1) e2 fun J F1' H1' f1 h1 x1 fr1 jok => ?_
        intro D hD
        have R1' := R1.grow f1 h1 x1 fr1
        have gg := g1.trans (GoE.grown c ρ1 σ f1 h1 fr1)
        have RL := R1'.locks bs
        have hatt' : ∀ i ∈ ows, (locks ρ1 bs).o[i]? ≠ some .att := fun i hi z => by
          rw [List.all_eq_true] at hatt
          have := hatt i hi
          rw [show ρ1.o[i]? = some .att from z] at this
          cases this
        have htg' : ∀ k, k ∉ ows → k ∉ tg.is := fun k hk z => by
          rw [List.all_eq_true] at htg
          have := htg k z
          simp only [List.contains_eq_mem, decide_eq_true_eq] at this
          exact hk this
        have RB := RL.wipe hatt'
        have hnD : H D = none := gg.new_of hD
        -- the step and what the loop comes to
        generalize hst : (fun x ρ => match Tg.set ρ x tg with
          | none => Res.no
          | some ρ' => (evO oc ρ').bind fun k ρ'' => if k then (evE elt ρ'').bind fun b ρ2 => match b.keep ρ2 with
              | none => .no
              | some (d, ρ3) => .ok (some d) (wipeE ρ3 ows) else .ok none (wipeE ρ'' ows)) = step at P1
        generalize hr0 : lcLoop step items [] (wipeE (locks ρ1 bs) ows) = r0 at P1
        let W : Nat → Hp → Prop := fun i H2 => i ≤ items.length ∧ ∃ F2 ρ2 acc us, Rel K c F2 ρ2 (L2.wipe σ ows) H2 ∧ GoE K c (L2.wipe σ ows) F1' (wipeE (locks ρ1 bs) ows) H1' F2 ρ2 H2 ∧
          (∀ k ∈ ows, ∀ s, ρ2.v[k]? = some s → s = .un) ∧ H2 D = some (.lst us) ∧ F2 D = none ∧ DenL K c.CL F2 us acc ∧ acc.length ≤ i ∧ lcLoop step (items.drop i) acc ρ2 = r0
        have hun : ∀ (ρ : Env), ∀ k ∈ ows, ∀ s, (wipeE ρ ows).v[k]? = some s → s = .un := fun ρ k hk s e => by
          rw [wipeE_v] at e
          cases q : ρ.v[k]? with
          | none => rw [q] at e; cases e
          | some t => rw [q, Option.map_some, if_pos hk] at e; cases e; rfl
        refine ⟨fun i m H2 => m = items.length - i ∧ W i H2, ⟨_, rfl, Nat.zero_le _, F1', wipeE (locks ρ1 bs) ows, [], [], ?_, ?_, hun _, upd_same, ?_, .nil, Nat.le_refl _, by simpa using hr0⟩, ?_⟩
        · refine RB.grow (Ex.refl _) (Ex.new hD) (RB.ex.trans (Ex.new hD)) fun a e _ => e
        · exact GoE.grown c _ _ (Ex.refl _) (Ex.new hD) fun a e _ => e
        · exact RB.noneF hD
        rintro i m H2 ⟨rfl, hi, F2, ρ2, acc, us, R2, g2, hw2, hDl, hFD, hDen, hacc, hr⟩
        -- D is none of the block's own lists
        have nD : ∀ a, own c (wipeE (locks ρ1 bs) ows) (L2.wipe σ ows) a → a ≠ D := fun a q z => by
          subst z
          exact own_there RB q hD
        -- what stands at this turn
        have hviews : Views K c F2 H2 vs ds := views_stay R g1 R1 bs (f1.trans g2.f) R2.ex (fun a o e n => g2.keep a o (h1 a o e) fun z => n (own_wipe RL z)) hb (fun _ q => q) e1
        obtain ⟨jgo, jstop⟩ := jok F2 H2 i g2.f R2.ex hviews
        by_cases hlt : i < items.length
        · obtain ⟨go, yl⟩ := jgo items[i] (List.getElem?_eq_getElem hlt)
          refine .inr ⟨go, W (i + 1), fun H' q => ⟨items.length - (i + 1), by omega, rfl, q⟩, fun x H' y => ?_⟩
          obtain ⟨F3, f3, h3, x3, fr3, hd⟩ := yl x H' y
          have R3 := R2.grow f3 h3 x3 fr3
          have g23 : GoE K c (L2.wipe σ ows) F2 ρ2 H2 F3 ρ2 H' := GoE.grown c ρ2 (L2.wipe σ ows) f3 h3 fr3
          have hD3 : H' D = some (.lst us) := h3 D _ hDl
          have hF3 : F3 D = none := fr3 D hFD (Liv.of hDl rfl)
          rw [List.drop_eq_getElem_cons hlt] at hr
          unfold lcLoop at hr
          have hs : step items[i] ρ2 = match Tg.set ρ2 items[i] tg with
            | none => Res.no
            | some ρ' => (evO oc ρ').bind fun k ρ'' => if k then (evE elt ρ'').bind fun b ρ2 => match b.keep ρ2 with
                | none => .no
                | some (d, ρ3) => .ok (some d) (wipeE ρ3 ows) else .ok none (wipeE ρ'' ows) := by rw [← hst]
          have bad : r0 = .no → False := fun z => by rw [z] at P1; exact P1
          refine ⟨F3, ρ2, items[i], R3.noE, hd, ?_⟩
          cases et : Tg.set ρ2 items[i] tg with
          | none =>
            rw [et] at hs
            simp only [hs] at hr
            exact bad hr.symm
          | some ρ3 =>
            rw [et] at hs
            simp only at hs
            intro σ3 R4 g4 o4 k4 len4
            have hσ : L2.wipe σ3 ows = L2.wipe σ ows := by
              apply List.ext_getElem?
              intro k
              rw [wipe_get, wipe_get]
              by_cases hk : k ∈ ows
              · rw [if_pos hk, if_pos hk]
                have hl : σ3.length = σ.length := by rw [len4, wipe_length]
                by_cases hkl : k < σ.length
                · rw [List.getElem?_eq_getElem hkl, List.getElem?_eq_getElem (by rw [hl]; exact hkl)]; rfl
                · rw [List.getElem?_eq_none (by omega), List.getElem?_eq_none (by omega)]
              · rw [if_neg hk, if_neg hk, k4 k (htg' k hk), wipe_get, if_neg hk]
            refine ⟨hσ, F3, ρ3, R4, ?_⟩
            have hk3 : ∀ k, k ∉ ows → ρ3.v[k]? = ρ2.v[k]? := fun k hk => Tg.set_keep et (htg' k hk)
            match ho : evO oc ρ3 with
            | .no =>
              rw [ho] at hs
              simp only [hs, Res.bind] at hr
              exact bad hr.symm
            | .ex x ρ4 =>
              rw [ho] at hs
              simp only [hs, Res.bind] at hr
              exact (bad hr.symm).elim
            | .ok k ρ4 =>
              rw [ho] at hs
              simp only [Res.bind] at hs
              intro F4 H4 R5 g5
              have noat : ∀ (ρ' : Env), (∀ j : Nat, ρ'.o[j]? = some .att → ρ4.o[j]? = some .att) → ∀ i ∈ ows, ρ'.o[i]? ≠ some .att := fun ρ' hh i hi z =>
                hatt' i hi (show (wipeE (locks ρ1 bs) ows).o[i]? = some .att from g2.atb i (g4.atb i (g5.atb i (hh i z))))
              have nD3 : ¬ own c ρ3 σ3 D := fun z => nD D (g2.ow D (o4 D z)) rfl
              have hD4 : H4 D = some (.lst us) := g5.keep D _ hD3 nD3
              have hF4 : F4 D = none := g5.fr D hF3 (Liv.of hD3 rfl) nD3
              cases k with
              | false =>
                simp only [Bool.false_eq_true, if_false] at hs
                simp only [hs] at hr
                refine iteF ?_
                obtain ⟨R7, g7⟩ := turn_go R3 o4 g4.reEgo hk3 hw2 hσ g5.reE R5.reE (noat ρ4 fun _ h => h)
                exact ⟨hlt, F4, wipeE ρ4 ows, acc, us, R7, (g2.trans g23).trans g7, hun _, hD4, hF4, DenL.mono (f3.trans g5.f) _ hDen, by omega, hr⟩
              | true =>
                simp only [if_true] at hs
                refine iteT ?_
                refine ⟨F4, ρ4, R5, ?_⟩
                match he : evE elt ρ4 with
                | .no =>
                  rw [he] at hs
                  simp only [hs, Res.bind] at hr
                  exact bad hr.symm
                | .ex x ρ5 =>
                  rw [he] at hs
                  simp only [hs, Res.bind] at hr
                  exact (bad hr.symm).elim
                | .ok b ρ5 =>
                  rw [he] at hs
                  simp only [Res.bind] at hs
                  intro F5 H5 R6 g6 v hbv
                  cases hk : b.keep ρ5 with
                  | none =>
                    rw [hk] at hs
                    simp only [hs] at hr
                    exact (bad hr.symm).elim
                  | some q =>
                    obtain ⟨d, ρ6⟩ := q
                    rw [hk] at hs
                    simp only [hs] at hr
                    obtain ⟨F6, R8, g8, hdv⟩ := B.keep_ok R5 g6 R6 hbv hk
                    have g58 := g5.trans g8
                    have nD4 : ¬ own c ρ4 σ3 D := fun z => nD3 (g5.ow D z)
                    have hD5 : H5 D = some (.lst us) := g8.keep D _ hD4 nD4
                    have hF6 : F6 D = none := g8.fr D hF4 (Liv.of hD4 rfl) nD4
                    obtain ⟨R9, g9⟩ := turn_go R3 o4 g4.reEgo hk3 hw2 hσ g58.reE R8.reE (noat ρ6 fun j h => g8.atb j h)
                    have gall := (g2.trans g23).trans g9
                    refine ⟨us, hD5, by rw [hDen.length]; omega, hlt, F6, wipeE ρ6 ows, acc ++ [d], us ++ [v], ?_, ?_, hun _, upd_same, hF6, DenL.append (DenL.mono (f3.trans (g5.f.trans g8.f)) _ hDen) (.cons hdv .nil), by rw [List.length_append]; simp only [List.length_singleton]; omega, hr⟩
                    · exact R9.poke hD5 hF6 fun k s e hh w => held_old RB gall R9 e hh w hD
                    · refine ⟨gall.f, fun a o e n => ?_, gall.fr, gall.ow, gall.lk, fun a e => ?_, gall.live, gall.tell, gall.atb⟩
                      · rw [upd_ne fun z => by subst z; rw [hD] at e; cases e]
                        exact gall.keep a o e n
                      · by_cases z : a = D
                        · subst z; exact absurd hD e
                        · rw [upd_ne z]; exact gall.grow a e
        · have ei : i = items.length := by omega
          refine .inl ⟨jstop (by omega), ?_⟩
          rw [ei, List.drop_length] at hr
          unfold lcLoop at hr
          rw [← hr] at P1
          obtain ⟨R7, g7, o7, l7⟩ := unwipe_ok RL hatt' g2 R2
          obtain ⟨R8, g8, o8⟩ := unlock_ok R gg R1' g7 R7
          refine P1 F2 H2 R8 ⟨g8.f, g8.keep, g8.fr, o8 o7, fun k xs e => (g8.lk k xs e).1, g8.grow, fun k s e hl => ?_, g8.tell, g8.atb⟩ _ ⟨D, us, rfl, hDl, hFD, hDen, hnD⟩
          obtain ⟨s1, q1, q2⟩ := gg.live k s e hl
          obtain ⟨s2, q3, q4⟩ := l7 k (lock1 s1 (hasLoc k bs)) (by rw [locks_v, q1]; rfl) (by
            cases s1 with
            | ow _ => cases hasLoc k bs <;> rfl
            | lk _ => cases hasLoc k bs <;> rfl
            | sh _ => cases hasLoc k bs <;> rfl
            | un => cases q2
            | od _ _ => cases q2
            | att => cases q2)
          refine ⟨_, by rw [unlocks_v, q3]; rfl, ?_⟩
          show (unlock1 s2 ρ1.v[k]? (hasLoc k bs)).live = true
          rcases unlock1_cases (s := s2) (t := ρ1.v[k]?) (k := hasLoc k bs) with z | ⟨zs, ys, rfl, _, _, z⟩
          · rw [z]; exact q4
          · rw [z]; rfl
      · exact P1.elim
end
end Ev
namespace Ev
open PySem L2
section
variable {K : PySem.W.Frag} {c : Ctx} {F F1 F2 F3 F' H H1 H2 H3 H' : Hp} {ρ ρ0 ρ1 ρ2 ρ3 ρ' : Env} {σ σ1 σ2 σ3 σ' : St} {v : V} {b : B} {vs : List V} {bs : List B} {ds items : List D} {is ows : List Nat}
/-! ### comprehensions, as values and stored -/
theorem e_lc {X : Cx} {c : Ctx} {x : Expr} {tg : Tg} {f : List D → Option (List D)} {as : Es} {oc : OT} {elt : E} {r : List V → Hp → (It → Hp → Prop) → Prop} (p : IterV X.K c r f)
    (h : PE X x (tLc (tIA (tEvA X.K c as) r) (tEvG X.K c.noE tg) (tEvO X.K c.noE oc) (tEv X.K c.noE elt) ows)) : PEv X c x (.lc ows tg f as oc elt) := PE.wk h fun _ _ _ q => lc_go p q
/-! ### methods that change a list of the frame's own -/
def MutOk (K : PySem.W.Frag) (c : Ctx) (r : V → List V → Hp → VK → Prop) (f : List D → List D → Option (List D × D)) : Prop := ∀ F H a vs xs ws ds ys d Q, Ex F H → H a = some (.lst vs) → F a = none → DenL K c.CL F vs xs → DenL K c.CL F ws ds → f xs ds = some (ys, d) →
  (∀ v us, DenL K c.CL F us ys → Den K c.CL F v d → Q v (upd H a (.lst us))) → r (.ref a) ws H Q
theorem mut_at {as : Es} {f : List D → List D → Option (List D × D)} {i : Nat} {r : V → List V → Hp → VK → Prop} {Q : VK} (p : MutOk K c r f) (h : tEv K c (.mut f i as) σ H Q) :
    ∃ a vs, σ[i]? = some (some (.ref a)) ∧ H a = some (.lst vs) ∧ tEvD K c as σ H fun ws H2 => r (.ref a) ws H2 Q := by
  obtain ⟨F, ρ, R, P⟩ := h
  unfold evE at P
  split at P
  · rename_i xs0 e0
    obtain ⟨a, us0, w, q1, q2, q3⟩ := R.slot e0
    refine ⟨a, us0, w, q1, tEvD_bind R P fun F1 ρ1 H1 ds ws R1 g1 l P1 => ?_⟩
    split at P1
    · rename_i xs e1
      obtain ⟨a', us, w', z1, z2, z3⟩ := R1.slot e1
      rw [w] at w'
      cases w'
      split at P1
      · exact P1.elim
      · rename_i ys d e2
        refine p F1 H1 a us xs ws ds ys d Q R1.ex z1 z2 z3 l e2 fun v us' l' hd => ?_
        obtain ⟨R2, g2⟩ := R1.setow e1 w l'
        exact P1 F1 _ R2 (g1.trans g2) v hd
    · exact P1.elim
  · exact P.elim
theorem mut_go {as : Es} {f : List D → List D → Option (List D × D)} {i : Nat} {r : V → List V → Hp → VK → Prop} {Q : VK} (p : MutOk K c r f) (h : tEv K c (.mut f i as) σ H Q) : tBM K "list" r (tVar i) (tEvD K c as) σ H Q := by
  obtain ⟨a, vs, w, q, t⟩ := mut_at p h
  exact ⟨.ref a, w, .inl ⟨rfl, vs, .inl (.inl q)⟩, t⟩
theorem e_mut {X : Cx} {c : Ctx} {x : Expr} {as : Es} {f : List D → List D → Option (List D × D)} {i : Nat} {r : V → List V → Hp → VK → Prop} (p : MutOk X.K c r f) (h : PE X x (tBM X.K "list" r (tVar i) (tEvD X.K c as))) : PEv X c x (.mut f i as) := PE.wk h fun _ _ _ q => mut_go p q
/-- x[i] = v -/
theorem s_seti {X : Cx} {c : Ctx} {x : Stmt} {i : Nat} {ix v : E} (h : PS X x (tAsg (tEv X.K c v) (gSub (tVar i) (tEv X.K c ix) rSetL))) : PSv X c x (.seti i ix v) := PS.wk h fun D σ H ⟨F, ρ, R, P⟩ => by
  unfold evS at P
  refine sEv_bind R P fun F1 ρ1 H1 b v R1 g1 hb P1 => ?_
  split at P1
  · exact P1.elim
  · rename_i d ρ2 e1
    obtain ⟨F2, R2, g2, hd⟩ := B.keep_ok R g1 R1 hb e1
    split at P1
    · rename_i xs0 e2
      obtain ⟨a, us0, w, q1, q2, q3⟩ := R2.slot e2
      refine ⟨.ref a, w, F2, ρ2, R2, (P1.bind.rebase g2).imp fun F3 ρ3 H3 k R3 g3 q u hk => ?_⟩
      obtain ⟨g03, P3⟩ := q
      split at P3
      · rename_i z ez
        have hz := hk.view R3 ez
        cases hz
        split at P3
        · rename_i xs e3
          obtain ⟨a', us, w', z1, z2, z3⟩ := R3.slot e3
          rw [w] at w'
          cases w'
          split at P3
          · exact P3.elim
          · rename_i j ej
            refine ⟨a, us, z, j, rfl, rfl, z1, by rw [z3.length]; exact ej, ?_⟩
            obtain ⟨R4, g4⟩ := R3.setow e3 w (DenL.set (Den.mono g3.f _ hd) j z3)
            exact P3 F3 σ _ R4 (g03.trans g4).go
        · exact P3.elim
      · exact P3.elim
    · exact P1.elim
/-! ### a def -/
def outS (ρ : Env) (i : Nat) : Slot → Slot
  | .att => ρ.v.getD i .un
  | s => s
theorem outOf_get (ρ : Env) : ∀ (l : List Slot) (n i : Nat) (s : Slot), l[i]? = some s → (outOf ρ n l)[i]? = some (outS ρ (n + i) s)
  | [], _, _, _, e => by simp at e
  | t :: r, n, 0, s, e => by
    simp at e
    subst e
    cases t <;> rfl
  | t :: r, n, i + 1, s, e => by
    have ih := outOf_get ρ r (n + 1) i s (by simpa using e)
    rw [show n + 1 + i = n + (i + 1) by omega] at ih
    cases t <;> simpa [outOf] using ih
theorem start_rel {N : List Str} {ss : List Slot} {E : XK} {CL : CLs} (A : ARel K CL F H vs ss) (hN : ss.length ≤ N.length) : Rel K ⟨CL, vs, E⟩ F (start0 N.length ss) (L2.start N vs) H := by
  have len : (start0 N.length ss).v.length = N.length := by
    show (ss ++ List.replicate _ _).length = _
    rw [List.length_append, List.length_replicate]; omega
  have lenS : (L2.start N vs).length = N.length := by
    unfold L2.start
    rw [List.length_append, List.length_replicate, List.length_map, A.len]; omega
  have gv : ∀ k : Nat, (start0 N.length ss).v[k]? = if k < ss.length then ss[k]? else if k < N.length then some .un else none := fun k => by
    show (ss ++ List.replicate _ _)[k]? = _
    rw [List.getElem?_append]
    split
    · rfl
    · rw [List.getElem?_replicate]
      by_cases h : k < N.length
      · rw [if_pos h, if_pos (by omega)]
      · rw [if_neg h, if_neg (by omega)]
  have gs : ∀ k : Nat, k < ss.length → (L2.start N vs)[k]? = (vs[k]?).map some := fun k hk => by
    unfold L2.start
    rw [List.getElem?_append_left (by rw [List.length_map, A.len]; exact hk), List.getElem?_map]
  have go : ∀ j : Nat, (start0 N.length ss).o[j]? = ss[j]?.map Slot.pass := fun j => by
    show (ss.map _)[j]? = _
    rw [List.getElem?_map]
  have key : ∀ (k : Nat) (s : Slot), (sl (start0 N.length ss))[k]? = some s → (s = .un ∨ s = .att) ∨ (k < ss.length ∧ ss[k]? = some s ∧ (vl ⟨CL, vs, E⟩ (L2.start N vs))[k]? = (vs[k]?).map some) := by
    intro k s e
    by_cases kl : k < N.length
    · rw [sl_v (by rw [len]; exact kl), gv] at e
      by_cases h : k < ss.length
      · rw [if_pos h] at e
        exact .inr ⟨h, e, by rw [vl_v (by rw [lenS]; exact kl)]; exact gs k h⟩
      · rw [if_neg h, if_pos kl] at e
        cases e
        exact .inl (.inl rfl)
    · unfold sl at e
      rw [List.getElem?_append_right (by rw [len]; omega), go] at e
      left
      cases q : ss[k - (start0 N.length ss).v.length]? with
      | none => rw [q] at e; cases e
      | some t =>
        rw [q, Option.map_some] at e
        cases t <;> cases e <;> first | exact .inl rfl | exact .inr rfl
  refine ⟨by rw [len, lenS], by show (ss.map _).length = _; rw [List.length_map]; exact A.len.symm, A.ex, fun k s e => ?_, fun k k' s s' a e e' hh hh' w w' => ?_, fun j e => ?_, fun j xs e => ?_, fun j d a e => ?_, A.tb, A.tn⟩
  · rcases key k s e with (rfl | rfl) | ⟨h, e2, w⟩
    · trivial
    · trivial
    · rw [w]
      have := A.ok k s e2
      cases s with
      | sh d => obtain ⟨u, q, r⟩ := this; exact ⟨u, by rw [q]; rfl, r⟩
      | ow xs => obtain ⟨a, us, q, r⟩ := this; exact ⟨a, us, by rw [q]; rfl, r⟩
      | un => exact this.elim
      | od _ _ => exact this.elim
      | att => exact this.elim
      | lk _ => exact this.elim
  · rcases key k s e with (rfl | rfl) | ⟨h, e2, q⟩
    · cases hh
    · cases hh
    · rcases key k' s' e' with (rfl | rfl) | ⟨h', e2', q'⟩
      · cases hh'
      · cases hh'
      · rw [q] at w; rw [q'] at w'
        have w1 : vs[k]? = some (.ref a) := by
          cases z : vs[k]? with
          | none => rw [z] at w; cases w
          | some x => rw [z] at w; simp only [Option.map_some, Option.some.injEq] at w; rw [w]
        have w2 : vs[k']? = some (.ref a) := by
          cases z : vs[k']? with
          | none => rw [z] at w'; cases w'
          | some x => rw [z] at w'; simp only [Option.map_some, Option.some.injEq] at w'; rw [w']
        have ok := A.ok k s e2
        have ok' := A.ok k' s' e2'
        cases s with
        | ow xs =>
          cases s' with
          | ow ys => exact A.apart k k' xs ys a e2 e2' w1 w2
          | lk _ => exact ok'.elim
          | od _ _ => exact ok'.elim
          | _ => cases hh'
        | lk _ => exact ok.elim
        | od _ _ => exact ok.elim
        | _ => cases hh
  · rw [go] at e
    cases q : ss[j]? with
    | none => rw [q] at e; cases e
    | some t =>
      rw [q, Option.map_some] at e
      cases t with
      | ow xs =>
        obtain ⟨a, us, w, _⟩ := A.ok j _ q
        have jl := lt_of_get q
        refine ⟨.ref a, .ow xs, by rw [gs j jl, w]; rfl, w, by rw [gv, if_pos jl]; exact q, rfl⟩
      | _ => cases e
  · rw [go] at e
    cases q : ss[j]? with
    | none => rw [q] at e; cases e
    | some t => rw [q, Option.map_some] at e; cases t <;> cases e
  · rw [go] at e
    cases q : ss[j]? with
    | none => rw [q] at e; cases e
    | some t => rw [q, Option.map_some] at e; cases t <;> cases e
theorem start_od {N : List Str} {ss : List Slot} {CL : CLs} (A : ARel K CL F H vs ss) (hN : ss.length ≤ N.length) {k : Nat} {ks : List (List Key)} {xs : List D} (e : (sl (start0 N.length ss))[k]? = some (.od ks xs)) : False := by
  have hl : (start0 N.length ss).v.length = N.length := by
    show (ss ++ List.replicate _ _).length = _
    rw [List.length_append, List.length_replicate]; omega
  by_cases kl : k < N.length
  · rw [sl_v (by rw [hl]; exact kl)] at e
    by_cases h : k < ss.length
    · have : (start0 N.length ss).v[k]? = ss[k]? := by
        show (ss ++ List.replicate _ _)[k]? = _
        rw [List.getElem?_append_left h]
      rw [this] at e
      exact A.ok k _ e
    · have : (start0 N.length ss).v[k]? = some .un := by
        show (ss ++ List.replicate _ _)[k]? = _
        rw [List.getElem?_append_right (by omega), List.getElem?_replicate, if_pos (by omega)]
      rw [this] at e
      cases e
  · unfold sl at e
    rw [List.getElem?_append_right (by rw [hl]; omega)] at e
    have : (start0 N.length ss).o[k - (start0 N.length ss).v.length]? = ss[k - (start0 N.length ss).v.length]?.map Slot.pass := by
      show (ss.map _)[_]? = _
      rw [List.getElem?_map]
    rw [this] at e
    cases q : ss[k - (start0 N.length ss).v.length]? with
    | none => rw [q] at e; cases e
    | some t =>
      rw [q, Option.map_some] at e
      cases t <;> cases e
/-- what was passed, at the end -/
theorem end_rel {N : List Str} {ss : List Slot} {E : XK} {CL : CLs} (A : ARel K CL F H vs ss) (hN : ss.length ≤ N.length) (R : Rel K ⟨CL, vs, E⟩ F' ρ' σ' H') (g : Go K ⟨CL, vs, E⟩ F (start0 N.length ss) (L2.start N vs) H F' ρ' σ' H') :
    FGo CL F H vs ss F' H' ∧ ORel K CL F' H' vs ss ρ'.outs := by
  have R0 := start_rel (E := E) A hN
  have go : ∀ j : Nat, (start0 N.length ss).o[j]? = ss[j]?.map Slot.pass := fun j => by
    show (ss.map _)[j]? = _
    rw [List.getElem?_map]
  have gv : ∀ k : Nat, k < ss.length → (start0 N.length ss).v[k]? = ss[k]? := fun k hk => by
    show (ss ++ List.replicate _ _)[k]? = _
    rw [List.getElem?_append_left hk]
  have po : ∀ a, own ⟨CL, vs, E⟩ (start0 N.length ss) (L2.start N vs) a → pown CL vs ss a := by
    rintro a (⟨k, xs, e, w⟩ | h | ⟨k, ks, xs, e, w⟩)
    rotate_left
    · exact .inr h
    · exact (start_od A hN e).elim
    have hl : (start0 N.length ss).v.length = N.length := by
      show (ss ++ List.replicate _ _).length = _
      rw [List.length_append, List.length_replicate]; omega
    by_cases kl : k < N.length
    · rw [sl_v (by rw [hl]; exact kl)] at e
      by_cases h : k < ss.length
      · rw [gv k h] at e
        refine .inl ⟨k, xs, e, ?_⟩
        have hs : (L2.start N vs)[k]? = (vs[k]?).map some := by
          unfold L2.start
          rw [List.getElem?_append_left (by rw [List.length_map, A.len]; exact h), List.getElem?_map]
        rw [vl_v (by rw [← R0.len, hl]; exact kl), hs] at w
        cases z : vs[k]? with
        | none => rw [z] at w; cases w
        | some x => rw [z] at w; simp only [Option.map_some, Option.some.injEq] at w; rw [w]
      · have : (start0 N.length ss).v[k]? = some .un := by
          show (ss ++ List.replicate _ _)[k]? = _
          rw [List.getElem?_append_right (by omega), List.getElem?_replicate, if_pos (by omega)]
        rw [this] at e
        cases e
    · unfold sl at e
      rw [List.getElem?_append_right (by rw [hl]; omega), go] at e
      cases q : ss[k - (start0 N.length ss).v.length]? with
      | none => rw [q] at e; cases e
      | some t => rw [q, Option.map_some] at e; cases t <;> cases e
  refine ⟨⟨g.f, R.ex, fun a o e n => g.keep a o e fun z => n (po a z), fun a e1 e2 n => g.fr a e1 e2 fun z => n (po a z), g.grow, R.tb, R.tn⟩, fun i xs e => ?_⟩
  have il := lt_of_get e
  obtain ⟨a, us, w, _⟩ := A.ok i _ e
  obtain ⟨s', h1, h2⟩ := g.tell i .att (by rw [go, e]; rfl) rfl
  have ho : ρ'.outs[i]? = some (outS ρ' i s') := by
    have := outOf_get ρ' ρ'.o 0 i s' h1
    rwa [Nat.zero_add] at this
  have ok := R.slotO h1
  rw [show (⟨CL, vs, E⟩ : Ctx).Ps[i]? = some (.ref a) from w] at ok
  cases s' with
  | ow ys =>
    obtain ⟨a', us', z, q1, q2, q3⟩ := ok
    cases z
    exact .inl ⟨ys, a, us', ho, w, q1, q2, q3⟩
  | sh d =>
    obtain ⟨v, z, q⟩ := ok
    cases z
    exact .inr ⟨d, a, ho, w, q, R.fz i d a h1 w⟩
  | un => cases h2
  | od _ _ => cases h2
  | lk _ => cases h2
  | att =>
    obtain ⟨v, t, g1, g2, g3, g4⟩ := R.att i h1
    rw [show (⟨CL, vs, E⟩ : Ctx).Ps[i]? = some (.ref a) from w] at g2
    cases g2
    have okv := R.slot g3
    rw [g1] at okv
    have hg : ρ'.v.getD i .un = t := by rw [List.getD_eq_getElem?_getD, g3]; rfl
    cases t with
    | ow ys =>
      obtain ⟨a', us', z, q1, q2, q3⟩ := okv
      cases z
      exact .inl ⟨ys, a, us', by rw [ho]; exact congrArg some hg, w, q1, q2, q3⟩
    | lk ys =>
      obtain ⟨e0, _⟩ := g.lk i ys g3
      rw [gv i il, e] at e0
      cases e0
    | un => cases g4
    | od _ _ => cases g4
    | att => cases g4
    | sh _ => cases g4
/-- what is handed back -/
theorem ret_rel {N : List Str} {ss : List Slot} {E : XK} {CL : CLs} (A : ARel K CL F H vs ss) (hN : ss.length ≤ N.length) (R : Rel K ⟨CL, vs, E⟩ F' ρ' σ' H') (g : Go K ⟨CL, vs, E⟩ F (start0 N.length ss) (L2.start N vs) H F' ρ' σ' H')
    (hb : BDen K ⟨CL, vs, E⟩ σ' H F' ρ' H' v b) {r : RB} {ρ2 : Env} (e : retB ρ' b = some (r, ρ2)) :
    ∃ F2, Rel K ⟨CL, vs, E⟩ F2 ρ2 σ' H' ∧ Go K ⟨CL, vs, E⟩ F (start0 N.length ss) (L2.start N vs) H F2 ρ2 σ' H' ∧ RDen K (c0 CL) H F2 H' v r := by
  cases b with
  | d x => cases e; exact ⟨F', R, g, hb⟩
  | nw xs => cases e; exact ⟨F', R, g, hb⟩
  | loc i =>
    obtain ⟨s, h1, h2, h3⟩ := hb
    have ok := R.slot h1
    rw [h3] at ok
    unfold retB at e
    simp only [h1] at e
    cases s with
    | un => cases e
    | od _ _ => cases e
    | att => cases e
    | lk _ => cases e
    | sh x =>
      cases e
      obtain ⟨u, z, q⟩ := ok
      cases z
      exact ⟨F', R, g, q⟩
    | ow xs =>
      obtain ⟨a, us, z, q1, q2, q3⟩ := ok
      cases z
      have e' : (match ρ'.o[i]? with | some .att => some (RB.d (.lst xs), ρ'.frz i xs) | _ => some (RB.nw xs, ρ')) = some (r, ρ2) := e
      split at e'
      · -- a parameter's
        cases e'
        obtain ⟨a', us', F2, w, rfl, R2, g2, q⟩ := R.frz h1
        rw [h3] at w
        cases w
        exact ⟨_, R2, g.trans g2.go, q⟩
      · rename_i hna
        cases e'
        refine ⟨F', R, g, a, us, rfl, q1, q2, q3, ?_⟩
        have il := lt_of_get h1
        have so : (sl ρ')[i]? = some (.ow xs) := by rw [sl_v il]; exact h1
        have wo : (vl ⟨CL, vs, E⟩ σ')[i]? = some (some (.ref a)) := by rw [vl_v (by rw [← R.len]; exact il)]; exact h3
        have aux : ∀ (j : Nat) (ys : List D), ss[j]? = some (Slot.ow ys) → vs[j]? = some (V.ref a) → False := by
          intro j ys ej wj
          have go : (start0 N.length ss).o[j]? = some .att := by
            show (ss.map _)[j]? = _
            rw [List.getElem?_map, ej]
            rfl
          obtain ⟨s', p1, p2⟩ := g.tell j .att go rfl
          have okj := R.slotO p1
          rw [show (⟨CL, vs, E⟩ : Ctx).Ps[j]? = some (.ref a) from wj] at okj
          cases s' with
          | ow zs =>
            have := R.apart i (ρ'.v.length + j) _ _ a so (by rw [sl_o]; exact p1) rfl rfl wo (by rw [vl_o R, show (⟨CL, vs, E⟩ : Ctx).Ps[j]? = some (.ref a) from wj]; rfl)
            omega
          | sh d => exact R.fz j d a p1 wj q2
          | att =>
            obtain ⟨v, t, g1, g2, g3, g4⟩ := R.att j p1
            rw [show (⟨CL, vs, E⟩ : Ctx).Ps[j]? = some (.ref a) from wj] at g2
            cases g2
            have jl := lt_of_get g3
            have := R.apart i j _ t a so (by rw [sl_v jl]; exact g3) rfl (Slot.hl_held g4) wo (by rw [vl_v (by rw [← R.len]; exact jl)]; exact g1)
            subst this
            exact hna p1
          | un => cases p2
          | od _ _ => cases p2
          | lk _ => cases p2
        rcases g.ow a (.inl ⟨i, xs, so, wo⟩) with (⟨k, ys, z1, z2⟩ | ht | ⟨k, ks, ys, z1, z2⟩) | h
        rotate_left
        · exact absurd ht (tabs_lst R.tb q1)
        · exact (start_od A hN z1).elim
        rotate_left
        · exfalso
          -- a list of the start's is one that was passed
          have R0 := start_rel (E := E) A hN
          have hl : (start0 N.length ss).v.length = N.length := by
            show (ss ++ List.replicate _ _).length = _
            rw [List.length_append, List.length_replicate]; omega
          by_cases kl : k < N.length
          · rw [sl_v (by rw [hl]; exact kl)] at z1
            by_cases h : k < ss.length
            · have z1' : ss[k]? = some (.ow ys) := by
                have : (start0 N.length ss).v[k]? = ss[k]? := by
                  show (ss ++ List.replicate _ _)[k]? = _
                  rw [List.getElem?_append_left h]
                rw [← this]; exact z1
              have hs : (L2.start N vs)[k]? = (vs[k]?).map some := by
                unfold L2.start
                rw [List.getElem?_append_left (by rw [List.length_map, A.len]; exact h), List.getElem?_map]
              rw [vl_v (by rw [← R0.len, hl]; exact kl), hs] at z2
              refine aux k ys z1' ?_
              cases z : vs[k]? with
              | none => rw [z] at z2; cases z2
              | some x => rw [z] at z2; simp only [Option.map_some, Option.some.injEq] at z2; rw [z2]
            · have : (start0 N.length ss).v[k]? = some .un := by
                show (ss ++ List.replicate _ _)[k]? = _
                rw [List.getElem?_append_right (by omega), List.getElem?_replicate, if_pos (by omega)]
              rw [this] at z1
              cases z1
          · unfold sl at z1
            rw [List.getElem?_append_right (by rw [hl]; omega)] at z1
            have : (start0 N.length ss).o[k - (start0 N.length ss).v.length]? = ss[k - (start0 N.length ss).v.length]?.map Slot.pass := by
              show (ss.map _)[_]? = _
              rw [List.getElem?_map]
            rw [this] at z1
            cases q : ss[k - (start0 N.length ss).v.length]? with
            | none => rw [q] at z1; cases z1
            | some t => rw [q, Option.map_some] at z1; cases t <;> cases z1
        · exact h
/-- a body keeps its def's promise -/
theorem body_ok {N : List Str} {CL : CLs} {E : XK} {Q : VK} {ir : Ss} {n : Nat} (hN : n ≤ N.length) (hsp : spF K CL (runFn N.length ir) n vs H Q E) :
    tEvSs K ⟨CL, vs, E⟩ ir { nx := fun _ H' => Q .non H', rt := Q } (L2.start N vs) H := by
  obtain ⟨hl, F, ss, A, hg⟩ := hsp
  have hs : ss.length ≤ N.length := by rw [← A.len, hl]; exact hN
  refine ⟨F, start0 N.length ss, start_rel A hs, ?_⟩
  unfold runFn at hg
  match hr : evSs ir (start0 N.length ss) with
  | .no => rw [hr] at hg; exact hg
  | .ex x ρ' =>
    rw [hr] at hg
    intro F' σ' H' C d R g nw q
    obtain ⟨a1, a2⟩ := end_rel A hs R g
    exact hg F' H' C d a1 a2 nw q
  | .ok .nx ρ' =>
    rw [hr] at hg
    intro F' σ' H' R g
    obtain ⟨a1, a2⟩ := end_rel A hs R g
    exact hg F' .non H' a1 a2 .non
  | .ok .brk ρ' => rw [hr] at hg; exact hg.elim
  | .ok (.rt b) ρ' =>
    rw [hr] at hg
    intro F' σ' H' v R g hb
    simp only at hg
    cases e : retB ρ' b with
    | none => rw [e] at hg; exact hg.elim
    | some q =>
      obtain ⟨r, ρ2⟩ := q
      rw [e] at hg
      obtain ⟨F2, R2, g2, rd⟩ := ret_rel A hs R g hb e
      obtain ⟨a1, a2⟩ := end_rel A hs R2 g2
      exact hg F2 v H' a1 a2 rd
/-- a def that lets no exception out -/
theorem fn_ok {P : Program} {w : World} {mg : Str → Option Value} {base : Heap} {x qual : Str} {st : Stmt} {f : Addr} {fd : FuncData} {N ps : List Str} {k n : Nat} {CL : CLs} {ir : Ss} (Fu : Fun K x qual st f fd) (S : FnScope N ps (defScope st)) (hn : ps.length = n) (hN : n ≤ N.length)
    (hb : ∀ (cdv : Value) (A : Around) (outer : List PySem.Env) (s : Shared) (H : Hp) (E : XK) (c : Ctx), c.CL = CL → (∀ C d H, c.E C d H → False) → Room k (A.deeper (PyProof.Rows.envOfC qual (defScope st) s.heap.objs.size f cdv)) →
      PSsv (cxOf CX0 P w K mg base N qual (defScope st) f cdv A outer s H E).nox c (defBody st) ir) :
    FnOk P w K mg base CX0 (k + 1) f fd ps (spF K CL (runFn0 N.length ir) n) := by
  refine Fu.ok S (fun vs H Q E h => by rw [hn]; exact h.1) fun cdv A outer s H vs Q E hr h => ?_
  refine ⟨_, hb cdv A outer s H E ⟨CL, vs, fun _ _ _ => False⟩ rfl (fun _ _ _ z => z) hr, body_ok hN ?_⟩
  obtain ⟨h1, F, ss, A', hg⟩ := h
  refine ⟨h1, F, ss, A', ?_⟩
  unfold runFn0 at hg
  cases e : runFn N.length ir ss with
  | no => rw [e] at hg; exact hg
  | ok r o => rw [e] at hg; exact hg
  | ex x o => rw [e] at hg; exact hg.elim
end
end Ev
namespace Ev
open PySem L2
abbrev two (r : R2) : List V → Hp → VK → Prop := fun vs H Q => ∃ x y, vs = [x, y] ∧ r x y H Q
abbrev one (r : V → Hp → VK → Prop) : List V → Hp → VK → Prop := fun vs H Q => ∃ x, vs = [x] ∧ r x H Q
section
variable {K : PySem.W.Frag} {c : Ctx} {F F1 F2 F3 F' H H1 H2 H3 H' : Hp} {v w : V} {vs : List V} {d e : D} {ds : List D} {Q : VK} {X : Cx}
/-! ### ends of operations -/
theorem Fin.same {x : D} (h : Fin K c F H (.d x) Q) (x0 : Ex F H) (hv : Den K c.CL F v x) : Q v H := h v F H (Ex.refl _) (Ex.refl _) x0 (fun _ e _ => e) hv
theorem Fin.newL {xs : List D} (h : Fin K c F H (.nw xs) Q) (x0 : Ex F H) {p : Addr} (hp : H p = none) (l : DenL K c.CL F vs xs) : Q (.ref p) (upd H p (.lst vs)) := by
  refine h _ F _ (Ex.refl _) (Ex.new hp) (x0.trans (Ex.new hp)) (fun _ e _ => e) ⟨p, vs, rfl, upd_same, ?_, l, hp⟩
  cases q : F p with
  | none => rfl
  | some o => rw [x0 p o q] at hp; cases hp
theorem Fin.newT {xs : List D} (h : Fin K c F H (.d (.tup xs)) Q) (x0 : Ex F H) {p : Addr} (hp : H p = none) (l : DenL K c.CL F vs xs) : Q (.ref p) (upd H p (.tup vs)) := by
  have hF : F p = none := by
    cases q : F p with
    | none => rfl
    | some o => rw [x0 p o q] at hp; cases hp
  exact h _ (upd F p (.tup vs)) _ (Ex.new hF) (Ex.new hp) (Ex.both x0) (fun a e1 e2 => by rw [upd_ne (fun z => by subst z; exact e2.ne hp)]; exact e1) (.tup upd_same (DenL.mono (Ex.new hF) _ l))
/-! ### ints -/
def f2i (h : Int → Int → D) : List D → Option RB
  | [.int i, .int j] => some (.d (h i j))
  | _ => none
def f2ic (C : Int → Int → Bool) (h : Int → Int → D) : List D → Option RB
  | [.int i, .int j] => if C i j then some (.d (h i j)) else none
  | _ => none
theorem f2i_inv {h : Int → Int → D} {res : RB} (e : f2i h ds = some res) : ∃ i j, ds = [.int i, .int j] ∧ res = .d (h i j) := by
  unfold f2i at e
  split at e
  · cases e; exact ⟨_, _, rfl, rfl⟩
  · cases e
theorem f2ic_inv {C : Int → Int → Bool} {h : Int → Int → D} {res : RB} (e : f2ic C h ds = some res) : ∃ i j, ds = [.int i, .int j] ∧ C i j = true ∧ res = .d (h i j) := by
  unfold f2ic at e
  split at e
  · split at e
    · cases e; exact ⟨_, _, rfl, ‹_›, rfl⟩
    · cases e
  · cases e
theorem ints2 {i j : Int} (h : Views K c F H vs [.int i, .int j]) : vs = [.int i, .int j] := by
  cases h with
  | cons h1 t => cases t with
    | cons h2 t => cases t; cases h1; cases h2; rfl
theorem p_i0 {g : Int → Int → V} {h : Int → Int → D} (hd : ∀ F i j, Den K c.CL F (g i j) (h i j)) : Prim K c (two (rI0 g)) (f2i h) := fun F H vs ds res Q x V e f => by
  obtain ⟨i, j, rfl, rfl⟩ := f2i_inv e
  have := ints2 V
  subst this
  exact ⟨_, _, rfl, i, j, rfl, rfl, f.same x (hd F i j)⟩
theorem p_ic {C : Int → Int → Prop} {C' : Int → Int → Bool} {g : Int → Int → V} {h : Int → Int → D} (hC : ∀ i j, C' i j = true → C i j) (hd : ∀ F i j, Den K c.CL F (g i j) (h i j)) : Prim K c (two (rI C g)) (f2ic C' h) := fun F H vs ds res Q x V e f => by
  obtain ⟨i, j, rfl, hc, rfl⟩ := f2ic_inv e
  have := ints2 V
  subst this
  exact ⟨_, _, rfl, i, j, rfl, rfl, hC i j hc, f.same x (hd F i j)⟩
abbrev fSub := f2i fun i j => .int (i - j)
abbrev fLt := f2i fun i j => .bl (decide (i < j))
abbrev fLe := f2i fun i j => .bl (decide (i ≤ j))
abbrev fGt := f2i fun i j => .bl (decide (j < i))
abbrev fGe := f2i fun i j => .bl (decide (j ≤ i))
/-- one factor is below 2 ^ 64 -/
def mulOk (i j : Int) : Bool := (decide (-18446744073709551616 < i) && decide (i < 18446744073709551616)) || (decide (-18446744073709551616 < j) && decide (j < 18446744073709551616))
def divOk (_ j : Int) : Bool := decide (0 < j) && decide (j < 1073741824)
def modOk (_ j : Int) : Bool := decide (0 < j)
def powOk (i j : Int) : Bool := decide (0 ≤ j) && decide (j ≤ 1000000) && decide (i.natAbs < 18446744073709551616)
abbrev fDiv := f2ic divOk fun i j => .int (i / j)
abbrev fMod := f2ic modOk fun i j => .int (i % j)
abbrev fPow := f2ic powOk fun i j => .int (i ^ j.toNat)
theorem p_sub : Prim K c (two (rI0 fun i j => .int (i - j))) fSub := p_i0 fun _ _ _ => .int _
theorem p_lt : Prim K c (two (rI0 fun i j => .bl (decide (i < j)))) fLt := p_i0 fun _ _ _ => .bl _
theorem p_le : Prim K c (two (rI0 fun i j => .bl (decide (i ≤ j)))) fLe := p_i0 fun _ _ _ => .bl _
theorem p_gt : Prim K c (two (rI0 fun i j => .bl (decide (j < i)))) fGt := p_i0 fun _ _ _ => .bl _
theorem p_ge : Prim K c (two (rI0 fun i j => .bl (decide (j ≤ i)))) fGe := p_i0 fun _ _ _ => .bl _
theorem p_div : Prim K c (two (rI CDiv fun i j => .int (i / j))) fDiv := p_ic (fun i j h => by
  unfold divOk at h
  simp only [Bool.and_eq_true, decide_eq_true_eq] at h
  exact h) fun _ _ _ => .int _
theorem p_mod : Prim K c (two (rI (fun _ j => 0 < j) fun i j => .int (i % j))) fMod := p_ic (fun i j h => by
  unfold modOk at h
  simpa using h) fun _ _ _ => .int _
theorem p_pow : Prim K c (two (rI CPow fun i j => .int (i ^ j.toNat))) fPow := p_ic (fun i j h => by
  unfold powOk at h
  simp only [Bool.and_eq_true, decide_eq_true_eq] at h
  exact ⟨h.1.1, h.1.2, h.2⟩) fun _ _ _ => .int _
def fNeg : List D → Option RB
  | [.int i] => some (.d (.int (-i)))
  | _ => none
theorem p_neg : Prim K c (one (rU fun i => .int (-i))) fNeg := fun F H vs ds res Q x V e f => by
  unfold fNeg at e
  split at e
  · cases e
    cases V with
    | cons h t => cases t; cases h; exact ⟨_, rfl, _, rfl, f.same x (.int _)⟩
  · cases e
/-! ### + -/
def fAdd : List D → Option RB
  | [.int i, .int j] => some (.d (.int (i + j)))
  | [.lst xs, .lst ys] => if xs.length + ys.length ≤ sizeLine then some (.nw (xs ++ ys)) else none
  | [.tup xs, .tup ys] => if xs.length + ys.length ≤ sizeLine then some (.d (.tup (xs ++ ys))) else none
  | [.str x, .str y] => if x.length + y.length ≤ sizeLine then some (.d (.str (x ++ y))) else none
  | _ => none
abbrev rAdd (K : PySem.W.Frag) : R2 := fun x y H Q => rI0 (fun i j => .int (i + j)) x y H Q ∨ rCat x y H Q ∨ rCatA K x y H Q ∨ ∃ i j, x = .str i ∧ y = .str j ∧ i.length + j.length ≤ sizeLine ∧ Q (.str (i ++ j)) H
theorem o_add : OpR X (binaryOp .Add) (rAdd X.K) := OpR.or op_add (OpR.or op_cat (OpR.or op_catA op_add_str))
theorem p_add : Prim K c (two (rAdd K)) fAdd := fun F H vs ds res Q x V e f => by
  unfold fAdd at e
  split at e
  · cases e
    have := ints2 V
    subst this
    exact ⟨_, _, rfl, .inl ⟨_, _, rfl, rfl, f.same x (.int _)⟩⟩
  · split at e
    · rename_i hl
      cases e
      cases V with
      | cons h1 t => cases t with
        | cons h2 t =>
          cases t
          obtain ⟨a, us, rfl, q1, l1⟩ := h1
          obtain ⟨b, ws, rfl, q2, l2⟩ := h2
          exact ⟨_, _, rfl, .inr (.inl ⟨a, b, us, ws, rfl, rfl, q1, q2, by rw [l1.length, l2.length]; exact hl, fun p hp => f.newL x hp (l1.append l2)⟩)⟩
    · cases e
  · split at e
    · rename_i xs ys hl
      cases e
      cases V with
      | cons h1 t => cases t with
        | cons h2 t =>
          cases t
          cases h1 with
          | @tup a us _ q1 l1 => cases h2 with
            | @tup b ws _ q2 l2 =>
              refine ⟨_, _, rfl, .inr (.inr (.inl ⟨a, b, us, ws, rfl, rfl, x.t q1, x.t q2, by rw [l1.length, l2.length]; exact hl, fun hu => ?_, fun hu hw => ?_, fun hu hw p hp => f.newT x hp (l1.append l2)⟩))⟩
              · subst hu
                cases l1
                exact f.same x (.tup q2 l2)
              · subst hw
                cases l2
                exact f.same x (by rw [List.append_nil]; exact .tup q1 l1)
    · cases e
  · split at e
    · rename_i hl
      cases e
      cases V with
      | cons h1 t => cases t with
        | cons h2 t => cases t; cases h1; cases h2; exact ⟨_, _, rfl, .inr (.inr (.inr ⟨_, _, rfl, rfl, hl, f.same x (.str _)⟩))⟩
    · cases e
  · cases e
/-! ### * -/
def repL : Nat → List D → List D
  | 0, _ => []
  | n + 1, xs => xs ++ repL n xs
theorem repL_eq (n : Nat) (xs : List D) : repL n xs = (List.replicate n xs).flatten := by
  induction n with
  | zero => rfl
  | succ n ih => rw [repL, ih, List.replicate_succ, List.flatten_cons]
theorem DenL.rep (l : DenL K c.CL F vs ds) : ∀ n : Nat, DenL K c.CL F (List.replicate n vs).flatten (List.replicate n ds).flatten
  | 0 => .nil
  | n + 1 => by
    rw [List.replicate_succ, List.replicate_succ, List.flatten_cons, List.flatten_cons]
    exact l.append (DenL.rep l n)
def fMul : List D → Option RB
  | [.int i, .int j] => if mulOk i j then some (.d (.int (i * j))) else none
  | [.lst xs, .int k] => if k ≤ 1000000 ∧ -1000000 ≤ k ∧ xs.length * k.toNat ≤ sizeLine then some (.nw (repL k.toNat xs)) else none
  | [.tup xs, .int k] => if xs ≠ [] ∧ 2 ≤ k ∧ k ≤ 1000 ∧ xs.length ≤ 1000 then some (.d (.tup (repL k.toNat xs))) else if k = 1 then some (.d (.tup xs)) else if xs ≠ [] ∧ -1000000 ≤ k ∧ k ≤ 0 then some (.d (.tup [])) else none
  | _ => none
end
end Ev
set_option maxHeartbeats 4000000
namespace Ev
open PySem PySem.Spec PyProof.Rows L2
theorem tuple_mul1 (l : Addr) (items : Array Value) (n : Nat) (dd : Option Addr) (sl : Array (Option Value)) (x : Int) (u : Tok) (c0 : (decide (x < -(2 ^ 63)) || decide (x ≥ 2 ^ 63)) = false) (c1 : (items.isEmpty || x == 1) = true) :
    Meets (Builtin.«tuple.__mul__» ⟨[.ref l, .int x u], []⟩) (fun _ R s => s.heap.get? l = some { cls := .type "tuple", dict := dd, data := .seq items n, slots := sl } ∧
      R (.ok (.ret (Value.ref l))) s) :=
  .of_wp fun prog w A R s h => by
    obtain ⟨hp, g, d, tk, os⟩ := s
    obtain ⟨hl, h⟩ := h
    have f1 := AutoSeq1.idx_int
    wp_walk using wpAny_loadPart' hl
    repeat (first
      | (refine wpAny_ite_false (decide_eq_false (by rw [c0]; exact Bool.false_ne_true)) ?_; wp_walk using wpAny_loadPart' hl)
      | (refine wpAny_ite_true (decide_eq_true c1) ?_; wp_walk using wpAny_loadPart' hl))
    exact ⟨_, rfl, h⟩
def rRepT1 (K : PySem.W.Frag) : R2 := fun x y H Q => ∃ l xs, x = .ref l ∧ y = .int 1 ∧ SqT K H l xs ∧ Q (.ref l) H
theorem op_repT1 {X : Cx} : OpR X (binaryOp .Mult) (rRepT1 X.K) := by
  intro pins s σ H x y v u Q I rx ry h
  obtain ⟨l, xs, rfl, rfl, hT, q⟩ := h
  cases rx
  obtain ⟨t, rfl⟩ := ry
  obtain ⟨its, r, ⟨⟨cls, dd, data, sl⟩, ho, hc, n, hd⟩, hs⟩ := I.tuple hT
  simp only at hc hd
  subst hc hd
  refine wpAny_binaryOp_repeat_ref (T := "tuple") (U := "int") (by decide) ⟨_, ho, rfl⟩ (fun s' => typeIs_int s' 1 t) noFill_tuple_mul F.fills_int_mul F.slot_int_rmul repeat_tuple F.slot_int_index.lookup
    (call_meets F.slot_int_rmul (typeIs_int s 1 t) F.entry_int_rmul (F.args_int_rmul_2 _ _) (int_rmul_tuple 1 t l its.toArray n dd sl)
      ⟨ho, rfl, ⟨_, ho, rfl⟩, call_meets F.slot_tuple_mul ⟨_, ho, rfl⟩ F.entry_tuple_mul (F.args_tuple_mul_2 _ _) (tuple_mul1 l its.toArray n dd sl 1 t (by decide) (by simp)) ⟨ho, ?_⟩⟩)
  exact ⟨.ref l, H, I, rfl, q⟩
end Ev
set_option maxHeartbeats 4000000
namespace Ev
open PySem PySem.Spec PyProof.Rows L2
/-! ### t * k, k at most 0: a new empty tuple -/
theorem tuple_mul0 (l : Addr) (its : Array Value) (n : Nat) (dd : Option Addr) (sl : Array (Option Value)) (x : Int) (u : Tok) (e0 : (decide (x < -(2 ^ 63)) || decide (x ≥ 2 ^ 63)) = false) (e1 : (its.isEmpty || x == 1) = false) (e2 : (decide (x ≤ 0) || its.isEmpty) = true) :
    Meets (Builtin.«tuple.__mul__» ⟨[.ref l, .int x u], []⟩) (fun _ R s => s.heap.get? l = some { cls := .type "tuple", dict := dd, data := .seq its n, slots := sl } ∧
      R (.ok (.ret (Value.ref s.heap.objs.size))) { s with heap := s.heap.push { cls := Value.type "tuple", data := Data.seq #[] }, toks := s.toks }) :=
  .of_wp fun prog w A R s h => by
    obtain ⟨hp, g, d, tk, os⟩ := s
    obtain ⟨hl, h⟩ := h
    have f1 := AutoSeq1.idx_int
    wp_walk using wpAny_loadPart' hl
    repeat (first
      | (refine wpAny_ite_false (decide_eq_false (by rw [e0]; exact Bool.false_ne_true)) ?_; wp_walk using wpAny_loadPart' hl)
      | (refine wpAny_ite_false (decide_eq_false (by rw [e1]; exact Bool.false_ne_true)) ?_; wp_walk using wpAny_loadPart' hl)
      | (refine wpAny_ite_true (decide_eq_true e2) ?_; wp_walk using wpAny_loadPart' hl))
    exact ⟨_, rfl, h⟩
def rRepT0 (K : PySem.W.Frag) : R2 := fun x y H Q => ∃ l k xs, x = .ref l ∧ y = .int k ∧ SqT K H l xs ∧ xs ≠ [] ∧ -1000000 ≤ k ∧ k ≤ 0 ∧ ∀ p, H p = none → Q (.ref p) (upd H p (.tup []))
theorem op_repT0 {X : Cx} : OpR X (binaryOp .Mult) (rRepT0 X.K) := by
  intro pins s σ H x y v u Q I rx ry h
  obtain ⟨l, k, xs, rfl, rfl, hT, hne, h1, h2, q⟩ := h
  cases rx
  obtain ⟨t, rfl⟩ := ry
  obtain ⟨its, r, ⟨⟨cls, dd, data, sl⟩, ho, hc, n, hd⟩, hs⟩ := I.tuple hT
  simp only at hc hd
  subst hc hd
  have hi : its.toArray.isEmpty = false := by
    cases r with
    | nil => exact absurd rfl hne
    | cons _ _ => rfl
  refine wpAny_binaryOp_repeat_ref (T := "tuple") (U := "int") (by decide) ⟨_, ho, rfl⟩ (fun s' => typeIs_int s' k t) noFill_tuple_mul F.fills_int_mul F.slot_int_rmul repeat_tuple F.slot_int_index.lookup
    (call_meets F.slot_int_rmul (typeIs_int s k t) F.entry_int_rmul (F.args_int_rmul_2 _ _) (int_rmul_tuple k t l its.toArray n dd sl)
      ⟨ho, rfl, ⟨_, ho, rfl⟩, call_meets F.slot_tuple_mul ⟨_, ho, rfl⟩ F.entry_tuple_mul (F.args_tuple_mul_2 _ _) (tuple_mul0 l its.toArray n dd sl k t (by simp; omega) (by rw [hi]; simp; omega) (by simp [h2])) ⟨ho, ?_⟩⟩)
  exact ⟨.ref s.heap.objs.size, _, I.laid (t' := s.toks) (o := .tup []) (fun b ob q => Heap.get?_push_of_some _ q) (Nat.le_refl _) ⟨by rw [sizeLine_eq]; simp, [], .nil, IsTup.new _ _⟩, rfl, q _ (I.hok.fresh (Nat.le_refl _))⟩
end Ev
namespace Ev
open PySem L2
section
variable {K : PySem.W.Frag} {c : Ctx} {F F1 F2 F3 F' H H1 H2 H3 H' : Hp} {v w : V} {vs : List V} {d e : D} {ds : List D} {Q : VK} {X : Cx} {σ : St}
abbrev rMul (K : PySem.W.Frag) : R2 := fun x y H Q => rI CMul (fun i j => .int (i * j)) x y H Q ∨ rRep x y H Q ∨ rRepT K x y H Q ∨ rRepT1 K x y H Q ∨ rRepT0 K x y H Q
theorem o_mul : OpR X (binaryOp .Mult) (rMul X.K) := OpR.or op_mul (OpR.or op_rep (OpR.or op_repT (OpR.or op_repT1 op_repT0)))
theorem p_mul : Prim K c (two (rMul K)) fMul := fun F H vs ds res Q x V e f => by
  unfold fMul at e
  split at e
  · split at e
    · rename_i hc
      cases e
      have := ints2 V
      subst this
      refine ⟨_, _, rfl, .inl ⟨_, _, rfl, rfl, ?_, f.same x (.int _)⟩⟩
      unfold mulOk at hc
      simp only [Bool.or_eq_true, Bool.and_eq_true, decide_eq_true_eq] at hc
      exact hc
    · cases e
  · split at e
    · rename_i xs k hl
      cases e
      cases V with
      | cons h1 t => cases t with
        | cons h2 t =>
          cases t
          cases h2
          obtain ⟨a, us, rfl, q1, l1⟩ := h1
          refine ⟨_, _, rfl, .inr (.inl ⟨a, k, us, rfl, rfl, q1, by omega, by omega, by rw [l1.length]; exact hl.2.2, fun p hp => f.newL x hp ?_⟩)⟩
          rw [repL_eq]
          exact l1.rep _
    · cases e
  · split at e
    · rename_i xs k hl
      cases e
      cases V with
      | cons h1 t => cases t with
        | cons h2 t =>
          cases t
          cases h2
          cases h1 with
          | @tup a us _ q1 l1 =>
            refine ⟨_, _, rfl, .inr (.inr (.inl ⟨a, k, us, rfl, rfl, x.t q1, fun z => hl.1 ?_, hl.2.1, hl.2.2.1, by rw [l1.length]; exact hl.2.2.2, fun p hp => f.newT x hp ?_⟩))⟩
            · subst z; cases l1; rfl
            · rw [repL_eq]
              exact l1.rep _
    · split at e
      · rename_i hk
        subst hk
        cases e
        cases V with
        | cons h1 t => cases t with
          | cons h2 t =>
            cases t
            cases h2
            cases h1 with
            | @tup a us _ q1 l1 => exact ⟨_, _, rfl, .inr (.inr (.inr (.inl ⟨a, us, rfl, rfl, x.t q1, f.same x (.tup q1 l1)⟩)))⟩
      · split at e
        · rename_i hk
          cases e
          cases V with
          | cons h1 t => cases t with
            | cons h2 t =>
              cases t
              cases h2
              cases h1 with
              | @tup a us _ q1 l1 => exact ⟨_, _, rfl, .inr (.inr (.inr (.inr ⟨a, _, us, rfl, rfl, x.t q1, fun z => hk.1 (by subst z; cases l1; rfl), hk.2.1, hk.2.2, fun p hp => f.newT x hp .nil⟩)))⟩
        · cases e
  · cases e
/-! ### == -/
mutual
def D.py : D → Option PyData
  | .non => some .none
  | .bl b => some (.bool b)
  | .int i => some (.int i)
  | .str x => some (.str x)
  | .tup xs => match D.pys xs with
    | some ps => some (.tuple ps)
    | none => none
  | .lst xs => match D.pys xs with
    | some ps => some (.list ps)
    | none => none
  | .ro xs => match D.pys xs with
    | some ps => some (.list ps)
    | none => none
  | .obj _ _ => none
  | .dk _ _ => none
  | .dt _ _ => none
  | .tn _ => none
  | .ty _ => none
  | .cls _ => none
def D.pys : List D → Option (List PyData)
  | [] => some []
  | d :: ds => match D.py d with
    | none => none
    | some p => match D.pys ds with
      | none => none
      | some ps => some (p :: ps)
end
mutual
theorem den_dp : ∀ (d : D) {p : PyData} {v : V}, d.py = some p → Den K c.CL F v d → Dp K F v p
  | .non, _, _, e, h => by cases e; cases h; exact .non
  | .bl b, _, _, e, h => by cases e; cases h; exact .bl b
  | .int b, _, _, e, h => by cases e; cases h; exact .int b
  | .str b, _, _, e, h => by cases e; cases h; exact .str b
  | .tup xs, p, _, e, .tup h l => by
    unfold D.py at e
    split at e
    · rename_i ps q
      cases e
      exact .tup (.inl (.inl h)) (dens_dp xs q l)
    · cases e
  | .lst xs, p, _, e, .lst h l => by
    unfold D.py at e
    split at e
    · rename_i ps q
      cases e
      exact .lst (.inl (.inl h)) (dens_dp xs q l)
    · cases e
  | .ro xs, p, _, e, .ro h l => by
    unfold D.py at e
    split at e
    · rename_i ps q
      cases e
      exact .lst h (dens_dp xs q l)
    · cases e
  | .obj _ _, _, _, e, _ => by cases e
  | .dk _ _, _, _, e, _ => by cases e
  | .dt _ _, _, _, e, _ => by cases e
  | .tn _, _, _, e, _ => by cases e
  | .ty _, _, _, e, _ => by cases e
  | .cls _, _, _, e, _ => by cases e
theorem dens_dp : ∀ (ds : List D) {ps : List PyData} {vs : List V}, D.pys ds = some ps → DenL K c.CL F vs ds → DpAll K F vs ps
  | [], _, _, e, .nil => by cases e; exact .nil
  | d :: ds, _, _, e, .cons h l => by
    unfold D.pys at e
    split at e
    · cases e
    · rename_i p q
      split at e
      · cases e
      · rename_i ps q2
        cases e
        exact .cons (den_dp d q h) (dens_dp ds q2 l)
end
mutual
theorem dp_mono (x : Ex F H) : ∀ {v : V} {p : PyData}, Dp K F v p → Dp K H v p
  | _, _, .non => .non
  | _, _, .bl b => .bl b
  | _, _, .int b => .int b
  | _, _, .str b => .str b
  | _, _, .lst h l => .lst (x.l h) (dps_mono x l)
  | _, _, .tup h l => .tup (x.tS h) (dps_mono x l)
theorem dps_mono (x : Ex F H) : ∀ {vs : List V} {ps : List PyData}, DpAll K F vs ps → DpAll K H vs ps
  | _, _, .nil => .nil
  | _, _, .cons h l => .cons (dp_mono x h) (dps_mono x l)
end
theorem View.dp (x : Ex F H) {p : PyData} (h : View K c F H v d) (e : d.py = some p) : Dp K H v p := by
  cases d with
  | lst xs =>
    obtain ⟨a, us, rfl, q, l⟩ := h
    unfold D.py at e
    split at e
    · rename_i ps z
      cases e
      exact .lst (.inl (.inl q)) (dps_mono x (dens_dp xs z l))
    · cases e
  | non => exact dp_mono x (den_dp _ e h)
  | bl _ => exact dp_mono x (den_dp _ e h)
  | int _ => exact dp_mono x (den_dp _ e h)
  | str _ => exact dp_mono x (den_dp _ e h)
  | tup _ => exact dp_mono x (den_dp _ e h)
  | ro _ => exact dp_mono x (den_dp _ e h)
  | obj _ _ => exact dp_mono x (den_dp _ e h)
  | dk _ _ => exact dp_mono x (den_dp _ e h)
  | dt _ _ => exact dp_mono x (den_dp _ e h)
  | tn _ => exact dp_mono x (den_dp _ e h)
  | ty _ => exact dp_mono x (den_dp _ e h)
  | cls _ => exact dp_mono x (den_dp _ e h)
def eqD? (d e : D) : Option Bool := match d.py, e.py with
  | some p, some q => if SeqAt.shaped p = true ∧ SeqAt.shaped q = true then some (PyData.eqv p q) else none
  | _, _ => none
def fEq : List D → Option RB
  | [a, b] => match eqD? a b with
    | some k => some (.d (.bl k))
    | none => none
  | _ => none
def fNe : List D → Option RB
  | [a, b] => match eqD? a b with
    | some k => some (.d (.bl (!k)))
    | none => none
  | _ => none
theorem eqD_inv {k : Bool} (h : eqD? d e = some k) : ∃ p q, d.py = some p ∧ e.py = some q ∧ SeqAt.shaped p = true ∧ SeqAt.shaped q = true ∧ k = PyData.eqv p q := by
  unfold eqD? at h
  split at h
  · rename_i p q h1 h2
    split at h
    · rename_i hs
      cases h
      exact ⟨p, q, h1, h2, hs.1, hs.2, rfl⟩
    · cases h
  · cases h
theorem p_eq : Prim K c (two (rEqD K)) fEq := fun F H vs ds res Q x V e f => by
  unfold fEq at e
  split at e
  · split at e
    · rename_i k hk
      cases e
      obtain ⟨p, q, h1, h2, s1, s2, rfl⟩ := eqD_inv hk
      cases V with
      | cons v1 t => cases t with
        | cons v2 t => cases t; exact ⟨_, _, rfl, p, q, v1.dp x h1, v2.dp x h2, s1, s2, f.same x (.bl _)⟩
    · cases e
  · cases e
theorem p_ne : Prim K c (two (rNeD K)) fNe := fun F H vs ds res Q x V e f => by
  unfold fNe at e
  split at e
  · split at e
    · rename_i k hk
      cases e
      obtain ⟨p, q, h1, h2, s1, s2, rfl⟩ := eqD_inv hk
      cases V with
      | cons v1 t => cases t with
        | cons v2 t => cases t; exact ⟨_, _, rfl, p, q, v1.dp x h1, v2.dp x h2, s1, s2, f.same x (.bl _)⟩
    · cases e
  · cases e
/-! ### is -/
def D.isNon : D → Bool
  | .non => true
  | _ => false
def fIsN : List D → Option RB
  | [a, .non] => some (.d (.bl a.isNon))
  | _ => none
def fNotN : List D → Option RB
  | [a, .non] => some (.d (.bl (!a.isNon)))
  | _ => none
theorem View.non (h : View K c F H v d) : decide (v = .non) = d.isNon := by
  cases d with
  | lst xs => obtain ⟨a, us, rfl, _⟩ := h; rfl
  | non => cases h; rfl
  | bl _ => cases h; rfl
  | int _ => cases h; rfl
  | str _ => cases h; rfl
  | tup _ => cases h; rfl
  | ro _ => cases h; rfl
  | obj _ _ => cases h; rfl
  | dk _ _ => cases h; rfl
  | dt _ _ => cases h; rfl
  | tn _ => cases h; rfl
  | ty _ => cases h; rfl
  | cls _ => cases h; rfl
theorem p_isN : Prim K c (two fun x y H Q => y = .non ∧ Q (.bl (decide (x = .non))) H) fIsN := fun F H vs ds res Q x V e f => by
  unfold fIsN at e
  split at e
  · cases e
    cases V with
    | cons v1 t => cases t with
      | cons v2 t => cases t; cases v2; exact ⟨_, _, rfl, rfl, by rw [v1.non]; exact f.same x (.bl _)⟩
  · cases e
theorem p_notN : Prim K c (two fun x y H Q => y = .non ∧ Q (.bl (!decide (x = .non))) H) fNotN := fun F H vs ds res Q x V e f => by
  unfold fNotN at e
  split at e
  · cases e
    cases V with
    | cons v1 t => cases t with
      | cons v2 t => cases t; cases v2; exact ⟨_, _, rfl, rfl, by rw [v1.non]; exact f.same x (.bl _)⟩
  · cases e
def fNotB : List D → Option RB
  | [.bl a, .bl b] => some (.d (.bl (!decide (a = b))))
  | _ => none
theorem p_notB : Prim K c (two fun x y H Q => ∃ a b, x = .bl a ∧ y = .bl b ∧ Q (.bl (!decide (a = b))) H) fNotB := fun F H vs ds res Q x V e f => by
  unfold fNotB at e
  split at e
  · cases e
    cases V with
    | cons v1 t => cases t with
      | cons v2 t => cases t; cases v1; cases v2; exact ⟨_, _, rfl, _, _, rfl, rfl, f.same x (.bl _)⟩
  · cases e
/-! ### in -/
def anyEqv (p : PyData) (ps : List PyData) : Bool := ps.any fun z => PyData.eqv z p
def in? (a : D) (xs : D) : Option Bool := match a.py, xs.py with
  | some p, some (.list ps) => if SeqAt.shaped p = true ∧ SeqAt.shaped (.list ps) = true then some (anyEqv p ps) else none
  | _, _ => none
theorem in_inv {a xs : D} {k : Bool} (h : in? a xs = some k) : ∃ p ps, a.py = some p ∧ xs.py = some (.list ps) ∧ SeqAt.shaped p = true ∧ SeqAt.shaped (.list ps) = true ∧ k = anyEqv p ps := by
  unfold in? at h
  split at h
  · rename_i p ps h1 h2
    split at h
    · rename_i hs
      cases h
      exact ⟨p, ps, h1, h2, hs.1, hs.2, rfl⟩
    · cases h
  · cases h
/-! ### items -/
def fIx : List D → Option RB
  | [.lst xs, .int i] => match atI xs i with
    | some d => some (.d d)
    | none => none
  | [.tup xs, .int i] => match atI xs i with
    | some d => some (.d d)
    | none => none
  | [.ro xs, .int i] => match atI xs i with
    | some d => some (.d d)
    | none => none
  | [.tn xs, .int i] => match atI xs i with
    | some d => some (.d d)
    | none => none
  | _ => none
theorem DenL.at (l : DenL K c.CL F vs ds) {i : Int} {d : D} (e : atI ds i = some d) : ∃ v, atI vs i = some v ∧ Den K c.CL F v d := by
  unfold atI at e ⊢
  rw [l.length]
  cases q : ixN ds.length i with
  | none => rw [q] at e; cases e
  | some j => rw [q] at e; exact l.get e
theorem p_ix : Prim K c (two (rIx K)) fIx := fun F H vs ds res Q x V e f => by
  unfold fIx at e
  split at e
  · split at e
    · rename_i d q
      cases e
      cases V with
      | cons v1 t => cases t with
        | cons v2 t =>
          cases t; cases v2
          obtain ⟨a, us, rfl, q1, l1⟩ := v1
          obtain ⟨v, q2, q3⟩ := l1.at q
          exact ⟨_, _, rfl, .inl ⟨a, us, _, v, rfl, rfl, .inl (.inl q1), q2, f.same x q3⟩⟩
    · cases e
  · split at e
    · rename_i d q
      cases e
      cases V with
      | cons v1 t => cases t with
        | cons v2 t =>
          cases t; cases v2
          cases v1 with
          | @tup a us _ q1 l1 =>
            obtain ⟨v, q2, q3⟩ := l1.at q
            exact ⟨_, _, rfl, .inr (.inl ⟨a, us, _, v, rfl, rfl, x.t q1, q2, f.same x q3⟩)⟩
    · cases e
  · split at e
    · rename_i d q
      cases e
      cases V with
      | cons v1 t => cases t with
        | cons v2 t =>
          cases t; cases v2
          cases v1 with
          | @ro a us _ q1 l1 =>
            obtain ⟨v, q2, q3⟩ := l1.at q
            exact ⟨_, _, rfl, .inl ⟨a, us, _, v, rfl, rfl, x.l q1, q2, f.same x q3⟩⟩
    · cases e
  · split at e
    · rename_i d q
      cases e
      cases V with
      | cons v1 t => cases t with
        | cons v2 t =>
          cases t; cases v2
          cases v1 with
          | @tn a o us _ q1 ho l1 =>
            obtain ⟨v, q2, q3⟩ := l1.at q
            exact ⟨_, _, rfl, .inr (.inl ⟨a, us, _, v, rfl, rfl, .inl (.inr ⟨o, x _ _ q1⟩), q2, f.same x q3⟩)⟩
    · cases e
  · cases e
/-! ### slices -/
def cutD (xs : List D) (lo hi : Option Int) : List D := (xs.drop (HT.sIx xs.length 0 lo)).take (HT.sIx xs.length xs.length hi - HT.sIx xs.length 0 lo)
theorem DenL.cut (l : DenL K c.CL F vs ds) (lo hi : Option Int) : DenL K c.CL F (cutV vs lo hi) (cutD ds lo hi) := by
  unfold cutV cutD
  rw [l.length]
  exact (l.drop _).take _
def cut? (lo hi : Option Int) : D → Option RB
  | .lst xs => some (.nw (cutD xs lo hi))
  | .ro xs => some (.nw (cutD xs lo hi))
  | .tup xs => some (.d (.tup (cutD xs lo hi)))
  | _ => none
abbrev rCut (K : PySem.W.Frag) : V → Option Int → Option Int → Hp → VK → Prop := fun x lo hi H Q => rSlL K x lo hi H Q ∨ rSlA K x lo hi H Q
theorem SlR.or {r r' : V → Option Int → Option Int → Hp → VK → Prop} (h : SlR X r) (h' : SlR X r') : SlR X (fun x lo hi H Q => r x lo hi H Q ∨ r' x lo hi H Q) := by
  intro pins s σ H x v vl vu lo hi sl Q I rx hs pl pu q
  rcases q with q | q
  · exact h pins s σ H x v vl vu lo hi sl Q I rx hs pl pu q
  · exact h' pins s σ H x v vl vu lo hi sl Q I rx hs pl pu q
theorem sl_cut : SlR X (rCut X.K) := SlR.or sl_list sl_tupA
theorem cut_fin {lo hi : Option Int} {res : RB} (x : Ex F H) (hv : View K c F H v d) (e : cut? lo hi d = some res) (f : Fin K c F H res Q) : rCut K v lo hi H Q := by
  unfold cut? at e
  split at e
  · cases e
    obtain ⟨a, us, rfl, q1, l1⟩ := hv
    exact .inl ⟨a, us, rfl, .inl (.inl q1), fun p hp => f.newL x hp (l1.cut lo hi)⟩
  · cases e
    cases hv with
    | @ro a us _ q1 l1 => exact .inl ⟨a, us, rfl, x.l q1, fun p hp => f.newL x hp (l1.cut lo hi)⟩
  · cases e
    cases hv with
    | @tup a us _ q1 l1 =>
      refine .inr ⟨a, us, rfl, x.t q1, fun hz => f.same x ?_, fun _ p hp => f.newT x hp (l1.cut lo hi)⟩
      rename_i xs
      have : cutD xs lo hi = xs := by
        unfold cutD
        rw [← l1.length, hz.1, hz.2, l1.length]
        simp
      rw [this]
      exact .tup q1 l1
  · cases e
def fCutL : List D → Option RB
  | [d, .int i] => cut? (some i) none d
  | _ => none
theorem p_cutL : Prim K c (two fun x y H Q => ∃ i, y = .int i ∧ rCut K x (some i) none H Q) fCutL := fun F H vs ds res Q x V e f => by
  unfold fCutL at e
  split at e
  · cases V with
    | cons v1 t => cases t with
      | cons v2 t => cases t; cases v2; exact ⟨_, _, rfl, _, rfl, cut_fin x v1 e f⟩
  · cases e
theorem e_cutL {c : Ctx} {x : Expr} {a b : E} (h : PE X x (tSl (rCut X.K) (tEv X.K c a) (tPart (tEv X.K c b)) tNoPart)) : PEv X c x (.prim fCutL (.cons a (.cons b .nil))) := PE.wk h fun _ _ _ q => prim_go2 p_cutL q
/-! ### len, int, abs, tuple, list, any, all, sum -/
def fLen : List D → Option RB
  | [.lst xs] => some (.d (.int xs.length))
  | [.ro xs] => some (.d (.int xs.length))
  | [.tup xs] => some (.d (.int xs.length))
  | [.str x] => if x.length ≤ sizeLine then some (.d (.int x.length)) else none
  | _ => none
theorem p_len : Prim K c (fun xs H Q => ∃ x n, xs = [x] ∧ LenV K x H n ∧ Q (.int n) H) fLen := fun F H vs ds res Q x V e f => by
  unfold fLen at e
  split at e
  · cases e
    cases V with
    | cons v1 t => cases t; obtain ⟨a, us, rfl, q1, l1⟩ := v1; exact ⟨_, us.length, rfl, .inl ⟨us, .inl (.inl q1), rfl⟩, by rw [l1.length]; exact f.same x (.int _)⟩
  · cases e
    cases V with
    | cons v1 t => cases t; cases v1 with | @ro a us _ q1 l1 => exact ⟨_, us.length, rfl, .inl ⟨us, x.l q1, rfl⟩, by rw [l1.length]; exact f.same x (.int _)⟩
  · cases e
    cases V with
    | cons v1 t => cases t; cases v1 with | @tup a us _ q1 l1 => exact ⟨_, us.length, rfl, .inr ⟨us, x.t q1, rfl⟩, by rw [l1.length]; exact f.same x (.int _)⟩
  · split at e
    · rename_i hl
      cases e
      cases V with
      | cons v1 t => cases t; cases v1; exact ⟨_, _, rfl, ⟨hl, rfl⟩, f.same x (.int _)⟩
    · cases e
  · cases e
def fInt : List D → Option RB
  | [.int i] => some (.d (.int i))
  | [.bl b] => some (.d (.int (if b then 1 else 0)))
  | _ => none
theorem p_int : Prim K c (fun xs H Q => (∃ i, xs = [.int i] ∧ Q (.int i) H) ∨ ∃ k, xs = [.bl k] ∧ Q (.int (if k then 1 else 0)) H) fInt := fun F H vs ds res Q x V e f => by
  unfold fInt at e
  split at e
  · cases e
    cases V with
    | cons v1 t => cases t; cases v1; exact .inl ⟨_, rfl, f.same x (.int _)⟩
  · cases e
    cases V with
    | cons v1 t => cases t; cases v1; exact .inr ⟨_, rfl, f.same x (.int _)⟩
  · cases e
def fAbs : List D → Option RB
  | [.int i] => some (.d (.int (if i < 0 then -i else i)))
  | _ => none
theorem p_abs : Prim K c (fun xs H Q => ∃ i, xs = [.int i] ∧ Q (.int (if i < 0 then -i else i)) H) fAbs := fun F H vs ds res Q x V e f => by
  unfold fAbs at e
  split at e
  · cases e
    cases V with
    | cons v1 t => cases t; cases v1; exact ⟨_, rfl, f.same x (.int _)⟩
  · cases e
def fTuple : List D → Option RB
  | [.lst xs] => some (.d (.tup xs))
  | [.ro xs] => some (.d (.tup xs))
  | [.tup xs] => some (.d (.tup xs))
  | _ => none
theorem p_tuple : Prim K c (fun xs H Q => ∃ p ys, xs = [.ref p] ∧ ((SqL K H p ys ∧ ∀ l, H l = none → Q (.ref l) (upd H l (.tup ys))) ∨ (SqT K H p ys ∧ Q (.ref p) H))) fTuple := fun F H vs ds res Q x V e f => by
  unfold fTuple at e
  split at e
  · cases e
    cases V with
    | cons v1 t => cases t; obtain ⟨a, us, rfl, q1, l1⟩ := v1; exact ⟨_, us, rfl, .inl ⟨.inl (.inl q1), fun p hp => f.newT x hp l1⟩⟩
  · cases e
    cases V with
    | cons v1 t => cases t; cases v1 with | @ro a us _ q1 l1 => exact ⟨_, us, rfl, .inl ⟨x.l q1, fun p hp => f.newT x hp l1⟩⟩
  · cases e
    cases V with
    | cons v1 t => cases t; cases v1 with | @tup a us _ q1 l1 => exact ⟨_, us, rfl, .inr ⟨x.t q1, f.same x (.tup q1 l1)⟩⟩
  · cases e
def fList : List D → Option RB
  | [.lst xs] => some (.nw xs)
  | [.ro xs] => some (.nw xs)
  | [.tup xs] => some (.nw xs)
  | _ => none
theorem p_list : Prim K c (fun xs H Q => ∃ p ys, xs = [.ref p] ∧ (SqL K H p ys ∨ SqT K H p ys) ∧ ∀ l, H l = none → Q (.ref l) (upd H l (.lst ys))) fList := fun F H vs ds res Q x V e f => by
  unfold fList at e
  split at e
  · cases e
    cases V with
    | cons v1 t => cases t; obtain ⟨a, us, rfl, q1, l1⟩ := v1; exact ⟨_, us, rfl, .inl (.inl (.inl q1)), fun p hp => f.newL x hp l1⟩
  · cases e
    cases V with
    | cons v1 t => cases t; cases v1 with | @ro a us _ q1 l1 => exact ⟨_, us, rfl, .inl (x.l q1), fun p hp => f.newL x hp l1⟩
  · cases e
    cases V with
    | cons v1 t => cases t; cases v1 with | @tup a us _ q1 l1 => exact ⟨_, us, rfl, .inr (x.t q1), fun p hp => f.newL x hp l1⟩
  · cases e
def bools : List D → Option (List Bool)
  | [] => some []
  | .bl b :: ds => match bools ds with
    | some bs => some (b :: bs)
    | none => none
  | _ => none
theorem DenL.bools : ∀ {vs : List V} {ds : List D} {bs : List Bool}, DenL K c.CL F vs ds → Ev.bools ds = some bs → vs = bs.map V.bl
  | _, _, _, .nil, e => by cases e; rfl
  | _, _, _, .cons (d := d) h t, e => by
    cases d with
    | bl b =>
      unfold Ev.bools at e
      split at e
      · rename_i bs q
        cases e
        cases h
        rw [DenL.bools t q]; rfl
      · cases e
    | _ => cases e
def nums : List D → Option (List Int)
  | [] => some []
  | .int b :: ds => match nums ds with
    | some bs => some (b :: bs)
    | none => none
  | _ => none
theorem DenL.nums : ∀ {vs : List V} {ds : List D} {bs : List Int}, DenL K c.CL F vs ds → Ev.nums ds = some bs → vs = bs.map V.int
  | _, _, _, .nil, e => by cases e; rfl
  | _, _, _, .cons (d := d) h t, e => by
    cases d with
    | int b =>
      unfold Ev.nums at e
      split at e
      · rename_i bs q
        cases e
        cases h
        rw [DenL.nums t q]; rfl
      · cases e
    | _ => cases e
def fAny : List D → Option RB
  | [.lst xs] => match bools xs with
    | some bs => some (.d (.bl (bs.any id)))
    | none => none
  | _ => none
def fAll : List D → Option RB
  | [.lst xs] => match bools xs with
    | some bs => some (.d (.bl (bs.all id)))
    | none => none
  | _ => none
theorem p_any : Prim K c (rAny K) fAny := fun F H vs ds res Q x V e f => by
  unfold fAny at e
  split at e
  · split at e
    · rename_i bs q
      cases e
      cases V with
      | cons v1 t => cases t; obtain ⟨a, us, rfl, q1, l1⟩ := v1; exact ⟨a, bs, rfl, by rw [← l1.bools q]; exact .inl (.inl q1), f.same x (.bl _)⟩
    · cases e
  · cases e
theorem p_all : Prim K c (rAll K) fAll := fun F H vs ds res Q x V e f => by
  unfold fAll at e
  split at e
  · split at e
    · rename_i bs q
      cases e
      cases V with
      | cons v1 t => cases t; obtain ⟨a, us, rfl, q1, l1⟩ := v1; exact ⟨a, bs, rfl, by rw [← l1.bools q]; exact .inl (.inl q1), f.same x (.bl _)⟩
    · cases e
  · cases e
end
end Ev
namespace Ev
open PySem L2
section
variable {K : PySem.W.Frag} {c : Ctx} {F F1 F2 F3 F' H H1 H2 H3 H' : Hp} {v w : V} {vs : List V} {d e : D} {ds : List D} {Q : VK} {X : Cx} {σ : St}
/-! ### what is walked -/
theorem IterV.same {J : It} {items : List D} {R : It → Hp → Prop} (k : ∀ J F' H', Ex F F' → Ex H H' → Ex F' H' → (∀ a, F a = none → Liv H a → F' a = none) → JOk K c F' vs ds J items → R J H') (x : Ex F H) (j : JOk K c F vs ds J items) : R J H :=
  k J F H (Ex.refl _) (Ex.refl _) x (fun _ e _ => e) j
/-- i, i + 1, .. (n of them) -/
def upFrom : Nat → Int → List D
  | 0, _ => []
  | k + 1, i => .int i :: upFrom k (i + 1)
theorem upFrom_length : ∀ (n : Nat) (i : Int), (upFrom n i).length = n
  | 0, _ => rfl
  | k + 1, i => by simp [upFrom, upFrom_length k]
theorem upFrom_get : ∀ (n : Nat) (i : Int) (j : Nat) (d : D), (upFrom n i)[j]? = some d → j < n ∧ d = .int (i + j)
  | 0, _, _, _, e => by simp [upFrom] at e
  | k + 1, i, 0, d, e => by
    simp [upFrom] at e
    subst e
    exact ⟨by omega, by simp⟩
  | k + 1, i, j + 1, d, e => by
    obtain ⟨h1, h2⟩ := upFrom_get k (i + 1) j d (by simpa [upFrom] using e)
    refine ⟨by omega, ?_⟩
    rw [h2]
    congr 1
    push_cast
    omega
theorem j_range {lo : Int} {n : Nat} {F0 : Hp} : JOk K c F0 vs ds (Itr lo n) (upFrom n lo) := fun F H i _ x _ => by
  refine ⟨fun d e => ?_, fun h => ?_⟩
  · obtain ⟨h1, rfl⟩ := upFrom_get n lo i d e
    refine ⟨h1, fun v H' y => ?_⟩
    obtain ⟨rfl, rfl⟩ := y
    exact ⟨F, Ex.refl _, Ex.refl _, x, fun _ e _ => e, .int _⟩
  · rw [upFrom_length] at h
    exact h
def small62 (i : Int) : Bool := decide (-4611686018427387904 ≤ i) && decide (i < 4611686018427387904)
abbrev rRng1 : List V → Hp → (It → Hp → Prop) → Prop := fun vs H1 R => ∃ j : Int, vs = [.int j] ∧ -(2 ^ 62) ≤ j ∧ j < 2 ^ 62 ∧ R (Itr 0 j.toNat) H1
abbrev rRng2 : List V → Hp → (It → Hp → Prop) → Prop := fun vs H1 R => ∃ i j : Int, vs = [.int i, .int j] ∧ (-(2 ^ 62) ≤ i ∧ i < 2 ^ 62 ∧ -(2 ^ 62) ≤ j ∧ j < 2 ^ 62) ∧ R (Itr i (j - i).toNat) H1
def itRange1 : List D → Option (List D)
  | [.int n] => if small62 n then some (upFrom n.toNat 0) else none
  | _ => none
def itRange2 : List D → Option (List D)
  | [.int a, .int b] => if small62 a && small62 b then some (upFrom (b - a).toNat a) else none
  | _ => none
theorem i_range1 : IterV K c rRng1 itRange1 := fun F H vs ds items R x V e k => by
  unfold itRange1 at e
  split at e
  · split at e
    · rename_i hs
      cases e
      unfold small62 at hs
      simp only [Bool.and_eq_true, decide_eq_true_eq] at hs
      cases V with
      | cons v1 t => cases t; cases v1; exact ⟨_, rfl, by omega, by omega, IterV.same k x j_range⟩
    · cases e
  · cases e
theorem i_range2 : IterV K c rRng2 itRange2 := fun F H vs ds items R x V e k => by
  unfold itRange2 at e
  split at e
  · split at e
    · rename_i hs
      cases e
      unfold small62 at hs
      simp only [Bool.and_eq_true, decide_eq_true_eq] at hs
      cases V with
      | cons v1 t => cases t with
        | cons v2 t => cases t; cases v1; cases v2; exact ⟨_, _, rfl, by omega, IterV.same k x j_range⟩
    · cases e
  · cases e
/-- a list, a tuple -/
def itSeq : List D → Option (List D)
  | [.lst xs] => some xs
  | [.tup xs] => some xs
  | [.ro xs] => some xs
  | _ => none
theorem Views.one {d : D} (h : Views K c F H vs [d]) : ∃ v, vs = [v] ∧ View K c F H v d := by
  cases h with
  | cons h t => cases t; exact ⟨_, rfl, h⟩
theorem Views.two {d e : D} (h : Views K c F H vs [d, e]) : ∃ v w, vs = [v, w] ∧ View K c F H v d ∧ View K c F H w e := by
  cases h with
  | cons h t => cases t with
    | cons h2 t => cases t; exact ⟨_, _, rfl, h, h2⟩
theorem j_list {a : Addr} {xs : List D} {d : D} (hd : (d = .lst xs) ∨ (d = .ro xs)) {F0 : Hp} : JOk K c F0 [.ref a] [d] (Itl K a) xs := fun F H i _ x V => by
  have hs : ∃ us, SqL K H a us ∧ DenL K c.CL F us xs := by
    obtain ⟨v, e, hv⟩ := V.one
    cases e
    rcases hd with rfl | rfl
    · obtain ⟨b, us, e, q, l⟩ := hv
      cases e
      exact ⟨us, .inl (.inl q), l⟩
    · cases hv with
      | @ro b us _ q l => exact ⟨us, x.l q, l⟩
  obtain ⟨us, q, l⟩ := hs
  refine ⟨fun d e => ?_, fun h => ⟨us, q, by rw [l.length]; exact h⟩⟩
  obtain ⟨v, h1, h2⟩ := l.get e
  refine ⟨⟨us, v, q, h1⟩, fun y H' z => ?_⟩
  obtain ⟨rfl, z⟩ := z
  have := z us q
  rw [h1] at this
  cases this
  exact ⟨F, Ex.refl _, Ex.refl _, x, fun _ e _ => e, h2⟩
theorem j_tup {a : Addr} {xs : List D} {F0 : Hp} : JOk K c F0 [.ref a] [.tup xs] (Itt K a) xs := fun F H i _ x V => by
  obtain ⟨v, e, hv⟩ := V.one
  cases e
  cases hv with
  | @tup b us _ q l =>
    refine ⟨fun d e => ?_, fun h => ⟨us, x.t q, by rw [l.length]; exact h⟩⟩
    obtain ⟨v, h1, h2⟩ := l.get e
    refine ⟨⟨us, v, x.t q, h1⟩, fun y H' z => ?_⟩
    obtain ⟨rfl, z⟩ := z
    have := z us (x.t q)
    rw [h1] at this
    cases this
    exact ⟨F, Ex.refl _, Ex.refl _, x, fun _ e _ => e, h2⟩
/-- a list or a tuple, as it comes -/
abbrev rSeq (K : PySem.W.Frag) : List V → Hp → (It → Hp → Prop) → Prop := fun vs H1 R => ∃ x, vs = [x] ∧ ((∃ a, x = .ref a ∧ (∃ xs, SqL K H1 a xs) ∧ R (Itl K a) H1) ∨ (∃ a, x = .ref a ∧ (∃ xs, SqT K H1 a xs) ∧ R (Itt K a) H1))
theorem iter_made {pins : List (Addr × Obj)} {s : Shared} {tg : Expr} {R : It → Hp → Prop} {J : It} {tn : Nat → Heap → Prop} {o : Obj} (I : Inv X pins σ H s) (T : Turn X.prog X.w X.K tg J [s.heap.objs.size] s.heap.objs.size tn) (h0 : tn 0 (s.heap.push o)) (q : R J H) :
    PIE X pins σ tg R (.ref s.heap.objs.size) { s with heap := s.heap.push o } := by
  refine ⟨s.heap.objs.size, [s.heap.objs.size], tn, J, H, rfl, I.kept (t' := s.toks) fun b ob e => Heap.get?_push_of_some _ e, T, h0, fun b hb => ?_, q⟩
  rw [List.mem_singleton.mp hb]
  exact I.fpOk (Nat.le_refl _) (I.hok.fresh (Nat.le_refl _))
theorem pi_seq {c : Ctx} {tg l : Expr} {e : E} (hl : PEv X c l e) : PI X tg l (tIA (tEvA X.K c (.cons e .nil)) (rSeq X.K)) := by
  refine ⟨fun pins s σ H R I h => ?_⟩
  refine thn (hl.run pins s σ H _ I (a_split h)) fun v s1 ⟨x, H1, I1, r1, q1⟩ => ?_
  obtain ⟨F, ρ, R0, P⟩ := q1
  obtain ⟨y, ey, q1⟩ := P F H1 R0 (GoE.refl ..) [] .nil
  cases ey
  rcases q1 with ⟨a, rfl, ⟨xs, hq⟩, q⟩ | ⟨a, rfl, ⟨xs, hq⟩, q⟩
  · cases r1
    obtain ⟨its, _, p, _⟩ := I1.list hq
    exact wpAny_pyIter_list p.isList (iter_made I1 (turn_list a _) ⟨_, Heap.get?_push_size _ rfl, rfl, rfl⟩ q)
  · cases r1
    obtain ⟨its, _, p, _⟩ := I1.tuple hq
    exact wpAny_pyIter_tuple (show s1.heap.IsTuple a its.toArray from p) (iter_made I1 (turn_tuple a _) ⟨_, Heap.get?_push_size _ rfl, rfl, rfl⟩ q)
theorem i_seq : IterV K c (rSeq K) itSeq := fun F H vs ds items R x V e k => by
  unfold itSeq at e
  split at e
  · cases e
    obtain ⟨v, rfl, hv⟩ := V.one
    obtain ⟨a, us, rfl, q, l⟩ := id hv
    exact ⟨_, rfl, .inl ⟨a, rfl, ⟨us, .inl (.inl q)⟩, IterV.same k x (j_list (.inl rfl))⟩⟩
  · cases e
    obtain ⟨v, rfl, hv⟩ := V.one
    cases hv with
    | @tup a us _ q l => exact ⟨_, rfl, .inr ⟨a, rfl, ⟨us, x.t q⟩, IterV.same k x j_tup⟩⟩
  · cases e
    obtain ⟨v, rfl, hv⟩ := V.one
    cases hv with
    | @ro a us _ q l => exact ⟨_, rfl, .inl ⟨a, rfl, ⟨us, x.l q⟩, IterV.same k x (j_list (.inr rfl))⟩⟩
  · cases e
/-- zip of two lists, of two tuples -/
def zipD : List D → List D → List D
  | a :: as, b :: bs => .tup [a, b] :: zipD as bs
  | _, _ => []
theorem zipD_get : ∀ (as bs : List D) (i : Nat) (d : D), (zipD as bs)[i]? = some d → ∃ a b, as[i]? = some a ∧ bs[i]? = some b ∧ d = .tup [a, b]
  | [], _, _, _, e => by simp [zipD] at e
  | _ :: _, [], _, _, e => by simp [zipD] at e
  | a :: as, b :: bs, 0, d, e => by simp [zipD] at e; exact ⟨a, b, rfl, rfl, e.symm⟩
  | a :: as, b :: bs, i + 1, d, e => by
    obtain ⟨x, y, h1, h2, h3⟩ := zipD_get as bs i d (by simpa [zipD] using e)
    exact ⟨x, y, by simpa using h1, by simpa using h2, h3⟩
theorem zipD_length : ∀ (as bs : List D), (zipD as bs).length = min as.length bs.length
  | [], _ => by simp [zipD]
  | _ :: _, [] => by simp [zipD]
  | a :: as, b :: bs => by simp [zipD, zipD_length as bs]
theorem pair_new {a b : D} {x y : V} {T : Addr} (x0 : Ex F H) (hT : H T = none) (ha : Den K c.CL F x a) (hb : Den K c.CL F y b) :
    ∃ F', Ex F F' ∧ Ex H (upd H T (.tup [x, y])) ∧ Ex F' (upd H T (.tup [x, y])) ∧ (∀ q, F q = none → Liv H q → F' q = none) ∧ Den K c.CL F' (.ref T) (.tup [a, b]) := by
  have hF : F T = none := by
    cases q : F T with
    | none => rfl
    | some o => rw [x0 T o q] at hT; cases hT
  have f : Ex F (upd F T (.tup [x, y])) := Ex.new hF
  exact ⟨upd F T (.tup [x, y]), f, Ex.new hT, Ex.both x0, fun q e1 e2 => by rw [upd_ne (fun z => by subst z; exact e2.ne hT)]; exact e1, .tup upd_same (.cons (ha.mono f) (.cons (hb.mono f) .nil))⟩
theorem j_zipL {a b : Addr} {xs ys : List D} {F0 : Hp} : JOk K c F0 [.ref a, .ref b] [.lst xs, .lst ys] (Itz K a b) (zipD xs ys) := fun F H i _ x V => by
  obtain ⟨v, w, e, hv, hw⟩ := V.two
  cases e
  obtain ⟨a', us, e, q, l⟩ := hv
  cases e
  obtain ⟨b', ws, e, q', l'⟩ := hw
  cases e
  have s1 : SqL K H a us := .inl (.inl q)
  have s2 : SqL K H b ws := .inl (.inl q')
  refine ⟨fun d e => ?_, fun h => ⟨us, ws, s1, s2, ?_⟩⟩
  · obtain ⟨p, r, h1, h2, rfl⟩ := zipD_get _ _ _ _ e
    obtain ⟨u, z1, z2⟩ := l.get h1
    obtain ⟨t, z3, z4⟩ := l'.get h2
    refine ⟨⟨us, ws, u, t, s1, s2, z1, z3⟩, fun y H' yl => ?_⟩
    obtain ⟨T, x1, y1, rfl, hT, rfl, k1, k2⟩ := yl
    have e1 := k1 us s1
    rw [z1] at e1
    cases e1
    have e2 := k2 ws s2
    rw [z3] at e2
    cases e2
    exact pair_new x hT z2 z4
  · rw [zipD_length] at h
    rw [l.length, l'.length]
    omega
theorem j_zipT {a b : Addr} {xs ys : List D} {F0 : Hp} : JOk K c F0 [.ref a, .ref b] [.tup xs, .tup ys] (RZ.ItzT K a b) (zipD xs ys) := fun F H i _ x V => by
  obtain ⟨v, w, e, hv, hw⟩ := V.two
  cases e
  cases hv with
  | @tup _ us _ q l => cases hw with
    | @tup _ ws _ q' l' =>
      have s1 := x.t (K := K) q
      have s2 := x.t (K := K) q'
      refine ⟨fun d e => ?_, fun h => ⟨us, ws, s1, s2, ?_⟩⟩
      · obtain ⟨p, r, h1, h2, rfl⟩ := zipD_get _ _ _ _ e
        obtain ⟨u, z1, z2⟩ := l.get h1
        obtain ⟨t, z3, z4⟩ := l'.get h2
        refine ⟨⟨us, ws, u, t, s1, s2, z1, z3⟩, fun y H' yl => ?_⟩
        obtain ⟨T, x1, y1, rfl, hT, rfl, k1, k2⟩ := yl
        have e1 := k1 us s1
        rw [z1] at e1
        cases e1
        have e2 := k2 ws s2
        rw [z3] at e2
        cases e2
        exact pair_new x hT z2 z4
      · rw [zipD_length] at h
        rw [l.length, l'.length]
        omega
/-- enumerate of a list -/
def enumD : Int → List D → List D
  | _, [] => []
  | i, a :: as => .tup [.int i, a] :: enumD (i + 1) as
theorem enumD_get : ∀ (as : List D) (k : Int) (i : Nat) (d : D), (enumD k as)[i]? = some d → ∃ a, as[i]? = some a ∧ d = .tup [.int (k + i), a]
  | [], _, _, _, e => by simp [enumD] at e
  | a :: as, k, 0, d, e => by simp [enumD] at e; exact ⟨a, rfl, by rw [← e]; simp⟩
  | a :: as, k, i + 1, d, e => by
    obtain ⟨x, h1, h3⟩ := enumD_get as (k + 1) i d (by simpa [enumD] using e)
    refine ⟨x, by simpa using h1, ?_⟩
    rw [h3, show k + 1 + (i : Int) = k + ((i + 1 : Nat) : Int) by push_cast; omega]
theorem enumD_length : ∀ (as : List D) (k : Int), (enumD k as).length = as.length
  | [], _ => rfl
  | a :: as, k => by simp [enumD, enumD_length as]
/-! ### methods of a list of one's own -/
def mAppend : List D → List D → Option (List D × D)
  | xs, [d] => if xs.length < sizeLine then some (xs ++ [d], .non) else none
  | _, _ => none
def mPopAt : List D → List D → Option (List D × D)
  | xs, [.int i] => if xs.length ≤ sizeLine then match ixN xs.length i with
    | none => none
    | some j => match xs[j]? with
      | none => none
      | some d => some (xs.eraseIdx j, d) else none
  | _, _ => none
theorem DenL.one {d : D} (l : DenL K c.CL F vs [d]) : ∃ v, vs = [v] ∧ Den K c.CL F v d := by
  cases l with
  | cons h t => cases t; exact ⟨_, rfl, h⟩
theorem m_append : MutOk K c rAppend mAppend := fun F H a vs xs ws ds ys d Q x ha hF l lw e k => by
  unfold mAppend at e
  split at e
  · split at e
    · rename_i hl
      cases e
      obtain ⟨v, rfl, hv⟩ := lw.one
      exact ⟨a, vs, v, rfl, rfl, ha, by rw [l.length]; exact hl, k .non _ (l.append (.cons hv .nil)) .non⟩
    · cases e
  · cases e
theorem m_popAt : MutOk K c rPopAt mPopAt := fun F H a vs xs ws ds ys d Q x ha hF l lw e k => by
  unfold mPopAt at e
  split at e
  · split at e
    · rename_i hl
      have hs : (sizeLine : Nat) < 2 ^ 63 := line63
      split at e
      · cases e
      · rename_i j hj
        split at e
        · cases e
        · rename_i d hd
          cases e
          obtain ⟨v, rfl, hv⟩ := lw.one
          cases hv
          obtain ⟨z1, z2, z3, z4⟩ := ixN_seq hj
          obtain ⟨u, q1, q2⟩ := l.get hd
          exact ⟨a, vs, _, j, u, rfl, rfl, ha, by omega, by omega, by rw [l.length]; exact z1, q1, k u _ (l.eraseIdx j) q2⟩
    · cases e
  · cases e
theorem DenL.dropLast (l : DenL K c.CL F vs ds) : DenL K c.CL F vs.dropLast ds.dropLast := by
  rw [List.dropLast_eq_take, List.dropLast_eq_take, l.length]
  exact l.take _
end
end Ev
namespace Ev
open PySem L2
section
variable {K : PySem.W.Frag} {c : Ctx} {F F1 F2 F3 F' H H1 H2 H3 H' : Hp} {v w : V} {vs : List V} {d e : D} {ds : List D} {Q : VK} {X : Cx} {σ : St} {ρ : Env}
theorem units65 {k : Nat} {A : Around} (r : Room k A) : A.units + 65 < cLine := by
  have := r.un
  omega
/-! ### isinstance -/
def D.tyN : D → Option String
  | .non => some "NoneType"
  | .bl _ => some "bool"
  | .int _ => some "int"
  | .str _ => some "str"
  | .tup _ => some "tuple"
  | .lst _ => some "list"
  | .dk _ _ => some "dict"
  | _ => none
def fIsi : List D → Option RB
  | [d, .ty n] => match d.tyN with
    | none => none
    | some t => match kitB t n with
      | none => none
      | some k => some (.d (.bl k))
  | _ => none
theorem View.tyx (x : Ex F H) (h : View K c F H v d) {t : String} (e : d.tyN = some t) : TyX K H v (.type t) := by
  cases d with
  | non => cases h; cases e; exact .base .non
  | bl _ => cases h; cases e; exact .base (.bl _)
  | int _ => cases h; cases e; exact .base (.int _)
  | str _ => cases h; cases e; exact .base (.str _)
  | lst xs => obtain ⟨a, us, rfl, q, _⟩ := h; cases e; exact .base (.lst q)
  | tup xs =>
    cases e
    cases h with
    | @tup a us _ q _ =>
      exact .base (.tup (x _ _ q))
  | ro _ => cases e
  | obj _ _ => cases e
  | dk _ _ => cases e; cases h with | dk q _ _ => exact .fDict (x _ _ q)
  | dt _ _ => cases e
  | tn _ => cases e
  | ty _ => cases e
  | cls _ => cases e
theorem p_isi : Prim K c (rIsi K) fIsi := fun F H vs ds res Q x V e f => by
  unfold fIsi at e
  split at e
  · split at e
    · cases e
    · rename_i t ht
      split at e
      · cases e
      · rename_i k hk
        cases e
        obtain ⟨v, w, rfl, hv, hw⟩ := V.two
        cases hw
        exact ⟨v, _, _, _, k, rfl, .ty _, hv.tyx x ht, kit_ty hk, f.same x (.bl _)⟩
  · cases e
/-! ### (a, b) = e -/
theorem s_asgT {c : Ctx} {x : Stmt} {is : List Nat} {e : E} (h : PS X x (tAsg (tEv X.K c e) (tEvG X.K c (.t is)))) : PSv X c x (.asg (.t is) e) := PS.wk h fun D σ H ⟨F, ρ, R, P⟩ => by
  unfold evS at P
  refine sEv_bind R P fun F1 ρ1 H1 b v R1 g1 hb P1 => ?_
  split at P1
  · rename_i ds ρ2 e1
    obtain ⟨F2, R2, g2, hd⟩ := B.keep_ok R g1 R1 hb e1
    refine ⟨F2, ρ2, .tup ds, R2, hd, ?_⟩
    show (match bndAll ρ2 is ds with | none => False | some ρ' => _)
    split at P1
    · rename_i q
      try rw [q]
      exact P1
    · rename_i ρ3 q
      try rw [q]
      exact fun σ' R3 g3 _ _ _ => P1 F2 σ' H1 R3 (g2.go.trans g3)
  · exact P1.elim
/-- x[i], x[j] = e -/
theorem setAt_go {F F2 H H2 : Hp} {ρ ρ2 : Env} {σ : St} {i : Nat} {ix : E} {v : V} {d : D} {D' : Ends} {k : Env → Res Flow} {Q : St → Hp → Prop} (R : Rel K c F ρ σ H) (g : GoE K c σ F ρ H F2 ρ2 H2) (R2 : Rel K c F2 ρ2 σ H2) (hd : Den K c.CL F2 v d)
    (P : PostS K c F ρ σ H (setAt (evE ix) i d ρ2 k) D') (q : ∀ F3 ρ3 H3, Ex F2 F3 → Rel K c F3 ρ3 σ H3 → GoE K c σ F ρ H F3 ρ3 H3 → PostS K c F ρ σ H (k ρ3) D' → Q σ H3) : gSub (tVar i) (tEv K c ix) rSetL v σ H2 Q := by
  unfold setAt at P
  split at P
  · rename_i xs0 e2
    obtain ⟨a, us0, w, q1, q2, q3⟩ := R2.slot e2
    refine ⟨.ref a, w, F2, ρ2, R2, (P.bind.rebase g).imp fun F3 ρ3 H3 k1 R3 g3 q' u hk => ?_⟩
    obtain ⟨g03, P3⟩ := q'
    split at P3
    · rename_i z ez
      have hz := hk.view R3 ez
      cases hz
      split at P3
      · rename_i xs e3
        obtain ⟨a', us, w', z1, z2, z3⟩ := R3.slot e3
        rw [w] at w'
        cases w'
        split at P3
        · exact P3.elim
        · rename_i j ej
          refine ⟨a, us, z, j, rfl, rfl, z1, by rw [z3.length]; exact ej, ?_⟩
          obtain ⟨R4, g4⟩ := R3.setow e3 w (DenL.set (Den.mono g3.f _ hd) j z3)
          exact q F3 _ _ g3.f R4 (g03.trans g4) P3
      · exact P3.elim
    · exact P3.elim
  · exact P.elim
theorem s_seti2 {c : Ctx} {x : Stmt} {i : Nat} {ix1 ix2 e : E} (h : PS X x (tAsg (tEv X.K c e) (gTup X.K 2 (gCons (gSub (tVar i) (tEv X.K c ix1) rSetL) (gCons (gSub (tVar i) (tEv X.K c ix2) rSetL) gNil))))) : PSv X c x (.seti2 i ix1 ix2 e) := PS.wk h fun D σ H ⟨F, ρ, R, P⟩ => by
  unfold evS at P
  refine sEv_bind R P fun F1 ρ1 H1 b v R1 g1 hb P1 => ?_
  split at P1
  · rename_i d1 d2 ρ2 e1
    obtain ⟨F2, R2, g2, hd⟩ := B.keep_ok R g1 R1 hb e1
    cases hd with
    | @tup a us _ hs l =>
      cases l with
      | @cons v1 vs1 _ _ h1 l =>
        cases l with
        | @cons v2 vs2 _ _ h2 l =>
          cases l
          refine ⟨a, _, rfl, R2.ex.t hs, rfl, _, _, rfl, setAt_go R g2 R2 h1 P1 fun F3 ρ3 H3 x3 R3 g3 P3 => ⟨_, _, rfl, setAt_go R g3 R3 (Den.mono x3 _ h2) P3 fun F4 ρ4 H4 x4 R4 g4 P4 => ⟨rfl, P4 F4 σ _ R4 g4.go⟩⟩⟩
  · exact P1.elim
/-- x = [..], on one line -/
theorem s_setLc {c : Ctx} {x : Stmt} {i : Nat} {tg : Tg} {f : List D → Option (List D)} {as : Es} {oc : OT} {elt : E} {ows : List Nat} {r : List V → Hp → (It → Hp → Prop) → Prop} (p : IterV X.K c r f)
    (h : PS X x (tAsg (tLc (tIA (tEvA X.K c as) r) (tEvG X.K c.noE tg) (tEvO X.K c.noE oc) (tEv X.K c.noE elt) ows) (gName i))) : PSv X c x (.asg (.n i) (.lc ows tg f as oc elt)) := s_asg h fun _ _ _ q => lc_go p q
/-! ### f() -/
end
end Ev
namespace Ev
open PySem L2 PyProof.Rows PySem.W
/-! ### sorted(xs), items that are alike data -/
theorem each_vals {β : Type} {f : β → V} : ∀ {bs : List β} {us : List Value}, Vals (bs.map f) us → EachIs (fun u b => RelV (f b) u) us bs
  | [], _, h => by cases h; exact .nil
  | b :: bs, _, h => by
    cases h with
    | cons r t => exact .cons r (each_vals t)
theorem vals_each {β : Type} {f : β → V} : ∀ {bs : List β} {us : List Value}, EachIs (fun u b => RelV (f b) u) us bs → Vals (bs.map f) us
  | [], _, h => by cases h; exact .nil
  | b :: bs, _, h => by
    cases h with
    | cons r t => exact .cons r (vals_each t)
section
variable {K : PySem.W.Frag} {c : Ctx} {F F' H H' : Hp} {v w : V} {vs : List V} {d e : D} {ds : List D} {Q : VK}
def alikeB (ps : List PyData) : Bool := ps.all fun p => ps.all fun q => alike p q
def isT1 : PyData → Bool
  | .tuple (_ :: _) => true
  | _ => false
def isNT : PyData → Bool
  | .none => false
  | .tuple _ => false
  | _ => true
def sortB (ps : List PyData) : Bool := ps.all isT1 || ps.all isNT
def deepB (ps : List PyData) : Bool := ps.all fun p => decide (p.depth ≤ 60)
theorem alikeB_ok {ps : List PyData} (h : alikeB ps = true) : AllAlike ps := fun p hp q hq => List.all_eq_true.mp (List.all_eq_true.mp h p hp) q hq
theorem sortB_ok {ps : List PyData} (h : sortB ps = true) : Sortable ps := by
  unfold sortB at h
  rcases Bool.or_eq_true _ _ |>.mp h with h | h
  · refine .inl fun p hp => ?_
    have := List.all_eq_true.mp h p hp
    unfold isT1 at this
    split at this
    · exact ⟨_, _, rfl⟩
    · cases this
  · refine .inr fun p hp => ?_
    have := List.all_eq_true.mp h p hp
    unfold isNT at this
    split at this
    · cases this
    · cases this
    · rename_i a b
      exact ⟨a, fun xs => b xs⟩
def D.pyd (d : D) : PyData := d.py.getD .none
theorem pys_map : ∀ {ds : List D} {ps : List PyData}, D.pys ds = some ps → ps = ds.map D.pyd ∧ ∀ d ∈ ds, ∃ p, d.py = some p
  | [], _, e => by cases e; exact ⟨rfl, fun _ h => by cases h⟩
  | d :: ds, ps, e => by
    unfold D.pys at e
    split at e
    · cases e
    · rename_i p q
      split at e
      · cases e
      · rename_i ps' q2
        cases e
        obtain ⟨h1, h2⟩ := pys_map q2
        refine ⟨?_, fun d' m => ?_⟩
        · rw [h1, List.map_cons]
          unfold D.pyd
          rw [q]
          rfl
        · rcases List.mem_cons.mp m with rfl | m
          · exact ⟨p, q⟩
          · exact h2 d' m
theorem denL_zip : ∀ {vs : List V} {ds : List D}, DenL K c.CL F vs ds → ∀ t ∈ vs.zip ds, Den K c.CL F t.1 t.2
  | _, _, .nil, t, m => by cases m
  | _, _, .cons h l, t, m => by
    rw [List.zip_cons_cons] at m
    rcases List.mem_cons.mp m with rfl | m
    · exact h
    · exact denL_zip l t m
theorem denL_of : ∀ {ts : List (V × D)}, (∀ t ∈ ts, Den K c.CL F t.1 t.2) → DenL K c.CL F (ts.map fun t => t.1) (ts.map fun t => t.2)
  | [], _ => .nil
  | t :: ts, h => .cons (h t List.mem_cons_self) (denL_of fun s m => h s (List.mem_cons_of_mem _ m))
end
end Ev
namespace Ev
open PySem L2 PyProof.Rows PySem.W PySem.Calls
/-! ### sorted(t), t a tuple: as of a list with the same items -/
section
variable {P : Program} {w : World} {A : Around} {E : Value → Shared → Prop} {s : Shared}
theorem gather_tup {t : Addr} {us : List Value} {Q : List Value → Shared → Prop} (ht : IsTup s.heap t us.toArray) (hb : us.length ≤ sizeLine)
    (q : Q us { s with heap := (s.heap.push (seqObj "list" #[] 0)).update s.heap.objs.size (Obj.mapSeq (· ++ us.toArray)) }) : wpAny (model P w) A (collect (.ref t)) Q E s := by
  obtain ⟨ob, h1, h2, k, h3⟩ := id ht
  unfold collect
  refine wpAny_bind ?_
  refine wpAny_runValue ?_
  refine codeAny_builtin entry_proto_collect' ?_
  show wpAny _ _ (newList [] >>= fun x => again (.builtin "list.__iadd__" ⟨[x, .ref t], []⟩)) _ _ s
  refine wpAny_bind ?_
  refine wpAny_newList ?_
  refine wpAny_pure ⟨Code.quiet_builtin _ (by decide +kernel), ?_⟩
  refine codeAny_builtin entry_list_iadd' ?_
  have h1' : (s.heap.push (seqObj "list" #[] 0)).get? t = some ob := Heap.get?_push_of_some _ h1
  show wpAny _ _ (Builtin.List.listExtendWith (.ref s.heap.objs.size) (.ref t) (.ref s.heap.objs.size)) _ _ _
  unfold Builtin.List.listExtendWith
  refine wpAny_bind ?_
  refine wpAny_typeOf (T := "tuple") ⟨ob, h1', h2⟩ ?_
  rw [if_pos (by rw [show (Value.type "tuple" == Value.type "tuple") = true from rfl]; simp)]
  refine wpAny_bind ?_
  refine listItems_at h1' h3 ?_
  refine wpAny_bind ?_
  refine listItems_at (xs := #[]) (n := 0) (Heap.get?_push_size _ rfl) rfl ?_
  rw [if_neg (by simp)]
  refine wpAny_bind ?_
  have hz : ((#[] : Array Value) ++ us.toArray).size ≤ sizeLine + 1 := by
    rw [Array.size_append, List.size_toArray]
    simp
    omega
  refine listUpdate_at (xs := #[]) (n := 0) (Heap.get?_push_size _ rfl) rfl ?_ (Nat.zero_le _) hz
  refine wpAny_pure ?_
  refine wpAny_bind (m := load s.heap.objs.size) ?_
  refine wpAny_load (get?_update_seq (Heap.get?_push_size _ rfl) _) ?_
  have he : ((#[] : Array Value) ++ us.toArray).toList = us := by simp
  show wpAny _ _ (pure ((#[] : Array Value) ++ us.toArray).toList) Q E _
  rw [he]
  exact wpAny_pure q
end
end Ev
set_option maxHeartbeats 2000000
namespace Ev
open PySem PySem.Spec PyProof.Rows L2 LamX
/-! ### the object of a lambda -/
structure LF where
  qual : Str
  params : Arguments
  body : Expr
  scope : Scope
  cl : List (Str × Addr)
  c : Addr
abbrev LF.fd (F : LF) (pm ctv : Value) : FuncData := PySem.W.kla_fn "<lambda>" F.qual F.params F.body F.scope F.cl pm (.ref F.c) ctv
/-- at f stands the function F -/
def LamO (f : Addr) (F : LF) : HO := .ext fun h => ∃ pm ctv : Value, h.get? f = some (⟨.type "function", none, .func (F.fd pm ctv), #[]⟩ : Obj)
theorem lamO_ne {f : Addr} {F : LF} (ps : Array Value) : LamO f F ≠ .tbl ps := by
  unfold LamO
  exact fun z => by cases z
theorem codeO_rec {P : Program} {w : World} {H : Hp} {h : Heap} {c : Addr} {q : Str} (hok : HOk P w H h) (e : H c = some (CodeO c q)) : h.CodeRec (.ref c) q := by
  have z := hok c _ e
  obtain ⟨⟨oc, us, t, e1, e2, e3⟩, _⟩ := z
  exact ⟨c, oc, us, t, rfl, e1, e2, e3⟩
theorem lamO_at {P : Program} {w : World} {H : Hp} {h : Heap} {f : Addr} {F : LF} (hok : HOk P w H h) (e : H f = some (LamO f F)) : ∃ pm ctv : Value, h.get? f = some (⟨.type "function", none, .func (F.fd pm ctv), #[]⟩ : Obj) := by
  have z := hok f _ e
  exact z.1
section
variable {X : Cx} {pins : List (Addr × Obj)} {σ : L2.St} {H : Hp} {s : Shared}
theorem inv_lam {F : LF} {t' : Nat} {pm ctv : Value} (I : Inv X pins σ H s) :
    Inv X pins σ (upd H s.heap.objs.size (LamO s.heap.objs.size F)) { s with heap := s.heap.push ⟨.type "function", none, .func (F.fd pm ctv), #[]⟩, toks := t' } := by
  have e : (s.heap.push (⟨.type "function", none, .func (F.fd pm ctv), #[]⟩ : Obj)).get? s.heap.objs.size = some ⟨.type "function", none, .func (F.fd pm ctv), #[]⟩ := Heap.get?_push_size _ rfl
  refine I.laid (a := s.heap.objs.size) (fun b u z => Heap.get?_push_of_some _ z) (Nat.le_refl _) ⟨⟨pm, ctv, e⟩, ⟨_, e⟩, ?_⟩
  rintro h1 h2 ⟨pm', ctv', z⟩ st
  exact ⟨pm', ctv', st _ z⟩
/-- all but what stands at a table's place stays -/
def ExtT (T : List (Addr × Str)) (H H' : Hp) : Prop := ∀ b o, H b = some o → b ∉ T.map (·.1) → H' b = some o
theorem tab_not {T : List (Addr × Str)} {H : Hp} {b : Addr} {o : HO} (t : Tabs T H) (e : H b = some o) (n : ∀ ps, o ≠ .tbl ps) : b ∉ T.map (·.1) := fun h => by
  obtain ⟨p, hp, rfl⟩ := List.mem_map.mp h
  obtain ⟨ps, e2, _⟩ := t p hp
  rw [e] at e2
  exact n ps (Option.some.inj e2)
/-- what the lambda of the running def is -/
abbrev lamF (X : Cx) (params : Arguments) (body : Expr) (scope : Scope) (c' : Addr) : LF := ⟨X.env.qual ++ "<lambda>", params, body, scope, cloFrom X.env.cells scope.names [], c'⟩
theorem lam_mk {T : List (Addr × Str)} {c P : Addr} {params : Arguments} {body : Expr} {scope : Scope} {pos : Pos} {E : Value → Shared → Prop} {Q : Value → Shared → Prop} (I : Inv X pins σ H s) (TB : TabB X.base X.mg c P) (hcode : X.env.code = .ref c)
    (hm : (P, X.env.qual ++ "<lambda>") ∈ T) (hu : ∀ p ∈ T, p.1 = P → p.2 = X.env.qual ++ "<lambda>") (hT : Tabs T H) (hdef : defaultsOf params X.env = ([], [])) (hfree : ∀ y ∈ scope.names, y.2 = .free → ∃ c, X.env.cells.lookup y.1 = some c)
    (q : ∀ (f c' : Addr) (H1 : Hp) (s' : Shared), Inv X pins σ H1 s' → ExtT T H H1 → (∀ b, H1 b = none → H b = none) → Tabs T H1 → H f = none → H1 f = some (LamO f (lamF X params body scope c')) → H1 c' = some (CodeO c' (X.env.qual ++ "<lambda>")) → Q (.ref f) s') :
    wpAny (model X.prog X.w) X.A (eval (.Lambda params body scope pos) X.env) Q E s := by
  obtain ⟨ps, hP, ht, ha⟩ := hT _ hm
  refine PySem.W.kla_eval hdef ?_
  have b1 : s.heap.BuiltinsAt X.mg P := TB.bm.keeps I.bk
  have b2 : s.heap.get? P = some { cls := .none, data := .fields ps } := I.hok P _ hP
  have clo := closure_ok hfree
  cases hc : codeAmong pos ps.toList with
  | some cv =>
    obtain ⟨c', rfl, hco⟩ := ha pos cv hc
    refine PySem.W.kla_makeFunctionHit (mg := X.mg) (c := c) (P := P) (ps := ps) clo I.ok.glob (I.mod.glob.keeps I.bk) hcode (TB.code.keeps I.bk) b2 ht hc b1 fun ctv h' tk hx hsz => ?_
    have J : Inv X pins σ H { s with heap := h', toks := tk } := I.kept hx
    have nF : H h'.objs.size = none := J.hok.fresh (Nat.le_refl _)
    have J2 := inv_lam (F := lamF X params body scope c') (t' := tk) (pm := (X.mg "__name__").getD .none) (ctv := ctv) J
    have up : ∀ b o, H b = some o → upd H h'.objs.size (LamO h'.objs.size (lamF X params body scope c')) b = some o := fun b o e => (upd_ne (ne_of_none e nF)).trans e
    refine q h'.objs.size c' _ _ J2 (fun b o e _ => up b o e) (fun b e => ?_) (hT.ext up) nF upd_same (up _ _ hco)
    cases z : H b with
    | none => rfl
    | some o => rw [up b o z] at e; cases e
  | none =>
    refine PySem.W.kla_makeFunction (mg := X.mg) (c := c) (P := P) (ps := ps) clo I.ok.glob (I.mod.glob.keeps I.bk) hcode (TB.code.keeps I.bk) b2 ht hc TB.gP b1 fun c' ctv h' tk hx hge hlt hrec htb => ?_
    obtain ⟨d, oc, us, t, e2, hoc, hd, hv⟩ := hrec
    cases e2
    have nC : H c' = none := I.hok.fresh hge
    have J := inv_table (t' := tk) (more := #[rawInt pos.line, rawInt pos.col, .ref c']) (h' := h') I hP (fun b o hb e => hx b o hb e) htb hge ⟨oc, us, t, hoc, hd, hv⟩
    have hE : ∀ b o, H b = some o → b ≠ P → (upd (upd H P (.tbl (ps ++ #[rawInt pos.line, rawInt pos.col, .ref c']))) c' (CodeO c' (X.env.qual ++ "<lambda>"))) b = some o := fun b o e h1 => by
      rw [upd_ne (ne_of_none e nC), upd_ne h1]
      exact e
    have eL : (ps ++ #[rawInt pos.line, rawInt pos.col, .ref c']).toList = ps.toList ++ [rawInt pos.line, rawInt pos.col, .ref c'] := by simp
    have T1 : Tabs T (upd (upd H P (.tbl (ps ++ #[rawInt pos.line, rawInt pos.col, .ref c']))) c' (CodeO c' (X.env.qual ++ "<lambda>"))) := fun p hp => by
      by_cases hb : p.1 = P
      · rw [hu p hp hb, hb]
        have hPc : P ≠ c' := ne_of_none hP nC
        refine ⟨_, (upd_ne hPc).trans upd_same, by rw [eL]; exact PySem.TriplesOk_snoc _ _ _ _ ht, fun p' cv hcv => ?_⟩
        rw [eL] at hcv
        rcases among_app _ ht hcv with z | z
        · obtain ⟨c0, e1, e2⟩ := ha p' cv z
          exact ⟨c0, e1, hE _ _ e2 fun z => codeO_ne ps (Option.some.inj (e2.symm.trans (by rw [z]; exact hP)))⟩
        · exact ⟨c', z, upd_same⟩
      · obtain ⟨ps', a1, a2, a3⟩ := hT p hp
        refine ⟨ps', ?_, a2, fun p' cv hcv => ?_⟩
        · rw [upd_ne (ne_of_none a1 nC), upd_ne hb]
          exact a1
        · obtain ⟨c0, e1, e2⟩ := a3 p' cv hcv
          exact ⟨c0, e1, hE _ _ e2 fun z => codeO_ne ps (Option.some.inj (e2.symm.trans (by rw [z]; exact hP)))⟩
    have nF := J.hok.fresh (Nat.le_refl _)
    have J2 := inv_lam (F := lamF X params body scope c') (t' := tk) (pm := (X.mg "__name__").getD .none) (ctv := ctv) J
    refine q h'.objs.size c' _ _ J2 (fun b o e n => ?_) (fun b e => ?_) (T1.ext fun b o e => (upd_ne (ne_of_none e nF)).trans e) (I.hok.fresh (Nat.le_trans hge (Nat.le_of_lt hlt))) upd_same ((upd_ne (Nat.ne_of_lt hlt)).trans upd_same)
    · have e1 := hE b o e fun z => n (by rw [z]; exact List.mem_map.mpr ⟨_, hm, rfl⟩)
      exact (upd_ne (ne_of_none e1 nF)).trans e1
    · cases z : H b with
      | none => rfl
      | some o =>
        exfalso
        by_cases hb : b = P
        · subst hb
          have e3 : h'.objs.size ≠ b := fun z2 => by
            have := Nat.lt_of_lt_of_le (Heap.lt_size b2) (Nat.le_trans hge (Nat.le_of_lt hlt))
            omega
          rw [upd_ne (fun z2 => e3 z2.symm), upd_ne (ne_of_none z nC), upd_same] at e
          cases e
        · have e1 : upd (upd H P (.tbl (ps ++ #[rawInt pos.line, rawInt pos.col, .ref c']))) c' (CodeO c' (X.env.qual ++ "<lambda>")) b = some o := by
            rw [upd_ne (ne_of_none z nC), upd_ne hb]
            exact z
          have e2 : b ≠ h'.objs.size := ne_of_none e1 nF
          have z3 := (upd_ne e2).symm.trans e
          rw [e1] at z3
          cases z3
end
end Ev
set_option maxHeartbeats 2000000
namespace Ev
open PySem PySem.Spec PyProof.Rows L2 LamX
/-! ### a lambda of one parameter, as a value -/
/-- the reading of «lambda a: body»: a new object -/
def tLamV (X : Cx) (T : List (Addr × Str)) (params : Arguments) (body : Expr) (scope : Scope) : TE := fun _ H Q => Tabs T H ∧
  ∀ (f c' : Addr) (H1 : Hp), ExtT T H H1 → (∀ b, H1 b = none → H b = none) → Tabs T H1 → H f = none → H1 f = some (LamO f (lamF X params body scope c')) → H1 c' = some (CodeO c' (X.env.qual ++ "<lambda>")) → Q (.ref f) H1
theorem pe_lamV {X : Cx} {T : List (Addr × Str)} {c P : Addr} {params : Arguments} {body : Expr} {scope : Scope} {pos : Pos} (TB : TabB X.base X.mg c P) (hcode : X.env.code = .ref c)
    (hm : (P, X.env.qual ++ "<lambda>") ∈ T) (hu : ∀ p ∈ T, p.1 = P → p.2 = X.env.qual ++ "<lambda>") (hdef : defaultsOf params X.env = ([], []))
    (hfree : ∀ y ∈ scope.names, y.2 = .free → X.env.scope.names.lookup y.1 = some .cell ∨ X.env.scope.names.lookup y.1 = some .free) : PE X (.Lambda params body scope pos) (tLamV X T params body scope) := by
  refine ⟨fun pins s σ H Q I h => ?_⟩
  obtain ⟨hT, k⟩ := h
  refine lam_mk I TB hcode hm hu hT hdef (fun y hy e => (hfree y hy e).elim (fun z => I.ok.has _ (.inl z)) fun z => I.ok.has _ (.inr z)) fun f c' H1 s' J e1 e2 e3 e4 e5 e6 => ?_
  exact ⟨.ref f, H1, J, rfl, k f c' H1 e1 e2 e3 e4 e5 e6⟩
/-! ### its call -/
/-- its names: the parameter, captured ones, globals -/
structure LamS1 (sc scope : Scope) (a : Str) : Prop where
  kind : scope.kind = .function
  co : scope.isCoroutine = false
  gen : scope.isGenerator = false
  par : scope.names.lookup a = some .local
  loc : ∀ y ∈ scope.names, y.2 = .local → y.1 = a
  nocell : ∀ y ∈ scope.names, y.2 ≠ .cell
  free : ∀ y ∈ scope.names, y.2 = .free → sc.names.lookup y.1 = some .cell ∨ sc.names.lookup y.1 = some .free
def lamS1B (sc scope : Scope) (a : Str) : Bool :=
  (decide (scope.kind = .function) && !scope.isCoroutine && !scope.isGenerator && decide (scope.names.lookup a = some .local)) &&
    (scope.names.all fun y => (!decide (y.2 = .local) || decide (y.1 = a)) && !decide (y.2 = .cell) && (!decide (y.2 = .free) || (decide (sc.names.lookup y.1 = some .cell) || decide (sc.names.lookup y.1 = some .free))))
theorem lamS1_by {sc scope : Scope} {a : Str} (h : lamS1B sc scope a = true) : LamS1 sc scope a := by
  unfold lamS1B at h
  simp only [Bool.and_eq_true, Bool.or_eq_true, Bool.not_eq_true', decide_eq_true_eq, decide_eq_false_iff_not, List.all_eq_true] at h
  obtain ⟨⟨⟨⟨h1, h2⟩, h3⟩, h4⟩, h5⟩ := h
  exact ⟨h1, h2, h3, h4, fun y hy e => ((h5 y hy).1.1).resolve_left fun z => z e, fun y hy => (h5 y hy).1.2, fun y hy e => ((h5 y hy).2).resolve_left fun z => z e⟩
abbrev lamEnvF (F : LF) (f L : Addr) : PySem.Env := PySem.W.envX F.qual F.scope L f (.ref F.c) F.cl
/-- the context of its body, entered at s -/
def lamC (X : Cx) (A : Around) (s : Shared) (H : Hp) (F : LF) (f : Addr) : Cx where
  prog := X.prog
  w := X.w
  K := X.K
  mg := X.mg
  base := X.base
  A := A.deeper (lamEnvF F f s.heap.objs.size)
  N := X.N
  s_0 := s
  H_0 := H
  env := lamEnvF F f s.heap.objs.size
  outer := X.stack
  stack := lamEnvF F f s.heap.objs.size :: X.stack
  ex := []
  fn := fun _ => false
  calm := true
  pn := []
  xe := fun _ _ => False
section
variable {X : Cx} {pins : List (Addr × Obj)} {σ : L2.St} {H : Hp} {s : Shared}
theorem lam1_enter {A : Around} {params : Arguments} {body : Expr} {scope : Scope} {f c' : Addr} {h₁ : Heap} {tk j : Nat} {a : Str} {x : V} {u : Value} (I : Inv X pins σ H s) (S : LamS1 X.env.scope scope a) (hN : X.N.Nodup) (hj : X.N[j]? = some a)
    (hd : A.handled = none) (hfr : A.frames = X.A.frames) (r : RelV x u) (hns : h₁.Ns s.heap.objs.size fun y => [(a, u)].lookup y) (kp : ∀ b o, s.heap.get? b = some o → h₁.get? b = some o) :
    Inv (lamC X A s H (lamF X params body scope c') f) [] (σ.set j (some x)) H { s with heap := h₁, toks := tk } := by
  have e0 := I.env0
  have hfree : ∀ y ∈ scope.names, y.2 = .free → ∃ c, X.env.cells.lookup y.1 = some c := fun y hy e => (S.free y hy e).elim (fun z => I.ok.has _ (.inl z)) fun z => I.ok.has _ (.inr z)
  have cm : ∀ {y c}, (cloFrom X.env.cells scope.names []).lookup y = some c → X.env.cells.lookup y = some c := fun {y c} e => by
    rcases cloFrom_mem (PySem.mem_of_lookup e) with hm | ⟨h1, h2⟩
    · cases hm
    · obtain ⟨c1, hc⟩ := hfree _ h1 rfl
      have hc' : X.env.cells.lookup y = some c1 := hc
      rw [hc'] at h2 ⊢
      rw [h2]
      rfl
  have look : ∀ {y}, scope.names.lookup y = some .free → ∃ c, (cloFrom X.env.cells scope.names []).lookup y = some c := fun {y} hl =>
    mem_lookup (cloFrom_has (cells := X.env.cells) (acc := []) (show (y, NameKind.free) ∈ scope.names from PySem.mem_of_lookup hl))
  have cellK : ∀ {c : Addr} {v : Option Value}, s.heap.IsCell c v → h₁.IsCell c v := fun {c v} ⟨o, ho, z⟩ => ⟨o, kp _ _ ho, z⟩
  have noA : ∀ b : Addr, b ∉ (lamC X A s H (lamF X params body scope c') f).ex := fun b z => absurd (show b ∈ ([] : List Addr) from z) (by simp)
  have hfr' : (A.deeper (lamEnvF (lamF X params body scope c') f s.heap.objs.size)).frames = some (lamEnvF (lamF X params body scope c') f s.heap.objs.size :: X.stack) := Around.frames_deeper (hfr.trans e0.frames)
  refine ⟨⟨e0.mod, S.kind, rfl, rfl, Nat.le_refl _, fun y z c e1 e2 => I.ok.inj y z c (cm e1) (cm e2), fun y hy => ?_, fun y c z _ => ?_, fun _ => hd, hfr', .inr ⟨rfl, rfl⟩, fun b z => absurd z (noA b), e0.bs, e0.bsz, fun b _ _ => noA b, fun b z => absurd z (noA b), e0.funs, e0.frf⟩,
    rfl, e0.bare, Un.kept kp, ⟨_, hns, fun i y v e1 e2 e3 => ?_⟩, fun y c e => ?_, e0.hok.fresh (Nat.le_refl _), fun y c e => ?_, fun q hq => ?_, e0.hok.kept kp, ?_⟩
  · have hy : scope.names.lookup y = some .cell ∨ scope.names.lookup y = some .free := hy
    rcases hy with hy | hy
    · exact absurd rfl (S.nocell _ (PySem.mem_of_lookup hy))
    · exact look hy
  · have z : false = true := z
    cases z
  · have e1 : X.N[i]? = some y := e1
    rcases (show Vis scope y from e3) with k | k | k
    · -- the parameter
      have hy : y = a := S.loc _ (PySem.mem_of_lookup k) rfl
      subst hy
      have hij : i = j := nodup_ix hN e1 hj
      subst hij
      have il : i < σ.length := by
        rw [I.len]
        exact (List.getElem?_eq_some_iff.mp e1).1
      rw [List.getElem?_set_self il] at e2
      have hv : x = v := Option.some.inj (Option.some.inj e2)
      subst hv
      exact ⟨u, r, .inl ⟨k, by simp [List.lookup]⟩⟩
    · exact absurd rfl (S.nocell _ (PySem.mem_of_lookup k))
    · have hij : i ≠ j := fun z => by
        subst z
        rw [e1] at hj
        cases hj
        rw [S.par] at k
        cases k
      rw [List.getElem?_set_ne (fun z => hij z.symm)] at e2
      obtain ⟨m, hn, hl⟩ := I.loc
      have hcap := S.free _ (PySem.mem_of_lookup k) rfl
      obtain ⟨w', r', q⟩ := hl i y v e1 e2 (hcap.elim (fun z => .inr (.inl z)) fun z => .inr (.inr z))
      obtain ⟨c2, h2⟩ := look k
      refine ⟨w', r', .inr ⟨.inr k, c2, h2, ?_⟩⟩
      rcases q with ⟨k', _⟩ | ⟨_, c3, e', z⟩
      · have k2 : X.env.scope.names.lookup y = some .local := k'
        rcases hcap with k3 | k3 <;> rw [show X.env.scope.names.lookup y = _ from k3] at k2 <;> cases k2
      · rw [cm h2] at e'
        cases e'
        exact cellK z
  · obtain ⟨w', z⟩ := I.cell y c (cm e)
    exact ⟨w', cellK z⟩
  · exact I.freeC y c (cm e)
  · exact absurd (show q ∈ ([] : List (Addr × Obj)) ++ [] from hq) (by simp)
  · rw [List.length_set]
    exact I.len
/-- the call f(u) by anybody, while the def that made it runs -/
theorem lam1_call {A : Around} {k : Nat} {params : Arguments} {body : Expr} {scope : Scope} {f c' : Addr} {j : Nat} {a : Str} {x : V} {u : Value} {tb : TE} {Q : VK} (I : Inv X pins σ H s) (S : LamS1 X.env.scope scope a) (hN : X.N.Nodup) (hj : X.N[j]? = some a)
    (hr : Room (k + 1) A) (hfr : A.frames = X.A.frames) (hf : H f = some (LamO f (lamF X params body scope c'))) (hc : H c' = some (CodeO c' (X.env.qual ++ "<lambda>")))
    (hbind : ∀ pm ctv : Value, bindArgs ((lamF X params body scope c').fd pm ctv) ⟨[u], []⟩ = pure [(a, u)])
    (r : RelV x u) (hb : Room k (A.deeper (lamEnvF (lamF X params body scope c') f s.heap.objs.size)) → PE (lamC X A s H (lamF X params body scope c') f) body tb) (ht : tb (σ.set j (some x)) H Q) :
    wpAny (model X.prog X.w) A (call (.ref f) [u]) (EP X pins σ Q) (fun _ _ => False) s := by
  obtain ⟨pm, ctv, ho⟩ := lamO_at I.hok hf
  have e0 := I.env0
  have run : codeAny (model X.prog X.w) A (.call (.ref f) ⟨[u], []⟩) (CR CX0 X.stack X.prog X.w H s Q fun _ _ _ => False) s := by
    refine PySem.W.kla_callFunE hr.depth ho rfl S.co S.gen rfl (codeO_rec I.hok hc) ?_
    rw [hbind pm ctv]
    have loc1 : ∀ y ∈ [(a, u)], scope.names.lookup y.1 = some .local := fun y hy => by
      rw [List.mem_singleton.mp hy]
      exact S.par
    refine wpAny_pure (wpAny_newFunctionEnv (fun y hy => S.nocell y hy) loc1 (fun h₁ hns hsb => ⟨I.nolimit.fresh _ hsb, ?_⟩) S.kind)
    show codeAny _ _ (.expr body (lamEnvF (lamF X params body scope c') f s.heap.objs.size)) _ _
    have kp : ∀ b o, s.heap.get? b = some o → h₁.get? b = some o := fun b o e => by
      have hne : b ≠ s.heap.objs.size := Nat.ne_of_lt (Heap.lt_size e)
      exact hsb.extBut b o hne (Heap.get?_push_of_some _ e)
    have J := lam1_enter (A := A) (params := params) (body := body) (f := f) (c' := c') (tk := s.toks + [(a, u)].length) I S hN hj hr.hd hfr r hns kp
    refine PySem.W.kla_codeExpr (wpAny_mono ((hb (hr.deeper _)).run [] _ _ H Q J ht) (fun v s' hq => ?_) fun e s' hq => False.elim hq)
    obtain ⟨w', H', J', rv, q⟩ := hq
    exact ⟨w', H', J'.os, J'.bare, J'.base, J'.hok, rv, q⟩
  refine wpAny_call (codeAny_mono run fun res s' hq => ?_)
  cases res with
  | error e => exact False.elim hq
  | ok fl =>
    cases fl with
    | ret v => exact I.after hq
    | next => exact False.elim hq
    | brk => exact False.elim hq
    | cont => exact False.elim hq
end
end Ev
set_option maxHeartbeats 2000000
namespace Ev
open PySem PySem.Spec PyProof.Rows L2 LamX PySem.W PySem.Calls
/-! ### sorted(xs, key=lambda): the loop over the keys, by any word J on the states between -/
section
variable {P : Program} {w : World} {A : Around} {E : Value → Shared → Prop} {s : Shared} {R : PySem.Fin → Shared → Prop}
theorem key_loop {f : Value} {a kS : Addr} {b : Bool} {e1 : Nat} {vs : List Value} (J : Nat → Shared → List Value → Prop) (j0 : J 0 s []) (hZ : vs.length ≤ sizeLine)
    (at_ : ∀ i s' ks, J i s' ks → ks.length = i ∧ ∃ e, s'.heap.get? kS = some (seqObj "list" ks.toArray e))
    (turn : ∀ (i : Nat) (v : Value), vs[i]? = some v → ∀ s' ks, J i s' ks →
      wpAny (model P w) A (call f [v]) (fun u s'' => ∃ ks', ks'.length = i ∧ (∃ e, s''.heap.get? kS = some (seqObj "list" ks'.toArray e)) ∧ J (i + 1) { s'' with heap := s''.heap.update kS (Obj.mapSeq (·.push u)) } (ks' ++ [u])) (fun _ _ => False) s')
    (done : ∀ s' ks, J vs.length s' ks → wpAny (model P w) A (ksk_end a b vs.toArray e1 (.ref kS) ks.toArray) R E s') :
    wpAny (model P w) A (ksk_rest a f b vs.toArray e1 (.ref kS)) R E s := by
  unfold ksk_rest
  refine wpAny_bind ?_
  refine wpAny_rule ?_
  rw [← Array.forIn_toList]
  refine wpAny_bind (ksk_fold (fun i s' => ∃ ks, J i s' ks) vs 0 s ⟨[], j0⟩ ?_ ?_)
  · rintro i v s' hv ⟨ks, hj⟩
    simp only [Nat.zero_add] at hj ⊢
    have hi : i < vs.length := (List.getElem?_eq_some_iff.mp hv).1
    refine wpAny_bind ?_
    refine wpAny_attempt ?_
    refine wpAny_mono (turn i v hv s' ks hj) (fun u s'' q => ?_) fun _ _ z => z.elim
    obtain ⟨ks', hl, ⟨e, he⟩, q⟩ := q
    dsimp only
    refine wpAny_bind ?_
    have z1 : ks'.toArray.size ≤ sizeLine := by
      rw [List.size_toArray]
      omega
    have z2 : (ks'.toArray.push u).size ≤ sizeLine + 1 := by
      rw [Array.size_push, List.size_toArray]
      omega
    refine listUpdate_at he rfl ?_ z1 z2
    exact wpAny_pure ⟨rfl, _, q⟩
  · rintro s' ⟨ks, hj⟩
    rw [Nat.zero_add] at hj
    obtain ⟨_, e, he⟩ := at_ _ _ _ hj
    refine wpAny_bind (listItems_at he rfl ?_)
    exact done s' ks hj
theorem sortT_ofK {kw : List (Str × Value)} {t : Addr} {us : List Value} {Q : Value → Shared → Prop} (ht : IsTup s.heap t us.toArray) (hb : us.length ≤ sizeLine) (ha1 : argsOk "sorted" ⟨[.ref t], kw⟩) (ha2 : ∀ x, argsOk "list.sort" ⟨[.ref x], kw⟩)
    (k : ∀ E' : Value → Shared → Prop, wpAny (model P w) A.in1.in1 (Builtin.«list.sort» ⟨[.ref (s.heap.objs.size + 1)], kw⟩) (fun f s' => f = .done (.ret .none) ∧ Q (.ref (s.heap.objs.size + 1)) s') E' { s with heap := copyHeap s.heap us }) :
    wpAny (model P w) A (call (.builtin "sorted") [.ref t] kw) Q E s := by
  refine call_function_entry_kw kind_sorted plain_sorted entry_sorted ha1 ?_
  unfold Builtin.«sorted»
  refine wpAny_bind (m := checkCount "sorted" 1 1 _) ?_
  refine wpAny_pure ?_
  refine wpAny_bind (gather_tup ht hb ?_)
  refine wpAny_bind ?_
  refine wpAny_newList ?_ hb
  have hz : ((s.heap.push (seqObj "list" #[] 0)).update s.heap.objs.size (Obj.mapSeq (· ++ us.toArray))).objs.size = s.heap.objs.size + 1 := by
    rw [Heap.size_update]
    exact size_push' ..
  show wpAny _ _ _ _ _ { s with heap := copyHeap s.heap us }
  rw [hz]
  refine wpAny_bind ?_
  refine wpAny_holding ?_
  have hc : Shared.TypeIs { s with heap := copyHeap s.heap us } (.ref (s.heap.objs.size + 1)) "list" := ⟨_, copyHeap_at s.heap us, rfl⟩
  refine wpAny_call_entry_kw slot_list_sort hc entry_list_sort ?_ (ha2 _)
  refine wpAny_mono (k _) ?_ fun _ _ e => e
  rintro f s' ⟨rfl, q⟩
  exact ⟨_, rfl, wpAny_pure ⟨_, rfl, q⟩⟩
end
/-! ### the keys one after another, as a reading -/
/-- kS: where the keys are gathered; f, c': the lambda, its code -/
def kWalk (tb : TE) (σ : L2.St) (j : Nat) (kS f c' : Addr) : List V → List V → Hp → (List V → Hp → Prop) → Prop
  | [], ks, H, R => R ks H
  | x :: xs, ks, H, R => tb (σ.set j (some x)) H fun k H' => (H' kS = H kS ∧ H' f = H f ∧ H' c' = H c') ∧ kWalk tb σ j kS f c' xs (ks ++ [k]) (upd H' kS (.lst (ks ++ [k]))) R
def del (H : Hp) (a : Addr) : Hp := fun b => if b = a then none else H b
theorem del_ne {H : Hp} {a b : Addr} (h : b ≠ a) : del H a b = H b := if_neg h
theorem del_same {H : Hp} {a : Addr} : del H a a = none := if_pos rfl
/-- what is to hold behind the last key -/
def kEnd (K : PySem.W.Frag) (xs : List V) (kS : Addr) (Q : VK) (ks : List V) (H : Hp) : Prop := ∃ bs : List (V × V × PyData), (bs.map fun b => b.1) = xs ∧ (bs.map fun b => b.2.1) = ks ∧ (∀ b ∈ bs, Dp K H b.2.1 b.2.2) ∧
  AllAlike (bs.map fun b => b.2.2) ∧ Sortable (bs.map fun b => b.2.2) ∧ (∀ b ∈ bs, b.2.2.depth ≤ 60) ∧
  ∀ p : Addr, H p = none → Q (.ref p) (upd (del H kS) p (.lst ((bs.mergeSort (dataLe false fun b => b.2.2)).map fun b => b.1)))
theorem vals_at : ∀ {xs : List V} {us : List Value} {i : Nat} {u : Value}, Vals xs us → us[i]? = some u → ∃ x, xs[i]? = some x ∧ RelV x u
  | _, _, _, _, .nil, e => by simp at e
  | _, _, 0, _, .cons r _, e => by
    simp at e
    subst e
    exact ⟨_, rfl, r⟩
  | _, _, i + 1, _, .cons _ t, e => by
    obtain ⟨x, h1, h2⟩ := vals_at (i := i) t (by simpa using e)
    exact ⟨x, by simpa using h1, h2⟩
theorem each_two {β : Type} {f g : β → V} : ∀ {bs : List β} {us ws : List Value}, Vals (bs.map f) us → Vals (bs.map g) ws → EachIs (fun u b => RelV (f b) u) us bs ∧ EachIs (fun u b => RelV (g b) u) ws bs := fun h1 h2 => ⟨each_vals h1, each_vals h2⟩
section
variable {X : Cx} {pins : List (Addr × Obj)} {σ : L2.St} {H : Hp} {s : Shared}
theorem Inv.fewer {p : Addr × Obj} (I : Inv X (p :: pins) σ H s) : Inv X pins σ H s := I.pins_of fun q hq => I.pin q (by
  rcases List.mem_append.mpr (.inr hq : q ∈ X.pn ∨ q ∈ pins) |> List.mem_append.mp with h | h
  · exact List.mem_append_left _ h
  · exact List.mem_append_right _ (List.mem_cons_of_mem _ h))
/-- two lists of ours are done with: one is tracked from now on, one is no longer -/
theorem Inv.swap {a kS : Addr} {o : HO} {h' : Heap} {t' : Nat} {ks : List V} (I : Inv X pins σ H s) (hk : H kS = some (.lst ks)) (ha : H a = none) (hl1 : a ≠ X.env.locals) (hl2 : kS ≠ X.env.locals) (c1 : ∀ x c, X.env.cells.lookup x = some c → c ≠ a ∧ c ≠ kS)
    (p1 : ∀ p ∈ X.pn ++ pins, p.1 ≠ a ∧ p.1 ≠ kS) (z1 : X.s_0.heap.objs.size ≤ a) (z2 : X.s_0.heap.objs.size ≤ kS) (k : ∀ b u, b ≠ a → b ≠ kS → s.heap.get? b = some u → h'.get? b = some u)
    (new : ObjOk X.prog X.w (upd (del H kS) a o) h' a o) : Inv X pins σ (upd (del H kS) a o) { s with heap := h', toks := t' } := by
  have nit : ∀ b u, H b = some u → b ≠ a := fun b u e z => by rw [z, ha] at e; cases e
  have up : ∀ b u, H b = some u → (∀ xs, u ≠ .lst xs) → upd (del H kS) a o b = some u := fun b u e n => by
    have hb : b ≠ kS := fun z => by
      rw [z, hk] at e
      exact n ks (Option.some.inj e).symm
    rw [upd_ne (nit b u e), del_ne hb]
    exact e
  have nch : ∀ b, b ∉ [a, kS] → b ≠ a ∧ b ≠ kS := fun b hb => ⟨fun z => hb (by simp [z]), fun z => hb (by simp [z])⟩
  refine I.step (g' := s.gens) (d' := s.drawn) (ch := [a, kS]) (fun b hb => ?_) (fun b ob _ _ hc e _ => k b ob (nch b hc).1 (nch b hc).2 e) (fun b ob _ _ hc e _ => ⟨ob.slots, k b ob (nch b hc).1 (nch b hc).2 e⟩)
    (fun b ob hc _ n => ?_) (fun b ob hc e => ⟨ob, k b ob (nch b hc).1 (nch b hc).2 e⟩) (fun b _ e => up b _ e fun _ z => by cases z) (fun b _ _ e => up b _ e fun _ z => by cases z) (fun b ps e => ⟨#[], by rw [up b _ e fun _ z => by cases z]; simp⟩) (fun m hm => ?_) (fun b u e => ?_) I.bare
  · rcases List.mem_cons.mp hb with rfl | hb
    · exact ⟨.inr z1, hl1, fun x c e => (c1 x c e).1, fun p hp => (p1 p hp).1⟩
    · rw [List.mem_singleton.mp hb]
      exact ⟨.inr z2, hl2, fun x c e => (c1 x c e).2, fun p hp => (p1 p hp).2⟩
  · rw [upd_ne (nch b hc).1, del_ne (nch b hc).2]
    exact n
  · obtain ⟨ob, es, ep, ho, r⟩ := hm
    exact ⟨ob, es, ep, k _ ob hl1.symm hl2.symm ho, r⟩
  · by_cases hb : b = a
    · rw [hb, upd_same] at e
      cases e
      rw [hb]
      exact new
    · rw [upd_ne hb] at e
      by_cases hb2 : b = kS
      · rw [hb2, del_same] at e
        cases e
      · rw [del_ne hb2] at e
        refine (I.hok b u e).stay (fun c v hc q => k c v ?_ ?_ q) (fun c q => up c _ q fun _ z => by cases z) fun c _ q => up c _ q fun _ z => by cases z
        · rcases hc with z | z
          · rw [z]; exact hb
          · exact nit c _ z
        · rcases hc with z | z
          · rw [z]; exact hb2
          · intro z2
            rw [z2, hk] at z
            cases z
end
end Ev
set_option maxHeartbeats 2000000
namespace Ev
open PySem PySem.Spec PyProof.Rows L2 LamX PySem.W PySem.Calls
section
variable {X : Cx} {pins : List (Addr × Obj)} {σ : L2.St} {H : Hp} {s : Shared}
theorem key_core {params : Arguments} {body : Expr} {scope : Scope} {f c' : Addr} {k j : Nat} {nm : Str} {tb : TE} {Q : VK} {xs : List V} {its : List Value} (I : Inv X pins σ H s) (S : LamS1 X.env.scope scope nm) (hN : X.N.Nodup) (hj : X.N[j]? = some nm)
    (hr : Room (k + 3) X.A) (hf : H f = some (LamO f (lamF X params body scope c'))) (hc : H c' = some (CodeO c' (X.env.qual ++ "<lambda>")))
    (hbind : ∀ (q : Str) (cl : List (Str × Addr)) (pm cv ctv u : Value), bindArgs (kla_fn "<lambda>" q params body scope cl pm cv ctv) ⟨[u], []⟩ = pure [(nm, u)])
    (hb : ∀ (A : Around) (s : Shared) (H : Hp), Room k (A.deeper (lamEnvF (lamF X params body scope c') f s.heap.objs.size)) → PE (lamC X A s H (lamF X params body scope c') f) body tb)
    (rv : Vals xs its) (hz : its.length ≤ sizeLine) (wk : ∀ kS, H kS = none → kWalk tb σ j kS f c' xs [] (upd H kS (.lst [])) (kEnd X.K xs kS Q)) (E' : Value → Shared → Prop) :
    wpAny (model X.prog X.w) X.A.in1.in1 (Builtin.«list.sort» ⟨[.ref (s.heap.objs.size + 1)], [(Str.ofString "key", .ref f)]⟩) (fun fl s' => fl = .done (.ret .none) ∧ EP X pins σ Q (.ref (s.heap.objs.size + 1)) s') E' { s with heap := copyHeap s.heap its } := by
  rw [ksk_t1]
  obtain ⟨e1, ho1⟩ : ∃ e1, ((copyHeap s.heap its).update (s.heap.objs.size + 1) (Obj.mapSeq fun _ => (#[] : Array Value))).get? (s.heap.objs.size + 1) = some (seqObj "list" #[] e1) := ⟨_, get?_update_seq (copyHeap_at s.heap its) fun _ => #[]⟩
  have old : ∀ b o, s.heap.get? b = some o → b ≠ s.heap.objs.size + 1 ∧ ((copyHeap s.heap its).update (s.heap.objs.size + 1) (Obj.mapSeq fun _ => (#[] : Array Value))).get? b = some o := fun b o e => by
    have hlt := Heap.lt_size e
    have hne : b ≠ s.heap.objs.size + 1 := Nat.ne_of_lt (Nat.lt_succ_of_lt hlt)
    exact ⟨hne, (Heap.get?_update_ne _ _ _ _ hne).trans (copyHeap_old e)⟩
  have haf : H (s.heap.objs.size + 1) = none := I.hok.fresh (Nat.le_succ _)
  have alt : s.heap.objs.size + 1 < ((copyHeap s.heap its).update (s.heap.objs.size + 1) (Obj.mapSeq fun _ => (#[] : Array Value))).objs.size := Heap.lt_size ho1
  generalize hh1 : (copyHeap s.heap its).update (s.heap.objs.size + 1) (Obj.mapSeq fun _ => (#[] : Array Value)) = g1 at ho1 old alt
  generalize ha : s.heap.objs.size + 1 = a at ho1 old alt haf
  have age : s.heap.objs.size ≤ a := by omega
  unfold ksk_tree
  refine wpAny_bind ?_
  refine listItems_at (by rw [← ha]; exact copyHeap_at s.heap its) rfl ?_
  refine wpAny_bind ?_
  have hz1 : its.toArray.size ≤ sizeLine := by
    rw [List.size_toArray]
    exact hz
  refine listUpdate_at (by rw [← ha]; exact copyHeap_at s.heap its) rfl ?_ hz1 (Nat.zero_le _)
  subst ha
  dsimp only
  rw [hh1]
  refine wpAny_bind ?_
  refine seqEpoch_at ho1 rfl ?_
  refine wpAny_bind ?_
  refine wpAny_newTuple ?_ (by show its.length ≤ _; exact hz)
  refine wpAny_bind ?_
  refine wpAny_newList ?_ (Nat.zero_le _)
  refine wpAny_holding ?_
  have hkS : (g1.push (seqObj "tuple" its.toArray 0)).objs.size = g1.objs.size + 1 := size_push' ..
  generalize hg2 : g1.push (seqObj "tuple" its.toArray 0) = g2 at hkS
  have old2 : ∀ b o, s.heap.get? b = some o → g2.get? b = some o := fun b o e => by
    rw [← hg2]
    exact Heap.get?_push_of_some _ (old b o e).2
  have ho2 : g2.get? (s.heap.objs.size + 1) = some (seqObj "list" #[] e1) := by
    rw [← hg2]
    exact Heap.get?_push_of_some _ ho1
  have I1 : Inv X pins σ H { s with heap := g2, toks := s.toks } := I.kept old2
  have nk : (g2.push (seqObj "list" #[] 0)).get? g2.objs.size = some (seqObj "list" #[] 0) := Heap.get?_push_size _ rfl
  have kfree : H g2.objs.size = none := I1.hok.fresh (Nat.le_refl _)
  have I2 : Inv X pins σ (upd H g2.objs.size (.lst [])) { s with heap := g2.push (seqObj "list" #[] 0), toks := s.toks } :=
    I1.laid (a := g2.objs.size) (fun b u e => Heap.get?_push_of_some _ e) (Nat.le_refl _) ⟨Nat.zero_le _, [], 0, .nil, nk⟩
  have hka : g2.objs.size ≠ s.heap.objs.size + 1 := by omega
  have kge : s.heap.objs.size ≤ g2.objs.size := by omega
  have ho3 : (g2.push (seqObj "list" #[] 0)).get? (s.heap.objs.size + 1) = some (seqObj "list" #[] e1) := Heap.get?_push_of_some _ ho2
  have fpa := I.fpOk age haf
  have fpk := I.fpOk kge kfree
  have I3 : Inv X ((s.heap.objs.size + 1, seqObj "list" #[] e1) :: pins) σ (upd H g2.objs.size (.lst [])) { s with heap := g2.push (seqObj "list" #[] 0), toks := s.toks } := I2.pins_of fun p hp => by
    rcases List.mem_cons.mp hp with rfl | hp
    · exact ⟨ho3, (upd_ne hka.symm).trans haf, fpa.2.1, fpa.2.2.1, fun v z => by cases z⟩
    · exact I2.pin p (List.mem_append_right _ hp)
  have hfk : f ≠ g2.objs.size := ne_of_none hf kfree
  have hck : c' ≠ g2.objs.size := ne_of_none hc kfree
  have hrA : Room (k + 1) X.A.in1.in1 := (hr.in1).in1
  have hxl := rv.length
  refine key_loop (s := { s with heap := g2.push (seqObj "list" #[] 0) }) (fun i s' ksv => ∃ (H' : Hp) (ks : List V), Inv X ((s.heap.objs.size + 1, seqObj "list" #[] e1) :: pins) σ H' s' ∧ Vals ks ksv ∧ ks.length = i ∧ H' g2.objs.size = some (.lst ks) ∧
      H' f = some (LamO f (lamF X params body scope c')) ∧ H' c' = some (CodeO c' (X.env.qual ++ "<lambda>")) ∧ (∃ e, s'.heap.get? g2.objs.size = some (seqObj "list" ksv.toArray e)) ∧ i ≤ its.length ∧ kWalk tb σ j g2.objs.size f c' (xs.drop i) ks H' (kEnd X.K xs g2.objs.size Q))
    ⟨_, [], I3, .nil, rfl, upd_same, (upd_ne hfk).trans hf, (upd_ne hck).trans hc, ⟨0, nk⟩, Nat.zero_le _, wk _ kfree⟩ hz (fun i s' ksv q => ?_) (fun i v hv s' ksv q => ?_) fun s' ksv q => ?_
  · obtain ⟨H', ks, _, r2, hl, _, _, _, he, _⟩ := q
    exact ⟨by rw [← r2.length]; exact hl, he⟩
  · obtain ⟨H', ks, J, r2, hl, h1, h2, h3, _, hi, hw⟩ := q
    have hiv : i < its.length := (List.getElem?_eq_some_iff.mp hv).1
    obtain ⟨x, hx, rx⟩ := vals_at rv hv
    have hix : i < xs.length := (List.getElem?_eq_some_iff.mp hx).1
    have hd : xs.drop i = x :: xs.drop (i + 1) := by
      rw [List.drop_eq_getElem_cons hix]
      congr 1
      have := List.getElem?_eq_getElem hix
      rw [hx] at this
      exact (Option.some.inj this).symm
    rw [hd] at hw
    unfold kWalk at hw
    refine wpAny_mono (lam1_call J S hN hj hrA rfl h2 h3 (fun pm ctv => hbind _ _ _ _ _ _) rx (fun h => hb _ _ _ h) hw) (fun u s'' q => ?_) fun _ _ z => z
    obtain ⟨y, H2, J2, ry, ⟨k1, k2, k3⟩, hw2⟩ := q
    have hk2 : H2 g2.objs.size = some (.lst ks) := k1.trans h1
    obtain ⟨hz2, items, n, ri, hob⟩ := J2.hok _ _ hk2
    obtain ⟨c2, hc2⟩ : ∃ c2, (s''.heap.update g2.objs.size (Obj.mapSeq (·.push u))).get? g2.objs.size = some (seqObj "list" (items.toArray.push u) c2) := ⟨_, get?_update_seq hob (·.push u)⟩
    have ea : items.toArray.push u = (items ++ [u]).toArray := by simp
    have same := Heap.SameBut.update s''.heap g2.objs.size (Obj.mapSeq (·.push u))
    have J3 : Inv X ((s.heap.objs.size + 1, seqObj "list" #[] e1) :: pins) σ (upd H2 g2.objs.size (.lst (ks ++ [y]))) { s'' with heap := s''.heap.update g2.objs.size (Obj.mapSeq (·.push u)), toks := s''.toks } := by
      refine J2.write (x := g2.objs.size) (e := g2.objs.size) (by rw [hk2]; trivial) (.inl rfl) (fun b o hb e => (same.2 b hb).trans e) ⟨_, hc2⟩ ?_
      refine ⟨?_, items ++ [u], c2, ri.append (.cons ry .nil), by rw [← ea]; exact hc2⟩
      rw [List.length_append, hl]
      simp only [List.length_singleton]
      omega
    refine ⟨items, by rw [← ri.length]; exact hl, ⟨n, hob⟩, _, ks ++ [y], J3, ri.append (.cons ry .nil), by rw [List.length_append, hl]; rfl, upd_same, ?_, ?_, ⟨c2, by rw [← ea]; exact hc2⟩, hiv, hw2⟩
    · rw [upd_ne hfk, k2]
      exact h2
    · rw [upd_ne hck, k3]
      exact h3
  · obtain ⟨H', ks, J, r2, hl, h1, h2, h3, ⟨e2, he2⟩, _, hw⟩ := q
    rw [List.drop_eq_nil_of_le (by omega)] at hw
    unfold kWalk at hw
    obtain ⟨bs, b1, b2, b3, b4, b5, b6, q⟩ := hw
    subst b1
    subst b2
    obtain ⟨ei, ek⟩ := each_two rv r2
    have er : EachIs (fun v b => ∃ as, Reads s'.heap v b.2.2 as) ksv bs := (each_mem ek).mono fun u b m => Dp.reads J b.2.2 b.2.1 u (b3 b m.2) m.1
    have hbl : bs.length = its.length := by rw [← hxl, List.length_map]
    have hkl : ksv.length = its.length := by
      rw [← r2.length]
      exact hl
    have hpin := J.pin (s.heap.objs.size + 1, seqObj "list" #[] e1) (List.mem_append_right _ List.mem_cons_self)
    have kp : KeepsBut (s.heap.objs.size + 1) (hideAll s'.heap [g2.objs.size]) s'.heap := fun b o _ e => of_hideAll _ e
    have hS := SortsAt.data (prog := X.prog) (w := X.w) (A := X.A.in1.in1) (s := s') (each_map (R := fun v d => ∃ as, Reads s'.heap v d as) (fun b : V × V × PyData => b.2.2) er) b4 b5 (fun d hd => by
      obtain ⟨b, hb, rfl⟩ := List.mem_map.mp hd
      have h60 := b6 b hb
      have := hrA.un
      omega)
    refine keyH_end (κ := dataKind s'.heap (bs.map fun b => b.2.2)) (h₁ := hideAll s'.heap [g2.objs.size]) (keys := ksv.toArray) (e := e2) kp (hideAll_none _ List.mem_cons_self) he2 hpin.1 hka hS (by rw [List.size_toArray]; exact hkl) hz fun h' tk cc kh hD => ⟨rfl, ?_⟩
    have eo : EachIs (fun u b => RelV b.1 u) (sortVals (dataKind s'.heap (bs.map fun b => b.2.2)) false ksv its) (bs.mergeSort (dataLe false fun b => b.2.2)) :=
      keyedOut_each (fun b : V × V × PyData => b.2.2) ⟨s'.heap, ksv, b4, rfl, each_map (R := fun v d => ∃ as, Reads s'.heap v d as) (fun b : V × V × PyData => b.2.2) er⟩ ei
    have hlen : ((bs.mergeSort (dataLe false fun b => b.2.2)).map fun b => b.1).length ≤ sizeLine := by
      rw [List.length_map, List.length_mergeSort, hbl]
      exact hz
    refine ⟨.ref _, upd (del H' g2.objs.size) (s.heap.objs.size + 1) (.lst ((bs.mergeSort (dataLe false fun b => b.2.2)).map fun b => b.1)), ?_, rfl, q _ hpin.2.1⟩
    refine Inv.swap (t' := tk) (Inv.fewer J) h1 hpin.2.1 fpa.2.1 fpk.2.1 (fun x c e => ⟨fpa.2.2.2.2.1 x c e, fpk.2.2.2.2.1 x c e⟩) (fun p hp => ⟨fpa.2.2.2.2.2 p hp, fpk.2.2.2.2.2 p hp⟩) (Nat.le_trans I.sz age) (Nat.le_trans I.sz kge) (fun b u n1 n2 e => ?_)
      ⟨hlen, _, cc, vals_each eo, hD⟩
    exact kh b u n1 (hideAll_get _ e (by simpa using n2))
end
end Ev
set_option maxHeartbeats 2000000
namespace Ev
open PySem PySem.Spec PyProof.Rows L2 LamX PySem.W PySem.Calls
/-- the reading of sorted(e, key=lambda nm: body): xs a list's or a tuple's items -/
def tSortK (X : Cx) (T : List (Addr × Str)) (params : Arguments) (body : Expr) (scope : Scope) (j : Nat) (ta : TA) (tb : TE) : TE := fun σ H Q => ta σ H fun vs H1 => ∃ (l : Addr) (xs : List V), vs = [.ref l] ∧ (SqL X.K H1 l xs ∨ SqT X.K H1 l xs) ∧ Tabs T H1 ∧
  ∀ (f c' : Addr) (H2 : Hp), ExtT T H1 H2 → (∀ b, H2 b = none → H1 b = none) → Tabs T H2 → H1 f = none → H2 f = some (LamO f (lamF X params body scope c')) → H2 c' = some (CodeO c' (X.env.qual ++ "<lambda>")) →
    ∀ kS, H2 kS = none → kWalk tb σ j kS f c' xs [] (upd H2 kS (.lst [])) (kEnd X.K xs kS Q)
section
variable {X : Cx}
theorem sqT_ext {K : PySem.W.Frag} {T : List (Addr × Str)} {H H' : Hp} {l : Addr} {xs : List V} (t : Tabs T H) (e : ExtT T H H') (h : SqT K H l xs) : SqT K H' l xs := by
  rcases h with (h | ⟨o, h⟩) | h
  · exact .inl (.inl (e _ _ h (tab_not t h fun _ z => by cases z)))
  · exact .inl (.inr ⟨o, e _ _ h (tab_not t h fun _ z => by cases z)⟩)
  · exact .inr h
theorem sqL_ext {K : PySem.W.Frag} {T : List (Addr × Str)} {H H' : Hp} {l : Addr} {xs : List V} (t : Tabs T H) (e : ExtT T H H') (h : SqL K H l xs) : SqL K H' l xs := by
  rcases h with (h | ⟨o, h⟩) | h
  · exact .inl (.inl (e _ _ h (tab_not t h fun _ z => by cases z)))
  · exact .inl (.inr ⟨o, e _ _ h (tab_not t h fun _ z => by cases z)⟩)
  · exact .inr h
theorem pe_sortK {T : List (Addr × Str)} {c P : Addr} {params : Arguments} {body : Expr} {scope : Scope} {lpos p pos kpos : Pos} {e : Expr} {ta : TA} {tb : TE} {k j : Nat} {nm : Str} (hg : Gl X "sorted") (hm : X.mg "sorted" = none) (hv : bootBuiltins "sorted" = some (.builtin "sorted")) (ha : PA X [e] ta)
    (TB : TabB X.base X.mg c P) (hcode : X.env.code = .ref c) (hmT : (P, X.env.qual ++ "<lambda>") ∈ T) (hu : ∀ p ∈ T, p.1 = P → p.2 = X.env.qual ++ "<lambda>") (hdef : defaultsOf params X.env = ([], []))
    (S : LamS1 X.env.scope scope nm) (hN : X.N.Nodup) (hj : X.N[j]? = some nm) (hr : Room (k + 3) X.A)
    (hbind : ∀ (q : Str) (cl : List (Str × Addr)) (pm cv ctv u : Value), bindArgs (kla_fn "<lambda>" q params body scope cl pm cv ctv) ⟨[u], []⟩ = pure [(nm, u)])
    (hb : ∀ (A : Around) (s : Shared) (H : Hp) (f c' : Addr), Room k (A.deeper (lamEnvF (lamF X params body scope c') f s.heap.objs.size)) → PE (lamC X A s H (lamF X params body scope c') f) body tb)
    (hst : backTo pos (starEach [e] X.env) = (false, eval e X.env) :: backTo pos (starEach [] X.env) := by rfl) (hpl : (backTo pos (starEach [e] X.env)).any (·.1) = false := by rfl) :
    PE X (.Call (.Name "sorted" p) [e] [⟨some "key", .Lambda params body scope lpos, kpos⟩] pos) (tSortK X T params body scope j ta tb) := by
  refine ⟨fun pins s σ H Q I h => ?_⟩
  refine wpAny_Call_Name_kw (ld_blt I hg hm hv ?_ (by decide) (by decide))
  have hk : PK X [⟨some "key", .Lambda params body scope lpos, kpos⟩] (tCons (tLamV X T params body scope) tNil) := pk_cons (pe_lamV TB hcode hmT hu hdef S.free) pk_nil
  refine PyProof.Rows.callWith_kw (thn (ha.run pos pins s σ H _ I h) fun us s1 ⟨vs, H1, I1, r1, q1⟩ => ?_) hst hpl (by rfl) (by rfl)
  · obtain ⟨l, xs, rfl, hs, hT, q⟩ := q1
    refine thn (hk.run pos pins s1 σ H1 (fun zs H2 => ∃ (f c' : Addr), zs = [.ref f] ∧ ExtT T H1 H2 ∧ (∀ b, H2 b = none → H1 b = none) ∧ Tabs T H2 ∧ H1 f = none ∧ H2 f = some (LamO f (lamF X params body scope c')) ∧ H2 c' = some (CodeO c' (X.env.qual ++ "<lambda>"))) I1 ⟨hT, fun f c' H2 e1 e2 e3 e4 e5 e6 => ⟨f, c', rfl, e1, e2, e3, e4, e5, e6⟩⟩) fun ws s2 ⟨zs, H2, I2, r2, q2⟩ => ?_
    obtain ⟨f, c', rfl, e1, e2, e3, e4, e5, e6⟩ := q2
    rw [Vals.ref1 r1, Vals.ref1 r2]
    have wk := q f c' H2 e1 e2 e3 e4 e5 e6
    show wpAny _ _ (call (.builtin "sorted") [.ref l] [(Str.ofString "key", .ref f)]) _ _ s2
    rcases hs with hs | hs
    · obtain ⟨its, rv, hl, hz⟩ := I2.list (sqL_ext hT e1 hs)
      have hz' : its.length ≤ sizeLine := by rw [← rv.length]; exact hz
      exact sorted_of_sort hl.isList hz' (ksk_s1 _ _) (fun x => ksk_l1 _ _) fun E' => key_core I2 S hN hj hr e5 e6 hbind (fun A s H h => hb A s H f c' h) rv hz' wk E'
    · obtain ⟨its, rv, hl, hz⟩ := I2.tuple (sqT_ext hT e1 hs)
      have hz' : its.length ≤ sizeLine := by rw [← rv.length]; exact hz
      exact sortT_ofK hl hz' (ksk_s1 _ _) (fun x => ksk_l1 _ _) fun E' => key_core I2 S hN hj hr e5 e6 hbind (fun A s H h => hb A s H f c' h) rv hz' wk E'
end
end Ev
set_option maxHeartbeats 2000000
namespace Ev
open PySem PySem.Spec PyProof.Rows L2 LamX PySem.W
/-! ### sorted with a key, over data -/
/-- what a key's body runs in -/
abbrev kCtx (CL : CLs) : Ctx := ⟨CL, [], fun _ _ _ => False⟩
def sortBy (xs ks : List D) : Option (List D) := match D.pys ks with
  | none => none
  | some ps => if ks.length = xs.length ∧ (alikeB ps && sortB ps && deepB ps) = true then some (((xs.zip ps).mergeSort (dataLe false fun t => t.2)).map fun t => t.1) else none
section
variable {K : PySem.W.Frag} {c : Ctx} {F F1 F2 F' H H1 H2 H' : Hp} {ρ ρ1 ρ2 ρ' : Env} {σ : L2.St} {v : V} {vs : List V}
theorem Rel.growT (R : Rel K c F ρ σ H) (f : Ex F F') (h : ∀ a o, H a = some o → ¬ c.CL.at a → H' a = some o) (x : Ex F' H') (fr : ∀ a, F a = none → Liv H a → F' a = none) (tb : Tabs c.CL.tb H') : Rel K c F' ρ σ H' :=
  ⟨R.len, R.lenO, x, fun k s e => (R.ok k s e).grow f fun a vs _ _ h1 ho h2 => ⟨h _ _ h1 (tabs_own R.tb h1 ho), fr a h2 (Liv.of h1 ho.liv)⟩, R.apart, R.att, R.noLk, fun j d a e1 e2 => f.ne (R.fz j d a e1 e2), tb,
    R.tn.grow f fun a h0 => fr a (R.tn.1 a h0) (by obtain ⟨ps, e⟩ := tabs_at R.tb h0; exact Liv.of e rfl)⟩
theorem GoE.grownT (c : Ctx) (ρ : Env) (σ : L2.St) (f : Ex F F') (h : ∀ a o, H a = some o → ¬ c.CL.at a → H' a = some o) (fr : ∀ a, F a = none → Liv H a → F' a = none) (gr : ∀ a, H a ≠ none → H' a ≠ none) : GoE K c σ F ρ H F' ρ H' :=
  ⟨f, fun a o e n => h a o e fun z => n (.inr (.inl z)), fun a h1 h2 _ => fr a h1 h2, fun _ h => h, fun _ _ h => h, gr, fun _ s h e => ⟨s, h, e⟩, fun _ s h e => ⟨s, h, e⟩, fun _ h => h⟩
theorem tabs_del {T : List (Addr × Str)} {a : Addr} {us : List V} (t : Tabs T H) (e : H a = some (.lst us)) : Tabs T (del H a) := fun p hp => by
  obtain ⟨ps, h1, h2, h3⟩ := t p hp
  refine ⟨ps, ?_, h2, fun pos cv hc => ?_⟩
  · rw [del_ne (ne_of h1 e (by simp))]
    exact h1
  · obtain ⟨q, e1, e2⟩ := h3 pos cv hc
    refine ⟨q, e1, ?_⟩
    rw [del_ne (ne_of e2 e (by unfold CodeO; simp))]
    exact e2
theorem keyEnv_v (ρ : Env) (j : Nat) (x : D) (k : Nat) : (keyEnv ρ j x).v[k]? = if j = k then (if k < ρ.v.length then some (.sh x) else none) else ρ.v[k]?.map fun s => match s with | .sh d => .sh d | _ => .un := by
  unfold keyEnv
  simp only
  rw [List.getElem?_set]
  simp only [List.length_map, List.getElem?_map]
  split
  · rename_i h
    subst h
    rfl
  · rfl
theorem keyEnv_len (ρ : Env) (j : Nat) (x : D) : (keyEnv ρ j x).v.length = ρ.v.length := by
  unfold keyEnv
  simp
/-- no list of its own is seen by a key -/
theorem keyEnv_held (ρ : Env) (j : Nat) (x : D) {k : Nat} {s : Slot} (e : (sl (keyEnv ρ j x))[k]? = some s) : s.held = false := by
  have e' : (keyEnv ρ j x).v[k]? = some s := by
    have z : sl (keyEnv ρ j x) = (keyEnv ρ j x).v := by unfold sl keyEnv; simp
    rw [z] at e
    exact e
  rw [keyEnv_v] at e'
  split at e'
  · split at e'
    · cases e'
      rfl
    · cases e'
  · cases q : ρ.v[k]? with
    | none => rw [q] at e'; cases e'
    | some t =>
      rw [q] at e'
      simp only [Option.map_some, Option.some.injEq] at e'
      subst e'
      cases t <;> rfl
/-- what stays true from key to key -/
structure KSt (K : PySem.W.Frag) (c : Ctx) (ρ : Env) (σ : L2.St) (F1 H1 : Hp) (kS : Addr) (fo co : Addr × HO) (F' H' : Hp) (ks : List V) (kd : List D) : Prop where
  f : Ex F1 F'
  k : ∀ a o, H1 a = some o → ¬ c.CL.at a → H' a = some o
  fr : ∀ a, F1 a = none → Liv H1 a → F' a = none
  gr : ∀ a, H1 a ≠ none → H' a ≠ none
  x : Ex F' H'
  tb : Tabs c.CL.tb H'
  hk : H' kS = some (.lst ks)
  fk : F' kS = none
  hf : H' fo.1 = some fo.2
  hc : H' co.1 = some co.2
  den : DenL K c.CL F' ks kd
theorem key_rel (R : Rel K c F1 ρ σ H1) {kS : Addr} {fo co : Addr × HO} {ks : List V} {kd : List D} (T : KSt K c ρ σ F1 H1 kS fo co F' H' ks kd) {j : Nat} {x : V} {d : D} (hd : Den K c.CL F' x d) : Rel K (kCtx c.CL) F' (keyEnv ρ j d) (σ.set j (some x)) H' := by
  have hz : sl (keyEnv ρ j d) = (keyEnv ρ j d).v := by unfold sl keyEnv; simp
  have vz : vl (kCtx c.CL) (σ.set j (some x)) = σ.set j (some x) := by unfold vl; simp
  refine ⟨by rw [keyEnv_len, List.length_set]; exact R.len, rfl, T.x, fun k s e => ?_, fun k k' s s' a e e' hh => ?_, fun i e => ?_, fun i xs e => ?_, fun i d a e => ?_, T.tb, R.tn.grow T.f fun a h => ?_⟩
  · rw [hz, keyEnv_v] at e
    rw [vz]
    split at e
    · rename_i hjk
      subst hjk
      split at e
      · rename_i hl
        cases e
        exact ⟨x, by rw [List.getElem?_set_self (by rw [← R.len]; exact hl)], hd⟩
      · cases e
    · rename_i hjk
      rw [List.getElem?_set_ne hjk]
      cases q : ρ.v[k]? with
      | none => rw [q] at e; cases e
      | some t =>
        rw [q] at e
        simp only [Option.map_some, Option.some.injEq] at e
        subst e
        cases t with
        | sh y =>
          obtain ⟨u, e1, e2⟩ := R.slot q
          exact ⟨u, e1, e2.mono T.f⟩
        | un => trivial
        | att => trivial
        | ow _ => trivial
        | lk _ => trivial
        | od _ _ => trivial
  · rw [keyEnv_held ρ j d e] at hh
    cases hh
  · have z : ([] : List Slot)[i]? = some .att := e
    simp at z
  · have z : ([] : List Slot)[i]? = some (.lk xs) := e
    simp at z
  · have z : ([] : List Slot)[i]? = some (.sh _) := e
    simp at z
  · obtain ⟨ps, e⟩ := tabs_at R.tb h
    exact T.fr a (R.tn.1 a h) (Liv.of e rfl)
theorem kwalk_go (R : Rel K c F1 ρ σ H1) {kS : Addr} {fo co : Addr × HO} {j : Nat} {key : E} {Rz : List V → Hp → Prop} (nf : ∀ ps, fo.2 ≠ .tbl ps) (nc : ∀ ps, co.2 ≠ .tbl ps) (k1 : H1 kS = none) (f1 : fo.1 ≠ kS) (c1 : co.1 ≠ kS) :
    ∀ (vs : List V) (xs ys : List D) (ks : List V) (kd : List D) (F' H' : Hp), KSt K c ρ σ F1 H1 kS fo co F' H' ks kd → DenL K c.CL F' vs xs → keyAll (fun x => match evE key (keyEnv ρ j x) with | .ok (.d y) _ => some y | _ => none) xs = some ys →
      (∀ F2 H2 kk, KSt K c ρ σ F1 H1 kS fo co F2 H2 kk (kd ++ ys) → Rz kk H2) → kWalk (tEv K (kCtx c.CL) key) σ j kS fo.1 co.1 vs ks H' Rz
  | [], xs, ys, ks, kd, F', H', T, l, e, q => by
    cases l
    unfold keyAll at e
    cases e
    unfold kWalk
    exact q F' H' ks (by rw [List.append_nil]; exact T)
  | x :: vs, d :: xs, ys, ks, kd, F', H', T, .cons hd l, e, q => by
    unfold keyAll at e
    unfold kWalk
    split at e
    · cases e
    · rename_i y hy
      split at e
      · cases e
      · rename_i ys2 hys
        cases e
        split at hy
        · rename_i y2 ρ2 hev
          cases hy
          refine ⟨F', keyEnv ρ j d, key_rel R T hd, ?_⟩
          rw [hev]
          intro F3 H3 R3 g3 v hv
          have nown : ∀ a o, H' a = some o → (∀ ps, o ≠ .tbl ps) → ¬ own (kCtx c.CL) (keyEnv ρ j d) (σ.set j (some x)) a := fun a o ea no h => by
            rcases h with ⟨k, zs, e1, _⟩ | h | ⟨k, ks0, zs, e1, _⟩
            · have := keyEnv_held ρ j d e1
              cases this
            rotate_left
            · have := keyEnv_held ρ j d e1
              cases this
            · obtain ⟨ps, e2⟩ := tabs_at T.tb h
              rw [ea] at e2
              exact no ps (Option.some.inj e2)
          have hk3 : H3 kS = some (.lst ks) := g3.keep _ _ T.hk (nown _ _ T.hk fun _ z => by cases z)
          have hf3 : H3 fo.1 = some fo.2 := g3.keep _ _ T.hf (nown _ _ T.hf nf)
          have hc3 : H3 co.1 = some co.2 := g3.keep _ _ T.hc (nown _ _ T.hc nc)
          have fk3 : F3 kS = none := g3.fr _ T.fk (Liv.of T.hk rfl) (nown _ _ T.hk fun _ z => by cases z)
          refine ⟨⟨hk3.trans T.hk.symm, hf3.trans T.hf.symm, hc3.trans T.hc.symm⟩, ?_⟩
          have keepAt : ∀ a, ¬ c.CL.at a → ¬ own (kCtx c.CL) (keyEnv ρ j d) (σ.set j (some x)) a := fun a n h => by
            rcases h with ⟨k, zs, e1, _⟩ | h | ⟨k, ks0, zs, e1, _⟩
            · have := keyEnv_held ρ j d e1
              cases this
            · exact n h
            · have := keyEnv_held ρ j d e1
              cases this
          refine kwalk_go R nf nc k1 f1 c1 vs xs ys2 (ks ++ [v]) (kd ++ [y]) F3 (upd H3 kS (.lst (ks ++ [v]))) ⟨T.f.trans g3.f, fun a o e n => ?_, fun a e1 e2 => ?_, fun a e => ?_, fun a o e => ?_, tabs_upd R3.tb hk3, upd_same, fk3, ?_, ?_, ?_⟩ (DenL.mono g3.f _ l) hys fun F4 H4 kk T4 => q F4 H4 kk (by rw [List.append_assoc] at T4; exact T4)
          · have ha : a ≠ kS := ne_of_none e k1
            rw [upd_ne ha]
            exact g3.keep a o (T.k a o e n) (keepAt a n)
          · by_cases hat : c.CL.at a
            · exact R3.tn.1 a hat
            · exact g3.fr a (T.fr a e1 e2) (e2.keep fun o e => T.k a o e hat) (keepAt a hat)
          · have ha : a ≠ kS := fun z => by rw [z] at e; exact e k1
            rw [upd_ne ha]
            exact g3.grow a (T.gr a e)
          · have ha : a ≠ kS := fun z => by rw [z, fk3] at e; cases e
            rw [upd_ne ha]
            exact R3.ex a o e
          · rw [upd_ne f1]
            exact hf3
          · rw [upd_ne c1]
            exact hc3
          · exact DenL.append (DenL.mono g3.f _ T.den) (.cons hv .nil)
        · cases hy
end
end Ev
set_option maxHeartbeats 2000000
namespace Ev
open PySem PySem.Spec PyProof.Rows L2 LamX PySem.W
section
variable {K : PySem.W.Frag} {c : Ctx} {F F1 F2 F' H H1 H2 H' : Hp} {ρ ρ1 ρ2 ρ' : Env} {σ : L2.St} {v : V} {vs : List V}
theorem items_of {vs : List V} {ds xs : List D} (x : Ex F H) (V : Views K c F H vs ds) (e : itemsOf ds = some xs) : ∃ (l : Addr) (us : List L2.V), vs = [.ref l] ∧ (SqL K H l us ∨ SqT K H l us) ∧ DenL K c.CL F us xs := by
  unfold itemsOf at e
  split at e
  · cases e
    cases V with
    | cons v1 t => cases t; obtain ⟨a, us, rfl, q1, l1⟩ := v1; exact ⟨a, us, rfl, .inl (.inl (.inl q1)), l1⟩
  · cases e
    cases V with
    | cons v1 t => cases t; cases v1 with | @ro a us _ q1 l1 => exact ⟨a, us, rfl, .inl (x.l q1), l1⟩
  · cases e
    cases V with
    | cons v1 t => cases t; cases v1 with | @tup a us _ q1 l1 => exact ⟨a, us, rfl, .inr (x.t q1), l1⟩
  · cases e
/-- what the end of the keys asks, from the data -/
theorem kEnd_of {us kk : List V} {xs kd ys : List D} {kS : Addr} {Q : VK} (x : Ex F' H') (l : DenL K c.CL F' us xs) (lk : DenL K c.CL F' kk kd) (e : sortBy xs kd = some ys)
    (q : ∀ p ws, H' p = none → DenL K c.CL F' ws ys → Q (.ref p) (upd (del H' kS) p (.lst ws))) : kEnd K us kS Q kk H' := by
  unfold sortBy at e
  split at e
  · cases e
  · rename_i ps hp
    split at e
    · rename_i hb
      obtain ⟨hlen, hb⟩ := hb
      cases e
      obtain ⟨hb, b3⟩ := Bool.and_eq_true _ _ |>.mp hb
      obtain ⟨b1, b2⟩ := Bool.and_eq_true _ _ |>.mp hb
      obtain ⟨e1, e2⟩ := pys_map hp
      have h1 := l.length
      have h2 := lk.length
      let ts : List ((V × D) × (V × D)) := (us.zip xs).zip (kk.zip kd)
      have l1 : (us.zip xs).length = us.length := by rw [List.length_zip]; omega
      have l2 : (kk.zip kd).length = us.length := by rw [List.length_zip]; omega
      have m1 : ts.map (fun t => t.1) = us.zip xs := List.map_fst_zip (by omega)
      have m2 : ts.map (fun t => t.2) = kk.zip kd := List.map_snd_zip (by omega)
      have m11 : ts.map (fun t => t.1.1) = us := by
        have := congrArg (List.map Prod.fst) m1
        rw [List.map_map, List.map_fst_zip (by omega)] at this
        exact this
      have m12 : ts.map (fun t => t.1.2) = xs := by
        have := congrArg (List.map Prod.snd) m1
        rw [List.map_map, List.map_snd_zip (by omega)] at this
        exact this
      have m21 : ts.map (fun t => t.2.1) = kk := by
        have := congrArg (List.map Prod.fst) m2
        rw [List.map_map, List.map_fst_zip (by omega)] at this
        exact this
      have m22 : ts.map (fun t => t.2.2) = kd := by
        have := congrArg (List.map Prod.snd) m2
        rw [List.map_map, List.map_snd_zip (by omega)] at this
        exact this
      have hps : ts.map (fun t => t.2.2.pyd) = ps := by
        rw [e1, ← m22, List.map_map]
        rfl
      let g : (V × D) × (V × D) → V × V × PyData := fun t => (t.1.1, t.2.1, t.2.2.pyd)
      have hz1 := denL_zip l
      have hz2 := denL_zip lk
      have in1 : ∀ t ∈ ts, Den K c.CL F' t.1.1 t.1.2 := fun t ht => hz1 _ (by rw [← m1]; exact List.mem_map.mpr ⟨t, ht, rfl⟩)
      have in2 : ∀ t ∈ ts, Den K c.CL F' t.2.1 t.2.2 := fun t ht => hz2 _ (by rw [← m2]; exact List.mem_map.mpr ⟨t, ht, rfl⟩)
      have mg : ∀ t ∈ ts, ∃ p, t.2.2.py = some p := fun t ht => e2 _ (by rw [← m22]; exact List.mem_map.mpr ⟨t, ht, rfl⟩)
      have gps : (ts.map g).map (fun b => b.2.2) = ps := by
        rw [List.map_map, ← hps]
        rfl
      have hs : (ts.map g).mergeSort (dataLe false fun b => b.2.2) = (ts.mergeSort (dataLe false fun t => t.2.2.pyd)).map g := (List.map_mergeSort (f := g) (r := dataLe false fun t : (V × D) × (V × D) => t.2.2.pyd) (s := dataLe false fun b : V × V × PyData => b.2.2) fun _ _ _ _ => rfl).symm
      refine ⟨ts.map g, ?_, ?_, fun b hb => ?_, ?_, ?_, fun b hb => ?_, fun p hp => ?_⟩
      · rw [List.map_map]
        exact m11
      · rw [List.map_map]
        exact m21
      · obtain ⟨t, ht, rfl⟩ := List.mem_map.mp hb
        obtain ⟨p, hpp⟩ := mg t ht
        have hy : t.2.2.pyd = p := by unfold D.pyd; rw [hpp]; rfl
        show Dp K H' t.2.1 t.2.2.pyd
        rw [hy]
        exact dp_mono x (den_dp _ hpp (in2 t ht))
      · rw [gps]; exact alikeB_ok b1
      · rw [gps]; exact sortB_ok b2
      · have hm : b.2.2 ∈ ps := by rw [← gps]; exact List.mem_map.mpr ⟨b, hb, rfl⟩
        exact of_decide_eq_true (List.all_eq_true.mp b3 _ hm)
      · rw [hs, List.map_map]
        refine q p _ hp ?_
        have d1 : DenL K c.CL F' ((ts.mergeSort (dataLe false fun t => t.2.2.pyd)).map fun t => t.1.1) ((ts.mergeSort (dataLe false fun t => t.2.2.pyd)).map fun t => t.1.2) := by
          have := denL_of (K := K) (c := c) (F := F') (ts := (ts.mergeSort (dataLe false fun t => t.2.2.pyd)).map fun t => t.1) fun t ht => by
            obtain ⟨t', ht', rfl⟩ := List.mem_map.mp ht
            exact in1 t' (List.mem_mergeSort.mp ht')
          rw [List.map_map, List.map_map] at this
          exact this
        have d2 : ((xs.zip ps).mergeSort (dataLe false fun t => t.2)).map (fun t => t.1) = (ts.mergeSort (dataLe false fun t => t.2.2.pyd)).map fun t => t.1.2 := by
          have hx : xs.zip ps = ts.map fun t => (t.1.2, t.2.2.pyd) := by
            rw [← m12, ← hps]
            exact List.zip_map' ..
          rw [hx, ← List.map_mergeSort (f := fun t : (V × D) × (V × D) => (t.1.2, t.2.2.pyd)) (r := dataLe false fun t => t.2.2.pyd) (s := dataLe false fun t : D × PyData => t.2) fun _ _ _ _ => rfl, List.map_map]
          rfl
        rw [d2]
        exact d1
    · cases e
/-- sorted(e, key=lambda nm: body) -/
theorem e_sortk {X : Cx} {c : Ctx} {x : Expr} {as : Es} {key : E} {j : Nat} {params : Arguments} {body : Expr} {scope : Scope} (h : PE X x (tSortK X c.CL.tb params body scope j (tEvA X.K c as) (tEv X.K (kCtx c.CL) key))) : PEv X c x (.sortk sortBy as j key) := PE.wk h fun σ H Q ⟨F, ρ, R, P⟩ => by
  unfold evE at P
  refine tEvA_bind R P fun F1 ρ1 H1 bs vs R1 g1 hb P1 => ?_
  split at P1
  · exact P1.elim
  · rename_i ds hds
    split at P1
    · exact P1.elim
    · rename_i xs hxs
      split at P1
      · exact P1.elim
      · rename_i ks hks
        split at P1
        · exact P1.elim
        · rename_i ys hys
          obtain ⟨l, us, rfl, hs, hd⟩ := items_of R1.ex (hb.views R1 hds) hxs
          refine ⟨l, us, rfl, hs, R1.tb, fun f c' H2 eN mono T2 f0 f2 c2 kS hkS => ?_⟩
          have hkS1 : H1 kS = none := mono kS hkS
          have hfk : f ≠ kS := ne_of_none f2 hkS
          have hck : c' ≠ kS := ne_of_none c2 hkS
          have hF1k : F1 kS = none := by
            cases z : F1 kS with
            | none => rfl
            | some o => rw [R1.ex _ _ z] at hkS1; cases hkS1
          have up : ∀ a o, H1 a = some o → ¬ c.CL.at a → (upd H2 kS (.lst [])) a = some o := fun a o e n => by
            rw [upd_ne (ne_of_none e hkS1)]
            exact eN a o e n
          have tb3 : Tabs c.CL.tb (upd H2 kS (.lst [])) := T2.ext fun b o e => (upd_ne (ne_of_none e hkS)).trans e
          have x3 : Ex F1 (upd H2 kS (.lst [])) := fun a o e => by
            refine up a o (R1.ex a o e) fun hat => ?_
            have := R1.tn.1 a hat
            rw [e] at this
            cases this
          have st : KSt X.K c ρ1 σ F1 H1 kS (f, LamO f (lamF X params body scope c')) (c', CodeO c' (X.env.qual ++ "<lambda>")) F1 (upd H2 kS (.lst [])) [] [] :=
            ⟨Ex.refl _, up, fun a e _ => e, fun a e z => by
              by_cases ha : a = kS
              · rw [ha] at e
                exact e hkS1
              · rw [upd_ne ha] at z
                exact e (mono a z), x3, tb3, upd_same, hF1k, (upd_ne hfk).trans f2, (upd_ne hck).trans c2, .nil⟩
          refine kwalk_go R1 (fo := (f, LamO f (lamF X params body scope c'))) (co := (c', CodeO c' (X.env.qual ++ "<lambda>"))) (fun ps => lamO_ne ps) (fun ps => codeO_ne ps) hkS1 hfk hck us xs ks [] [] F1 _ st hd hks fun F4 H4 kk T4 => ?_
          refine kEnd_of T4.x (DenL.mono T4.f _ hd) (by rw [List.nil_append] at T4; exact T4.den) hys fun p ws hp lw => ?_
          have hpk : p ≠ kS := fun z => by rw [z, T4.hk] at hp; cases hp
          have hFp : F4 p = none := by
            cases z : F4 p with
            | none => rfl
            | some o => rw [T4.x _ _ z] at hp; cases hp
          have h1p : H1 p = none := by
            cases z : H1 p with
            | none => rfl
            | some o => exact absurd hp (T4.gr p (by rw [z]; simp))
          have keep4 : ∀ a o, H1 a = some o → ¬ c.CL.at a → (upd (del H4 kS) p (.lst ws)) a = some o := fun a o e n => by
            rw [upd_ne (ne_of_none e h1p), del_ne (ne_of_none e hkS1)]
            exact T4.k a o e n
          have x4 : Ex F4 (upd (del H4 kS) p (.lst ws)) := fun a o e => by
            rw [upd_ne (ne_of_none e hFp), del_ne (ne_of_none e T4.fk)]
            exact T4.x a o e
          have tb4 : Tabs c.CL.tb (upd (del H4 kS) p (.lst ws)) := (tabs_del T4.tb T4.hk).ext fun b o e => by
            have hb : b ≠ p := fun z => by
              rw [z, del_ne hpk, hp] at e
              cases e
            rw [upd_ne hb]
            exact e
          have gr4 : ∀ a, H1 a ≠ none → (upd (del H4 kS) p (.lst ws)) a ≠ none := fun a e => by
            have h1 : a ≠ p := fun z => by rw [z] at e; exact e h1p
            have h2 : a ≠ kS := fun z => by rw [z] at e; exact e hkS1
            rw [upd_ne h1, del_ne h2]
            exact T4.gr a e
          refine P1 F4 _ (R1.growT T4.f keep4 x4 T4.fr tb4) (g1.trans (GoE.grownT c ρ1 σ T4.f keep4 T4.fr gr4)) _ ⟨p, ws, rfl, upd_same, hFp, lw, ?_⟩
          cases z : H p with
          | none => rfl
          | some o => exact absurd h1p (g1.grow p (by rw [z]; simp))
end
end Ev
set_option maxHeartbeats 2000000
namespace Ev
open PySem PySem.Spec PyProof.Rows L2 LamX PySem.W
/-- the code object cd of a def (q: its name and the dot) has a table that is known -/
structure LamAt (base : Heap) (mg : Str → Option Value) (CL : CLs) (cd : Value) (q : Str) : Prop where
  ex : ∃ c P : Addr, cd = .ref c ∧ TabB base mg c P ∧ (P, q ++ "<lambda>") ∈ CL.tb ∧ ∀ p ∈ CL.tb, p.1 = P → p.2 = q ++ "<lambda>"
theorem e_sortL {X : Cx} {c : Ctx} {as : Es} {key : E} {params : Arguments} {body : Expr} {scope : Scope} {lpos p pos kpos : Pos} {e : Expr} {k j : Nat} {nm : Str} (L : LamAt X.base X.mg c.CL X.env.code X.env.qual) (hg : Gl X "sorted") (hm : X.mg "sorted" = none) (hv : bootBuiltins "sorted" = some (.builtin "sorted"))
    (ha : PAv X c [e] as) (hdef : defaultsOf params X.env = ([], [])) (S : LamS1 X.env.scope scope nm) (hN : X.N.Nodup) (hj : X.N[j]? = some nm) (hr : Room (k + 3) X.A)
    (hbind : ∀ (q : Str) (cl : List (Str × Addr)) (pm cv ctv u : Value), bindArgs (kla_fn "<lambda>" q params body scope cl pm cv ctv) ⟨[u], []⟩ = pure [(nm, u)])
    (hb : ∀ (A : Around) (s : Shared) (H : Hp) (f c' : Addr), Room k (A.deeper (lamEnvF (lamF X params body scope c') f s.heap.objs.size)) → PEv (lamC X A s H (lamF X params body scope c') f) (kCtx c.CL) body key)
    (hst : backTo pos (starEach [e] X.env) = (false, eval e X.env) :: backTo pos (starEach [] X.env) := by rfl) (hpl : (backTo pos (starEach [e] X.env)).any (·.1) = false := by rfl) :
    PEv X c (.Call (.Name "sorted" p) [e] [⟨some "key", .Lambda params body scope lpos, kpos⟩] pos) (.sortk sortBy as j key) := by
  obtain ⟨cc, P, h1, h2, h3, h4⟩ := L.ex
  exact e_sortk (pe_sortK hg hm hv ha h2 h1 h3 h4 hdef S hN hj hr hbind hb hst hpl)
/-- a def that makes lambdas -/
theorem fn_okL {P : Program} {w : World} {K : PySem.W.Frag} {mg : Str → Option Value} {base : Heap} {x qual : Str} {st : Stmt} {f : Addr} {fd : FuncData} {N ps : List Str} {k n : Nat} {CL : CLs} {ir : Ss} (L : LamAt base mg CL fd.code (qual ++ ".<locals>.")) (Fu : Fun K x qual st f fd) (S : FnScope N ps (defScope st)) (hn : ps.length = n) (hN : n ≤ N.length)
    (hb : ∀ (cdv : Value) (A : Around) (outer : List PySem.Env) (s : Shared) (H : Hp) (E : XK) (c : Ctx), c.CL = CL → (∀ C d H, c.E C d H → False) → LamAt base mg CL cdv (qual ++ ".<locals>.") → Room k (A.deeper (PyProof.Rows.envOfC qual (defScope st) s.heap.objs.size f cdv)) →
      PSsv (cxOf CX0 P w K mg base N qual (defScope st) f cdv A outer s H E).nox c (defBody st) ir) :
    FnOk P w K mg base CX0 (k + 1) f fd ps (spF K CL (runFn0 N.length ir) n) := by
  obtain ⟨oc, od, kV, doc, pm, an, cdv, ct, osl, rfl, lk, hcd⟩ := Fu.ex
  refine fn_of lk hcd S (fun vs H Q E h => by rw [hn]; exact h.1) fun A outer s H vs Q E hr h => ?_
  have hbody := hb cdv A outer s H E ⟨CL, vs, fun _ _ _ => False⟩ rfl (fun _ _ _ z => z) L hr
  refine ⟨_, hbody.nox, body_ok hN ?_⟩
  obtain ⟨h1, F, ss, A', hg⟩ := h
  refine ⟨h1, F, ss, A', ?_⟩
  unfold runFn0 at hg
  cases e : runFn N.length ir ss with
  | no => rw [e] at hg; exact hg
  | ok r o => rw [e] at hg; exact hg
  | ex x o => rw [e] at hg; exact hg.elim
end Ev
namespace Ev
open PySem L2 PyProof.Rows
/-! ### x.f -/
/-- the attribute at place k of an instance of the class number n -/
def fFld (n k : Nat) : List D → Option RB
  | [.obj m xs] => if m = n then match xs[k]? with
      | some d => some (.d d)
      | none => none
    else none
  | _ => none
section
variable {K : PySem.W.Frag} {c : Ctx} {F F' H H' : Hp} {v : V} {vs : List V} {d : D} {ds : List D} {Q : VK}
theorem lookup_zip {f : Str} {v : V} : ∀ {fs : List Str} {vs : List V} {k : Nat}, fs.Nodup → fs[k]? = some f → vs[k]? = some v → (fs.zip vs).lookup f = some v
  | [], _, _, _, e, _ => by simp at e
  | _ :: _, [], _, _, _, e => by simp at e
  | g :: fs, u :: vs, 0, _, e, e2 => by
    simp at e e2
    subst e e2
    simp [List.lookup]
  | g :: fs, u :: vs, k + 1, nd, e, e2 => by
    obtain ⟨h1, h2⟩ := List.nodup_cons.mp nd
    have e' : fs[k]? = some f := by simpa using e
    have hm : f ∈ fs := List.mem_of_getElem? e'
    have hne : (f == g) = false := beq_eq_false_iff_ne.mpr fun z => h1 (z ▸ hm)
    rw [List.zip_cons_cons, List.lookup, hne]
    exact lookup_zip h2 e' (by simpa using e2)
/-- what the class number n must say of f -/
structure FldOk (K : PySem.W.Frag) (CL : CLs) (n k : Nat) (f : Str) : Prop where
  cls : Cls K (CL n).1
  no : NoAttr K (CL n).1 f
  nd : (CL n).2.Nodup
  at_ : (CL n).2[k]? = some f
theorem p_fld {n k : Nat} {f : Str} (ok : FldOk K c.CL n k f) : Prim K c (fun xs H Q => ∃ x, xs = [x] ∧ ∃ (a C dx : Addr) (fs : List (Str × V)) (v : V), x = .ref a ∧ H a = some (.ins C dx fs) ∧ Cls K C ∧ NoAttr K C f ∧ fs.lookup f = some v ∧ Q v H) (fFld n k) := fun F H vs ds res Q x V e fin => by
  unfold fFld at e
  split at e
  · split at e
    · rename_i hm
      subst hm
      split at e
      · rename_i d hd
        cases e
        cases V with
        | cons v1 t =>
          cases t
          cases v1 with
          | @obj a dx _ us _ h z l =>
            obtain ⟨w, hw, hdn⟩ := l.get hd
            exact ⟨_, rfl, a, _, dx, _, w, rfl, x _ _ h, ok.cls, ok.no, lookup_zip ok.nd ok.at_ hw, fin.same x hdn⟩
      · cases e
    · cases e
  · cases e
end
theorem e_fld {X : Cx} {c : Ctx} {x : Expr} {a : E} {f : Str} {n k : Nat} {pos : Pos} (ok : FldOk X.K c.CL n k f) (he : PEv X c x a) (hb : attributeBase x f X.env (eval x X.env) = eval x X.env := by rfl) : PEv X c (.Attribute x f pos) (.prim (fFld n k) (.cons a .nil)) :=
  PE.wk (pe_fld he hb) fun _ _ _ q => prim_go1 (p_fld ok) q
end Ev
namespace Ev
open PySem L2
/-! ### C(e, ..): an own class whose __init__ looks at what is passed and keeps it -/
mutual
/-- no instance and no class inside -/
def D.plain : D → Bool
  | .tup xs => D.plains xs
  | .lst xs => D.plains xs
  | .ro xs => D.plains xs
  | .dk _ xs => D.plains xs
  | .dt _ xs => D.plains xs
  | .tn xs => D.plains xs
  | .obj _ _ => false
  | .cls _ => false
  | _ => true
def D.plains : List D → Bool
  | [] => true
  | d :: ds => D.plain d && D.plains ds
end
mutual
theorem den_plain {K : PySem.W.Frag} {CL CL2 : CLs} {F : Hp} : ∀ (d : D) {v : V}, d.plain = true → Den K CL F v d → Den K CL2 F v d
  | .non, _, _, .non => .non
  | .bl _, _, _, .bl b => .bl b
  | .int _, _, _, .int i => .int i
  | .str _, _, _, .str x => .str x
  | .tup xs, _, p, .tup h l => .tup h (dens_plain xs p l)
  | .lst xs, _, p, .lst h l => .lst h (dens_plain xs p l)
  | .ro xs, _, p, .ro h l => .ro h (dens_plain xs p l)
  | .dk ks xs, _, p, .dk h z l => .dk h z (dens_plain xs p l)
  | .dt ks xs, _, p, .dt h z l => .dt h z (dens_plain xs p l)
  | .tn xs, _, p, .tn h z l => .tn h z (dens_plain xs p l)
  | .ty n, _, _, h => by cases h; exact .ty n
theorem dens_plain {K : PySem.W.Frag} {CL CL2 : CLs} {F : Hp} : ∀ (ds : List D) {vs : List V}, D.plains ds = true → DenL K CL F vs ds → DenL K CL2 F vs ds
  | [], _, _, .nil => .nil
  | d :: ds, _, p, .cons h t => by
    have p' := Bool.and_eq_true_iff.mp p
    exact .cons (den_plain d p'.1 h) (dens_plain ds p'.2 t)
end
theorem plains_get : ∀ {ds : List D} {i : Nat} {d : D}, D.plains ds = true → ds[i]? = some d → d.plain = true
  | [], _, _, _, e => by simp at e
  | d :: ds, 0, _, p, e => by
    simp at e
    subst e
    exact (Bool.and_eq_true_iff.mp p).1
  | d :: ds, i + 1, _, p, e => plains_get (Bool.and_eq_true_iff.mp p).2 (i := i) (by simpa using e)
/-- all that is passed is plain data -/
def given? : List Slot → Option (List D)
  | [] => some []
  | .sh d :: ss => match given? ss with
    | some ds => some (d :: ds)
    | none => none
  | _ => none
theorem given_eq : ∀ {ss : List Slot} {ds : List D}, given? ss = some ds → ss = ds.map Slot.sh
  | [], _, e => by cases e; rfl
  | .sh d :: ss, ds, e => by
    unfold given? at e
    split at e
    · rename_i ds' q
      cases e
      rw [given_eq q]
      rfl
    · cases e
  | .un :: _, _, e => by cases e
  | .ow _ :: _, _, e => by cases e
  | .lk _ :: _, _, e => by cases e
  | .att :: _, _, e => by cases e
/-- what stands in variables -/
def held? (ρ : Env) : List Nat → Option (List D)
  | [] => some []
  | i :: is => match ρ.v[i]? with
    | some (.sh d) => (match held? ρ is with
      | some ds => some (d :: ds)
      | none => none)
    | _ => none
/-- m0: a number that no class bears, for what is made; cn: the class; pre: ahead of the attributes; is: whose values they are -/
def mkFn (n : Nat) (pre : Ss) (is : List Nat) (m0 cn : Nat) : Fn := fun ss => match given? ss with
  | none => .no
  | some gs => if D.plains gs then (match evSs pre (start0 n (.sh (.cls m0) :: ss)) with
    | .ok .nx ρ => (match held? ρ (0 :: is) with
      | some (.cls m :: ds) => if m = m0 ∧ D.plains ds = true then .ok (.d (.obj cn ds)) (ss.map fun _ => .un) else .no
      | _ => .no)
    | _ => .no) else .no
/-! ### a body whose end is told otherwise -/
def tEvSsU (K : PySem.W.Frag) (c : Ctx) (s : Ss) (u : TS) : TS := fun D σ H => tEvSs K c s { D with nx := u D } σ H
abbrev PSsw (X : Cx) (c : Ctx) (xs : List Stmt) (s : Ss) (u : TS) : Prop := PSs X xs (tEvSsU X.K c s u)
theorem ssw_nil {X : Cx} {c : Ctx} {ys : List Stmt} {u : TS} (h : PSs X ys u) : PSsw X c ys .nil u := PSs.wk h fun D σ H ⟨F, ρ, R, P⟩ => by
  unfold evSs at P
  exact P F σ H R (Go.refl ..)
theorem ssw_cons {X : Cx} {c : Ctx} {x : Stmt} {xs : List Stmt} {s : S} {ss : Ss} {u : TS} (h : PSv X c x s) (t : PSsw X c xs ss u) : PSsw X c (x :: xs) (.cons s ss) u := PSs.wk (pss_cons h t) fun D σ H q => seq_go (D := { D with nx := u D }) q
/-- self.f = x, one behind another -/
def tPut (K : PySem.W.Frag) : List (Str × Nat) → TS
  | [] => tNext
  | p :: r => tSeq (sFld K (tVar 0) (tVar p.2) p.1) (tPut K r)
theorem putF_new {f : Str} {v : V} : ∀ {fs : List (Str × V)}, f ∉ fs.map (·.1) → putF f v fs = fs ++ [(f, v)]
  | [], _ => rfl
  | (g, x) :: r, h => by
    rw [List.map_cons, List.mem_cons, not_or] at h
    show (if g = f then (g, v) :: r else (g, x) :: putF f v r) = _
    rw [if_neg (Ne.symm h.1), putF_new h.2]
    rfl
theorem put_go {K : PySem.W.Frag} {C dx y : Addr} {D : Ends} {σ : L2.St} (hc : Cls K C) (h0 : σ[0]? = some (some (.ref y))) : ∀ (ps : List (Str × Nat)) (us : List V) (fs : List (Str × V)) {H : Hp}, H y = some (.ins C dx fs) → ((fs.map (·.1)) ++ ps.map (·.1)).Nodup → fs.length + ps.length < 1000 → (∀ p ∈ ps, NoAttr K C p.1) →
    us.length = ps.length → (∀ (j : Nat) (p : Str × Nat) (v : V), ps[j]? = some p → us[j]? = some v → σ[p.2]? = some (some v)) → D.nx σ (upd H y (.ins C dx (fs ++ (ps.map (·.1)).zip us))) → tPut K ps D σ H
  | [], [], fs, H, hy, _, _, _, _, _, q => by
    rw [List.map_nil, List.zip_nil_left, List.append_nil] at q
    have : upd H y (.ins C dx fs) = H := by
      funext a
      by_cases e : a = y
      · subst e; rw [upd_same, hy]
      · rw [upd_ne e]
    rw [this] at q
    exact q
  | p :: ps, u :: us, fs, H, hy, hn, hz, ha, hl, hs, q => by
    refine ⟨u, hs 0 p u rfl rfl, .ref y, h0, y, C, dx, fs, rfl, hy, hc, ha p (by simp), by omega, ?_⟩
    have hnew : p.1 ∉ fs.map (·.1) := fun hm => by
      rw [List.map_cons] at hn
      exact (List.nodup_append.mp hn).2.2 _ hm _ (by simp) rfl
    rw [putF_new hnew]
    refine put_go hc h0 ps us (fs ++ [(p.1, u)]) upd_same ?_ ?_ (fun p' h => ha p' (List.mem_cons_of_mem _ h)) (by simpa using hl) (fun j p' v e1 e2 => hs (j + 1) p' v (by simpa using e1) (by simpa using e2)) ?_
    · rw [List.map_append, List.append_assoc]
      exact hn
    · rw [List.length_append]
      simp at hz ⊢
      omega
    · have e : upd (upd H y (.ins C dx (fs ++ [(p.1, u)]))) y (.ins C dx (fs ++ [(p.1, u)] ++ (ps.map (·.1)).zip us)) = upd H y (.ins C dx (fs ++ ((p :: ps).map (·.1)).zip (u :: us))) := by
        funext a
        by_cases e : a = y
        · subst e
          rw [upd_same, upd_same, List.append_assoc]
          rfl
        · rw [upd_ne e, upd_ne e, upd_ne e]
      rw [e]
      exact q
/-- the table of classes, with m0 for the thing at y -/
def clWith (CL : CLs) (m0 : Nat) (y : Addr) : CLs := ⟨fun n => if n = m0 then (y, []) else CL n, [], fun _ => none⟩
section
variable {K : PySem.W.Frag} {CL : CLs} {F H : Hp}
def spInit (K : PySem.W.Frag) (CL : CLs) (nN : Nat) (pre : Ss) (fs : List Str) (is : List Nat) (m0 : Nat) (C : Addr) (n : Nat) : Sp := fun vs H Q _ => ∃ (y dx : Addr) (args : List V) (F : Hp) (ss : List Slot) (gs : List D) (ρ : Env) (ds : List D), vs = .ref y :: args ∧ args.length = n ∧ H y = some (.ins C dx []) ∧ F y = none ∧
  ARel K (clWith CL m0 y) F H args ss ∧ given? ss = some gs ∧ evSs pre (start0 nN (.sh (.cls m0) :: ss)) = .ok .nx ρ ∧ held? ρ (0 :: is) = some (.cls m0 :: ds) ∧
  ∀ (F1 H1 : Hp) (us : List V), Ex F F1 → F1 y = none → Ex F1 H1 → (∀ a, F a = none → Liv H a → F1 a = none) → (∀ a o, H a = some o → a ≠ y → H1 a = some o) → H1 y = some (.ins C dx (fs.zip us)) → us.length = fs.length → DenL K (clWith CL m0 y) F1 us ds → Q .non H1
/-- the values of variables -/
theorem held_vals {c : Ctx} {ρ : Env} {σ : L2.St} (R : Rel K c F ρ σ H) : ∀ {is : List Nat} {ds : List D}, held? ρ is = some ds → ∃ us : List V, DenL K c.CL F us ds ∧ us.length = is.length ∧ ∀ (j i : Nat) (v : V), is[j]? = some i → us[j]? = some v → σ[i]? = some (some v)
  | [], _, e => by cases e; exact ⟨[], .nil, rfl, fun j i v e => by simp at e⟩
  | k :: is, ds, e => by
    unfold held? at e
    split at e
    · rename_i d0 h0
      split at e
      · rename_i ds' q
        cases e
        obtain ⟨us, l, hl, hv⟩ := held_vals R q
        obtain ⟨u, hu, hd⟩ := R.slot h0
        refine ⟨u :: us, .cons hd l, by rw [List.length_cons, List.length_cons, hl], fun j i v e1 e2 => ?_⟩
        cases j with
        | zero => simp at e1 e2; subst e1 e2; exact hu
        | succ j => exact hv j i v (by simpa using e1) (by simpa using e2)
      · cases e
    · cases e
theorem init_ok {P : Program} {w : World} {mg : Str → Option Value} {base : Heap} {x qual : Str} {st : Stmt} {f C : Addr} {fd : FuncData} {N ps : List Str} {k n m0 : Nat} {pre : Ss} {fl : List (Str × Nat)} (Fu : Fun K x qual st f fd) (S : FnScope N ps (defScope st)) (hn : ps.length = n + 1) (hN : n + 1 ≤ N.length) (hc : Cls K C) (ha : ∀ p ∈ fl, NoAttr K C p.1) (hnd : (fl.map (·.1)).Nodup) (hz : fl.length < 1000)
    (hb : ∀ (cdv : Value) (A : Around) (outer : List PySem.Env) (s : Shared) (H : Hp) (E : XK) (c : Ctx), (∀ i, i ≠ m0 → c.CL i = CL i) → (∀ C d H, c.E C d H → False) → Room k (A.deeper (PyProof.Rows.envOfC qual (defScope st) s.heap.objs.size f cdv)) →
      PSsw (cxOf CX0 P w K mg base N qual (defScope st) f cdv A outer s H E).nox c (defBody st) pre (tPut K fl)) :
    FnOk P w K mg base CX0 (k + 1) f fd ps (spInit K CL N.length pre (fl.map (·.1)) (fl.map (·.2)) m0 C n) := by
  refine Fu.ok S (fun vs H Q E h => ?_) fun cdv A outer s H vs Q E hr h => ?_
  · obtain ⟨y, dx, args, F, ss, gs, ρ, ds, rfl, hl, _⟩ := h
    rw [hn, List.length_cons, hl]
  obtain ⟨y, dx, args, F, ss, gs, ρ, ds, rfl, hl, hy, hFy, AR, hg, hpre, hheld, hq⟩ := h
  have hss := given_eq hg
  refine ⟨_, hb cdv A outer s H E ⟨clWith CL m0 y, .ref y :: args, fun _ _ _ => False⟩ (fun i hi => if_neg hi) (fun _ _ _ z => z) hr, ?_⟩
  have AR2 : ARel K (clWith CL m0 y) F H (.ref y :: args) (.sh (.cls m0) :: ss) := by
    refine ⟨by rw [List.length_cons, List.length_cons, AR.len], AR.ex, fun i s e => ?_, fun i i' xs ys a e => ?_, AR.tb, AR.tn⟩
    · cases i with
      | zero =>
        simp at e
        subst e
        have := Den.cls (K := K) (CL := clWith CL m0 y) (F := F) m0
        rw [show (clWith CL m0 y m0).1 = y by show (if m0 = m0 then (y, []) else CL.cl m0).1 = y; rw [if_pos rfl]] at this
        exact ⟨.ref y, rfl, this⟩
      | succ i => exact AR.ok i s (by simpa using e)
    · cases i with
      | zero => simp at e
      | succ i =>
        rw [List.getElem?_cons_succ, hss, List.getElem?_map] at e
        cases z : gs[i]? with
        | none => rw [z] at e; cases e
        | some d => rw [z] at e; cases e
  have hlen : (Slot.sh (.cls m0) :: ss).length ≤ N.length := by rw [List.length_cons, ← AR.len, hl]; exact hN
  refine ⟨F, start0 N.length (.sh (.cls m0) :: ss), start_rel AR2 hlen, ?_⟩
  rw [hpre]
  intro F' σ' H' R g
  have noown : ∀ a, ¬ own ⟨clWith CL m0 y, .ref y :: args, fun _ _ _ => False⟩ (start0 N.length (.sh (.cls m0) :: ss)) (L2.start N (.ref y :: args)) a := by
    intro a hown
    obtain ⟨k', s0, e, hs0⟩ | ht : (∃ (k : Nat) (s : Slot), (sl (start0 N.length (.sh (.cls m0) :: ss)))[k]? = some s ∧ s.held = true) ∨ (clWith CL m0 y).at a := by
      rcases hown with ⟨k', xs, e, _⟩ | ht | ⟨k', ks, xs, e, _⟩
      · exact .inl ⟨_, _, e, rfl⟩
      · exact .inr ht
      · exact .inl ⟨_, _, e, rfl⟩
    rotate_left
    · have z : a ∈ ([] : List (Addr × Str)).map (·.1) := ht
      simp at z
    unfold sl at e
    have hv : ∀ (j : Nat), (start0 N.length (.sh (.cls m0) :: ss)).v[j]? = some s0 → False := fun j e => by
      have e : ((.sh (.cls m0) :: ss) ++ List.replicate (N.length - (Slot.sh (.cls m0) :: ss).length) .un)[j]? = some s0 := e
      rw [hss] at e
      rcases List.mem_append.mp (List.mem_of_getElem? e) with h | h
      · rcases List.mem_cons.mp h with h | h
        · subst h; cases hs0
        · obtain ⟨d, _, q⟩ := List.mem_map.mp h
          subst q; cases hs0
      · cases List.eq_of_mem_replicate h; cases hs0
    have ho : ∀ (j : Nat), (start0 N.length (.sh (.cls m0) :: ss)).o[j]? = some s0 → False := fun j e => by
      have e : ((Slot.sh (.cls m0) :: ss).map Slot.pass)[j]? = some s0 := e
      obtain ⟨s, _, q⟩ := List.mem_map.mp (List.mem_of_getElem? e)
      subst q; cases s <;> cases hs0
    rw [List.getElem?_append] at e
    split at e
    · exact hv _ e
    · exact ho _ e
  have hy' : H' y = some (.ins C dx []) := g.keep y _ hy (noown y)
  have hF'y : F' y = none := g.fr y hFy (Liv.of hy rfl) (noown y)
  obtain ⟨us, lu, hul, hus⟩ := held_vals R hheld
  cases lu with
  | @cons u us0 _ _ hu lus =>
    have h0 := hus 0 0 u rfl rfl
    have eu : u = .ref y := by
      cases hu with
      | cls => show V.ref (if m0 = m0 then (y, []) else CL.cl m0).1 = _; rw [if_pos rfl]
    subst eu
    have hul0 : us0.length = fl.length := by
      have := hul
      rw [List.length_cons, List.length_cons, List.length_map] at this
      omega
    refine put_go (C := C) (dx := dx) hc h0 fl us0 [] hy' (by simpa using hnd) (by simpa using hz) ha hul0 (fun j p v e1 e2 => hus (j + 1) p.2 v (by rw [List.getElem?_cons_succ, List.getElem?_map, e1]; rfl) (by simpa using e2)) ?_
    rw [List.nil_append]
    refine hq F' _ us0 g.f hF'y (fun a o e => ?_) (fun a e1 e2 => g.fr a e1 e2 (noown a)) (fun a o e hne => ?_) upd_same (by rw [hul0, List.length_map]) lus
    · by_cases hay : a = y
      · subst hay; rw [hF'y] at e; cases e
      · rw [upd_ne hay]; exact R.ex a o e
    · rw [upd_ne hne]
      exact g.keep a o e (noown a)
/-- a call of the class does what its __init__ says -/
theorem mk_sp {vs : List V} {Q : VK} {E : XK} {nN n m0 cn : Nat} {pre : Ss} {fs : List Str} {is : List Nat} {C : Addr} (hCL : CL cn = (C, fs)) (hil : is.length = fs.length) (h : spF K CL (mkFn nN pre is m0 cn) n vs H Q E) :
    ∀ x dx, H x = none → H dx = none → dx ≠ x → spInit K CL nN pre fs is m0 C n (.ref x :: vs) (upd (upd H dx (.own x)) x (.ins C dx [])) (fun v H2 => v = .non ∧ Q (.ref x) H2) E := by
  intro x dx hx hdx hne
  obtain ⟨hl, F, ss, A, hg⟩ := h
  unfold mkFn at hg
  cases hgs : given? ss with
  | none => rw [hgs] at hg; exact hg.elim
  | some gs =>
    rw [hgs] at hg
    simp only at hg
    by_cases hpl : D.plains gs = true
    case neg => rw [if_neg hpl] at hg; exact hg.elim
    rw [if_pos hpl] at hg
    have hss := given_eq hgs
    have hFx : F x = none := by
      cases z : F x with
      | none => rfl
      | some o => rw [A.ex x o z] at hx; cases hx
    have up : ∀ a o, H a = some o → (upd (upd H dx (.own x)) x (.ins C dx [])) a = some o := fun a o e => by
      have h1 : a ≠ x := fun z => by subst z; rw [hx] at e; cases e
      have h2 : a ≠ dx := fun z => by subst z; rw [hdx] at e; cases e
      rw [upd_ne h1, upd_ne h2]
      exact e
    match hr : evSs pre (start0 nN (.sh (.cls m0) :: ss)) with
    | .no => rw [hr] at hg; exact hg.elim
    | .ex _ _ => rw [hr] at hg; exact hg.elim
    | .ok .brk _ => rw [hr] at hg; exact hg.elim
    | .ok (.rt _) _ => rw [hr] at hg; exact hg.elim
    | .ok .nx ρ =>
      rw [hr] at hg
      simp only at hg
      obtain ⟨ds, hheld, hpd, hg⟩ : ∃ ds, held? ρ (0 :: is) = some (.cls m0 :: ds) ∧ D.plains ds = true ∧ ∀ F' v H', FGo CL F H vs ss F' H' → ORel K CL F' H' vs ss (ss.map fun _ => .un) → RDen K (c0 CL) H F' H' v (.d (.obj cn ds)) → Q v H' := by
        cases hq : held? ρ (0 :: is) with
        | none => rw [hq] at hg; exact hg.elim
        | some l =>
          rw [hq] at hg
          cases l with
          | nil => exact hg.elim
          | cons d0 ds =>
            cases d0 with
            | cls m =>
              simp only at hg
              by_cases hmd : m = m0 ∧ D.plains ds = true
              · rw [if_pos hmd] at hg
                obtain ⟨rfl, hpd⟩ := hmd
                exact ⟨ds, rfl, hpd, hg⟩
              · rw [if_neg hmd] at hg
                exact hg.elim
            | _ => exact hg.elim
      refine ⟨x, dx, vs, F, ss, gs, ρ, ds, rfl, hl, upd_same, hFx, ⟨A.len, fun a o e => up a o (A.ex a o e), fun i s e => ?_, A.apart, fun p hp => (by cases hp), ⟨fun a h => by have z : a ∈ ([] : List (Addr × Str)).map (·.1) := h; simp at z, fun a o e => nomatch e⟩⟩, hgs, hr, hheld, fun F1 H1 us f1 f2 f3 f4 f5 f6 f7 f8 => ⟨rfl, ?_⟩⟩
      · have := A.ok i s e
        rw [hss, List.getElem?_map] at e
        cases z : gs[i]? with
        | none => rw [z] at e; cases e
        | some d =>
          rw [z] at e
          cases e
          obtain ⟨u, e1, e2⟩ := this
          exact ⟨u, e1, den_plain d (plains_get hpl z) e2⟩
      · have g1 : Ex F1 (upd F1 x (.ins C dx (fs.zip us))) := Ex.new f2
        have fz : ∀ a, F a = none → Liv H a → upd F1 x (.ins C dx (fs.zip us)) a = none := fun a e1 e2 => by
          have hax : a ≠ x := fun z => by subst z; exact e2.ne hx
          rw [upd_ne hax]
          exact f4 a e1 (e2.keep fun o e => up a o e)
        refine hg (upd F1 x (.ins C dx (fs.zip us))) (.ref x) H1 ⟨f1.trans g1, fun a o e => ?_, fun a o e _ => ?_, fun a e1 e2 _ => ?_, fun a e => ?_, fun p hp => (A.tb p hp).ext fun a o e => f5 a o (up a o e) fun z => (by subst z; rw [hx] at e; cases e), A.tn.grow (f1.trans g1) fun a h => fz a (A.tn.1 a h) (by obtain ⟨ps, e⟩ := tabs_at A.tb h; exact Liv.of e rfl)⟩ (fun i xs e => ?_) ?_
        · by_cases hay : a = x
          · subst hay
            rw [upd_same] at e
            rw [f6]
            exact e
          · rw [upd_ne hay] at e
            exact f3 a o e
        · exact f5 a o (up a o e) fun z => by subst z; rw [hx] at e; cases e
        · have hax : a ≠ x := fun z => by subst z; exact e2.ne hx
          rw [upd_ne hax]
          exact f4 a e1 (e2.keep fun o e => up a o e)
        · cases z : H a with
          | none => exact absurd z e
          | some o =>
            rw [f5 a o (up a o z) fun q => by subst q; rw [hx] at z; cases z]
            exact Option.some_ne_none _
        · rw [hss, List.getElem?_map] at e
          cases z : gs[i]? with
          | none => rw [z] at e; cases e
          | some d => rw [z] at e; cases e
        · show Den K CL (upd F1 x (.ins C dx (fs.zip us))) (.ref x) (.obj cn ds)
          refine .obj (dx := dx) (vs := us) ?_ ?_ (DenL.mono g1 ds (dens_plain ds hpd f8))
          · rw [upd_same, hCL]
          · rw [hCL]
            exact f7
end
theorem tEvA.imp {K : PySem.W.Frag} {c : Ctx} {es : Es} {σ : L2.St} {H : Hp} {Q Q' : List V → Hp → Prop} (h : tEvA K c es σ H Q) (k : ∀ vs H, Q vs H → Q' vs H) : tEvA K c es σ H Q' := by
  obtain ⟨F, ρ, R, P⟩ := h
  exact ⟨F, ρ, R, P.imp fun F1 ρ1 H1 a R1 g q vs hv => k _ _ (q vs hv)⟩
theorem e_make {X : Cx} {c : Ctx} {x : Expr} {es : Es} {E : XK} {nN n m0 cn : Nat} {pre : Ss} {fs : List Str} {is : List Nat} {C : Addr} (hCL : c.CL cn = (C, fs)) (hil : is.length = fs.length) (h : PE X x (tMake C (spInit X.K c.CL nN pre fs is m0 C n) [] E (tEvA X.K c es))) (hl : es.len = n) (hE : ∀ C d H, c.E C d H → E C d H) : PEv X c x (.call (mkFn nN pre is m0 cn) es) :=
  PE.wk h fun σ H Q q => tEvA.imp (call_go hE q hl) fun vs H1 hs x dx h1 h2 h3 => by
    rw [List.append_nil] at hs ⊢
    exact mk_sp hCL hil hs x dx h1 h2 h3
/-- what a class says of an attribute, by the table -/
theorem fld_of {K : PySem.W.Frag} {CL : CLs} {n k : Nat} {f : Str} {C : Addr} {fs : List Str} (hC : CL n = (C, fs)) (hc : Cls K C) (no : NoAttr K C f) (nd : fs.Nodup) (h : fs[k]? = some f) : FldOk K CL n k f :=
  ⟨by rw [hC]; exact hc, by rw [hC]; exact no, by rw [hC]; exact nd, by rw [hC]; exact h⟩
end Ev
set_option maxHeartbeats 2000000
namespace Ev
open PySem PySem.Spec PyProof.Rows L2 LamX PySem.W
/-! ### the tables of code objects at the top -/
/-- code object, table, the name of what stands in it -/
abbrev TabL := List (Addr × Addr × Str)
def tabsOf (L : TabL) : List (Addr × Str) := L.map fun t => (t.2.1, t.2.2)
def codesOf (L : TabL) : List (Addr × Addr) := L.map fun t => (t.1, t.2.1)
structure TabsIn (K : Frag) (h : Heap) (L : TabL) : Prop where
  g : ∀ t ∈ L, h.get? t.2.1 = some { cls := .none, data := .fields #[] }
  n : ∀ t ∈ L, K.lookup t.2.1 = none
  c : ∀ t ∈ L, codeHdIn K t.1 t.2.1 = true
  d : (L.map fun t => t.2.1).Nodup
theorem TabsIn.nil {K : Frag} {h : Heap} : TabsIn K h [] := ⟨List.forall_mem_nil _, List.forall_mem_nil _, List.forall_mem_nil _, List.nodup_nil⟩
theorem TabsIn.cons {K : Frag} {h : Heap} {c P : Addr} {q : Str} {L : TabL} (I : TabsIn K h L) (g : h.get? P = some { cls := .none, data := .fields #[] }) (n : K.lookup P = none) (e : codeHdIn K c P = true) (d : P ∉ L.map fun t => t.2.1) : TabsIn K h ((c, P, q) :: L) :=
  ⟨List.forall_mem_cons.mpr ⟨g, I.g⟩, List.forall_mem_cons.mpr ⟨n, I.n⟩, List.forall_mem_cons.mpr ⟨e, I.c⟩, List.nodup_cons.mpr ⟨d, I.d⟩⟩
/-- the def whose code object is cd has a table in L -/
def LamIn (L : TabL) (cd : Value) (q : Str) : Prop := ∃ c P : Addr, cd = .ref c ∧ (c, P, q ++ "<lambda>") ∈ L
theorem nodup_fst {α β : Type} : ∀ {L : List (α × β)}, (L.map (·.1)).Nodup → ∀ {a : α} {b b' : β}, (a, b) ∈ L → (a, b') ∈ L → b = b'
  | [], _, _, _, _, h, _ => nomatch h
  | p :: L, hd, a, b, b', h, h' => by
    rw [List.map_cons, List.nodup_cons] at hd
    rcases List.mem_cons.mp h with e | h
    · rcases List.mem_cons.mp h' with e' | h'
      · rw [← e] at e'
        exact (Prod.mk.inj e').2.symm
      · exact absurd (List.mem_map.mpr ⟨_, h', by rw [← e]⟩) hd.1
    · rcases List.mem_cons.mp h' with e' | h'
      · exact absurd (List.mem_map.mpr ⟨_, h, by rw [← e']⟩) hd.1
      · exact nodup_fst hd.2 h h'
theorem lamAt_of {K : Frag} {h base : Heap} {mg : Str → Option Value} {CL : CLs} {L : TabL} {cd : Value} {q : Str} (I : TabsIn K h L) (e : CL.tb = tabsOf L) (B : ∀ p ∈ codesOf L, TabB base mg p.1 p.2) (l : LamIn L cd q) : LamAt base mg CL cd q := by
  obtain ⟨c, P, h1, h2⟩ := l
  have hm : (P, q ++ "<lambda>") ∈ CL.tb := by
    rw [e]
    exact List.mem_map.mpr ⟨_, h2, rfl⟩
  have hd : (CL.tb.map (·.1)).Nodup := by
    rw [e]
    unfold tabsOf
    rw [List.map_map]
    exact I.d
  exact ⟨c, P, h1, B (c, P) (List.mem_map.mpr ⟨_, h2, rfl⟩), hm, fun p hp hP => by
    obtain ⟨p1, p2⟩ := p
    obtain rfl : p1 = P := hP
    exact nodup_fst hd hp hm⟩
/-! ### the law's own call -/
def spLaw (K : Frag) (L : TabL) (n : Nat) : Sp := fun vs H Q _ => ∃ (a : Addr) (ns : List Int), vs = [.ref a] ∧ SqL K H a (ns.map V.int) ∧ ns.length ≤ n ∧ (∀ p ∈ codesOf L, H p.2 = some (.tbl #[])) ∧ (∀ t ∈ L, K.lookup t.2.1 = none) ∧ ∀ H', Q (.bl true) H'
theorem dens_nums {K : Frag} {CL : CLs} {F : Hp} : ∀ ns : List Int, DenL K CL F (ns.map V.int) (ns.map D.int)
  | [] => .nil
  | n :: ns => .cons (.int n) (dens_nums ns)
open Classical in
theorem law_sp {K : Frag} {CL : CLs} {L : TabL} {n : Nat} {g : Fn} {vs : List V} {H : Hp} {Q : VK} {E : XK} (hg : ∀ ns : List Int, ns.length ≤ n → ∃ o, g [.sh (.ro (ns.map D.int))] = .ok (.d (.bl true)) o) (hCL : CL.tb = tabsOf L) (hB : CL.B = fun _ => none) (h : spLaw K L n vs H Q E) : spF K CL g 1 vs H Q E := by
  obtain ⟨a, ns, rfl, hs, hl, hT, hK, q⟩ := h
  obtain ⟨o, e⟩ := hg ns hl
  have hat : ∀ b, CL.at b → H b = some (.tbl #[]) ∧ K.lookup b = none := fun b hb => by
    unfold CLs.at at hb
    rw [hCL] at hb
    obtain ⟨p, hp, rfl⟩ := List.mem_map.mp hb
    obtain ⟨t, ht, rfl⟩ := List.mem_map.mp hp
    exact ⟨hT _ (List.mem_map.mpr ⟨t, ht, rfl⟩), hK t ht⟩
  refine ⟨rfl, fun b => if b = a ∧ ¬ CL.at b then H a else none, [.sh (.ro (ns.map D.int))], ⟨rfl, fun b u z => ?_, fun i s z => ?_, fun i i' xs ys b z => ?_, ?_, ⟨fun b hb => if_neg fun z => z.2 hb, fun b o e => by rw [hB] at e; cases e⟩⟩, ?_⟩
  · by_cases hb : b = a ∧ ¬ CL.at b
    · have z := (if_pos hb).symm.trans z
      exact hb.1 ▸ z
    · have z := (if_neg hb).symm.trans z
      cases z
  · match i, z with
    | 0, z =>
      cases z
      have own : ∀ u, H a = some u → (∀ ps, u ≠ .tbl ps) → (if a = a ∧ ¬ CL.at a then H a else none) = some u := fun u hu hn => by
        have hz : ¬ CL.at a := fun z => by
          have := (hat a z).1
          rw [hu] at this
          exact hn _ (Option.some.inj this)
        exact (if_pos ⟨rfl, hz⟩).trans hu
      refine ⟨.ref a, rfl, .ro ?_ (dens_nums ns)⟩
      rcases hs with (hs | ⟨ob, hs⟩) | hs
      · exact .inl (.inl (own _ hs fun ps z => by cases z))
      · exact .inl (.inr ⟨ob, own _ hs fun ps z => by cases z⟩)
      · exact .inr hs
    | _ + 1, z => simp at z
  · match i, z with
    | 0, z => cases z
    | _ + 1, z => simp at z
  · rw [hCL]
    intro p hp
    obtain ⟨t, ht, rfl⟩ := List.mem_map.mp hp
    exact TabS.nil (hT _ (List.mem_map.mpr ⟨t, ht, rfl⟩))
  · rw [e]
    intro F' v H' _ _ rd
    cases rd
    exact q H'
end Ev
namespace Ev
open PySem PySem.Spec PyProof.Rows
open AutoSeq1 (wpAny_loadPart')
/-! ### enumerate(t), t a tuple -/
abbrev titer (t : Addr) : Obj := { cls := .type "tuple_iterator", data := .fields #[.ref t, .int 0 0] }
abbrev enumO (it : Addr) : Obj := { cls := .type "enumerate", data := .fields #[.none, .bool false, .ref it, rawInt 0, .none, .none] }
theorem enum_newT (l : Addr) (its : Array Value) (n : Nat) (dct : Option Addr) (sl : Array (Option Value)) :
    Meets (Builtin.«enumerate.__new__» ⟨[.type "enumerate", .ref l], []⟩) (fun _ R s => s.heap.get? l = some { cls := .type "tuple", dict := dct, data := .seq its n, slots := sl } ∧
      R (.ok (.ret (.ref (s.heap.push (titer l)).objs.size))) { s with heap := (s.heap.push (titer l)).push (enumO s.heap.objs.size) }) :=
  .of_wp fun prog w A R s ⟨hl, h⟩ => by
    obtain ⟨hp, g, d, tk, os⟩ := s
    have hT : Heap.IsTuple (Shared.heap ⟨hp, g, d, tk, os⟩) l its := ⟨_, hl, rfl, n, rfl⟩
    have hsub := sub_enumerate
    wp_walk using wpAny_loadPart' hl
    refine wpAny_stack_any fun st => wpAny_pure ?_
    split
    · rename_i c _ _ _ _ _
      cases (c == Value.type "enumerate") <;> (wp_walk using wpAny_loadPart' hl, wpAny_pyIter_tuple hT; exact ⟨_, rfl, h⟩)
    · wp_walk using wpAny_loadPart' hl, wpAny_pyIter_tuple hT
      exact ⟨_, rfl, h⟩
section
variable {prog : Program} {w : World} {A : Around} {E : Value → Shared → Prop} {s : Shared}
theorem call_enumT {l : Addr} {its : Array Value} {Q : Value → Shared → Prop} (hL : s.heap.IsTuple l its)
    (h : ∀ h', IsEnum h' (s.heap.objs.size + 1) s.heap.objs.size 0 .none → h'.IsTupleIter s.heap.objs.size l 0 → (∀ b o, s.heap.get? b = some o → h'.get? b = some o) → Q (.ref (s.heap.objs.size + 1)) { s with heap := h' }) :
    wpAny (model prog w) A (call (.type "enumerate") [.ref l]) Q E s := by
  obtain ⟨⟨c, dct, dt, sl⟩, hl, hc, n, hd⟩ := hL
  obtain rfl : c = .type "tuple" := hc
  obtain rfl : dt = .seq its n := hd
  refine callType_new F.called_enumerate (by decide) (F.typeCall_enumerate_1 _) (F.newCall_enumerate_1 _) (fun obj => F.args_object_init_2 obj _) F.entry_enumerate_new (enum_newT l its n dct sl) ⟨hl, ?_⟩
  have hz : (s.heap.push (titer l)).objs.size = s.heap.objs.size + 1 := Heap.size_push ..
  have he : ((s.heap.push (titer l)).push (enumO s.heap.objs.size)).get? (s.heap.objs.size + 1) = some (enumO s.heap.objs.size) := by
    have q := Heap.get?_push_size (s.heap.push (titer l)) (o := enumO s.heap.objs.size) rfl
    rw [hz] at q; exact q
  show _ ∧ _
  rw [hz]
  exact ⟨⟨_, he, rfl⟩, h _ he ⟨_, Heap.get?_push_of_some _ (Heap.get?_push_size _ rfl), rfl, rfl⟩ fun b o x => Heap.get?_push_of_some _ (Heap.get?_push_of_some _ x)⟩
/-- one more off a tuple's iterator -/
theorem tnext {it t : Addr} {i : Nat} {its : Array Value} {x : Value} {Q : Value → Shared → Prop} (hit : s.heap.IsTupleIter it t i) (ht : s.heap.IsTuple t its) (hx : its[i]? = some x)
    (hQ : ∀ h', h'.IsTupleIter it t (i + 1) → Heap.SameBut it s.heap h' → Q x { s with heap := h' }) : wpAny (model prog w) A (Builtin.SmallTypes.nextOf (.ref it)) Q E s := by
  obtain ⟨o, ho, hc, hd⟩ := id hit; obtain ⟨ol, hol, _, nl, hdl⟩ := ht
  unfold Builtin.SmallTypes.nextOf
  refine wpAny_bind (wpAny_callSpecial?_slot (name := Str.ofString "__next__") hit.typeIs PySem.F.slot_tuple_iterator_next (wpAny_call_entry PySem.F.slot_tuple_iterator_next hit.typeIs PySem.F.entry_tuple_iterator_next ?_ (PySem.F.args_tuple_iterator_next_1 _)))
  refine (show wpAny _ _ (field (.ref it) 0 >>= _) _ _ s from wpAny_bind (wpAny_field ho hd (x := .ref t) rfl ?_))
  show wpAny _ _ (if (Value.ref t == Value.none) = true then _ else _) _ _ s
  rw [if_neg (by exact Bool.false_ne_true)]
  refine (show wpAny _ _ (field (.ref it) 1 >>= _) _ _ s from wpAny_bind (wpAny_field ho hd (x := .int i 0) rfl ?_))
  refine (show wpAny _ _ (seqItems? (.ref t) >>= _) _ _ s from wpAny_bind (wpAny_seqItems hol hdl ?_))
  simp only [Int.toNat_natCast, hx]
  exact wpAny_bind (wpAny_setField ho hd (by simp) (wpAny_pure ⟨x, rfl, wpAny_pure (hQ _ ⟨_, Heap.get?_update_self _ ho (Obj.isFreed_of_fields (Obj.data_mapFields hd _)), (Obj.cls_mapFields ..).trans hc, by rw [Obj.data_mapFields hd]; simp [rawInt]⟩ (Heap.SameBut.update ..))⟩))
theorem tdone {it t : Addr} {i : Nat} {its : Array Value} {Q : Value → Shared → Prop} (hh : A.handled = none) (hit : s.heap.IsTupleIter it t i) (ht : s.heap.IsTuple t its) (hx : its[i]? = none)
    (hE : ∀ h' e, Heap.ExtBut it s.heap h' → (∃ o, h'.get? e = some o ∧ o.cls = .type "StopIteration") → E (.ref e) { s with heap := h' }) : wpAny (model prog w) A (Builtin.SmallTypes.nextOf (.ref it)) Q E s := by
  obtain ⟨o, ho, hc, hd⟩ := id hit; obtain ⟨ol, hol, _, nl, hdl⟩ := ht
  unfold Builtin.SmallTypes.nextOf
  refine wpAny_bind (wpAny_callSpecial?_slot (name := Str.ofString "__next__") hit.typeIs PySem.F.slot_tuple_iterator_next (wpAny_call_entry PySem.F.slot_tuple_iterator_next hit.typeIs PySem.F.entry_tuple_iterator_next ?_ (PySem.F.args_tuple_iterator_next_1 _)))
  refine (show wpAny _ _ (field (.ref it) 0 >>= _) _ _ s from wpAny_bind (wpAny_field ho hd (x := .ref t) rfl ?_))
  show wpAny _ _ (if (Value.ref t == Value.none) = true then _ else _) _ _ s
  rw [if_neg (by exact Bool.false_ne_true)]
  refine (show wpAny _ _ (field (.ref it) 1 >>= _) _ _ s from wpAny_bind (wpAny_field ho hd (x := .int i 0) rfl ?_))
  refine (show wpAny _ _ (seqItems? (.ref t) >>= _) _ _ s from wpAny_bind (wpAny_seqItems hol hdl ?_))
  simp only [Int.toNat_natCast, hx]
  refine wpAny_bind (wpAny_rule (wpAny_bind (wpAny_setField ho hd (by simp) (show wpAny _ _ (newExc (.type "StopIteration") [] >>= _) _ _ _ from wpAny_bind ?_))))
  simp only [newExc, newTuple]
  refine wpAny_bind (wpAny_newObj_type (wpAny_bind (m := firstArgMember _ _) (wpAny_of_eq (a := Value.none) (by first | rfl | (simp only [firstArgMember]; rfl)) (wpAny_newObj_type ?_ (by size_fits)))) (by size_fits))
  simp only [raiseNew]
  refine wpAny_bind (wpAny_handled ?_)
  first | rw [show A.in1.handled = none from hh] | rw [hh]
  exact wpAny_bind (wpAny_pure (wpAny_throw (hE _ _ (((Heap.SameBut.update ..).extBut.push _).push _) ⟨_, Heap.get?_push_size _ rfl, rfl⟩)))
theorem drawsT (hh : A.handled = none) (it t : Addr) (hne : t ≠ it) (its : Array Value) : Draws prog w A it [it, t] its.size (fun i v => its[i]? = some v) (fun i h => h.IsTupleIter it t i ∧ h.IsTuple t its) where
  live := fun _ _ st => let ⟨o, ho, _⟩ := st.1; ⟨o, ho⟩
  frame := fun _ _ _ st hk => ⟨st.1.at fun o e => hk it (by simp) o e, let ⟨o, ho, r⟩ := st.2; ⟨o, hk t (by simp) o ho, r⟩⟩
  item := fun i s Q E hi st hQ => tnext st.1 st.2 (x := its[i]) (by simp [hi]) fun h' hit' hs' => hQ _ h' s.toks (by simp [hi]) ⟨hit', let ⟨o, ho, r⟩ := st.2; ⟨o, hs'.extBut t o hne ho, r⟩⟩ hs'
  done := fun s Q E st hE => tdone hh st.1 st.2 (by simp) hE
end
end Ev
namespace Ev
open PySem PySem.Spec PyProof.Rows L2
theorem drawsEnd {prog : Program} {w : World} {A : Around} (hh : A.handled = none) (it t : Addr) (its : Array Value) (n : Nat) (hx : its[n]? = none) : Draws prog w A it [it, t] n (fun _ _ => False) (fun j h => j = n ∧ h.IsTupleIter it t n ∧ h.IsTuple t its) where
  live := fun _ _ st => let ⟨o, ho, _⟩ := st.2.1; ⟨o, ho⟩
  frame := fun _ _ _ st hk => ⟨st.1, st.2.1.at fun o e => hk it (by simp) o e, let ⟨o, ho, r⟩ := st.2.2; ⟨o, hk t (by simp) o ho, r⟩⟩
  item := fun i s Q E hi st hQ => absurd st.1 (Nat.ne_of_lt hi)
  done := fun s Q E st hE => tdone hh st.2.1 st.2.2 hx hE
/-- the tuple at a, each item in a new pair -/
def IteT (K : PySem.W.Frag) (a : Addr) : It :=
  ⟨fun i H => ∃ (xs : List V) (x : V), SqT K H a xs ∧ xs[i]? = some x, fun i H v H' => ∃ T x, v = .ref T ∧ H T = none ∧ H' = upd H T (.tup [.int (i : Nat), x]) ∧ ∀ xs, SqT K H a xs → xs[i]? = some x, fun i H => ∃ xs : List V, SqT K H a xs ∧ xs.length ≤ i⟩
theorem turn_enumT {P : Program} {w : World} {K : PySem.W.Frag} {elts : List Expr} {kk : Nat} {tpos : Pos} (a e it : Addr) :
    Turn P w K (.Tuple elts kk tpos) (IteT K a) [e, it] e (fun i h => (∃ old, IsEnum h e it ((i : Nat) : Int) old) ∧ h.IsTupleIter it a i ∧ e ≠ it) where
  mem := by simp
  obj := fun i h ⟨⟨old, he⟩, ⟨o, ho, hc, hd⟩, _⟩ b hb => by
    rcases (show b = e ∨ b = it by simpa using hb) with z | z <;> rw [z]
    · exact ⟨_, he, fun v q => nomatch q⟩
    · exact ⟨o, ho, fun v q => by rw [hd] at q; cases q⟩
  keep := fun i h h' ⟨⟨old, he⟩, hi, hne⟩ k => ⟨⟨old, k e (by simp) _ he⟩, hi.at fun o q => k it (by simp) o q, hne⟩
  item := by
    intro X hP hw hK hc i pins s σ H E I hf st hg
    subst hP hw hK
    obtain ⟨⟨old, he⟩, hit, hne⟩ := st
    obtain ⟨xs, x, hq, hx⟩ := hg
    obtain ⟨its, rv, p, hz⟩ := I.tuple hq
    obtain ⟨u, hu, ru⟩ := rv.get hx
    have hel : e < s.heap.objs.size := Heap.lt_size he
    have hil : it < s.heap.objs.size := by obtain ⟨_, q, _⟩ := hit; exact Heap.lt_size q
    have pt : s.heap.IsTuple a its.toArray := p
    have hai : a ≠ it := fun z => by
      obtain ⟨o, h1, h2, _⟩ := pt
      obtain ⟨o', h3, h4, _⟩ := hit
      rw [z, h3] at h1
      cases h1
      rw [h4] at h2
      exact absurd (Value.type.inj h2) (by decide)
    have hae : e ≠ a := fun z => by
      obtain ⟨o, h1, h2, _⟩ := pt
      have h3 := he
      unfold IsEnum at h3
      rw [z, h1] at h3
      cases h3
      exact absurd (Value.type.inj h2) (by decide)
    have hi : i < its.length := by
      obtain ⟨z, _⟩ := List.getElem?_eq_some_iff.mp hu
      exact z
    refine wpAny_pyNext_enum_itemD (drawsT (A := X.A.in1) (I.ok.hd hc) it a hai its.toArray) he ⟨hit, pt⟩ (by simpa using hi) hne (by simp [hne, hae]) fun y h' tk hy ho st' hT hsz hk => ?_
    obtain rfl : y = u := by
      have hy' : its[i]? = some y := by simpa using hy
      rw [hu] at hy'
      exact (Option.some.inj hy').symm
    refine ⟨_, rfl, wpAny_letOwnedTupleGo_enum (s := { s with heap := h', toks := tk + 1 }) ho fun h2 he2 sb => ?_⟩
    have hT2 : h2.get? s.heap.objs.size = some { cls := .type "tuple", data := .seq #[.int i tk, y] } := (sb.2 _ (Nat.ne_of_gt hel)).trans hT
    have new : ObjOk X.prog X.w (upd H s.heap.objs.size (.tup [.int (i : Nat), x])) h2 s.heap.objs.size (.tup [.int (i : Nat), x]) := ⟨by show 2 ≤ sizeLine; decide, [.int i tk, y], .cons ⟨_, rfl⟩ (.cons ru .nil), ⟨_, hT2, rfl, _, rfl⟩⟩
    have I1 : Inv X pins σ (upd H s.heap.objs.size (.tup [.int (i : Nat), x])) { s with heap := h2, toks := tk + 1 } :=
      I.turnedNew (ch := [e, it]) (fun b ob hb q => (sb.2 b (fun z => hb (by simp [z]))).trans (hk b ob (fun z => hb (by simp [z])) (fun z => hb (by simp [z])) q)) hf (Nat.le_refl _) new
    refine ⟨.ref s.heap.objs.size, _, I1, rfl, ⟨_, x, rfl, I.hok.fresh (Nat.le_refl _), rfl, fun ys hy => by rw [I.tuple_inj hy hq]; exact hx⟩, ⟨⟨y, by rw [show ((i + 1 : Nat) : Int) = (i : Int) + 1 by omega]; exact he2⟩, st'.1.at fun o q => (sb.2 it (Ne.symm hne)).trans q, hne⟩, fun b hb => ?_⟩
    have hb' : b < s.heap.objs.size := by rcases (show b = e ∨ b = it by simpa using hb) with z | z <;> rw [z] <;> assumption
    rw [upd_ne (Nat.ne_of_lt hb')]
    exact (hf b hb).1
  done := by
    intro X hP hw hK hc i pins s σ H E I hf st hg
    subst hP hw hK
    obtain ⟨⟨old, he⟩, hit, hne⟩ := st
    obtain ⟨xs, hq, hx⟩ := hg
    obtain ⟨its, rv, p, hz⟩ := I.tuple hq
    obtain ⟨f0, f1, f2, f3, f4, f5⟩ := hf it (by simp)
    have hl := rv.length
    have pt : s.heap.IsTuple a its.toArray := p
    exact wpAny_pyNext_enum_endD (drawsEnd (A := X.A.in1) (I.ok.hd hc) it a its.toArray i (by simp; omega)) he ⟨rfl, hit, pt⟩ fun h' eb => ⟨rfl, I.turned (t' := s.toks) (fun b o hb q => eb b o hb q) f0 f1 f3 f4 f5⟩
  self := fun A i s Q E ⟨⟨_, he⟩, _⟩ h => wpAny_pyIter_enum he h
def rEnumT (K : PySem.W.Frag) : List V → Hp → (It → Hp → Prop) → Prop := fun vs H1 R => ∃ a xs, vs = [.ref a] ∧ ((SqL K H1 a xs ∧ R (Ite K a) H1) ∨ (SqT K H1 a xs ∧ R (IteT K a) H1))
theorem pi_enumA {X : Cx} {e : Expr} {ta : TA} {p pos tpos : Pos} {elts : List Expr} {kk : Nat} (hg : Gl X "enumerate") (hm : X.mg "enumerate" = none) (ha : PA X [e] ta) (hs : starEach [e] X.env = [(false, eval e X.env)] := by rfl) :
    PI X (.Tuple elts kk tpos) (.Call (.Name "enumerate" p) [e] [] pos) (tIA ta (rEnumT X.K)) := by
  refine ⟨fun pins s σ H R I h => Call_ (ld_blt I hg hm boot_enumerate (PyProof.Rows.callWith_type1 (thn (ha.run pos pins s σ H _ I h) fun us s1 ⟨vs, H1, I1, r1, a, xs, ex, q⟩ => ?_) hs rfl))⟩
  subst ex
  rw [Vals.ref1 r1]
  have fp : ∀ b, b ∈ [s1.heap.objs.size + 1, s1.heap.objs.size] → s1.heap.objs.size ≤ b := fun b hb => by
    rcases (show b = s1.heap.objs.size + 1 ∨ b = s1.heap.objs.size by simpa using hb) with z | z <;> rw [z]
    · exact Nat.le_add_right _ _
    · exact Nat.le_refl _
  rcases q with ⟨hq, q⟩ | ⟨hq, q⟩
  · obtain ⟨its, rv, p', hz⟩ := I1.list hq
    exact call_enumerate_list p'.isList fun h' he hit hsz hk => wpAny_pyIter_enum he ⟨s1.heap.objs.size + 1, [s1.heap.objs.size + 1, s1.heap.objs.size], _, _, H1, rfl, I1.kept (t' := s1.toks) hk, turn_enum a (s1.heap.objs.size + 1) s1.heap.objs.size, ⟨⟨.none, he⟩, hit, Nat.succ_ne_self _⟩, fun b hb => I1.fpOk (fp b hb) (I1.hok.fresh (fp b hb)), q⟩
  · obtain ⟨its, rv, p', hz⟩ := I1.tuple hq
    exact call_enumT (show s1.heap.IsTuple a its.toArray from p') fun h' he hit hk => wpAny_pyIter_enum he ⟨s1.heap.objs.size + 1, [s1.heap.objs.size + 1, s1.heap.objs.size], _, _, H1, rfl, I1.kept (t' := s1.toks) hk, turn_enumT a (s1.heap.objs.size + 1) s1.heap.objs.size, ⟨⟨.none, he⟩, hit, Nat.succ_ne_self _⟩, fun b hb => I1.fpOk (fp b hb) (I1.hok.fresh (fp b hb)), q⟩
end Ev
namespace Ev
open PySem L2
section
variable {K : PySem.W.Frag} {c : Ctx} {F F' H H' : Hp} {v w : V} {vs : List V} {d : D} {ds : List D}
def itEnumA : List D → Option (List D)
  | [.lst xs] => some (enumD 0 xs)
  | [.tup xs] => some (enumD 0 xs)
  | _ => none
theorem i_enumA : IterV K c (rEnumT K) itEnumA := fun F H vs ds items R x V e k => by
  unfold itEnumA at e
  split at e
  · cases e
    obtain ⟨v, rfl, hv⟩ := V.one
    obtain ⟨a, us, rfl, q, l⟩ := id hv
    refine ⟨a, us, rfl, .inl ⟨.inl (.inl q), IterV.same k x fun F H i _ x V => ?_⟩⟩
    obtain ⟨v, e, hv⟩ := V.one
    cases e
    obtain ⟨a', us, e, q, l⟩ := hv
    cases e
    have s1 : SqL K H a us := .inl (.inl q)
    refine ⟨fun d e => ?_, fun h => ⟨us, s1, ?_⟩⟩
    · obtain ⟨p, h1, rfl⟩ := enumD_get _ _ _ _ e
      obtain ⟨u, z1, z2⟩ := l.get h1
      refine ⟨⟨us, u, s1, z1⟩, fun y H' yl => ?_⟩
      obtain ⟨T, x1, rfl, hT, rfl, k1⟩ := yl
      have e1 := k1 us s1
      rw [z1] at e1
      cases e1
      rw [Int.zero_add]
      exact pair_new x hT (.int _) z2
    · rw [enumD_length] at h
      rw [l.length]
      omega
  · cases e
    obtain ⟨v, rfl, hv⟩ := V.one
    cases hv with
    | @tup a us _ q l =>
      refine ⟨a, us, rfl, .inr ⟨x.t q, IterV.same k x fun F H i _ x V => ?_⟩⟩
      obtain ⟨v, e, hv⟩ := V.one
      cases e
      cases hv with
      | @tup _ us _ q l =>
        have s1 : SqT K H a us := x.t q
        refine ⟨fun d e => ?_, fun h => ⟨us, s1, ?_⟩⟩
        · obtain ⟨p, h1, rfl⟩ := enumD_get _ _ _ _ e
          obtain ⟨u, z1, z2⟩ := l.get h1
          refine ⟨⟨us, u, s1, z1⟩, fun y H' yl => ?_⟩
          obtain ⟨T, x1, rfl, hT, rfl, k1⟩ := yl
          have e1 := k1 us s1
          rw [z1] at e1
          cases e1
          rw [Int.zero_add]
          exact pair_new x hT (.int _) z2
        · rw [enumD_length] at h
          rw [l.length]
          omega
  · cases e
end
end Ev
namespace Ev
open PySem L2 PyProof.Rows
/-! ### x[::-1] of a list, of a tuple -/
section
variable {K : PySem.W.Frag} {c : Ctx} {F F' H H' : Hp} {v : V} {vs : List V} {d : D} {ds : List D} {Q : VK}
theorem DenL.back : ∀ {vs : List V} {ds : List D}, DenL K c.CL F vs ds → DenL K c.CL F vs.reverse ds.reverse
  | _, _, .nil => .nil
  | _, _, .cons h t => by rw [List.reverse_cons, List.reverse_cons]; exact (DenL.back t).append (.cons h .nil)
end
end Ev
namespace Ev
open PySem PySem.Spec PyProof.Rows L2
open AutoSeq1 (wpAny_loadPart')
/-! ### zip(a list, a tuple) -/
theorem drawsEndL {prog : Program} {w : World} {A : Around} (hh : A.handled = none) (it t : Addr) (its : Array Value) (n : Nat) (hx : its[n]? = none) : Draws prog w A it [it, t] n (fun _ _ => False) (fun j h => j = n ∧ h.IsListIter it t n ∧ h.IsList t its) where
  live := fun _ _ st => let ⟨o, ho, _⟩ := st.2.1; ⟨o, ho⟩
  frame := fun _ _ _ st hk => ⟨st.1, st.2.1.at fun o e => hk it (by simp) o e, st.2.2.at fun o e => hk t (by simp) o e⟩
  item := fun i s Q E hi st hQ => absurd st.1 (Nat.ne_of_lt hi)
  done := fun s Q E st hE => wpAny_nextOf_list_end hh st.2.1 st.2.2 hx hE
abbrev zmA (h : Heap) (a : Addr) : Heap := h.push { cls := .type "list_iterator", data := .fields #[.ref a, .int 0 0] }
abbrev zmB (h : Heap) (a b : Addr) : Heap := (zmA h a).push { cls := .type "tuple_iterator", data := .fields #[.ref b, .int 0 0] }
abbrev zmC (h : Heap) (a b : Addr) : Heap := (zmB h a b).push { cls := .type "tuple", data := .seq #[.ref h.objs.size, .ref (zmA h a).objs.size] }
abbrev zmD (h : Heap) (a b : Addr) : Heap := (zmC h a b).push { cls := .type "tuple", data := .seq #[.none, .none] }
abbrev zmE (h : Heap) (a b : Addr) : Heap := (zmD h a b).push { cls := .type "zip", data := .fields #[.none, .bool false, .bool false, .ref (zmB h a b).objs.size, .ref (zmC h a b).objs.size] }
theorem zm_new (a b : Addr) (xs ys : Array Value) : Meets (Builtin.«zip.__new__» ⟨[.type "zip", .ref a, .ref b], []⟩) (fun _ R s => s.heap.IsList a xs ∧ s.heap.IsTuple b ys ∧ R (.ok (.ret (.ref (zmD s.heap a b).objs.size))) { s with heap := zmE s.heap a b }) :=
  .of_wp fun prog w A R s ⟨ha, hb, h⟩ => by
    obtain ⟨hp, g, d, tk, os⟩ := s
    have hsub := sub_zip
    have qa : Heap.IsList (Shared.heap ⟨hp, g, d, tk, os⟩) a xs := ha
    have qb : Heap.IsTuple (Shared.heap ⟨zmA hp a, g, d, tk, os⟩) b ys := Heap.IsTuple.push hb _
    wp_walk using wpAny_pyIter_list qa, wpAny_pyIter_tuple qb
    exact ⟨_, rfl, h⟩
section
variable {prog : Program} {w : World} {A : Around} {E : Value → Shared → Prop} {s : Shared}
theorem call_zm {a b : Addr} {xs ys : Array Value} {Q : Value → Shared → Prop} (ha : s.heap.IsList a xs) (hb : s.heap.IsTuple b ys)
    (h : ∀ h', IsZip h' (s.heap.objs.size + 4) (s.heap.objs.size + 2) (s.heap.objs.size + 3) .none → IsPair h' (s.heap.objs.size + 2) (.ref s.heap.objs.size) (.ref (s.heap.objs.size + 1)) → IsPair h' (s.heap.objs.size + 3) .none .none → h'.IsListIter s.heap.objs.size a 0 → h'.IsTupleIter (s.heap.objs.size + 1) b 0 →
      (∀ c o, s.heap.get? c = some o → h'.get? c = some o) → Q (.ref (s.heap.objs.size + 4)) { s with heap := h' }) : wpAny (model prog w) A (call (.type "zip") [.ref a, .ref b]) Q E s := by
  refine callType_new F.called_zip (by decide) (F.typeCall_zip_2 _ _) (F.newCall_zip_2 _ _) (fun obj => F.args_object_init_3 obj _ _) F.entry_zip_new (zm_new a b xs ys) ⟨ha, hb, ?_⟩
  have e1 : (zmA s.heap a).objs.size = s.heap.objs.size + 1 := Heap.size_push ..
  have e2 : (zmB s.heap a b).objs.size = s.heap.objs.size + 2 := by rw [Heap.size_push, e1]
  have e3 : (zmC s.heap a b).objs.size = s.heap.objs.size + 3 := by rw [Heap.size_push, e2]
  have e4 : (zmD s.heap a b).objs.size = s.heap.objs.size + 4 := by rw [Heap.size_push, e3]
  have q5 : (zmE s.heap a b).get? (zmD s.heap a b).objs.size = some _ := Heap.get?_push_size _ rfl
  have q4 : (zmE s.heap a b).get? (zmC s.heap a b).objs.size = some _ := Heap.get?_push_of_some _ (Heap.get?_push_size _ rfl)
  have q3 : (zmE s.heap a b).get? (zmB s.heap a b).objs.size = some _ := Heap.get?_push_of_some _ (Heap.get?_push_of_some _ (Heap.get?_push_size _ rfl))
  have q2 : (zmE s.heap a b).get? (zmA s.heap a).objs.size = some _ := Heap.get?_push_of_some _ (Heap.get?_push_of_some _ (Heap.get?_push_of_some _ (Heap.get?_push_size _ rfl)))
  have q1 : (zmE s.heap a b).get? s.heap.objs.size = some _ := Heap.get?_push_of_some _ (Heap.get?_push_of_some _ (Heap.get?_push_of_some _ (Heap.get?_push_of_some _ (Heap.get?_push_size _ rfl))))
  show _ ∧ _
  rw [e2, e3, e4] at q5
  rw [e1, e2] at q3
  rw [e3] at q4
  rw [e1] at q2
  rw [e4]
  exact ⟨⟨_, q5, rfl⟩, h _ q5 q3 q4 ⟨_, q1, rfl, rfl⟩ ⟨_, q2, rfl, rfl⟩ fun c o x => Heap.get?_push_of_some _ (Heap.get?_push_of_some _ (Heap.get?_push_of_some _ (Heap.get?_push_of_some _ (Heap.get?_push_of_some _ x))))⟩
end
/-- the list at a and the tuple at b, the items in new pairs -/
def ItzM (K : PySem.W.Frag) (a b : Addr) : It :=
  ⟨fun i H => ∃ (xs ys : List V) (x y : V), SqL K H a xs ∧ SqT K H b ys ∧ xs[i]? = some x ∧ ys[i]? = some y,
    fun i H v H' => ∃ T x y, v = .ref T ∧ H T = none ∧ H' = upd H T (.tup [x, y]) ∧ (∀ xs, SqL K H a xs → xs[i]? = some x) ∧ ∀ ys, SqT K H b ys → ys[i]? = some y,
    fun i H => ∃ xs ys : List V, SqL K H a xs ∧ SqT K H b ys ∧ (xs.length ≤ i ∨ ys.length ≤ i)⟩
theorem sepM {z TI TO i1 i2 a b : Addr} (D : ZipApart z TI TO i1 i2 a b) : ZipSep2 z TI TO i1 i2 [i1, a] [i2, b] where
  TIz := D.TIz
  TOz := D.TOz
  TITO := D.TITO
  TIi1 := D.TIi1
  mem1 := by simp
  zf1 := by simp [D.i1z.symm, D.l1z.symm]
  Tf1 := by simp [D.TOi1, D.l1TO.symm]
  TIi2 := D.TIi2
  mem2 := by simp
  zf2 := by simp [D.i2z.symm, D.l2z.symm]
  Tf2 := by simp [D.TOi2, D.l2TO.symm]
  sep1_2 := by simp [D.i12, D.l2i1.symm]
  sep2_1 := by simp [D.i12.symm, D.l1i2.symm]
theorem turn_zm {P : Program} {w : World} {K : PySem.W.Frag} {elts : List Expr} {kk : Nat} {tpos : Pos} {a b z TI TO i1 i2 : Addr} (D : ZipApart z TI TO i1 i2 a b) :
    Turn P w K (.Tuple elts kk tpos) (ItzM K a b) [z, TI, TO, i1, i2] z (fun i h => IsZip h z TI TO .none ∧ IsPair h TI (.ref i1) (.ref i2) ∧ (∃ x y, IsPair h TO x y) ∧ h.IsListIter i1 a i ∧ h.IsTupleIter i2 b i) where
  mem := by simp
  obj := fun i h ⟨hz, hTI, ⟨x, y, hTO⟩, ⟨o1, e1, _, d1⟩, ⟨o2, e2, _, d2⟩⟩ c hc => by
    rcases (show c = z ∨ c = TI ∨ c = TO ∨ c = i1 ∨ c = i2 by simpa using hc) with q | q | q | q | q <;> rw [q]
    · exact ⟨_, hz, fun v q => nomatch q⟩
    · exact ⟨_, hTI, fun v q => nomatch q⟩
    · exact ⟨_, hTO, fun v q => nomatch q⟩
    · exact ⟨o1, e1, fun v q => by rw [d1] at q; cases q⟩
    · exact ⟨o2, e2, fun v q => by rw [d2] at q; cases q⟩
  keep := fun i h h' ⟨hz, hTI, ⟨x, y, hTO⟩, h1, h2⟩ k => ⟨k z (by simp) _ hz, k TI (by simp) _ hTI, ⟨x, y, k TO (by simp) _ hTO⟩, h1.at fun o q => k i1 (by simp) o q, h2.at fun o q => k i2 (by simp) o q⟩
  item := by
    intro X hP hw hK hc i pins s σ H E I hf st hg
    subst hP hw hK
    obtain ⟨hz, hTI, ⟨x0, y0, hTO⟩, h1, h2⟩ := st
    obtain ⟨xs, ys, x, y, hqx, hqy, hx, hy⟩ := hg
    obtain ⟨its, rv, p, _⟩ := I.list hqx
    obtain ⟨its2, rv2, p2, _⟩ := I.tuple hqy
    obtain ⟨u, hu, ru⟩ := rv.get hx
    obtain ⟨u2, hu2, ru2⟩ := rv2.get hy
    have hzl : z < s.heap.objs.size := Heap.lt_size hz
    have pt : s.heap.IsTuple b its2.toArray := p2
    have hi : i < its.toArray.size := by
      obtain ⟨q, _⟩ := List.getElem?_eq_some_iff.mp hu
      simpa using q
    have hi2 : i < its2.toArray.size := by
      obtain ⟨q, _⟩ := List.getElem?_eq_some_iff.mp hu2
      simpa using q
    refine wpAny_pyNext_zipD2_item (sepM D) (Draws.list (A := X.A.in1) (I.ok.hd hc) i1 a D.l1i1 its.toArray) (drawsT (A := X.A.in1) (I.ok.hd hc) i2 b D.l2i2 its2.toArray) hz hTI hTO ⟨h1, p.isList⟩ ⟨h2, pt⟩ hi hi2 fun x1 x2 h' tk e1 e2 z' TO' s1' s2' hT hsz hk => ?_
    obtain rfl : x1 = u := by
      have e1' : its[i]? = some x1 := by simpa using e1
      rw [hu] at e1'
      exact (Option.some.inj e1').symm
    obtain rfl : x2 = u2 := by
      have e2' : its2[i]? = some x2 := by simpa using e2
      rw [hu2] at e2'
      exact (Option.some.inj e2').symm
    refine ⟨_, rfl, wpAny_letOwnedTupleGo_zip (s := { s with heap := h', toks := tk }) z' fun h'' z'' sb => ?_⟩
    have hT2 : h''.get? s.heap.objs.size = some { cls := .type "tuple", data := .seq #[x1, x2] } := (sb.2 _ (Nat.ne_of_gt hzl)).trans hT
    have new : ObjOk X.prog X.w (upd H s.heap.objs.size (.tup [x, y])) h'' s.heap.objs.size (.tup [x, y]) := ⟨by show 2 ≤ sizeLine; decide, [x1, x2], .cons ru (.cons ru2 .nil), ⟨_, hT2, rfl, _, rfl⟩⟩
    have I1 : Inv X pins σ (upd H s.heap.objs.size (.tup [x, y])) { s with heap := h'', toks := tk } :=
      I.turnedNew (ch := [z, TI, TO, i1, i2]) (fun c o hb q => (sb.2 c (fun w => hb (by simp [w]))).trans (hk c o (fun w => hb (by simp [w])) (fun w => hb (by simp [w])) (fun w => hb (by simp [w])) (fun w => hb (by simp [w])) q)) hf (Nat.le_refl _) new
    refine ⟨.ref s.heap.objs.size, _, I1, rfl, ⟨_, x, y, rfl, I.hok.fresh (Nat.le_refl _), rfl, fun l hl => by rw [I.list_inj hl hqx]; exact hx, fun l hl => by rw [I.tuple_inj hl hqy]; exact hy⟩, ⟨z'', ?_, ⟨x1, x2, (sb.2 _ D.TOz).trans TO'⟩, s1'.1.at fun o q => (sb.2 _ D.i1z).trans q, s2'.1.at fun o q => (sb.2 _ D.i2z).trans q⟩, fun c hcm => ?_⟩
    · exact (sb.2 _ D.TIz).trans (hk _ _ D.TIz D.TITO D.TIi1 D.TIi2 hTI)
    · have hlt : c < s.heap.objs.size := by
        rcases (show c = z ∨ c = TI ∨ c = TO ∨ c = i1 ∨ c = i2 by simpa using hcm) with q | q | q | q | q <;> rw [q]
        · exact hzl
        · exact Heap.lt_size hTI
        · exact Heap.lt_size hTO
        · obtain ⟨_, w, _⟩ := h1; exact Heap.lt_size w
        · obtain ⟨_, w, _⟩ := h2; exact Heap.lt_size w
      rw [upd_ne (Nat.ne_of_lt hlt)]
      exact (hf c hcm).1
  done := by
    intro X hP hw hK hc i pins s σ H E I hf st hg
    subst hP hw hK
    obtain ⟨hz, hTI, ⟨x0, y0, hTO⟩, h1, h2⟩ := st
    obtain ⟨xs, ys, hqx, hqy, hend⟩ := hg
    obtain ⟨its, rv, p, _⟩ := I.list hqx
    obtain ⟨its2, rv2, p2, _⟩ := I.tuple hqy
    have l1 := rv.length
    have l2 := rv2.length
    have pt : s.heap.IsTuple b its2.toArray := p2
    have fin : ∀ (h' : Heap) (tk : Nat), (∀ c o, c ≠ z → c ≠ TO → c ≠ i1 → c ≠ i2 → s.heap.get? c = some o → h'.get? c = some o) → (none : Option Value) = none ∧ Inv X pins σ H { s with heap := h', toks := tk } := fun h' tk hk => ⟨rfl, I.turnedL (ch := [z, TI, TO, i1, i2]) (fun c o hb q => hk c o (fun w => hb (by simp [w])) (fun w => hb (by simp [w])) (fun w => hb (by simp [w])) (fun w => hb (by simp [w])) q) hf⟩
    rcases Nat.lt_or_ge i its.length with a1 | a1 <;> rcases Nat.lt_or_ge i its2.length with a2 | a2
    · omega
    · exact wpAny_pyNext_zipD2_end (sepM D) (Draws.list (A := X.A.in1) (I.ok.hd hc) i1 a D.l1i1 its.toArray) (drawsEnd (A := X.A.in1) (I.ok.hd hc) i2 b its2.toArray i (by simp; omega)) hz hTI hTO ⟨h1, p.isList⟩ ⟨rfl, h2, pt⟩ (by simp; omega) (Nat.le_refl _) (.inr rfl) fin
    · exact wpAny_pyNext_zipD2_end (sepM D) (drawsEndL (A := X.A.in1) (I.ok.hd hc) i1 a its.toArray i (by simp; omega)) (drawsT (A := X.A.in1) (I.ok.hd hc) i2 b D.l2i2 its2.toArray) hz hTI hTO ⟨rfl, h1, p.isList⟩ ⟨h2, pt⟩ (Nat.le_refl _) (by simp; omega) (.inl rfl) fin
    · exact wpAny_pyNext_zipD2_end (sepM D) (drawsEndL (A := X.A.in1) (I.ok.hd hc) i1 a its.toArray i (by simp; omega)) (drawsEnd (A := X.A.in1) (I.ok.hd hc) i2 b its2.toArray i (by simp; omega)) hz hTI hTO ⟨rfl, h1, p.isList⟩ ⟨rfl, h2, pt⟩ (Nat.le_refl _) (Nat.le_refl _) (.inl rfl) fin
  self := fun A i s Q E st h => wpAny_pyIter_zip st.1 h
def rZipM (K : PySem.W.Frag) : List V → Hp → (It → Hp → Prop) → Prop := fun vs H1 R => ∃ a b xs ys, vs = [.ref a, .ref b] ∧ ((SqL K H1 a xs ∧ SqL K H1 b ys ∧ R (Itz K a b) H1) ∨ (SqT K H1 a xs ∧ SqT K H1 b ys ∧ R (RZ.ItzT K a b) H1) ∨ (SqL K H1 a xs ∧ SqT K H1 b ys ∧ R (ItzM K a b) H1))
theorem pi_zipM {X : Cx} {e e2 : Expr} {ta : TA} {p pos tpos : Pos} {elts : List Expr} {kk : Nat} (hg : Gl X "zip") (hm : X.mg "zip" = none) (ha : PA X [e, e2] ta)
    (hs : starEach [e, e2] X.env = (false, eval e X.env) :: starEach [e2] X.env := by rfl) (hpl : (backTo pos (starEach [e2] X.env)).any (·.1) = false := by rfl) : PI X (.Tuple elts kk tpos) (.Call (.Name "zip" p) [e, e2] [] pos) (tIA ta (rZipM X.K)) := by
  refine ⟨fun pins s σ H R I h => Call_ (ld_blt I hg hm PyProof.Rows.boot_zip (PyProof.Rows.callWith_type1 (thn (ha.run pos pins s σ H _ I h) fun us s1 ⟨vs, H1, I1, r1, a, b, xs, ys, ex, q⟩ => ?_) hs hpl))⟩
  subst ex
  obtain ⟨u1, u2, rfl, q1, q2⟩ : ∃ u1 u2, us = [u1, u2] ∧ RelV (.ref a) u1 ∧ RelV (.ref b) u2 := by
    cases r1 with
    | cons r t => cases t with
      | cons r' t => cases t; exact ⟨_, _, rfl, r, r'⟩
  cases q1
  cases q2
  have fresh : ∀ c, c ∈ [s1.heap.objs.size + 4, s1.heap.objs.size + 2, s1.heap.objs.size + 3, s1.heap.objs.size, s1.heap.objs.size + 1] → FpOk X pins H1 c := fun c hcm => by
    have hle : s1.heap.objs.size ≤ c := by
      rcases (show c = s1.heap.objs.size + 4 ∨ c = s1.heap.objs.size + 2 ∨ c = s1.heap.objs.size + 3 ∨ c = s1.heap.objs.size ∨ c = s1.heap.objs.size + 1 by simpa using hcm) with z | z | z | z | z <;> rw [z]
      · exact Nat.le_add_right _ _
      · exact Nat.le_add_right _ _
      · exact Nat.le_add_right _ _
      · exact Nat.le_refl _
      · exact Nat.le_add_right _ _
    exact I1.fpOk hle (I1.hok.fresh hle)
  rcases q with ⟨hx, hy, q⟩ | ⟨hx, hy, q⟩ | ⟨hx, hy, q⟩
  · obtain ⟨its, rv, p1, _⟩ := I1.list hx
    obtain ⟨its2, rv2, p2, _⟩ := I1.list hy
    exact call_zip_2 p1.isList p2.isList fun h' hz hTI hTO h1 h2 hsz hk => wpAny_pyIter_zip hz ⟨_, _, _, _, H1, rfl, I1.kept (t' := s1.toks) hk, turn_zip (PySem.W.ktu_apart s1.heap.objs.size a b p1.lt p2.lt), ⟨hz, hTI, ⟨_, _, hTO⟩, h1, h2⟩, fresh, q⟩
  · obtain ⟨its, rv, p1, _⟩ := I1.tuple hx
    obtain ⟨its2, rv2, p2, _⟩ := I1.tuple hy
    obtain ⟨o1, ho1, _⟩ := id p1
    obtain ⟨o2, ho2, _⟩ := id p2
    exact RZ.call_zipT (show s1.heap.IsTuple a its.toArray from p1) (show s1.heap.IsTuple b its2.toArray from p2) fun h' hz hTI hTO h1 h2 hsz hk => wpAny_pyIter_zip hz ⟨_, _, _, _, H1, rfl, I1.kept (t' := s1.toks) hk, RZ.turn_zipT (PySem.W.ktu_apart s1.heap.objs.size a b (Heap.lt_size ho1) (Heap.lt_size ho2)), ⟨hz, hTI, ⟨_, _, hTO⟩, h1, h2⟩, fresh, q⟩
  · obtain ⟨its, rv, p1, _⟩ := I1.list hx
    obtain ⟨its2, rv2, p2, _⟩ := I1.tuple hy
    obtain ⟨o2, ho2, _⟩ := id p2
    exact call_zm p1.isList (show s1.heap.IsTuple b its2.toArray from p2) fun h' hz hTI hTO h1 h2 hk => wpAny_pyIter_zip hz ⟨_, _, _, _, H1, rfl, I1.kept (t' := s1.toks) hk, turn_zm (PySem.W.ktu_apart s1.heap.objs.size a b p1.lt (Heap.lt_size ho2)), ⟨hz, hTI, ⟨_, _, hTO⟩, h1, h2⟩, fresh, q⟩
section
variable {K : PySem.W.Frag} {c : Ctx} {F F' H H' : Hp} {v w : V} {vs : List V} {d : D} {ds : List D}
theorem j_zm {a b : Addr} {xs ys : List D} {F0 : Hp} : JOk K c F0 [.ref a, .ref b] [.lst xs, .tup ys] (ItzM K a b) (zipD xs ys) := fun F H i _ x V => by
  obtain ⟨v, w, e, hv, hw⟩ := V.two
  cases e
  obtain ⟨a', us, e, q, l⟩ := hv
  cases e
  have s1 : SqL K H a us := .inl (.inl q)
  cases hw with
  | @tup _ ws _ q' l' =>
    have s2 := x.t (K := K) q'
    refine ⟨fun d e => ?_, fun h => ⟨us, ws, s1, s2, ?_⟩⟩
    · obtain ⟨p, r, h1, h2, rfl⟩ := zipD_get _ _ _ _ e
      obtain ⟨u, z1, z2⟩ := l.get h1
      obtain ⟨t, z3, z4⟩ := l'.get h2
      refine ⟨⟨us, ws, u, t, s1, s2, z1, z3⟩, fun y H' yl => ?_⟩
      obtain ⟨T, x1, y1, rfl, hT, rfl, k1, k2⟩ := yl
      have e1 := k1 us s1
      rw [z1] at e1
      cases e1
      have e2 := k2 ws s2
      rw [z3] at e2
      cases e2
      exact pair_new x hT z2 z4
    · rw [zipD_length] at h
      rw [l.length, l'.length]
      omega
def itZipM : List D → Option (List D)
  | [.lst xs, .lst ys] => some (zipD xs ys)
  | [.tup xs, .tup ys] => some (zipD xs ys)
  | [.lst xs, .tup ys] => some (zipD xs ys)
  | _ => none
theorem i_zipM : IterV K c (rZipM K) itZipM := fun F H vs ds items R x V e k => by
  unfold itZipM at e
  split at e
  · cases e
    obtain ⟨v, w, rfl, hv, hw⟩ := V.two
    obtain ⟨a, us, rfl, q, l⟩ := id hv
    obtain ⟨b, ws, rfl, q', l'⟩ := id hw
    exact ⟨a, b, us, ws, rfl, .inl ⟨.inl (.inl q), .inl (.inl q'), IterV.same k x j_zipL⟩⟩
  · cases e
    obtain ⟨v, w, rfl, hv, hw⟩ := V.two
    cases hv with
    | @tup a us _ q l => cases hw with
      | @tup b ws _ q' l' => exact ⟨a, b, us, ws, rfl, .inr (.inl ⟨x.t q, x.t q', IterV.same k x j_zipT⟩)⟩
  · cases e
    obtain ⟨v, w, rfl, hv, hw⟩ := V.two
    obtain ⟨a, us, rfl, q, l⟩ := id hv
    cases hw with
    | @tup b ws _ q' l' => exact ⟨a, b, us, ws, rfl, .inr (.inr ⟨.inl (.inl q), x.t q', IterV.same k x j_zm⟩)⟩
  · cases e
end
end Ev
namespace Ev
open PySem L2 PyProof.Rows
/-! ### isinstance(x, tuple), x an own instance too -/
def fIsiO (n : Nat) : List D → Option RB
  | [.obj m _, .ty t] => if m = n ∧ t = "tuple" then some (.d (.bl false)) else none
  | ds => fIsi ds
/-- what the class must say: its instances are no tuples -/
structure IsOut (K : PySem.W.Frag) (C : Addr) : Prop where
  cl : Cls K C
  ha : PySem.W.findIn K (.ref C) "__class__" = some (some (.builtin "object.__class__"))
  hn : PySem.W.specialIn K (.builtin "object.__class__") "__get__" = some (some (.builtin "getset_descriptor.__get__"))
  ht : PySem.W.takesIn K (.builtin "object.__class__") = some true
  hm : PySem.W.mroIn K C (.type "object") = some true
  no : PySem.W.kitOne K (.ref C) (.type "tuple") = some false
theorem out_of {K : PySem.W.Frag} {C : Addr} (h : PySem.W.subIn K (.ref C) (.type "tuple") = some false) : PySem.W.kitOne K (.ref C) (.type "tuple") = some false := by
  unfold PySem.W.kitOne
  rw [if_neg (by intro z; cases z)]
  show (if PySem.W.kitMeta "tuple" = true then PySem.W.subIn K (.ref C) (.type "tuple") else none) = _
  rw [if_pos (by decide +kernel)]
  exact h
theorem isOut_of {K : PySem.W.Frag} {CL : CLs} {n : Nat} {q : Addr} {fs : List Str} (h : CL n = (q, fs)) (o : IsOut K q) : IsOut K (CL n).1 := by rw [h]; exact o
theorem p_isiO {K : PySem.W.Frag} {c : Ctx} {n : Nat} (ok : IsOut K (c.CL n).1) : Prim K c (rIsi K) (fIsiO n) := fun F H vs ds res Q x V e f => by
  unfold fIsiO at e
  split at e
  · split at e
    · rename_i h
      cases e
      obtain ⟨h1, h2⟩ := h
      subst h1 h2
      obtain ⟨v, w, rfl, hv, hw⟩ := V.two
      cases hw
      cases hv with
      | obj h _ _ => exact ⟨_, _, _, _, false, rfl, .ty _, .base (.ins (x _ _ h) ok.cl ok.ha ok.hn ok.ht ok.hm), ok.no, f.same x (.bl _)⟩
    · cases e
  · exact p_isi F H vs _ res Q x V e f
end Ev
namespace Ev
open PySem L2
/-! ### in: a whole number in a tuple of them, besides what EvPrim2 knows -/
def inI (i : Int) (ns : List Int) : Bool := ns.any fun n => decide (n = i)
theorem inV_int (i : Int) (ns : List Int) : inV (.int i) (ns.map V.int) = inI i ns := by
  unfold inV inI
  rw [List.any_map]
  congr 1
theorem flat_ints (ns : List Int) : (ns.map V.int).all flatV = true := by
  rw [List.all_map, List.all_eq_true]
  intro n _
  rfl
def inT? : D → D → Option Bool
  | .int i, .tup xs => match nums xs with
    | some ns => some (inI i ns)
    | none => none
  | _, _ => none
def inM? (a b : D) : Option Bool := match inT? a b with
  | some k => some k
  | none => in? a b
def fInM : List D → Option RB
  | [a, b] => match inM? a b with
    | some k => some (.d (.bl k))
    | none => none
  | _ => none
def rInM (K : PySem.W.Frag) : R2 := fun x y H Q => rInD K x y H Q ∨ rIn K false x y H Q
theorem op_inM {X : Cx} (hu : X.A.units + 65 < cLine) : OpR X (compareOp .In) (rInM X.K) := fun pins s σ H x y v u Q I rx ry h => by
  rcases h with h | h
  · exact op_inD hu pins s σ H x y v u Q I rx ry h
  · exact op_in_seq pins s σ H x y v u Q I rx ry h
section
variable {K : PySem.W.Frag} {c : Ctx} {F H : Hp} {v w : V} {a b : D}
theorem inT_inv {k : Bool} (x : Ex F H) (v1 : View K c F H v a) (v2 : View K c F H w b) (e : inT? a b = some k) : ∃ i p ns, v = .int i ∧ w = .ref p ∧ SqT K H p (ns.map V.int) ∧ k = inI i ns := by
  unfold inT? at e
  split at e
  · split at e
    · rename_i ns q
      cases e
      cases v1
      cases v2 with
      | @tup p us _ q1 l1 => exact ⟨_, p, ns, rfl, rfl, by rw [← l1.nums q]; exact x.t q1, rfl⟩
    · cases e
  · cases e
theorem p_inM : Prim K c (two (rInM K)) fInM := fun F H vs ds res Q x V e f => by
  unfold fInM at e
  split at e
  · split at e
    · rename_i k hk
      cases e
      cases V with
      | cons v1 t => cases t with
        | cons v2 t =>
          cases t
          unfold inM? at hk
          split at hk
          · rename_i k' hk'
            cases hk
            obtain ⟨i, p, ns, rfl, rfl, q1, rfl⟩ := inT_inv x v1 v2 hk'
            exact ⟨_, _, rfl, .inr ⟨p, ns.map V.int, rfl, .inr q1, rfl, flat_ints ns, by rw [if_neg Bool.false_ne_true, inV_int]; exact f.same x (.bl _)⟩⟩
          · obtain ⟨p, ps, h1, h2, s1, s2, rfl⟩ := in_inv hk
            exact ⟨_, _, rfl, .inl ⟨p, ps, v1.dp x h1, v2.dp x h2, s1, s2, f.same x (.bl _)⟩⟩
    · cases e
  · cases e
end
end Ev
set_option maxHeartbeats 4000000
set_option maxHeartbeats 4000000
namespace Ev
open PySem PySem.Spec PyProof.Rows L2
/-! ### itertools.combinations: what the tables tell -/
namespace FC
theorem mro_c : mroOf (.type "itertools.combinations") = pure [.type "itertools.combinations", .type "object"] := by rw [mroOf_type]; kernel_rfl
theorem lookup_new : typeLookup (.type "itertools.combinations") "__new__" = pure (some (.builtin "itertools.combinations.__new__")) := by rw [typeLookup_type, builtinLookup_eq_fast]; kernel_rfl
theorem slot_init : PySem.Slot "itertools.combinations" "__init__" "object.__init__" :=
  .of (owner := "object") (n := "__init__") (by rw [typeLookup_type, builtinLookup_eq_fast]; kernel_rfl) (by decide +kernel) (by decide +kernel) (by decide +kernel)
    (by first | exact .inl (by decide +kernel) | exact .inr (by decide +kernel)) (by rw [isSubtype_type]; kernel_rfl)
theorem slot_iter : PySem.Slot "itertools.combinations" "__iter__" "itertools.combinations.__iter__" :=
  .of (owner := "itertools.combinations") (n := "__iter__") (by rw [typeLookup_type, builtinLookup_eq_fast]; kernel_rfl) (by decide +kernel) (by decide +kernel) (by decide +kernel)
    (by first | exact .inl (by decide +kernel) | exact .inr (by decide +kernel)) (by rw [isSubtype_type]; kernel_rfl)
theorem slot_next : PySem.Slot "itertools.combinations" "__next__" "itertools.combinations.__next__" :=
  .of (owner := "itertools.combinations") (n := "__next__") (by rw [typeLookup_type, builtinLookup_eq_fast]; kernel_rfl) (by decide +kernel) (by decide +kernel) (by decide +kernel)
    (by first | exact .inl (by decide +kernel) | exact .inr (by decide +kernel)) (by rw [isSubtype_type]; kernel_rfl)
theorem called : TypeCalled "itertools.combinations" "itertools.combinations.__new__" "object.__init__" :=
  ⟨by decide +kernel, by decide +kernel, ⟨_, _, mro_c⟩, madeBy_type mro_c lookup_new (by decide +kernel), by decide +kernel, by rw [isSubtype_type]; kernel_rfl, slot_init⟩
theorem typeCall (a b : Value) : checkTypeCall "itertools.combinations" ⟨[a, b], []⟩ = pure () := by kernel_rfl
theorem newCall (a b : Value) : checkBuiltinCall "itertools.combinations.__new__" ⟨[.type "itertools.combinations", a, b], []⟩ = pure () := by kernel_rfl
theorem entry_new : entryFor table "itertools.combinations.__new__" = some Builtin.«itertools.combinations.__new__» := entryFor_of_tree (by kernel_rfl)
theorem entry_next : entryFor table "itertools.combinations.__next__" = some Builtin.«itertools.combinations.__next__» := entryFor_of_tree (by kernel_rfl)
theorem entry_iter : entryFor table "itertools.combinations.__iter__" = some Builtin.«dict_keyiterator.__iter__» :=
  entryFor_alias (id' := "dict_keyiterator.__iter__") (by kernel_rfl) (by first | rfl | decide +kernel | (unfold String.splitOn; simp +decide [String.splitOnAux])) (by decide +kernel) (by kernel_rfl)
theorem sub_self : isSubtype (.type "itertools.combinations") (.type "itertools.combinations") = pure true := by rw [isSubtype_type]; kernel_rfl
end FC
end Ev
set_option maxHeartbeats 4000000
namespace Ev
open PySem PySem.Spec PyProof.Rows L2
namespace FC
theorem owner_c : Manifest.owners.lookup (String.ofList ("itertools.combinations".toList.reverse).reverse) = some Manifest.sig_itertools_combinations := by kernel_rfl
theorem args_next_1 (a : Value) : argsOk "itertools.combinations.__next__" ⟨[a], []⟩ := by
  unfold argsOk
  rw [signature?_of (id := "itertools.combinations.__next__") (n := ['_', '_', 't', 'x', 'e', 'n', '_', '_']) (o := ['s', 'n', 'o', 'i', 't', 'a', 'n', 'i', 'b', 'm', 'o', 'c', '.', 's', 'l', 'o', 'o', 't', 'r', 'e', 't', 'i']) (by kernel_rfl) owner_c]
  kernel_rfl
theorem args_iter_1 (a : Value) : argsOk "itertools.combinations.__iter__" ⟨[a], []⟩ := by
  unfold argsOk
  rw [signature?_of (id := "itertools.combinations.__iter__") (n := ['_', '_', 'r', 'e', 't', 'i', '_', '_']) (o := ['s', 'n', 'o', 'i', 't', 'a', 'n', 'i', 'b', 'm', 'o', 'c', '.', 's', 'l', 'o', 'o', 't', 'r', 'e', 't', 'i']) (by kernel_rfl) owner_c]
  kernel_rfl
end FC
/-- the places of the first, of the next one -/
def cmbNext (n : Nat) (indices : List Nat) : Option (List Nat) :=
  let r := indices.length
  match (List.range r).reverse.find? fun i => indices.getD i 0 != i + n - r with
  | none => none
  | some i => some (indices.take i ++ (List.range (r - i)).map (indices.getD i 0 + 1 + ·))
def cmbFs (pool : Value) (st : Int) (last : Value) (ix : List Nat) : Array Value := ([pool, rawInt st, last] ++ ix.map fun (i : Nat) => rawInt i).toArray
abbrev IsCmb (h : Heap) (z P : Addr) (st : Int) (last : Value) (ix : List Nat) : Prop :=
  h.get? z = some { cls := .type "itertools.combinations", dict := none, data := .fields (cmbFs (.ref P) st last ix), slots := #[] }
theorem cmb_new (p : Addr) (a b c : Int) (t u v tk0 : Tok) (n r : Nat) : Meets (Builtin.«itertools.combinations.__new__» ⟨[.type "itertools.combinations", .ref p, .int (r : Int) tk0], []⟩) (fun A R s =>
    A.handled = none ∧ IsRange s.heap p a b c t u v ∧ Builtin.Range.small a b c = true ∧ Builtin.Range.rangeSize a b c = n ∧ n ≤ 2 ^ 20 ∧ r ≤ 2 ^ 20 ∧
    ∀ (h' : Heap) (tk : Nat) (acc : Array Value), (∀ b o, s.heap.get? b = some o → h'.get? b = some o) → ItemsOf (fun i v => ∃ t, v = .int (a + i * c) t) acc n →
      R (.ok (.ret (.ref (h'.objs.size + 1)))) { s with heap := (h'.push { cls := .type "tuple", data := .seq acc }).push { cls := .type "itertools.combinations", dict := none, data := .fields (cmbFs (.ref h'.objs.size) (if r > n then 2 else 0) .none (List.range r)), slots := #[] }, toks := tk }) :=
  .of_wp fun prog w A R s ⟨hh, hr, hs, hn, hn2, hr2, h⟩ => by
    obtain ⟨hp, g, d, tk, os⟩ := s
    have hsub : isSubtype (.type "itertools.combinations") (.type ("itertools." ++ "combinations")) = pure true := FC.sub_self
    unfold Builtin.«itertools.combinations.__new__»
    wp_walk using collect_range hh hr hs hn (by omega)
    rw [if_neg (by simp; omega)]
    refine wpAny_pure ?_
    refine wpAny_bind (collect_range (A := A.in1) hh hr hs hn (by omega) fun h' tk1 acc hk hi => ?_)
    have hlen : acc.toList.length = n := by
      have := hi.1
      simpa using this
    have hr0 : ¬ ((r : Int) < 0) := by omega
    have hmany : Builtin.Itertools.itTooMany (r : Int) = false := by
      unfold Builtin.Itertools.itTooMany
      simp
      omega
    wp_walk
    have hsz : acc.toList.toArray.size ≤ sizeLine := by rw [sizeLine_eq]; simp at hlen ⊢; omega
    rw [if_neg (by omega)]
    wp_walk
    rw [hlen, Int.toNat_natCast]
    rw [if_neg (by rw [sizeLine_eq]; simp; omega)]
    wp_walk
    have q := h h' tk1 acc hk hi
    refine ⟨_, rfl, ?_⟩
    rw [Heap.size_push]
    exact q
end Ev
set_option maxHeartbeats 4000000
namespace Ev
open PySem PySem.Spec PyProof.Rows L2
section
variable {prog : Program} {w : World} {A : Around} {E : Value → Shared → Prop} {s : Shared} {z P : Addr} {last : Value} {ix nx : List Nat} {items : Array Value} {cn : Nat} {oP : Obj}
theorem cmb_nums {pool : Value} {st : Int} {last : Value} {ix : List Nat} (f : Value → Nat) (hf : ∀ (i : Int) (t : Tok), f (.int i t) = i.toNat) : ((cmbFs pool st last ix).toList.drop 3).map f = ix := by
  unfold cmbFs
  simp only [List.cons_append, List.nil_append, List.drop_succ_cons, List.drop_zero, List.map_map]
  have : (f ∘ fun i : Nat => rawInt (i : Int)) = id := by
    funext i
    show f (rawInt (i : Int)) = i
    unfold rawInt
    rw [hf]
    simp
  rw [this, List.map_id]
theorem cmb_first {Q : Value → Shared → Prop} (hz : IsCmb s.heap z P 0 last ix) (hP : s.heap.get? P = some oP) (hd : oP.data = .seq items cn) (hl : ix.length ≤ 1000)
    (hQ : ∀ h', IsCmb h' z P 1 (.ref s.heap.objs.size) ix → h'.get? s.heap.objs.size = some { cls := .type "tuple", data := .seq (ix.map fun i => items.getD i .none).toArray } → (∀ c o, c ≠ z → s.heap.get? c = some o → h'.get? c = some o) → Q (.ref s.heap.objs.size) { s with heap := h' }) :
    wpAny (model prog w) A (Builtin.«itertools.combinations.__next__» ⟨[.ref z], []⟩) (fun fin s' => ∃ v, fin = .done (.ret v) ∧ Q v s') E s := by
  obtain ⟨hp, g, d, tk0, os⟩ := s
  unfold Builtin.«itertools.combinations.__next__»
  wp_walk
  have hPz : P ≠ z := fun e => by
    subst e
    have e2 : some oP = some _ := hP.symm.trans hz
    cases e2
    cases hd
  have hz1 : IsCmb (hp.update z (Obj.mapFields fun x => x.setIfInBounds 1 (rawInt 1))) z P 1 last ix := by
    show Heap.get? _ z = _
    rw [Heap.get?_update_self _ hz rfl]
    simp [cmbFs, Obj.mapFields]
  have hs1 : Heap.SameBut z hp (hp.update z (Obj.mapFields fun x => x.setIfInBounds 1 (rawInt 1))) := Heap.SameBut.update ..
  generalize hp.update z (Obj.mapFields fun x => x.setIfInBounds 1 (rawInt 1)) = h1 at hz1 hs1 ⊢
  have hP1 : h1.get? P = some oP := hs1.extBut _ _ hPz hP
  refine wpAny_load hP1 ?_
  rw [hd]
  refine wpAny_pure (wpAny_pure ?_)
  rw [cmb_nums _ fun _ _ => rfl]
  refine wpAny_newTuple ?_ (by rw [List.length_map, sizeLine_eq]; omega)
  have hz2 : IsCmb (h1.push { cls := .type "tuple", data := .seq (ix.map fun i => items.getD i .none).toArray }) z P 1 last ix := Heap.get?_push_of_some _ hz1
  have hT2 : (h1.push { cls := .type "tuple", data := .seq (ix.map fun i => items.getD i .none).toArray }).get? h1.objs.size = some { cls := .type "tuple", data := .seq (ix.map fun i => items.getD i .none).toArray } := Heap.get?_push_size _ rfl
  have hk2 : ∀ c o, c ≠ z → hp.get? c = some o → (h1.push { cls := .type "tuple", data := .seq (ix.map fun i => items.getD i .none).toArray }).get? c = some o := fun c o hc e => Heap.get?_push_of_some _ (hs1.extBut _ _ hc e)
  have hzl : z < h1.objs.size := Heap.lt_size hz1
  have hsz : h1.objs.size = hp.objs.size := by rw [hs1.1]
  generalize h1.push _ = h2 at hz2 hT2 hk2 ⊢
  refine wpAny_bind (wpAny_field hz2 rfl (x := last) rfl ?_)
  refine wpAny_bind (wpAny_setField_rec hz2 (by simp [cmbFs]) fun h3 hz3 hs3 => ?_)
  refine wpAny_bind (wpAny_letGo ?_)
  refine wpAny_pure ⟨_, rfl, ?_⟩
  rw [hsz] at hT2 hz3 ⊢
  refine hQ h3 ?_ (hs3.extBut _ _ (by rw [← hsz]; exact Nat.ne_of_gt hzl) hT2) fun c o hc e => hs3.extBut _ _ hc (hk2 c o hc e)
  rw [IsCmb, hz3]
  simp [cmbFs]
end
end Ev
set_option maxHeartbeats 4000000
namespace Ev
open PySem PySem.Spec PyProof.Rows L2
section
variable {prog : Program} {w : World} {A : Around} {E : Value → Shared → Prop} {s : Shared} {z P : Addr} {last : Value} {ix nx : List Nat} {items : Array Value} {cn : Nat} {oP : Obj}
theorem cmb_more {Q : Value → Shared → Prop} (hz : IsCmb s.heap z P 1 last ix) (hP : s.heap.get? P = some oP) (hd : oP.data = .seq items cn) (hl : nx.length ≤ 1000) (hn : cmbNext items.size ix = some nx)
    (hQ : ∀ h', IsCmb h' z P 1 (.ref s.heap.objs.size) nx → h'.get? s.heap.objs.size = some { cls := .type "tuple", data := .seq (nx.map fun i => items.getD i .none).toArray } → (∀ c o, c ≠ z → s.heap.get? c = some o → h'.get? c = some o) → Q (.ref s.heap.objs.size) { s with heap := h' }) :
    wpAny (model prog w) A (Builtin.«itertools.combinations.__next__» ⟨[.ref z], []⟩) (fun fin s' => ∃ v, fin = .done (.ret v) ∧ Q v s') E s := by
  obtain ⟨hp, g, d, tk0, os⟩ := s
  have hPz : P ≠ z := fun e => by
    subst e
    have e2 : some oP = some _ := hP.symm.trans hz
    cases e2
    cases hd
  unfold Builtin.«itertools.combinations.__next__»
  wp_walk
  rw [hd]
  refine wpAny_pure (wpAny_pure ?_)
  rw [cmb_nums _ fun _ _ => rfl]
  split
  · rename_i next heq
    have e : some next = some nx := heq.symm.trans hn
    cases e
    wp_walk
    have hfs : ((cmbFs (.ref P) 1 last ix).extract 0 3 ++ (nx.map fun n : Nat => rawInt (n : Int)).toArray) = cmbFs (.ref P) 1 last nx := by
      unfold cmbFs
      simp
    have hpl : (Obj.mapFields (fun fs => fs.extract 0 3 ++ (nx.map fun n : Nat => rawInt (n : Int)).toArray) { cls := Value.type "itertools.combinations", data := Data.fields (cmbFs (Value.ref P) 1 last ix) }).data.pastItsLine = none := by
      show (Data.fields ((cmbFs (.ref P) 1 last ix).extract 0 3 ++ (nx.map fun n : Nat => rawInt (n : Int)).toArray)).pastItsLine = none
      rw [hfs]
      have : (cmbFs (.ref P) 1 last nx).size = nx.length + 3 := by unfold cmbFs; simp
      unfold Data.pastItsLine
      simp only [this]
      rw [if_neg (by rw [sizeLine_eq]; omega)]
    rw [hpl]
    refine wpAny_pure ?_
    have hz1 : IsCmb (hp.update z (Obj.mapFields fun fs => fs.extract 0 3 ++ (nx.map fun n : Nat => rawInt (n : Int)).toArray)) z P 1 last nx := by
      show Heap.get? _ z = _
      rw [Heap.get?_update_self _ hz rfl]
      simp [cmbFs, Obj.mapFields]
    have hs1 : Heap.SameBut z hp (hp.update z (Obj.mapFields fun fs => fs.extract 0 3 ++ (nx.map fun n : Nat => rawInt (n : Int)).toArray)) := Heap.SameBut.update ..
    generalize hp.update z (Obj.mapFields fun fs => fs.extract 0 3 ++ (nx.map fun n : Nat => rawInt (n : Int)).toArray) = h1 at hz1 hs1 ⊢
    have hP1 : h1.get? P = some oP := hs1.extBut _ _ hPz hP
    wp_walk
    rw [hd]
    refine wpAny_pure (wpAny_pure ?_)
    refine wpAny_newTuple ?_ (by rw [List.length_map, sizeLine_eq]; omega)
    have hz2 : IsCmb (h1.push { cls := .type "tuple", data := .seq (nx.map fun i => items.getD i .none).toArray }) z P 1 last nx := Heap.get?_push_of_some _ hz1
    have hT2 : (h1.push { cls := .type "tuple", data := .seq (nx.map fun i => items.getD i .none).toArray }).get? h1.objs.size = some { cls := .type "tuple", data := .seq (nx.map fun i => items.getD i .none).toArray } := Heap.get?_push_size _ rfl
    have hk2 : ∀ c o, c ≠ z → hp.get? c = some o → (h1.push { cls := .type "tuple", data := .seq (nx.map fun i => items.getD i .none).toArray }).get? c = some o := fun c o hc e => Heap.get?_push_of_some _ (hs1.extBut _ _ hc e)
    have hzl : z < h1.objs.size := Heap.lt_size hz1
    have hsz : h1.objs.size = hp.objs.size := by rw [hs1.1]
    generalize h1.push _ = h2 at hz2 hT2 hk2 ⊢
    refine wpAny_bind (wpAny_field hz2 rfl (x := last) rfl ?_)
    refine wpAny_bind (wpAny_setField_rec hz2 (by simp [cmbFs]) fun h3 hz3 hs3 => ?_)
    refine wpAny_bind (wpAny_letGo ?_)
    refine wpAny_pure ⟨_, rfl, ?_⟩
    rw [hsz] at hT2 hz3 ⊢
    refine hQ h3 ?_ (hs3.extBut _ _ (by rw [← hsz]; exact Nat.ne_of_gt hzl) hT2) fun c o hc e => hs3.extBut _ _ hc (hk2 c o hc e)
    rw [IsCmb, hz3]
    simp [cmbFs]
  · rename_i heq
    have e : none = some nx := heq.symm.trans hn
    cases e
theorem raise_new {a : Addr} {Q : PySem.Fin → Shared → Prop} (hh : A.handled = none) (h : E (.ref a) s) : wpAny (model prog w) A (raiseNew (.ref a)) Q E s := by
  simp only [raiseNew]
  refine wpAny_bind (wpAny_handled ?_)
  rw [hh]
  exact wpAny_bind (wpAny_pure (wpAny_throw h))
theorem cmb_over {Q : PySem.Fin → Shared → Prop} {st : Int} (hh : A.handled = none) (hz : IsCmb s.heap z P st last ix) (hP : s.heap.get? P = some oP) (hd : oP.data = .seq items cn) (hn : st = 2 ∨ (st = 1 ∧ cmbNext items.size ix = none))
    (hE : ∀ h' e, (∀ c o, c ≠ z → s.heap.get? c = some o → h'.get? c = some o) → (∃ o, h'.get? e = some o ∧ o.cls = .type "StopIteration") → E (.ref e) { s with heap := h' }) :
    wpAny (model prog w) A (Builtin.«itertools.combinations.__next__» ⟨[.ref z], []⟩) Q E s := by
  obtain ⟨hp, g, d, tk0, os⟩ := s
  have hPz : P ≠ z := fun e => by
    subst e
    have e2 : some oP = some _ := hP.symm.trans hz
    cases e2
    cases hd
  rcases hn with rfl | ⟨rfl, hn⟩
  · unfold Builtin.«itertools.combinations.__next__»
    wp_walk
    exact raise_new hh (hE _ _ (fun c o hc e => Heap.get?_push_of_some _ (Heap.get?_push_of_some _ e)) ⟨_, Heap.get?_push_size _ rfl, rfl⟩)
  · unfold Builtin.«itertools.combinations.__next__»
    wp_walk
    rw [hd]
    refine wpAny_pure (wpAny_pure ?_)
    rw [cmb_nums _ fun _ _ => rfl]
    split
    · rename_i next heq
      have e : some next = none := heq.symm.trans hn
      cases e
    · wp_walk
      have hs1 : Heap.SameBut z hp (hp.update z (Obj.mapFields fun x => x.setIfInBounds 1 (rawInt 2))) := Heap.SameBut.update ..
      exact raise_new hh (hE _ _ (fun c o hc e => Heap.get?_push_of_some _ (Heap.get?_push_of_some _ (hs1.extBut _ _ hc e))) ⟨_, Heap.get?_push_size _ rfl, rfl⟩)
end
end Ev
set_option maxHeartbeats 4000000
namespace Ev
open PySem PySem.Spec PyProof.Rows L2
/-! ### the row of all combinations -/
def cmb0 (n r : Nat) : Option (List Nat) := if r > n then none else some (List.range r)
def cmbAt (n : Nat) (c : Option (List Nat)) : Nat → Option (List Nat)
  | 0 => c
  | i + 1 => (cmbAt n c i).bind (cmbNext n)
def cmbGo (n : Nat) : Nat → Option (List Nat) → Option (List (List Nat))
  | _, none => some []
  | 0, some _ => none
  | f + 1, some ix => (cmbGo n f (cmbNext n ix)).map (ix :: ·)
theorem cmbAt_none (n : Nat) : ∀ i, cmbAt n none i = none
  | 0 => rfl
  | i + 1 => by
    show (cmbAt n none i).bind _ = none
    rw [cmbAt_none n i]
    rfl
theorem cmbAt_shift (n : Nat) (c : Option (List Nat)) : ∀ i, cmbAt n (c.bind (cmbNext n)) i = cmbAt n c (i + 1)
  | 0 => rfl
  | i + 1 => by
    show (cmbAt n (c.bind (cmbNext n)) i).bind _ = (cmbAt n c (i + 1)).bind _
    rw [cmbAt_shift n c i]
theorem cmbGo_at (n : Nat) : ∀ (f : Nat) (c : Option (List Nat)) (L : List (List Nat)), cmbGo n f c = some L → ∀ i : Nat, L[i]? = cmbAt n c i
  | f, none, L, h, i => by
    have : L = [] := by
      cases f <;> (unfold cmbGo at h; cases h; rfl)
    rw [this, cmbAt_none]
    rfl
  | 0, some ix, L, h, i => by unfold cmbGo at h; cases h
  | f + 1, some ix, L, h, i => by
    unfold cmbGo at h
    cases h2 : cmbGo n f (cmbNext n ix) with
    | none => rw [h2] at h; cases h
    | some M =>
      rw [h2] at h
      have e : ix :: M = L := Option.some.inj h
      subst e
      cases i with
      | zero => rfl
      | succ i =>
        rw [List.getElem?_cons_succ, cmbGo_at n f _ M h2 i]
        exact cmbAt_shift n (some ix) i
/-- all is in its bounds -/
def cmbOk (n : Nat) (L : List (List Nat)) : Bool := decide (L.length ≤ 1000000) && L.all fun ix => decide (ix.length ≤ 1000) && ix.all fun k => decide (k < n)
theorem cmbOk_at {n : Nat} {L : List (List Nat)} (h : cmbOk n L = true) {i : Nat} {ix : List Nat} (e : L[i]? = some ix) : ix.length ≤ 1000 ∧ ∀ k ∈ ix, k < n := by
  unfold cmbOk at h
  rw [Bool.and_eq_true, List.all_eq_true] at h
  have := h.2 ix (List.mem_of_getElem? e)
  rw [Bool.and_eq_true, List.all_eq_true] at this
  exact ⟨of_decide_eq_true this.1, fun k hk => of_decide_eq_true (this.2 k hk)⟩
def ItC (L : List (List Nat)) : It :=
  ⟨fun i _ => ∃ nx, L[i]? = some nx, fun i H v H' => ∃ T nx, L[i]? = some nx ∧ v = .ref T ∧ H T = none ∧ H' = upd H T (.tup (nx.map fun k : Nat => V.int (k : Int))), fun i _ => L[i]? = none⟩
def CPool (h : Heap) (P : Addr) (n : Nat) (items : Array Value) : Prop := (∃ oP cn, h.get? P = some oP ∧ oP.data = .seq items cn) ∧ items.size = n ∧ ∀ k : Nat, k < n → ∃ t, items[k]? = some (.int (k : Int) t)
def CSt (h : Heap) (z P : Addr) (n r : Nat) (items : Array Value) (L : List (List Nat)) (i : Nat) : Prop :=
  CPool h P n items ∧ ((i = 0 ∧ IsCmb h z P (if r > n then 2 else 0) .none (List.range r)) ∨ ∃ j last ix, i = j + 1 ∧ IsCmb h z P 1 last ix ∧ L[j]? = some ix)
section
variable {prog : Program} {w : World} {A : Around} {E : Value → Shared → Prop} {s : Shared} {z P : Addr} {n r i : Nat} {items : Array Value} {L : List (List Nat)}
theorem CSt.ty (h : CSt s.heap z P n r items L i) : s.TypeIs (.ref z) "itertools.combinations" := by
  rcases h.2 with ⟨_, q⟩ | ⟨_, _, _, _, q, _⟩
  · exact ⟨_, q, rfl⟩
  · exact ⟨_, q, rfl⟩
theorem cmb_pyNext {Q : Option Value → Shared → Prop} {nx : List Nat} (st : CSt s.heap z P n r items L i) (hL : ∀ i : Nat, L[i]? = cmbAt n (cmb0 n r) i) (hi : L[i]? = some nx) (hl : nx.length ≤ 1000)
    (hQ : ∀ h', CSt h' z P n r items L (i + 1) → h'.get? s.heap.objs.size = some { cls := .type "tuple", data := .seq (nx.map fun i => items.getD i .none).toArray } → (∀ c o, c ≠ z → s.heap.get? c = some o → h'.get? c = some o) → Q (some (.ref s.heap.objs.size)) { s with heap := h' }) :
    wpAny (model prog w) A (pyNext (.ref z)) Q E s := by
  have hTy := st.ty
  obtain ⟨⟨⟨oP, cn, hP, hd⟩, hsz, hit⟩, hz⟩ := st
  have hPz : P ≠ z := fun e => by
    subst e
    rcases hz with ⟨_, hz⟩ | ⟨_, _, _, _, hz, _⟩
    · have e2 : some oP = some _ := hP.symm.trans hz
      cases e2
      cases hd
    · have e2 : some oP = some _ := hP.symm.trans hz
      cases e2
      cases hd
  have fin : ∀ h', IsCmb h' z P 1 (.ref s.heap.objs.size) nx → h'.get? s.heap.objs.size = some { cls := .type "tuple", data := .seq (nx.map fun i => items.getD i .none).toArray } → (∀ c o, c ≠ z → s.heap.get? c = some o → h'.get? c = some o) → Q (some (.ref s.heap.objs.size)) { s with heap := h' } := fun h' q1 q2 q3 => hQ h' ⟨⟨⟨oP, cn, q3 P oP hPz hP, hd⟩, hsz, hit⟩, .inr ⟨i, _, nx, rfl, q1, hi⟩⟩ q2 q3
  unfold pyNext
  rcases hz with ⟨rfl, hz⟩ | ⟨j, last, ix, rfl, hz, hj⟩
  · have h0 : cmb0 n r = some nx := by rw [← hi, hL 0]; rfl
    unfold cmb0 at h0
    split at h0
    · cases h0
    · rename_i hrn
      cases h0
      rw [if_neg hrn] at hz
      exact wpAny_bind (wpAny_attempt (wpAny_callSpecial?_slot (name := Str.ofString "__next__") hTy FC.slot_next (wpAny_call_entry FC.slot_next hTy FC.entry_next
        (cmb_first hz hP hd hl fun h' q1 q2 q3 => wpAny_pure (fin h' q1 q2 q3)) (FC.args_next_1 _))))
  · have hn : cmbNext items.size ix = some nx := by
      rw [hsz]
      have := hL (j + 1)
      rw [hi] at this
      have h3 : cmbAt n (cmb0 n r) (j + 1) = (cmbAt n (cmb0 n r) j).bind (cmbNext n) := rfl
      rw [h3, ← hL j, hj] at this
      exact this.symm
    exact wpAny_bind (wpAny_attempt (wpAny_callSpecial?_slot (name := Str.ofString "__next__") hTy FC.slot_next (wpAny_call_entry FC.slot_next hTy FC.entry_next
        (cmb_more hz hP hd hl hn fun h' q1 q2 q3 => wpAny_pure (fin h' q1 q2 q3)) (FC.args_next_1 _))))
theorem cmb_pyEnd {Q : Option Value → Shared → Prop} (hh : A.handled = none) (st : CSt s.heap z P n r items L i) (hL : ∀ i : Nat, L[i]? = cmbAt n (cmb0 n r) i) (hi : L[i]? = none)
    (hQ : ∀ h', (∀ c o, c ≠ z → s.heap.get? c = some o → h'.get? c = some o) → Q none { s with heap := h' }) : wpAny (model prog w) A (pyNext (.ref z)) Q E s := by
  have hTy := st.ty
  obtain ⟨⟨⟨oP, cn, hP, hd⟩, hsz, hit⟩, hz⟩ := st
  unfold pyNext
  have key : ∃ (st : Int) (last : Value) (ix : List Nat), IsCmb s.heap z P st last ix ∧ (st = 2 ∨ (st = 1 ∧ cmbNext items.size ix = none)) := by
    rcases hz with ⟨rfl, hz⟩ | ⟨j, last, ix, rfl, hz, hj⟩
    · have h0 : cmb0 n r = none := by rw [← hi, hL 0]; rfl
      unfold cmb0 at h0
      split at h0
      · rename_i hrn
        rw [if_pos hrn] at hz
        exact ⟨_, _, _, hz, .inl rfl⟩
      · cases h0
    · refine ⟨_, _, _, hz, .inr ⟨rfl, ?_⟩⟩
      rw [hsz]
      have := hL (j + 1)
      rw [hi] at this
      have h3 : cmbAt n (cmb0 n r) (j + 1) = (cmbAt n (cmb0 n r) j).bind (cmbNext n) := rfl
      rw [h3, ← hL j, hj] at this
      exact this.symm
  obtain ⟨st, last, ix, hz, hn⟩ := key
  refine wpAny_bind (wpAny_attempt (wpAny_callSpecial?_slot (name := Str.ofString "__next__") hTy FC.slot_next (wpAny_call_entry FC.slot_next hTy FC.entry_next
    (cmb_over hh hz hP hd hn fun h' e hk he => ?_) (FC.args_next_1 _))))
  obtain ⟨o, ho, hc⟩ := he
  refine wpAny_bind (wpAny_isInstance (T := "StopIteration") (b := true) ⟨o, ho, hc⟩ isSubtype_stop ?_)
  exact wpAny_pure (hQ _ hk)
end
theorem turn_cmb {P : Program} {w : World} {K : PySem.W.Frag} {tg : Expr} {z p : Addr} {n r : Nat} {items : Array Value} {L : List (List Nat)} (hL : ∀ i : Nat, L[i]? = cmbAt n (cmb0 n r) i) (hok : cmbOk n L = true) :
    Turn P w K tg (ItC L) [z, p] z (fun i h => CSt h z p n r items L i) where
  mem := by simp
  obj := fun i h st c hc => by
    rcases (show c = z ∨ c = p by simpa using hc) with q | q <;> rw [q]
    · rcases st.2 with ⟨_, hz⟩ | ⟨_, _, _, _, hz, _⟩
      · exact ⟨_, hz, fun v q => nomatch q⟩
      · exact ⟨_, hz, fun v q => nomatch q⟩
    · obtain ⟨oP, cn, hP, hd⟩ := st.1.1
      exact ⟨oP, hP, fun v q => by rw [hd] at q; cases q⟩
  keep := fun i h h' st k => by
    obtain ⟨⟨⟨oP, cn, hP, hd⟩, hsz, hit⟩, hz⟩ := st
    refine ⟨⟨⟨oP, cn, k p (by simp) _ hP, hd⟩, hsz, hit⟩, ?_⟩
    rcases hz with ⟨e, hz⟩ | ⟨j, last, ix, e, hz, hj⟩
    · exact .inl ⟨e, k z (by simp) _ hz⟩
    · exact .inr ⟨j, last, ix, e, k z (by simp) _ hz, hj⟩
  item := by
    intro X hP hw hK hc i pins s σ H E I hf st hg
    subst hP hw hK
    obtain ⟨nx, hi⟩ := hg
    obtain ⟨hl, hlt⟩ := cmbOk_at hok hi
    obtain ⟨_, hsz, hit⟩ := st.1
    refine cmb_pyNext st hL hi hl fun h' st' hT hk => ?_
    have hz' : ∃ o, h'.get? z = some o ∧ o.cls = .type "itertools.combinations" ∧ ∃ vs, o.data = .fields vs := by
      rcases st'.2 with ⟨e, _⟩ | ⟨_, _, _, _, hz, _⟩
      · cases e
      · exact ⟨_, hz, rfl, _, rfl⟩
    obtain ⟨oz, hoz, hcz, vsz, hdz⟩ := hz'
    refine ⟨_, rfl, go_of (s := { s with heap := h' }) (n := "itertools.combinations") hoz hcz hdz (by decide) ?_⟩
    have new : ObjOk X.prog X.w (upd H s.heap.objs.size (.tup (nx.map fun k : Nat => V.int (k : Int)))) h' s.heap.objs.size (.tup (nx.map fun k : Nat => V.int (k : Int))) := by
      refine ⟨by show (nx.map _).length ≤ sizeLine; rw [List.length_map, sizeLine_eq]; omega, nx.map fun i => items.getD i .none, ?_, ⟨_, hT, rfl, _, rfl⟩⟩
      have q : ∀ l : List Nat, (∀ k ∈ l, k < n) → Vals (l.map fun k : Nat => V.int (k : Int)) (l.map fun i => items.getD i .none) := fun l => by
        induction l with
        | nil => exact fun _ => .nil
        | cons k l ih =>
          intro hk
          obtain ⟨t, ht⟩ := hit k (hk k List.mem_cons_self)
          refine .cons ⟨t, ?_⟩ (ih fun j hj => hk j (List.mem_cons_of_mem _ hj))
          show items.getD k .none = _
          rw [Array.getD_eq_getD_getElem?, ht]
          rfl
      exact q nx hlt
    have I1 : Inv X pins σ (upd H s.heap.objs.size (.tup (nx.map fun k : Nat => V.int (k : Int)))) { s with heap := h' } :=
      I.turnedNew (ch := [z, p]) (fun c o hb q => hk c o (fun w => hb (by simp [w])) q) hf (Nat.le_refl _) new
    have hzl : z < s.heap.objs.size := by
      rcases st.2 with ⟨_, hz⟩ | ⟨_, _, _, _, hz, _⟩
      · exact Heap.lt_size hz
      · exact Heap.lt_size hz
    have hpl : p < s.heap.objs.size := by
      obtain ⟨oP, cn, hP, hd⟩ := st.1.1
      exact Heap.lt_size hP
    refine ⟨.ref s.heap.objs.size, _, I1, rfl, ⟨_, nx, hi, rfl, I.hok.fresh (Nat.le_refl _), rfl⟩, st', fun c hcm => ?_⟩
    have hlt : c < s.heap.objs.size := by
      rcases (show c = z ∨ c = p by simpa using hcm) with q | q <;> rw [q]
      · exact hzl
      · exact hpl
    rw [upd_ne (Nat.ne_of_lt hlt)]
    exact (hf c hcm).1
  done := by
    intro X hP hw hK hc i pins s σ H E I hf st hg
    subst hP hw hK
    exact cmb_pyEnd (I.ok.hd hc) st hL hg fun h' hk => ⟨rfl, I.turnedL (t' := s.toks) (ch := [z, p]) (fun c o hb q => hk c o (fun w => hb (by simp [w])) q) hf⟩
  self := fun A i s Q E st h => by
    have hTy := CSt.ty (s := s) st
    refine wpAny_pyIter_slot hTy FC.slot_iter (wpAny_call_entry FC.slot_iter hTy FC.entry_iter ?_ ?_)
    · show wpAny _ _ (ret (.ref z)) _ _ s
      exact wpAny_pure ⟨_, rfl, "itertools.combinations", _, hTy, FC.slot_next.lookup, h⟩
    · exact FC.args_iter_1 _
end Ev
namespace Ev
open PySem L2 PyProof.Rows
/-! ### x, y = a, b stored by a tuple: what it holds stays one's own -/
section
variable {K : PySem.W.Frag} {c : Ctx} {σ : L2.St} {H : Hp}
theorem PostS.tup {F : Hp} {ρ : Ev.Env} {r : Res Flow} {D : Ends} (h : PostS K c F ρ σ H r D) : PostS K c F ρ σ H r { D with nx := fun σ' H' => D.nx σ' H' ∧ ∀ p ts, H' p = none → D.nx σ' (upd H' p (.tup ts)) } := by
  cases r with
  | no => exact h
  | ex x ρ' => exact h
  | ok fl ρ' =>
    cases fl with
    | brk => exact h
    | rt b => exact h
    | nx =>
      exact fun F' σ' H' R g => ⟨h F' σ' H' R g, fun p ts hp => h F' σ' _ (R.grow (fun a o e => e) (Ex.new hp) (fun a o e => Ex.new hp a o (R.ex a o e)) fun a h _ => h) (g.trans (GoE.grown c ρ' σ' (fun a o e => e) (Ex.new hp) fun a h _ => h).go)⟩
theorem tEv_mono {e : E} {Q Q' : VK} (h : tEv K c e σ H Q) (k : ∀ v H, Q v H → Q' v H) : tEv K c e σ H Q' := by
  obtain ⟨F, ρ, R, P⟩ := h
  exact ⟨F, ρ, R, P.imp fun F1 ρ1 H1 b R1 g q v hv => k v H1 (q v hv)⟩
end
end Ev
set_option maxHeartbeats 4000000
namespace Ev
open PySem PySem.Spec PyProof.Rows L2
theorem cr_range1 {X : Cx} : CallR X (.type "range") (fun vs H Q => ∃ j, vs = [V.int j] ∧ ∀ p, H p = none → Q (.ref p) (upd H p (.rng 0 j))) := by
  intro pins s σ H vs us Q I r h
  obtain ⟨j, rfl, q⟩ := h
  cases r with
  | cons r rr =>
    cases rr
    obtain ⟨t, rfl⟩ := r
    refine call_range_1 ⟨.ref s.heap.objs.size, upd H s.heap.objs.size (.rng 0 j), I.laid (t' := s.toks + 1 + 1) (fun b o e => Heap.get?_push_of_some _ e) (Nat.le_refl _) ?_, rfl, q _ (I.hok.fresh (Nat.le_refl _))⟩
    exact ⟨s.toks, t, s.toks + 1, Heap.get?_push_size _ rfl⟩
theorem call_cmb {prog : Program} {w : World} {A : Around} {E : Value → Shared → Prop} {s : Shared} {p : Addr} {n r : Nat} {t u v tk0 : Tok} {Q : Value → Shared → Prop} (hh : A.handled = none) (hr : IsRange s.heap p 0 n 1 t u v) (hn2 : n ≤ 2 ^ 20) (hr2 : r ≤ 1000)
    (h : ∀ (h' : Heap) (tk : Nat) (acc : Array Value), (∀ b o, s.heap.get? b = some o → h'.get? b = some o) → ItemsOf (fun i v => ∃ t, v = .int (0 + i * 1) t) acc n →
      Q (.ref (h'.objs.size + 1)) { s with heap := (h'.push { cls := .type "tuple", data := .seq acc }).push { cls := .type "itertools.combinations", dict := none, data := .fields (cmbFs (.ref h'.objs.size) (if r > n then 2 else 0) .none (List.range r)), slots := #[] }, toks := tk }) :
    wpAny (model prog w) A (call (.type "itertools.combinations") [.ref p, .int (r : Int) tk0]) Q E s := by
  refine callType_new FC.called (by decide) (FC.typeCall _ _) (FC.newCall _ _) (fun obj => F.args_object_init_3 obj _ _) FC.entry_new (cmb_new p 0 n 1 t u v tk0 n r) ⟨hh, hr, small_one (by omega) (by omega) (by omega) (by omega), ?_, hn2, by omega, fun h' tk acc hk hi => ?_⟩
  · rw [rangeSize_one]
    split <;> omega
  · refine ⟨⟨{ cls := .type "itertools.combinations", dict := none, data := .fields (cmbFs (.ref h'.objs.size) (if r > n then 2 else 0) .none (List.range r)), slots := #[] }, ?_, rfl⟩, h h' tk acc hk hi⟩
    have : (h'.push { cls := .type "tuple", data := .seq acc }).objs.size = h'.objs.size + 1 := Heap.size_push ..
    show Heap.get? _ (h'.objs.size + 1) = _
    rw [← this]
    exact Heap.get?_push_size _ rfl
def CMBFUEL : Nat := 1000000
def rCmb0 (K : PySem.W.Frag) : List V → Hp → (It → Hp → Prop) → Prop := fun vs H R => ∃ (q : Addr) (n r : Nat) (L : List (List Nat)), vs = [.ref q, .int (r : Int)] ∧ H q = some (.rng 0 (n : Int)) ∧ n ≤ 2 ^ 20 ∧ r ≤ 1000 ∧ cmbGo n CMBFUEL (cmb0 n r) = some L ∧ cmbOk n L = true ∧ R (ItC L) H
theorem pi_cmb0 {X : Cx} {e1 e2 : Expr} {x : Str} {ta : TA} {p p2 pos pos2 tpos : Pos} {nm : Str} (hc : X.calm = true) (hg : Gl X x) (hm : X.mg x = some (.type "itertools.combinations")) (ha : PA X [.Call (.Name "range" p2) [e1] [] pos2, e2] ta) (hdb : (x == ("__debug__" : Str)) = false := by decide)
    (hs : starEach [.Call (.Name "range" p2) [e1] [] pos2, e2] X.env = (false, eval (.Call (.Name "range" p2) [e1] [] pos2) X.env) :: starEach [e2] X.env := by rfl) (hpl : (backTo pos (starEach [e2] X.env)).any (·.1) = false := by rfl) :
    PI X (.Name nm tpos) (.Call (.Name x p) [.Call (.Name "range" p2) [e1] [] pos2, e2] [] pos) (tIA ta (rCmb0 X.K)) := by
  refine ⟨fun pins s σ H R I h => Call_ (ld_glob I hg hm (PyProof.Rows.callWith_type1 (thn (ha.run pos pins s σ H _ I h) fun us s1 ⟨vs, H1, I1, r1, q, n, r, L, ex, hq, hn, hr, hL, hok, hR⟩ => ?_) hs hpl) hdb)⟩
  subst ex
  obtain ⟨u1, u2, rfl, q1, q2⟩ : ∃ u1 u2, us = [u1, u2] ∧ RelV (.ref q) u1 ∧ RelV (.int (r : Int)) u2 := by
    cases r1 with
    | cons r t => cases t with
      | cons r' t => cases t; exact ⟨_, _, rfl, r, r'⟩
  cases q1
  obtain ⟨tk0, rfl⟩ := q2
  obtain ⟨t, u, v, hrng⟩ := I1.hok q _ hq
  refine call_cmb (I1.ok.hd hc) hrng hn hr fun h' tk acc hk hi => ?_
  have I2 : Inv X pins σ H1 { s1 with heap := h', toks := tk } := I1.kept (t' := tk) hk
  have e1 : (h'.push { cls := .type "tuple", data := .seq acc }).objs.size = h'.objs.size + 1 := Heap.size_push ..
  have gz : IsCmb ((h'.push { cls := .type "tuple", data := .seq acc }).push { cls := .type "itertools.combinations", dict := none, data := .fields (cmbFs (.ref h'.objs.size) (if r > n then 2 else 0) .none (List.range r)), slots := #[] }) (h'.objs.size + 1) h'.objs.size (if r > n then 2 else 0) .none (List.range r) := by
    show Heap.get? _ (h'.objs.size + 1) = _
    rw [← e1]
    exact Heap.get?_push_size _ rfl
  have gp : ((h'.push { cls := .type "tuple", data := .seq acc }).push { cls := .type "itertools.combinations", dict := none, data := .fields (cmbFs (.ref h'.objs.size) (if r > n then 2 else 0) .none (List.range r)), slots := #[] }).get? h'.objs.size = some { cls := .type "tuple", data := .seq acc } := Heap.get?_push_of_some _ (Heap.get?_push_size _ rfl)
  have st : CSt ((h'.push { cls := .type "tuple", data := .seq acc }).push { cls := .type "itertools.combinations", dict := none, data := .fields (cmbFs (.ref h'.objs.size) (if r > n then 2 else 0) .none (List.range r)), slots := #[] }) (h'.objs.size + 1) h'.objs.size n r acc L 0 := by
    refine ⟨⟨⟨_, _, gp, rfl⟩, hi.1, fun k hk => ?_⟩, .inl ⟨rfl, gz⟩⟩
    have hks : k < acc.size := by rw [hi.1]; exact hk
    obtain ⟨t, e⟩ := hi.2 k acc[k] (Array.getElem?_eq_getElem hks)
    exact ⟨t, by rw [Array.getElem?_eq_getElem hks, e]; simp⟩
  have T := turn_cmb (P := X.prog) (w := X.w) (K := X.K) (tg := .Name nm tpos) (z := h'.objs.size + 1) (p := h'.objs.size) (items := acc) (cmbGo_at n CMBFUEL _ L hL) hok
  have I3 : Inv X pins σ H1 { s1 with heap := (h'.push { cls := .type "tuple", data := .seq acc }).push { cls := .type "itertools.combinations", dict := none, data := .fields (cmbFs (.ref h'.objs.size) (if r > n then 2 else 0) .none (List.range r)), slots := #[] }, toks := tk } :=
    I2.kept (t' := tk) fun b o e => Heap.get?_push_of_some _ (Heap.get?_push_of_some _ e)
  refine T.self _ 0 _ _ _ st ⟨_, _, _, _, H1, rfl, I3, T, st, fun c hcm => ?_, hR⟩
  have hle : h'.objs.size ≤ c := by
    rcases (show c = h'.objs.size + 1 ∨ c = h'.objs.size by simpa using hcm) with z | z <;> rw [z]
    · exact Nat.le_add_right _ _
    · exact Nat.le_refl _
  exact I2.fpOk hle (I2.hok.fresh hle)
/-! ### in the evaluator -/
section
variable {K : PySem.W.Frag} {c : Ctx} {F F' H H' : Hp} {v w : V} {vs : List V} {d : D} {ds : List D} {σ : L2.St}
theorem cmb_go {a : E} {j : Nat} {Q : List V → Hp → Prop} (h : tEvA K c (.cons a (.cons (.var j) .nil)) σ H Q) : tEv K c a σ H fun x H1 => ∃ y, σ[j]? = some (some y) ∧ Q [x, y] H1 := by
  obtain ⟨F, ρ, R, P⟩ := h
  unfold evA at P
  refine tEv_bind R P fun F1 ρ1 H1 b v R1 g1 hb P1 => ?_
  unfold evA evE at P1
  split at P1
  · rename_i d e
    obtain ⟨y, w, q⟩ := R1.slot e
    refine ⟨y, w, P1 F1 H1 R1 g1 [v, y] (.cons hb (.cons q .nil fun _ z => by cases z) fun xs _ i ys z => ?_)⟩
    cases i with
    | zero => cases z
    | succ i => simp at z
  · rename_i xs e
    obtain ⟨y, us, w, q⟩ := R1.slot e
    refine ⟨_, w, P1 F1 H1 R1 g1 [v, _] (.cons hb (.cons ⟨_, e, rfl, w⟩ .nil fun _ z => by cases z) fun xs _ i ys z => ?_)⟩
    cases i with
    | zero => cases z
    | succ i => simp at z
  · rename_i xs e
    obtain ⟨y, us, w, q⟩ := R1.slot e
    refine ⟨_, w, P1 F1 H1 R1 g1 [v, _] (.cons hb (.cons ⟨_, e, rfl, w⟩ .nil fun _ z => by cases z) fun xs _ i ys z => ?_)⟩
    cases i with
    | zero => cases z
    | succ i => simp at z
  · exact P1.elim
def rCmb (K : PySem.W.Frag) : List V → Hp → (It → Hp → Prop) → Prop := fun vs H R => ∃ (n r : Nat) (L : List (List Nat)), vs = [.int (n : Int), .int (r : Int)] ∧ n ≤ 2 ^ 20 ∧ r ≤ 1000 ∧ cmbGo n CMBFUEL (cmb0 n r) = some L ∧ cmbOk n L = true ∧ ∀ p, H p = none → R (ItC L) (upd H p (.rng 0 (n : Int)))
theorem pi_cmb {X : Cx} {c : Ctx} {e1 e2 : Expr} {x : Str} {a : E} {j : Nat} {p p2 pos pos2 tpos : Pos} {nm : Str} (hc : X.calm = true) (hg : Gl X x) (hm : X.mg x = some (.type "itertools.combinations")) (hg2 : Gl X "range") (hm2 : X.mg "range" = none) (h1 : PEv X c e1 a) (h2 : PE X e2 (tVar j)) (hdb : (x == ("__debug__" : Str)) = false := by decide)
    (hs : starEach [.Call (.Name "range" p2) [e1] [] pos2, e2] X.env = (false, eval (.Call (.Name "range" p2) [e1] [] pos2) X.env) :: starEach [e2] X.env := by rfl) (hpl : (backTo pos (starEach [e2] X.env)).any (·.1) = false := by rfl)
    (hs1 : starEach [e1] X.env = (false, eval e1 X.env) :: starEach [] X.env := by rfl) (hs2 : starEach [e2] X.env = (false, eval e2 X.env) :: starEach [] X.env := by rfl) :
    PI X (.Name nm tpos) (.Call (.Name x p) [.Call (.Name "range" p2) [e1] [] pos2, e2] [] pos) (tIA (tEvA X.K c (.cons a (.cons (.var j) .nil))) (rCmb X.K)) := by
  have hr : PE X (.Call (.Name "range" p2) [e1] [] pos2) _ := pe_callTy (p := p2) (pos := pos2) cr_range1 hg2 hm2 boot_range (pa_cons h1 pa_nil hs1) (he := hs1)
  have q := pi_cmb0 (nm := nm) (tpos := tpos) (p := p) (pos := pos) hc hg hm (pa_cons hr (pa_cons h2 pa_nil hs2) hs) hdb hs hpl
  refine ⟨fun pins s σ H R I h => q.run pins s σ H R I ?_⟩
  have h3 := cmb_go h
  refine tEv_mono h3 fun x H1 h4 => ?_
  obtain ⟨y, hy, n, r, L, e, hn, hr, hL, hok, hR⟩ := h4
  cases e
  refine ⟨(n : Int), rfl, fun p hp => ⟨_, hy, p, n, r, L, rfl, upd_same, hn, hr, hL, hok, hR p hp⟩⟩
def itCmb : List D → Option (List D)
  | [.int n, .int r] => if 0 ≤ n ∧ n ≤ 1000000 ∧ 0 ≤ r ∧ r ≤ 1000 then match cmbGo n.toNat CMBFUEL (cmb0 n.toNat r.toNat) with
    | some L => if cmbOk n.toNat L = true then some (L.map fun ix => .tup (ix.map fun k : Nat => D.int (k : Int))) else none
    | none => none
    else none
  | _ => none
theorem den_nats : ∀ ix : List Nat, DenL K c.CL F (ix.map fun k : Nat => V.int (k : Int)) (ix.map fun k : Nat => D.int (k : Int))
  | [] => .nil
  | k :: ix => .cons (.int _) (den_nats ix)
theorem j_cmb {L : List (List Nat)} {F0 : Hp} : JOk K c F0 vs ds (ItC L) (L.map fun ix => .tup (ix.map fun k : Nat => D.int (k : Int))) := fun F H i _ x _ => by
  refine ⟨fun d e => ?_, fun h => ?_⟩
  · rw [List.getElem?_map] at e
    cases hL : L[i]? with
    | none => rw [hL] at e; cases e
    | some nx =>
      rw [hL] at e
      cases e
      refine ⟨⟨nx, hL⟩, fun v H' y => ?_⟩
      obtain ⟨T, nx', h1, rfl, hT, rfl⟩ := y
      rw [hL] at h1
      cases h1
      have hF : F T = none := by
        cases z : F T with
        | none => rfl
        | some o => rw [x T o z] at hT; cases hT
      have f : Ex F (upd F T (.tup (nx.map fun k : Nat => V.int (k : Int)))) := Ex.new hF
      exact ⟨_, f, Ex.new hT, Ex.both x, fun a e1 e2 => by rw [upd_ne fun z => by subst z; exact e2.ne hT]; exact e1, .tup upd_same (den_nats nx)⟩
  · rw [List.length_map] at h
    show L[i]? = none
    exact List.getElem?_eq_none h
theorem i_cmb : IterV K c (rCmb K) itCmb := fun F H vs ds items R x V e k => by
  unfold itCmb at e
  split at e
  · rename_i n r
    split at e
    · rename_i hb
      split at e
      · rename_i L hL
        split at e
        · rename_i hok
          cases e
          obtain ⟨v, w, rfl, hv, hw⟩ := V.two
          cases hv
          cases hw
          obtain ⟨b0, b1, b2, b3⟩ := hb
          refine ⟨n.toNat, r.toNat, L, by rw [Int.toNat_of_nonneg b0, Int.toNat_of_nonneg b2], by omega, by omega, hL, hok, fun p hp => ?_⟩
          exact k _ F _ (Ex.refl _) (Ex.new hp) (x.trans (Ex.new hp)) (fun a e1 _ => e1) j_cmb
        · cases e
      · cases e
    · cases e
  · cases e
end
end Ev
set_option maxHeartbeats 4000000
namespace Ev
open PySem L2
def top (i : Nat) : Stmt := PySem.Challenge.pw_lightfirst_k10_whole_rings_of_small_webs.main.body.getD i (.Pass ⟨0, 0, 0, 0⟩)
abbrev st_is_integer : Stmt := top 6
abbrev N_is_integer : List Str := ["thing"]
abbrev st_is_within : Stmt := top 7
abbrev N_is_within : List Str := ["least", "most", "thing"]
abbrev st_is_lot : Stmt := top 8
abbrev N_is_lot : List Str := ["many", "thing", "last", "number"]
abbrev st_is_prime : Stmt := top 11
abbrev N_is_prime : List Str := ["thing", "k"]
abbrev st_is_values : Stmt := top 12
abbrev N_is_values : List Str := ["prime", "many", "thing", "value"]
abbrev st_is_sum : Stmt := top 13
abbrev N_is_sum : List Str := ["prime", "width", "thing"]
abbrev st_width_of : Stmt := top 14
abbrev N_width_of : List Str := ["sums"]
abbrev st_inverse : Stmt := top 15
abbrev N_inverse : List Str := ["prime", "value", "old", "new", "old_times", "new_times", "often"]
abbrev st_reduced : Stmt := top 16
abbrev N_reduced : List Str := ["prime", "rows", "values", "rest", "place", "row", "times", "value", "lead"]
abbrev st_leading : Stmt := top 17
abbrev N_leading : List Str := ["prime", "width", "values", "place", "times", "value"]
abbrev st_marked : Stmt := top 18
abbrev N_marked : List Str := ["sums", "many", "at", "values", "k"]
abbrev st_nought_of : Stmt := top 19
abbrev N_nought_of : List Str := ["prime", "sums", "width", "rows", "values", "rest", "row"]
abbrev st_is_pair : Stmt := top 24
abbrev N_is_pair : List Str := ["prime", "many", "thing"]
abbrev st_i_Web : Stmt := inClass (top 25) 0
abbrev N_i_Web : List Str := ["self", "prime", "many", "pieces", "number", "piece"]
abbrev st_is_lot_of : Stmt := top 26
abbrev N_is_lot_of : List Str := ["web", "thing"]
abbrev st_sum_of : Stmt := top 27
abbrev N_sum_of : List Str := ["web", "piece"]
abbrev st_sums_of : Stmt := top 28
abbrev N_sums_of : List Str := ["web", "lot", "piece"]
abbrev st_closing : Stmt := top 31
abbrev N_closing : List Str := ["web", "lot", "values"]
abbrev st_is_ring : Stmt := top 32
abbrev N_is_ring : List Str := ["web", "thing"]
abbrev st_all_rings : Stmt := top 33
abbrev N_all_rings : List Str := ["web", "found", "fewest", "lot"]
abbrev st_law_tape : Stmt := top 35
abbrev N_law_tape : List Str := ["_law_script"]
abbrev st_law_pick : Stmt := top 36
abbrev N_law_pick : List Str := ["_law_tape_here", "_law_many", "_law_digit", "_law_cell", "_law_mixed_here"]
abbrev st_law_any : Stmt := top 37
abbrev N_law_any : List Str := ["_law_tape_here", "_law_things"]
abbrev st_law_mixed : Stmt := top 38
abbrev N_law_mixed : List Str := ["_law_tape_here", "_law_things", "_law_left", "_law_at"]
abbrev st_law_inverse : Stmt := top 39
abbrev N_law_inverse : List Str := ["_law_prime", "_law_value", "_law_other"]
abbrev st_law_less : Stmt := top 40
abbrev N_law_less : List Str := ["_law_prime", "_law_row", "_law_times", "_law_lead", "_law_one", "_law_other"]
abbrev st_law_rank : Stmt := top 41
abbrev N_law_rank : List Str := ["_law_prime", "_law_rows", "_law_left", "_law_found", "_law_place", "_law_at", "_law_lead", "_law_turn", "_law_row", "_law_index"]
abbrev st_law_sum : Stmt := top 42
abbrev N_law_sum : List Str := ["_law_tape_here", "_law_prime", "_law_many", "_law_kind", "_law_one", "_law_found", "_law_place"]
abbrev st_law_pieces : Stmt := top 43
abbrev N_law_pieces : List Str := ["_law_tape_here", "_law_prime", "_law_many", "_law_count", "_law_sizes", "_law_found", "_law_number", "_law_told"]
abbrev st_law_small : Stmt := top 44
abbrev N_law_small : List Str := ["_law_tape_here", "_law_most", "_law_prime", "_law_many"]
abbrev st_law_in : Stmt := top 45
abbrev N_law_in : List Str := ["_law_told", "_law_lot", "_law_piece"]
abbrev st_law_leans : Stmt := top 46
abbrev N_law_leans : List Str := ["_law_told", "_law_lot"]
abbrev st_law_lots : Stmt := top 47
abbrev N_law_lots : List Str := ["_law_many", "_law_found", "_law_number", "_law_lot"]
abbrev st_law_holds : Stmt := top 48
abbrev N_law_holds : List Str := ["_law_lot", "_law_other", "_law_piece"]
abbrev st_law_odd : Stmt := top 49
abbrev N_law_odd : List Str := ["_law_tape_here"]
abbrev st_law_long : Stmt := top 50
abbrev N_law_long : List Str := ["_law_tape_here", "_law_prime", "_law_many", "_law_pieces_here", "_law_version", "_law_place"]
abbrev st_law_rings : Stmt := top 51
abbrev N_law_rings : List Str := ["_law_told", "_law_found", "_law_lot", "_law_loop"]
abbrev st_law : Stmt := top 52
abbrev N_law : List Str := ["_law_script", "_law_tape_here", "_law_turn", "_law_told", "_law_web", "_law_due", "_law_lot"]
structure Facts (K : PySem.W.Frag) (mg : Str → Option Value) where
  a_is_integer : Addr
  d_is_integer : FuncData
  f_is_integer : Fun K "is_integer" "is_integer" st_is_integer a_is_integer d_is_integer
  m_is_integer : mg "is_integer" = some (.ref a_is_integer)
  b_is_integer : Binds K d_is_integer ["thing"] []
  a_is_within : Addr
  d_is_within : FuncData
  f_is_within : Fun K "is_within" "is_within" st_is_within a_is_within d_is_within
  m_is_within : mg "is_within" = some (.ref a_is_within)
  b_is_within : Binds K d_is_within ["least", "most", "thing"] []
  a_is_lot : Addr
  d_is_lot : FuncData
  f_is_lot : Fun K "is_lot" "is_lot" st_is_lot a_is_lot d_is_lot
  m_is_lot : mg "is_lot" = some (.ref a_is_lot)
  b_is_lot : Binds K d_is_lot ["many", "thing"] []
  a_is_prime : Addr
  d_is_prime : FuncData
  f_is_prime : Fun K "is_prime" "is_prime" st_is_prime a_is_prime d_is_prime
  m_is_prime : mg "is_prime" = some (.ref a_is_prime)
  b_is_prime : Binds K d_is_prime ["thing"] []
  a_is_values : Addr
  d_is_values : FuncData
  f_is_values : Fun K "is_values" "is_values" st_is_values a_is_values d_is_values
  m_is_values : mg "is_values" = some (.ref a_is_values)
  b_is_values : Binds K d_is_values ["prime", "many", "thing"] []
  a_is_sum : Addr
  d_is_sum : FuncData
  f_is_sum : Fun K "is_sum" "is_sum" st_is_sum a_is_sum d_is_sum
  m_is_sum : mg "is_sum" = some (.ref a_is_sum)
  b_is_sum : Binds K d_is_sum ["prime", "width", "thing"] []
  a_width_of : Addr
  d_width_of : FuncData
  f_width_of : Fun K "width_of" "width_of" st_width_of a_width_of d_width_of
  m_width_of : mg "width_of" = some (.ref a_width_of)
  b_width_of : Binds K d_width_of ["sums"] []
  a_inverse : Addr
  d_inverse : FuncData
  f_inverse : Fun K "inverse" "inverse" st_inverse a_inverse d_inverse
  m_inverse : mg "inverse" = some (.ref a_inverse)
  b_inverse : Binds K d_inverse ["prime", "value"] []
  a_reduced : Addr
  d_reduced : FuncData
  f_reduced : Fun K "reduced" "reduced" st_reduced a_reduced d_reduced
  m_reduced : mg "reduced" = some (.ref a_reduced)
  b_reduced : Binds K d_reduced ["prime", "rows", "values"] []
  a_leading : Addr
  d_leading : FuncData
  f_leading : Fun K "leading" "leading" st_leading a_leading d_leading
  m_leading : mg "leading" = some (.ref a_leading)
  b_leading : Binds K d_leading ["prime", "width", "values"] []
  a_marked : Addr
  d_marked : FuncData
  f_marked : Fun K "marked" "marked" st_marked a_marked d_marked
  m_marked : mg "marked" = some (.ref a_marked)
  b_marked : Binds K d_marked ["sums"] []
  a_nought_of : Addr
  d_nought_of : FuncData
  f_nought_of : Fun K "nought_of" "nought_of" st_nought_of a_nought_of d_nought_of
  m_nought_of : mg "nought_of" = some (.ref a_nought_of)
  b_nought_of : Binds K d_nought_of ["prime", "sums"] []
  a_is_pair : Addr
  d_is_pair : FuncData
  f_is_pair : Fun K "is_pair" "is_pair" st_is_pair a_is_pair d_is_pair
  m_is_pair : mg "is_pair" = some (.ref a_is_pair)
  b_is_pair : Binds K d_is_pair ["prime", "many", "thing"] []
  q_Web : Addr
  m_Web : mg "Web" = some (.ref q_Web)
  a_i_Web : Addr
  d_i_Web : FuncData
  f_i_Web : Fun K "__init__" "Web.__init__" st_i_Web a_i_Web d_i_Web
  mk_Web : Mk K q_Web a_i_Web
  cl_Web : L2.Cls K q_Web
  na_Web_prime : NoAttr K q_Web "prime"
  na_Web_many : NoAttr K q_Web "many"
  na_Web_pieces : NoAttr K q_Web "pieces"
  o_Web : IsOut K q_Web
  bi_Web : Binds K d_i_Web ["self", "prime", "many", "pieces"] []
  a_is_lot_of : Addr
  d_is_lot_of : FuncData
  f_is_lot_of : Fun K "is_lot_of" "is_lot_of" st_is_lot_of a_is_lot_of d_is_lot_of
  m_is_lot_of : mg "is_lot_of" = some (.ref a_is_lot_of)
  b_is_lot_of : Binds K d_is_lot_of ["web", "thing"] []
  a_sum_of : Addr
  d_sum_of : FuncData
  f_sum_of : Fun K "sum_of" "sum_of" st_sum_of a_sum_of d_sum_of
  m_sum_of : mg "sum_of" = some (.ref a_sum_of)
  b_sum_of : Binds K d_sum_of ["web", "piece"] []
  a_sums_of : Addr
  d_sums_of : FuncData
  f_sums_of : Fun K "sums_of" "sums_of" st_sums_of a_sums_of d_sums_of
  m_sums_of : mg "sums_of" = some (.ref a_sums_of)
  b_sums_of : Binds K d_sums_of ["web", "lot"] []
  a_closing : Addr
  d_closing : FuncData
  f_closing : Fun K "closing" "closing" st_closing a_closing d_closing
  m_closing : mg "closing" = some (.ref a_closing)
  b_closing : Binds K d_closing ["web", "lot"] []
  a_is_ring : Addr
  d_is_ring : FuncData
  f_is_ring : Fun K "is_ring" "is_ring" st_is_ring a_is_ring d_is_ring
  m_is_ring : mg "is_ring" = some (.ref a_is_ring)
  b_is_ring : Binds K d_is_ring ["web", "thing"] []
  a_all_rings : Addr
  d_all_rings : FuncData
  f_all_rings : Fun K "all_rings" "all_rings" st_all_rings a_all_rings d_all_rings
  m_all_rings : mg "all_rings" = some (.ref a_all_rings)
  b_all_rings : Binds K d_all_rings ["web"] []
  a_law_tape : Addr
  d_law_tape : FuncData
  f_law_tape : Fun K "_law_tape" "_law_tape" st_law_tape a_law_tape d_law_tape
  m_law_tape : mg "_law_tape" = some (.ref a_law_tape)
  b_law_tape : Binds K d_law_tape ["_law_script"] []
  a_law_pick : Addr
  d_law_pick : FuncData
  f_law_pick : Fun K "_law_pick" "_law_pick" st_law_pick a_law_pick d_law_pick
  m_law_pick : mg "_law_pick" = some (.ref a_law_pick)
  b_law_pick : Binds K d_law_pick ["_law_tape_here", "_law_many"] []
  a_law_any : Addr
  d_law_any : FuncData
  f_law_any : Fun K "_law_any" "_law_any" st_law_any a_law_any d_law_any
  m_law_any : mg "_law_any" = some (.ref a_law_any)
  b_law_any : Binds K d_law_any ["_law_tape_here", "_law_things"] []
  a_law_mixed : Addr
  d_law_mixed : FuncData
  f_law_mixed : Fun K "_law_mixed" "_law_mixed" st_law_mixed a_law_mixed d_law_mixed
  m_law_mixed : mg "_law_mixed" = some (.ref a_law_mixed)
  b_law_mixed : Binds K d_law_mixed ["_law_tape_here", "_law_things"] []
  a_law_inverse : Addr
  d_law_inverse : FuncData
  f_law_inverse : Fun K "_law_inverse" "_law_inverse" st_law_inverse a_law_inverse d_law_inverse
  m_law_inverse : mg "_law_inverse" = some (.ref a_law_inverse)
  b_law_inverse : Binds K d_law_inverse ["_law_prime", "_law_value"] []
  a_law_less : Addr
  d_law_less : FuncData
  f_law_less : Fun K "_law_less" "_law_less" st_law_less a_law_less d_law_less
  m_law_less : mg "_law_less" = some (.ref a_law_less)
  b_law_less : Binds K d_law_less ["_law_prime", "_law_row", "_law_times", "_law_lead"] []
  a_law_rank : Addr
  d_law_rank : FuncData
  f_law_rank : Fun K "_law_rank" "_law_rank" st_law_rank a_law_rank d_law_rank
  m_law_rank : mg "_law_rank" = some (.ref a_law_rank)
  b_law_rank : Binds K d_law_rank ["_law_prime", "_law_rows"] []
  a_law_sum : Addr
  d_law_sum : FuncData
  f_law_sum : Fun K "_law_sum" "_law_sum" st_law_sum a_law_sum d_law_sum
  m_law_sum : mg "_law_sum" = some (.ref a_law_sum)
  b_law_sum : Binds K d_law_sum ["_law_tape_here", "_law_prime", "_law_many"] []
  a_law_pieces : Addr
  d_law_pieces : FuncData
  f_law_pieces : Fun K "_law_pieces" "_law_pieces" st_law_pieces a_law_pieces d_law_pieces
  m_law_pieces : mg "_law_pieces" = some (.ref a_law_pieces)
  b_law_pieces : Binds K d_law_pieces ["_law_tape_here", "_law_prime", "_law_many", "_law_count", "_law_sizes"] []
  a_law_small : Addr
  d_law_small : FuncData
  f_law_small : Fun K "_law_small" "_law_small" st_law_small a_law_small d_law_small
  m_law_small : mg "_law_small" = some (.ref a_law_small)
  b_law_small : Binds K d_law_small ["_law_tape_here", "_law_most"] []
  a_law_in : Addr
  d_law_in : FuncData
  f_law_in : Fun K "_law_in" "_law_in" st_law_in a_law_in d_law_in
  m_law_in : mg "_law_in" = some (.ref a_law_in)
  b_law_in : Binds K d_law_in ["_law_told", "_law_lot"] []
  a_law_leans : Addr
  d_law_leans : FuncData
  f_law_leans : Fun K "_law_leans" "_law_leans" st_law_leans a_law_leans d_law_leans
  m_law_leans : mg "_law_leans" = some (.ref a_law_leans)
  b_law_leans : Binds K d_law_leans ["_law_told", "_law_lot"] []
  a_law_lots : Addr
  d_law_lots : FuncData
  f_law_lots : Fun K "_law_lots" "_law_lots" st_law_lots a_law_lots d_law_lots
  m_law_lots : mg "_law_lots" = some (.ref a_law_lots)
  b_law_lots : Binds K d_law_lots ["_law_many"] []
  a_law_holds : Addr
  d_law_holds : FuncData
  f_law_holds : Fun K "_law_holds" "_law_holds" st_law_holds a_law_holds d_law_holds
  m_law_holds : mg "_law_holds" = some (.ref a_law_holds)
  b_law_holds : Binds K d_law_holds ["_law_lot", "_law_other"] []
  a_law_odd : Addr
  d_law_odd : FuncData
  f_law_odd : Fun K "_law_odd" "_law_odd" st_law_odd a_law_odd d_law_odd
  m_law_odd : mg "_law_odd" = some (.ref a_law_odd)
  b_law_odd : Binds K d_law_odd ["_law_tape_here"] []
  a_law_long : Addr
  d_law_long : FuncData
  f_law_long : Fun K "_law_long" "_law_long" st_law_long a_law_long d_law_long
  m_law_long : mg "_law_long" = some (.ref a_law_long)
  b_law_long : Binds K d_law_long ["_law_tape_here"] []
  a_law_rings : Addr
  d_law_rings : FuncData
  f_law_rings : Fun K "_law_rings" "_law_rings" st_law_rings a_law_rings d_law_rings
  m_law_rings : mg "_law_rings" = some (.ref a_law_rings)
  b_law_rings : Binds K d_law_rings ["_law_told"] []
  a_law : Addr
  d_law : FuncData
  f_law : Fun K "law" "law" st_law a_law d_law
  m_law : mg "law" = some (.ref a_law)
  b_law : Binds K d_law ["_law_script"] []
  z_abs : mg "abs" = none
  z_all : mg "all" = none
  z_any : mg "any" = none
  z_bool : mg "bool" = none
  t_MOST_PIECES_rings : Tok
  c_MOST_PIECES_rings : mg "MOST_PIECES_rings" = some (.int 12 t_MOST_PIECES_rings)
  t_MOST_PIECES_webs : Tok
  c_MOST_PIECES_webs : mg "MOST_PIECES_webs" = some (.int 40 t_MOST_PIECES_webs)
  t_MOST_PRIME : Tok
  c_MOST_PRIME : mg "MOST_PRIME" = some (.int 251 t_MOST_PRIME)
  t_MOST_SIZE : Tok
  c_MOST_SIZE : mg "MOST_SIZE" = some (.int 1000000 t_MOST_SIZE)
  t_MOST_VERSIONS : Tok
  c_MOST_VERSIONS : mg "MOST_VERSIONS" = some (.int 10 t_MOST_VERSIONS)
  z_enumerate : mg "enumerate" = none
  i_combinations : mg "combinations" = some (.type "itertools.combinations")
  z_int : mg "int" = none
  z_isinstance : mg "isinstance" = none
  z_len : mg "len" = none
  z_list : mg "list" = none
  z_range : mg "range" = none
  z_sorted : mg "sorted" = none
  z_tuple : mg "tuple" = none
  z_zip : mg "zip" = none
def ir_is_integer : Ss := .cons (.ret (.and (.prim fIsi (.cons (.var 0) (.cons (.con (.ty "int")) (.nil)))) (.notb (.prim fIsi (.cons (.var 0) (.cons (.con (.ty "bool")) (.nil))))))) (.nil)
def F_is_integer : Fn := runFn0 N_is_integer.length ir_is_integer
def ir_is_within : Ss := .cons (.ret (.and (.call F_is_integer (.cons (.var 2) (.nil))) (.chain fLe fLe (.var 0) (.var 2) (.var 1)))) (.nil)
def F_is_within : Fn := runFn0 N_is_within.length ir_is_within
def ir_is_lot : Ss := .cons (.ite (.not (.e (.prim (fIsiO 0) (.cons (.var 1) (.cons (.con (.ty "tuple")) (.nil)))))) (.cons (.ret (.con (.bl false))) (.nil)) (.nil)) (.cons (.asg (.n 2) (.prim fNeg (.cons (.con (.int 1)) .nil))) (.cons (.for (.n 3) itSeq (.cons (.var 1) .nil) (.cons (.ite (.not (.e (.call F_is_within (.cons (.prim fAdd (.cons (.var 2) (.cons (.con (.int 1)) .nil))) (.cons (.prim fSub (.cons (.var 0) (.cons (.con (.int 1)) .nil))) (.cons (.var 3) (.nil))))))) (.cons (.ret (.con (.bl false))) (.nil)) (.nil)) (.cons (.asg (.n 2) (.var 3)) (.nil)))) (.cons (.ret (.con (.bl true))) (.nil))))
def F_is_lot : Fn := runFn0 N_is_lot.length ir_is_lot
def ir_is_prime : Ss := .cons (.ret (.and (.call F_is_within (.cons (.con (.int 2)) (.cons (.con (.int 251)) (.cons (.var 0) (.nil))))) (.prim fAll (.cons (.lc [1] (.n 1) itRange2 (.cons (.con (.int 2)) (.cons (.con (.int 16)) (.nil))) (.some (.eb (.prim fLe (.cons (.prim fMul (.cons (.var 1) (.cons (.var 1) .nil))) (.cons (.var 0) .nil))))) (.prim fNe (.cons (.prim fMod (.cons (.var 0) (.cons (.var 1) .nil))) (.cons (.con (.int 0)) .nil)))) (.nil))))) (.nil)
def F_is_prime : Fn := runFn0 N_is_prime.length ir_is_prime
def ir_is_values : Ss := .cons (.ite (.or (.not (.e (.prim fIsi (.cons (.var 2) (.cons (.con (.ty "tuple")) (.nil)))))) (.eb (.prim fNe (.cons (.prim fLen (.cons (.var 2) (.nil))) (.cons (.var 1) .nil))))) (.cons (.ret (.con (.bl false))) (.nil)) (.nil)) (.cons (.ret (.prim fAll (.cons (.lc [3] (.n 3) itSeq (.cons (.var 2) .nil) .none (.call F_is_within (.cons (.con (.int 0)) (.cons (.prim fSub (.cons (.var 0) (.cons (.con (.int 1)) .nil))) (.cons (.var 3) (.nil)))))) (.nil)))) (.nil))
def F_is_values : Fn := runFn0 N_is_values.length ir_is_values
def ir_is_sum : Ss := .cons (.ret (.and (.call F_is_values (.cons (.var 0) (.cons (.var 1) (.cons (.var 2) (.nil))))) (.prim fNe (.cons (.var 2) (.cons (.prim fMul (.cons (.tup (.cons (.con (.int 0)) (.nil))) (.cons (.var 1) .nil))) .nil))))) (.nil)
def F_is_sum : Fn := runFn0 N_is_sum.length ir_is_sum
def ir_width_of : Ss := .cons (.ite (.eb (.prim fEq (.cons (.prim fLen (.cons (.var 0) (.nil))) (.cons (.con (.int 0)) .nil)))) (.cons (.ret (.con (.int 0))) (.nil)) (.nil)) (.cons (.ret (.prim fLen (.cons (.prim fIx (.cons (.var 0) (.cons (.con (.int 0)) .nil))) (.nil)))) (.nil))
def F_width_of : Fn := runFn0 N_width_of.length ir_width_of
def ir_inverse : Ss := .cons (.par 2 3 (.var 0) (.var 1)) (.cons (.asg (.t [4, 5]) (.tup (.cons (.con (.int 0)) (.cons (.con (.int 1)) (.nil))))) (.cons (.while (.eb (.prim fNe (.cons (.var 3) (.cons (.con (.int 0)) .nil)))) (.cons (.asg (.n 6) (.prim fDiv (.cons (.var 2) (.cons (.var 3) .nil)))) (.cons (.par 2 3 (.var 3) (.prim fSub (.cons (.var 2) (.cons (.prim fMul (.cons (.var 6) (.cons (.var 3) .nil))) .nil)))) (.cons (.par 4 5 (.var 5) (.prim fSub (.cons (.var 4) (.cons (.prim fMul (.cons (.var 6) (.cons (.var 5) .nil))) .nil)))) (.nil))))) (.cons (.ret (.prim fMod (.cons (.var 4) (.cons (.var 0) .nil)))) (.nil))))
def F_inverse : Fn := runFn0 N_inverse.length ir_inverse
def ir_reduced : Ss := .cons (.asg (.n 3) (.prim fList (.cons (.var 2) (.nil)))) (.cons (.for (.t [4, 5]) itSeq (.cons (.var 1) .nil) (.cons (.asg (.n 6) (.prim fIx (.cons (.var 3) (.cons (.var 4) .nil)))) (.cons (.ite (.eb (.prim fNe (.cons (.var 6) (.cons (.con (.int 0)) .nil)))) (.cons (.asg (.n 3) (.lc [7, 8] (.t [7, 8]) itZipM (.cons (.var 3) (.cons (.var 5) (.nil))) .none (.prim fMod (.cons (.prim fSub (.cons (.var 7) (.cons (.prim fMul (.cons (.var 6) (.cons (.var 8) .nil))) .nil))) (.cons (.var 0) .nil))))) (.nil)) (.nil)) (.nil)))) (.cons (.ret (.var 3)) (.nil)))
def F_reduced : Fn := runFn0 N_reduced.length ir_reduced
def ir_leading : Ss := .cons (.for (.n 3) itRange1 (.cons (.var 1) (.nil)) (.cons (.ite (.eb (.prim fNe (.cons (.prim fIx (.cons (.var 2) (.cons (.var 3) .nil))) (.cons (.con (.int 0)) .nil)))) (.cons (.asg (.n 4) (.call F_inverse (.cons (.var 0) (.cons (.prim fIx (.cons (.var 2) (.cons (.var 3) .nil))) (.nil))))) (.cons (.ret (.tup (.cons (.var 3) (.cons (.lc [5] (.n 5) itSeq (.cons (.var 2) .nil) .none (.prim fMod (.cons (.prim fMul (.cons (.var 5) (.cons (.var 4) .nil))) (.cons (.var 0) .nil)))) (.nil))))) (.nil))) (.nil)) (.nil))) (.cons (.ret (.con .non)) (.nil))
def F_leading : Fn := runFn0 N_leading.length ir_leading
def ir_marked : Ss := .cons (.asg (.n 1) (.prim fLen (.cons (.var 0) (.nil)))) (.cons (.ret (.lc [2, 3] (.t [2, 3]) itEnumA (.cons (.var 0) (.nil)) .none (.prim fAdd (.cons (.prim fList (.cons (.var 3) (.nil))) (.cons (.lc [4] (.n 4) itRange1 (.cons (.var 1) (.nil)) .none (.prim fInt (.cons (.prim fEq (.cons (.var 4) (.cons (.var 2) .nil))) (.nil)))) .nil))))) (.nil))
def F_marked : Fn := runFn0 N_marked.length ir_marked
def ir_nought_of : Ss := .cons (.asg (.n 2) (.call F_width_of (.cons (.var 1) (.nil)))) (.cons (.asg (.n 3) (.lst (.nil))) (.cons (.for (.n 4) itSeq (.cons (.call F_marked (.cons (.var 1) (.nil))) .nil) (.cons (.asg (.n 5) (.call F_reduced (.cons (.var 0) (.cons (.var 3) (.cons (.var 4) (.nil)))))) (.cons (.asg (.n 6) (.call F_leading (.cons (.var 0) (.cons (.var 2) (.cons (.var 5) (.nil)))))) (.cons (.ite (.eb (.prim fIsN (.cons (.var 6) (.cons (.con .non) .nil)))) (.cons (.ret (.prim fTuple (.cons (.prim fCutL (.cons (.var 5) (.cons (.var 2) .nil))) (.nil)))) (.nil)) (.nil)) (.cons (.ex (.mut mAppend 3 (.cons (.var 6) (.nil)))) (.nil)))))) (.cons (.ret (.con .non)) (.nil))))
def F_nought_of : Fn := runFn0 N_nought_of.length ir_nought_of
def ir_is_pair : Ss := .cons (.ite (.or (.not (.e (.prim fIsi (.cons (.var 2) (.cons (.con (.ty "tuple")) (.nil)))))) (.eb (.prim fNe (.cons (.prim fLen (.cons (.var 2) (.nil))) (.cons (.con (.int 2)) .nil))))) (.cons (.ret (.con (.bl false))) (.nil)) (.nil)) (.cons (.ret (.and (.call F_is_sum (.cons (.var 0) (.cons (.var 1) (.cons (.prim fIx (.cons (.var 2) (.cons (.con (.int 0)) .nil))) (.nil))))) (.call F_is_within (.cons (.con (.int 1)) (.cons (.con (.int 1000000)) (.cons (.prim fIx (.cons (.var 2) (.cons (.con (.int 1)) .nil))) (.nil))))))) (.nil))
def F_is_pair : Fn := runFn0 N_is_pair.length ir_is_pair
def ir_i_Web : Ss := .cons (.ite (.not (.e (.call F_is_prime (.cons (.var 1) (.nil))))) (.cons (.never) (.nil)) (.nil)) (.cons (.ite (.not (.e (.call F_is_within (.cons (.con (.int 1)) (.cons (.con (.int 10)) (.cons (.var 2) (.nil))))))) (.cons (.never) (.nil)) (.nil)) (.cons (.ite (.or (.not (.e (.prim fIsi (.cons (.var 3) (.cons (.con (.ty "tuple")) (.nil)))))) (.eb (.prim fGt (.cons (.prim fLen (.cons (.var 3) (.nil))) (.cons (.con (.int 40)) .nil))))) (.cons (.never) (.nil)) (.nil)) (.cons (.for (.t [4, 5]) itEnumA (.cons (.var 3) (.nil)) (.cons (.ite (.not (.e (.call F_is_pair (.cons (.var 1) (.cons (.var 2) (.cons (.var 5) (.nil))))))) (.cons (.never) (.nil)) (.nil)) (.nil))) (.nil))))
def F_i_Web : Fn := mkFn N_i_Web.length ir_i_Web [1, 2, 3] 1000 0
abbrev fs_Web : List Str := ["prime", "many", "pieces"]
def ir_is_lot_of : Ss := .cons (.ret (.call F_is_lot (.cons (.prim fLen (.cons (.prim (fFld 0 2) (.cons (.var 0) .nil)) (.nil))) (.cons (.var 1) (.nil))))) (.nil)
def F_is_lot_of : Fn := runFn0 N_is_lot_of.length ir_is_lot_of
def ir_sum_of : Ss := .cons (.ret (.prim fIx (.cons (.prim fIx (.cons (.prim (fFld 0 2) (.cons (.var 0) .nil)) (.cons (.var 1) .nil))) (.cons (.con (.int 0)) .nil)))) (.nil)
def F_sum_of : Fn := runFn0 N_sum_of.length ir_sum_of
def ir_sums_of : Ss := .cons (.ret (.prim fTuple (.cons (.lc [2] (.n 2) itSeq (.cons (.var 1) .nil) .none (.call F_sum_of (.cons (.var 0) (.cons (.var 2) (.nil))))) (.nil)))) (.nil)
def F_sums_of : Fn := runFn0 N_sums_of.length ir_sums_of
def ir_closing : Ss := .cons (.asg (.n 2) (.call F_nought_of (.cons (.prim (fFld 0 0) (.cons (.var 0) .nil)) (.cons (.call F_sums_of (.cons (.var 0) (.cons (.var 1) (.nil)))) (.nil))))) (.cons (.ite (.or (.eb (.prim fIsN (.cons (.var 2) (.cons (.con .non) .nil)))) (.eb (.prim fInM (.cons (.con (.int 0)) (.cons (.var 2) .nil))))) (.cons (.ret (.con .non)) (.nil)) (.nil)) (.cons (.ret (.var 2)) (.nil)))
def F_closing : Fn := runFn0 N_closing.length ir_closing
def ir_is_ring : Ss := .cons (.ret (.and (.call F_is_lot_of (.cons (.var 0) (.cons (.var 1) (.nil)))) (.prim fNotN (.cons (.call F_closing (.cons (.var 0) (.cons (.var 1) (.nil)))) (.cons (.con .non) .nil))))) (.nil)
def F_is_ring : Fn := runFn0 N_is_ring.length ir_is_ring
def ir_all_rings : Ss := .cons (.ite (.eb (.prim fGt (.cons (.prim fLen (.cons (.prim (fFld 0 2) (.cons (.var 0) .nil)) (.nil))) (.cons (.con (.int 12)) .nil)))) (.cons (.never) (.nil)) (.nil)) (.cons (.asg (.n 1) (.lst (.nil))) (.cons (.for (.n 2) itRange2 (.cons (.con (.int 2)) (.cons (.prim fAdd (.cons (.prim (fFld 0 1) (.cons (.var 0) .nil)) (.cons (.con (.int 2)) .nil))) (.nil))) (.cons (.for (.n 3) itCmb (.cons (.prim fLen (.cons (.prim (fFld 0 2) (.cons (.var 0) .nil)) (.nil))) (.cons (.var 2) (.nil))) (.cons (.ite (.eb (.prim fNotN (.cons (.call F_closing (.cons (.var 0) (.cons (.var 3) (.nil)))) (.cons (.con .non) .nil)))) (.cons (.ex (.mut mAppend 1 (.cons (.var 3) (.nil)))) (.nil)) (.nil)) (.nil))) (.nil))) (.cons (.ret (.var 1)) (.nil))))
def F_all_rings : Fn := runFn0 N_all_rings.length ir_all_rings
def ir_law_tape : Ss := .cons (.ret (.lst (.cons (.prim fList (.cons (.var 0) (.nil))) (.cons (.con (.int 0)) (.cons (.con (.int 0)) (.cons (.con (.int 1)) (.cons (.con (.int 0)) (.nil)))))))) (.nil)
def F_law_tape : Fn := runFn0 N_law_tape.length ir_law_tape
def ir_law_pick : Ss := .cons (.ite (.eb (.prim fGt (.cons (.prim fIx (.cons (.var 0) (.cons (.con (.int 2)) .nil))) (.cons (.con (.int 1)) .nil)))) (.cons (.asg (.n 2) (.prim fMod (.cons (.prim fInt (.cons (.prim fIx (.cons (.var 0) (.cons (.con (.int 2)) .nil))) (.nil))) (.cons (.var 1) .nil)))) (.cons (.seti 0 (.con (.int 2)) (.prim fDiv (.cons (.prim fIx (.cons (.var 0) (.cons (.con (.int 2)) .nil))) (.cons (.var 1) .nil)))) (.cons (.ret (.var 2)) (.nil)))) (.nil)) (.cons (.seti 0 (.con (.int 4)) (.prim fAdd (.cons (.prim fIx (.cons (.var 0) (.cons (.con (.int 4)) .nil))) (.cons (.con (.int 1)) .nil)))) (.cons (.asg (.n 3) (.con (.int 0))) (.cons (.ite (.eb (.prim fLt (.cons (.prim fIx (.cons (.var 0) (.cons (.con (.int 1)) .nil))) (.cons (.prim fLen (.cons (.prim fIx (.cons (.var 0) (.cons (.con (.int 0)) .nil))) (.nil))) .nil)))) (.cons (.asg (.n 3) (.prim fAbs (.cons (.prim fInt (.cons (.prim fIx (.cons (.prim fIx (.cons (.var 0) (.cons (.con (.int 0)) .nil))) (.cons (.prim fIx (.cons (.var 0) (.cons (.con (.int 1)) .nil))) .nil))) (.nil))) (.nil)))) (.cons (.seti 0 (.con (.int 1)) (.prim fAdd (.cons (.prim fIx (.cons (.var 0) (.cons (.con (.int 1)) .nil))) (.cons (.con (.int 1)) .nil)))) (.nil))) (.nil)) (.cons (.ite (.eb (.prim fGe (.cons (.var 3) (.cons (.prim fPow (.cons (.con (.int 10)) (.cons (.con (.int 18)) .nil))) .nil)))) (.cons (.seti 0 (.con (.int 2)) (.prim fDiv (.cons (.var 3) (.cons (.var 1) .nil)))) (.cons (.ret (.prim fMod (.cons (.prim fInt (.cons (.var 3) (.nil))) (.cons (.var 1) .nil)))) (.nil))) (.nil)) (.cons (.asg (.n 4) (.prim fInt (.cons (.prim fAdd (.cons (.prim fMul (.cons (.prim fIx (.cons (.var 0) (.cons (.con (.int 3)) .nil))) (.cons (.con (.int 48271)) .nil))) (.cons (.prim fMod (.cons (.prim fInt (.cons (.var 3) (.nil))) (.cons (.con (.int 2147483629)) .nil))) .nil))) (.nil)))) (.cons (.asg (.n 4) (.prim fMod (.cons (.prim fInt (.cons (.prim fAdd (.cons (.var 4) (.cons (.prim fMul (.cons (.prim fIx (.cons (.var 0) (.cons (.con (.int 4)) .nil))) (.cons (.con (.int 69621)) .nil))) .nil))) (.nil))) (.cons (.con (.int 2147483647)) .nil)))) (.cons (.asg (.n 4) (.prim fMod (.cons (.prim fInt (.cons (.prim fMul (.cons (.var 4) (.cons (.prim fAdd (.cons (.prim fDiv (.cons (.var 4) (.cons (.con (.int 1009)) .nil))) (.cons (.con (.int 40692)) .nil))) .nil))) (.nil))) (.cons (.con (.int 2147483399)) .nil)))) (.cons (.seti 0 (.con (.int 3)) (.var 4)) (.cons (.ret (.prim fMod (.cons (.prim fInt (.cons (.prim fDiv (.cons (.var 4) (.cons (.con (.int 16)) .nil))) (.nil))) (.cons (.var 1) .nil)))) (.nil))))))))))
def F_law_pick : Fn := runFn0 N_law_pick.length ir_law_pick
def ir_law_any : Ss := .cons (.ret (.prim fIx (.cons (.var 1) (.cons (.call F_law_pick (.cons (.var 0) (.cons (.prim fLen (.cons (.var 1) (.nil))) (.nil)))) .nil)))) (.nil)
def F_law_any : Fn := runFn0 N_law_any.length ir_law_any
def ir_law_mixed : Ss := .cons (.asg (.n 2) (.prim fList (.cons (.var 1) (.nil)))) (.cons (.ret (.lc [3] (.n 3) itRange1 (.cons (.prim fLen (.cons (.var 1) (.nil))) (.nil)) .none (.mut mPopAt 2 (.cons (.call F_law_pick (.cons (.var 0) (.cons (.prim fLen (.cons (.var 2) (.nil))) (.nil)))) (.nil))))) (.nil))
def F_law_mixed : Fn := runFn0 N_law_mixed.length ir_law_mixed
def ir_law_inverse : Ss := .cons (.for (.n 2) itRange1 (.cons (.var 0) (.nil)) (.cons (.ite (.eb (.prim fEq (.cons (.prim fMod (.cons (.prim fInt (.cons (.prim fMul (.cons (.var 1) (.cons (.var 2) .nil))) (.nil))) (.cons (.var 0) .nil))) (.cons (.con (.int 1)) .nil)))) (.cons (.ret (.var 2)) (.nil)) (.nil)) (.nil))) (.cons (.ret (.con (.int 0))) (.nil))
def F_law_inverse : Fn := runFn0 N_law_inverse.length ir_law_inverse
def ir_law_less : Ss := .cons (.ret (.lc [4, 5] (.t [4, 5]) itZipM (.cons (.var 1) (.cons (.var 3) (.nil))) .none (.prim fMod (.cons (.prim fInt (.cons (.prim fSub (.cons (.var 4) (.cons (.prim fMul (.cons (.var 2) (.cons (.var 5) .nil))) .nil))) (.nil))) (.cons (.var 0) .nil))))) (.nil)
def F_law_less : Fn := runFn0 N_law_less.length ir_law_less
def ir_law_rank : Ss := .cons (.par 2 3 (.lc [8] (.n 8) itSeq (.cons (.var 1) .nil) .none (.prim fList (.cons (.var 8) (.nil)))) (.con (.int 0))) (.cons (.for (.n 4) itRange1 (.cons (.ite (.eb (.prim fGt (.cons (.prim fLen (.cons (.var 2) (.nil))) (.cons (.con (.int 0)) .nil)))) (.prim fLen (.cons (.prim fIx (.cons (.var 2) (.cons (.con (.int 0)) .nil))) (.nil))) (.con (.int 0))) (.nil)) (.cons (.asg (.n 5) (.lc [9, 8] (.t [9, 8]) itEnumA (.cons (.var 2) (.nil)) (.some (.eb (.prim fNe (.cons (.prim fIx (.cons (.var 8) (.cons (.var 4) .nil))) (.cons (.con (.int 0)) .nil))))) (.var 9))) (.cons (.ite (.eb (.prim fGt (.cons (.prim fLen (.cons (.var 5) (.nil))) (.cons (.con (.int 0)) .nil)))) (.cons (.asg (.n 6) (.mut mPopAt 2 (.cons (.prim fIx (.cons (.var 5) (.cons (.con (.int 0)) .nil))) (.nil)))) (.cons (.asg (.n 7) (.call F_law_inverse (.cons (.var 0) (.cons (.prim fIx (.cons (.var 6) (.cons (.var 4) .nil))) (.nil))))) (.cons (.asg (.n 2) (.lc [8] (.n 8) itSeq (.cons (.var 2) .nil) .none (.call F_law_less (.cons (.var 0) (.cons (.var 8) (.cons (.prim fMod (.cons (.prim fInt (.cons (.prim fMul (.cons (.prim fIx (.cons (.var 8) (.cons (.var 4) .nil))) (.cons (.var 7) .nil))) (.nil))) (.cons (.var 0) .nil))) (.cons (.var 6) (.nil)))))))) (.cons (.asg (.n 3) (.prim fAdd (.cons (.var 3) (.cons (.con (.int 1)) .nil)))) (.nil))))) (.nil)) (.nil)))) (.cons (.ret (.var 3)) (.nil)))
def F_law_rank : Fn := runFn0 N_law_rank.length ir_law_rank
def ir_law_sum : Ss := .cons (.par 3 4 (.call F_law_pick (.cons (.var 0) (.cons (.con (.int 5)) (.nil)))) (.call F_law_pick (.cons (.var 0) (.cons (.var 2) (.nil))))) (.cons (.asg (.n 5) (.prim fMul (.cons (.lst (.cons (.con (.int 0)) (.nil))) (.cons (.var 2) .nil)))) (.cons (.ite (.or (.eb (.prim fLt (.cons (.var 3) (.cons (.con (.int 2)) .nil)))) (.eb (.prim fEq (.cons (.var 2) (.cons (.con (.int 1)) .nil))))) (.cons (.seti 5 (.var 4) (.ite (.eb (.prim fLt (.cons (.var 3) (.cons (.con (.int 2)) .nil)))) (.con (.int 1)) (.prim fAdd (.cons (.con (.int 1)) (.cons (.call F_law_pick (.cons (.var 0) (.cons (.prim fSub (.cons (.var 1) (.cons (.con (.int 1)) .nil))) (.nil)))) .nil))))) (.cons (.ret (.prim fTuple (.cons (.var 5) (.nil)))) (.nil))) (.nil)) (.cons (.ite (.eb (.prim fEq (.cons (.var 3) (.cons (.con (.int 2)) .nil)))) (.cons (.seti2 5 (.var 4) (.prim fMod (.cons (.prim fAdd (.cons (.prim fAdd (.cons (.var 4) (.cons (.con (.int 1)) .nil))) (.cons (.call F_law_pick (.cons (.var 0) (.cons (.prim fSub (.cons (.var 2) (.cons (.con (.int 1)) .nil))) (.nil)))) .nil))) (.cons (.var 2) .nil))) (.tup (.cons (.con (.int 1)) (.cons (.prim fSub (.cons (.var 1) (.cons (.con (.int 1)) .nil))) (.nil))))) (.cons (.ret (.prim fTuple (.cons (.var 5) (.nil)))) (.nil))) (.nil)) (.cons (.asg (.n 5) (.lc [6] (.n 6) itRange1 (.cons (.var 2) (.nil)) .none (.ite (.eb (.prim fGt (.cons (.call F_law_pick (.cons (.var 0) (.cons (.con (.int 3)) (.nil)))) (.cons (.con (.int 0)) .nil)))) (.call F_law_pick (.cons (.var 0) (.cons (.var 1) (.nil)))) (.con (.int 0))))) (.cons (.seti 5 (.var 4) (.prim fAdd (.cons (.con (.int 1)) (.cons (.call F_law_pick (.cons (.var 0) (.cons (.prim fSub (.cons (.var 1) (.cons (.con (.int 1)) .nil))) (.nil)))) .nil)))) (.cons (.ret (.prim fTuple (.cons (.var 5) (.nil)))) (.nil)))))))
def F_law_sum : Fn := runFn0 N_law_sum.length ir_law_sum
def ir_law_pieces : Ss := .cons (.asg (.n 5) (.lst (.nil))) (.cons (.for (.n 6) itRange1 (.cons (.var 3) (.nil)) (.cons (.asg (.n 7) (.call F_law_sum (.cons (.var 0) (.cons (.var 1) (.cons (.var 2) (.nil)))))) (.cons (.ite (.and (.eb (.prim fGt (.cons (.var 6) (.cons (.con (.int 0)) .nil)))) (.eb (.prim fEq (.cons (.call F_law_pick (.cons (.var 0) (.cons (.con (.int 7)) (.nil)))) (.cons (.con (.int 0)) .nil))))) (.cons (.asg (.n 7) (.prim fIx (.cons (.prim fIx (.cons (.var 5) (.cons (.call F_law_pick (.cons (.var 0) (.cons (.var 6) (.nil)))) .nil))) (.cons (.con (.int 0)) .nil)))) (.nil)) (.nil)) (.cons (.ex (.mut mAppend 5 (.cons (.tup (.cons (.var 7) (.cons (.prim fAdd (.cons (.con (.int 1)) (.cons (.call F_law_pick (.cons (.var 0) (.cons (.var 4) (.nil)))) .nil))) (.nil)))) (.nil)))) (.nil))))) (.cons (.ret (.var 5)) (.nil)))
def F_law_pieces : Fn := runFn0 N_law_pieces.length ir_law_pieces
def ir_law_small : Ss := .cons (.par 2 3 (.call F_law_any (.cons (.var 0) (.cons (.lst (.cons (.con (.int 2)) (.cons (.con (.int 2)) (.cons (.con (.int 3)) (.cons (.con (.int 5)) (.cons (.con (.int 251)) (.nil))))))) (.nil)))) (.prim fAdd (.cons (.con (.int 1)) (.cons (.call F_law_pick (.cons (.var 0) (.cons (.con (.int 4)) (.nil)))) .nil)))) (.cons (.ret (.tup (.cons (.var 2) (.cons (.var 3) (.cons (.call F_law_pieces (.cons (.var 0) (.cons (.var 2) (.cons (.var 3) (.cons (.prim fAdd (.cons (.con (.int 1)) (.cons (.call F_law_pick (.cons (.var 0) (.cons (.var 1) (.nil)))) .nil))) (.cons (.call F_law_any (.cons (.var 0) (.cons (.lst (.cons (.con (.int 2)) (.cons (.con (.int 4)) (.cons (.con (.int 9)) (.cons (.prim fPow (.cons (.con (.int 10)) (.cons (.con (.int 6)) .nil))) (.nil)))))) (.nil)))) (.nil))))))) (.nil)))))) (.nil))
def F_law_small : Fn := runFn0 N_law_small.length ir_law_small
def ir_law_in : Ss := .cons (.ret (.call F_law_rank (.cons (.prim fIx (.cons (.var 0) (.cons (.con (.int 0)) .nil))) (.cons (.lc [2] (.n 2) itSeq (.cons (.var 1) .nil) .none (.prim fIx (.cons (.prim fIx (.cons (.prim fIx (.cons (.var 0) (.cons (.con (.int 2)) .nil))) (.cons (.var 2) .nil))) (.cons (.con (.int 0)) .nil)))) (.nil))))) (.nil)
def F_law_in : Fn := runFn0 N_law_in.length ir_law_in
def ir_law_leans : Ss := .cons (.ret (.prim fEq (.cons (.call F_law_in (.cons (.var 0) (.cons (.var 1) (.nil)))) (.cons (.prim fLen (.cons (.var 1) (.nil))) .nil)))) (.nil)
def F_law_leans : Fn := runFn0 N_law_leans.length ir_law_leans
def ir_law_lots : Ss := .cons (.asg (.n 1) (.lst (.cons (.tup (.nil)) (.nil)))) (.cons (.for (.n 2) itRange1 (.cons (.var 0) (.nil)) (.cons (.asg (.n 1) (.prim fAdd (.cons (.var 1) (.cons (.lc [3] (.n 3) itSeq (.cons (.var 1) .nil) .none (.prim fAdd (.cons (.var 3) (.cons (.tup (.cons (.var 2) (.nil))) .nil)))) .nil)))) (.nil))) (.cons (.ret (.sortk sortBy (.cons (.var 1) (.nil)) 3 (.tup (.cons (.prim fLen (.cons (.var 3) (.nil))) (.cons (.var 3) (.nil)))))) (.nil)))
def F_law_lots : Fn := runFn0 N_law_lots.length ir_law_lots
def ir_law_holds : Ss := .cons (.ret (.prim fAll (.cons (.lc [2] (.n 2) itSeq (.cons (.var 1) .nil) .none (.prim fInM (.cons (.var 2) (.cons (.var 0) .nil)))) (.nil)))) (.nil)
def F_law_holds : Fn := runFn0 N_law_holds.length ir_law_holds
def ir_law_odd : Ss := .cons (.ret (.call F_law_any (.cons (.var 0) (.cons (.lst (.cons (.con .non) (.cons (.con (.int 0)) (.cons (.con (.str "0")) (.cons (.lst (.cons (.con (.int 0)) (.nil))) (.cons (.tup (.cons (.con (.bl true)) (.nil))) (.cons (.tup (.cons (.con (.int 1)) (.cons (.con (.int 0)) (.nil)))) (.cons (.tup (.cons (.con (.int 0)) (.cons (.con (.int 0)) (.nil)))) (.cons (.tup (.cons (.prim fNeg (.cons (.con (.int 1)) .nil)) (.nil))) (.cons (.tup (.cons (.con (.int 99)) (.nil))) (.cons (.tup (.cons (.tup (.cons (.con (.int 0)) (.nil))) (.nil))) (.cons (.dnew) (.cons (.tup (.cons (.con (.int 0)) (.cons (.con .non) (.nil)))) (.nil)))))))))))))) (.nil))))) (.nil)
def F_law_odd : Fn := runFn0 N_law_odd.length ir_law_odd
def ir_law_long : Ss := .cons (.asg (.t [1, 2]) (.tup (.cons (.call F_law_any (.cons (.var 0) (.cons (.lst (.cons (.con (.int 2)) (.cons (.con (.int 3)) (.nil)))) (.nil)))) (.cons (.prim fAdd (.cons (.con (.int 7)) (.cons (.call F_law_pick (.cons (.var 0) (.cons (.con (.int 3)) (.nil)))) .nil))) (.nil))))) (.cons (.asg (.n 3) (.lc [4] (.n 4) itRange1 (.cons (.var 2) (.nil)) .none (.tup (.cons (.prim fTuple (.cons (.lc [5] (.n 5) itRange1 (.cons (.var 2) (.nil)) .none (.ite (.eb (.prim fEq (.cons (.var 5) (.cons (.var 4) .nil)))) (.con (.int 1)) (.con (.int 0)))) (.nil))) (.cons (.con (.int 1)) (.nil)))))) (.cons (.ex (.mut mAppend 3 (.cons (.tup (.cons (.prim fTuple (.cons (.lc [5] (.n 5) itRange1 (.cons (.var 2) (.nil)) .none (.prim fAdd (.cons (.con (.int 1)) (.cons (.call F_law_pick (.cons (.var 0) (.cons (.prim fSub (.cons (.var 1) (.cons (.con (.int 1)) .nil))) (.nil)))) .nil)))) (.nil))) (.cons (.con (.int 1)) (.nil)))) (.nil)))) (.cons (.ite (.eb (.prim fEq (.cons (.call F_law_pick (.cons (.var 0) (.cons (.con (.int 2)) (.nil)))) (.cons (.con (.int 0)) .nil)))) (.cons (.ex (.mut mAppend 3 (.cons (.call F_law_any (.cons (.var 0) (.cons (.var 3) (.nil)))) (.nil)))) (.nil)) (.nil)) (.cons (.ret (.tup (.cons (.var 1) (.cons (.var 2) (.cons (.call F_law_mixed (.cons (.var 0) (.cons (.var 3) (.nil)))) (.nil)))))) (.nil)))))
def F_law_long : Fn := runFn0 N_law_long.length ir_law_long
def ir_law_rings : Ss := .cons (.asg (.n 1) (.lst (.nil))) (.cons (.for (.n 2) itSeq (.cons (.call F_law_lots (.cons (.prim fLen (.cons (.prim fIx (.cons (.var 0) (.cons (.con (.int 2)) .nil))) (.nil))) (.nil))) .nil) (.cons (.ite (.and (.not (.e (.call F_law_leans (.cons (.var 0) (.cons (.var 2) (.nil)))))) (.not (.e (.prim fAny (.cons (.lc [3] (.n 3) itSeq (.cons (.var 1) .nil) .none (.call F_law_holds (.cons (.var 2) (.cons (.var 3) (.nil))))) (.nil)))))) (.cons (.ex (.mut mAppend 1 (.cons (.var 2) (.nil)))) (.nil)) (.nil)) (.nil))) (.cons (.ret (.var 1)) (.nil)))
def F_law_rings : Fn := runFn0 N_law_rings.length ir_law_rings
def ir_law : Ss := .cons (.asg (.n 1) (.call F_law_tape (.cons (.var 0) (.nil)))) (.cons (.for (.n 2) itRange1 (.cons (.con (.int 2)) (.nil)) (.cons (.asg (.n 3) (.ite (.eb (.prim fEq (.cons (.call F_law_pick (.cons (.var 1) (.cons (.con (.int 40)) (.nil)))) (.cons (.con (.int 0)) .nil)))) (.call F_law_long (.cons (.var 1) (.nil))) (.call F_law_small (.cons (.var 1) (.cons (.con (.int 8)) (.nil)))))) (.cons (.par 4 5 (.call F_i_Web (.cons (.prim fIx (.cons (.var 3) (.cons (.con (.int 0)) .nil))) (.cons (.prim fIx (.cons (.var 3) (.cons (.con (.int 1)) .nil))) (.cons (.prim fTuple (.cons (.prim fIx (.cons (.var 3) (.cons (.con (.int 2)) .nil))) (.nil))) (.nil))))) (.call F_law_rings (.cons (.var 3) (.nil)))) (.cons (.ite (.eb (.prim fNe (.cons (.call F_all_rings (.cons (.var 4) (.nil))) (.cons (.var 5) .nil)))) (.cons (.ret (.con (.bl false))) (.nil)) (.nil)) (.cons (.for (.n 6) itSeq (.cons (.call F_law_lots (.cons (.prim fLen (.cons (.prim fIx (.cons (.var 3) (.cons (.con (.int 2)) .nil))) (.nil))) (.nil))) .nil) (.cons (.ite (.eb (.prim fNe (.cons (.call F_is_ring (.cons (.var 4) (.cons (.var 6) (.nil)))) (.cons (.prim fInM (.cons (.var 6) (.cons (.var 5) .nil))) .nil)))) (.cons (.ret (.con (.bl false))) (.nil)) (.nil)) (.nil))) (.cons (.ite (.or (.eb (.prim fNotB (.cons (.call F_is_ring (.cons (.var 4) (.cons (.call F_law_odd (.cons (.var 1) (.nil))) (.nil)))) (.cons (.con (.bl false)) .nil)))) (.and (.eb (.prim fNe (.cons (.var 5) (.cons (.lst (.nil)) .nil)))) (.eb (.prim fNotB (.cons (.call F_is_ring (.cons (.var 4) (.cons (.prim fList (.cons (.prim fIx (.cons (.var 5) (.cons (.con (.int 0)) .nil))) (.nil))) (.nil)))) (.cons (.con (.bl false)) .nil)))))) (.cons (.ret (.con (.bl false))) (.nil)) (.nil)) (.nil))))))) (.cons (.ret (.con (.bl true))) (.nil)))
def F_law : Fn := runFn0 N_law.length ir_law
theorem sc_is_integer : FnScope N_is_integer ["thing"] (defScope st_is_integer) := ⟨rfl, rfl, rfl, by decide +kernel, rfl, by decide +kernel, by decide +kernel⟩
theorem ok_is_integer {P : Program} {w : World} {K : PySem.W.Frag} {mg : Str → Option Value} {base : Heap} (T : Facts K mg) (CL : CLs) : FnOk P w K mg base CX0 1 T.a_is_integer T.d_is_integer ["thing"] (spF K CL F_is_integer 1) :=
  fn_ok (k := 0) (n := 1) (ir := ir_is_integer) T.f_is_integer sc_is_integer rfl (by decide) fun cdv A outer s H E c hcl hcE hr => by
    have nd := sc_is_integer.nd
    exact ss_cons (s_ret (e_and (pe_and (e_prim p_isi (pe_callB call_isi (by rfl) T.z_isinstance (by decide +kernel) (a_cons (e_var (pv 0)) (a_cons (e_con (v := .ty "int") (pe_bltn (u := .type "int") (by rfl) T.z_int (by decide +kernel) rfl) (fun _ => .ty "int")) (a_nil))))) (e_one (e_not (e_prim p_isi (pe_callB call_isi (by rfl) T.z_isinstance (by decide +kernel) (a_cons (e_var (pv 0)) (a_cons (e_con (v := .ty "bool") (pe_bltn (u := .type "bool") (by rfl) T.z_bool (by decide +kernel) rfl) (fun _ => .ty "bool")) (a_nil)))))))))) (ss_nil)
theorem sc_is_within : FnScope N_is_within ["least", "most", "thing"] (defScope st_is_within) := ⟨rfl, rfl, rfl, by decide +kernel, rfl, by decide +kernel, by decide +kernel⟩
theorem ok_is_within {P : Program} {w : World} {K : PySem.W.Frag} {mg : Str → Option Value} {base : Heap} (T : Facts K mg) (CL : CLs) : FnOk P w K mg base CX0 2 T.a_is_within T.d_is_within ["least", "most", "thing"] (spF K CL F_is_within 3) :=
  fn_ok (k := 1) (n := 3) (ir := ir_is_within) T.f_is_within sc_is_within rfl (by decide) fun cdv A outer s H E c hcl hcE hr => by
    have nd := sc_is_within.nd
    exact ss_cons (s_ret (e_and (pe_and (e_call (pe_call (ok_is_integer T c.CL) (hr.mono (by decide)) rfl T.m_is_integer T.f_is_integer.kp T.b_is_integer .nil pass0 (a_cons (e_var (pv 2)) (a_nil))) rfl hcE) (e_one (e_chain p_le p_le (pe_chain op_le op_le (e_var (pv 0)) (e_var (pv 2)) (e_var (pv 1)))))))) (ss_nil)
theorem sc_is_lot : FnScope N_is_lot ["many", "thing"] (defScope st_is_lot) := ⟨rfl, rfl, rfl, by decide +kernel, rfl, by decide +kernel, by decide +kernel⟩
theorem ok_is_lot {P : Program} {w : World} {K : PySem.W.Frag} {mg : Str → Option Value} {base : Heap} (T : Facts K mg) (CL : CLs) (h0_Web : CL 0 = (T.q_Web, fs_Web)) : FnOk P w K mg base CX0 3 T.a_is_lot T.d_is_lot ["many", "thing"] (spF K CL F_is_lot 2) :=
  fn_ok (k := 2) (n := 2) (ir := ir_is_lot) T.f_is_lot sc_is_lot rfl (by decide) fun cdv A outer s H E c hcl hcE hr => by
    have nd := sc_is_lot.nd
    have hC_Web : c.CL 0 = (T.q_Web, fs_Web) := hcl ▸ h0_Web
    exact ss_cons (s_ite (t_not (t_e (e_prim (p_isiO (isOut_of hC_Web T.o_Web)) (pe_callB call_isi (by rfl) T.z_isinstance (by decide +kernel) (a_cons (e_var (pv 1)) (a_cons (e_con (v := .ty "tuple") (pe_bltn (u := .type "tuple") (by rfl) T.z_tuple (by decide +kernel) rfl) (fun _ => .ty "tuple")) (a_nil))))))) (ss_cons (s_ret (e_bl)) (ss_nil)) (ss_nil)) (ss_cons (s_asg (ps_set (i := 2) nd rfl (.inl rfl) (e_un un_neg p_neg (e_int))) (fun _ _ _ q => q)) (ss_cons (s_for i_seq (ps_for PassesOwn.never rfl (pi_seq (e_var (pv 1))) (g_name (pg_name (i := 3) nd rfl (.inl rfl))) (ss_cons (s_ite (t_not (t_e (e_call (pe_call (ok_is_within T c.CL) (hr.mono (by decide)) rfl T.m_is_within T.f_is_within.kp T.b_is_within .nil pass0 (a_cons (e_bin o_add p_add (e_var (pv 2)) (e_int)) (a_cons (e_bin op_sub p_sub (e_var (pv 0)) (e_int)) (a_cons (e_var (pv 3)) (a_nil))))) rfl hcE))) (ss_cons (s_ret (e_bl)) (ss_nil)) (ss_nil)) (ss_cons (s_asg (ps_set (i := 2) nd rfl (.inl rfl) (e_var (pv 3))) (fun _ _ _ q => q)) (ss_nil))))) (ss_cons (s_ret (e_bl)) (ss_nil))))
theorem sc_is_prime : FnScope N_is_prime ["thing"] (defScope st_is_prime) := ⟨rfl, rfl, rfl, by decide +kernel, rfl, by decide +kernel, by decide +kernel⟩
theorem ok_is_prime {P : Program} {w : World} {K : PySem.W.Frag} {mg : Str → Option Value} {base : Heap} (T : Facts K mg) (CL : CLs) : FnOk P w K mg base CX0 3 T.a_is_prime T.d_is_prime ["thing"] (spF K CL F_is_prime 1) :=
  fn_ok (k := 2) (n := 1) (ir := ir_is_prime) T.f_is_prime sc_is_prime rfl (by decide) fun cdv A outer s H E c hcl hcE hr => by
    have nd := sc_is_prime.nd
    exact ss_cons (s_ret (e_and (pe_and (e_call (pe_call (ok_is_within T c.CL) (hr.mono (by decide)) rfl T.m_is_within T.f_is_within.kp T.b_is_within .nil pass0 (a_cons (e_int) (a_cons (e_glob (v := .int 251) rfl T.c_MOST_PRIME ⟨_, rfl⟩ (fun _ => .int _)) (a_cons (e_var (pv 0)) (a_nil))))) rfl hcE) (e_one (e_prim p_all (pe_callB (cr_all rfl) (by rfl) T.z_all (by decide +kernel) (a_cons (e_lc i_range2 (pe_lc (own := [("k", 1)]) rfl nd (pi_range2 (by rfl) T.z_range (a_cons (e_int) (a_cons (e_int) (a_nil)))) (blkOk_by (N := N_is_prime) (sc := defScope st_is_prime) (by decide +kernel)) (fun _ _ _ _ _ => g_name (pg_name (i := 1) nd rfl (by first | exact .inl rfl | exact .inr rfl))) (fun _ _ _ _ _ => o_some (t_cmp p_le (pt_cmpR op_le (e_bin o_mul p_mul (e_var (pv 1)) (e_var (pv 1))) (e_var (pv 0)) (nomark _)))) (fun _ _ _ _ _ => e_cmp (op_neD hr.units) p_ne (e_bin op_mod p_mod (e_var (pv 0)) (e_var (pv 1))) (e_int) (nomark _)))) (a_nil)))))))) (ss_nil)
theorem sc_is_values : FnScope N_is_values ["prime", "many", "thing"] (defScope st_is_values) := ⟨rfl, rfl, rfl, by decide +kernel, rfl, by decide +kernel, by decide +kernel⟩
theorem ok_is_values {P : Program} {w : World} {K : PySem.W.Frag} {mg : Str → Option Value} {base : Heap} (T : Facts K mg) (CL : CLs) : FnOk P w K mg base CX0 3 T.a_is_values T.d_is_values ["prime", "many", "thing"] (spF K CL F_is_values 3) :=
  fn_ok (k := 2) (n := 3) (ir := ir_is_values) T.f_is_values sc_is_values rfl (by decide) fun cdv A outer s H E c hcl hcE hr => by
    have nd := sc_is_values.nd
    exact ss_cons (s_ite (t_w (w_or (t_not (t_e (e_prim p_isi (pe_callB call_isi (by rfl) T.z_isinstance (by decide +kernel) (a_cons (e_var (pv 2)) (a_cons (e_con (v := .ty "tuple") (pe_bltn (u := .type "tuple") (by rfl) T.z_tuple (by decide +kernel) rfl) (fun _ => .ty "tuple")) (a_nil))))))) (w_or1 (t_cmp p_ne (pt_cmpR (op_neD hr.units) (e_prim p_len (pe_callB call_len (by rfl) T.z_len (by decide +kernel) (a_cons (e_var (pv 2)) (a_nil)))) (e_var (pv 1)) (nomark _)))))) (ss_cons (s_ret (e_bl)) (ss_nil)) (ss_nil)) (ss_cons (s_ret (e_prim p_all (pe_callB (cr_all rfl) (by rfl) T.z_all (by decide +kernel) (a_cons (e_lc i_seq (pe_lc (own := [("value", 3)]) rfl nd (pi_seq (e_var (pv 2))) (blkOk_by (N := N_is_values) (sc := defScope st_is_values) (by decide +kernel)) (fun _ _ _ _ _ => g_name (pg_name (i := 3) nd rfl (by first | exact .inl rfl | exact .inr rfl))) (fun _ _ _ _ _ => o_none) (fun _ _ _ _ _ => e_call (pe_call (ok_is_within T c.CL) (hr.mono (by decide)) rfl T.m_is_within T.f_is_within.kp T.b_is_within .nil pass0 (a_cons (e_int) (a_cons (e_bin op_sub p_sub (e_var (pv 0)) (e_int)) (a_cons (e_var (pv 3)) (a_nil))))) rfl (fun _ _ _ z => z)))) (a_nil))))) (ss_nil))
theorem sc_is_sum : FnScope N_is_sum ["prime", "width", "thing"] (defScope st_is_sum) := ⟨rfl, rfl, rfl, by decide +kernel, rfl, by decide +kernel, by decide +kernel⟩
theorem ok_is_sum {P : Program} {w : World} {K : PySem.W.Frag} {mg : Str → Option Value} {base : Heap} (T : Facts K mg) (CL : CLs) : FnOk P w K mg base CX0 4 T.a_is_sum T.d_is_sum ["prime", "width", "thing"] (spF K CL F_is_sum 3) :=
  fn_ok (k := 3) (n := 3) (ir := ir_is_sum) T.f_is_sum sc_is_sum rfl (by decide) fun cdv A outer s H E c hcl hcE hr => by
    have nd := sc_is_sum.nd
    exact ss_cons (s_ret (e_and (pe_and (e_call (pe_call (ok_is_values T c.CL) (hr.mono (by decide)) rfl T.m_is_values T.f_is_values.kp T.b_is_values .nil pass0 (a_cons (e_var (pv 0)) (a_cons (e_var (pv 1)) (a_cons (e_var (pv 2)) (a_nil))))) rfl hcE) (e_one (e_cmp (op_neD hr.units) p_ne (e_var (pv 2)) (e_bin o_mul p_mul (e_tup (pe_tup (d_cons (e_int) (d_nil)))) (e_var (pv 1))) (nomark _)))))) (ss_nil)
theorem sc_width_of : FnScope N_width_of ["sums"] (defScope st_width_of) := ⟨rfl, rfl, rfl, by decide +kernel, rfl, by decide +kernel, by decide +kernel⟩
theorem ok_width_of {P : Program} {w : World} {K : PySem.W.Frag} {mg : Str → Option Value} {base : Heap} (T : Facts K mg) (CL : CLs) : FnOk P w K mg base CX0 1 T.a_width_of T.d_width_of ["sums"] (spF K CL F_width_of 1) :=
  fn_ok (k := 0) (n := 1) (ir := ir_width_of) T.f_width_of sc_width_of rfl (by decide) fun cdv A outer s H E c hcl hcE hr => by
    have nd := sc_width_of.nd
    exact ss_cons (s_ite (t_cmp p_eq (pt_cmpR (op_eqD hr.units) (e_prim p_len (pe_callB call_len (by rfl) T.z_len (by decide +kernel) (a_cons (e_var (pv 0)) (a_nil)))) (e_int) (nomark _))) (ss_cons (s_ret (e_int)) (ss_nil)) (ss_nil)) (ss_cons (s_ret (e_prim p_len (pe_callB call_len (by rfl) T.z_len (by decide +kernel) (a_cons (e_ix ix_seq p_ix (e_var (pv 0)) (e_int) (fun _ _ => rfl)) (a_nil))))) (ss_nil))
theorem sc_inverse : FnScope N_inverse ["prime", "value"] (defScope st_inverse) := ⟨rfl, rfl, rfl, by decide +kernel, rfl, by decide +kernel, by decide +kernel⟩
theorem ok_inverse {P : Program} {w : World} {K : PySem.W.Frag} {mg : Str → Option Value} {base : Heap} (T : Facts K mg) (CL : CLs) : FnOk P w K mg base CX0 1 T.a_inverse T.d_inverse ["prime", "value"] (spF K CL F_inverse 2) :=
  fn_ok (k := 0) (n := 2) (ir := ir_inverse) T.f_inverse sc_inverse rfl (by decide) fun cdv A outer s H E c hcl hcE hr => by
    have nd := sc_inverse.nd
    exact ss_cons (s_par (by decide) (ps_par (i := 2) (j := 3) rfl nd rfl rfl (by decide) rfl rfl (pa_cons (e_var (pv 0)) (pa_cons (e_var (pv 1)) pa_nil)) (by rfl))) (ss_cons (s_asgT (ps_asg (e_tup (pe_tup (d_cons (e_int) (d_cons (e_int) (d_nil))))) (g_tup (is := [4, 5]) (pg_tup rfl (pgs_cons (pg_name (i := 4) nd rfl (.inl rfl)) (pgs_cons (pg_name (i := 5) nd rfl (.inl rfl)) (pgs_nil))))))) (ss_cons (s_while (ps_while PassesOwn.never (t_cmp p_ne (pt_cmpR (op_neD hr.units) (e_var (pv 3)) (e_int) (nomark _))) (ss_cons (s_asg (ps_set (i := 6) nd rfl (.inl rfl) (e_bin op_fdiv p_div (e_var (pv 2)) (e_var (pv 3)))) (fun _ _ _ q => q)) (ss_cons (s_par (by decide) (ps_par (i := 2) (j := 3) rfl nd rfl rfl (by decide) rfl rfl (pa_cons (e_var (pv 3)) (pa_cons (e_bin op_sub p_sub (e_var (pv 2)) (e_bin o_mul p_mul (e_var (pv 6)) (e_var (pv 3)))) pa_nil)) (by rfl))) (ss_cons (s_par (by decide) (ps_par (i := 4) (j := 5) rfl nd rfl rfl (by decide) rfl rfl (pa_cons (e_var (pv 5)) (pa_cons (e_bin op_sub p_sub (e_var (pv 4)) (e_bin o_mul p_mul (e_var (pv 6)) (e_var (pv 5)))) pa_nil)) (by rfl))) (ss_nil)))))) (ss_cons (s_ret (e_bin op_mod p_mod (e_var (pv 4)) (e_var (pv 0)))) (ss_nil))))
theorem sc_reduced : FnScope N_reduced ["prime", "rows", "values"] (defScope st_reduced) := ⟨rfl, rfl, rfl, by decide +kernel, rfl, by decide +kernel, by decide +kernel⟩
theorem ok_reduced {P : Program} {w : World} {K : PySem.W.Frag} {mg : Str → Option Value} {base : Heap} (T : Facts K mg) (CL : CLs) : FnOk P w K mg base CX0 1 T.a_reduced T.d_reduced ["prime", "rows", "values"] (spF K CL F_reduced 3) :=
  fn_ok (k := 0) (n := 3) (ir := ir_reduced) T.f_reduced sc_reduced rfl (by decide) fun cdv A outer s H E c hcl hcE hr => by
    have nd := sc_reduced.nd
    exact ss_cons (s_asg (ps_set (i := 3) nd rfl (.inl rfl) (e_prim p_list (pe_callTy call_list_of (by rfl) T.z_list (by decide +kernel) (a_cons (e_var (pv 2)) (a_nil))))) (fun _ _ _ q => q)) (ss_cons (s_for i_seq (ps_for PassesOwn.never rfl (pi_seq (e_var (pv 1))) (g_tup (is := [4, 5]) (pg_tup rfl (pgs_cons (pg_name (i := 4) nd rfl (.inl rfl)) (pgs_cons (pg_name (i := 5) nd rfl (.inl rfl)) (pgs_nil))))) (ss_cons (s_asg (ps_set (i := 6) nd rfl (.inr rfl) (e_ix ix_seq p_ix (e_var (pv 3)) (e_var (pv 4)) (fun _ _ => rfl))) (fun _ _ _ q => q)) (ss_cons (s_ite (t_cmp p_ne (pt_cmpR (op_neD hr.units) (e_var (pv 6)) (e_int) (nomark _))) (ss_cons (s_setLc i_zipM (ps_setLc (i := 3) (own := [("value", 7), ("lead", 8)]) rfl nd rfl rfl (sw_true rfl rfl rfl (by decide +kernel)) (pi_zipM (by rfl) T.z_zip (a_cons (e_var (pv 3)) (a_cons (e_var (pv 5)) (a_nil)))) (blkOk_by (N := N_reduced) (sc := defScope st_reduced) (by decide +kernel)) (fun _ _ _ _ _ => g_tup (is := [7, 8]) (pg_tup rfl (pgs_cons (pg_name (i := 7) nd rfl (by first | exact .inl rfl | exact .inr rfl)) (pgs_cons (pg_name (i := 8) nd rfl (by first | exact .inl rfl | exact .inr rfl)) (pgs_nil))))) (fun _ _ _ _ _ => o_none) (fun _ _ _ _ _ => e_bin op_mod p_mod (e_bin op_sub p_sub (e_var (pv 7)) (e_bin o_mul p_mul (e_var (pv 6)) (e_var (pv 8)))) (e_var (pv 0))))) (ss_nil)) (ss_nil)) (ss_nil))))) (ss_cons (s_ret (e_var (pv 3))) (ss_nil)))
theorem sc_leading : FnScope N_leading ["prime", "width", "values"] (defScope st_leading) := ⟨rfl, rfl, rfl, by decide +kernel, rfl, by decide +kernel, by decide +kernel⟩
theorem ok_leading {P : Program} {w : World} {K : PySem.W.Frag} {mg : Str → Option Value} {base : Heap} (T : Facts K mg) (CL : CLs) : FnOk P w K mg base CX0 2 T.a_leading T.d_leading ["prime", "width", "values"] (spF K CL F_leading 3) :=
  fn_ok (k := 1) (n := 3) (ir := ir_leading) T.f_leading sc_leading rfl (by decide) fun cdv A outer s H E c hcl hcE hr => by
    have nd := sc_leading.nd
    exact ss_cons (s_for i_range1 (ps_for PassesOwn.never rfl (pi_range1 (by rfl) T.z_range (a_cons (e_var (pv 1)) (a_nil))) (g_name (pg_name (i := 3) nd rfl (.inl rfl))) (ss_cons (s_ite (t_cmp p_ne (pt_cmpR (op_neD hr.units) (e_ix ix_seq p_ix (e_var (pv 2)) (e_var (pv 3)) (fun _ _ => rfl)) (e_int) (nomark _))) (ss_cons (s_asg (ps_set (i := 4) nd rfl (.inr rfl) (e_call (pe_call (ok_inverse T c.CL) (hr.mono (by decide)) rfl T.m_inverse T.f_inverse.kp T.b_inverse .nil pass0 (a_cons (e_var (pv 0)) (a_cons (e_ix ix_seq p_ix (e_var (pv 2)) (e_var (pv 3)) (fun _ _ => rfl)) (a_nil)))) rfl hcE)) (fun _ _ _ q => q)) (ss_cons (s_ret (e_tup (pe_tup (d_cons (e_var (pv 3)) (d_cons (e_lc i_seq (pe_lc (own := [("value", 5)]) rfl nd (pi_seq (e_var (pv 2))) (blkOk_by (N := N_leading) (sc := defScope st_leading) (by decide +kernel)) (fun _ _ _ _ _ => g_name (pg_name (i := 5) nd rfl (by first | exact .inl rfl | exact .inr rfl))) (fun _ _ _ _ _ => o_none) (fun _ _ _ _ _ => e_bin op_mod p_mod (e_bin o_mul p_mul (e_var (pv 5)) (e_var (pv 4))) (e_var (pv 0))))) (d_nil)))))) (ss_nil))) (ss_nil)) (ss_nil)))) (ss_cons (s_ret (e_non)) (ss_nil))
theorem sc_marked : FnScope N_marked ["sums"] (defScope st_marked) := ⟨rfl, rfl, rfl, by decide +kernel, rfl, by decide +kernel, by decide +kernel⟩
theorem ok_marked {P : Program} {w : World} {K : PySem.W.Frag} {mg : Str → Option Value} {base : Heap} (T : Facts K mg) (CL : CLs) : FnOk P w K mg base CX0 1 T.a_marked T.d_marked ["sums"] (spF K CL F_marked 1) :=
  fn_ok (k := 0) (n := 1) (ir := ir_marked) T.f_marked sc_marked rfl (by decide) fun cdv A outer s H E c hcl hcE hr => by
    have nd := sc_marked.nd
    exact ss_cons (s_asg (ps_set (i := 1) nd rfl (.inr rfl) (e_prim p_len (pe_callB call_len (by rfl) T.z_len (by decide +kernel) (a_cons (e_var (pv 0)) (a_nil))))) (fun _ _ _ q => q)) (ss_cons (s_ret (e_lc i_enumA (pe_lc (own := [("at", 2), ("values", 3)]) rfl nd (pi_enumA (by rfl) T.z_enumerate (a_cons (e_var (pv 0)) (a_nil))) (blkOk_by (N := N_marked) (sc := defScope st_marked) (by decide +kernel)) (fun _ _ _ _ _ => g_tup (is := [2, 3]) (pg_tup rfl (pgs_cons (pg_name (i := 2) nd rfl (by first | exact .inl rfl | exact .inr rfl)) (pgs_cons (pg_name (i := 3) nd rfl (by first | exact .inl rfl | exact .inr rfl)) (pgs_nil))))) (fun _ _ _ _ _ => o_none) (fun _ _ _ _ _ => e_bin o_add p_add (e_prim p_list (pe_callTy call_list_of (by rfl) T.z_list (by decide +kernel) (a_cons (e_var (pv 3)) (a_nil)))) (e_lc i_range1 (pe_lc (own := [("k", 4)]) rfl nd (pi_range1 (by rfl) T.z_range (a_cons (e_var (pv 1)) (a_nil))) (blkOk_by (by rfl)) (fun _ _ _ _ _ => g_name (pg_name (i := 4) nd rfl (by first | exact .inl rfl | exact .inr rfl))) (fun _ _ _ _ _ => o_none) (fun _ _ _ _ _ => e_prim p_int (pe_callTy call_int1 (by rfl) T.z_int (by decide +kernel) (a_cons (e_cmp (op_eqD hr.units) p_eq (e_var (pv 4)) (e_var (pv 2)) (nomark _)) (a_nil)))))))))) (ss_nil))
theorem sc_nought_of : FnScope N_nought_of ["prime", "sums"] (defScope st_nought_of) := ⟨rfl, rfl, rfl, by decide +kernel, rfl, by decide +kernel, by decide +kernel⟩
theorem ok_nought_of {P : Program} {w : World} {K : PySem.W.Frag} {mg : Str → Option Value} {base : Heap} (T : Facts K mg) (CL : CLs) : FnOk P w K mg base CX0 3 T.a_nought_of T.d_nought_of ["prime", "sums"] (spF K CL F_nought_of 2) :=
  fn_ok (k := 2) (n := 2) (ir := ir_nought_of) T.f_nought_of sc_nought_of rfl (by decide) fun cdv A outer s H E c hcl hcE hr => by
    have nd := sc_nought_of.nd
    exact ss_cons (s_asg (ps_set (i := 2) nd rfl (.inl rfl) (e_call (pe_call (ok_width_of T c.CL) (hr.mono (by decide)) rfl T.m_width_of T.f_width_of.kp T.b_width_of .nil pass0 (a_cons (e_var (pv 1)) (a_nil))) rfl hcE)) (fun _ _ _ q => q)) (ss_cons (s_asg (ps_set (i := 3) nd rfl (.inl rfl) (e_lst (pe_lst (d_nil)))) (fun _ _ _ q => q)) (ss_cons (s_for i_seq (ps_for PassesOwn.never rfl (pi_seq (e_call (pe_call (ok_marked T c.CL) (hr.mono (by decide)) rfl T.m_marked T.f_marked.kp T.b_marked .nil pass0 (a_cons (e_var (pv 1)) (a_nil))) rfl hcE)) (g_name (pg_name (i := 4) nd rfl (.inl rfl))) (ss_cons (s_asg (ps_set (i := 5) nd rfl (.inl rfl) (e_call (pe_call (ok_reduced T c.CL) (hr.mono (by decide)) rfl T.m_reduced T.f_reduced.kp T.b_reduced .nil pass0 (a_cons (e_var (pv 0)) (a_cons (e_var (pv 3)) (a_cons (e_var (pv 4)) (a_nil))))) rfl hcE)) (fun _ _ _ q => q)) (ss_cons (s_asg (ps_set (i := 6) nd rfl (.inl rfl) (e_call (pe_call (ok_leading T c.CL) (hr.mono (by decide)) rfl T.m_leading T.f_leading.kp T.b_leading .nil pass0 (a_cons (e_var (pv 0)) (a_cons (e_var (pv 2)) (a_cons (e_var (pv 5)) (a_nil))))) rfl hcE)) (fun _ _ _ q => q)) (ss_cons (s_ite (t_cmp p_isN (pt_cmpR op_isN (e_var (pv 6)) (e_non) (nomark _))) (ss_cons (s_ret (e_prim p_tuple (pe_callTy call_tuple_of (by rfl) T.z_tuple (by decide +kernel) (a_cons (e_cutL (pe_slice sl_cut (e_var (pv 5)) (po_some (e_var (pv 2))) po_none)) (a_nil))))) (ss_nil)) (ss_nil)) (ss_cons (s_ex (ps_expr (e_mut m_append (pe_bm PySem.F.plainAttrs_list PySem.F.slot_list_append PySem.F.type_list_append mt_append (pv 3) (d_cons (e_var (pv 6)) (d_nil))))) (fun _ _ _ q => q)) (ss_nil))))))) (ss_cons (s_ret (e_non)) (ss_nil))))
theorem sc_is_pair : FnScope N_is_pair ["prime", "many", "thing"] (defScope st_is_pair) := ⟨rfl, rfl, rfl, by decide +kernel, rfl, by decide +kernel, by decide +kernel⟩
theorem ok_is_pair {P : Program} {w : World} {K : PySem.W.Frag} {mg : Str → Option Value} {base : Heap} (T : Facts K mg) (CL : CLs) : FnOk P w K mg base CX0 5 T.a_is_pair T.d_is_pair ["prime", "many", "thing"] (spF K CL F_is_pair 3) :=
  fn_ok (k := 4) (n := 3) (ir := ir_is_pair) T.f_is_pair sc_is_pair rfl (by decide) fun cdv A outer s H E c hcl hcE hr => by
    have nd := sc_is_pair.nd
    exact ss_cons (s_ite (t_w (w_or (t_not (t_e (e_prim p_isi (pe_callB call_isi (by rfl) T.z_isinstance (by decide +kernel) (a_cons (e_var (pv 2)) (a_cons (e_con (v := .ty "tuple") (pe_bltn (u := .type "tuple") (by rfl) T.z_tuple (by decide +kernel) rfl) (fun _ => .ty "tuple")) (a_nil))))))) (w_or1 (t_cmp p_ne (pt_cmpR (op_neD hr.units) (e_prim p_len (pe_callB call_len (by rfl) T.z_len (by decide +kernel) (a_cons (e_var (pv 2)) (a_nil)))) (e_int) (nomark _)))))) (ss_cons (s_ret (e_bl)) (ss_nil)) (ss_nil)) (ss_cons (s_ret (e_and (pe_and (e_call (pe_call (ok_is_sum T c.CL) (hr.mono (by decide)) rfl T.m_is_sum T.f_is_sum.kp T.b_is_sum .nil pass0 (a_cons (e_var (pv 0)) (a_cons (e_var (pv 1)) (a_cons (e_ix ix_seq p_ix (e_var (pv 2)) (e_int) (fun _ _ => rfl)) (a_nil))))) rfl hcE) (e_one (e_call (pe_call (ok_is_within T c.CL) (hr.mono (by decide)) rfl T.m_is_within T.f_is_within.kp T.b_is_within .nil pass0 (a_cons (e_int) (a_cons (e_glob (v := .int 1000000) rfl T.c_MOST_SIZE ⟨_, rfl⟩ (fun _ => .int _)) (a_cons (e_ix ix_seq p_ix (e_var (pv 2)) (e_int) (fun _ _ => rfl)) (a_nil))))) rfl hcE))))) (ss_nil))
theorem sc_i_Web : FnScope N_i_Web ["self", "prime", "many", "pieces"] (defScope st_i_Web) := ⟨rfl, rfl, rfl, by decide +kernel, rfl, by decide +kernel, by decide +kernel⟩
theorem ok_i_Web {P : Program} {w : World} {K : PySem.W.Frag} {mg : Str → Option Value} {base : Heap} (T : Facts K mg) (CL : CLs) : FnOk P w K mg base CX0 6 T.a_i_Web T.d_i_Web ["self", "prime", "many", "pieces"] (spInit K CL N_i_Web.length ir_i_Web fs_Web [1, 2, 3] 1000 T.q_Web 3) :=
  init_ok (k := 5) (n := 3) (m0 := 1000) (pre := ir_i_Web) (fl := [("prime", 1), ("many", 2), ("pieces", 3)]) T.f_i_Web sc_i_Web rfl (by decide) T.cl_Web
    (fun p hp => by
      rcases List.mem_cons.mp hp with rfl | hp
      · exact T.na_Web_prime
      rcases List.mem_cons.mp hp with rfl | hp
      · exact T.na_Web_many
      rcases List.mem_cons.mp hp with rfl | hp
      · exact T.na_Web_pieces
      cases hp)
    (by decide) (by decide) fun cdv A outer s H E c hcl hcE hr => by
    have nd := sc_i_Web.nd
    exact ssw_cons (s_ite (t_not (t_e (e_call (pe_call (ok_is_prime T c.CL) (hr.mono (by decide)) rfl T.m_is_prime T.f_is_prime.kp T.b_is_prime .nil pass0 (a_cons (e_var (pv 1)) (a_nil))) rfl hcE))) (ss_cons (s_never) (ss_nil)) (ss_nil)) (ssw_cons (s_ite (t_not (t_e (e_call (pe_call (ok_is_within T c.CL) (hr.mono (by decide)) rfl T.m_is_within T.f_is_within.kp T.b_is_within .nil pass0 (a_cons (e_int) (a_cons (e_glob (v := .int 10) rfl T.c_MOST_VERSIONS ⟨_, rfl⟩ (fun _ => .int _)) (a_cons (e_var (pv 2)) (a_nil))))) rfl hcE))) (ss_cons (s_never) (ss_nil)) (ss_nil)) (ssw_cons (s_ite (t_w (w_or (t_not (t_e (e_prim p_isi (pe_callB call_isi (by rfl) T.z_isinstance (by decide +kernel) (a_cons (e_var (pv 3)) (a_cons (e_con (v := .ty "tuple") (pe_bltn (u := .type "tuple") (by rfl) T.z_tuple (by decide +kernel) rfl) (fun _ => .ty "tuple")) (a_nil))))))) (w_or1 (t_cmp p_gt (pt_cmpR op_gt (e_prim p_len (pe_callB call_len (by rfl) T.z_len (by decide +kernel) (a_cons (e_var (pv 3)) (a_nil)))) (e_glob (v := .int 40) rfl T.c_MOST_PIECES_webs ⟨_, rfl⟩ (fun _ => .int _)) (nomark _)))))) (ss_cons (s_never) (ss_nil)) (ss_nil)) (ssw_cons (s_for i_enumA (ps_for PassesOwn.never rfl (pi_enumA (by rfl) T.z_enumerate (a_cons (e_var (pv 3)) (a_nil))) (g_tup (is := [4, 5]) (pg_tup rfl (pgs_cons (pg_name (i := 4) nd rfl (.inl rfl)) (pgs_cons (pg_name (i := 5) nd rfl (.inl rfl)) (pgs_nil))))) (ss_cons (s_ite (t_not (t_e (e_call (pe_call (ok_is_pair T c.CL) (hr.mono (by decide)) rfl T.m_is_pair T.f_is_pair.kp T.b_is_pair .nil pass0 (a_cons (e_var (pv 1)) (a_cons (e_var (pv 2)) (a_cons (e_var (pv 5)) (a_nil))))) rfl hcE))) (ss_cons (s_never) (ss_nil)) (ss_nil)) (ss_nil)))) (ssw_nil (pss_cons (ps_fld (pv 0) (pv 1) rfl) (pss_cons (ps_fld (pv 0) (pv 2) rfl) (pss_cons (ps_fld (pv 0) (pv 3) rfl) (pss_nil))))))))
theorem sc_is_lot_of : FnScope N_is_lot_of ["web", "thing"] (defScope st_is_lot_of) := ⟨rfl, rfl, rfl, by decide +kernel, rfl, by decide +kernel, by decide +kernel⟩
theorem ok_is_lot_of {P : Program} {w : World} {K : PySem.W.Frag} {mg : Str → Option Value} {base : Heap} (T : Facts K mg) (CL : CLs) (h0_Web : CL 0 = (T.q_Web, fs_Web)) : FnOk P w K mg base CX0 4 T.a_is_lot_of T.d_is_lot_of ["web", "thing"] (spF K CL F_is_lot_of 2) :=
  fn_ok (k := 3) (n := 2) (ir := ir_is_lot_of) T.f_is_lot_of sc_is_lot_of rfl (by decide) fun cdv A outer s H E c hcl hcE hr => by
    have nd := sc_is_lot_of.nd
    have hC_Web : c.CL 0 = (T.q_Web, fs_Web) := hcl ▸ h0_Web
    exact ss_cons (s_ret (e_call (pe_call (ok_is_lot T c.CL hC_Web) (hr.mono (by decide)) rfl T.m_is_lot T.f_is_lot.kp T.b_is_lot .nil pass0 (a_cons (e_prim p_len (pe_callB call_len (by rfl) T.z_len (by decide +kernel) (a_cons (e_fld (fld_of hC_Web T.cl_Web T.na_Web_pieces (by decide) rfl) (e_var (pv 0))) (a_nil)))) (a_cons (e_var (pv 1)) (a_nil)))) rfl hcE)) (ss_nil)
theorem sc_sum_of : FnScope N_sum_of ["web", "piece"] (defScope st_sum_of) := ⟨rfl, rfl, rfl, by decide +kernel, rfl, by decide +kernel, by decide +kernel⟩
theorem ok_sum_of {P : Program} {w : World} {K : PySem.W.Frag} {mg : Str → Option Value} {base : Heap} (T : Facts K mg) (CL : CLs) (h0_Web : CL 0 = (T.q_Web, fs_Web)) : FnOk P w K mg base CX0 1 T.a_sum_of T.d_sum_of ["web", "piece"] (spF K CL F_sum_of 2) :=
  fn_ok (k := 0) (n := 2) (ir := ir_sum_of) T.f_sum_of sc_sum_of rfl (by decide) fun cdv A outer s H E c hcl hcE hr => by
    have nd := sc_sum_of.nd
    have hC_Web : c.CL 0 = (T.q_Web, fs_Web) := hcl ▸ h0_Web
    exact ss_cons (s_ret (e_ix ix_seq p_ix (e_ix ix_seq p_ix (e_fld (fld_of hC_Web T.cl_Web T.na_Web_pieces (by decide) rfl) (e_var (pv 0))) (e_var (pv 1)) (fun _ _ => rfl)) (e_int) (fun _ _ => rfl))) (ss_nil)
theorem sc_sums_of : FnScope N_sums_of ["web", "lot"] (defScope st_sums_of) := ⟨rfl, rfl, rfl, by decide +kernel, rfl, by decide +kernel, by decide +kernel⟩
theorem ok_sums_of {P : Program} {w : World} {K : PySem.W.Frag} {mg : Str → Option Value} {base : Heap} (T : Facts K mg) (CL : CLs) (h0_Web : CL 0 = (T.q_Web, fs_Web)) : FnOk P w K mg base CX0 2 T.a_sums_of T.d_sums_of ["web", "lot"] (spF K CL F_sums_of 2) :=
  fn_ok (k := 1) (n := 2) (ir := ir_sums_of) T.f_sums_of sc_sums_of rfl (by decide) fun cdv A outer s H E c hcl hcE hr => by
    have nd := sc_sums_of.nd
    have hC_Web : c.CL 0 = (T.q_Web, fs_Web) := hcl ▸ h0_Web
    exact ss_cons (s_ret (e_prim p_tuple (pe_callTy call_tuple_of (by rfl) T.z_tuple (by decide +kernel) (a_cons (e_lc i_seq (pe_lc (own := [("piece", 2)]) rfl nd (pi_seq (e_var (pv 1))) (blkOk_by (N := N_sums_of) (sc := defScope st_sums_of) (by decide +kernel)) (fun _ _ _ _ _ => g_name (pg_name (i := 2) nd rfl (by first | exact .inl rfl | exact .inr rfl))) (fun _ _ _ _ _ => o_none) (fun _ _ _ _ _ => e_call (pe_call (ok_sum_of T c.CL hC_Web) (hr.mono (by decide)) rfl T.m_sum_of T.f_sum_of.kp T.b_sum_of .nil pass0 (a_cons (e_var (pv 0)) (a_cons (e_var (pv 2)) (a_nil)))) rfl (fun _ _ _ z => z)))) (a_nil))))) (ss_nil)
theorem sc_closing : FnScope N_closing ["web", "lot"] (defScope st_closing) := ⟨rfl, rfl, rfl, by decide +kernel, rfl, by decide +kernel, by decide +kernel⟩
theorem ok_closing {P : Program} {w : World} {K : PySem.W.Frag} {mg : Str → Option Value} {base : Heap} (T : Facts K mg) (CL : CLs) (h0_Web : CL 0 = (T.q_Web, fs_Web)) : FnOk P w K mg base CX0 4 T.a_closing T.d_closing ["web", "lot"] (spF K CL F_closing 2) :=
  fn_ok (k := 3) (n := 2) (ir := ir_closing) T.f_closing sc_closing rfl (by decide) fun cdv A outer s H E c hcl hcE hr => by
    have nd := sc_closing.nd
    have hC_Web : c.CL 0 = (T.q_Web, fs_Web) := hcl ▸ h0_Web
    exact ss_cons (s_asg (ps_set (i := 2) nd rfl (.inl rfl) (e_call (pe_call (ok_nought_of T c.CL) (hr.mono (by decide)) rfl T.m_nought_of T.f_nought_of.kp T.b_nought_of .nil pass0 (a_cons (e_fld (fld_of hC_Web T.cl_Web T.na_Web_prime (by decide) rfl) (e_var (pv 0))) (a_cons (e_call (pe_call (ok_sums_of T c.CL hC_Web) (hr.mono (by decide)) rfl T.m_sums_of T.f_sums_of.kp T.b_sums_of .nil pass0 (a_cons (e_var (pv 0)) (a_cons (e_var (pv 1)) (a_nil)))) rfl hcE) (a_nil)))) rfl hcE)) (fun _ _ _ q => q)) (ss_cons (s_ite (t_w (w_or (t_cmp p_isN (pt_cmpR op_isN (e_var (pv 2)) (e_non) (nomark _))) (w_or1 (t_cmp p_inM (pt_cmpR (op_inM (units65 hr)) (e_int) (e_var (pv 2)) (by rfl)))))) (ss_cons (s_ret (e_non)) (ss_nil)) (ss_nil)) (ss_cons (s_ret (e_var (pv 2))) (ss_nil)))
theorem sc_is_ring : FnScope N_is_ring ["web", "thing"] (defScope st_is_ring) := ⟨rfl, rfl, rfl, by decide +kernel, rfl, by decide +kernel, by decide +kernel⟩
theorem ok_is_ring {P : Program} {w : World} {K : PySem.W.Frag} {mg : Str → Option Value} {base : Heap} (T : Facts K mg) (CL : CLs) (h0_Web : CL 0 = (T.q_Web, fs_Web)) : FnOk P w K mg base CX0 5 T.a_is_ring T.d_is_ring ["web", "thing"] (spF K CL F_is_ring 2) :=
  fn_ok (k := 4) (n := 2) (ir := ir_is_ring) T.f_is_ring sc_is_ring rfl (by decide) fun cdv A outer s H E c hcl hcE hr => by
    have nd := sc_is_ring.nd
    have hC_Web : c.CL 0 = (T.q_Web, fs_Web) := hcl ▸ h0_Web
    exact ss_cons (s_ret (e_and (pe_and (e_call (pe_call (ok_is_lot_of T c.CL hC_Web) (hr.mono (by decide)) rfl T.m_is_lot_of T.f_is_lot_of.kp T.b_is_lot_of .nil pass0 (a_cons (e_var (pv 0)) (a_cons (e_var (pv 1)) (a_nil)))) rfl hcE) (e_one (e_cmp op_notN p_notN (e_call (pe_call (ok_closing T c.CL hC_Web) (hr.mono (by decide)) rfl T.m_closing T.f_closing.kp T.b_closing .nil pass0 (a_cons (e_var (pv 0)) (a_cons (e_var (pv 1)) (a_nil)))) rfl hcE) (e_non) (nomark _)))))) (ss_nil)
theorem sc_all_rings : FnScope N_all_rings ["web"] (defScope st_all_rings) := ⟨rfl, rfl, rfl, by decide +kernel, rfl, by decide +kernel, by decide +kernel⟩
theorem ok_all_rings {P : Program} {w : World} {K : PySem.W.Frag} {mg : Str → Option Value} {base : Heap} (T : Facts K mg) (CL : CLs) (h0_Web : CL 0 = (T.q_Web, fs_Web)) : FnOk P w K mg base CX0 5 T.a_all_rings T.d_all_rings ["web"] (spF K CL F_all_rings 1) :=
  fn_ok (k := 4) (n := 1) (ir := ir_all_rings) T.f_all_rings sc_all_rings rfl (by decide) fun cdv A outer s H E c hcl hcE hr => by
    have nd := sc_all_rings.nd
    have hC_Web : c.CL 0 = (T.q_Web, fs_Web) := hcl ▸ h0_Web
    exact ss_cons (s_ite (t_cmp p_gt (pt_cmpR op_gt (e_prim p_len (pe_callB call_len (by rfl) T.z_len (by decide +kernel) (a_cons (e_fld (fld_of hC_Web T.cl_Web T.na_Web_pieces (by decide) rfl) (e_var (pv 0))) (a_nil)))) (e_glob (v := .int 12) rfl T.c_MOST_PIECES_rings ⟨_, rfl⟩ (fun _ => .int _)) (nomark _))) (ss_cons (s_never) (ss_nil)) (ss_nil)) (ss_cons (s_asg (ps_set (i := 1) nd rfl (.inl rfl) (e_lst (pe_lst (d_nil)))) (fun _ _ _ q => q)) (ss_cons (s_for i_range2 (ps_for PassesOwn.never rfl (pi_range2 (by rfl) T.z_range (a_cons (e_int) (a_cons (e_bin o_add p_add (e_fld (fld_of hC_Web T.cl_Web T.na_Web_many (by decide) rfl) (e_var (pv 0))) (e_int)) (a_nil)))) (g_name (pg_name (i := 2) nd rfl (.inl rfl))) (ss_cons (s_for i_cmb (ps_for PassesOwn.never rfl (pi_cmb rfl (by rfl) T.i_combinations (by rfl) T.z_range (e_prim p_len (pe_callB call_len (by rfl) T.z_len (by decide +kernel) (a_cons (e_fld (fld_of hC_Web T.cl_Web T.na_Web_pieces (by decide) rfl) (e_var (pv 0))) (a_nil)))) (pv 2)) (g_name (pg_name (i := 3) nd rfl (.inl rfl))) (ss_cons (s_ite (t_cmp p_notN (pt_cmpR op_notN (e_call (pe_call (ok_closing T c.CL hC_Web) (hr.mono (by decide)) rfl T.m_closing T.f_closing.kp T.b_closing .nil pass0 (a_cons (e_var (pv 0)) (a_cons (e_var (pv 3)) (a_nil)))) rfl hcE) (e_non) (nomark _))) (ss_cons (s_ex (ps_expr (e_mut m_append (pe_bm PySem.F.plainAttrs_list PySem.F.slot_list_append PySem.F.type_list_append mt_append (pv 1) (d_cons (e_var (pv 3)) (d_nil))))) (fun _ _ _ q => q)) (ss_nil)) (ss_nil)) (ss_nil)))) (ss_nil)))) (ss_cons (s_ret (e_var (pv 1))) (ss_nil))))
theorem sc_law_tape : FnScope N_law_tape ["_law_script"] (defScope st_law_tape) := ⟨rfl, rfl, rfl, by decide +kernel, rfl, by decide +kernel, by decide +kernel⟩
theorem ok_law_tape {P : Program} {w : World} {K : PySem.W.Frag} {mg : Str → Option Value} {base : Heap} (T : Facts K mg) (CL : CLs) : FnOk P w K mg base CX0 1 T.a_law_tape T.d_law_tape ["_law_script"] (spF K CL F_law_tape 1) :=
  fn_ok (k := 0) (n := 1) (ir := ir_law_tape) T.f_law_tape sc_law_tape rfl (by decide) fun cdv A outer s H E c hcl hcE hr => by
    have nd := sc_law_tape.nd
    exact ss_cons (s_ret (e_lst (pe_lst (d_cons (e_prim p_list (pe_callTy call_list_of (by rfl) T.z_list (by decide +kernel) (a_cons (e_var (pv 0)) (a_nil)))) (d_cons (e_int) (d_cons (e_int) (d_cons (e_int) (d_cons (e_int) (d_nil))))))))) (ss_nil)
theorem sc_law_pick : FnScope N_law_pick ["_law_tape_here", "_law_many"] (defScope st_law_pick) := ⟨rfl, rfl, rfl, by decide +kernel, rfl, by decide +kernel, by decide +kernel⟩
theorem ok_law_pick {P : Program} {w : World} {K : PySem.W.Frag} {mg : Str → Option Value} {base : Heap} (T : Facts K mg) (CL : CLs) : FnOk P w K mg base CX0 1 T.a_law_pick T.d_law_pick ["_law_tape_here", "_law_many"] (spF K CL F_law_pick 2) :=
  fn_ok (k := 0) (n := 2) (ir := ir_law_pick) T.f_law_pick sc_law_pick rfl (by decide) fun cdv A outer s H E c hcl hcE hr => by
    have nd := sc_law_pick.nd
    exact ss_cons (s_ite (t_cmp p_gt (pt_cmpR op_gt (e_ix ix_seq p_ix (e_var (pv 0)) (e_int) (fun _ _ => rfl)) (e_int) (nomark _))) (ss_cons (s_asg (ps_set (i := 2) nd rfl (.inl rfl) (e_bin op_mod p_mod (e_prim p_int (pe_callTy call_int1 (by rfl) T.z_int (by decide +kernel) (a_cons (e_ix ix_seq p_ix (e_var (pv 0)) (e_int) (fun _ _ => rfl)) (a_nil)))) (e_var (pv 1)))) (fun _ _ _ q => q)) (ss_cons (s_seti (ps_asg (e_bin op_fdiv p_div (e_ix ix_seq p_ix (e_var (pv 0)) (e_int) (fun _ _ => rfl)) (e_var (pv 1))) (pg_sub (pv 0) (e_int) set_list))) (ss_cons (s_ret (e_var (pv 2))) (ss_nil)))) (ss_nil)) (ss_cons (s_seti (ps_asg (e_bin o_add p_add (e_ix ix_seq p_ix (e_var (pv 0)) (e_int) (fun _ _ => rfl)) (e_int)) (pg_sub (pv 0) (e_int) set_list))) (ss_cons (s_asg (ps_set (i := 3) nd rfl (.inl rfl) (e_int)) (fun _ _ _ q => q)) (ss_cons (s_ite (t_cmp p_lt (pt_cmpR op_lt (e_ix ix_seq p_ix (e_var (pv 0)) (e_int) (fun _ _ => rfl)) (e_prim p_len (pe_callB call_len (by rfl) T.z_len (by decide +kernel) (a_cons (e_ix ix_seq p_ix (e_var (pv 0)) (e_int) (fun _ _ => rfl)) (a_nil)))) (nomark _))) (ss_cons (s_asg (ps_set (i := 3) nd rfl (.inl rfl) (e_prim p_abs (pe_callB call_abs (by rfl) T.z_abs (by decide +kernel) (a_cons (e_prim p_int (pe_callTy call_int1 (by rfl) T.z_int (by decide +kernel) (a_cons (e_ix ix_seq p_ix (e_ix ix_seq p_ix (e_var (pv 0)) (e_int) (fun _ _ => rfl)) (e_ix ix_seq p_ix (e_var (pv 0)) (e_int) (fun _ _ => rfl)) (fun _ _ => rfl)) (a_nil)))) (a_nil))))) (fun _ _ _ q => q)) (ss_cons (s_seti (ps_asg (e_bin o_add p_add (e_ix ix_seq p_ix (e_var (pv 0)) (e_int) (fun _ _ => rfl)) (e_int)) (pg_sub (pv 0) (e_int) set_list))) (ss_nil))) (ss_nil)) (ss_cons (s_ite (t_cmp p_ge (pt_cmpR op_ge (e_var (pv 3)) (e_bin op_pow p_pow (e_int) (e_int)) (nomark _))) (ss_cons (s_seti (ps_asg (e_bin op_fdiv p_div (e_var (pv 3)) (e_var (pv 1))) (pg_sub (pv 0) (e_int) set_list))) (ss_cons (s_ret (e_bin op_mod p_mod (e_prim p_int (pe_callTy call_int1 (by rfl) T.z_int (by decide +kernel) (a_cons (e_var (pv 3)) (a_nil)))) (e_var (pv 1)))) (ss_nil))) (ss_nil)) (ss_cons (s_asg (ps_set (i := 4) nd rfl (.inl rfl) (e_prim p_int (pe_callTy call_int1 (by rfl) T.z_int (by decide +kernel) (a_cons (e_bin o_add p_add (e_bin o_mul p_mul (e_ix ix_seq p_ix (e_var (pv 0)) (e_int) (fun _ _ => rfl)) (e_int)) (e_bin op_mod p_mod (e_prim p_int (pe_callTy call_int1 (by rfl) T.z_int (by decide +kernel) (a_cons (e_var (pv 3)) (a_nil)))) (e_int))) (a_nil))))) (fun _ _ _ q => q)) (ss_cons (s_asg (ps_set (i := 4) nd rfl (.inl rfl) (e_bin op_mod p_mod (e_prim p_int (pe_callTy call_int1 (by rfl) T.z_int (by decide +kernel) (a_cons (e_bin o_add p_add (e_var (pv 4)) (e_bin o_mul p_mul (e_ix ix_seq p_ix (e_var (pv 0)) (e_int) (fun _ _ => rfl)) (e_int))) (a_nil)))) (e_int))) (fun _ _ _ q => q)) (ss_cons (s_asg (ps_set (i := 4) nd rfl (.inl rfl) (e_bin op_mod p_mod (e_prim p_int (pe_callTy call_int1 (by rfl) T.z_int (by decide +kernel) (a_cons (e_bin o_mul p_mul (e_var (pv 4)) (e_bin o_add p_add (e_bin op_fdiv p_div (e_var (pv 4)) (e_int)) (e_int))) (a_nil)))) (e_int))) (fun _ _ _ q => q)) (ss_cons (s_seti (ps_asg (e_var (pv 4)) (pg_sub (pv 0) (e_int) set_list))) (ss_cons (s_ret (e_bin op_mod p_mod (e_prim p_int (pe_callTy call_int1 (by rfl) T.z_int (by decide +kernel) (a_cons (e_bin op_fdiv p_div (e_var (pv 4)) (e_int)) (a_nil)))) (e_var (pv 1)))) (ss_nil))))))))))
theorem sc_law_any : FnScope N_law_any ["_law_tape_here", "_law_things"] (defScope st_law_any) := ⟨rfl, rfl, rfl, by decide +kernel, rfl, by decide +kernel, by decide +kernel⟩
theorem ok_law_any {P : Program} {w : World} {K : PySem.W.Frag} {mg : Str → Option Value} {base : Heap} (T : Facts K mg) (CL : CLs) : FnOk P w K mg base CX0 2 T.a_law_any T.d_law_any ["_law_tape_here", "_law_things"] (spF K CL F_law_any 2) :=
  fn_ok (k := 1) (n := 2) (ir := ir_law_any) T.f_law_any sc_law_any rfl (by decide) fun cdv A outer s H E c hcl hcE hr => by
    have nd := sc_law_any.nd
    exact ss_cons (s_ret (e_ix ix_seq p_ix (e_var (pv 1)) (e_call (pe_call (ok_law_pick T c.CL) (hr.mono (by decide)) rfl T.m_law_pick T.f_law_pick.kp T.b_law_pick .nil pass0 (a_cons (e_var (pv 0)) (a_cons (e_prim p_len (pe_callB call_len (by rfl) T.z_len (by decide +kernel) (a_cons (e_var (pv 1)) (a_nil)))) (a_nil)))) rfl hcE) (fun _ _ => rfl))) (ss_nil)
theorem sc_law_mixed : FnScope N_law_mixed ["_law_tape_here", "_law_things"] (defScope st_law_mixed) := ⟨rfl, rfl, rfl, by decide +kernel, rfl, by decide +kernel, by decide +kernel⟩
theorem ok_law_mixed {P : Program} {w : World} {K : PySem.W.Frag} {mg : Str → Option Value} {base : Heap} (T : Facts K mg) (CL : CLs) : FnOk P w K mg base CX0 2 T.a_law_mixed T.d_law_mixed ["_law_tape_here", "_law_things"] (spF K CL F_law_mixed 2) :=
  fn_ok (k := 1) (n := 2) (ir := ir_law_mixed) T.f_law_mixed sc_law_mixed rfl (by decide) fun cdv A outer s H E c hcl hcE hr => by
    have nd := sc_law_mixed.nd
    exact ss_cons (s_asg (ps_set (i := 2) nd rfl (.inr rfl) (e_prim p_list (pe_callTy call_list_of (by rfl) T.z_list (by decide +kernel) (a_cons (e_var (pv 1)) (a_nil))))) (fun _ _ _ q => q)) (ss_cons (s_ret (e_lc i_range1 (pe_lc (own := [("_law_at", 3)]) rfl nd (pi_range1 (by rfl) T.z_range (a_cons (e_prim p_len (pe_callB call_len (by rfl) T.z_len (by decide +kernel) (a_cons (e_var (pv 1)) (a_nil)))) (a_nil))) (blkOk_by (N := N_law_mixed) (sc := defScope st_law_mixed) (by decide +kernel)) (fun _ _ _ _ _ => g_name (pg_name (i := 3) nd rfl (by first | exact .inl rfl | exact .inr rfl))) (fun _ _ _ _ _ => o_none) (fun _ _ _ _ _ => e_mut m_popAt (pe_bm PySem.F.plainAttrs_list PySem.F.slot_list_pop PySem.F.type_list_pop mt_popAt (pv 2) (d_cons (e_call (pe_call (ok_law_pick T c.CL) (hr.mono (by decide)) rfl T.m_law_pick T.f_law_pick.kp T.b_law_pick .nil pass0 (a_cons (e_var (pv 0)) (a_cons (e_prim p_len (pe_callB call_len (by rfl) T.z_len (by decide +kernel) (a_cons (e_var (pv 2)) (a_nil)))) (a_nil)))) rfl (fun _ _ _ z => z)) (d_nil))))))) (ss_nil))
theorem sc_law_inverse : FnScope N_law_inverse ["_law_prime", "_law_value"] (defScope st_law_inverse) := ⟨rfl, rfl, rfl, by decide +kernel, rfl, by decide +kernel, by decide +kernel⟩
theorem ok_law_inverse {P : Program} {w : World} {K : PySem.W.Frag} {mg : Str → Option Value} {base : Heap} (T : Facts K mg) (CL : CLs) : FnOk P w K mg base CX0 1 T.a_law_inverse T.d_law_inverse ["_law_prime", "_law_value"] (spF K CL F_law_inverse 2) :=
  fn_ok (k := 0) (n := 2) (ir := ir_law_inverse) T.f_law_inverse sc_law_inverse rfl (by decide) fun cdv A outer s H E c hcl hcE hr => by
    have nd := sc_law_inverse.nd
    exact ss_cons (s_for i_range1 (ps_for PassesOwn.never rfl (pi_range1 (by rfl) T.z_range (a_cons (e_var (pv 0)) (a_nil))) (g_name (pg_name (i := 2) nd rfl (.inl rfl))) (ss_cons (s_ite (t_cmp p_eq (pt_cmpR (op_eqD hr.units) (e_bin op_mod p_mod (e_prim p_int (pe_callTy call_int1 (by rfl) T.z_int (by decide +kernel) (a_cons (e_bin o_mul p_mul (e_var (pv 1)) (e_var (pv 2))) (a_nil)))) (e_var (pv 0))) (e_int) (nomark _))) (ss_cons (s_ret (e_var (pv 2))) (ss_nil)) (ss_nil)) (ss_nil)))) (ss_cons (s_ret (e_int)) (ss_nil))
theorem sc_law_less : FnScope N_law_less ["_law_prime", "_law_row", "_law_times", "_law_lead"] (defScope st_law_less) := ⟨rfl, rfl, rfl, by decide +kernel, rfl, by decide +kernel, by decide +kernel⟩
theorem ok_law_less {P : Program} {w : World} {K : PySem.W.Frag} {mg : Str → Option Value} {base : Heap} (T : Facts K mg) (CL : CLs) : FnOk P w K mg base CX0 1 T.a_law_less T.d_law_less ["_law_prime", "_law_row", "_law_times", "_law_lead"] (spF K CL F_law_less 4) :=
  fn_ok (k := 0) (n := 4) (ir := ir_law_less) T.f_law_less sc_law_less rfl (by decide) fun cdv A outer s H E c hcl hcE hr => by
    have nd := sc_law_less.nd
    exact ss_cons (s_ret (e_lc i_zipM (pe_lc (own := [("_law_one", 4), ("_law_other", 5)]) rfl nd (pi_zipM (by rfl) T.z_zip (a_cons (e_var (pv 1)) (a_cons (e_var (pv 3)) (a_nil)))) (blkOk_by (N := N_law_less) (sc := defScope st_law_less) (by decide +kernel)) (fun _ _ _ _ _ => g_tup (is := [4, 5]) (pg_tup rfl (pgs_cons (pg_name (i := 4) nd rfl (by first | exact .inl rfl | exact .inr rfl)) (pgs_cons (pg_name (i := 5) nd rfl (by first | exact .inl rfl | exact .inr rfl)) (pgs_nil))))) (fun _ _ _ _ _ => o_none) (fun _ _ _ _ _ => e_bin op_mod p_mod (e_prim p_int (pe_callTy call_int1 (by rfl) T.z_int (by decide +kernel) (a_cons (e_bin op_sub p_sub (e_var (pv 4)) (e_bin o_mul p_mul (e_var (pv 2)) (e_var (pv 5)))) (a_nil)))) (e_var (pv 0)))))) (ss_nil)
theorem sc_law_rank : FnScope N_law_rank ["_law_prime", "_law_rows"] (defScope st_law_rank) := ⟨rfl, rfl, rfl, by decide +kernel, rfl, by decide +kernel, by decide +kernel⟩
theorem ok_law_rank {P : Program} {w : World} {K : PySem.W.Frag} {mg : Str → Option Value} {base : Heap} (T : Facts K mg) (CL : CLs) : FnOk P w K mg base CX0 2 T.a_law_rank T.d_law_rank ["_law_prime", "_law_rows"] (spF K CL F_law_rank 2) :=
  fn_ok (k := 1) (n := 2) (ir := ir_law_rank) T.f_law_rank sc_law_rank rfl (by decide) fun cdv A outer s H E c hcl hcE hr => by
    have nd := sc_law_rank.nd
    exact ss_cons (s_par (by decide) (ps_par (i := 2) (j := 3) rfl nd rfl rfl (by decide) rfl rfl (pa_cons (e_lc i_seq (pe_lc (own := [("_law_row", 8)]) rfl nd (pi_seq (e_var (pv 1))) (blkOk_by (N := N_law_rank) (sc := defScope st_law_rank) (by decide +kernel)) (fun _ _ _ _ _ => g_name (pg_name (i := 8) nd rfl (by first | exact .inl rfl | exact .inr rfl))) (fun _ _ _ _ _ => o_none) (fun _ _ _ _ _ => e_prim p_list (pe_callTy call_list_of (by rfl) T.z_list (by decide +kernel) (a_cons (e_var (pv 8)) (a_nil)))))) (pa_cons (e_int) pa_nil)) (by rfl))) (ss_cons (s_for i_range1 (ps_for PassesOwn.never rfl (pi_range1 (by rfl) T.z_range (a_cons (e_ite (t_cmp p_gt (pt_cmpR op_gt (e_prim p_len (pe_callB call_len (by rfl) T.z_len (by decide +kernel) (a_cons (e_var (pv 2)) (a_nil)))) (e_int) (nomark _))) (e_prim p_len (pe_callB call_len (by rfl) T.z_len (by decide +kernel) (a_cons (e_ix ix_seq p_ix (e_var (pv 2)) (e_int) (fun _ _ => rfl)) (a_nil)))) (e_int)) (a_nil))) (g_name (pg_name (i := 4) nd rfl (.inr rfl))) (ss_cons (s_setLc i_enumA (ps_setLc (i := 5) (own := [("_law_index", 9), ("_law_row", 8)]) rfl nd rfl rfl (sw_true rfl rfl rfl (by decide +kernel)) (pi_enumA (by rfl) T.z_enumerate (a_cons (e_var (pv 2)) (a_nil))) (blkOk_by (N := N_law_rank) (sc := defScope st_law_rank) (by decide +kernel)) (fun _ _ _ _ _ => g_tup (is := [9, 8]) (pg_tup rfl (pgs_cons (pg_name (i := 9) nd rfl (by first | exact .inl rfl | exact .inr rfl)) (pgs_cons (pg_name (i := 8) nd rfl (by first | exact .inl rfl | exact .inr rfl)) (pgs_nil))))) (fun _ _ _ _ _ => o_some (t_cmp p_ne (pt_cmpR (op_neD hr.units) (e_ix ix_seq p_ix (e_var (pv 8)) (e_var (pv 4)) (fun _ _ => rfl)) (e_int) (nomark _)))) (fun _ _ _ _ _ => e_var (pv 9)))) (ss_cons (s_ite (t_cmp p_gt (pt_cmpR op_gt (e_prim p_len (pe_callB call_len (by rfl) T.z_len (by decide +kernel) (a_cons (e_var (pv 5)) (a_nil)))) (e_int) (nomark _))) (ss_cons (s_asg (ps_set (i := 6) nd rfl (.inr rfl) (e_mut m_popAt (pe_bm PySem.F.plainAttrs_list PySem.F.slot_list_pop PySem.F.type_list_pop mt_popAt (pv 2) (d_cons (e_ix ix_seq p_ix (e_var (pv 5)) (e_int) (fun _ _ => rfl)) (d_nil))))) (fun _ _ _ q => q)) (ss_cons (s_asg (ps_set (i := 7) nd rfl (.inr rfl) (e_call (pe_call (ok_law_inverse T c.CL) (hr.mono (by decide)) rfl T.m_law_inverse T.f_law_inverse.kp T.b_law_inverse .nil pass0 (a_cons (e_var (pv 0)) (a_cons (e_ix ix_seq p_ix (e_var (pv 6)) (e_var (pv 4)) (fun _ _ => rfl)) (a_nil)))) rfl hcE)) (fun _ _ _ q => q)) (ss_cons (s_setLc i_seq (ps_setLc (i := 2) (own := [("_law_row", 8)]) rfl nd rfl rfl (sw_true rfl rfl rfl (by decide +kernel)) (pi_seq (e_var (pv 2))) (blkOk_by (N := N_law_rank) (sc := defScope st_law_rank) (by decide +kernel)) (fun _ _ _ _ _ => g_name (pg_name (i := 8) nd rfl (by first | exact .inl rfl | exact .inr rfl))) (fun _ _ _ _ _ => o_none) (fun _ _ _ _ _ => e_call (pe_call (ok_law_less T c.CL) (hr.mono (by decide)) rfl T.m_law_less T.f_law_less.kp T.b_law_less .nil pass0 (a_cons (e_var (pv 0)) (a_cons (e_var (pv 8)) (a_cons (e_bin op_mod p_mod (e_prim p_int (pe_callTy call_int1 (by rfl) T.z_int (by decide +kernel) (a_cons (e_bin o_mul p_mul (e_ix ix_seq p_ix (e_var (pv 8)) (e_var (pv 4)) (fun _ _ => rfl)) (e_var (pv 7))) (a_nil)))) (e_var (pv 0))) (a_cons (e_var (pv 6)) (a_nil)))))) rfl (fun _ _ _ z => z)))) (ss_cons (s_asg (ps_set (i := 3) nd rfl (.inl rfl) (e_bin o_add p_add (e_var (pv 3)) (e_int))) (fun _ _ _ q => q)) (ss_nil))))) (ss_nil)) (ss_nil))))) (ss_cons (s_ret (e_var (pv 3))) (ss_nil)))
theorem sc_law_sum : FnScope N_law_sum ["_law_tape_here", "_law_prime", "_law_many"] (defScope st_law_sum) := ⟨rfl, rfl, rfl, by decide +kernel, rfl, by decide +kernel, by decide +kernel⟩
theorem ok_law_sum {P : Program} {w : World} {K : PySem.W.Frag} {mg : Str → Option Value} {base : Heap} (T : Facts K mg) (CL : CLs) : FnOk P w K mg base CX0 2 T.a_law_sum T.d_law_sum ["_law_tape_here", "_law_prime", "_law_many"] (spF K CL F_law_sum 3) :=
  fn_ok (k := 1) (n := 3) (ir := ir_law_sum) T.f_law_sum sc_law_sum rfl (by decide) fun cdv A outer s H E c hcl hcE hr => by
    have nd := sc_law_sum.nd
    exact ss_cons (s_par (by decide) (ps_par (i := 3) (j := 4) rfl nd rfl rfl (by decide) rfl rfl (pa_cons (e_call (pe_call (ok_law_pick T c.CL) (hr.mono (by decide)) rfl T.m_law_pick T.f_law_pick.kp T.b_law_pick .nil pass0 (a_cons (e_var (pv 0)) (a_cons (e_int) (a_nil)))) rfl hcE) (pa_cons (e_call (pe_call (ok_law_pick T c.CL) (hr.mono (by decide)) rfl T.m_law_pick T.f_law_pick.kp T.b_law_pick .nil pass0 (a_cons (e_var (pv 0)) (a_cons (e_var (pv 2)) (a_nil)))) rfl hcE) pa_nil)) (by rfl))) (ss_cons (s_asg (ps_set (i := 5) nd rfl (.inl rfl) (e_bin o_mul p_mul (e_lst (pe_lst (d_cons (e_int) (d_nil)))) (e_var (pv 2)))) (fun _ _ _ q => q)) (ss_cons (s_ite (t_w (w_or (t_cmp p_lt (pt_cmpR op_lt (e_var (pv 3)) (e_int) (nomark _))) (w_or1 (t_cmp p_eq (pt_cmpR (op_eqD hr.units) (e_var (pv 2)) (e_int) (nomark _)))))) (ss_cons (s_seti (ps_asg (e_ite (t_cmp p_lt (pt_cmpR op_lt (e_var (pv 3)) (e_int) (nomark _))) (e_int) (e_bin o_add p_add (e_int) (e_call (pe_call (ok_law_pick T c.CL) (hr.mono (by decide)) rfl T.m_law_pick T.f_law_pick.kp T.b_law_pick .nil pass0 (a_cons (e_var (pv 0)) (a_cons (e_bin op_sub p_sub (e_var (pv 1)) (e_int)) (a_nil)))) rfl hcE))) (pg_sub (pv 5) (e_var (pv 4)) set_list))) (ss_cons (s_ret (e_prim p_tuple (pe_callTy call_tuple_of (by rfl) T.z_tuple (by decide +kernel) (a_cons (e_var (pv 5)) (a_nil))))) (ss_nil))) (ss_nil)) (ss_cons (s_ite (t_cmp p_eq (pt_cmpR (op_eqD hr.units) (e_var (pv 3)) (e_int) (nomark _))) (ss_cons (s_seti2 (ps_asg (e_tup (pe_tup (d_cons (e_int) (d_cons (e_bin op_sub p_sub (e_var (pv 1)) (e_int)) (d_nil))))) (pg_tup rfl (pgs_cons (pg_sub (pv 5) (e_var (pv 4)) set_list) (pgs_cons (pg_sub (pv 5) (e_bin op_mod p_mod (e_bin o_add p_add (e_bin o_add p_add (e_var (pv 4)) (e_int)) (e_call (pe_call (ok_law_pick T c.CL) (hr.mono (by decide)) rfl T.m_law_pick T.f_law_pick.kp T.b_law_pick .nil pass0 (a_cons (e_var (pv 0)) (a_cons (e_bin op_sub p_sub (e_var (pv 2)) (e_int)) (a_nil)))) rfl hcE)) (e_var (pv 2))) set_list) pgs_nil))))) (ss_cons (s_ret (e_prim p_tuple (pe_callTy call_tuple_of (by rfl) T.z_tuple (by decide +kernel) (a_cons (e_var (pv 5)) (a_nil))))) (ss_nil))) (ss_nil)) (ss_cons (s_setLc i_range1 (ps_setLc (i := 5) (own := [("_law_place", 6)]) rfl nd rfl rfl (sw_true rfl rfl rfl (by decide +kernel)) (pi_range1 (by rfl) T.z_range (a_cons (e_var (pv 2)) (a_nil))) (blkOk_by (N := N_law_sum) (sc := defScope st_law_sum) (by decide +kernel)) (fun _ _ _ _ _ => g_name (pg_name (i := 6) nd rfl (by first | exact .inl rfl | exact .inr rfl))) (fun _ _ _ _ _ => o_none) (fun _ _ _ _ _ => e_ite (t_cmp p_gt (pt_cmpR op_gt (e_call (pe_call (ok_law_pick T c.CL) (hr.mono (by decide)) rfl T.m_law_pick T.f_law_pick.kp T.b_law_pick .nil pass0 (a_cons (e_var (pv 0)) (a_cons (e_int) (a_nil)))) rfl (fun _ _ _ z => z)) (e_int) (nomark _))) (e_call (pe_call (ok_law_pick T c.CL) (hr.mono (by decide)) rfl T.m_law_pick T.f_law_pick.kp T.b_law_pick .nil pass0 (a_cons (e_var (pv 0)) (a_cons (e_var (pv 1)) (a_nil)))) rfl (fun _ _ _ z => z)) (e_int)))) (ss_cons (s_seti (ps_asg (e_bin o_add p_add (e_int) (e_call (pe_call (ok_law_pick T c.CL) (hr.mono (by decide)) rfl T.m_law_pick T.f_law_pick.kp T.b_law_pick .nil pass0 (a_cons (e_var (pv 0)) (a_cons (e_bin op_sub p_sub (e_var (pv 1)) (e_int)) (a_nil)))) rfl hcE)) (pg_sub (pv 5) (e_var (pv 4)) set_list))) (ss_cons (s_ret (e_prim p_tuple (pe_callTy call_tuple_of (by rfl) T.z_tuple (by decide +kernel) (a_cons (e_var (pv 5)) (a_nil))))) (ss_nil)))))))
theorem sc_law_pieces : FnScope N_law_pieces ["_law_tape_here", "_law_prime", "_law_many", "_law_count", "_law_sizes"] (defScope st_law_pieces) := ⟨rfl, rfl, rfl, by decide +kernel, rfl, by decide +kernel, by decide +kernel⟩
theorem ok_law_pieces {P : Program} {w : World} {K : PySem.W.Frag} {mg : Str → Option Value} {base : Heap} (T : Facts K mg) (CL : CLs) : FnOk P w K mg base CX0 3 T.a_law_pieces T.d_law_pieces ["_law_tape_here", "_law_prime", "_law_many", "_law_count", "_law_sizes"] (spF K CL F_law_pieces 5) :=
  fn_ok (k := 2) (n := 5) (ir := ir_law_pieces) T.f_law_pieces sc_law_pieces rfl (by decide) fun cdv A outer s H E c hcl hcE hr => by
    have nd := sc_law_pieces.nd
    exact ss_cons (s_asg (ps_set (i := 5) nd rfl (.inl rfl) (e_lst (pe_lst (d_nil)))) (fun _ _ _ q => q)) (ss_cons (s_for i_range1 (ps_for PassesOwn.never rfl (pi_range1 (by rfl) T.z_range (a_cons (e_var (pv 3)) (a_nil))) (g_name (pg_name (i := 6) nd rfl (.inl rfl))) (ss_cons (s_asg (ps_set (i := 7) nd rfl (.inl rfl) (e_call (pe_call (ok_law_sum T c.CL) (hr.mono (by decide)) rfl T.m_law_sum T.f_law_sum.kp T.b_law_sum .nil pass0 (a_cons (e_var (pv 0)) (a_cons (e_var (pv 1)) (a_cons (e_var (pv 2)) (a_nil))))) rfl hcE)) (fun _ _ _ q => q)) (ss_cons (s_ite (t_w (w_and (t_cmp p_gt (pt_cmpR op_gt (e_var (pv 6)) (e_int) (nomark _))) (w_and1 (t_cmp p_eq (pt_cmpR (op_eqD hr.units) (e_call (pe_call (ok_law_pick T c.CL) (hr.mono (by decide)) rfl T.m_law_pick T.f_law_pick.kp T.b_law_pick .nil pass0 (a_cons (e_var (pv 0)) (a_cons (e_int) (a_nil)))) rfl hcE) (e_int) (nomark _)))))) (ss_cons (s_asg (ps_set (i := 7) nd rfl (.inl rfl) (e_ix ix_seq p_ix (e_ix ix_seq p_ix (e_var (pv 5)) (e_call (pe_call (ok_law_pick T c.CL) (hr.mono (by decide)) rfl T.m_law_pick T.f_law_pick.kp T.b_law_pick .nil pass0 (a_cons (e_var (pv 0)) (a_cons (e_var (pv 6)) (a_nil)))) rfl hcE) (fun _ _ => rfl)) (e_int) (fun _ _ => rfl))) (fun _ _ _ q => q)) (ss_nil)) (ss_nil)) (ss_cons (s_ex (ps_expr (e_mut m_append (pe_bm PySem.F.plainAttrs_list PySem.F.slot_list_append PySem.F.type_list_append mt_append (pv 5) (d_cons (e_tup (pe_tup (d_cons (e_var (pv 7)) (d_cons (e_bin o_add p_add (e_int) (e_call (pe_call (ok_law_pick T c.CL) (hr.mono (by decide)) rfl T.m_law_pick T.f_law_pick.kp T.b_law_pick .nil pass0 (a_cons (e_var (pv 0)) (a_cons (e_var (pv 4)) (a_nil)))) rfl hcE)) (d_nil))))) (d_nil))))) (fun _ _ _ q => q)) (ss_nil)))))) (ss_cons (s_ret (e_var (pv 5))) (ss_nil)))
theorem sc_law_small : FnScope N_law_small ["_law_tape_here", "_law_most"] (defScope st_law_small) := ⟨rfl, rfl, rfl, by decide +kernel, rfl, by decide +kernel, by decide +kernel⟩
theorem ok_law_small {P : Program} {w : World} {K : PySem.W.Frag} {mg : Str → Option Value} {base : Heap} (T : Facts K mg) (CL : CLs) : FnOk P w K mg base CX0 4 T.a_law_small T.d_law_small ["_law_tape_here", "_law_most"] (spF K CL F_law_small 2) :=
  fn_ok (k := 3) (n := 2) (ir := ir_law_small) T.f_law_small sc_law_small rfl (by decide) fun cdv A outer s H E c hcl hcE hr => by
    have nd := sc_law_small.nd
    exact ss_cons (s_par (by decide) (ps_par (i := 2) (j := 3) rfl nd rfl rfl (by decide) rfl rfl (pa_cons (e_call (pe_call (ok_law_any T c.CL) (hr.mono (by decide)) rfl T.m_law_any T.f_law_any.kp T.b_law_any .nil pass0 (a_cons (e_var (pv 0)) (a_cons (e_lst (pe_lst (d_cons (e_int) (d_cons (e_int) (d_cons (e_int) (d_cons (e_int) (d_cons (e_int) (d_nil)))))))) (a_nil)))) rfl hcE) (pa_cons (e_bin o_add p_add (e_int) (e_call (pe_call (ok_law_pick T c.CL) (hr.mono (by decide)) rfl T.m_law_pick T.f_law_pick.kp T.b_law_pick .nil pass0 (a_cons (e_var (pv 0)) (a_cons (e_int) (a_nil)))) rfl hcE)) pa_nil)) (by rfl))) (ss_cons (s_ret (e_tup (pe_tup (d_cons (e_var (pv 2)) (d_cons (e_var (pv 3)) (d_cons (e_call (pe_call (ok_law_pieces T c.CL) (hr.mono (by decide)) rfl T.m_law_pieces T.f_law_pieces.kp T.b_law_pieces .nil pass0 (a_cons (e_var (pv 0)) (a_cons (e_var (pv 2)) (a_cons (e_var (pv 3)) (a_cons (e_bin o_add p_add (e_int) (e_call (pe_call (ok_law_pick T c.CL) (hr.mono (by decide)) rfl T.m_law_pick T.f_law_pick.kp T.b_law_pick .nil pass0 (a_cons (e_var (pv 0)) (a_cons (e_var (pv 1)) (a_nil)))) rfl hcE)) (a_cons (e_call (pe_call (ok_law_any T c.CL) (hr.mono (by decide)) rfl T.m_law_any T.f_law_any.kp T.b_law_any .nil pass0 (a_cons (e_var (pv 0)) (a_cons (e_lst (pe_lst (d_cons (e_int) (d_cons (e_int) (d_cons (e_int) (d_cons (e_bin op_pow p_pow (e_int) (e_int)) (d_nil))))))) (a_nil)))) rfl hcE) (a_nil))))))) rfl hcE) (d_nil))))))) (ss_nil))
theorem sc_law_in : FnScope N_law_in ["_law_told", "_law_lot"] (defScope st_law_in) := ⟨rfl, rfl, rfl, by decide +kernel, rfl, by decide +kernel, by decide +kernel⟩
theorem ok_law_in {P : Program} {w : World} {K : PySem.W.Frag} {mg : Str → Option Value} {base : Heap} (T : Facts K mg) (CL : CLs) : FnOk P w K mg base CX0 3 T.a_law_in T.d_law_in ["_law_told", "_law_lot"] (spF K CL F_law_in 2) :=
  fn_ok (k := 2) (n := 2) (ir := ir_law_in) T.f_law_in sc_law_in rfl (by decide) fun cdv A outer s H E c hcl hcE hr => by
    have nd := sc_law_in.nd
    exact ss_cons (s_ret (e_call (pe_call (ok_law_rank T c.CL) (hr.mono (by decide)) rfl T.m_law_rank T.f_law_rank.kp T.b_law_rank .nil pass0 (a_cons (e_ix ix_seq p_ix (e_var (pv 0)) (e_int) (fun _ _ => rfl)) (a_cons (e_lc i_seq (pe_lc (own := [("_law_piece", 2)]) rfl nd (pi_seq (e_var (pv 1))) (blkOk_by (N := N_law_in) (sc := defScope st_law_in) (by decide +kernel)) (fun _ _ _ _ _ => g_name (pg_name (i := 2) nd rfl (by first | exact .inl rfl | exact .inr rfl))) (fun _ _ _ _ _ => o_none) (fun _ _ _ _ _ => e_ix ix_seq p_ix (e_ix ix_seq p_ix (e_ix ix_seq p_ix (e_var (pv 0)) (e_int) (fun _ _ => rfl)) (e_var (pv 2)) (fun _ _ => rfl)) (e_int) (fun _ _ => rfl)))) (a_nil)))) rfl hcE)) (ss_nil)
theorem sc_law_leans : FnScope N_law_leans ["_law_told", "_law_lot"] (defScope st_law_leans) := ⟨rfl, rfl, rfl, by decide +kernel, rfl, by decide +kernel, by decide +kernel⟩
theorem ok_law_leans {P : Program} {w : World} {K : PySem.W.Frag} {mg : Str → Option Value} {base : Heap} (T : Facts K mg) (CL : CLs) : FnOk P w K mg base CX0 4 T.a_law_leans T.d_law_leans ["_law_told", "_law_lot"] (spF K CL F_law_leans 2) :=
  fn_ok (k := 3) (n := 2) (ir := ir_law_leans) T.f_law_leans sc_law_leans rfl (by decide) fun cdv A outer s H E c hcl hcE hr => by
    have nd := sc_law_leans.nd
    exact ss_cons (s_ret (e_cmp (op_eqD hr.units) p_eq (e_call (pe_call (ok_law_in T c.CL) (hr.mono (by decide)) rfl T.m_law_in T.f_law_in.kp T.b_law_in .nil pass0 (a_cons (e_var (pv 0)) (a_cons (e_var (pv 1)) (a_nil)))) rfl hcE) (e_prim p_len (pe_callB call_len (by rfl) T.z_len (by decide +kernel) (a_cons (e_var (pv 1)) (a_nil)))) (nomark _))) (ss_nil)
theorem sc_law_lots : FnScope N_law_lots ["_law_many"] (defScope st_law_lots) := ⟨rfl, rfl, rfl, by decide +kernel, rfl, by decide +kernel, by decide +kernel⟩
theorem ok_law_lots {P : Program} {w : World} {K : PySem.W.Frag} {mg : Str → Option Value} {base : Heap} (T : Facts K mg) (CL : CLs) (h1_law_lots : LamAt base mg CL T.d_law_lots.code ("_law_lots" ++ ".<locals>.")) : FnOk P w K mg base CX0 4 T.a_law_lots T.d_law_lots ["_law_many"] (spF K CL F_law_lots 1) :=
  fn_okL (k := 3) (n := 1) (ir := ir_law_lots) h1_law_lots T.f_law_lots sc_law_lots rfl (by decide) fun cdv A outer s H E c hcl hcE hl hr => by
    have hlm : LamAt base mg c.CL cdv ("_law_lots" ++ ".<locals>.") := hcl ▸ hl
    have nd := sc_law_lots.nd
    have hM_law_lots : LamAt base mg c.CL T.d_law_lots.code ("_law_lots" ++ ".<locals>.") := hcl ▸ h1_law_lots
    exact ss_cons (s_asg (ps_set (i := 1) nd rfl (.inl rfl) (e_lst (pe_lst (d_cons (e_tup (pe_tup (d_nil))) (d_nil))))) (fun _ _ _ q => q)) (ss_cons (s_for i_range1 (ps_for PassesOwn.never rfl (pi_range1 (by rfl) T.z_range (a_cons (e_var (pv 0)) (a_nil))) (g_name (pg_name (i := 2) nd rfl (.inr rfl))) (ss_cons (s_asg (ps_set (i := 1) nd rfl (.inl rfl) (e_bin o_add p_add (e_var (pv 1)) (e_lc i_seq (pe_lc (own := [("_law_lot", 3)]) rfl nd (pi_seq (e_var (pv 1))) (blkOk_by (N := N_law_lots) (sc := defScope st_law_lots) (by decide +kernel)) (fun _ _ _ _ _ => g_name (pg_name (i := 3) nd rfl (by first | exact .inl rfl | exact .inr rfl))) (fun _ _ _ _ _ => o_none) (fun _ _ _ _ _ => e_bin o_add p_add (e_var (pv 3)) (e_tup (pe_tup (d_cons (e_var (pv 2)) (d_nil))))))))) (fun _ _ _ q => q)) (ss_nil)))) (ss_cons (s_ret (e_sortL (k := 0) (j := 3) (nm := "_law_lot") hlm (by rfl) T.z_sorted (by decide +kernel) (a_cons (e_var (pv 1)) (a_nil)) rfl (lamS1_by (sc := defScope st_law_lots) (by decide +kernel)) nd rfl (hr.mono (by decide)) (fun _ _ _ _ _ _ => rfl) (fun A s H f c' hr => e_tup (pe_tup (d_cons (e_prim p_len (pe_callB call_len (by rfl) T.z_len (by decide +kernel) (a_cons (e_var (pv 3)) (a_nil)))) (d_cons (e_var (pv 3)) (d_nil))))))) (ss_nil)))
theorem sc_law_holds : FnScope N_law_holds ["_law_lot", "_law_other"] (defScope st_law_holds) := ⟨rfl, rfl, rfl, by decide +kernel, rfl, by decide +kernel, by decide +kernel⟩
theorem ok_law_holds {P : Program} {w : World} {K : PySem.W.Frag} {mg : Str → Option Value} {base : Heap} (T : Facts K mg) (CL : CLs) : FnOk P w K mg base CX0 1 T.a_law_holds T.d_law_holds ["_law_lot", "_law_other"] (spF K CL F_law_holds 2) :=
  fn_ok (k := 0) (n := 2) (ir := ir_law_holds) T.f_law_holds sc_law_holds rfl (by decide) fun cdv A outer s H E c hcl hcE hr => by
    have nd := sc_law_holds.nd
    exact ss_cons (s_ret (e_prim p_all (pe_callB (cr_all rfl) (by rfl) T.z_all (by decide +kernel) (a_cons (e_lc i_seq (pe_lc (own := [("_law_piece", 2)]) rfl nd (pi_seq (e_var (pv 1))) (blkOk_by (N := N_law_holds) (sc := defScope st_law_holds) (by decide +kernel)) (fun _ _ _ _ _ => g_name (pg_name (i := 2) nd rfl (by first | exact .inl rfl | exact .inr rfl))) (fun _ _ _ _ _ => o_none) (fun _ _ _ _ _ => e_cmp (op_inM (units65 hr)) p_inM (e_var (pv 2)) (e_var (pv 0)) (by rfl)))) (a_nil))))) (ss_nil)
theorem sc_law_odd : FnScope N_law_odd ["_law_tape_here"] (defScope st_law_odd) := ⟨rfl, rfl, rfl, by decide +kernel, rfl, by decide +kernel, by decide +kernel⟩
theorem ok_law_odd {P : Program} {w : World} {K : PySem.W.Frag} {mg : Str → Option Value} {base : Heap} (T : Facts K mg) (CL : CLs) : FnOk P w K mg base CX0 3 T.a_law_odd T.d_law_odd ["_law_tape_here"] (spF K CL F_law_odd 1) :=
  fn_ok (k := 2) (n := 1) (ir := ir_law_odd) T.f_law_odd sc_law_odd rfl (by decide) fun cdv A outer s H E c hcl hcE hr => by
    have nd := sc_law_odd.nd
    exact ss_cons (s_ret (e_call (pe_call (ok_law_any T c.CL) (hr.mono (by decide)) rfl T.m_law_any T.f_law_any.kp T.b_law_any .nil pass0 (a_cons (e_var (pv 0)) (a_cons (e_lst (pe_lst (d_cons (e_non) (d_cons (e_int) (d_cons (e_str) (d_cons (e_lst (pe_lst (d_cons (e_int) (d_nil)))) (d_cons (e_tup (pe_tup (d_cons (e_bl) (d_nil)))) (d_cons (e_tup (pe_tup (d_cons (e_int) (d_cons (e_int) (d_nil))))) (d_cons (e_tup (pe_tup (d_cons (e_int) (d_cons (e_int) (d_nil))))) (d_cons (e_tup (pe_tup (d_cons (e_un un_neg p_neg (e_int)) (d_nil)))) (d_cons (e_tup (pe_tup (d_cons (e_int) (d_nil)))) (d_cons (e_tup (pe_tup (d_cons (e_tup (pe_tup (d_cons (e_int) (d_nil)))) (d_nil)))) (d_cons (e_dnew pe_dnewK) (d_cons (e_tup (pe_tup (d_cons (e_int) (d_cons (e_non) (d_nil))))) (d_nil))))))))))))))) (a_nil)))) rfl hcE)) (ss_nil)
theorem sc_law_long : FnScope N_law_long ["_law_tape_here"] (defScope st_law_long) := ⟨rfl, rfl, rfl, by decide +kernel, rfl, by decide +kernel, by decide +kernel⟩
theorem ok_law_long {P : Program} {w : World} {K : PySem.W.Frag} {mg : Str → Option Value} {base : Heap} (T : Facts K mg) (CL : CLs) : FnOk P w K mg base CX0 3 T.a_law_long T.d_law_long ["_law_tape_here"] (spF K CL F_law_long 1) :=
  fn_ok (k := 2) (n := 1) (ir := ir_law_long) T.f_law_long sc_law_long rfl (by decide) fun cdv A outer s H E c hcl hcE hr => by
    have nd := sc_law_long.nd
    exact ss_cons (s_asgT (ps_asg (e_tup (pe_tup (d_cons (e_call (pe_call (ok_law_any T c.CL) (hr.mono (by decide)) rfl T.m_law_any T.f_law_any.kp T.b_law_any .nil pass0 (a_cons (e_var (pv 0)) (a_cons (e_lst (pe_lst (d_cons (e_int) (d_cons (e_int) (d_nil))))) (a_nil)))) rfl hcE) (d_cons (e_bin o_add p_add (e_int) (e_call (pe_call (ok_law_pick T c.CL) (hr.mono (by decide)) rfl T.m_law_pick T.f_law_pick.kp T.b_law_pick .nil pass0 (a_cons (e_var (pv 0)) (a_cons (e_int) (a_nil)))) rfl hcE)) (d_nil))))) (g_tup (is := [1, 2]) (pg_tup rfl (pgs_cons (pg_name (i := 1) nd rfl (.inr rfl)) (pgs_cons (pg_name (i := 2) nd rfl (.inr rfl)) (pgs_nil))))))) (ss_cons (s_setLc i_range1 (ps_setLc (i := 3) (own := [("_law_version", 4)]) rfl nd rfl rfl (sw_true rfl rfl rfl (by decide +kernel)) (pi_range1 (by rfl) T.z_range (a_cons (e_var (pv 2)) (a_nil))) (blkOk_by (N := N_law_long) (sc := defScope st_law_long) (by decide +kernel)) (fun _ _ _ _ _ => g_name (pg_name (i := 4) nd rfl (by first | exact .inl rfl | exact .inr rfl))) (fun _ _ _ _ _ => o_none) (fun _ _ _ _ _ => e_tup (pe_tup (d_cons (e_prim p_tuple (pe_callTy call_tuple_of (by rfl) T.z_tuple (by decide +kernel) (a_cons (e_lc i_range1 (pe_lc (own := [("_law_place", 5)]) rfl nd (pi_range1 (by rfl) T.z_range (a_cons (e_var (pv 2)) (a_nil))) (blkOk_by (by rfl)) (fun _ _ _ _ _ => g_name (pg_name (i := 5) nd rfl (by first | exact .inl rfl | exact .inr rfl))) (fun _ _ _ _ _ => o_none) (fun _ _ _ _ _ => e_ite (t_cmp p_eq (pt_cmpR (op_eqD hr.units) (e_var (pv 5)) (e_var (pv 4)) (nomark _))) (e_int) (e_int)))) (a_nil)))) (d_cons (e_int) (d_nil))))))) (ss_cons (s_ex (ps_expr (e_mut m_append (pe_bm PySem.F.plainAttrs_list PySem.F.slot_list_append PySem.F.type_list_append mt_append (pv 3) (d_cons (e_tup (pe_tup (d_cons (e_prim p_tuple (pe_callTy call_tuple_of (by rfl) T.z_tuple (by decide +kernel) (a_cons (e_lc i_range1 (pe_lc (own := [("_law_place", 5)]) rfl nd (pi_range1 (by rfl) T.z_range (a_cons (e_var (pv 2)) (a_nil))) (blkOk_by (N := N_law_long) (sc := defScope st_law_long) (by decide +kernel)) (fun _ _ _ _ _ => g_name (pg_name (i := 5) nd rfl (by first | exact .inl rfl | exact .inr rfl))) (fun _ _ _ _ _ => o_none) (fun _ _ _ _ _ => e_bin o_add p_add (e_int) (e_call (pe_call (ok_law_pick T c.CL) (hr.mono (by decide)) rfl T.m_law_pick T.f_law_pick.kp T.b_law_pick .nil pass0 (a_cons (e_var (pv 0)) (a_cons (e_bin op_sub p_sub (e_var (pv 1)) (e_int)) (a_nil)))) rfl (fun _ _ _ z => z))))) (a_nil)))) (d_cons (e_int) (d_nil))))) (d_nil))))) (fun _ _ _ q => q)) (ss_cons (s_ite (t_cmp p_eq (pt_cmpR (op_eqD hr.units) (e_call (pe_call (ok_law_pick T c.CL) (hr.mono (by decide)) rfl T.m_law_pick T.f_law_pick.kp T.b_law_pick .nil pass0 (a_cons (e_var (pv 0)) (a_cons (e_int) (a_nil)))) rfl hcE) (e_int) (nomark _))) (ss_cons (s_ex (ps_expr (e_mut m_append (pe_bm PySem.F.plainAttrs_list PySem.F.slot_list_append PySem.F.type_list_append mt_append (pv 3) (d_cons (e_call (pe_call (ok_law_any T c.CL) (hr.mono (by decide)) rfl T.m_law_any T.f_law_any.kp T.b_law_any .nil pass0 (a_cons (e_var (pv 0)) (a_cons (e_var (pv 3)) (a_nil)))) rfl hcE) (d_nil))))) (fun _ _ _ q => q)) (ss_nil)) (ss_nil)) (ss_cons (s_ret (e_tup (pe_tup (d_cons (e_var (pv 1)) (d_cons (e_var (pv 2)) (d_cons (e_call (pe_call (ok_law_mixed T c.CL) (hr.mono (by decide)) rfl T.m_law_mixed T.f_law_mixed.kp T.b_law_mixed .nil pass0 (a_cons (e_var (pv 0)) (a_cons (e_var (pv 3)) (a_nil)))) rfl hcE) (d_nil))))))) (ss_nil)))))
theorem sc_law_rings : FnScope N_law_rings ["_law_told"] (defScope st_law_rings) := ⟨rfl, rfl, rfl, by decide +kernel, rfl, by decide +kernel, by decide +kernel⟩
theorem ok_law_rings {P : Program} {w : World} {K : PySem.W.Frag} {mg : Str → Option Value} {base : Heap} (T : Facts K mg) (CL : CLs) (h1_law_lots : LamAt base mg CL T.d_law_lots.code ("_law_lots" ++ ".<locals>.")) : FnOk P w K mg base CX0 5 T.a_law_rings T.d_law_rings ["_law_told"] (spF K CL F_law_rings 1) :=
  fn_ok (k := 4) (n := 1) (ir := ir_law_rings) T.f_law_rings sc_law_rings rfl (by decide) fun cdv A outer s H E c hcl hcE hr => by
    have nd := sc_law_rings.nd
    have hM_law_lots : LamAt base mg c.CL T.d_law_lots.code ("_law_lots" ++ ".<locals>.") := hcl ▸ h1_law_lots
    exact ss_cons (s_asg (ps_set (i := 1) nd rfl (.inl rfl) (e_lst (pe_lst (d_nil)))) (fun _ _ _ q => q)) (ss_cons (s_for i_seq (ps_for PassesOwn.never rfl (pi_seq (e_call (pe_call (ok_law_lots T c.CL hM_law_lots) (hr.mono (by decide)) rfl T.m_law_lots T.f_law_lots.kp T.b_law_lots .nil pass0 (a_cons (e_prim p_len (pe_callB call_len (by rfl) T.z_len (by decide +kernel) (a_cons (e_ix ix_seq p_ix (e_var (pv 0)) (e_int) (fun _ _ => rfl)) (a_nil)))) (a_nil))) rfl hcE)) (g_name (pg_name (i := 2) nd rfl (.inr rfl))) (ss_cons (s_ite (t_w (w_and (t_not (t_e (e_call (pe_call (ok_law_leans T c.CL) (hr.mono (by decide)) rfl T.m_law_leans T.f_law_leans.kp T.b_law_leans .nil pass0 (a_cons (e_var (pv 0)) (a_cons (e_var (pv 2)) (a_nil)))) rfl hcE))) (w_and1 (t_not (t_e (e_prim p_any (pe_callB (cr_any rfl) (by rfl) T.z_any (by decide +kernel) (a_cons (e_lc i_seq (pe_lc (own := [("_law_loop", 3)]) rfl nd (pi_seq (e_var (pv 1))) (blkOk_by (N := N_law_rings) (sc := defScope st_law_rings) (by decide +kernel)) (fun _ _ _ _ _ => g_name (pg_name (i := 3) nd rfl (by first | exact .inl rfl | exact .inr rfl))) (fun _ _ _ _ _ => o_none) (fun _ _ _ _ _ => e_call (pe_call (ok_law_holds T c.CL) (hr.mono (by decide)) rfl T.m_law_holds T.f_law_holds.kp T.b_law_holds .nil pass0 (a_cons (e_var (pv 2)) (a_cons (e_var (pv 3)) (a_nil)))) rfl (fun _ _ _ z => z)))) (a_nil))))))))) (ss_cons (s_ex (ps_expr (e_mut m_append (pe_bm PySem.F.plainAttrs_list PySem.F.slot_list_append PySem.F.type_list_append mt_append (pv 1) (d_cons (e_var (pv 2)) (d_nil))))) (fun _ _ _ q => q)) (ss_nil)) (ss_nil)) (ss_nil)))) (ss_cons (s_ret (e_var (pv 1))) (ss_nil)))
theorem sc_law : FnScope N_law ["_law_script"] (defScope st_law) := ⟨rfl, rfl, rfl, by decide +kernel, rfl, by decide +kernel, by decide +kernel⟩
theorem ok_law {P : Program} {w : World} {K : PySem.W.Frag} {mg : Str → Option Value} {base : Heap} (T : Facts K mg) (CL : CLs) (h0_Web : CL 0 = (T.q_Web, fs_Web)) (h1_law_lots : LamAt base mg CL T.d_law_lots.code ("_law_lots" ++ ".<locals>.")) : FnOk P w K mg base CX0 8 T.a_law T.d_law ["_law_script"] (spF K CL F_law 1) :=
  fn_ok (k := 7) (n := 1) (ir := ir_law) T.f_law sc_law rfl (by decide) fun cdv A outer s H E c hcl hcE hr => by
    have nd := sc_law.nd
    have hM_law_lots : LamAt base mg c.CL T.d_law_lots.code ("_law_lots" ++ ".<locals>.") := hcl ▸ h1_law_lots
    have hC_Web : c.CL 0 = (T.q_Web, fs_Web) := hcl ▸ h0_Web
    exact ss_cons (s_asg (ps_set (i := 1) nd rfl (.inl rfl) (e_call (pe_call (ok_law_tape T c.CL) (hr.mono (by decide)) rfl T.m_law_tape T.f_law_tape.kp T.b_law_tape .nil pass0 (a_cons (e_var (pv 0)) (a_nil))) rfl hcE)) (fun _ _ _ q => q)) (ss_cons (s_for i_range1 (ps_for PassesOwn.never rfl (pi_range1 (by rfl) T.z_range (a_cons (e_int) (a_nil))) (g_name (pg_name (i := 2) nd rfl (.inl rfl))) (ss_cons (s_asg (ps_set (i := 3) nd rfl (.inl rfl) (e_ite (t_cmp p_eq (pt_cmpR (op_eqD hr.units) (e_call (pe_call (ok_law_pick T c.CL) (hr.mono (by decide)) rfl T.m_law_pick T.f_law_pick.kp T.b_law_pick .nil pass0 (a_cons (e_var (pv 1)) (a_cons (e_int) (a_nil)))) rfl hcE) (e_int) (nomark _))) (e_call (pe_call (ok_law_long T c.CL) (hr.mono (by decide)) rfl T.m_law_long T.f_law_long.kp T.b_law_long .nil pass0 (a_cons (e_var (pv 1)) (a_nil))) rfl hcE) (e_call (pe_call (ok_law_small T c.CL) (hr.mono (by decide)) rfl T.m_law_small T.f_law_small.kp T.b_law_small .nil pass0 (a_cons (e_var (pv 1)) (a_cons (e_int) (a_nil)))) rfl hcE))) (fun _ _ _ q => q)) (ss_cons (s_par (by decide) (ps_par (i := 4) (j := 5) rfl nd rfl rfl (by decide) rfl rfl (pa_cons (e_make hC_Web rfl (pe_make T.mk_Web (ok_i_Web T c.CL) (hr.mono (by decide)) rfl T.m_Web T.bi_Web .nil pass0 (a_cons (e_ix ix_seq p_ix (e_var (pv 3)) (e_int) (fun _ _ => rfl)) (a_cons (e_ix ix_seq p_ix (e_var (pv 3)) (e_int) (fun _ _ => rfl)) (a_cons (e_prim p_tuple (pe_callTy call_tuple_of (by rfl) T.z_tuple (by decide +kernel) (a_cons (e_ix ix_seq p_ix (e_var (pv 3)) (e_int) (fun _ _ => rfl)) (a_nil)))) (a_nil))))) rfl hcE) (pa_cons (e_call (pe_call (ok_law_rings T c.CL hM_law_lots) (hr.mono (by decide)) rfl T.m_law_rings T.f_law_rings.kp T.b_law_rings .nil pass0 (a_cons (e_var (pv 3)) (a_nil))) rfl hcE) pa_nil)) (by rfl))) (ss_cons (s_ite (t_cmp p_ne (pt_cmpR (op_neD hr.units) (e_call (pe_call (ok_all_rings T c.CL hC_Web) (hr.mono (by decide)) rfl T.m_all_rings T.f_all_rings.kp T.b_all_rings .nil pass0 (a_cons (e_var (pv 4)) (a_nil))) rfl hcE) (e_var (pv 5)) (nomark _))) (ss_cons (s_ret (e_bl)) (ss_nil)) (ss_nil)) (ss_cons (s_for i_seq (ps_for PassesOwn.never rfl (pi_seq (e_call (pe_call (ok_law_lots T c.CL hM_law_lots) (hr.mono (by decide)) rfl T.m_law_lots T.f_law_lots.kp T.b_law_lots .nil pass0 (a_cons (e_prim p_len (pe_callB call_len (by rfl) T.z_len (by decide +kernel) (a_cons (e_ix ix_seq p_ix (e_var (pv 3)) (e_int) (fun _ _ => rfl)) (a_nil)))) (a_nil))) rfl hcE)) (g_name (pg_name (i := 6) nd rfl (.inl rfl))) (ss_cons (s_ite (t_cmp p_ne (pt_cmpR (op_neD hr.units) (e_call (pe_call (ok_is_ring T c.CL hC_Web) (hr.mono (by decide)) rfl T.m_is_ring T.f_is_ring.kp T.b_is_ring .nil pass0 (a_cons (e_var (pv 4)) (a_cons (e_var (pv 6)) (a_nil)))) rfl hcE) (e_cmp (op_inM (units65 hr)) p_inM (e_var (pv 6)) (e_var (pv 5)) (by rfl)) (nomark _))) (ss_cons (s_ret (e_bl)) (ss_nil)) (ss_nil)) (ss_nil)))) (ss_cons (s_ite (t_w (w_or (t_cmp p_notB (pt_cmpR op_isnot_bl (e_call (pe_call (ok_is_ring T c.CL hC_Web) (hr.mono (by decide)) rfl T.m_is_ring T.f_is_ring.kp T.b_is_ring .nil pass0 (a_cons (e_var (pv 4)) (a_cons (e_call (pe_call (ok_law_odd T c.CL) (hr.mono (by decide)) rfl T.m_law_odd T.f_law_odd.kp T.b_law_odd .nil pass0 (a_cons (e_var (pv 1)) (a_nil))) rfl hcE) (a_nil)))) rfl hcE) (e_bl) (nomark _))) (w_or1 (t_w (w_and (t_cmp p_ne (pt_cmpR (op_neD hr.units) (e_var (pv 5)) (e_lst (pe_lst (d_nil))) (nomark _))) (w_and1 (t_cmp p_notB (pt_cmpR op_isnot_bl (e_call (pe_call (ok_is_ring T c.CL hC_Web) (hr.mono (by decide)) rfl T.m_is_ring T.f_is_ring.kp T.b_is_ring .nil pass0 (a_cons (e_var (pv 4)) (a_cons (e_prim p_list (pe_callTy call_list_of (by rfl) T.z_list (by decide +kernel) (a_cons (e_ix ix_seq p_ix (e_var (pv 5)) (e_int) (fun _ _ => rfl)) (a_nil)))) (a_nil)))) rfl hcE) (e_bl) (nomark _))))))))) (ss_cons (s_ret (e_bl)) (ss_nil)) (ss_nil)) (ss_nil)))))))) (ss_cons (s_ret (e_bl)) (ss_nil)))
end Ev
namespace Ev
open PySem L2
/-! ### what is true behind a term: rules to go through a def by hand -/
def W {α : Type} (r : Res α) (P : α → Env → Prop) : Prop := match r with
  | .ok a ρ => P a ρ
  | _ => False
def WS (r : Res Flow) (nx : Env → Prop) (rt : B → Env → Prop) (bk : Env → Prop) : Prop := W r fun f ρ => match f with
  | .nx => nx ρ
  | .rt b => rt b ρ
  | .brk => bk ρ
def WF (r : FRes) (P : RB → List Slot → Prop) : Prop := match r with
  | .ok a o => P a o
  | _ => False
section
variable {α β : Type} {ρ : Env} {P : α → Env → Prop} {nx : Env → Prop} {rt : B → Env → Prop} {bk : Env → Prop}
theorem W.mono {r : Res α} {P Q : α → Env → Prop} (h : W r P) (k : ∀ a ρ, P a ρ → Q a ρ) : W r Q := by
  cases r with
  | ok a ρ => exact k a ρ h
  | no => exact h
  | ex _ _ => exact h
theorem W.bind {r : Res β} {f : β → Env → Res α} (h : W r fun b ρ => W (f b ρ) P) : W (r.bind f) P := by
  cases r with
  | ok a ρ => exact h
  | no => exact h
  | ex _ _ => exact h
theorem W.of {r : Res α} {a : α} {ρ : Env} (e : r = .ok a ρ) (h : P a ρ) : W r P := by rw [e]; exact h
theorem W.get {r : Res α} (h : W r P) : ∃ a ρ, r = .ok a ρ ∧ P a ρ := by
  cases r with
  | ok a ρ => exact ⟨a, ρ, rfl, h⟩
  | no => exact h.elim
  | ex _ _ => exact h.elim
theorem WS.mono {r : Res Flow} {nx' : Env → Prop} {rt' : B → Env → Prop} {bk' : Env → Prop} (h : WS r nx rt bk) (h1 : ∀ ρ, nx ρ → nx' ρ) (h2 : ∀ b ρ, rt b ρ → rt' b ρ) (h3 : ∀ ρ, bk ρ → bk' ρ) : WS r nx' rt' bk' :=
  W.mono h fun f ρ q => by
    cases f with
    | nx => exact h1 ρ q
    | rt b => exact h2 b ρ q
    | brk => exact h3 ρ q
theorem WF.get {r : FRes} {P : RB → List Slot → Prop} (h : WF r P) : ∃ a o, r = .ok a o ∧ P a o := by
  cases r with
  | ok a ρ => exact ⟨a, ρ, rfl, h⟩
  | no => exact h.elim
  | ex _ _ => exact h.elim
theorem WF.mono {r : FRes} {P Q : RB → List Slot → Prop} (h : WF r P) (k : ∀ a o, P a o → Q a o) : WF r Q := by
  cases r with
  | ok a ρ => exact k a ρ h
  | no => exact h
  | ex _ _ => exact h
-- expressions
theorem w_con {d : D} {P : B → Env → Prop} (h : P (.d d) ρ) : W (evE (.con d) ρ) P := h
theorem w_prim {f : List D → Option RB} {as : Es} {P : B → Env → Prop} (h : W (evA as ρ) fun bs ρ1 => ∃ ds r, views ρ1 bs = some ds ∧ f ds = some r ∧ P r.b ρ1) : W (evE (.prim f as) ρ) P := by
  refine W.bind (r := evA as ρ) (W.mono h fun bs ρ1 ⟨ds, r, h1, h2, h3⟩ => ?_)
  rw [h1]
  show W (match f ds with | none => .no | some r => .ok r.b ρ1) P
  rw [h2]
  exact h3
theorem w_tup {as : Es} {P : B → Env → Prop} (h : W (evD as ρ) fun ds ρ1 => ds.length ≤ 1000 ∧ P (.d (.tup ds)) ρ1) : W (evE (.tup as) ρ) P := by
  refine W.bind (r := evD as ρ) (W.mono h fun ds ρ1 ⟨h1, h2⟩ => ?_)
  rw [if_pos h1]
  exact h2
theorem w_lst {as : Es} {P : B → Env → Prop} (h : W (evD as ρ) fun ds ρ1 => ds.length ≤ 1000 ∧ P (.nw ds) ρ1) : W (evE (.lst as) ρ) P := by
  refine W.bind (r := evD as ρ) (W.mono h fun ds ρ1 ⟨h1, h2⟩ => ?_)
  rw [if_pos h1]
  exact h2
theorem w_call {g : Fn} {as : Es} {P : B → Env → Prop} (h : W (evA as ρ) fun bs ρ1 => noTwice bs = true ∧ ∃ ss, args ρ1 bs = some ss ∧ WF (g ss) fun r o => P r.b (back ρ1 bs o)) : W (evE (.call g as) ρ) P := by
  refine W.bind (r := evA as ρ) (W.mono h fun bs ρ1 ⟨h1, ss, h2, h3⟩ => ?_)
  rw [if_pos h1, h2]
  obtain ⟨r, o, e, q⟩ := h3.get
  show W (match g ss with | .no => .no | .ok r o => .ok r.b (back ρ1 bs o) | .ex x o => .ex x (back ρ1 bs o)) P
  rw [e]
  exact q
theorem w_ite {c : T} {a b : E} {P : B → Env → Prop} (h : W (evT c ρ) fun k ρ1 => (k = true → W (evE a ρ1) P) ∧ (k = false → W (evE b ρ1) P)) : W (evE (.ite c a b) ρ) P := by
  refine W.bind (r := evT c ρ) (W.mono h fun k ρ1 ⟨h1, h2⟩ => ?_)
  cases k with
  | true => exact h1 rfl
  | false => exact h2 rfl
theorem we_and {a b : E} {P : B → Env → Prop} (h : W (evE a ρ) fun x ρ1 => ∃ k, x.view ρ1 = some (.bl k) ∧ (k = true → W (evE b ρ1) P) ∧ (k = false → P (.d (.bl false)) ρ1)) : W (evE (.and a b) ρ) P := by
  rw [evE]
  refine W.bind (r := evE a ρ) (W.mono h fun x ρ1 ⟨k, h0, h1, h2⟩ => ?_)
  simp only [h0]
  cases k with
  | true => exact h1 rfl
  | false => exact h2 rfl
theorem we_or {a b : E} {P : B → Env → Prop} (h : W (evE a ρ) fun x ρ1 => ∃ k, x.view ρ1 = some (.bl k) ∧ (k = true → P (.d (.bl true)) ρ1) ∧ (k = false → W (evE b ρ1) P)) : W (evE (.or a b) ρ) P := by
  rw [evE]
  refine W.bind (r := evE a ρ) (W.mono h fun x ρ1 ⟨k, h0, h1, h2⟩ => ?_)
  simp only [h0]
  cases k with
  | true => exact h1 rfl
  | false => exact h2 rfl
theorem we_not {a : E} {P : B → Env → Prop} (h : W (evE a ρ) fun x ρ1 => ∃ k, x.view ρ1 = some (.bl k) ∧ P (.d (.bl (!k))) ρ1) : W (evE (.notb a) ρ) P := by
  rw [evE]
  refine W.bind (r := evE a ρ) (W.mono h fun x ρ1 ⟨k, h0, h1⟩ => ?_)
  simp only [h0]
  exact h1
theorem w_chain {f f' : List D → Option RB} {a b d : E} {P : B → Env → Prop} (h : W (evE a ρ) fun x ρ1 => W (evE b ρ1) fun y ρ2 => ∃ u v k, x.view ρ2 = some u ∧ y.view ρ2 = some v ∧ f [u, v] = some (.d (.bl k)) ∧ (k = false → P (.d (.bl false)) ρ2) ∧
      (k = true → W (evE d ρ2) fun z ρ3 => ∃ v' w r, y.view ρ3 = some v' ∧ z.view ρ3 = some w ∧ f' [v', w] = some r ∧ P r.b ρ3)) : W (evE (.chain f f' a b d) ρ) P := by
  rw [evE]
  refine W.bind (r := evE a ρ) (W.mono h fun x ρ1 q => W.bind (r := evE b ρ1) (W.mono q fun y ρ2 ⟨u, v, k, h1, h2, h3, h4, h5⟩ => ?_))
  simp only [h1, h2, h3]
  cases k with
  | false => exact h4 rfl
  | true =>
    refine W.bind (r := evE d ρ2) (W.mono (h5 rfl) fun z ρ3 ⟨v', w, r, h6, h7, h8, q⟩ => ?_)
    simp only [h6, h7, h8]
    exact q
theorem wa_cons {e : E} {es : Es} {P : List B → Env → Prop} (h : W (evE e ρ) fun b ρ1 => W (evA es ρ1) fun bs ρ2 => P (b :: bs) ρ2) : W (evA (.cons e es) ρ) P :=
  W.bind (r := evE e ρ) (W.mono h fun b ρ1 q => W.bind (r := evA es ρ1) q)
theorem wa_nil {P : List B → Env → Prop} (h : P [] ρ) : W (evA .nil ρ) P := h
theorem wd_cons {e : E} {es : Es} {P : List D → Env → Prop} (h : W (evE e ρ) fun b ρ1 => ∃ d ρ2, b.keep ρ1 = some (d, ρ2) ∧ W (evD es ρ2) fun ds ρ3 => P (d :: ds) ρ3) : W (evD (.cons e es) ρ) P :=
  W.bind (r := evE e ρ) (W.mono h fun b ρ1 ⟨d, ρ2, h1, q⟩ => by
    rw [h1]
    exact W.bind (r := evD es ρ2) q)
theorem wd_nil {P : List D → Env → Prop} (h : P [] ρ) : W (evD .nil ρ) P := h
-- tests
theorem wt_eb {e : E} {P : Bool → Env → Prop} (h : W (evE e ρ) fun b ρ1 => ∃ k, b.view ρ1 = some (.bl k) ∧ P k ρ1) : W (evT (.eb e) ρ) P :=
  W.bind (r := evE e ρ) (W.mono h fun b ρ1 ⟨k, h1, q⟩ => by rw [h1]; exact q)
theorem wt_e {e : E} {P : Bool → Env → Prop} (h : W (evE e ρ) fun b ρ1 => ∃ d k, b.view ρ1 = some d ∧ d.truth = some k ∧ P k ρ1) : W (evT (.e e) ρ) P :=
  W.bind (r := evE e ρ) (W.mono h fun b ρ1 ⟨d, k, h1, h2, q⟩ => by
    rw [h1]
    show W (match d.truth with | none => .no | some k => .ok k ρ1) P
    rw [h2]
    exact q)
theorem wt_and {a b : T} {P : Bool → Env → Prop} (h : W (evT a ρ) fun k ρ1 => (k = true → W (evT b ρ1) P) ∧ (k = false → P false ρ1)) : W (evT (.and a b) ρ) P :=
  W.bind (r := evT a ρ) (W.mono h fun k ρ1 ⟨h1, h2⟩ => by
    cases k with
    | true => exact h1 rfl
    | false => exact h2 rfl)
theorem wt_or {a b : T} {P : Bool → Env → Prop} (h : W (evT a ρ) fun k ρ1 => (k = true → P true ρ1) ∧ (k = false → W (evT b ρ1) P)) : W (evT (.or a b) ρ) P :=
  W.bind (r := evT a ρ) (W.mono h fun k ρ1 ⟨h1, h2⟩ => by
    cases k with
    | true => exact h1 rfl
    | false => exact h2 rfl)
theorem wt_not {a : T} {P : Bool → Env → Prop} (h : W (evT a ρ) fun k ρ1 => P (!k) ρ1) : W (evT (.not a) ρ) P := W.bind (r := evT a ρ) h
-- statements
theorem ws_cons {s : S} {ss : Ss} (h : WS (evS s ρ) (fun ρ1 => WS (evSs ss ρ1) nx rt bk) rt bk) : WS (evSs (.cons s ss) ρ) nx rt bk := by
  unfold WS at h
  obtain ⟨f, ρ1, e, q⟩ := h.get
  rw [evSs, e]
  cases f with
  | nx => exact q
  | rt b => exact q
  | brk => exact q
theorem ws_nil (h : nx ρ) : WS (evSs .nil ρ) nx rt bk := h
theorem ws_asg {i : Nat} {e : E} (h : W (evE e ρ) fun b ρ1 => ∃ b' ρ2 ρ3, b.stab ρ1 = some (b', ρ2) ∧ bindB ρ2 i b' = some ρ3 ∧ nx ρ3) : WS (evS (.asg (.n i) e) ρ) nx rt bk :=
  W.bind (r := evE e ρ) (W.mono h fun b ρ1 ⟨b', ρ2, ρ3, h1, h2, q⟩ => by
    rw [h1]
    show W (match bindB ρ2 i b' with | none => Res.no | some ρ3 => Res.ok Flow.nx ρ3) _
    rw [h2]
    exact q)
theorem ws_asgT {is : List Nat} {e : E} (h : W (evE e ρ) fun b ρ1 => ∃ ds ρ2 ρ3, b.keep ρ1 = some (.tup ds, ρ2) ∧ bndAll ρ2 is ds = some ρ3 ∧ nx ρ3) : WS (evS (.asg (.t is) e) ρ) nx rt bk :=
  W.bind (r := evE e ρ) (W.mono h fun b ρ1 ⟨ds, ρ2, ρ3, h1, h2, q⟩ => by
    rw [h1]
    show W (match bndAll ρ2 is ds with | none => Res.no | some ρ3 => Res.ok Flow.nx ρ3) _
    rw [h2]
    exact q)
theorem ws_par {i j : Nat} {a b : E} (h : W (evE a ρ) fun x ρ1 => W (evE b ρ1) fun y ρ2 => ∃ x' ρ3 y' ρ4 ρ5 ρ6, x.stab ρ2 = some (x', ρ3) ∧ y.stab ρ3 = some (y', ρ4) ∧ bindB ρ4 i x' = some ρ5 ∧ bindB ρ5 j y' = some ρ6 ∧ nx ρ6) : WS (evS (.par i j a b) ρ) nx rt bk :=
  W.bind (r := evE a ρ) (W.mono h fun x ρ1 q => W.bind (r := evE b ρ1) (W.mono q fun y ρ2 ⟨x', ρ3, y', ρ4, ρ5, ρ6, h1, h2, h3, h4, q⟩ => by
    simp only [h1, h2, h3, h4]
    exact q))
theorem ws_seti {i : Nat} {ix v : E} (h : W (evE v ρ) fun b ρ1 => ∃ d ρ2, b.keep ρ1 = some (d, ρ2) ∧ (∃ xs, ρ2.v[i]? = some (.ow xs)) ∧ W (evE ix ρ2) fun k ρ3 => ∃ z xs j, k.view ρ3 = some (.int z) ∧ ρ3.v[i]? = some (.ow xs) ∧ ixN xs.length z = some j ∧ nx (ρ3.setv i (.ow (xs.set j d)))) : WS (evS (.seti i ix v) ρ) nx rt bk := by
  unfold WS
  rw [evS]
  refine W.bind (r := evE v ρ) (W.mono h fun b ρ1 ⟨d, ρ2, h1, ⟨xs0, h2⟩, q⟩ => ?_)
  simp only [h1, h2]
  refine W.bind (r := evE ix ρ2) (W.mono q fun k ρ3 ⟨z, xs, j, h3, h4, h5, q⟩ => ?_)
  simp only [h3, h4, h5]
  exact q
theorem ws_ex {e : E} (h : W (evE e ρ) fun _ ρ1 => nx ρ1) : WS (evS (.ex e) ρ) nx rt bk := W.bind (r := evE e ρ) h
theorem ws_ret {e : E} (h : W (evE e ρ) rt) : WS (evS (.ret e) ρ) nx rt bk := W.bind (r := evE e ρ) h
theorem ws_retN (h : rt (.d .non) ρ) : WS (evS .retN ρ) nx rt bk := h
theorem ws_pass (h : nx ρ) : WS (evS .pass ρ) nx rt bk := h
theorem ws_brk (h : bk ρ) : WS (evS .brk ρ) nx rt bk := h
theorem ws_ite {c : T} {a b : Ss} (h : W (evT c ρ) fun k ρ1 => (k = true → WS (evSs a ρ1) nx rt bk) ∧ (k = false → WS (evSs b ρ1) nx rt bk)) : WS (evS (.ite c a b) ρ) nx rt bk := by
  unfold WS
  rw [evS]
  refine W.bind (r := evT c ρ) (W.mono h fun k ρ1 ⟨h1, h2⟩ => ?_)
  cases k with
  | true => exact h1 rfl
  | false => exact h2 rfl
/-- a for by what is true at each turn: I i ρ, i turns done -/
theorem forLoop_go {step : D → Env → Res Flow} {I : Nat → Env → Prop} : ∀ (xs : List D) (i : Nat) {ρ : Env}, I i ρ → (∀ (j : Nat) (x : D) (ρ : Env), xs[j]? = some x → I (i + j) ρ → WS (step x ρ) (I (i + j + 1)) rt nx) → (∀ ρ, I (i + xs.length) ρ → nx ρ) →
    WS (forLoop step xs ρ) nx rt bk
  | [], i, ρ, h0, _, he => he ρ h0
  | x :: xs, i, ρ, h0, hs, he => by
    have q := hs 0 x ρ rfl h0
    unfold WS at q
    obtain ⟨f, ρ1, e, q⟩ := q.get
    unfold WS
    rw [forLoop, e]
    cases f with
    | nx => exact forLoop_go xs (i + 1) q (fun j y ρ hy hI => by
        have z := hs (j + 1) y ρ hy (by rw [show i + (j + 1) = i + 1 + j by omega]; exact hI)
        rw [show i + (j + 1) + 1 = i + 1 + j + 1 by omega] at z
        exact z) fun ρ hI => he ρ (by rw [List.length_cons, show i + (xs.length + 1) = i + 1 + xs.length by omega]; exact hI)
    | rt b => exact q
    | brk => exact q
theorem ws_for {tg : Tg} {f : List D → Option (List D)} {as : Es} {body : Ss} (h : W (evA as ρ) fun bs ρ1 => ∃ ds items, views ρ1 bs = some ds ∧ f ds = some items ∧ ∃ I : Nat → Env → Prop, I 0 (locks ρ1 bs) ∧
      (∀ (j : Nat) (x : D) (ρ2 : Env), items[j]? = some x → I j ρ2 → ∃ ρ3, tg.set ρ2 x = some ρ3 ∧ WS (evSs body ρ3) (I (j + 1)) (fun b ρ4 => rt b (unlocks ρ1 ρ4 bs)) (fun ρ4 => nx (unlocks ρ1 ρ4 bs))) ∧
      ∀ ρ2, I items.length ρ2 → nx (unlocks ρ1 ρ2 bs)) : WS (evS (.for tg f as body) ρ) nx rt bk := by
  unfold WS
  rw [evS]
  refine W.bind (r := evA as ρ) (W.mono h fun bs ρ1 ⟨ds, items, h1, h2, I, h0, hs, he⟩ => ?_)
  simp only [h1, h2]
  generalize hst : (fun x ρ => match tg.set ρ x with
      | none => Res.no
      | some ρ' => evSs body ρ') = step
  have q := forLoop_go (step := step) (I := I) (nx := fun ρ2 => nx (unlocks ρ1 ρ2 bs)) (rt := fun b ρ2 => rt b (unlocks ρ1 ρ2 bs)) (bk := fun ρ2 => bk (unlocks ρ1 ρ2 bs)) items 0 h0 (fun j x ρ2 hx hI => by
    obtain ⟨ρ3, e, q⟩ := hs j x ρ2 hx (by rw [Nat.zero_add] at hI; exact hI)
    rw [← hst]
    simp only [e, Nat.zero_add]
    exact q) fun ρ2 hI => he ρ2 (by rw [Nat.zero_add] at hI; exact hI)
  unfold WS at q
  obtain ⟨fl, ρ2, e, q⟩ := q.get
  rw [e]
  cases fl with
  | nx => exact q
  | rt b => exact q
  | brk => exact q
/-- a comprehension by what is true at each turn: I i acc ρ, i turns done, acc told -/
theorem lcLoop_go {step : D → Env → Res (Option D)} {I : Nat → List D → Env → Prop} {P : List D → Env → Prop} : ∀ (xs : List D) (i : Nat) {acc : List D} {ρ : Env}, I i acc ρ →
    (∀ (j : Nat) (x : D) (acc : List D) (ρ : Env), xs[j]? = some x → I (i + j) acc ρ → W (step x ρ) fun o ρ' => (∀ y, o = some y → I (i + j + 1) (acc ++ [y]) ρ') ∧ (o = none → I (i + j + 1) acc ρ')) → (∀ acc ρ, I (i + xs.length) acc ρ → P acc ρ) → W (lcLoop step xs acc ρ) P
  | [], i, acc, ρ, h0, _, he => he acc ρ h0
  | x :: xs, i, acc, ρ, h0, hs, he => by
    obtain ⟨o, ρ1, e, q1, q2⟩ := (hs 0 x acc ρ rfl h0).get
    have hs' : ∀ (j : Nat) (y : D) (acc : List D) (ρ : Env), xs[j]? = some y → I (i + 1 + j) acc ρ → W (step y ρ) fun o ρ' => (∀ y, o = some y → I (i + 1 + j + 1) (acc ++ [y]) ρ') ∧ (o = none → I (i + 1 + j + 1) acc ρ') := fun j y acc ρ hy hI => by
      have z := hs (j + 1) y acc ρ hy (by rw [show i + (j + 1) = i + 1 + j by omega]; exact hI)
      rw [show i + (j + 1) + 1 = i + 1 + j + 1 by omega] at z
      exact z
    have he' : ∀ acc ρ, I (i + 1 + xs.length) acc ρ → P acc ρ := fun acc ρ hI => he acc ρ (by rw [List.length_cons, show i + (xs.length + 1) = i + 1 + xs.length by omega]; exact hI)
    rw [lcLoop, e]
    cases o with
    | none => exact lcLoop_go xs (i + 1) (q2 rfl) hs' he'
    | some y => exact lcLoop_go xs (i + 1) (q1 y rfl) hs' he'
theorem w_lc {ows : List Nat} {tg : Tg} {f : List D → Option (List D)} {as : Es} {oc : OT} {elt : E} {P : B → Env → Prop} (h : W (evA as ρ) fun bs ρ1 => ∃ ds items, views ρ1 bs = some ds ∧ f ds = some items ∧
      (items.length ≤ sizeLine ∧ (ows.all fun i => match ρ1.o[i]? with | some .att => false | _ => true) = true ∧ (tg.is.all fun i => ows.contains i) = true) ∧ ∃ I : Nat → List D → Env → Prop, I 0 [] (wipeE (locks ρ1 bs) ows) ∧
      (∀ (j : Nat) (x : D) (acc : List D) (ρ2 : Env), items[j]? = some x → I j acc ρ2 → ∃ ρ3, tg.set ρ2 x = some ρ3 ∧ W (evO oc ρ3) fun k ρ4 => (k = true → W (evE elt ρ4) fun b ρ5 => ∃ d ρ6, b.keep ρ5 = some (d, ρ6) ∧ I (j + 1) (acc ++ [d]) (wipeE ρ6 ows)) ∧ (k = false → I (j + 1) acc (wipeE ρ4 ows))) ∧
      ∀ acc ρ3, I items.length acc ρ3 → P (.nw acc) (unlocks ρ1 (unwipe (locks ρ1 bs) ρ3 ows) bs)) : W (evE (.lc ows tg f as oc elt) ρ) P := by
  rw [evE]
  refine W.bind (r := evA as ρ) (W.mono h fun bs ρ1 ⟨ds, items, h1, h2, h3, I, h0, hs, he⟩ => ?_)
  simp only [h1, h2]
  split
  · refine W.bind (lcLoop_go (I := I) items 0 h0 (fun j x acc ρ2 hx hI => ?_) fun acc ρ2 hI => he acc ρ2 (by rw [Nat.zero_add] at hI; exact hI))
    obtain ⟨ρ3, e, q⟩ := hs j x acc ρ2 hx (by rw [Nat.zero_add] at hI; exact hI)
    simp only [e, Nat.zero_add]
    refine W.bind (r := evO oc ρ3) (W.mono q fun k ρ4 ⟨q1, q2⟩ => ?_)
    cases k with
    | true =>
      rw [if_pos rfl]
      refine W.bind (r := evE elt ρ4) (W.mono (q1 rfl) fun b ρ5 ⟨d, ρ6, h4, h5⟩ => ?_)
      simp only [h4]
      exact ⟨fun y hy => by cases hy; exact h5, fun z => by cases z⟩
    | false =>
      rw [if_neg Bool.false_ne_true]
      exact And.intro (fun y hy => (by cases hy)) (fun _ => q2 rfl)
  · rename_i hno
    exact absurd h3 hno
/-- a def -/
theorem wf_fn {n : Nat} {ir : Ss} {ss : List Slot} {P : RB → List Slot → Prop} (h : WS (evSs ir (start0 n ss)) (fun ρ => P (.d .non) ρ.outs) (fun b ρ => ∃ r ρ', retB ρ b = some (r, ρ') ∧ P r ρ'.outs) fun _ => False) : WF (runFn0 n ir ss) P := by
  unfold WS at h
  obtain ⟨f, ρ, e, q⟩ := h.get
  unfold runFn0 runFn
  rw [e]
  cases f with
  | nx => exact q
  | rt b =>
    obtain ⟨r, ρ', h1, h2⟩ := q
    simp only [h1]
    exact h2
  | brk => exact q.elim
end
end Ev
namespace Ev
open PySem L2
/-- the tape -/
def hd (g : List Int) (i a b t : Int) : List D := [.lst (g.map D.int), .int i, .int a, .int b, .int t]
theorem fMod_ok {i j : Int} (h : 0 < j) : fMod [.int i, .int j] = some (.d (.int (i % j))) := by
  have e : modOk i j = true := by unfold modOk; simp [h]
  show (if modOk i j then _ else none) = _
  rw [if_pos e]
theorem fDiv_ok {i j : Int} (h : 0 < j) (h2 : j < 1073741824) : fDiv [.int i, .int j] = some (.d (.int (i / j))) := by
  have e : divOk i j = true := by unfold divOk; simp [h, h2]
  show (if divOk i j then _ else none) = _
  rw [if_pos e]
theorem atI_map {g : List Int} {i : Int} (h0 : 0 ≤ i) (h1 : i < ((g.map D.int).length : Int)) : ∃ x, x ∈ g ∧ fIx [.lst (g.map D.int), .int i] = some (.d (.int x)) := by
  rw [List.length_map] at h1
  have hn : i.toNat < g.length := by omega
  refine ⟨g[i.toNat], List.getElem_mem hn, ?_⟩
  have e : atI (g.map D.int) i = some (.int g[i.toNat]) := by
    unfold atI ixN
    rw [if_pos h0, List.length_map, if_pos h1]
    show (g.map D.int)[i.toNat]? = _
    rw [List.getElem?_map, List.getElem?_eq_getElem hn]
    rfl
  show (match atI (g.map D.int) i with | some d => some (RB.d d) | none => none) = _
  rw [e]
end Ev
namespace Ev
open PySem L2
theorem atI_nat {α : Type} {xs : List α} {k : Int} (h0 : 0 ≤ k) (h1 : k < (xs.length : Int)) : ∃ x, x ∈ xs ∧ xs[k.toNat]? = some x ∧ atI xs k = some x := by
  have hn : k.toNat < xs.length := by omega
  refine ⟨xs[k.toNat], List.getElem_mem hn, List.getElem?_eq_getElem hn, ?_⟩
  unfold atI ixN
  rw [if_pos h0, if_pos h1]
  exact List.getElem?_eq_getElem hn
/-- a slot that is read as the items xs -/
inductive Seq (xs : List D) : Slot → Prop
  | ow : Seq xs (.ow xs)
  | lst : Seq xs (.sh (.lst xs))
  | tup : Seq xs (.sh (.tup xs))
def Slot.after : Slot → Slot
  | .ow xs => .ow xs
  | _ => .un
end Ev
namespace Ev
open PySem L2
def absI (i : Int) : Int := if i < 0 then -i else i
end Ev
namespace Ev
open PySem L2
theorem within_ok (a b i : Int) : WF (F_is_within [.sh (.int a), .sh (.int b), .sh (.int i)]) fun r o => r = .d (.bl (decide (a ≤ i) && decide (i ≤ b))) ∧ o = [.un, .un, .un] := by
  refine wf_fn (ws_cons (ws_ret (we_and (W.of (a := .d (.bl true)) (ρ := ⟨[.sh (.int a), .sh (.int b), .sh (.int i)], [.un, .un, .un]⟩) rfl ⟨true, rfl, fun _ => w_chain ?_, fun z => absurd z (by decide)⟩))))
  refine W.of (a := .d (.int a)) (ρ := ⟨[.sh (.int a), .sh (.int b), .sh (.int i)], [.un, .un, .un]⟩) rfl (W.of (a := .d (.int i)) (ρ := ⟨[.sh (.int a), .sh (.int b), .sh (.int i)], [.un, .un, .un]⟩) rfl ⟨_, _, decide (a ≤ i), rfl, rfl, rfl, fun h => ?_, fun h => ?_⟩)
  · exact ⟨_, _, rfl, by rw [h]; rfl, rfl⟩
  · exact W.of (a := .d (.int b)) (ρ := ⟨[.sh (.int a), .sh (.int b), .sh (.int i)], [.un, .un, .un]⟩) rfl ⟨_, _, .d (.bl (decide (i ≤ b))), rfl, rfl, rfl, _, _, rfl, by rw [h]; rfl, rfl⟩
/-- the primes that are drawn -/
def primes : List Int := [2, 2, 2, 3, 3, 3, 5, 5, 7, 11, 13, 31, 97, 251]
def okT : FRes → Bool
  | .ok (.d (.bl true)) [.un] => true
  | _ => false
theorem okT_eq {r : FRes} (h : okT r = true) : r = .ok (.d (.bl true)) [.un] := by
  unfold okT at h
  split at h
  · rfl
  · cases h
theorem prime_ok (p : Int) (hp : p ∈ primes) : F_is_prime [.sh (.int p)] = .ok (.d (.bl true)) [.un] := by
  have h : (primes.all fun p => okT (F_is_prime [.sh (.int p)])) = true := by decide +kernel
  exact okT_eq (List.all_eq_true.mp h p hp)
end Ev
namespace Ev
open PySem L2
/-! ### rows of numbers -/
def vec (v : List Int) : List D := v.map D.int
theorem vec_len (v : List Int) : (vec v).length = v.length := List.length_map ..
theorem vec_get {v : List Int} {j : Nat} {x : D} (h : (vec v)[j]? = some x) : j < v.length ∧ x = .int (v.getD j 0) := by
  unfold vec at h
  rw [List.getElem?_map] at h
  cases e : v[j]? with
  | none => rw [e] at h; cases h
  | some i =>
    rw [e] at h
    cases h
    obtain ⟨h1, h2⟩ := List.getElem?_eq_some_iff.mp e
    exact ⟨h1, by rw [List.getD_eq_getElem?_getD, e]; rfl⟩
theorem vec_at {v : List Int} {j : Nat} (h : j < v.length) : (vec v)[j]? = some (.int (v.getD j 0)) := by
  unfold vec
  rw [List.getElem?_map, List.getD_eq_getElem?_getD, List.getElem?_eq_getElem h]
  rfl
theorem pys_vec : ∀ v : List Int, D.pys (vec v) = some (v.map PyData.int)
  | [] => rfl
  | a :: v => by
    show D.pys (.int a :: vec v) = _
    unfold D.pys
    rw [pys_vec v]
    rfl
theorem eqv_vec : ∀ a b : List Int, PyData.eqvAll (a.map PyData.int) (b.map PyData.int) = decide (a = b)
  | [], [] => rfl
  | [], _ :: _ => rfl
  | _ :: _, [] => rfl
  | x :: a, y :: b => by
    show (PyData.eqv (.int x) (.int y) && PyData.eqvAll (a.map PyData.int) (b.map PyData.int)) = _
    rw [eqv_vec a b]
    show ((x == y) && decide (a = b)) = _
    by_cases h : x = y
    · subst h
      simp
    · simp [h]
theorem lay_vec : ∀ v : List Int, PyData.canLayAll0 (v.map PyData.int) = true
  | [] => rfl
  | a :: v => by
    show (PyData.canLay0 (.int a) && PyData.canLayAll0 (v.map PyData.int)) = true
    rw [lay_vec v]
    rfl
theorem dep_vec : ∀ v : List Int, PyData.depthAll (v.map PyData.int) = 0
  | [] => rfl
  | a :: v => by
    show max (PyData.depth (.int a)) (PyData.depthAll (v.map PyData.int)) = 0
    rw [dep_vec v]
    rfl
theorem shaped_tup (v : List Int) : SeqAt.shaped (.tuple (v.map PyData.int)) = true := by
  show (PyData.canLayAll0 (v.map PyData.int) && decide (PyData.depthAll (v.map PyData.int) + 1 ≤ 64)) = true
  rw [lay_vec, dep_vec]
  rfl
theorem py_tup (v : List Int) : (D.tup (vec v)).py = some (.tuple (v.map PyData.int)) := by
  unfold D.py
  rw [pys_vec]
theorem eqD_tup (a b : List Int) : eqD? (.tup (vec a)) (.tup (vec b)) = some (decide (a = b)) := by
  unfold eqD?
  rw [py_tup, py_tup]
  simp only [shaped_tup, and_self, if_true]
  show some (PyData.eqvAll _ _) = _
  rw [eqv_vec]
theorem ne_tup (a b : List Int) : fNe [.tup (vec a), .tup (vec b)] = some (.d (.bl (!decide (a = b)))) := by
  show (match eqD? (.tup (vec a)) (.tup (vec b)) with | some k => some (RB.d (.bl (!k))) | none => none) = _
  rw [eqD_tup]
/-! ### items -/
theorem atI_ok {α : Type} {xs : List α} {i : Nat} {d : α} (h : xs[i]? = some d) : atI xs (i : Int) = some d := by
  obtain ⟨h1, h2⟩ := List.getElem?_eq_some_iff.mp h
  unfold atI ixN
  rw [if_pos (by omega), if_pos (by omega)]
  exact h
theorem ix_lst {xs : List D} {i : Nat} {d : D} (h : xs[i]? = some d) : fIx [.lst xs, .int (i : Int)] = some (.d d) := by
  show (match atI xs (i : Int) with | some d => some (RB.d d) | none => none) = _
  rw [atI_ok h]
theorem ix_tup {xs : List D} {i : Nat} {d : D} (h : xs[i]? = some d) : fIx [.tup xs, .int (i : Int)] = some (.d d) := by
  show (match atI xs (i : Int) with | some d => some (RB.d d) | none => none) = _
  rw [atI_ok h]
theorem eq_int (a b : Int) : fEq [.int a, .int b] = some (.d (.bl (decide (a = b)))) := by
  show some (RB.d (.bl (a == b))) = _
  congr 2
theorem ne_int (a b : Int) : fNe [.int a, .int b] = some (.d (.bl (!decide (a = b)))) := by
  show some (RB.d (.bl (!(a == b)))) = _
  congr 2
theorem mul_ok {u v : Int} (h : mulOk u v = true) : fMul [.int u, .int v] = some (.d (.int (u * v))) := by
  show (if mulOk u v then _ else none) = _
  rw [if_pos h]
theorem mod_ok {i j : Int} (h : 0 < j) : fMod [.int i, .int j] = some (.d (.int (i % j))) := by
  have e : modOk i j = true := by unfold modOk; simp [h]
  show (if modOk i j then _ else none) = _
  rw [if_pos e]
theorem mulOk_l {u v : Int} (h0 : -18446744073709551616 < u) (h1 : u < 18446744073709551616) : mulOk u v = true := by unfold mulOk; simp [h0, h1]
theorem mulOk_r {u v : Int} (h0 : -18446744073709551616 < v) (h1 : v < 18446744073709551616) : mulOk u v = true := by unfold mulOk; simp [h0, h1]
theorem repL_one {x : D} : ∀ n : Nat, repL n [x] = List.replicate n x
  | 0 => rfl
  | n + 1 => by rw [repL, repL_one n, List.replicate_succ]; rfl
theorem vec_rep (n : Nat) (i : Int) : vec (List.replicate n i) = List.replicate n (.int i) := by unfold vec; rw [List.map_replicate]
theorem noughts_lst {n : Nat} (h : n ≤ 1000) : fMul [.lst [.int 0], .int (n : Int)] = some (.nw (vec (List.replicate n 0))) := by
  show (if (n : Int) ≤ 1000000 ∧ -1000000 ≤ (n : Int) ∧ [D.int 0].length * (n : Int).toNat ≤ sizeLine then some (RB.nw (repL (n : Int).toNat [.int 0])) else none) = _
  rw [if_pos ⟨by omega, by omega, by rw [sizeLine_eq]; simp; omega⟩, Int.toNat_natCast, repL_one, vec_rep]
theorem noughts_tup {n : Nat} (h : n ≤ 1000) : fMul [.tup [.int 0], .int (n : Int)] = some (.d (.tup (vec (List.replicate n 0)))) := by
  show (if [D.int 0] ≠ [] ∧ 2 ≤ (n : Int) ∧ (n : Int) ≤ 1000 ∧ [D.int 0].length ≤ 1000 then some (RB.d (.tup (repL (n : Int).toNat [.int 0]))) else if (n : Int) = 1 then some (.d (.tup [.int 0])) else if [D.int 0] ≠ [] ∧ -1000000 ≤ (n : Int) ∧ (n : Int) ≤ 0 then some (.d (.tup [])) else none) = _
  match n, h with
  | 0, _ => simp [vec]
  | 1, _ => simp [vec]
  | k + 2, h =>
    rw [if_pos ⟨by simp, by omega, by omega, by simp⟩, Int.toNat_natCast, repL_one, vec_rep]
theorem small62_ok {i : Int} (h0 : -1000000000 < i) (h1 : i < 1000000000) : small62 i = true := by
  unfold small62
  rw [decide_eq_true (by omega), decide_eq_true (by omega)]
  rfl
theorem range1_ok {i : Int} (h0 : -1000000000 < i) (h1 : i < 1000000000) : itRange1 [.int i] = some (upFrom i.toNat 0) := by
  show (if small62 i = true then some (upFrom i.toNat 0) else none) = _
  rw [small62_ok h0 h1]
  rfl
/-! ### any, all -/
theorem bools_map {α : Type} (f : α → Bool) : ∀ xs : List α, bools (xs.map fun x => D.bl (f x)) = some (xs.map f)
  | [] => rfl
  | a :: xs => by
    show bools (.bl (f a) :: xs.map fun x => D.bl (f x)) = _
    unfold bools
    rw [bools_map f xs]
    rfl
theorem any_map {α : Type} (f : α → Bool) (xs : List α) : fAny [.lst (xs.map fun x => D.bl (f x))] = some (.d (.bl (xs.any f))) := by
  show (match bools (xs.map fun x => D.bl (f x)) with | some bs => some (RB.d (.bl (bs.any id))) | none => none) = _
  rw [bools_map]
  show some (RB.d (.bl ((xs.map f).any id))) = _
  rw [List.any_map]
  rfl
theorem all_map {α : Type} (f : α → Bool) (xs : List α) : fAll [.lst (xs.map fun x => D.bl (f x))] = some (.d (.bl (xs.all f))) := by
  show (match bools (xs.map fun x => D.bl (f x)) with | some bs => some (RB.d (.bl (bs.all id))) | none => none) = _
  rw [bools_map]
  show some (RB.d (.bl ((xs.map f).all id))) = _
  rw [List.all_map]
  rfl
/-! ### comprehensions whose turns leave nothing behind -/
section
variable {ρ : Env}
theorem w_lcm {ows : List Nat} {tg : Tg} {f : List D → Option (List D)} {as : Es} {elt : E} {P : B → Env → Prop} (h : W (evA as ρ) fun bs ρ1 => ∃ ds items, views ρ1 bs = some ds ∧ f ds = some items ∧
      (items.length ≤ sizeLine ∧ (ows.all fun i => match ρ1.o[i]? with | some .att => false | _ => true) = true ∧ (tg.is.all fun i => ows.contains i) = true) ∧ ∃ ys : List D, ys.length = items.length ∧
      (∀ (j : Nat) (x y : D), items[j]? = some x → ys[j]? = some y → ∃ ρ3, tg.set (wipeE (locks ρ1 bs) ows) x = some ρ3 ∧ W (evE elt ρ3) fun b ρ5 => ∃ ρ6, b.keep ρ5 = some (y, ρ6) ∧ wipeE ρ6 ows = wipeE (locks ρ1 bs) ows) ∧
      P (.nw ys) (unlocks ρ1 (unwipe (locks ρ1 bs) (wipeE (locks ρ1 bs) ows) ows) bs)) : W (evE (.lc ows tg f as .none elt) ρ) P := by
  refine w_lc (W.mono h fun bs ρ1 ⟨ds, items, h1, h2, h3, ys, hl, hs, hP⟩ => ⟨ds, items, h1, h2, h3, fun j acc ρ2 => acc = ys.take j ∧ ρ2 = wipeE (locks ρ1 bs) ows, ⟨rfl, rfl⟩, ?_, ?_⟩)
  · rintro j x acc ρ2 hx ⟨rfl, rfl⟩
    have hj : j < ys.length := by
      rw [hl]
      obtain ⟨q, _⟩ := List.getElem?_eq_some_iff.mp hx
      exact q
    obtain ⟨ρ3, e, q⟩ := hs j x ys[j] hx (List.getElem?_eq_getElem hj)
    refine ⟨ρ3, e, W.of (a := true) (ρ := ρ3) rfl ⟨fun _ => W.mono q fun b ρ5 ⟨ρ6, k1, k2⟩ => ⟨_, ρ6, k1, ?_, k2⟩, fun z => absurd z (by decide)⟩⟩
    rw [List.take_add_one, List.getElem?_eq_getElem hj]
    rfl
  · rintro acc ρ3 ⟨rfl, rfl⟩
    rw [← hl, List.take_length]
    exact hP
theorem w_lcf {ows : List Nat} {tg : Tg} {f : List D → Option (List D)} {as : Es} {t : T} {elt : E} {P : B → Env → Prop} (h : W (evA as ρ) fun bs ρ1 => ∃ ds items, views ρ1 bs = some ds ∧ f ds = some items ∧
      (items.length ≤ sizeLine ∧ (ows.all fun i => match ρ1.o[i]? with | some .att => false | _ => true) = true ∧ (tg.is.all fun i => ows.contains i) = true) ∧ ∃ ys : List (Option D), ys.length = items.length ∧
      (∀ (j : Nat) (x : D) (y : Option D), items[j]? = some x → ys[j]? = some y → ∃ ρ3, tg.set (wipeE (locks ρ1 bs) ows) x = some ρ3 ∧ W (evT t ρ3) fun k ρ4 => (k = true → W (evE elt ρ4) fun b ρ5 => ∃ d ρ6, b.keep ρ5 = some (d, ρ6) ∧ y = some d ∧ wipeE ρ6 ows = wipeE (locks ρ1 bs) ows) ∧ (k = false → y = none ∧ wipeE ρ4 ows = wipeE (locks ρ1 bs) ows)) ∧
      P (.nw (ys.filterMap id)) (unlocks ρ1 (unwipe (locks ρ1 bs) (wipeE (locks ρ1 bs) ows) ows) bs)) : W (evE (.lc ows tg f as (.some t) elt) ρ) P := by
  refine w_lc (W.mono h fun bs ρ1 ⟨ds, items, h1, h2, h3, ys, hl, hs, hP⟩ => ⟨ds, items, h1, h2, h3, fun j acc ρ2 => acc = (ys.take j).filterMap id ∧ ρ2 = wipeE (locks ρ1 bs) ows, ⟨rfl, rfl⟩, ?_, ?_⟩)
  · rintro j x acc ρ2 hx ⟨rfl, rfl⟩
    have hj : j < ys.length := by
      rw [hl]
      obtain ⟨q, _⟩ := List.getElem?_eq_some_iff.mp hx
      exact q
    obtain ⟨ρ3, e, q⟩ := hs j x ys[j] hx (List.getElem?_eq_getElem hj)
    refine ⟨ρ3, e, W.mono (r := evT t ρ3) q fun k ρ4 ⟨q1, q2⟩ => ⟨fun hk => W.mono (q1 hk) fun b ρ5 ⟨d, ρ6, k1, k2, k3⟩ => ⟨d, ρ6, k1, ?_, k3⟩, fun hk => ⟨?_, (q2 hk).2⟩⟩⟩
    · rw [List.take_add_one, List.getElem?_eq_getElem hj, List.filterMap_append, k2]
      rfl
    · rw [List.take_add_one, List.getElem?_eq_getElem hj, List.filterMap_append, (q2 hk).1]
      simp
  · rintro acc ρ3 ⟨rfl, rfl⟩
    rw [← hl, List.take_length]
    exact hP
end
end Ev
/-! Sums modulo a prime: what is made of what, rows with steps, solving -/
namespace Lin
abbrev V := Nat → Int
theorem dv0 (p : Int) : p ∣ 0 := ⟨0, by simp⟩
theorem dvAdd {p a b : Int} (h : p ∣ a) (k : p ∣ b) : p ∣ a + b := Int.dvd_add h k
theorem dvSub {p a b : Int} (h : p ∣ a) (k : p ∣ b) : p ∣ a - b := Int.dvd_sub h k
theorem dvMul {p a : Int} (c : Int) (h : p ∣ a) : p ∣ c * a := by
  obtain ⟨k, rfl⟩ := h
  exact ⟨c * k, by rw [Int.mul_left_comm]⟩
theorem dvOf {p a b : Int} (h : p ∣ a) (e : b = a) : p ∣ b := e ▸ h
/-- what is made of the things of S, on the places below w -/
inductive Sp (p : Int) (w : Nat) (S : V → Prop) : V → Prop
  | zero {v : V} : (∀ i, i < w → p ∣ v i) → Sp p w S v
  | add {s u v : V} (c : Int) : S s → Sp p w S u → (∀ i, i < w → p ∣ v i - (u i + c * s i)) → Sp p w S v
theorem Sp.congr {p : Int} {w : Nat} {S : V → Prop} {u v : V} (h : Sp p w S u) (e : ∀ i, i < w → p ∣ v i - u i) : Sp p w S v := by
  cases h with
  | zero h => exact .zero fun i hi => dvOf (dvAdd (e i hi) (h i hi)) (by omega)
  | add c hs hu k => exact .add c hs hu fun i hi => dvOf (dvAdd (e i hi) (k i hi)) (by omega)
theorem Sp.sum {p : Int} {w : Nat} {S : V → Prop} {u v : V} (h : Sp p w S u) (k : Sp p w S v) : Sp p w S (fun i => u i + v i) := by
  induction h with
  | zero h => exact k.congr fun i hi => dvOf (h i hi) (by omega)
  | add c hs hu e ih => exact .add c hs ih fun i hi => dvOf (e i hi) (by omega)
theorem Sp.smul {p : Int} {w : Nat} {S : V → Prop} {u : V} (c : Int) (h : Sp p w S u) : Sp p w S (fun i => c * u i) := by
  induction h with
  | zero h => exact .zero fun i hi => dvMul c (h i hi)
  | @add s u v d hs hu e ih => exact .add (c * d) hs ih fun i hi => dvOf (dvMul c (e i hi)) (by rw [Int.mul_sub, Int.mul_add, Int.mul_assoc])
theorem Sp.mem {p : Int} {w : Nat} {S : V → Prop} {s : V} (h : S s) : Sp p w S s :=
  .add (u := fun _ => 0) 1 h (.zero fun _ _ => dv0 p) fun i _ => dvOf (dv0 p) (by omega)
theorem Sp.mono {p : Int} {w : Nat} {S T : V → Prop} {v : V} (k : ∀ s, S s → T s) (h : Sp p w S v) : Sp p w T v := by
  induction h with
  | zero h => exact .zero h
  | add c hs hu e ih => exact .add c (k _ hs) ih e
theorem Sp.trans {p : Int} {w : Nat} {S T : V → Prop} {v : V} (k : ∀ s, S s → Sp p w T s) (h : Sp p w S v) : Sp p w T v := by
  induction h with
  | zero h => exact .zero h
  | @add s u v c hs hu e ih => exact (Sp.sum ih (Sp.smul c (k _ hs))).congr fun i hi => e i hi
theorem Sp.cut {p : Int} {w w' : Nat} {S : V → Prop} {v : V} (hw : w ≤ w') (h : Sp p w' S v) : Sp p w S v := by
  induction h with
  | zero h => exact .zero fun i hi => h i (by omega)
  | add c hs hu e ih => exact .add c hs ih fun i hi => e i (by omega)
theorem Sp.at0 {p : Int} {w : Nat} {S : V → Prop} {v : V} {i : Nat} (hi : i < w) (k : ∀ s, S s → p ∣ s i) (h : Sp p w S v) : p ∣ v i := by
  induction h with
  | zero h => exact h i hi
  | @add s u v c hs hu e ih => exact dvOf (dvAdd (e i hi) (dvAdd ih (dvMul c (k s hs)))) (by omega)
theorem Sp.split {p : Int} {w : Nat} {T : V → Prop} {r v : V} (h : Sp p w (fun x => x = r ∨ T x) v) : ∃ c u, Sp p w T u ∧ ∀ i, i < w → p ∣ v i - (u i + c * r i) := by
  induction h with
  | @zero v h => exact ⟨0, v, .zero h, fun i hi => dvOf (dv0 p) (by omega)⟩
  | @add s u v c hs hu e ih =>
    obtain ⟨d, x, hx, k⟩ := ih
    rcases hs with rfl | hs
    · exact ⟨d + c, x, hx, fun i hi => dvOf (dvAdd (e i hi) (k i hi)) (by rw [Int.add_mul]; omega)⟩
    · exact ⟨d, fun i => x i + c * s i, hx.sum (Sp.smul c (Sp.mem hs)), fun i hi => dvOf (dvAdd (e i hi) (k i hi)) (by simp only []; omega)⟩
/-! ### rows with steps -/
def RS (rows : List (Nat × V)) : V → Prop := fun x => ∃ q, (q, x) ∈ rows
def Stag (p : Int) : List (Nat × V) → Prop
  | [] => True
  | (q, r) :: rest => p ∣ r q - 1 ∧ (∀ a ∈ rest, p ∣ a.2 q) ∧ Stag p rest
theorem stag_zero {p : Int} {w : Nat} : ∀ {rows : List (Nat × V)} {v : V}, Stag p rows → (∀ a ∈ rows, a.1 < w) → Sp p w (RS rows) v → (∀ a ∈ rows, p ∣ v a.1) → ∀ i, i < w → p ∣ v i
  | [], v, _, _, h, _ => by
    intro i hi
    exact h.at0 hi fun s hs => by obtain ⟨_, hs⟩ := hs; cases hs
  | (q, r) :: rest, v, ⟨h1, h0, hs⟩, hq, h, hv => by
    have hm : Sp p w (fun x => x = r ∨ RS rest x) v := h.mono fun s ⟨q', hs⟩ => by
      rcases List.mem_cons.mp hs with e | e
      · exact .inl (by cases e; rfl)
      · exact .inr ⟨q', e⟩
    obtain ⟨c, u, hu, e⟩ := hm.split
    have hqw : q < w := hq (q, r) (by simp)
    have uq : p ∣ u q := hu.at0 hqw fun s ⟨q', hs⟩ => h0 (q', s) hs
    have cq : p ∣ c := by
      have a := e q hqw
      have b := hv (q, r) (by simp)
      have d := dvMul c h1
      rw [Int.mul_sub] at d
      exact dvOf (dvSub (dvSub (dvSub b a) uq) d) (by simp only []; omega)
    have hcr : ∀ i, p ∣ c * r i := fun i => dvOf (dvMul (r i) cq) (Int.mul_comm _ _)
    have hvu : Sp p w (RS rest) v := hu.congr fun i hi => dvOf (dvAdd (e i hi) (hcr i)) (by omega)
    exact stag_zero hs (fun a ha => hq a (List.mem_cons_of_mem _ ha)) hvu fun a ha => hv a (List.mem_cons_of_mem _ ha)
theorem stag_mem {p : Int} : ∀ {rows : List (Nat × V)}, Stag p rows → ∀ a ∈ rows, p ∣ a.2 a.1 - 1
  | (q, r) :: rest, ⟨h1, _, hs⟩, a, ha => by
    rcases List.mem_cons.mp ha with rfl | ha
    · exact h1
    · exact stag_mem hs a ha
theorem stag_snoc {p : Int} {q : Nat} {r : V} (h1 : p ∣ r q - 1) : ∀ {rows : List (Nat × V)}, Stag p rows → (∀ a ∈ rows, p ∣ r a.1) → Stag p (rows ++ [(q, r)])
  | [], _, _ => ⟨h1, (by intro a ha; cases ha), trivial⟩
  | (q', r') :: rest, ⟨g1, g0, gs⟩, h0 => ⟨g1, (by
      intro a ha
      rcases List.mem_append.mp ha with ha | ha
      · exact g0 a ha
      · simp at ha; subst ha; exact h0 (q', r') (by simp)), stag_snoc h1 gs fun a ha => h0 a (List.mem_cons_of_mem _ ha)⟩
/-- u is what is left of v -/
structure Red (p : Int) (w : Nat) (rows : List (Nat × V)) (v u : V) : Prop where
  sp : Sp p w (RS rows) (fun i => v i - u i)
  z : ∀ a ∈ rows, p ∣ u a.1
theorem Red.iff {p : Int} {w w' : Nat} {rows : List (Nat × V)} {v u : V} (h : Red p w' rows v u) (hw : w ≤ w') (hs : Stag p rows) (hq : ∀ a ∈ rows, a.1 < w) : Sp p w (RS rows) v ↔ ∀ i, i < w → p ∣ u i := by
  constructor
  · intro hv
    have hu : Sp p w (RS rows) u := ((hv.sum (Sp.smul (-1) (h.sp.cut hw)))).congr fun i hi => dvOf (dv0 p) (by omega)
    exact stag_zero hs hq hu h.z
  · intro hz
    exact (h.sp.cut hw).congr fun i hi => dvOf (hz i hi) (by omega)
/-- one row more -/
theorem red_step {p : Int} {w : Nat} {pre : List (Nat × V)} {q : Nat} {r v u x : V} (h : Red p w pre v u) (hs : ∀ a ∈ pre, p ∣ r a.1) (h1 : p ∣ r q - 1) (hq : q < w) (ha : ∀ a ∈ pre, a.1 < w) (e : ∀ i, i < w → p ∣ x i - (u i - u q * r i)) : Red p w (pre ++ [(q, r)]) v x := by
  constructor
  · have h2 : Sp p w (RS (pre ++ [(q, r)])) (fun i => v i - u i) := h.sp.mono fun s ⟨q', hs⟩ => ⟨q', List.mem_append_left _ hs⟩
    exact .add (s := r) (u q) ⟨q, by simp⟩ h2 fun i hi => dvOf (dvMul (-1) (e i hi)) (by omega)
  · intro a hm
    rcases List.mem_append.mp hm with hm | hm
    · have := e a.1 (ha a hm)
      exact dvOf (dvAdd this (dvSub (h.z a hm) (dvMul (u q) (hs a hm)))) (by omega)
    · simp at hm; subst hm
      have := e q hq
      have d := dvMul (u q) h1
      rw [Int.mul_sub] at d
      exact dvOf (dvSub this d) (by simp only []; omega)
theorem red_nil {p : Int} {w : Nat} {v : V} : Red p w [] v v := ⟨.zero fun i _ => dvOf (dv0 p) (by omega), by intro a ha; cases ha⟩
end Lin
namespace Lin
def sumTo : Nat → (Nat → Int) → Int
  | 0, _ => 0
  | k + 1, f => sumTo k f + f k
theorem sumTo_congr {p : Int} {f g : Nat → Int} : ∀ {n : Nat}, (∀ k, k < n → p ∣ f k - g k) → p ∣ sumTo n f - sumTo n g
  | 0, _ => dvOf (dv0 p) (by simp [sumTo])
  | n + 1, h => dvOf (dvAdd (sumTo_congr (n := n) fun k hk => h k (by omega)) (h n (by omega))) (by simp only [sumTo]; omega)
theorem sumTo_eq {f g : Nat → Int} : ∀ {n : Nat}, (∀ k, k < n → f k = g k) → sumTo n f = sumTo n g
  | 0, _ => rfl
  | n + 1, h => by simp only [sumTo]; rw [sumTo_eq (n := n) fun k hk => h k (by omega), h n (by omega)]
theorem sumTo_add {f g : Nat → Int} : ∀ (n : Nat), sumTo n (fun k => f k + g k) = sumTo n f + sumTo n g
  | 0 => rfl
  | n + 1 => by simp only [sumTo]; rw [sumTo_add n]; omega
theorem sumTo_sub {f g : Nat → Int} : ∀ (n : Nat), sumTo n (fun k => f k - g k) = sumTo n f - sumTo n g
  | 0 => rfl
  | n + 1 => by simp only [sumTo]; rw [sumTo_sub n]; omega
theorem sumTo_mul {f : Nat → Int} (c : Int) : ∀ (n : Nat), sumTo n (fun k => c * f k) = c * sumTo n f
  | 0 => by simp [sumTo]
  | n + 1 => by simp only [sumTo]; rw [sumTo_mul c n, Int.mul_add]
theorem sumTo_dv {p : Int} {f : Nat → Int} : ∀ {n : Nat}, (∀ k, k < n → p ∣ f k) → p ∣ sumTo n f
  | 0, _ => dv0 p
  | n + 1, h => dvAdd (sumTo_dv (n := n) fun k hk => h k (by omega)) (h n (by omega))
theorem sumTo_delta {p : Int} {f : Nat → Int} {i : Nat} {a : Int} : ∀ {n : Nat}, i < n → p ∣ f i - a → (∀ k, k < n → k ≠ i → p ∣ f k) → p ∣ sumTo n f - a
  | n + 1, hi, h1, h0 => by
    simp only [sumTo]
    rcases Nat.lt_or_ge i n with h | h
    · exact dvOf (dvAdd (sumTo_delta (n := n) h h1 fun k hk hn => h0 k (by omega) hn) (h0 n (by omega) (by omega))) (by omega)
    · have e : i = n := by omega
      subst e
      exact dvOf (dvAdd (sumTo_dv (n := i) fun k hk => h0 k (by omega) (by omega)) h1) (by omega)
theorem sumTo_tail {f : Nat → Int} {c : Nat} : ∀ {n : Nat}, c ≤ n → (∀ k, c ≤ k → k < n → f k = 0) → sumTo n f = sumTo c f
  | 0, h, _ => by have : c = 0 := by omega
                  subst this; rfl
  | n + 1, h, h0 => by
    rcases Nat.lt_or_ge n c with hc | hc
    · have : c = n + 1 := by omega
      subst this; rfl
    · simp only [sumTo]
      rw [h0 n hc (by omega), sumTo_tail (n := n) hc fun k a b => h0 k a (by omega)]
      omega
/-! ### the taken ones -/
def Pre (s : Nat → V) (k : Nat) : V → Prop := fun x => ∃ j, j < k ∧ x = s j
def Tk (p : Int) (w : Nat) (s : Nat → V) (k : Nat) : Prop := ¬ Sp p w (Pre s k) (s k)
structure Made (p : Int) (w n : Nat) (s : Nat → V) (t : V) (c : Nat → Int) : Prop where
  z : ∀ k, k < n → ¬ Tk p w s k → p ∣ c k
  e : ∀ i, i < w → p ∣ t i - sumTo n (fun k => c k * s k i)
theorem sp_sum {p : Int} {w : Nat} {s : Nat → V} {T : V → Prop} {e : Nat → Int} : ∀ {m : Nat}, (∀ k, k < m → T (s k)) → Sp p w T (fun i => sumTo m (fun k => e k * s k i))
  | 0, _ => .zero fun _ _ => dv0 p
  | m + 1, h => .add (e m) (h m (by omega)) (sp_sum (m := m) (e := e) fun k hk => h k (by omega)) fun i _ => dvOf (dv0 p) (by simp only [sumTo]; omega)
theorem Made.sp {p : Int} {w n : Nat} {s : Nat → V} {t : V} {c : Nat → Int} (h : Made p w n s t c) : Sp p w (Pre s n) t :=
  (sp_sum (p := p) (e := c) fun k hk => ⟨k, hk, rfl⟩).congr h.e
theorem alone {p : Int} {w : Nat} {s : Nat → V} {e : Nat → Int} (inv : ∀ a : Int, ¬ p ∣ a → ∃ b, p ∣ b * a - 1) : ∀ {m : Nat}, (∀ k, k < m → ¬ Tk p w s k → p ∣ e k) → (∀ i, i < w → p ∣ sumTo m (fun k => e k * s k i)) → ∀ k, k < m → p ∣ e k
  | m + 1, hz, hs, k, hk => by
    have em : p ∣ e m := by
      apply Classical.byContradiction
      intro hn
      obtain ⟨b, hb⟩ := inv _ hn
      refine hn (hz m (by omega) ?_)
      refine fun ht => ht ?_
      have h1 : Sp p w (Pre s m) (fun i => sumTo m (fun k => (-b * e k) * s k i)) := sp_sum fun k hk => ⟨k, hk, rfl⟩
      refine h1.congr fun i hi => ?_
      have h2 := dvMul b (hs i hi)
      have h3 := dvMul (s m i) hb
      have e1 : sumTo m (fun k => (-b * e k) * s k i) = -b * sumTo m (fun k => e k * s k i) := by
        rw [← sumTo_mul]
        exact sumTo_eq fun k _ => by rw [Int.mul_assoc]
      have e2 : b * sumTo (m + 1) (fun k => e k * s k i) = b * sumTo m (fun k => e k * s k i) + b * (e m * s m i) := by simp only [sumTo]; rw [Int.mul_add]
      have e3 : s m i * (b * e m - 1) = b * (e m * s m i) - s m i := by rw [Int.mul_sub, Int.mul_one, Int.mul_comm, Int.mul_assoc]
      rw [e3] at h3
      rw [e2] at h2
      rw [e1]
      exact dvOf (dvSub h2 h3) (by rw [Int.neg_mul]; omega)
    rcases Nat.lt_or_ge k m with h | h
    · refine alone inv (m := m) (fun k hk => hz k (by omega)) (fun i hi => ?_) k h
      have h1 := hs i hi
      simp only [sumTo] at h1
      have h2 := dvOf (dvMul (s m i) em) (Int.mul_comm _ _)
      exact dvOf (dvSub h1 h2) (by omega)
    · have : k = m := by omega
      subst this; exact em
theorem Made.uniq {p : Int} {w n : Nat} {s : Nat → V} {t : V} {c d : Nat → Int} (inv : ∀ a : Int, ¬ p ∣ a → ∃ b, p ∣ b * a - 1) (hc : Made p w n s t c) (hd : Made p w n s t d) : ∀ k, k < n → p ∣ c k - d k := by
  refine alone (s := s) (w := w) (e := fun k => c k - d k) inv (fun k hk ht => dvSub (hc.z k hk ht) (hd.z k hk ht)) fun i hi => ?_
  have e : sumTo n (fun k => (c k - d k) * s k i) = sumTo n (fun k => c k * s k i) - sumTo n (fun k => d k * s k i) := by
    rw [← sumTo_sub]
    exact sumTo_eq fun k _ => by rw [Int.sub_mul]
  rw [e]
  exact dvOf (dvSub (hd.e i hi) (hc.e i hi)) (by omega)
def TS (p : Int) (w : Nat) (s : Nat → V) (m : Nat) : V → Prop := fun x => ∃ j, j < m ∧ Tk p w s j ∧ x = s j
/-! ### solving -/
def Rel (p : Int) (w N : Nat) (A : Nat → V) (x : V) : Prop := ∀ i, i < w → p ∣ sumTo N (fun c => A i c * x c)
structure GJ (p : Int) (w N : Nat) (cols : Nat → V) (c : Nat) (A : Nat → V) : Prop where
  rel : ∀ x, Rel p w N A x ↔ Rel p w N (fun i c => cols c i) x
  one : ∀ j, j < c → p ∣ A j j - 1
  nul : ∀ j i, j < c → i < w → i ≠ j → p ∣ A i j
  le : c ≤ w
theorem GJ.zero {p : Int} {w N : Nat} {cols : Nat → V} {c : Nat} {A : Nat → V} (h : GJ p w N cols c A) (hc : c < N) (hz : ∀ i, c ≤ i → i < w → p ∣ A i c) : ∀ i, i < w → p ∣ cols c i - sumTo c (fun j => A j c * cols j i) := by
  let x : V := fun j => if j = c then 1 else if j < c then - A j c else 0
  have hx : Rel p w N A x := by
    intro i hi
    have e : sumTo N (fun j => A i j * x j) = sumTo (c + 1) (fun j => A i j * x j) := sumTo_tail (by omega) fun k a b => by
      show A i k * (if k = c then 1 else if k < c then - A k c else 0) = 0
      rw [if_neg (by omega), if_neg (by omega), Int.mul_zero]
    rw [e]
    simp only [sumTo]
    have e2 : A i c * x c = A i c := by show A i c * (if c = c then 1 else _) = _; rw [if_pos rfl, Int.mul_one]
    have e3 : sumTo c (fun j => A i j * x j) = sumTo c (fun j => A i j * (- A j c)) := sumTo_eq fun j hj => by
      show A i j * (if j = c then 1 else if j < c then - A j c else 0) = _
      rw [if_neg (by omega), if_pos hj]
    rw [e2, e3]
    rcases Nat.lt_or_ge i c with hic | hic
    · have := sumTo_delta (p := p) (f := fun j => A i j * (- A j c)) (a := - A i c) hic (dvOf (dvMul (- A i c) (h.one i hic)) (by rw [Int.mul_sub, Int.mul_comm]; omega)) fun k hk hn => dvOf (dvMul (- A k c) (h.nul k i hk hi (Ne.symm hn))) (Int.mul_comm _ _)
      exact dvOf this (by omega)
    · exact dvAdd (sumTo_dv fun k hk => dvOf (dvMul (- A k c) (h.nul k i hk hi (by omega))) (Int.mul_comm _ _)) (hz i hic hi)
  intro i hi
  have h2 := (h.rel x).mp hx i hi
  have e : sumTo N (fun j => cols j i * x j) = sumTo (c + 1) (fun j => cols j i * x j) := sumTo_tail (by omega) fun k a b => by
    show cols k i * (if k = c then 1 else if k < c then - A k c else 0) = 0
    rw [if_neg (by omega), if_neg (by omega), Int.mul_zero]
  rw [e] at h2
  simp only [sumTo] at h2
  have e2 : cols c i * x c = cols c i := by show cols c i * (if c = c then 1 else _) = _; rw [if_pos rfl, Int.mul_one]
  have e3 : sumTo c (fun j => cols j i * x j) = - sumTo c (fun j => A j c * cols j i) := by
    have : sumTo c (fun j => cols j i * x j) = sumTo c (fun j => (-1) * (A j c * cols j i)) := sumTo_eq fun j hj => by
      show cols j i * (if j = c then 1 else if j < c then - A j c else 0) = _
      rw [if_neg (by omega), if_pos hj, Int.mul_neg, Int.mul_comm]; omega
    rw [this, sumTo_mul]; omega
  rw [e2, e3] at h2
  exact dvOf h2 (by omega)
theorem GJ.none {p : Int} {w r : Nat} {cols : Nat → V} {A : Nat → V} (h : GJ p w (r + 1) cols r A) {y : Nat → Int} (hy : ∀ i, i < w → p ∣ cols r i - sumTo r (fun j => y j * cols j i)) : ∀ i, r ≤ i → i < w → p ∣ A i r := by
  let x : V := fun j => if j < r then - y j else 1
  have hx : Rel p w (r + 1) (fun i c => cols c i) x := by
    intro i hi
    simp only [sumTo]
    have e2 : cols r i * x r = cols r i := by show cols r i * (if r < r then _ else 1) = _; rw [if_neg (by omega), Int.mul_one]
    have e3 : sumTo r (fun j => cols j i * x j) = - sumTo r (fun j => y j * cols j i) := by
      have : sumTo r (fun j => cols j i * x j) = sumTo r (fun j => (-1) * (y j * cols j i)) := sumTo_eq fun j hj => by
        show cols j i * (if j < r then - y j else 1) = _
        rw [if_pos hj, Int.mul_neg, Int.mul_comm]; omega
      rw [this, sumTo_mul]; omega
    rw [e2, e3]
    exact dvOf (hy i hi) (by omega)
  intro i h1 hi
  have h2 := (h.rel x).mpr hx i hi
  simp only [sumTo] at h2
  have e2 : A i r * x r = A i r := by show A i r * (if r < r then _ else 1) = _; rw [if_neg (by omega), Int.mul_one]
  rw [e2] at h2
  exact dvOf (dvSub h2 (sumTo_dv (p := p) (f := fun c => A i c * x c) fun k hk => dvOf (dvMul (x k) (h.nul k i hk hi (by omega))) (Int.mul_comm _ _))) (by omega)
theorem GJ.start {p : Int} {w N : Nat} {cols : Nat → V} {A : Nat → V} (e : ∀ i c, i < w → c < N → A i c = cols c i) : GJ p w N cols 0 A where
  rel x := by
    constructor
    · intro h i hi
      have := h i hi
      rwa [sumTo_eq (g := fun c => cols c i * x c) fun c hc => by rw [e i c hi hc]] at this
    · intro h i hi
      rw [sumTo_eq (g := fun c => cols c i * x c) fun c hc => by rw [e i c hi hc]]
      exact h i hi
  one j h := by omega
  nul j i h := by omega
  le := by omega
/-- within a column: rows so far cleared -/
structure GC (p : Int) (w N : Nat) (cols : Nat → V) (c m : Nat) (A : Nat → V) : Prop where
  rel : ∀ x, Rel p w N A x ↔ Rel p w N (fun i c => cols c i) x
  one : ∀ j, j < c → p ∣ A j j - 1
  nul : ∀ j i, j < c → i < w → i ≠ j → p ∣ A i j
  le : c < w
  piv : p ∣ A c c - 1
  clr : ∀ i, i < m → i < w → i ≠ c → p ∣ A i c
/-- two rows change places -/
theorem GJ.swap {p : Int} {w N : Nat} {cols : Nat → V} {c h : Nat} {A B : Nat → V} (g : GJ p w N cols c A) (h1 : c ≤ h) (h2 : h < w) (hB : ∀ i k, i < w → k < N → B i k = A (if i = c then h else if i = h then c else i) k) (hN : c ≤ N) : GJ p w N cols c B where
  rel x := by
    rw [← g.rel x]
    have key : ∀ i, i < w → sumTo N (fun k => B i k * x k) = sumTo N (fun k => A (if i = c then h else if i = h then c else i) k * x k) := fun i hi => sumTo_eq fun k hk => by rw [hB i k hi hk]
    constructor
    · intro hr i hi
      by_cases e1 : i = c
      · subst e1
        have := hr h h2
        rw [key h h2] at this
        by_cases e3 : h = i
        · subst e3; rwa [if_pos rfl] at this
        · rwa [if_neg e3, if_pos rfl] at this
      · by_cases e2 : i = h
        · subst e2
          have := hr c (by omega)
          rwa [key c (by omega), if_pos rfl] at this
        · have := hr i hi
          rwa [key i hi, if_neg e1, if_neg e2] at this
    · intro hr i hi
      rw [key i hi]
      apply hr
      split
      · exact h2
      · split <;> omega
  one j hj := by rw [hB j j (by omega) (by omega), if_neg (by omega), if_neg (by omega)]; exact g.one j hj
  nul j i hj hi hn := by
    rw [hB i j hi (by omega)]
    refine g.nul j _ hj ?_ ?_
    · split
      · exact h2
      · split <;> omega
    · split
      · omega
      · split <;> omega
  le := g.le
/-- a row is cleared -/
theorem GC.step {p : Int} {w N : Nat} {cols : Nat → V} {c m : Nat} {A B : Nat → V} (g : GC p w N cols c m A) (hcN : c < N) (hm : m < w) (hn : m ≠ c) (hB : ∀ i k, i < w → k < N → i ≠ m → B i k = A i k) (hBm : ∀ k, k < N → p ∣ B m k - (A m k - A m c * A c k)) : GC p w N cols c (m + 1) B where
  rel x := by
    rw [← g.rel x]
    have key : p ∣ sumTo N (fun k => B m k * x k) - (sumTo N (fun k => A m k * x k) - A m c * sumTo N (fun k => A c k * x k)) := by
      rw [← sumTo_mul, ← sumTo_sub]
      exact sumTo_congr fun k hk => dvOf (dvMul (x k) (hBm k hk)) (by rw [Int.mul_sub, Int.mul_sub, Int.mul_comm (x k) (B m k), Int.mul_comm (x k) (A m k), Int.mul_comm (x k), Int.mul_assoc])
    constructor
    · intro hr
      have hc : p ∣ sumTo N (fun k => A c k * x k) := by
        have := hr c g.le
        rwa [sumTo_eq (g := fun k => A c k * x k) fun k hk => by rw [hB c k g.le hk (by omega)]] at this
      intro i hi
      by_cases e : i = m
      · subst e
        exact dvOf (dvAdd (dvSub (hr i hi) key) (dvMul (A i c) hc)) (by omega)
      · have := hr i hi
        rwa [sumTo_eq (g := fun k => A i k * x k) fun k hk => by rw [hB i k hi hk e]] at this
    · intro hr i hi
      by_cases e : i = m
      · subst e
        exact dvOf (dvAdd key (dvSub (hr i hi) (dvMul (A i c) (hr c g.le)))) (by omega)
      · rw [sumTo_eq (g := fun k => A i k * x k) fun k hk => by rw [hB i k hi hk e]]
        exact hr i hi
  one j hj := by
    have hjw : j < w := by have := g.le; omega
    by_cases e : j = m
    · subst e
      have a := hBm j (by omega)
      have b := dvMul (A j c) (g.nul j c hj g.le (by omega))
      exact dvOf (dvAdd (dvSub a b) (g.one j hj)) (by omega)
    · rw [hB j j hjw (by omega) e]; exact g.one j hj
  nul j i hj hi hne := by
    by_cases e : i = m
    · subst e
      have a := hBm j (by omega)
      have b := dvMul (A i c) (g.nul j c hj g.le (by omega))
      exact dvOf (dvAdd (dvSub a b) (g.nul j i hj hi hne)) (by omega)
    · rw [hB i j hi (by omega) e]; exact g.nul j i hj hi hne
  le := g.le
  piv := by rw [hB c c g.le hcN (by omega)]; exact g.piv
  clr i hi hw hne := by
    by_cases e : i = m
    · subst e
      have a := hBm c hcN
      have b := dvMul (A i c) g.piv
      rw [Int.mul_sub] at b
      exact dvOf (dvSub a b) (by omega)
    · rw [hB i c hw hcN e]; exact g.clr i (by omega) hw hne
theorem GC.skip {p : Int} {w N : Nat} {cols : Nat → V} {c m : Nat} {A : Nat → V} (g : GC p w N cols c m A) (h : m = c ∨ p ∣ A m c) : GC p w N cols c (m + 1) A :=
  ⟨g.rel, g.one, g.nul, g.le, g.piv, fun i hi hw hne => by
    by_cases e : i = m
    · subst e
      rcases h with h | h
      · exact absurd h hne
      · exact h
    · exact g.clr i (by omega) hw hne⟩
theorem GC.done {p : Int} {w N : Nat} {cols : Nat → V} {c : Nat} {A : Nat → V} (g : GC p w N cols c w A) : GJ p w N cols (c + 1) A where
  rel := g.rel
  one j hj := by
    by_cases e : j = c
    · subst e; exact g.piv
    · exact g.one j (by omega)
  nul j i hj hi hn := by
    by_cases e : j = c
    · subst e; exact g.clr i hi hi hn
    · exact g.nul j i (by omega) hi hn
  le := g.le
end Lin
namespace Ev
open PySem L2
def Rg (p : Int) (v : List Int) : Prop := ∀ x ∈ v, 0 ≤ x ∧ x < p
def co (v : List Int) : Lin.V := fun i => v.getD i 0
theorem zip_vec_len (a b : List Int) : (zipD (vec a) (vec b)).length = min a.length b.length := by rw [zipD_length, vec_len, vec_len]
theorem zip_vec {a b : List Int} {j : Nat} {x : D} (h : (zipD (vec a) (vec b))[j]? = some x) : j < a.length ∧ j < b.length ∧ x = .tup [.int (a.getD j 0), .int (b.getD j 0)] := by
  obtain ⟨u, v, h1, h2, rfl⟩ := zipD_get _ _ _ _ h
  obtain ⟨g1, rfl⟩ := vec_get h1
  obtain ⟨g2, rfl⟩ := vec_get h2
  exact ⟨g1, g2, rfl⟩
theorem getD_lt {v : List Int} {j : Nat} (h : j < v.length) : v.getD j 0 = v[j] := by rw [List.getD_eq_getElem?_getD, List.getElem?_eq_getElem h]; rfl
theorem Rg.at {p : Int} {v : List Int} (h : Rg p v) {j : Nat} (hj : j < v.length) : 0 ≤ v.getD j 0 ∧ v.getD j 0 < p := by
  rw [getD_lt hj]
  exact h _ (List.getElem_mem hj)
end Ev
namespace Ev
open PySem L2
def okI (p v : Int) : FRes → Bool
  | .ok (.d (.int t)) [.un, .un] => decide (0 < t) && decide (t < p) && decide ((t * v) % p = 1)
  | _ => false
theorem okI_eq {p v : Int} {r : FRes} (h : okI p v r = true) : ∃ t : Int, r = .ok (.d (.int t)) [.un, .un] ∧ 0 < t ∧ t < p ∧ (t * v) % p = 1 := by
  unfold okI at h
  split at h
  · rename_i t
    simp only [Bool.and_eq_true, decide_eq_true_eq] at h
    exact ⟨t, rfl, h.1.1, h.1.2, h.2⟩
  · cases h
def allI (f : Int → Int → Bool) : Bool := [2, 3, 5, 7, 11, 13, 31, 97, 251].all fun p : Nat => (List.range p).all fun v => v == 0 || f p v
theorem allI_at {f : Int → Int → Bool} (h : allI f = true) {p v : Int} (hp : p ∈ primes) (h0 : 0 < v) (h1 : v < p) : f p v = true := by
  have hp' : p.toNat ∈ [2, 3, 5, 7, 11, 13, 31, 97, 251] ∧ 0 ≤ p := by
    unfold primes at hp
    simp only [List.mem_cons, List.not_mem_nil, or_false] at hp
    rcases hp with rfl | rfl | rfl | rfl | rfl | rfl | rfl | rfl | rfl | rfl | rfl | rfl | rfl | rfl <;> decide
  have h2 := List.all_eq_true.mp (List.all_eq_true.mp h p.toNat hp'.1) v.toNat (List.mem_range.mpr (by omega))
  rw [Int.toNat_of_nonneg hp'.2, Int.toNat_of_nonneg (by omega)] at h2
  rcases Bool.or_eq_true _ _ |>.mp h2 with h3 | h3
  · have := eq_of_beq h3
    omega
  · exact h3
theorem inverse_ok {p v : Int} (hp : p ∈ primes) (h0 : 0 < v) (h1 : v < p) : ∃ t : Int, F_inverse [.sh (.int p), .sh (.int v)] = .ok (.d (.int t)) [.un, .un] ∧ 0 < t ∧ t < p ∧ (t * v) % p = 1 :=
  okI_eq (allI_at (f := fun p v => okI p v (F_inverse [.sh (.int p), .sh (.int v)])) (by decide +kernel) hp h0 h1)
end Ev
namespace Ev
open PySem L2
def B.isLoc : B → Bool
  | .loc _ => true
  | _ => false
theorem bnd_free {ρ : Env} {i : Nat} {x s : Slot} (h : ρ.o[i]? = none) (h2 : ρ.v[i]? = some s) : ρ.bnd i x = some { ρ with v := ρ.v.set i x } := by
  unfold Env.bnd
  rw [h, h2]
  cases s <;> rfl
theorem set_t2 {ρ : Env} {i j : Nat} {x y : D} {s t : Slot} (h : ρ.o[i]? = none) (h2 : ρ.v[i]? = some s) (g : ρ.o[j]? = none) (g2 : (ρ.v.set i (.sh x))[j]? = some t) : (Tg.t [i, j]).set ρ (.tup [x, y]) = some ⟨(ρ.v.set i (.sh x)).set j (.sh y), ρ.o⟩ := by
  show bndAll ρ [i, j] [x, y] = _
  unfold bndAll
  rw [bnd_free h h2]
  show bndAll _ [j] [y] = _
  unfold bndAll
  rw [bnd_free (ρ := ⟨ρ.v.set i (.sh x), ρ.o⟩) g g2]
  rfl
section
variable {ρ : Env} {nx : Env → Prop} {rt : B → Env → Prop} {bk : Env → Prop}
/-- x = e, e no list of a variable -/
theorem ws_asgV {i : Nat} {e : E} (h : W (evE e ρ) fun b ρ1 => b.isLoc = false ∧ ∃ ρ3, bindB ρ1 i b = some ρ3 ∧ nx ρ3) : WS (evS (.asg (.n i) e) ρ) nx rt bk :=
  ws_asg (W.mono h fun b ρ1 ⟨h1, ρ3, h2, h3⟩ => by
    cases b with
    | d x => exact ⟨_, _, ρ3, rfl, h2, h3⟩
    | nw x => exact ⟨_, _, ρ3, rfl, h2, h3⟩
    | loc j => cases h1)
end
/-- rows with their places -/
def rowsD (rows : List (Nat × List Int)) : List D := rows.map fun a => .tup [.int (a.1 : Int), .lst (vec a.2)]
def absR (rows : List (Nat × List Int)) : List (Nat × Lin.V) := rows.map fun a => (a.1, co a.2)
def sub (p k : Int) (a b : List Int) : List Int := List.zipWith (fun x y => (x - k * y) % p) a b
theorem sub_len (p k : Int) (a b : List Int) : (sub p k a b).length = min a.length b.length := by unfold sub; rw [List.length_zipWith]
theorem sub_at {p k : Int} {a b : List Int} {j : Nat} (h1 : j < a.length) (h2 : j < b.length) : (sub p k a b).getD j 0 = (a.getD j 0 - k * b.getD j 0) % p := by
  rw [getD_lt (by rw [sub_len]; omega), getD_lt h1, getD_lt h2]
  unfold sub
  rw [List.getElem_zipWith]
theorem sub_rg {p k : Int} {a b : List Int} (hp : 0 < p) : Rg p (sub p k a b) := by
  intro x hx
  obtain ⟨j, hj, rfl⟩ := List.mem_iff_getElem.mp hx
  rw [← getD_lt hj]
  rw [sub_len] at hj
  rw [sub_at (by omega) (by omega)]
  exact ⟨Int.emod_nonneg _ (by omega), Int.emod_lt_of_pos _ hp⟩
theorem dv_mod (p x : Int) : p ∣ x % p - x := ⟨-(x / p), by have := Int.emod_add_mul_ediv x p; rw [Int.mul_neg]; omega⟩
theorem rowsD_get {rows : List (Nat × List Int)} {j : Nat} {x : D} (h : (rowsD rows)[j]? = some x) : ∃ a, rows[j]? = some a ∧ x = .tup [.int (a.1 : Int), .lst (vec a.2)] := by
  unfold rowsD at h
  rw [List.getElem?_map] at h
  cases e : rows[j]? with
  | none => rw [e] at h; cases h
  | some a => rw [e] at h; cases h; exact ⟨a, rfl, rfl⟩
theorem take_succ_of {α : Type} {xs : List α} {j : Nat} {a : α} (h : xs[j]? = some a) : xs.take (j + 1) = xs.take j ++ [a] := by
  rw [List.take_add_one, h]
  rfl
structure Rows (p : Int) (W : Nat) (rows : List (Nat × List Int)) : Prop where
  g : ∀ a ∈ rows, a.1 < W ∧ a.2.length = W ∧ Rg p a.2
  s : Lin.Stag p (absR rows)
theorem absR_mem {rows : List (Nat × List Int)} {b : Nat × Lin.V} (h : b ∈ absR rows) : ∃ a ∈ rows, b = (a.1, co a.2) := by
  obtain ⟨a, ha, rfl⟩ := List.mem_map.mp h
  exact ⟨a, ha, rfl⟩
theorem stag_take {p : Int} : ∀ {rows : List (Nat × List Int)} {j : Nat} {a : Nat × List Int}, Lin.Stag p (absR rows) → rows[j]? = some a → p ∣ co a.2 a.1 - 1 ∧ ∀ b ∈ absR (rows.take j), p ∣ co a.2 b.1
  | b :: rows, 0, a, h, e => by
    cases e
    exact ⟨h.1, fun _ h => by cases h⟩
  | b :: rows, j + 1, a, h, e => by
    obtain ⟨h1, h2⟩ := stag_take h.2.2 (j := j) (by simpa using e)
    refine ⟨h1, fun c hc => ?_⟩
    rcases List.mem_cons.mp hc with rfl | hc
    · exact h.2.1 (a.1, co a.2) (List.mem_map.mpr ⟨a, List.mem_of_getElem? (by simpa using e), rfl⟩)
    · exact h2 c hc
def redFS (p : Int) (n : Nat) (R : List D) (L : Slot) (d : D) (u : List Int) (pl rw tm : Slot) : Env := ⟨[.sh (.int p), L, .sh d, .ow (vec u), pl, rw, tm, .un, .un], [.un, .att, .un]⟩
theorem reducedS_ok {p : Int} {n : Nat} {rows : List (Nat × List Int)} {v : List Int} {d : D} (hd : d = .lst (vec v) ∨ d = .tup (vec v)) (hp : 1 < p) (hp2 : p < 1000) (hW : n ≤ 1000) (hr : Rows p n rows) (hv : v.length = n) (hR : Rg p v) :
    WF (F_reduced [.sh (.int p), .ow (rowsD rows), .sh d]) fun r o => ∃ u, r = .nw (vec u) ∧ o = [.un, .ow (rowsD rows), .un] ∧ u.length = n ∧ Rg p u ∧ Lin.Red p n (absR rows) (co v) (co u) := by
  refine wf_fn (ws_cons (ws_asgV (w_prim (W.of rfl ⟨_, _, rfl, (by rcases hd with rfl | rfl <;> rfl), rfl, redFS p n (rowsD rows) (.ow (rowsD rows)) d v .un .un .un, rfl, ?_⟩))))
  refine ws_cons (ws_for (W.of (a := [.loc 1]) (ρ := redFS p n (rowsD rows) (.ow (rowsD rows)) d v .un .un .un) rfl ⟨_, rowsD rows, rfl, rfl, fun j ρ => ∃ u pl rw tm, ρ = redFS p n (rowsD rows) (.lk (rowsD rows)) d u pl rw tm ∧ u.length = n ∧ Rg p u ∧ Lin.Red p n (absR (rows.take j)) (co v) (co u), ⟨v, .un, .un, .un, rfl, hv, hR, Lin.red_nil⟩, ?_, ?_⟩))
  · rintro j x ρ2 hx ⟨u, pl, rw, tm, rfl, hu, hUR, hRed⟩
    obtain ⟨a, ha, rfl⟩ := rowsD_get hx
    obtain ⟨q, r⟩ := a
    obtain ⟨hq, hrl, hrr⟩ := hr.g _ (List.mem_of_getElem? ha)
    have hq : q < n := hq
    have hrl : r.length = n := hrl
    obtain ⟨hone, hz⟩ := stag_take hr.s ha
    have hstep : ∀ {x : List Int}, (∀ i, i < n → p ∣ co x i - (co u i - co u q * co r i)) → Lin.Red p n (absR (rows.take (j + 1))) (co v) (co x) := fun {x} e => by
      have := Lin.red_step hRed hz hone hq (fun b hb => by
        obtain ⟨c, hc, rfl⟩ := absR_mem hb
        exact (hr.g c (List.mem_of_mem_take hc)).1) e
      rw [take_succ_of ha]
      unfold absR at this ⊢
      rw [List.map_append]
      exact this
    generalize hqi : (q : Int) = qi
    refine ⟨redFS p n (rowsD rows) (.lk (rowsD rows)) d u (.sh (.int qi)) (.sh (.lst (vec r))) tm, set_t2 rfl rfl rfl rfl, ?_⟩
    refine ws_cons (ws_asgV (w_prim (W.of (a := [.loc 3, .d (.int qi)]) (ρ := redFS p n (rowsD rows) (.lk (rowsD rows)) d u (.sh (.int qi)) (.sh (.lst (vec r))) tm) rfl ⟨_, .d (.int (u.getD q 0)), rfl, (by rw [← hqi]; exact ix_lst (vec_at (by rw [hu]; exact hq))), rfl, redFS p n (rowsD rows) (.lk (rowsD rows)) d u (.sh (.int qi)) (.sh (.lst (vec r))) (.sh (.int (u.getD q 0))), bnd_free rfl rfl, ?_⟩)))
    have hk := hUR.at (j := q) (by omega)
    generalize hkk : u.getD q 0 = k at hk
    refine ws_cons (ws_ite (wt_eb (w_prim (W.of (a := [.d (.int k), .d (.int 0)]) (ρ := redFS p n (rowsD rows) (.lk (rowsD rows)) d u (.sh (.int qi)) (.sh (.lst (vec r))) (.sh (.int k))) rfl ⟨_, _, rfl, ne_int _ _, _, rfl, fun h => ?_, fun h => ?_⟩))))
    · have core : ∀ (j : Nat) (x y : D), (zipD (vec u) (vec r))[j]? = some x → (vec (sub p k u r))[j]? = some y → ∃ ρ3, (Tg.t [7, 8]).set ⟨[.sh (.int p), .lk (rowsD rows), .sh d, .lk (vec u), .sh (.int qi), .sh (.lst (vec r)), .sh (.int k), .un, .un], [.un, .att, .un]⟩ x = some ρ3 ∧ W (evE (.prim fMod (.cons (.prim fSub (.cons (.var 7) (.cons (.prim fMul (.cons (.var 6) (.cons (.var 8) .nil))) .nil))) (.cons (.var 0) .nil))) ρ3) fun b ρ5 => ∃ ρ6, b.keep ρ5 = some (y, ρ6) ∧ wipeE ρ6 [7, 8] = ⟨[.sh (.int p), .lk (rowsD rows), .sh d, .lk (vec u), .sh (.int qi), .sh (.lst (vec r)), .sh (.int k), .un, .un], [.un, .att, .un]⟩ := fun j x y hx hy => by
        obtain ⟨j1, j2, rfl⟩ := zip_vec hx
        obtain ⟨_, rfl⟩ := vec_get hy
        rw [sub_at j1 j2]
        refine ⟨⟨[.sh (.int p), .lk (rowsD rows), .sh d, .lk (vec u), .sh (.int qi), .sh (.lst (vec r)), .sh (.int k), .sh (.int (u.getD j 0)), .sh (.int (r.getD j 0))], [.un, .att, .un]⟩, rfl, ?_⟩
        refine w_prim (wa_cons (w_prim (wa_cons (W.of rfl (wa_cons (w_prim (W.of rfl ⟨_, _, rfl, mul_ok (mulOk_l (by omega) (by omega)), W.of rfl ⟨_, _, rfl, rfl, W.of rfl ⟨_, _, rfl, mod_ok (by omega), _, rfl, rfl⟩⟩⟩)))))))
      refine ws_cons (ws_asgV (w_lcm (W.of (a := [.loc 3, .d (.lst (vec r))]) rfl ⟨[.lst (vec u), .lst (vec r)], _, rfl, rfl, ⟨by rw [zip_vec_len, sizeLine_eq]; omega, rfl, rfl⟩, vec (sub p k u r), by rw [zip_vec_len, vec_len, sub_len], core, rfl, redFS p n (rowsD rows) (.lk (rowsD rows)) d (sub p k u r) (.sh (.int qi)) (.sh (.lst (vec r))) (.sh (.int k)), rfl, ?_⟩)))
      refine ws_nil (ws_nil ⟨_, _, _, _, rfl, by rw [sub_len]; omega, sub_rg (by omega), hstep fun i hi => ?_⟩)
      show p ∣ (sub p k u r).getD i 0 - _
      rw [sub_at (by omega) (by omega)]
      show p ∣ (u.getD i 0 - k * r.getD i 0) % p - (u.getD i 0 - u.getD q 0 * r.getD i 0)
      rw [hkk]
      exact dv_mod _ _
    · have hk0 : k = 0 := by simpa using h
      refine ws_nil (ws_nil ⟨u, _, _, _, rfl, hu, hUR, hstep fun i hi => ?_⟩)
      show p ∣ co u i - (co u i - u.getD q 0 * co r i)
      rw [hkk, hk0]
      exact ⟨0, by omega⟩
  · rintro ρ2 ⟨u, pl, rw, tm, rfl, hu, hUR, hRed⟩
    have hl : (rowsD rows).length = rows.length := List.length_map ..
    rw [hl, List.take_length] at hRed
    refine ws_cons (ws_ret (W.of (a := .loc 3) rfl ⟨.nw (vec u), _, rfl, u, rfl, rfl, hu, hUR, hRed⟩))
end Ev
namespace Ev
open PySem L2
theorem primes_lt {p : Int} (hp : p ∈ primes) : 1 < p ∧ p < 1000 := by
  unfold primes at hp
  simp only [List.mem_cons, List.not_mem_nil, or_false] at hp
  rcases hp with rfl | rfl | rfl | rfl | rfl | rfl | rfl | rfl | rfl | rfl | rfl | rfl | rfl | rfl <;> decide
def mulr (p t : Int) (v : List Int) : List Int := v.map fun x => x * t % p
theorem mulr_len (p t : Int) (v : List Int) : (mulr p t v).length = v.length := List.length_map ..
theorem mulr_at {p t : Int} {v : List Int} {j : Nat} (h : j < v.length) : (mulr p t v).getD j 0 = v.getD j 0 * t % p := by
  rw [getD_lt (by rw [mulr_len]; exact h), getD_lt h]
  unfold mulr
  rw [List.getElem_map]
theorem mulr_rg {p t : Int} {v : List Int} (hp : 0 < p) : Rg p (mulr p t v) := by
  intro x hx
  obtain ⟨y, _, rfl⟩ := List.mem_map.mp hx
  exact ⟨Int.emod_nonneg _ (by omega), Int.emod_lt_of_pos _ hp⟩
/-- what leading tells -/
def Lead (p : Int) (w : Nat) (v : List Int) (r : RB) : Prop := (r = .d .non ∧ ∀ i, i < w → v.getD i 0 = 0) ∨ ∃ (q : Nat) (t : Int), q < w ∧ (∀ i, i < q → v.getD i 0 = 0) ∧ 0 < t ∧ t < p ∧ t * v.getD q 0 % p = 1 ∧ r = .d (.tup [.int (q : Int), .lst (vec (mulr p t v))])
def leadF (p wi : Int) (v : List Int) (pl tm : Slot) : Env := ⟨[.sh (.int p), .sh (.int wi), .ow (vec v), pl, tm, .un], [.un, .un, .att]⟩
theorem leading_ok {p wi : Int} {w : Nat} {v : List Int} (hpp : p ∈ primes) (hw : wi = w) (hl : w ≤ v.length) (hz : v.length ≤ 1000) (hR : Rg p v) :
    WF (F_leading [.sh (.int p), .sh (.int wi), .ow (vec v)]) fun r o => o = [.un, .un, .ow (vec v)] ∧ Lead p w v r := by
  obtain ⟨hp1, hp2⟩ := primes_lt hpp
  refine wf_fn (ws_cons (ws_for (W.of (a := [.d (.int wi)]) (ρ := leadF p wi v .un .un) rfl ⟨[.int wi], _, rfl, range1_ok (by omega) (by omega), fun j ρ => ∃ pl, ρ = leadF p wi v pl .un ∧ ∀ i, i < j → v.getD i 0 = 0, ⟨_, rfl, fun i h => by omega⟩, ?_, ?_⟩)))
  · rintro j x ρ2 hx ⟨pl, rfl, h0⟩
    obtain ⟨hj, rfl⟩ := upFrom_get _ _ _ _ hx
    generalize hji : 0 + (j : Int) = ji
    have hjw : j < w := by omega
    refine ⟨leadF p wi v (.sh (.int ji)) .un, bnd_free rfl rfl, ?_⟩
    have hix : fIx [.lst (vec v), .int ji] = some (.d (.int (v.getD j 0))) := by
      rw [← hji, Int.zero_add]
      exact ix_lst (vec_at (by omega))
    have hk := hR.at (j := j) (by omega)
    generalize hkk : v.getD j 0 = k at hk hix
    refine ws_cons (ws_ite (wt_eb (w_prim (wa_cons (w_prim (W.of (a := [.loc 2, .d (.int ji)]) (ρ := leadF p wi v (.sh (.int ji)) .un) rfl ⟨_, .d (.int k), rfl, hix, W.of (a := [.d (.int 0)]) (ρ := leadF p wi v (.sh (.int ji)) .un) rfl ⟨[.int k, .int 0], _, rfl, ne_int _ _, _, rfl, fun h => ?_, fun h => ?_⟩⟩))))))
    · have hk0 : k ≠ 0 := by simpa using h
      obtain ⟨t, ht, t0, t1, t2⟩ := inverse_ok hpp (v := k) (by omega) (by omega)
      refine ws_cons (ws_asgV (w_call (wa_cons (W.of (a := .d (.int p)) (ρ := leadF p wi v (.sh (.int ji)) .un) rfl (wa_cons (w_prim (W.of (a := [.loc 2, .d (.int ji)]) (ρ := leadF p wi v (.sh (.int ji)) .un) rfl ⟨_, .d (.int k), rfl, hix, wa_nil ⟨rfl, [.sh (.int p), .sh (.int k)], rfl, ?_⟩⟩)))))))
      rw [ht]
      refine ⟨rfl, leadF p wi v (.sh (.int ji)) (.sh (.int t)), rfl, ?_⟩
      have core : ∀ (j : Nat) (x y : D), (vec v)[j]? = some x → (vec (mulr p t v))[j]? = some y → ∃ ρ3, (Tg.n 5).set ⟨[.sh (.int p), .sh (.int wi), .lk (vec v), .sh (.int ji), .sh (.int t), .un], [.un, .un, .att]⟩ x = some ρ3 ∧ W (evE (.prim fMod (.cons (.prim fMul (.cons (.var 5) (.cons (.var 4) .nil))) (.cons (.var 0) .nil))) ρ3) fun b ρ5 => ∃ ρ6, b.keep ρ5 = some (y, ρ6) ∧ wipeE ρ6 [5] = ⟨[.sh (.int p), .sh (.int wi), .lk (vec v), .sh (.int ji), .sh (.int t), .un], [.un, .un, .att]⟩ := fun j x y hx hy => by
        obtain ⟨j1, rfl⟩ := vec_get hx
        obtain ⟨_, rfl⟩ := vec_get hy
        rw [mulr_at j1]
        refine ⟨⟨[.sh (.int p), .sh (.int wi), .lk (vec v), .sh (.int ji), .sh (.int t), .sh (.int (v.getD j 0))], [.un, .un, .att]⟩, rfl, ?_⟩
        exact w_prim (wa_cons (w_prim (W.of rfl ⟨_, _, rfl, mul_ok (mulOk_r (by omega) (by omega)), W.of rfl ⟨_, _, rfl, mod_ok (by omega), _, rfl, rfl⟩⟩)))
      refine ws_cons (ws_ret (w_tup (wd_cons (W.of (a := .d (.int ji)) (ρ := leadF p wi v (.sh (.int ji)) (.sh (.int t))) rfl ⟨_, _, rfl, wd_cons (w_lcm (W.of (a := [.loc 2]) (ρ := leadF p wi v (.sh (.int ji)) (.sh (.int t))) rfl ⟨[.lst (vec v)], vec v, rfl, rfl, ⟨by rw [vec_len, sizeLine_eq]; omega, rfl, rfl⟩, vec (mulr p t v), by rw [vec_len, vec_len, mulr_len], core, .lst (vec (mulr p t v)), leadF p wi v (.sh (.int ji)) (.sh (.int t)), rfl, wd_nil ⟨by simp, .d (.tup [.int ji, .lst (vec (mulr p t v))]), leadF p wi v (.sh (.int ji)) (.sh (.int t)), rfl, rfl, .inr ⟨j, t, hjw, h0, t0, t1, by rw [hkk]; exact t2, by rw [← hji, Int.zero_add]⟩⟩⟩))⟩))))
    · have hk0 : k = 0 := by simpa using h
      refine ws_nil (ws_nil ⟨_, rfl, fun i hi => ?_⟩)
      rcases Nat.lt_or_ge i j with h | h
      · exact h0 i h
      · have : i = j := by omega
        subst this
        rw [hkk, hk0]
  · rintro ρ2 ⟨pl, rfl, h0⟩
    rw [upFrom_length] at h0
    refine ws_cons (ws_ret (W.of (a := .d .non) rfl ⟨.d .non, _, rfl, rfl, .inl ⟨rfl, fun i hi => h0 i (by omega)⟩⟩))
end Ev
namespace Lin
/-- k things gone through: R makes them, and is made of the taken ones -/
structure TI (p : Int) (w n : Nat) (s : Nat → V) (k : Nat) (R : V → Prop) : Prop where
  a : ∀ j, j < k → Sp p w R (s j)
  b : ∀ r, R r → Sp p n (TS p w s k) r
theorem ts_mono {p : Int} {w : Nat} {s : Nat → V} {k m : Nat} (h : k ≤ m) : ∀ x, TS p w s k x → TS p w s m x := fun x ⟨j, hj, ht, e⟩ => ⟨j, by omega, ht, e⟩
theorem ts_pre {p : Int} {w : Nat} {s : Nat → V} {k : Nat} : ∀ x, TS p w s k x → Pre s k x := fun x ⟨j, hj, _, e⟩ => ⟨j, hj, e⟩
theorem TI.nil {p : Int} {w n : Nat} {s : Nat → V} : TI p w n s 0 (RS []) := ⟨fun j h => by omega, fun r ⟨q, h⟩ => by cases h⟩
theorem TI.pre {p : Int} {w n : Nat} {s : Nat → V} {k : Nat} {R : V → Prop} (h : TI p w n s k R) (hw : w ≤ n) {v : V} : Sp p w R v ↔ Sp p w (Pre s k) v := by
  constructor
  · exact fun q => q.trans fun x hx => ((h.b x hx).cut hw).mono ts_pre
  · exact fun q => q.trans fun x ⟨j, hj, e⟩ => by subst e; exact h.a j hj
theorem TI.skip {p : Int} {w n : Nat} {s : Nat → V} {k : Nat} {R : V → Prop} (h : TI p w n s k R) (q : Sp p w R (s k)) : TI p w n s (k + 1) R where
  a j hj := by
    rcases Nat.lt_or_ge j k with e | e
    · exact h.a j e
    · have : j = k := by omega
      subst this; exact q
  b r hr := (h.b r hr).mono (ts_mono (by omega))
theorem TI.new {p : Int} {w n : Nat} {s : Nat → V} {k : Nat} {R R' : V → Prop} (h : TI p w n s k R) (hw : w ≤ n) (ht : Tk p w s k) {u r : V} {t t' : Int} (hu : Sp p n R (fun i => s k i - u i)) (h1 : ∀ i, i < n → p ∣ r i - t * u i) (h2 : ∀ i, i < w → p ∣ u i - t' * r i)
    (hR : ∀ x, R' x ↔ R x ∨ x = r) : TI p w n s (k + 1) R' where
  a j hj := by
    rcases Nat.lt_or_ge j k with e | e
    · exact (h.a j e).mono fun x hx => (hR x).mpr (.inl hx)
    · have : j = k := by omega
      subst this
      have q1 : Sp p w R' (fun i => s j i - u i) := (hu.cut hw).mono fun x hx => (hR x).mpr (.inl hx)
      have q2 : Sp p w R' (fun i => t' * r i) := Sp.smul t' (Sp.mem ((hR r).mpr (.inr rfl)))
      exact (q1.sum q2).congr fun i hi => dvOf (h2 i hi) (by omega)
  b x hx := by
    rcases (hR x).mp hx with hx | rfl
    · exact (h.b x hx).mono (ts_mono (by omega))
    · have q1 : Sp p n (TS p w s (k + 1)) (fun i => s k i - u i) := (hu.trans h.b).mono (ts_mono (by omega))
      have q2 : Sp p n (TS p w s (k + 1)) (s k) := Sp.mem ⟨k, by omega, ht, rfl⟩
      have q3 := Sp.smul t (q2.sum (Sp.smul (-1) q1))
      exact q3.congr fun i hi => dvOf (h1 i hi) (by
        show x i - t * (s k i + -1 * (s k i - u i)) = x i - t * u i
        congr 2
        omega)
theorem rs_snoc {rows : List (Nat × V)} {q : Nat} {r : V} (x : V) : RS (rows ++ [(q, r)]) x ↔ RS rows x ∨ x = r := by
  constructor
  · rintro ⟨q', h⟩
    rcases List.mem_append.mp h with h | h
    · exact .inl ⟨q', h⟩
    · simp at h
      exact .inr h.2
  · rintro (⟨q', h⟩ | rfl)
    · exact ⟨q', List.mem_append_left _ h⟩
    · exact ⟨q, by simp⟩
/-- what stands behind w tells how a thing is made -/
theorem Sp.marks {p : Int} {w m : Nat} {S : V → Prop} {s : Nat → V} (k : ∀ x, S x → ∀ i, i < w → p ∣ x i - sumTo m (fun j => x (w + j) * s j i)) {v : V} (h : Sp p (w + m) S v) : ∀ i, i < w → p ∣ v i - sumTo m (fun j => v (w + j) * s j i) := by
  induction h with
  | @zero v h => exact fun i hi => dvSub (h i (by omega)) (sumTo_dv fun j hj => dvOf (dvMul (s j i) (h (w + j) (by omega))) (Int.mul_comm _ _))
  | @add x u v c hs hu e ih =>
    intro i hi
    have e1 := e i (by omega)
    have e2 : p ∣ sumTo m (fun j => v (w + j) * s j i) - sumTo m (fun j => (u (w + j) + c * x (w + j)) * s j i) := sumTo_congr fun j hj => dvOf (dvMul (s j i) (e (w + j) (by omega))) (by rw [Int.mul_sub, Int.mul_comm (s j i) (v (w + j)), Int.mul_comm (s j i)])
    have e3 : sumTo m (fun j => (u (w + j) + c * x (w + j)) * s j i) = sumTo m (fun j => u (w + j) * s j i) + c * sumTo m (fun j => x (w + j) * s j i) := by
      rw [← sumTo_mul, ← sumTo_add]
      exact sumTo_eq fun j _ => by rw [Int.add_mul, Int.mul_assoc]
    have e4 := dvMul c (k x hs i hi)
    rw [Int.mul_sub] at e4
    rw [e3] at e2
    exact dvOf (dvSub (dvAdd (dvAdd e1 (ih i hi)) e4) e2) (by omega)
theorem Sp.swap {p : Int} {w : Nat} {S T : V → Prop} {v : V} (k : ∀ x, S x → ∃ y, T y ∧ ∀ i, i < w → y i = x i) (h : Sp p w S v) : Sp p w T v :=
  h.trans fun x hx => by
    obtain ⟨y, hy, e⟩ := k x hx
    exact (Sp.mem hy).congr fun i hi => dvOf (dv0 p) (by rw [e i hi]; omega)
theorem pre_swap {p : Int} {w m k : Nat} {s s' : Nat → V} (hk : k ≤ m) (e : ∀ j, j < m → ∀ i, i < w → s' j i = s j i) {v : V} (h : Sp p w (Pre s k) v) : Sp p w (Pre s' k) v :=
  h.swap fun x ⟨j, hj, q⟩ => by subst q; exact ⟨s' j, ⟨j, hj, rfl⟩, e j (by omega)⟩
theorem tk_swap {p : Int} {w m k : Nat} {s s' : Nat → V} (hk : k < m) (e : ∀ j, j < m → ∀ i, i < w → s' j i = s j i) (h : Tk p w s k) : Tk p w s' k := fun q =>
  h ((pre_swap (s := s') (s' := s) (by omega) (fun j hj i hi => (e j hj i hi).symm) q).congr fun i hi => dvOf (dv0 p) (by rw [e k hk i hi]; omega))
theorem Made.swap {p : Int} {w m : Nat} {s s' : Nat → V} {t : V} {c : Nat → Int} (e : ∀ j, j < m → ∀ i, i < w → s' j i = s j i) (h : Made p w m s t c) : Made p w m s' t c where
  z k hk ht := h.z k hk fun q => ht (tk_swap hk e q)
  e i hi := by
    rw [sumTo_eq (g := fun k => c k * s k i) fun k hk => by rw [e k hk i hi]]
    exact h.e i hi
end Lin
namespace Ev
open PySem L2
section
variable {ρ : Env} {nx : Env → Prop} {rt : B → Env → Prop} {bk : Env → Prop}
theorem w_mut {f : List D → List D → Option (List D × D)} {i : Nat} {as : Es} {P : B → Env → Prop} {xs0 : List D} (h0 : ρ.v[i]? = some (.ow xs0)) (h : W (evD as ρ) fun ds ρ2 => ∃ xs ys x, ρ2.v[i]? = some (.ow xs) ∧ f xs ds = some (ys, x) ∧ P (.d x) (ρ2.setv i (.ow ys))) : W (evE (.mut f i as) ρ) P := by
  rw [evE, h0]
  refine W.bind (r := evD as ρ) (W.mono h fun ds ρ2 ⟨xs, ys, x, h1, h2, h3⟩ => ?_)
  simp only [h1, h2]
  exact h3
theorem append_ok {xs : List D} {d : D} (h : xs.length < 1000000) : mAppend xs [d] = some (xs ++ [d], .non) := by
  show (if xs.length < sizeLine then _ else _) = _
  rw [if_pos (by rw [sizeLine_eq]; omega)]
end
def matD (vs : List (List Int)) : List D := vs.map fun v => .lst (vec v)
theorem matD_get {vs : List (List Int)} {j : Nat} {x : D} (h : (matD vs)[j]? = some x) : ∃ v, vs[j]? = some v ∧ x = .lst (vec v) := by
  unfold matD at h
  rw [List.getElem?_map] at h
  cases e : vs[j]? with
  | none => rw [e] at h; cases h
  | some a => rw [e] at h; cases h; exact ⟨a, rfl, rfl⟩
def row (vs : List (List Int)) (k : Nat) : Lin.V := co (vs.getD k [])
theorem row_of {vs : List (List Int)} {j : Nat} {v : List Int} (h : vs[j]? = some v) : row vs j = co v := by
  unfold row
  rw [List.getD_eq_getElem?_getD, h]
  rfl
theorem co_eq (v : List Int) (i : Nat) : co v i = v.getD i 0 := rfl
theorem ndv {p x : Int} (h0 : x ≠ 0) (h1 : 0 ≤ x) (h2 : x < p) : ¬ p ∣ x := fun ⟨c, e⟩ => by
  subst e
  rcases Int.lt_or_le 0 c with h | h
  · have : p * 1 ≤ p * c := Int.mul_le_mul_of_nonneg_left (by omega) (by omega)
    omega
  · have : p * c ≤ p * 0 := Int.mul_le_mul_of_nonneg_left h (by omega)
    omega
theorem dv_of_mod {p x : Int} (h : x % p = 1) : p ∣ x - 1 := by
  have := dv_mod p x
  rw [h] at this
  exact Lin.dvOf (Lin.dvMul (-1) this) (by omega)
/-- rows, found from the things ahead of k -/
structure Found (p : Int) (w n : Nat) (s : Nat → Lin.V) (k : Nat) (rows : List (Nat × List Int)) : Prop where
  r : Rows p n rows
  q : ∀ a ∈ rows, a.1 < w
  t : Lin.TI p w n s k (Lin.RS (absR rows))
theorem Found.nil {p : Int} {w n : Nat} {s : Nat → Lin.V} : Found p w n s 0 [] := ⟨⟨fun a h => (by cases h), trivial⟩, fun a h => (by cases h), Lin.TI.nil⟩
theorem Found.qs {p : Int} {w n : Nat} {s : Nat → Lin.V} {k : Nat} {rows : List (Nat × List Int)} (f : Found p w n s k rows) : ∀ a ∈ absR rows, a.1 < w := fun b hb => by
  obtain ⟨a, ha, rfl⟩ := absR_mem hb
  exact f.q a ha
theorem Found.skip {p : Int} {w n : Nat} {s : Nat → Lin.V} {k : Nat} {rows : List (Nat × List Int)} {u : List Int} (f : Found p w n s k rows) (hw : w ≤ n) (hR : Lin.Red p n (absR rows) (s k) (co u)) (h0 : ∀ i, i < w → u.getD i 0 = 0) : Found p w n s (k + 1) rows ∧ ¬ Lin.Tk p w s k := by
  have q : Lin.Sp p w (Lin.RS (absR rows)) (s k) := (hR.iff hw f.r.s f.qs).mpr fun i hi => by rw [co_eq, h0 i hi]; exact Lin.dv0 p
  exact ⟨⟨f.r, f.q, f.t.skip q⟩, fun ht => ht ((f.t.pre hw).mp q)⟩
theorem Found.new {p : Int} {w n : Nat} {s : Nat → Lin.V} {k : Nat} {rows : List (Nat × List Int)} {u : List Int} {q : Nat} {t : Int} (f : Found p w n s k rows) (hp : 1 < p) (hw : w ≤ n) (hR : Lin.Red p n (absR rows) (s k) (co u)) (hu : u.length = n) (hUR : Rg p u) (hq : q < w) (ht : t * u.getD q 0 % p = 1) :
    Found p w n s (k + 1) (rows ++ [(q, mulr p t u)]) ∧ Lin.Tk p w s k := by
  have hm : ∀ i, i < n → p ∣ co (mulr p t u) i - t * co u i := fun i hi => by
    rw [co_eq, mulr_at (by omega), co_eq, Int.mul_comm t]
    exact dv_mod _ _
  have h1 : p ∣ co (mulr p t u) q - 1 := by
    rw [co_eq, mulr_at (by omega), Int.mul_comm, ht]
    exact Lin.dv0 p
  have tk : Lin.Tk p w s k := fun h => by
    have := (hR.iff hw f.r.s f.qs).mp ((f.t.pre hw).mpr h) q hq
    obtain ⟨g0, g1⟩ := hUR.at (j := q) (by omega)
    refine ndv (fun z => ?_) g0 g1 this
    rw [z, Int.mul_zero, Int.zero_emod] at ht
    omega
  have ha : absR (rows ++ [(q, mulr p t u)]) = absR rows ++ [(q, co (mulr p t u))] := by
    unfold absR
    rw [List.map_append]
    rfl
  refine ⟨⟨⟨fun a h => ?_, ?_⟩, fun a h => ?_, ?_⟩, tk⟩
  · rcases List.mem_append.mp h with h | h
    · exact f.r.g a h
    · simp at h
      subst h
      exact ⟨by show q < n; omega, by rw [← hu]; exact mulr_len _ _ _, mulr_rg (by omega)⟩
  · rw [ha]
    refine Lin.stag_snoc h1 f.r.s fun a h => ?_
    exact Lin.dvOf (Lin.dvAdd (hm a.1 (by have := f.qs a h; omega)) (Lin.dvMul t (hR.z a h))) (by omega)
  · rcases List.mem_append.mp h with h | h
    · exact f.q a h
    · simp at h
      subst h
      exact hq
  · rw [ha]
    refine f.t.new hw tk (t := t) (t' := u.getD q 0) hR.sp hm (fun i hi => ?_) (fun x => Lin.rs_snoc x)
    have e1 := Lin.dvMul (u.getD q 0) (hm i (by omega))
    have e2 := Lin.dvMul (co u i) (dv_of_mod ht)
    rw [Int.mul_sub] at e1 e2
    have e3 : u.getD q 0 * (t * co u i) = co u i * (t * u.getD q 0) := by rw [Int.mul_comm, Int.mul_comm t, Int.mul_assoc]
    rw [e3] at e1
    exact Lin.dvOf (Lin.dvMul (-1) (Lin.dvAdd e1 e2)) (by omega)
theorem rowsD_snoc (rows : List (Nat × List Int)) (a : Nat × List Int) : rowsD rows ++ [.tup [.int (a.1 : Int), .lst (vec a.2)]] = rowsD (rows ++ [a]) := by
  unfold rowsD
  rw [List.map_append]
  rfl
end Ev
namespace Ev
open PySem L2
/-! ### slices -/
theorem vec_drop (v : List Int) (n : Nat) : (vec v).drop n = vec (v.drop n) := by unfold vec; rw [List.map_drop]
theorem cutL_eq {xs : List D} {i : Nat} (h : i ≤ xs.length) : cutD xs (some (i : Int)) none = xs.drop i := by
  have e : HT.sIx xs.length 0 (some (i : Int)) = i := by
    show (if (i : Int) < 0 then ((i : Int) + (xs.length : Int)).toNat else min (i : Int).toNat xs.length) = _
    rw [if_neg (by omega)]
    omega
  have e2 : HT.sIx xs.length xs.length none = xs.length := rfl
  unfold cutD
  rw [e, e2, List.take_of_length_le (by rw [List.length_drop]; omega)]
theorem cutL_lst {xs : List D} {i : Nat} (h : i ≤ xs.length) : fCutL [.lst xs, .int (i : Int)] = some (.nw (xs.drop i)) := by
  show some (RB.nw (cutD xs (some (i : Int)) none)) = _
  rw [cutL_eq h]
theorem add_lst {xs ys : List D} (h : xs.length + ys.length ≤ 1000000) : fAdd [.lst xs, .lst ys] = some (.nw (xs ++ ys)) := by
  show (if xs.length + ys.length ≤ sizeLine then _ else none) = _
  rw [if_pos (by rw [sizeLine_eq]; omega)]
theorem add_tup {xs ys : List D} (h : xs.length + ys.length ≤ 1000000) : fAdd [.tup xs, .tup ys] = some (.d (.tup (xs ++ ys))) := by
  show (if xs.length + ys.length ≤ sizeLine then _ else none) = _
  rw [if_pos (by rw [sizeLine_eq]; omega)]
theorem vec_app (a b : List Int) : vec a ++ vec b = vec (a ++ b) := by unfold vec; rw [List.map_append]
/-! ### sums with their marks -/
def sumsD (S : List (List Int)) : List D := S.map fun s => .tup (vec s)
theorem sumsD_get {S : List (List Int)} {j : Nat} {x : D} (h : (sumsD S)[j]? = some x) : ∃ v, S[j]? = some v ∧ x = .tup (vec v) := by
  unfold sumsD at h
  rw [List.getElem?_map] at h
  cases e : S[j]? with
  | none => rw [e] at h; cases h
  | some a => rw [e] at h; cases h; exact ⟨a, rfl, rfl⟩
theorem sumsD_len (S : List (List Int)) : (sumsD S).length = S.length := List.length_map ..
def marks (m k : Nat) : List Int := (List.range m).map fun i => if i = k then 1 else 0
theorem marks_len (m k : Nat) : (marks m k).length = m := by unfold marks; rw [List.length_map, List.length_range]
theorem marks_at {m k i : Nat} (h : i < m) : (marks m k).getD i 0 = if i = k then 1 else 0 := by
  rw [getD_lt (by rw [marks_len]; exact h)]
  unfold marks
  rw [List.getElem_map, List.getElem_range]
def mks (S : List (List Int)) : List (List Int) := (List.range S.length).map fun k => S.getD k [] ++ marks S.length k
theorem mks_len (S : List (List Int)) : (mks S).length = S.length := by unfold mks; rw [List.length_map, List.length_range]
theorem mks_get {S : List (List Int)} {k : Nat} {v : List Int} (h : S[k]? = some v) : (mks S)[k]? = some (v ++ marks S.length k) := by
  obtain ⟨hk, _⟩ := List.getElem?_eq_some_iff.mp h
  unfold mks
  rw [List.getElem?_map, List.getElem?_range hk]
  show some (S.getD k [] ++ _) = _
  rw [List.getD_eq_getElem?_getD, h]
  rfl
theorem len_lst (xs : List D) : fLen [.lst xs] = some (.d (.int (xs.length : Int))) := rfl
theorem len_tup (xs : List D) : fLen [.tup xs] = some (.d (.int (xs.length : Int))) := rfl
theorem marked_ok {S : List (List Int)} (hS : S.length ≤ 1000) (hw : ∀ s ∈ S, s.length ≤ 1000) : WF (F_marked [.sh (.tup (sumsD S))]) fun r o => r = .nw (matD (mks S)) ∧ o = [.un] := by
  have hmi : ∃ mi : Int, mi = (S.length : Int) := ⟨_, rfl⟩
  obtain ⟨mi, hmi⟩ := hmi
  have in1 : ∀ (i j : Nat) (v : List Int) (ji : Int) (x y : D), ji = (j : Int) → (upFrom mi.toNat 0)[i]? = some x → (vec (marks S.length j))[i]? = some y → ∃ ρ3, (Tg.n 4).set ⟨[.sh (.tup (sumsD S)), .sh (.int mi), .sh (.int ji), .sh (.tup (vec v)), .un], [.un]⟩ x = some ρ3 ∧ W (evE (.prim fInt (.cons (.prim fEq (.cons (.var 4) (.cons (.var 2) .nil))) (.nil))) ρ3) fun b ρ5 => ∃ ρ6, b.keep ρ5 = some (y, ρ6) ∧ wipeE ρ6 [4] = ⟨[.sh (.tup (sumsD S)), .sh (.int mi), .sh (.int ji), .sh (.tup (vec v)), .un], [.un]⟩ := fun i j v ji x y hj hx hy => by
    obtain ⟨hi, rfl⟩ := upFrom_get _ _ _ _ hx
    obtain ⟨_, rfl⟩ := vec_get hy
    rw [marks_at (by omega)]
    generalize hii : 0 + (i : Int) = ii
    refine ⟨⟨[.sh (.tup (sumsD S)), .sh (.int mi), .sh (.int ji), .sh (.tup (vec v)), .sh (.int ii)], [.un]⟩, rfl, ?_⟩
    refine w_prim (wa_cons (w_prim (W.of rfl ⟨_, _, rfl, eq_int ii ji, wa_nil ⟨[.bl (decide (ii = ji))], .d (.int (if i = j then 1 else 0)), rfl, ?_, _, rfl, rfl⟩⟩)))
    show some (RB.d (.int (if decide (ii = ji) = true then 1 else 0))) = _
    congr 3
    by_cases h : i = j
    · rw [if_pos h, if_pos (by rw [decide_eq_true_eq]; omega)]
    · rw [if_neg h, if_neg (by rw [decide_eq_true_eq]; omega)]
  have core : ∀ (j : Nat) (x y : D), (enumD 0 (sumsD S))[j]? = some x → (matD (mks S))[j]? = some y → ∃ ρ3, (Tg.t [2, 3]).set ⟨[.sh (.tup (sumsD S)), .sh (.int mi), .un, .un, .un], [.un]⟩ x = some ρ3 ∧ W (evE (.prim fAdd (.cons (.prim fList (.cons (.var 3) (.nil))) (.cons (.lc [4] (.n 4) itRange1 (.cons (.var 1) (.nil)) .none (.prim fInt (.cons (.prim fEq (.cons (.var 4) (.cons (.var 2) .nil))) (.nil)))) .nil))) ρ3) fun b ρ5 => ∃ ρ6, b.keep ρ5 = some (y, ρ6) ∧ wipeE ρ6 [2, 3] = ⟨[.sh (.tup (sumsD S)), .sh (.int mi), .un, .un, .un], [.un]⟩ := fun j x y hx hy => by
    obtain ⟨a, ha, rfl⟩ := enumD_get _ _ _ _ hx
    obtain ⟨v, hv, rfl⟩ := sumsD_get ha
    obtain ⟨z, hz, rfl⟩ := matD_get hy
    rw [mks_get hv] at hz
    cases hz
    generalize hji : 0 + (j : Int) = ji
    refine ⟨⟨[.sh (.tup (sumsD S)), .sh (.int mi), .sh (.int ji), .sh (.tup (vec v)), .un], [.un]⟩, rfl, ?_⟩
    have hvl := hw v (List.mem_of_getElem? hv)
    exact w_prim (wa_cons (w_prim (W.of rfl ⟨_, _, rfl, rfl, wa_cons (w_lcm (W.of rfl ⟨[.int mi], _, rfl, range1_ok (by omega) (by omega), ⟨by rw [upFrom_length, sizeLine_eq]; omega, rfl, rfl⟩, vec (marks S.length j), by rw [upFrom_length, vec_len, marks_len]; omega, fun i x y hx hy => in1 i j v ji x y (by omega) hx hy, wa_nil ⟨[.lst (vec v), .lst (vec (marks S.length j))], _, rfl, (by rw [add_lst (by rw [vec_len, vec_len, marks_len]; omega), vec_app]), _, rfl, rfl⟩⟩))⟩)))
  refine wf_fn (ws_cons (ws_asgV (w_prim (W.of rfl ⟨_, _, rfl, len_tup _, rfl, ⟨[.sh (.tup (sumsD S)), .sh (.int mi), .un, .un, .un], [.un]⟩, (by rw [sumsD_len, ← hmi]; rfl), ?_⟩))))
  refine ws_cons (ws_ret (w_lcm (W.of (a := [.d (.tup (sumsD S))]) (ρ := ⟨[.sh (.tup (sumsD S)), .sh (.int mi), .un, .un, .un], [.un]⟩) rfl ⟨[.tup (sumsD S)], _, rfl, rfl, ⟨by rw [enumD_length, sumsD_len, sizeLine_eq]; omega, rfl, rfl⟩, matD (mks S), ?_, core, .nw (matD (mks S)), ⟨[.sh (.tup (sumsD S)), .sh (.int mi), .un, .un, .un], [.un]⟩, rfl, rfl, rfl⟩)))
  rw [enumD_length, sumsD_len]
  unfold matD
  rw [List.length_map, mks_len]
end Ev
namespace Ev
open PySem L2
theorem co_app_l {a b : List Int} {i : Nat} (h : i < a.length) : co (a ++ b) i = co a i := by
  rw [co_eq, co_eq, List.getD_eq_getElem?_getD, List.getD_eq_getElem?_getD, List.getElem?_append_left h]
theorem co_app_r {a b : List Int} {i n : Nat} (h : a.length = n) : co (a ++ b) (n + i) = co b i := by
  subst h
  rw [co_eq, co_eq, List.getD_eq_getElem?_getD, List.getD_eq_getElem?_getD, List.getElem?_append_right (by omega)]
  congr 2
  omega
theorem co_rep (n i : Nat) : co (List.replicate n 0) i = 0 := by
  rw [co_eq, List.getD_eq_getElem?_getD, List.getElem?_replicate]
  split <;> rfl
theorem getD_get {S : List (List Int)} {k : Nat} (h : k < S.length) : S[k]? = some (S.getD k []) := by
  rw [List.getD_eq_getElem?_getD, List.getElem?_eq_getElem h]
  rfl
theorem getD_memL {S : List (List Int)} {k : Nat} (h : k < S.length) : S.getD k [] ∈ S := List.mem_of_getElem? (getD_get h)
section
variable {p : Int} {w : Nat} {S : List (List Int)}
theorem rowM {k : Nat} (h : k < S.length) : row (mks S) k = co (S.getD k [] ++ marks S.length k) := row_of (mks_get (getD_get h))
theorem rowM_l (hS : ∀ s ∈ S, s.length = w) {k i : Nat} (h : k < S.length) (hi : i < w) : row (mks S) k i = row S k i := by
  rw [rowM h, co_app_l (by rw [hS _ (getD_memL h)]; exact hi)]
  rfl
theorem rowM_r (hS : ∀ s ∈ S, s.length = w) {k j : Nat} (h : k < S.length) (hj : j < S.length) : row (mks S) k (w + j) = if j = k then 1 else 0 := by
  rw [rowM h, co_app_r (hS _ (getD_memL h)), co_eq, marks_at hj]
end
theorem rg_app {p : Int} {a b : List Int} (ha : Rg p a) (hb : Rg p b) : Rg p (a ++ b) := fun x hx => by
  rcases List.mem_append.mp hx with h | h
  · exact ha x h
  · exact hb x h
theorem rg_rep {p : Int} (hp : 0 < p) (n : Nat) : Rg p (List.replicate n 0) := fun x hx => by
  have := List.eq_of_mem_replicate hx
  omega
theorem rg_marks {p : Int} (hp : 1 < p) (m k : Nat) : Rg p (marks m k) := fun x hx => by
  obtain ⟨i, _, rfl⟩ := List.mem_map.mp hx
  split <;> omega
/-- what made_of is to tell -/
def MadeOf (p : Int) (w : Nat) (S : List (List Int)) (t : List Int) (d : D) : Prop := (d = .non ∧ ¬ Lin.Sp p w (Lin.Pre (row S) S.length) (co t)) ∨ ∃ c, d = .tup (vec c) ∧ c.length = S.length ∧ Rg p c ∧ Lin.Made p w S.length (row S) (co t) (co c)
end Ev
namespace Ev
open PySem L2
/-! ### things that are judged -/
def dat (d : D) : Prop := ∃ t, d.tyN = some t
def Okd (d : D) : Prop := dat d ∧ ∀ xs, d = .tup xs → xs.length ≤ 1000 ∧ ∀ x ∈ xs, dat x
def inB (a b : Int) : D → Bool
  | .int i => decide (a ≤ i) && decide (i ≤ b)
  | _ => false
def valB (p : Int) (n : Nat) : D → Bool
  | .tup xs => decide (xs.length = n) && xs.all (inB 0 (p - 1))
  | _ => false
theorem within_D (a b : Int) (d : D) (h : dat d) : WF (F_is_within [.sh (.int a), .sh (.int b), .sh d]) fun r o => r = .d (.bl (inB a b d)) ∧ o = [.un, .un, .un] := by
  cases d with
  | int i => exact within_ok a b i
  | non => exact ⟨rfl, rfl⟩
  | bl _ => exact ⟨rfl, rfl⟩
  | str _ => exact ⟨rfl, rfl⟩
  | tup _ => exact ⟨rfl, rfl⟩
  | lst _ => exact ⟨rfl, rfl⟩
  | dk _ _ => exact ⟨rfl, rfl⟩
  | dt _ _ => obtain ⟨t, e⟩ := h; cases e
  | tn _ => obtain ⟨t, e⟩ := h; cases e
  | ro _ => obtain ⟨t, e⟩ := h; cases e
  | obj _ _ => obtain ⟨t, e⟩ := h; cases e
  | ty _ => obtain ⟨t, e⟩ := h; cases e
  | cls _ => obtain ⟨t, e⟩ := h; cases e
theorem values_ok {p mi : Int} {n : Nat} {d : D} (hmi : mi = n) (h : Okd d) : WF (F_is_values [.sh (.int p), .sh (.int mi), .sh d]) fun r o => r = .d (.bl (valB p n d)) ∧ o = [.un, .un, .un] := by
  obtain ⟨h1, h2⟩ := h
  cases d with
  | tup xs =>
    obtain ⟨hl, hx⟩ := h2 xs rfl
    obtain ⟨li, hli⟩ : ∃ li : Int, li = (xs.length : Int) := ⟨_, rfl⟩
    refine wf_fn (ws_cons (ws_ite (wt_or (W.of (a := false) (ρ := ⟨[.sh (.int p), .sh (.int mi), .sh (.tup xs), .un], [.un, .un, .un]⟩) rfl ⟨fun z => absurd z (by decide), fun _ => ?_⟩))))
    refine wt_eb (w_prim (wa_cons (w_prim (W.of (a := [.d (.tup xs)]) (ρ := ⟨[.sh (.int p), .sh (.int mi), .sh (.tup xs), .un], [.un, .un, .un]⟩) rfl ⟨_, .d (.int li), rfl, by rw [hli]; rfl, ?_⟩))))
    refine W.of (a := [.d (.int mi)]) (ρ := ⟨[.sh (.int p), .sh (.int mi), .sh (.tup xs), .un], [.un, .un, .un]⟩) rfl ⟨_, _, rfl, ne_int li mi, _, rfl, fun h => ?_, fun h => ?_⟩
    · have hne : ¬ xs.length = n := by
        intro e
        have : ¬ li = mi := by simpa using h
        omega
      refine ws_cons (ws_ret (W.of rfl ⟨.d (.bl false), ⟨[.sh (.int p), .sh (.int mi), .sh (.tup xs), .un], [.un, .un, .un]⟩, rfl, ?_, rfl⟩))
      show _ = RB.d (.bl (decide (xs.length = n) && _))
      rw [decide_eq_false hne]
      rfl
    · have heq : xs.length = n := by
        have : li = mi := by simpa using h
        omega
      have core : ∀ (j : Nat) (x y : D), xs[j]? = some x → (xs.map fun x => D.bl (inB 0 (p - 1) x))[j]? = some y → ∃ ρ3, (Tg.n 3).set ⟨[.sh (.int p), .sh (.int mi), .sh (.tup xs), .un], [.un, .un, .un]⟩ x = some ρ3 ∧ W (evE (.call F_is_within (.cons (.con (.int 0)) (.cons (.prim fSub (.cons (.var 0) (.cons (.con (.int 1)) .nil))) (.cons (.var 3) (.nil))))) ρ3) fun b ρ5 => ∃ ρ6, b.keep ρ5 = some (y, ρ6) ∧ wipeE ρ6 [3] = ⟨[.sh (.int p), .sh (.int mi), .sh (.tup xs), .un], [.un, .un, .un]⟩ := fun j x y hx' hy => by
        rw [List.getElem?_map, hx'] at hy
        have hy := Option.some.inj hy
        subst hy
        refine ⟨⟨[.sh (.int p), .sh (.int mi), .sh (.tup xs), .sh x], [.un, .un, .un]⟩, rfl, ?_⟩
        refine w_call (W.of (a := [.d (.int 0), .d (.int (p - 1)), .d x]) (ρ := ⟨[.sh (.int p), .sh (.int mi), .sh (.tup xs), .sh x], [.un, .un, .un]⟩) rfl ⟨rfl, [.sh (.int 0), .sh (.int (p - 1)), .sh x], rfl, WF.mono (within_D 0 (p - 1) x (hx x (List.mem_of_getElem? hx'))) ?_⟩)
        rintro r o ⟨rfl, rfl⟩
        exact ⟨_, rfl, rfl⟩
      refine ws_nil (ws_cons (ws_ret (w_prim (wa_cons (w_lcm (W.of (a := [.d (.tup xs)]) (ρ := ⟨[.sh (.int p), .sh (.int mi), .sh (.tup xs), .un], [.un, .un, .un]⟩) rfl ⟨[.tup xs], xs, rfl, rfl, ⟨by rw [sizeLine_eq]; omega, rfl, rfl⟩, _, List.length_map .., core, wa_nil ⟨_, _, rfl, all_map _ xs, .d (.bl (xs.all (inB 0 (p - 1)))), ⟨[.sh (.int p), .sh (.int mi), .sh (.tup xs), .un], [.un, .un, .un]⟩, rfl, ?_, rfl⟩⟩))))))
      show _ = RB.d (.bl (decide (xs.length = n) && _))
      rw [decide_eq_true heq]
      rfl
  | int i => exact ⟨rfl, rfl⟩
  | non => exact ⟨rfl, rfl⟩
  | bl _ => exact ⟨rfl, rfl⟩
  | str _ => exact ⟨rfl, rfl⟩
  | lst _ => exact ⟨rfl, rfl⟩
  | dk _ _ => exact ⟨rfl, rfl⟩
  | dt _ _ => obtain ⟨t, e⟩ := h1; cases e
  | tn _ => obtain ⟨t, e⟩ := h1; cases e
  | ro _ => obtain ⟨t, e⟩ := h1; cases e
  | obj _ _ => obtain ⟨t, e⟩ := h1; cases e
  | ty _ => obtain ⟨t, e⟩ := h1; cases e
  | cls _ => obtain ⟨t, e⟩ := h1; cases e
/-- the numbers of a tuple -/
def num : D → Int
  | .int i => i
  | _ => 0
theorem okd_vec {v : List Int} (h : v.length ≤ 1000) : Okd (.tup (vec v)) := by
  refine ⟨⟨_, rfl⟩, fun xs e => ?_⟩
  cases e
  refine ⟨by rw [vec_len]; exact h, fun x hx => ?_⟩
  obtain ⟨i, _, rfl⟩ := List.mem_map.mp hx
  exact ⟨_, rfl⟩
theorem valB_vec {p : Int} {v : List Int} (h : Rg p v) : valB p v.length (.tup (vec v)) = true := by
  show (decide ((vec v).length = v.length) && (vec v).all (inB 0 (p - 1))) = true
  rw [vec_len, decide_eq_true rfl, Bool.true_and, List.all_eq_true]
  intro x hx
  obtain ⟨i, hi, rfl⟩ := List.mem_map.mp hx
  obtain ⟨g0, g1⟩ := h i hi
  show (decide (0 ≤ i) && decide (i ≤ p - 1)) = true
  rw [Bool.and_eq_true, decide_eq_true_eq, decide_eq_true_eq]
  omega
end Ev
namespace Ev
open PySem L2
/-- a sum of width w -/
structure Good (p : Int) (w : Nat) (s : List Int) : Prop where
  l : s.length = w
  r : Rg p s
  z : s ≠ List.replicate w 0
structure Goods (p : Int) (w : Nat) (S : List (List Int)) : Prop where
  n : S.length ≤ 40
  g : ∀ s ∈ S, Good p w s
theorem val_vec {p : Int} {w : Nat} {s : List Int} (h : s.length = w) (r : Rg p s) : valB p w (.tup (vec s)) = true := by
  subst h
  exact valB_vec r
theorem is_sum_ok {p wi : Int} {w : Nat} {s : List Int} (hw : wi = w) (h1 : w ≤ 1000) (h : Good p w s) : WF (F_is_sum [.sh (.int p), .sh (.int wi), .sh (.tup (vec s))]) fun r o => r = .d (.bl true) ∧ o = [.un, .un, .un] := by
  refine wf_fn (ws_cons (ws_ret (we_and (w_call (W.of (a := [.d (.int p), .d (.int wi), .d (.tup (vec s))]) (ρ := ⟨[.sh (.int p), .sh (.int wi), .sh (.tup (vec s))], [.un, .un, .un]⟩) rfl ⟨rfl, [.sh (.int p), .sh (.int wi), .sh (.tup (vec s))], rfl, WF.mono (values_ok hw (okd_vec (by rw [h.l]; omega))) ?_⟩)))))
  rintro r o ⟨rfl, rfl⟩
  rw [val_vec h.l h.r]
  refine ⟨true, rfl, fun _ => ?_, fun z => absurd z (by decide)⟩
  refine w_prim (wa_cons (W.of (a := .d (.tup (vec s))) rfl (wa_cons (w_prim (wa_cons (w_tup ?_))))))
  refine W.of (a := [.int 0]) rfl ⟨by simp, ?_⟩
  refine W.of (a := [.d (.int wi)]) (ρ := ⟨[.sh (.int p), .sh (.int wi), .sh (.tup (vec s))], [.un, .un, .un]⟩) rfl ⟨[.tup [.int 0], .int wi], _, rfl, by rw [hw]; exact noughts_tup (by omega), ?_⟩
  refine wa_nil ⟨[.tup (vec s), .tup (vec (List.replicate w 0))], _, rfl, ne_tup _ _, .d (.bl true), ⟨[.sh (.int p), .sh (.int wi), .sh (.tup (vec s))], [.un, .un, .un]⟩, ?_, rfl, rfl⟩
  rw [decide_eq_false h.z]
  rfl
theorem lenS (S : List (List Int)) : fLen [.tup (sumsD S)] = some (.d (.int (S.length : Int))) := by rw [len_tup, sumsD_len]
theorem width_of_ok {p : Int} {w : Nat} {S : List (List Int)} (h : Goods p w S) (h0 : 0 < S.length) : WF (F_width_of [.sh (.tup (sumsD S))]) fun r o => r = .d (.int (w : Int)) ∧ o = [.un] := by
  obtain ⟨mi, hmi⟩ : ∃ mi : Int, mi = (S.length : Int) := ⟨_, rfl⟩
  have hix : (sumsD S)[0]? = some (.tup (vec (S.getD 0 []))) := by
    unfold sumsD
    rw [List.getElem?_map, getD_get h0]
    rfl
  have g0 := h.g _ (getD_memL h0)
  refine wf_fn (ws_cons (ws_ite (wt_eb (w_prim (wa_cons (w_prim ?_))))))
  refine W.of (a := [.d (.tup (sumsD S))]) (ρ := ⟨[.sh (.tup (sumsD S))], [.un]⟩) rfl ⟨_, .d (.int mi), rfl, by rw [lenS, hmi], ?_⟩
  refine W.of (a := [.d (.int 0)]) (ρ := ⟨[.sh (.tup (sumsD S))], [.un]⟩) rfl ⟨[.int mi, .int 0], .d (.bl false), rfl, (by rw [eq_int, decide_eq_false (by omega)]), false, rfl, fun z => absurd z (by decide), fun _ => ?_⟩
  refine ws_nil (ws_cons (ws_ret (w_prim (wa_cons (w_prim ?_)))))
  refine W.of (a := [.d (.tup (sumsD S)), .d (.int 0)]) (ρ := ⟨[.sh (.tup (sumsD S))], [.un]⟩) rfl ⟨_, .d (.tup (vec (S.getD 0 []))), rfl, ix_tup (i := 0) hix, ?_⟩
  exact wa_nil ⟨_, .d (.int (w : Int)), rfl, (by rw [len_tup, vec_len, g0.l]), .d (.int (w : Int)), ⟨[.sh (.tup (sumsD S))], [.un]⟩, rfl, rfl, rfl⟩
end Ev
namespace Ev
open PySem L2
/-! ### sorted rows -/
theorem alike_ints : ∀ a b : List Int, PySem.W.alikeAll (a.map PyData.int) (b.map PyData.int) = true
  | [], _ => by
    show PySem.W.alikeAll [] _ = true
    unfold PySem.W.alikeAll
    rfl
  | _ :: _, [] => rfl
  | x :: a, y :: b => by
    show (PySem.W.alike (.int x) (.int y) && PySem.W.alikeAll (a.map PyData.int) (b.map PyData.int)) = true
    rw [alike_ints a b]
    rfl
def sortR (rows : List (Nat × List Int)) : List (Nat × List Int) := rows.mergeSort fun a b => decide (a.1 ≤ b.1)
/-- the law's own rows: 0 ahead of each one's place, places all unlike -/
structure LRows (p : Int) (w : Nat) (rows : List (Nat × List Int)) : Prop where
  g : ∀ a ∈ rows, a.1 < w ∧ a.2.length = w ∧ Rg p a.2
  one : ∀ a ∈ rows, p ∣ co a.2 a.1 - 1
  z : ∀ a ∈ rows, ∀ i, i < a.1 → co a.2 i = 0
  d : rows.Pairwise fun a b => a.1 ≠ b.1
theorem LRows.inj {p : Int} {w : Nat} {rows : List (Nat × List Int)} (h : LRows p w rows) : ∀ a ∈ rows, ∀ b ∈ rows, a.1 = b.1 → a = b := by
  have hd := h.d
  clear h
  induction hd with
  | nil => intro a ha; cases ha
  | cons hx _ ih =>
    intro a ha b hb e
    rcases List.mem_cons.mp ha with ea | ha'
    · rcases List.mem_cons.mp hb with eb | hb'
      · rw [ea, eb]
      · exact absurd (ea ▸ e) (hx b hb')
    · rcases List.mem_cons.mp hb with eb | hb'
      · exact absurd (eb ▸ e.symm) (hx a ha')
      · exact ih a ha' b hb' e
theorem stag_of {p : Int} : ∀ {rows : List (Nat × List Int)}, rows.Pairwise (fun a b => a.1 < b.1) → (∀ a ∈ rows, p ∣ co a.2 a.1 - 1) → (∀ a ∈ rows, ∀ i, i < a.1 → co a.2 i = 0) → Lin.Stag p (absR rows)
  | [], _, _, _ => trivial
  | a :: rows, hp, h1, h0 => by
    have hp := List.pairwise_cons.mp hp
    refine ⟨h1 a (by simp), fun b hb => ?_, stag_of hp.2 (fun b hb => h1 b (List.mem_cons_of_mem _ hb)) fun b hb => h0 b (List.mem_cons_of_mem _ hb)⟩
    obtain ⟨c, hc, rfl⟩ := absR_mem hb
    show p ∣ co c.2 a.1
    rw [h0 c (List.mem_cons_of_mem _ hc) a.1 (hp.1 c hc)]
    exact Lin.dv0 p
theorem sortR_perm (rows : List (Nat × List Int)) : (sortR rows).Perm rows := List.mergeSort_perm ..
theorem LRows.sorted {p : Int} {w : Nat} {rows : List (Nat × List Int)} (h : LRows p w rows) : Rows p w (sortR rows) := by
  have hm : ∀ a, a ∈ sortR rows → a ∈ rows := fun a ha => (sortR_perm rows).mem_iff.mp ha
  refine ⟨fun a ha => h.g a (hm a ha), stag_of ?_ (fun a ha => h.one a (hm a ha)) fun a ha => h.z a (hm a ha)⟩
  have h1 : (sortR rows).Pairwise fun a b => decide (a.1 ≤ b.1) = true := List.pairwise_mergeSort (le := fun a b : Nat × List Int => decide (a.1 ≤ b.1)) (fun a b c h1 h2 => by simp only [decide_eq_true_eq] at *; omega) (fun a b => by simp only [Bool.or_eq_true, decide_eq_true_eq]; omega) rows
  have h2 : (sortR rows).Pairwise fun a b => a.1 ≠ b.1 := ((sortR_perm rows).pairwise_iff fun {x y} h => Ne.symm h).mpr h.d
  refine (List.Pairwise.and h1 h2).imp ?_
  rintro a b ⟨h1, h2⟩
  have := of_decide_eq_true h1
  omega
theorem rs_sorted (rows : List (Nat × List Int)) (x : Lin.V) : Lin.RS (absR (sortR rows)) x ↔ Lin.RS (absR rows) x := by
  constructor
  · rintro ⟨q, h⟩
    obtain ⟨a, ha, e⟩ := List.mem_map.mp h
    exact ⟨q, List.mem_map.mpr ⟨a, (sortR_perm rows).mem_iff.mp ha, e⟩⟩
  · rintro ⟨q, h⟩
    obtain ⟨a, ha, e⟩ := List.mem_map.mp h
    exact ⟨q, List.mem_map.mpr ⟨a, (sortR_perm rows).mem_iff.mpr ha, e⟩⟩
end Ev
namespace Ev
open PySem L2
structure LFound (p : Int) (w : Nat) (s : Nat → Lin.V) (k : Nat) (rows : List (Nat × List Int)) : Prop where
  r : LRows p w rows
  t : Lin.TI p w w s k (Lin.RS (absR rows))
theorem ti_congr {p : Int} {w n k : Nat} {s : Nat → Lin.V} {R R' : Lin.V → Prop} (h : ∀ x, R x ↔ R' x) (t : Lin.TI p w n s k R) : Lin.TI p w n s k R' :=
  ⟨fun j hj => (t.a j hj).mono fun x hx => (h x).mp hx, fun x hx => t.b x ((h x).mpr hx)⟩
theorem LFound.found {p : Int} {w k : Nat} {s : Nat → Lin.V} {rows : List (Nat × List Int)} (f : LFound p w s k rows) : Found p w w s k (sortR rows) :=
  ⟨f.r.sorted, fun a ha => (f.r.g a ((sortR_perm rows).mem_iff.mp ha)).1, ti_congr (fun x => (rs_sorted rows x).symm) f.t⟩
theorem LFound.nil {p : Int} {w : Nat} {s : Nat → Lin.V} : LFound p w s 0 [] := ⟨⟨fun a h => (by cases h), fun a h => (by cases h), fun a h => (by cases h), List.Pairwise.nil⟩, Lin.TI.nil⟩
theorem LFound.skip {p : Int} {w k : Nat} {s : Nat → Lin.V} {rows : List (Nat × List Int)} {u : List Int} (f : LFound p w s k rows) (hR : Lin.Red p w (absR (sortR rows)) (s k) (co u)) (h0 : ∀ i, i < w → u.getD i 0 = 0) : LFound p w s (k + 1) rows ∧ ¬ Lin.Tk p w s k := by
  obtain ⟨g, ht⟩ := f.found.skip (Nat.le_refl _) hR h0
  exact ⟨⟨f.r, ti_congr (rs_sorted rows) g.t⟩, ht⟩
theorem absR_snoc (rows : List (Nat × List Int)) (a : Nat × List Int) : absR (rows ++ [a]) = absR rows ++ [(a.1, co a.2)] := by
  unfold absR
  rw [List.map_append]
  rfl
theorem LFound.new {p : Int} {w k : Nat} {s : Nat → Lin.V} {rows : List (Nat × List Int)} {u : List Int} {q : Nat} {t : Int} (f : LFound p w s k rows) (hp : 1 < p) (hR : Lin.Red p w (absR (sortR rows)) (s k) (co u)) (hu : u.length = w) (hUR : Rg p u) (hq : q < w) (h0 : ∀ i, i < q → u.getD i 0 = 0) (ht : t * u.getD q 0 % p = 1) :
    LFound p w s (k + 1) (rows ++ [(q, mulr p t u)]) ∧ Lin.Tk p w s k := by
  obtain ⟨g, tk⟩ := f.found.new hp (Nat.le_refl _) hR hu hUR hq ht
  have hm : ∀ i, i < w → co (mulr p t u) i = u.getD i 0 * t % p := fun i hi => by rw [co_eq, mulr_at (by omega)]
  refine ⟨⟨⟨fun a h => ?_, fun a h => ?_, fun a h i hi => ?_, ?_⟩, ?_⟩, tk⟩
  · rcases List.mem_append.mp h with h | h
    · exact f.r.g a h
    · simp at h
      subst h
      exact ⟨hq, by rw [← hu]; exact mulr_len _ _ _, mulr_rg (by omega)⟩
  · rcases List.mem_append.mp h with h | h
    · exact f.r.one a h
    · simp at h
      subst h
      show p ∣ co (mulr p t u) q - 1
      rw [hm q hq, Int.mul_comm, ht]
      exact Lin.dv0 p
  · rcases List.mem_append.mp h with h | h
    · exact f.r.z a h i hi
    · simp at h
      subst h
      have hi : i < q := hi
      show co (mulr p t u) i = 0
      rw [hm i (by omega), h0 i hi, Int.zero_mul, Int.zero_emod]
  · rw [List.pairwise_append]
    refine ⟨f.r.d, List.pairwise_singleton .., fun a ha b hb e => ?_⟩
    simp at hb
    subst hb
    have e : a.1 = q := e
    have hz : p ∣ co u a.1 := hR.z (a.1, co a.2) (List.mem_map.mpr ⟨a, (sortR_perm rows).mem_iff.mpr ha, rfl⟩)
    rw [e] at hz
    obtain ⟨g0, g1⟩ := hUR.at (j := q) (by omega)
    refine ndv (fun z => ?_) g0 g1 hz
    rw [z, Int.mul_zero, Int.zero_emod] at ht
    omega
  · refine ti_congr (fun x => ?_) g.t
    rw [absR_snoc, absR_snoc, Lin.rs_snoc, Lin.rs_snoc, rs_sorted]
def nats (fs : List Nat) : List D := fs.map fun k : Nat => D.int (k : Int)
theorem nats_len (fs : List Nat) : (nats fs).length = fs.length := List.length_map ..
/-- what is taken -/
structure Taken (p : Int) (w : Nat) (s : Nat → Lin.V) (k : Nat) (fs : List Nat) : Prop where
  m : ∀ j, j ∈ fs ↔ j < k ∧ Lin.Tk p w s j
  o : fs.Pairwise (· < ·)
theorem Taken.skip {p : Int} {w k : Nat} {s : Nat → Lin.V} {fs : List Nat} (h : Taken p w s k fs) (ht : ¬ Lin.Tk p w s k) : Taken p w s (k + 1) fs := ⟨fun j => by
  rw [h.m]
  constructor
  · rintro ⟨a, b⟩
    exact ⟨by omega, b⟩
  · rintro ⟨a, b⟩
    have : j ≠ k := fun e => ht (e ▸ b)
    exact ⟨by omega, b⟩, h.o⟩
theorem Taken.new {p : Int} {w k : Nat} {s : Nat → Lin.V} {fs : List Nat} (h : Taken p w s k fs) (ht : Lin.Tk p w s k) : Taken p w s (k + 1) (fs ++ [k]) := by
  refine ⟨fun j => ?_, ?_⟩
  · rw [List.mem_append, h.m]
    constructor
    · rintro (⟨a, b⟩ | e)
      · exact ⟨by omega, b⟩
      · simp at e
        subst e
        exact ⟨by omega, ht⟩
    · rintro ⟨a, b⟩
      rcases Nat.lt_or_ge j k with e | e
      · exact .inl ⟨e, b⟩
      · have : j = k := by omega
        exact .inr (by simp [this])
  · rw [List.pairwise_append]
    refine ⟨h.o, List.pairwise_singleton .., fun a ha b hb => ?_⟩
    simp at hb
    subst hb
    exact ((h.m a).mp ha).1
end Ev
namespace Ev
open PySem L2
/-- the columns that are solved for, and the thing -/
def cols (S : List (List Int)) (fs : List Nat) (t : List Int) : Nat → Lin.V := fun j => if j < fs.length then row S (fs.getD j 0) else co t
theorem fs_get {fs : List Nat} {j : Nat} (h : j < fs.length) : fs[j]? = some (fs.getD j 0) := by
  rw [List.getD_eq_getElem?_getD, List.getElem?_eq_getElem h]
  rfl
theorem cols_lt {S : List (List Int)} {fs : List Nat} {t : List Int} {j : Nat} (h : j < fs.length) : cols S fs t j = row S (fs.getD j 0) := if_pos h
section
variable {p : Int} {w : Nat} {S : List (List Int)} {fs : List Nat} {t : List Int}
theorem sum_set {F : List Int} {k0 : Nat} {x : Int} {g : Nat → Int} (hk : k0 < F.length) (h0 : F.getD k0 0 = 0) : ∀ m, k0 < m → Lin.sumTo m (fun k => (F.set k0 x).getD k 0 * g k) = Lin.sumTo m (fun k => F.getD k 0 * g k) + x * g k0
  | m + 1, h => by
    have off : ∀ k, k ≠ k0 → (F.set k0 x).getD k 0 = F.getD k 0 := fun k hn => by
      rw [List.getD_eq_getElem?_getD, List.getD_eq_getElem?_getD, List.getElem?_set, if_neg (Ne.symm hn)]
    simp only [Lin.sumTo]
    rcases Nat.lt_or_ge k0 m with hl | hl
    · rw [sum_set hk h0 m hl, off m (by omega)]
      omega
    · have e : k0 = m := by omega
      subst e
      rw [Lin.sumTo_eq (g := fun k => F.getD k 0 * g k) fun k hk => by rw [off k (by omega)]]
      have : (F.set k0 x).getD k0 0 = x := by rw [List.getD_eq_getElem?_getD, List.getElem?_set, if_pos rfl, if_pos hk]; rfl
      rw [this, h0]
      omega
end
/-! ### one answer alone -/
theorem prime_inv {p : Int} (hpp : p ∈ primes) (a : Int) (h : ¬ p ∣ a) : ∃ b, p ∣ b * a - 1 := by
  obtain ⟨hp1, hp2⟩ := primes_lt hpp
  have h0 : a % p ≠ 0 := fun z => h (Int.dvd_of_emod_eq_zero z)
  have h1 := Int.emod_nonneg a (show p ≠ 0 by omega)
  have h2 := Int.emod_lt_of_pos a (show 0 < p by omega)
  obtain ⟨t, _, _, _, ht⟩ := inverse_ok hpp (v := a % p) (by omega) h2
  refine ⟨t, ?_⟩
  have e1 := dv_of_mod ht
  have e2 := Lin.dvMul t (dv_mod p a)
  rw [Int.mul_sub] at e2
  exact Lin.dvOf (Lin.dvSub e1 e2) (by omega)
theorem eq_of_dv {p x y : Int} (hx : 0 ≤ x ∧ x < p) (hy : 0 ≤ y ∧ y < p) (h : p ∣ x - y) : x = y := by
  obtain ⟨c, hc⟩ := h
  rcases Int.lt_or_le 0 c with h | h
  · have : p * 1 ≤ p * c := Int.mul_le_mul_of_nonneg_left (by omega) (by omega)
    omega
  · rcases Int.lt_or_le c 0 with h' | h'
    · have : p * c ≤ p * (-1) := Int.mul_le_mul_of_nonneg_left (by omega) (by omega)
      omega
    · have : c = 0 := by omega
      subst this
      omega
theorem eq_of_co {p : Int} {a b : List Int} (ha : Rg p a) (hb : Rg p b) (hl : a.length = b.length) (h : ∀ i, i < a.length → p ∣ co a i - co b i) : a = b := by
  apply List.ext_getElem hl
  intro i h1 h2
  rw [← getD_lt h1, ← getD_lt h2]
  exact eq_of_dv (ha.at h1) (hb.at h2) (h i h1)
theorem MadeOf.eq {p : Int} {w : Nat} {S : List (List Int)} {t : List Int} {d e : D} (hpp : p ∈ primes) (hd : MadeOf p w S t d) (he : MadeOf p w S t e) : d = e := by
  rcases hd with ⟨rfl, hn⟩ | ⟨c, rfl, hl, hR, hm⟩
  · rcases he with ⟨rfl, _⟩ | ⟨c, rfl, hl, hR, hm⟩
    · rfl
    · exact absurd hm.sp hn
  · rcases he with ⟨rfl, hn⟩ | ⟨c', rfl, hl', hR', hm'⟩
    · exact absurd hm.sp hn
    · rw [eq_of_co hR hR' (by omega) fun i hi => hm.uniq (prime_inv hpp) hm' i (by omega)]
end Ev
namespace Ev
open PySem L2
section
variable {ρ : Env} {nx : Env → Prop} {rt : B → Env → Prop} {bk : Env → Prop}
theorem ixN_ok {n i : Nat} (h : i < n) : ixN n (i : Int) = some i := by
  unfold ixN
  rw [if_pos (by omega), if_pos (by omega), Int.toNat_natCast]
theorem ws_seti2 {i : Nat} {ix1 ix2 v : E} (h : W (evE v ρ) fun b ρ1 => ∃ d1 d2 ρ2, b.keep ρ1 = some (.tup [d1, d2], ρ2) ∧ (∃ xs, ρ2.v[i]? = some (.ow xs)) ∧ W (evE ix1 ρ2) fun k ρ3 => ∃ z xs j, k.view ρ3 = some (.int z) ∧ ρ3.v[i]? = some (.ow xs) ∧ ixN xs.length z = some j ∧
      (∃ ys, (ρ3.setv i (.ow (xs.set j d1))).v[i]? = some (.ow ys)) ∧ W (evE ix2 (ρ3.setv i (.ow (xs.set j d1)))) fun k2 ρ5 => ∃ z2 ys j2, k2.view ρ5 = some (.int z2) ∧ ρ5.v[i]? = some (.ow ys) ∧ ixN ys.length z2 = some j2 ∧ nx (ρ5.setv i (.ow (ys.set j2 d2)))) : WS (evS (.seti2 i ix1 ix2 v) ρ) nx rt bk := by
  unfold WS
  rw [evS]
  refine W.bind (r := evE v ρ) (W.mono h fun b ρ1 ⟨d1, d2, ρ2, h1, ⟨xs0, h2⟩, h3⟩ => ?_)
  simp only [h1]
  unfold setAt
  rw [h2]
  refine W.bind (r := evE ix1 ρ2) (W.mono h3 fun k ρ3 ⟨z, xs, j, k1, k2, k3, ⟨ys0, k4⟩, k5⟩ => ?_)
  simp only [k1, k2, k3, k4]
  refine W.bind (r := evE ix2 _) (W.mono k5 fun k' ρ5 ⟨z2, ys, j2, m1, m2, m3, m4⟩ => ?_)
  simp only [m1, m2, m3]
  exact m4
end
structure Mat (p : Int) (w n : Nat) (A : List (List Int)) : Prop where
  l : A.length = w
  g : ∀ v ∈ A, v.length = n ∧ Rg p v
theorem matD_len (A : List (List Int)) : (matD A).length = A.length := List.length_map ..
theorem matD_at {A : List (List Int)} {n : Nat} (h : n < A.length) : (matD A)[n]? = some (.lst (vec (A.getD n []))) := by
  unfold matD
  rw [List.getElem?_map, getD_get h]
  rfl
section
variable {p : Int} {w n : Nat} {A : List (List Int)}
theorem Mat.at (h : Mat p w n A) {i : Nat} (hi : i < w) : (A.getD i []).length = n ∧ Rg p (A.getD i []) := h.g _ (getD_memL (by rw [h.l]; exact hi))
theorem Mat.set (h : Mat p w n A) {i : Nat} {v : List Int} (hv : v.length = n ∧ Rg p v) : Mat p w n (A.set i v) := by
  refine ⟨by rw [List.length_set, h.l], fun x hx => ?_⟩
  rcases List.mem_or_eq_of_mem_set hx with h' | rfl
  · exact h.g x h'
  · exact hv
end
/-! ### the parts of the solving -/
end Ev
namespace Ev
open PySem L2
theorem lock1_eq (s : Slot) : lock1 s false = s := by cases s <;> rfl
theorem unlock1_eq (s : Slot) (o : Option Slot) : unlock1 s o false = s := by cases s <;> cases o <;> first | rfl | (rename_i x; cases x <;> rfl)
theorem new1_eq (s : Slot) : new1 s none = s := by cases s <;> rfl
end Ev
namespace Ev
open PySem L2
theorem rep_getD (n i : Nat) : (List.replicate n (0 : Int)).getD i 0 = 0 := co_rep n i
theorem asc_le {fs : List Nat} (h : fs.Pairwise (· < ·)) : ∀ (j : Nat) (hj : j < fs.length), j ≤ fs[j]
  | 0, _ => Nat.zero_le _
  | j + 1, hj => by
    have h1 := asc_le h j (by omega)
    have h2 := List.pairwise_iff_getElem.mp h j (j + 1) (by omega) hj (by omega)
    omega
theorem asc_len {fs : List Nat} {m : Nat} (h : fs.Pairwise (· < ·)) (hm : ∀ k ∈ fs, k < m) : fs.length ≤ m := by
  rcases Nat.eq_zero_or_pos fs.length with e | e
  · omega
  · have h1 := asc_le h (fs.length - 1) (by omega)
    have h2 := hm _ (List.getElem_mem (show fs.length - 1 < fs.length by omega))
    omega
/-- what is filled in -/
structure Fill (p : Int) (S : List (List Int)) (fs : List Nat) (t : List Int) (A : List (List Int)) (j : Nat) (F : List Int) : Prop where
  l : F.length = S.length
  r : Rg p F
  z : ∀ k, k ∉ fs.take j → F.getD k 0 = 0
  e : ∀ i, Lin.sumTo S.length (fun k => F.getD k 0 * row S k i) = Lin.sumTo j (fun l => row A l fs.length * cols S fs t l i)
theorem Fill.nil {p : Int} {S : List (List Int)} {fs : List Nat} {t : List Int} {A : List (List Int)} (hp : 0 < p) : Fill p S fs t A 0 (List.replicate S.length 0) := by
  refine ⟨List.length_replicate .., rg_rep hp _, fun k _ => rep_getD _ k, fun i => ?_⟩
  rw [Lin.sumTo_eq (g := fun _ => 0 * 0) fun k _ => by rw [rep_getD, Int.zero_mul, Int.zero_mul], Lin.sumTo_mul]
  simp [Lin.sumTo]
theorem Fill.step {p : Int} {S : List (List Int)} {fs : List Nat} {t : List Int} {A : List (List Int)} {j : Nat} {F : List Int} (h : Fill p S fs t A j F) (hj : j < fs.length) (hk : fs.getD j 0 < S.length) (ho : fs.Pairwise (· < ·)) (hx : 0 ≤ row A j fs.length ∧ row A j fs.length < p) : Fill p S fs t A (j + 1) (F.set (fs.getD j 0) (row A j fs.length)) := by
  have hn : fs.getD j 0 ∉ fs.take j := fun hm => by
    obtain ⟨i, hi, e⟩ := List.mem_iff_getElem.mp hm
    rw [List.length_take] at hi
    rw [List.getElem_take] at e
    have := List.pairwise_iff_getElem.mp ho i j (by omega) hj (by omega)
    rw [e, List.getD_eq_getElem?_getD, List.getElem?_eq_getElem hj] at this
    exact absurd this (Nat.lt_irrefl _)
  refine ⟨by rw [List.length_set, h.l], fun x hx' => ?_, fun k hk' => ?_, fun i => ?_⟩
  · rcases List.mem_or_eq_of_mem_set hx' with h' | rfl
    · exact h.r x h'
    · exact hx
  · rw [take_succ_of (fs_get hj), List.mem_append, not_or] at hk'
    have hne : k ≠ fs.getD j 0 := fun e => hk'.2 (by simp [e])
    rw [List.getD_eq_getElem?_getD, List.getElem?_set, if_neg (Ne.symm hne), ← List.getD_eq_getElem?_getD]
    exact h.z k hk'.1
  · rw [sum_set (by rw [h.l]; exact hk) (h.z _ hn) S.length hk, h.e i]
    simp only [Lin.sumTo]
    rw [cols_lt hj]
end Ev
namespace Ev
open PySem L2
def okdB (d : D) : Bool := d.tyN.isSome && match d with
  | .tup xs => decide (xs.length ≤ 1000) && xs.all fun x => x.tyN.isSome
  | _ => true
theorem dat_of {d : D} (h : d.tyN.isSome = true) : dat d := Option.isSome_iff_exists.mp h
theorem okdB_ok {d : D} (h : okdB d = true) : Okd d := by
  unfold okdB at h
  rw [Bool.and_eq_true] at h
  refine ⟨dat_of h.1, fun xs e => ?_⟩
  subst e
  have h2 : (decide (xs.length ≤ 1000) && xs.all fun x => x.tyN.isSome) = true := h.2
  rw [Bool.and_eq_true, decide_eq_true_eq, List.all_eq_true] at h2
  exact ⟨h2.1, fun x hx => dat_of (h2.2 x hx)⟩
end Ev
namespace Ev
open PySem L2
theorem okd_tup {xs : List D} (hl : xs.length ≤ 1000) (h : ∀ x ∈ xs, dat x) : Okd (.tup xs) := ⟨⟨_, rfl⟩, fun ys e => by
  cases e
  exact ⟨hl, h⟩⟩
end Ev
namespace Ev
open PySem L2
/-! ### what sums make -/
/-! ### frames that stay -/
theorem mapI_ix {f : Nat → Slot → Slot} : ∀ {l : List Slot} {n i : Nat}, (mapI f n l)[i]? = (l[i]?).map (f (n + i))
  | [], _, _ => by simp [mapI]
  | s :: l, n, 0 => by simp [mapI]
  | s :: l, n, i + 1 => by
    have := mapI_ix (f := f) (l := l) (n := n + 1) (i := i)
    simp only [mapI, List.getElem?_cons_succ]
    rw [this, show n + 1 + i = n + (i + 1) by omega]
theorem mapI_same {f : Nat → Slot → Slot} {l : List Slot} (h : ∀ i s, l[i]? = some s → f i s = s) : mapI f 0 l = l := by
  apply List.ext_getElem?
  intro i
  rw [mapI_ix, Nat.zero_add]
  cases e : l[i]? with
  | none => rfl
  | some s => show some (f i s) = _; rw [h i s e]
theorem newO_none (s : Slot) (o : Option Slot) : newO s o none = s := by cases s <;> cases o <;> first | rfl | (rename_i x; cases x <;> rfl)
theorem back0 {ρ : Env} {bs : List B} {o : List Slot} (hn : ∀ i, newAt bs o i = none) : back ρ bs o = ρ := by
  unfold back
  rw [mapI_same fun i s _ => by rw [hn i]; exact new1_eq s, mapI_same fun i s _ => by rw [hn i]; exact newO_none s _]
theorem locks0 {ρ : Env} {bs : List B} (hn : ∀ i, hasLoc i bs = false) : locks ρ bs = ρ := by
  unfold locks
  rw [mapI_same fun i s _ => by rw [hn i]; exact lock1_eq s]
theorem unlocks0 {ρ0 ρ : Env} {bs : List B} (hn : ∀ i, hasLoc i bs = false) : unlocks ρ0 ρ bs = ρ := by
  unfold unlocks
  rw [mapI_same fun i s _ => by rw [hn i]; exact unlock1_eq s _]
end Ev
namespace Ev
open PySem L2
/-- a piece: its sum, its size -/
abbrev Pc := List Int × Int
def pcD (a : Pc) : D := .tup [.tup (vec a.1), .int a.2]
def pcsD (P : List Pc) : List D := P.map pcD
def webD (p wi : Int) (P : List Pc) : D := .obj 0 [.int p, .int wi, .tup (pcsD P)]
structure Pcs (p : Int) (w : Nat) (P : List Pc) : Prop where
  n : P.length ≤ 40
  g : ∀ a ∈ P, Good p w a.1
  s : ∀ a ∈ P, 1 ≤ a.2 ∧ a.2 ≤ 1000000
theorem pcsD_len (P : List Pc) : (pcsD P).length = P.length := List.length_map ..
theorem pcsD_get {P : List Pc} {j : Nat} {x : D} (h : (pcsD P)[j]? = some x) : ∃ a, P[j]? = some a ∧ x = pcD a := by
  unfold pcsD at h
  rw [List.getElem?_map] at h
  cases e : P[j]? with
  | none => rw [e] at h; cases h
  | some a => rw [e] at h; cases h; exact ⟨a, rfl, rfl⟩
theorem pair_ok {p wi : Int} {w : Nat} {a : Pc} (hw : wi = w) (h1 : w ≤ 10) (h : Good p w a.1) (hs : 1 ≤ a.2 ∧ a.2 ≤ 1000000) : WF (F_is_pair [.sh (.int p), .sh (.int wi), .sh (pcD a)]) fun r o => r = .d (.bl true) ∧ o = [.un, .un, .un] := by
  unfold pcD
  refine wf_fn (ws_cons (ws_ite (W.of (a := false) (ρ := ⟨[.sh (.int p), .sh (.int wi), .sh (.tup [.tup (vec a.1), .int a.2])], [.un, .un, .un]⟩) rfl ⟨fun z => absurd z (by decide), fun _ => ws_nil ?_⟩)))
  refine ws_cons (ws_ret (we_and (w_call (W.of (a := [.d (.int p), .d (.int wi), .d (.tup (vec a.1))]) (ρ := ⟨[.sh (.int p), .sh (.int wi), .sh (.tup [.tup (vec a.1), .int a.2])], [.un, .un, .un]⟩) rfl ⟨rfl, [.sh (.int p), .sh (.int wi), .sh (.tup (vec a.1))], rfl, WF.mono (is_sum_ok hw (by omega) h) ?_⟩))))
  rintro r o ⟨rfl, rfl⟩
  refine ⟨true, rfl, fun _ => ?_, fun z => absurd z (by decide)⟩
  refine w_call (W.of (a := [.d (.int 1), .d (.int 1000000), .d (.int a.2)]) (ρ := ⟨[.sh (.int p), .sh (.int wi), .sh (.tup [.tup (vec a.1), .int a.2])], [.un, .un, .un]⟩) rfl ⟨rfl, [.sh (.int 1), .sh (.int 1000000), .sh (.int a.2)], rfl, WF.mono (within_ok 1 1000000 a.2) ?_⟩)
  rintro r o ⟨rfl, rfl⟩
  refine ⟨_, _, rfl, ?_, rfl⟩
  show RB.d (.bl _) = _
  rw [decide_eq_true hs.1, decide_eq_true hs.2]
  rfl
theorem WF.of {r : FRes} {a : RB} {o : List Slot} {P : RB → List Slot → Prop} (e : r = .ok a o) (h : P a o) : WF r P := by rw [e]; exact h
def webF (p wi : Int) (P : List Pc) (s4 s5 : Slot) : Env := ⟨[.sh (.cls 1000), .sh (.int p), .sh (.int wi), .sh (.tup (pcsD P)), s4, s5], [.un, .un, .un, .un]⟩
theorem web_pre {p wi : Int} {w : Nat} {P : List Pc} (hpp : p ∈ primes) (hw : wi = w) (h1 : 1 ≤ w) (h2 : w ≤ 10) (h : Pcs p w P) : WS (evSs ir_i_Web (start0 6 (.sh (.cls 1000) :: [.sh (.int p), .sh (.int wi), .sh (.tup (pcsD P))]))) (fun ρ => ∃ s4 s5, ρ = webF p wi P s4 s5) (fun _ _ => False) fun _ => False := by
  refine ws_cons (ws_ite (wt_not (wt_e (w_call (W.of (a := [.d (.int p)]) (ρ := webF p wi P .un .un) rfl ⟨rfl, [.sh (.int p)], rfl, WF.of (prime_ok p hpp) ⟨.bl true, true, rfl, rfl, fun z => absurd z (by decide), fun _ => ws_nil ?_⟩⟩)))))
  refine ws_cons (ws_ite (wt_not (wt_e (w_call (W.of (a := [.d (.int 1), .d (.int 10), .d (.int wi)]) (ρ := webF p wi P .un .un) rfl ⟨rfl, [.sh (.int 1), .sh (.int 10), .sh (.int wi)], rfl, WF.mono (within_ok 1 10 wi) ?_⟩)))))
  rintro r o ⟨rfl, rfl⟩
  rw [decide_eq_true (show (1 : Int) ≤ wi by omega), decide_eq_true (show wi ≤ 10 by omega)]
  refine ⟨.bl true, true, rfl, rfl, fun z => absurd z (by decide), fun _ => ws_nil ?_⟩
  obtain ⟨li, hli⟩ : ∃ li : Int, li = ((pcsD P).length : Int) := ⟨_, rfl⟩
  have hl40 : li ≤ 40 := by rw [hli, pcsD_len]; have := h.n; omega
  refine ws_cons (ws_ite (wt_or (W.of (a := false) (ρ := webF p wi P .un .un) rfl ⟨fun z => absurd z (by decide), fun _ => ?_⟩)))
  refine wt_eb (w_prim (wa_cons (w_prim (W.of (a := [.d (.tup (pcsD P))]) (ρ := webF p wi P .un .un) rfl ⟨_, .d (.int li), rfl, by rw [hli]; rfl, ?_⟩))))
  refine W.of (a := [.d (.int 40)]) (ρ := webF p wi P .un .un) rfl ⟨_, .d (.bl (decide (40 < li))), rfl, rfl, _, rfl, fun z => ?_, fun _ => ws_nil ?_⟩
  · have : (40 : Int) < li := by simpa using z
    omega
  refine ws_cons (ws_for (W.of (a := [.d (.tup (pcsD P))]) (ρ := webF p wi P .un .un) rfl ⟨[.tup (pcsD P)], _, rfl, rfl, fun j ρ => ∃ s4 s5, ρ = webF p wi P s4 s5, ⟨.un, .un, rfl⟩, ?_, ?_⟩))
  · rintro j x ρ2 hx ⟨s4, s5, rfl⟩
    obtain ⟨a, ha, rfl⟩ := enumD_get _ _ _ _ hx
    obtain ⟨c, hc, rfl⟩ := pcsD_get ha
    have hm := List.mem_of_getElem? hc
    generalize hji : 0 + (j : Int) = ji
    refine ⟨webF p wi P (.sh (.int ji)) (.sh (pcD c)), set_t2 rfl rfl rfl rfl, ?_⟩
    refine ws_cons (ws_ite (wt_not (wt_e (w_call (W.of (a := [.d (.int p), .d (.int wi), .d (pcD c)]) (ρ := webF p wi P (.sh (.int ji)) (.sh (pcD c))) rfl ⟨rfl, [.sh (.int p), .sh (.int wi), .sh (pcD c)], rfl, WF.mono (pair_ok hw h2 (h.g c hm) (h.s c hm)) ?_⟩)))))
    rintro r o ⟨rfl, rfl⟩
    exact ⟨.bl true, true, rfl, rfl, fun z => absurd z (by decide), fun _ => ws_nil (ws_nil ⟨_, _, rfl⟩)⟩
  · rintro ρ2 ⟨s4, s5, rfl⟩
    exact ws_nil ⟨s4, s5, unlocks0 fun i => rfl⟩
theorem plains_vec (v : List Int) : D.plains (vec v) = true := by
  unfold vec
  induction v with
  | nil => rfl
  | cons a v ih => exact ih
theorem plains_pcs (P : List Pc) : D.plains (pcsD P) = true := by
  unfold pcsD
  induction P with
  | nil => rfl
  | cons a P ih =>
    rw [List.map_cons]
    show (D.plain (pcD a) && D.plains (P.map pcD)) = true
    rw [ih]
    show ((D.plains (vec a.1) && _) && true) = true
    rw [plains_vec]
    rfl
/-- Web(p, w, pieces) -/
theorem web_ok {p wi : Int} {w : Nat} {P : List Pc} (hpp : p ∈ primes) (hw : wi = w) (h1 : 1 ≤ w) (h2 : w ≤ 10) (h : Pcs p w P) : F_i_Web [.sh (.int p), .sh (.int wi), .sh (.tup (pcsD P))] = .ok (.d (webD p wi P)) [.un, .un, .un] := by
  have q := web_pre hpp hw h1 h2 h
  have hpl : D.plains [.int p, .int wi, .tup (pcsD P)] = true := by
    show (true && (true && (D.plains (pcsD P) && true))) = true
    rw [plains_pcs]
    rfl
  unfold F_i_Web mkFn
  rw [show given? [.sh (.int p), .sh (.int wi), .sh (.tup (pcsD P))] = some [.int p, .int wi, .tup (pcsD P)] from rfl]
  simp only
  rw [if_pos hpl]
  show (match evSs ir_i_Web (start0 6 _) with | .ok .nx ρ => _ | _ => FRes.no) = _
  generalize evSs ir_i_Web (start0 6 (.sh (.cls 1000) :: [.sh (.int p), .sh (.int wi), .sh (.tup (pcsD P))])) = r at q
  match r, q with
  | .ok .nx ρ, q =>
    obtain ⟨s4, s5, rfl⟩ := q
    show (if 1000 = 1000 ∧ D.plains [.int p, .int wi, .tup (pcsD P)] = true then _ else _) = _
    rw [if_pos ⟨rfl, hpl⟩]
    rfl
  | .ok (.rt _) _, q => exact q.elim
  | .ok .brk _, q => exact q.elim
  | .no, q => exact q.elim
  | .ex _ _, q => exact q.elim
end Ev
namespace Ev
open PySem L2
/-! ### lots -/
def lotL (m : Int) : Int → List D → Bool
  | _, [] => true
  | last, x :: xs => inB (last + 1) (m - 1) x && lotL m (num x) xs
def lotB (m : Int) : D → Bool
  | .tup xs => lotL m (-1) xs
  | _ => false
theorem inB_int {a b : Int} {x : D} (h : inB a b x = true) : ∃ i, x = .int i ∧ a ≤ i ∧ i ≤ b := by
  cases x with
  | int i =>
    refine ⟨i, rfl, ?_⟩
    have h : (decide (a ≤ i) && decide (i ≤ b)) = true := h
    obtain ⟨h1, h2⟩ := Bool.and_eq_true_iff.mp h
    exact ⟨of_decide_eq_true h1, of_decide_eq_true h2⟩
  | _ => cases h
def lotF (m : Int) (xs : List D) (last : Int) (s3 : Slot) : Env := ⟨[.sh (.int m), .sh (.tup xs), .sh (.int last), s3], [.un, .un]⟩
theorem is_lot_ok {m : Int} {d : D} (h : Okd d) : WF (F_is_lot [.sh (.int m), .sh d]) fun r o => r = .d (.bl (lotB m d)) ∧ o = [.un, .un] := by
  obtain ⟨h1, h2⟩ := h
  cases d with
  | tup xs =>
    obtain ⟨hl, hx⟩ := h2 xs rfl
    refine wf_fn (ws_cons (ws_ite (W.of (a := false) (ρ := ⟨[.sh (.int m), .sh (.tup xs), .un, .un], [.un, .un]⟩) rfl ⟨fun z => absurd z (by decide), fun _ => ws_nil ?_⟩)))
    refine ws_cons (ws_asg (W.of (a := .d (.int (-1))) (ρ := ⟨[.sh (.int m), .sh (.tup xs), .un, .un], [.un, .un]⟩) rfl ⟨_, _, lotF m xs (-1) .un, rfl, rfl, ?_⟩))
    refine ws_cons (ws_for (W.of (a := [.d (.tup xs)]) (ρ := lotF m xs (-1) .un) rfl ⟨[.tup xs], xs, rfl, rfl, fun j ρ => ∃ last s3, ρ = lotF m xs last s3 ∧ lotL m (-1) xs = lotL m last (xs.drop j), ⟨-1, .un, rfl, rfl⟩, ?_, ?_⟩))
    · rintro j x ρ2 hj ⟨last, s3, rfl, e⟩
      have hdr : xs.drop j = x :: xs.drop (j + 1) := by
        obtain ⟨z, q⟩ := List.getElem?_eq_some_iff.mp hj
        rw [List.drop_eq_getElem_cons z, q]
      rw [hdr] at e
      refine ⟨lotF m xs last (.sh x), bnd_free rfl rfl, ?_⟩
      refine ws_cons (ws_ite (wt_not (wt_e (w_call (W.of (a := [.d (.int (last + 1)), .d (.int (m - 1)), .d x]) (ρ := lotF m xs last (.sh x)) rfl ⟨rfl, [.sh (.int (last + 1)), .sh (.int (m - 1)), .sh x], rfl, WF.mono (within_D (last + 1) (m - 1) x (hx x (List.mem_of_getElem? hj))) ?_⟩)))))
      rintro r o ⟨rfl, rfl⟩
      refine ⟨_, _, rfl, rfl, fun hb => ?_, fun hb => ?_⟩
      · have hb : inB (last + 1) (m - 1) x = false := by simpa using hb
        refine ws_cons (ws_ret (W.of rfl ⟨.d (.bl false), _, rfl, ?_, rfl⟩))
        show _ = RB.d (.bl (lotL m (-1) xs))
        rw [e]
        show _ = RB.d (.bl (inB (last + 1) (m - 1) x && _))
        rw [hb]
        rfl
      · have hb : inB (last + 1) (m - 1) x = true := by simpa using hb
        obtain ⟨i, rfl, _, _⟩ := inB_int hb
        refine ws_nil (ws_cons (ws_asg (W.of (a := .d (.int i)) (ρ := lotF m xs last (.sh (.int i))) rfl ⟨_, _, lotF m xs i (.sh (.int i)), rfl, rfl, ws_nil ⟨i, _, rfl, ?_⟩⟩)))
        rw [e]
        show (inB (last + 1) (m - 1) (.int i) && _) = _
        rw [hb]
        rfl
    · rintro ρ2 ⟨last, s3, rfl, e⟩
      refine ws_cons (ws_ret (W.of rfl ⟨.d (.bl true), _, rfl, ?_, by rw [unlocks0 fun i => rfl]; rfl⟩))
      show _ = RB.d (.bl (lotL m (-1) xs))
      rw [e, List.drop_length]
      rfl
  | int i => exact ⟨rfl, rfl⟩
  | non => exact ⟨rfl, rfl⟩
  | bl _ => exact ⟨rfl, rfl⟩
  | str _ => exact ⟨rfl, rfl⟩
  | lst _ => exact ⟨rfl, rfl⟩
  | dk _ _ => exact ⟨rfl, rfl⟩
  | dt _ _ => obtain ⟨t, e⟩ := h1; cases e
  | tn _ => obtain ⟨t, e⟩ := h1; cases e
  | ro _ => obtain ⟨t, e⟩ := h1; cases e
  | obj _ _ => obtain ⟨t, e⟩ := h1; cases e
  | ty _ => obtain ⟨t, e⟩ := h1; cases e
  | cls _ => obtain ⟨t, e⟩ := h1; cases e
/-- a lot: places that rise, all below m -/
structure IsLot (m : Nat) (l : List Nat) : Prop where
  lt : ∀ k ∈ l, k < m
  up : l.Pairwise (· < ·)
theorem IsLot.len {m : Nat} {l : List Nat} (h : IsLot m l) : l.length ≤ m := asc_len h.up h.lt
theorem lotL_of {mi : Int} {m : Nat} (hm : mi = m) : ∀ {l : List Nat} {last : Int}, (∀ k ∈ l, k < m) → (∀ k ∈ l, last < (k : Int)) → l.Pairwise (· < ·) → lotL mi last (nats l) = true
  | [], _, _, _, _ => rfl
  | k :: l, last, h1, h2, h3 => by
    obtain ⟨a, b⟩ := List.pairwise_cons.mp h3
    have e1 := h1 k (by simp)
    have e2 := h2 k (by simp)
    show ((decide (last + 1 ≤ (k : Int)) && decide ((k : Int) ≤ mi - 1)) && lotL mi (k : Int) (nats l)) = true
    rw [decide_eq_true (by omega), decide_eq_true (by omega), lotL_of hm (fun j hj => h1 j (by simp [hj])) (fun j hj => by have := a j hj; omega) b]
    rfl
theorem lotB_of {mi : Int} {m : Nat} (hm : mi = m) {l : List Nat} (h : IsLot m l) : lotB mi (.tup (nats l)) = true := lotL_of hm h.lt (fun k _ => by omega) h.up
end Ev
namespace Ev
open PySem L2
def pcAt (P : List Pc) (k : Nat) : Pc := P.getD k ([], 0)
theorem pcAt_mem {P : List Pc} {k : Nat} (h : k < P.length) : pcAt P k ∈ P := by
  unfold pcAt
  rw [List.getD_eq_getElem?_getD, List.getElem?_eq_getElem h]
  exact List.getElem_mem h
theorem ixP {P : List Pc} {k : Nat} {ki : Int} (e : ki = k) (h : k < P.length) : fIx [.tup (pcsD P), .int ki] = some (.d (pcD (pcAt P k))) := by
  subst e
  have : atI (pcsD P) (k : Int) = some (pcD (pcAt P k)) := by
    unfold atI
    rw [ixN_ok (by rw [pcsD_len]; exact h)]
    show (pcsD P)[k]? = _
    unfold pcsD pcAt
    rw [List.getElem?_map, List.getD_eq_getElem?_getD, List.getElem?_eq_getElem h]
    rfl
  show (match atI (pcsD P) (k : Int) with | some d => some (RB.d d) | none => none) = _
  rw [this]
theorem sum_of_ok {p wi ki : Int} {P : List Pc} {k : Nat} (e : ki = k) (h : k < P.length) : WF (F_sum_of [.sh (webD p wi P), .sh (.int ki)]) fun r o => r = .d (.tup (vec (pcAt P k).1)) ∧ o = [.un, .un] := by
  refine wf_fn (ws_cons (ws_ret (w_prim (wa_cons (w_prim (wa_cons (W.of (a := .d (.tup (pcsD P))) (ρ := ⟨[.sh (webD p wi P), .sh (.int ki)], [.un, .un]⟩) rfl (W.of (a := [.d (.int ki)]) (ρ := ⟨[.sh (webD p wi P), .sh (.int ki)], [.un, .un]⟩) rfl ⟨_, _, rfl, ixP e h, ?_⟩))))))))
  refine W.of (a := [.d (.int 0)]) (ρ := ⟨[.sh (webD p wi P), .sh (.int ki)], [.un, .un]⟩) rfl ⟨[pcD (pcAt P k), .int 0], _, rfl, rfl, _, _, rfl, rfl, rfl⟩
/-- the sums of a lot's pieces; their sizes -/
def picks (P : List Pc) (l : List Nat) : List (List Int) := l.map fun k => (pcAt P k).1
theorem picks_len (P : List Pc) (l : List Nat) : (picks P l).length = l.length := List.length_map ..
theorem nats_map {α : Type} {f : Nat → α} {g : α → D} {l : List Nat} {j : Nat} {x y : D} (hx : (nats l)[j]? = some x) (hy : ((l.map f).map g)[j]? = some y) : ∃ k, k ∈ l ∧ x = .int (k : Int) ∧ y = g (f k) := by
  unfold nats at hx
  rw [List.getElem?_map] at hx
  rw [List.getElem?_map, List.getElem?_map] at hy
  cases e : l[j]? with
  | none => rw [e] at hx; cases hx
  | some k =>
    rw [e] at hx hy
    cases hx; cases hy
    exact ⟨k, List.mem_of_getElem? e, rfl, rfl⟩
theorem sums_of_ok {p wi : Int} {P : List Pc} {l : List Nat} (hl : l.length ≤ 1000) (h : ∀ k ∈ l, k < P.length) : WF (F_sums_of [.sh (webD p wi P), .sh (.tup (nats l))]) fun r o => r = .d (.tup (sumsD (picks P l))) ∧ o = [.un, .un] := by
  have core : ∀ (j : Nat) (x y : D), (nats l)[j]? = some x → (sumsD (picks P l))[j]? = some y → ∃ ρ3, (Tg.n 2).set ⟨[.sh (webD p wi P), .sh (.tup (nats l)), .un], [.un, .un]⟩ x = some ρ3 ∧ W (evE (.call F_sum_of (.cons (.var 0) (.cons (.var 2) (.nil)))) ρ3) fun b ρ5 => ∃ ρ6, b.keep ρ5 = some (y, ρ6) ∧ wipeE ρ6 [2] = ⟨[.sh (webD p wi P), .sh (.tup (nats l)), .un], [.un, .un]⟩ := fun j x y hx hy => by
    obtain ⟨k, hk, rfl, rfl⟩ := nats_map hx hy
    generalize hki : (k : Int) = ki
    refine ⟨⟨[.sh (webD p wi P), .sh (.tup (nats l)), .sh (.int ki)], [.un, .un]⟩, rfl, ?_⟩
    refine w_call (W.of (a := [.d (webD p wi P), .d (.int ki)]) (ρ := ⟨[.sh (webD p wi P), .sh (.tup (nats l)), .sh (.int ki)], [.un, .un]⟩) rfl ⟨rfl, [.sh (webD p wi P), .sh (.int ki)], rfl, WF.mono (sum_of_ok hki.symm (h k hk)) ?_⟩)
    rintro r o ⟨rfl, rfl⟩
    exact ⟨_, rfl, rfl⟩
  refine wf_fn (ws_cons (ws_ret (w_prim (wa_cons (w_lcm (W.of (a := [.d (.tup (nats l))]) (ρ := ⟨[.sh (webD p wi P), .sh (.tup (nats l)), .un], [.un, .un]⟩) rfl ⟨[.tup (nats l)], nats l, rfl, rfl, ⟨by rw [nats_len, sizeLine_eq]; omega, rfl, rfl⟩, sumsD (picks P l), by rw [sumsD_len, picks_len, nats_len], core, wa_nil ⟨[.lst (sumsD (picks P l))], _, rfl, rfl, _, _, rfl, rfl, rfl⟩⟩))))))
theorem nums_vec : ∀ (v : List Int), nums (vec v) = some v
  | [] => rfl
  | i :: v => by
    show (match nums (vec v) with | some bs => some (i :: bs) | none => none) = _
    rw [nums_vec v]
end Ev
namespace Ev
open PySem L2
theorem nats_snoc (fs : List Nat) (k : Nat) : nats fs ++ [.int (k : Int)] = nats (fs ++ [k]) := by
  unfold nats
  rw [List.map_append]
  rfl
end Ev
namespace Ev
open PySem L2
theorem dat_nats {l : List Nat} : ∀ x ∈ nats l, dat x := fun x hx => by
  unfold nats at hx
  obtain ⟨k, _, rfl⟩ := List.mem_map.mp hx
  exact ⟨_, rfl⟩
theorem okd_nats {l : List Nat} (h : l.length ≤ 1000) : Okd (.tup (nats l)) := okd_tup (by rw [nats_len]; exact h) dat_nats
theorem lenP (P : List Pc) : fLen [.tup (pcsD P)] = some (.d (.int (P.length : Int))) := by rw [len_tup, pcsD_len]
theorem is_lot_of_ok {p wi : Int} {P : List Pc} {d : D} (h : Okd d) : WF (F_is_lot_of [.sh (webD p wi P), .sh d]) fun r o => r = .d (.bl (lotB (P.length : Int) d)) ∧ o = [.un, .un] := by
  refine wf_fn (ws_cons (ws_ret (w_call (wa_cons (w_prim (wa_cons (W.of (a := .d (.tup (pcsD P))) (ρ := ⟨[.sh (webD p wi P), .sh d], [.un, .un]⟩) rfl ?_)))))))
  generalize hmi : (P.length : Int) = mi
  refine wa_nil ⟨_, .d (.int mi), rfl, by rw [← hmi]; exact lenP P, ?_⟩
  refine W.of (a := [.d d]) (ρ := ⟨[.sh (webD p wi P), .sh d], [.un, .un]⟩) rfl ⟨rfl, [.sh (.int mi), .sh d], rfl, WF.mono (is_lot_ok h) ?_⟩
  rintro r o ⟨rfl, rfl⟩
  exact ⟨_, _, rfl, rfl, rfl⟩
theorem lot_len {l : List Nat} {P : List Pc} (hn : P.length ≤ 40) (h : IsLot P.length l) : l.length ≤ 40 := by have := h.len; omega
end Ev
namespace Ev
open PySem L2
/-! ### what is read -/
def Reads (p : Int) (w : Nat) (S : List (List Int)) (v : Nat) : Prop := Lin.Sp p w (Lin.Pre (row S) S.length) (co (marks w v))
structure ReadL (p : Int) (w : Nat) (S : List (List Int)) (L : List Nat) : Prop where
  m : ∀ v, v ∈ L ↔ v < w ∧ Reads p w S v
  o : L.Pairwise (· < ·)
theorem rise_nat : ∀ {l m : List Nat}, l.Pairwise (· < ·) → m.Pairwise (· < ·) → (∀ k, k ∈ l ↔ k ∈ m) → l = m
  | [], [], _, _, _ => rfl
  | [], y :: m, _, _, h => by have := (h y).mpr List.mem_cons_self; cases this
  | x :: l, [], _, _, h => by have := (h x).mp List.mem_cons_self; cases this
  | x :: l, y :: m, hl, hm, h => by
    obtain ⟨a1, a2⟩ := List.pairwise_cons.mp hl
    obtain ⟨b1, b2⟩ := List.pairwise_cons.mp hm
    have e : x = y := by
      rcases List.mem_cons.mp ((h x).mp List.mem_cons_self) with e | e
      · exact e
      · rcases List.mem_cons.mp ((h y).mpr List.mem_cons_self) with e' | e'
        · exact e'.symm
        · have := a1 y e'
          have := b1 x e
          omega
    subst e
    congr 1
    refine rise_nat a2 b2 fun k => ⟨fun m => ?_, fun m => ?_⟩
    · rcases List.mem_cons.mp ((h k).mp (List.mem_cons_of_mem _ m)) with rfl | z
      · exact absurd (a1 k m) (Nat.lt_irrefl _)
      · exact z
    · rcases List.mem_cons.mp ((h k).mpr (List.mem_cons_of_mem _ m)) with rfl | z
      · exact absurd (b1 k m) (Nat.lt_irrefl _)
      · exact z
theorem ReadL.uniq {p : Int} {w : Nat} {S : List (List Int)} {L M : List Nat} (h : ReadL p w S L) (g : ReadL p w S M) : L = M := rise_nat h.o g.o fun k => by rw [h.m, g.m]
theorem Taken.uniq {p : Int} {w k : Nat} {s : Nat → Lin.V} {fs gs : List Nat} (h : Taken p w s k fs) (g : Taken p w s k gs) : fs = gs := rise_nat h.o g.o fun j => by rw [h.m, g.m]
end Ev
namespace Ev
open PySem L2
theorem nats_vec (L : List Nat) : nats L = vec (L.map fun k : Nat => (k : Int)) := by
  unfold nats vec
  rw [List.map_map]
  rfl
theorem inI_nats {j : Nat} {ji : Int} (e : ji = j) (L : List Nat) : inI ji (L.map fun k : Nat => (k : Int)) = decide (j ∈ L) := by
  unfold inI
  rw [List.any_map]
  by_cases h : j ∈ L
  · rw [decide_eq_true h, List.any_eq_true]
    exact ⟨j, h, decide_eq_true (show (j : Int) = ji from e.symm)⟩
  · rw [decide_eq_false h, List.any_eq_false]
    intro k hk q
    have : (k : Int) = ji := of_decide_eq_true q
    exact h (by rw [show j = k by omega]; exact hk)
theorem inM_nats {j : Nat} {ji : Int} (e : ji = j) (L : List Nat) : inM? (.int ji) (.tup (nats L)) = some (decide (j ∈ L)) := by
  have : inT? (.int ji) (.tup (nats L)) = some (decide (j ∈ L)) := by
    show (match nums (nats L) with | some ns => some (inI ji ns) | none => none) = _
    rw [nats_vec, nums_vec]
    show some _ = _
    rw [inI_nats e]
  unfold inM?
  rw [this]
theorem in_nats {j : Nat} {ji : Int} (e : ji = j) (L : List Nat) : fInM [.int ji, .tup (nats L)] = some (.d (.bl (decide (j ∈ L)))) := by
  show (match inM? (.int ji) (.tup (nats L)) with | some k => some (RB.d (.bl k)) | none => none) = _
  rw [inM_nats e]
/-! ### the law's own -/
end Ev
namespace Ev
open PySem L2
def units (w : Nat) : List (List Int) := (List.range w).map fun v => marks w v
end Ev
namespace Ev
open PySem L2
theorem php : ∀ (w : Nat) (l : List Nat), l.Nodup → (∀ x ∈ l, x < w) → l.length ≤ w ∧ (l.length = w → ∀ v, v < w → v ∈ l)
  | 0, l, _, h => by
    cases l with
    | nil => exact ⟨Nat.le_refl _, fun _ v hv => absurd hv (Nat.not_lt_zero _)⟩
    | cons a r => exact absurd (h a (by simp)) (Nat.not_lt_zero _)
  | w + 1, l, hn, h => by
    by_cases hm : w ∈ l
    · have hl : (l.erase w).length = l.length - 1 := List.length_erase_of_mem hm
      have hpos : 0 < l.length := List.length_pos_of_mem hm
      obtain ⟨h1, h2⟩ := php w (l.erase w) (hn.erase _) fun x hx => by
        have h3 := h x (List.mem_of_mem_erase hx)
        have h4 : x ≠ w := fun e => by subst e; exact (hn.not_mem_erase) hx
        omega
      refine ⟨by omega, fun e v hv => ?_⟩
      by_cases hvw : v = w
      · subst hvw; exact hm
      · exact List.mem_of_mem_erase (h2 (by omega) v (by omega))
    · obtain ⟨h1, _⟩ := php w l hn fun x hx => by
        have h3 := h x hx
        have h4 : x ≠ w := fun e => by subst e; exact hm hx
        omega
      exact ⟨by omega, fun e => by omega⟩
theorem stag_nodup {p : Int} (hp : 1 < p) : ∀ {rows : List (Nat × Lin.V)}, Lin.Stag p rows → (rows.map (·.1)).Nodup
  | [], _ => List.nodup_nil
  | (q, r) :: rest, ⟨h1, h0, hs⟩ => by
    rw [List.map_cons, List.nodup_cons]
    refine ⟨fun hm => ?_, stag_nodup hp hs⟩
    obtain ⟨a, ha, e⟩ := List.mem_map.mp hm
    have e : a.1 = q := e
    have h2 := h0 a ha
    have h3 := Lin.stag_mem hs a ha
    rw [e] at h3
    have h4 : p ∣ 1 := Lin.dvOf (Lin.dvSub h2 h3) (by omega)
    have := Int.le_of_dvd (by decide) h4
    omega
theorem ReadL.all {p : Int} {w : Nat} {S : List (List Int)} {L : List Nat} (h : ReadL p w S L) : L = List.range w ↔ ∀ v, v < w → Reads p w S v := by
  constructor
  · rintro rfl v hv
    exact ((h.m v).mp (List.mem_range.mpr hv)).2
  · intro k
    refine rise_nat h.o List.pairwise_lt_range fun v => ?_
    rw [h.m, List.mem_range]
    exact ⟨fun a => a.1, fun a => ⟨a, k v a⟩⟩
end Ev
namespace Ev
open PySem L2
/-! ### pieces that are told alike -/
/-! ### places as data -/
theorem cast_inj : ∀ {l m : List Nat}, (l.map fun k : Nat => (k : Int)) = (m.map fun k : Nat => (k : Int)) → l = m
  | [], [], _ => rfl
  | [], _ :: _, h => by cases h
  | _ :: _, [], h => by cases h
  | a :: l, b :: m, h => by
    rw [List.map_cons, List.map_cons] at h
    injection h with h1 h2
    rw [cast_inj h2, show a = b by omega]
theorem up_nats {mi : Int} {m : Nat} (h : mi = m) : upFrom mi.toNat 0 = nats (List.range m) := by
  subst h
  apply List.ext_getElem?
  intro j
  unfold nats
  rw [List.getElem?_map, Int.toNat_natCast]
  by_cases hj : j < m
  · rw [List.getElem?_range hj]
    cases e : (upFrom m 0)[j]? with
    | none =>
      rw [List.getElem?_eq_none_iff, upFrom_length] at e
      omega
    | some d =>
      obtain ⟨_, rfl⟩ := upFrom_get _ _ _ _ e
      rw [Int.zero_add]
      rfl
  · rw [List.getElem?_eq_none (by rw [upFrom_length]; omega), List.getElem?_eq_none (by rw [List.length_range]; omega)]
    rfl
end Ev
namespace Ev
open PySem L2
/-! ### what is taken is there, whatever the program writes it with (reduced, inverse) -/
theorem found_ex {p : Int} {w : Nat} {S : List (List Int)} (hpp : p ∈ primes) (hw : w ≤ 100) (hS : ∀ s ∈ S, s.length = w ∧ Rg p s) : ∀ k, k ≤ S.length → ∃ fs rows, Found p w w (row S) k rows ∧ Taken p w (row S) k fs ∧ rows.length = fs.length
  | 0, _ => ⟨[], [], Found.nil, ⟨fun j => by simp, List.Pairwise.nil⟩, rfl⟩
  | k + 1, hk => by
    obtain ⟨hp1, hp2⟩ := primes_lt hpp
    obtain ⟨fs, rows, hf, ht, hl⟩ := found_ex hpp hw hS k (by omega)
    have hkl : k < S.length := by omega
    obtain ⟨h1, h2⟩ := hS _ (getD_memL hkl)
    obtain ⟨r0, o0, _, u, _, _, hu, hur, hred⟩ := WF.get (reducedS_ok (n := w) (.inr rfl) hp1 hp2 (by omega) hf.r h1 h2)
    have hred : Lin.Red p w (absR rows) (row S k) (co u) := hred
    by_cases h0 : ∀ i, i < w → u.getD i 0 = 0
    · obtain ⟨a, b⟩ := hf.skip (Nat.le_refl w) hred h0
      exact ⟨fs, rows, a, ht.skip b, hl⟩
    · obtain ⟨q, hq⟩ := Classical.not_forall.mp h0
      obtain ⟨hqw, hq0⟩ := Classical.not_imp.mp hq
      have hqr := hur.at (j := q) (by omega)
      obtain ⟨t, _, _, _, e⟩ := inverse_ok hpp (show 0 < u.getD q 0 by omega) hqr.2
      obtain ⟨a, b⟩ := hf.new hp1 (Nat.le_refl w) hred hu hur hqw e
      exact ⟨fs ++ [k], rows ++ [(q, mulr p t u)], a, ht.new b, by rw [List.length_append, List.length_append, hl]; rfl⟩
theorem found_picks {p : Int} {w : Nat} {P : List Pc} {l : List Nat} (hpp : p ∈ primes) (h2 : w ≤ 10) (hP : Pcs p w P) (h : ∀ k ∈ l, k < P.length) : ∃ fs rows, Found p w w (row (picks P l)) l.length rows ∧ Taken p w (row (picks P l)) l.length fs ∧ rows.length = fs.length := by
  have hS : ∀ s ∈ picks P l, s.length = w ∧ Rg p s := fun v hv => by
    unfold picks at hv
    obtain ⟨k, hk, rfl⟩ := List.mem_map.mp hv
    have := hP.g _ (pcAt_mem (h k hk))
    exact ⟨this.l, this.r⟩
  have := found_ex (S := picks P l) hpp (by omega) hS (picks P l).length (Nat.le_refl _)
  rw [picks_len] at this
  exact this
end Ev
namespace Ev
open PySem L2
/-! ### the taken ones as a list -/
open Classical in
noncomputable def tkL (p : Int) (w : Nat) (s : Nat → Lin.V) (n : Nat) : List Nat := (List.range n).filter fun j => decide (Lin.Tk p w s j)
theorem tkL_mem {p : Int} {w n j : Nat} {s : Nat → Lin.V} : j ∈ tkL p w s n ↔ j < n ∧ Lin.Tk p w s j := by
  unfold tkL
  rw [List.mem_filter, List.mem_range, @decide_eq_true_iff _ (Classical.propDecidable _)]
theorem tkL_up (p : Int) (w n : Nat) (s : Nat → Lin.V) : (tkL p w s n).Pairwise (· < ·) := List.Pairwise.filter _ List.pairwise_lt_range
theorem Taken.eq {p : Int} {w n : Nat} {s : Nat → Lin.V} {fs : List Nat} (h : Taken p w s n fs) : fs = tkL p w s n := h.uniq ⟨fun j => tkL_mem, tkL_up ..⟩
noncomputable def tkP (p : Int) (w : Nat) (P : List Pc) (l : List Nat) : List Nat := tkL p w (row (picks P l)) l.length
noncomputable def rk (p : Int) (w : Nat) (P : List Pc) (l : List Nat) : Nat := (tkP p w P l).length
theorem rk_le (p : Int) (w : Nat) (P : List Pc) (l : List Nat) : rk p w P l ≤ l.length := by
  unfold rk tkP tkL
  have := List.length_filter_le (fun j => @decide (Lin.Tk p w (row (picks P l)) j) (Classical.propDecidable _)) (List.range l.length)
  rw [List.length_range] at this
  exact this
theorem rk_full {p : Int} {w : Nat} {P : List Pc} {l : List Nat} : rk p w P l = l.length ↔ ∀ j, j < l.length → Lin.Tk p w (row (picks P l)) j := by
  constructor
  · intro h j hj
    have h2 : (tkP p w P l).length = (List.range l.length).length := by rw [List.length_range]; exact h
    unfold tkP tkL at h2
    have := List.length_filter_eq_length_iff.mp h2 j (List.mem_range.mpr hj)
    exact (@decide_eq_true_iff _ (Classical.propDecidable _)).mp this
  · intro h
    have : tkP p w P l = List.range l.length := rise_nat (tkL_up ..) List.pairwise_lt_range fun k => by
      unfold tkP
      rw [tkL_mem, List.mem_range]
      exact ⟨fun a => a.1, fun a => ⟨a, h k a⟩⟩
    unfold rk
    rw [this, List.length_range]
theorem getD_mem0 {l : List Nat} {j : Nat} (h : j < l.length) : l.getD j 0 ∈ l := by
  rw [List.getD_eq_getElem?_getD, List.getElem?_eq_getElem h]
  exact List.getElem_mem h
theorem row_picks {P : List Pc} {l : List Nat} {j : Nat} (h : j < l.length) : row (picks P l) j = co (pcAt P (l.getD j 0)).1 := by
  refine row_of ?_
  unfold picks
  rw [List.getElem?_map, List.getD_eq_getElem?_getD, List.getElem?_eq_getElem h]
  rfl
/-! ### keepings -/
section
variable {p wi : Int} {w : Nat} {P : List Pc}
theorem found_of {l : List Nat} (hpp : p ∈ primes) (h2 : w ≤ 10) (hP : Pcs p w P) (hl : IsLot P.length l) : ∃ rows, Found p w w (row (picks P l)) l.length rows ∧ rows.length = rk p w P l := by
  have hl40 := lot_len hP.n hl
  obtain ⟨fs, rows, hf, ht, hrl⟩ := found_picks hpp h2 hP hl.lt
  exact ⟨rows, hf, by rw [hrl, ht.eq]; rfl⟩
theorem rk_lew {l : List Nat} (hpp : p ∈ primes) (h2 : w ≤ 10) (hP : Pcs p w P) (hl : IsLot P.length l) : rk p w P l ≤ w := by
  obtain ⟨rows, hf, e⟩ := found_of hpp h2 hP hl
  obtain ⟨hp1, hp2⟩ := primes_lt hpp
  have hnd := stag_nodup hp1 hf.r.s
  have hq : ∀ x ∈ (absR rows).map (·.1), x < w := fun x hx => by
    obtain ⟨a, ha, rfl⟩ := List.mem_map.mp hx
    exact hf.qs a ha
  have := (php w _ hnd hq).1
  unfold absR at this
  rw [List.length_map, List.length_map] at this
  omega
theorem lot_filter {m : Nat} {l : List Nat} (h : IsLot m l) (f : Nat → Bool) : IsLot m (l.filter f) := ⟨fun k hk => h.lt k (List.mem_filter.mp hk).1, List.Pairwise.filter _ h.up⟩
def dropK (l : List Nat) (k : Nat) : List Nat := l.filter fun i => !decide (i = k)
theorem picks_mem {P : List Pc} {l : List Nat} {k : Nat} (h : k ∈ l) : ∃ i, i < l.length ∧ co (pcAt P k).1 = row (picks P l) i := by
  obtain ⟨i, hi, e⟩ := List.getElem_of_mem h
  refine ⟨i, hi, ?_⟩
  rw [row_picks hi, List.getD_eq_getElem?_getD, List.getElem?_eq_getElem hi, ← e]
  rfl
end
end Ev
namespace Ev
open PySem L2
/-! ### comprehensions over a list of things -/
theorem fm_filter {α : Type} (q : α → Bool) (e : α → D) : ∀ l : List α, (l.map fun a => if q a = true then some (e a) else none).filterMap id = (l.filter q).map e
  | [] => rfl
  | a :: l => by
    rw [List.map_cons, List.filterMap_cons]
    cases h : q a with
    | true =>
      rw [List.filter_cons_of_pos h, List.map_cons, ← fm_filter q e l]
      rfl
    | false =>
      rw [List.filter_cons_of_neg (by rw [h]; decide), ← fm_filter q e l]
      rfl
section
variable {ρ : Env} {α : Type}
theorem w_lcfL {ows : List Nat} {tg : Tg} {f : List D → Option (List D)} {as : Es} {t : T} {elt : E} {P : B → Env → Prop} {l : List α} {g e : α → D} {q : α → Bool} (h : W (evA as ρ) fun bs ρ1 => ∃ ds, views ρ1 bs = some ds ∧ f ds = some (l.map g) ∧
      (l.length ≤ sizeLine ∧ (ows.all fun i => match ρ1.o[i]? with | some .att => false | _ => true) = true ∧ (tg.is.all fun i => ows.contains i) = true) ∧
      (∀ a ∈ l, ∃ ρ3, tg.set (wipeE (locks ρ1 bs) ows) (g a) = some ρ3 ∧ W (evT t ρ3) fun k ρ4 => k = q a ∧ (q a = true → W (evE elt ρ4) fun b ρ5 => ∃ ρ6, b.keep ρ5 = some (e a, ρ6) ∧ wipeE ρ6 ows = wipeE (locks ρ1 bs) ows) ∧ wipeE ρ4 ows = wipeE (locks ρ1 bs) ows) ∧
      P (.nw ((l.filter q).map e)) (unlocks ρ1 (unwipe (locks ρ1 bs) (wipeE (locks ρ1 bs) ows) ows) bs)) : W (evE (.lc ows tg f as (.some t) elt) ρ) P := by
  refine w_lcf (W.mono h fun bs ρ1 ⟨ds, h1, h2, h3, hs, hP⟩ => ⟨ds, _, h1, h2, by rw [List.length_map]; exact h3, l.map fun a => if q a = true then some (e a) else none, by rw [List.length_map, List.length_map], fun j x y hx hy => ?_, by rw [fm_filter]; exact hP⟩)
  rw [List.getElem?_map] at hx hy
  cases hj : l[j]? with
  | none => rw [hj] at hx; cases hx
  | some a =>
    rw [hj] at hx hy
    cases hx
    cases hy
    obtain ⟨ρ3, k1, k2⟩ := hs a (List.mem_of_getElem? hj)
    refine ⟨ρ3, k1, W.mono k2 fun k ρ4 ⟨e1, e2, e3⟩ => ⟨fun z => ?_, fun z => ?_⟩⟩
    · subst e1
      refine W.mono (e2 z) fun b ρ5 ⟨ρ6, k3, k4⟩ => ⟨e a, ρ6, k3, ?_, k4⟩
      show (if q a = true then some (e a) else none) = _
      rw [if_pos z]
    · subst e1
      exact ⟨by show (if q a = true then some (e a) else none) = _; rw [z]; rfl, e3⟩
theorem w_lcmL {ows : List Nat} {tg : Tg} {f : List D → Option (List D)} {as : Es} {elt : E} {P : B → Env → Prop} {l : List α} {g e : α → D} (h : W (evA as ρ) fun bs ρ1 => ∃ ds, views ρ1 bs = some ds ∧ f ds = some (l.map g) ∧
      (l.length ≤ sizeLine ∧ (ows.all fun i => match ρ1.o[i]? with | some .att => false | _ => true) = true ∧ (tg.is.all fun i => ows.contains i) = true) ∧
      (∀ a ∈ l, ∃ ρ3, tg.set (wipeE (locks ρ1 bs) ows) (g a) = some ρ3 ∧ W (evE elt ρ3) fun b ρ5 => ∃ ρ6, b.keep ρ5 = some (e a, ρ6) ∧ wipeE ρ6 ows = wipeE (locks ρ1 bs) ows) ∧
      P (.nw (l.map e)) (unlocks ρ1 (unwipe (locks ρ1 bs) (wipeE (locks ρ1 bs) ows) ows) bs)) : W (evE (.lc ows tg f as .none elt) ρ) P := by
  refine w_lcm (W.mono h fun bs ρ1 ⟨ds, h1, h2, h3, hs, hP⟩ => ⟨ds, _, h1, h2, by rw [List.length_map]; exact h3, l.map e, by rw [List.length_map, List.length_map], fun j x y hx hy => ?_, hP⟩)
  rw [List.getElem?_map] at hx hy
  cases hj : l[j]? with
  | none => rw [hj] at hx; cases hx
  | some a =>
    rw [hj] at hx hy
    cases hx
    cases hy
    exact hs a (List.mem_of_getElem? hj)
end
/-! ### lean, needless -/
end Ev
namespace Ev
open PySem L2
/-! ### the tape of this family of laws -/
def td (g : List Int) (i a b t : Int) : List D := [.lst (g.map D.int), .int i, .int a, .int b, .int t]
def Tap (g : List Int) (h : List D) : Prop := ∃ i a b t : Int, h = td g i a b t ∧ 0 ≤ i ∧ 0 ≤ b
def pkF (h : List D) (m : Int) (x y z : Slot) : Env := ⟨[.ow h, .sh (.int m), x, y, z], [.att, .un]⟩
theorem tape_ok (ns : List Int) (hl : ns.length ≤ 63) : WF (F_law_tape [.sh (.ro (ns.map D.int))]) fun r o => ∃ h, r = .nw h ∧ o = [.un] ∧ Tap ns h := by
  refine wf_fn (ws_cons (ws_ret (w_lst (wd_cons (w_prim (W.of (a := [.d (.ro (ns.map D.int))]) (ρ := ⟨[.sh (.ro (ns.map D.int))], [.un]⟩) rfl ⟨[.ro (ns.map D.int)], .nw (ns.map D.int), rfl, rfl, .lst (ns.map D.int), _, rfl, ?_⟩))))))
  refine W.of (a := [.int 0, .int 0, .int 1, .int 0]) (ρ := ⟨[.sh (.ro (ns.map D.int))], [.un]⟩) rfl ⟨by simp, ?_⟩
  exact ⟨.nw (td ns 0 0 1 0), _, rfl, td ns 0 0 1 0, rfl, rfl, 0, 0, 1, 0, rfl, by omega, by omega⟩
def PickEnd (g : List Int) (m : Int) (b : B) (ρ : Env) : Prop := ∃ r ρ', retB ρ b = some (r, ρ') ∧ ∃ k h', r = .d (.int k) ∧ ρ'.outs = [.ow h', .un] ∧ 0 ≤ k ∧ k < m ∧ Tap g h'
def pickTail : Ss := match ir_law_pick with
  | .cons _ (.cons _ (.cons _ (.cons _ ss))) => ss
  | _ => .nil
theorem pick_tail {g : List Int} {i a b t m c : Int} (hm : 0 < m) (hm2 : m < 1073741824) (hi : 0 ≤ i) (hb : 0 ≤ b) {nx : Env → Prop} {bk : Env → Prop} : WS (evSs pickTail (pkF (td g i a b t) m .un (.sh (.int c)) .un)) nx (PickEnd g m) bk := by
  refine ws_cons (ws_ite (W.of (a := decide (c ≥ 10 ^ 18)) (ρ := pkF (td g i a b t) m .un (.sh (.int c)) .un) rfl ⟨fun _ => ?_, fun _ => ?_⟩))
  · refine ws_cons (ws_seti (w_prim (W.of (a := [.d (.int c), .d (.int m)]) (ρ := pkF (td g i a b t) m .un (.sh (.int c)) .un) rfl ⟨[.int c, .int m], .d (.int (c / m)), rfl, fDiv_ok hm hm2, .int (c / m), _, rfl, ⟨_, rfl⟩, W.of (a := .d (.int 2)) rfl ⟨2, _, 2, rfl, rfl, rfl, ?_⟩⟩)))
    refine ws_cons (ws_ret (w_prim (W.of (a := [.d (.int c), .d (.int m)]) (ρ := pkF (td g i (c / m) b t) m .un (.sh (.int c)) .un) rfl ⟨[.int c, .int m], .d (.int (c % m)), rfl, fMod_ok hm, ?_⟩)))
    exact ⟨_, _, rfl, _, _, rfl, rfl, Int.emod_nonneg _ (by omega), Int.emod_lt_of_pos _ hm, i, c / m, b, t, rfl, hi, hb⟩
  · refine ws_nil ?_
    have h1 : fMul [.int b, .int 48271] = some (.d (.int (b * 48271))) := mul_ok (mulOk_r (by omega) (by omega))
    have h2 : fMul [.int t, .int 69621] = some (.d (.int (t * 69621))) := mul_ok (mulOk_r (by omega) (by omega))
    have h3 : fMod [.int c, .int 2147483629] = some (.d (.int (c % 2147483629))) := fMod_ok (by omega)
    generalize b * 48271 = u at h1
    generalize t * 69621 = v at h2
    generalize c % 2147483629 = e at h3
    refine ws_cons (ws_asgV (w_prim (wa_cons (w_prim (wa_cons (w_prim (W.of (a := [.d (.int b), .d (.int 48271)]) (ρ := pkF (td g i a b t) m .un (.sh (.int c)) .un) rfl ⟨[.int b, .int 48271], _, rfl, h1, wa_cons (w_prim (W.of (a := [.d (.int c), .d (.int 2147483629)]) (ρ := pkF (td g i a b t) m .un (.sh (.int c)) .un) rfl ⟨[.int c, .int 2147483629], _, rfl, h3, wa_nil ⟨[.int u, .int e], .d (.int (u + e)), rfl, rfl, wa_nil ⟨[.int (u + e)], .d (.int (u + e)), rfl, rfl, rfl, pkF (td g i a b t) m .un (.sh (.int c)) (.sh (.int (u + e))), rfl, ?_⟩⟩⟩))⟩)))))))
    generalize u + e = x
    have h4 : fMod [.int (x + v), .int 2147483647] = some (.d (.int ((x + v) % 2147483647))) := fMod_ok (by omega)
    refine ws_cons (ws_asgV (w_prim (wa_cons (w_prim (wa_cons (w_prim (wa_cons (W.of (a := .d (.int x)) (ρ := pkF (td g i a b t) m .un (.sh (.int c)) (.sh (.int x))) rfl (wa_cons (w_prim (W.of (a := [.d (.int t), .d (.int 69621)]) (ρ := pkF (td g i a b t) m .un (.sh (.int c)) (.sh (.int x))) rfl ⟨[.int t, .int 69621], _, rfl, h2, wa_nil ⟨[.int x, .int v], .d (.int (x + v)), rfl, rfl, wa_nil ⟨[.int (x + v)], .d (.int (x + v)), rfl, rfl, W.of (a := [.d (.int 2147483647)]) (ρ := pkF (td g i a b t) m .un (.sh (.int c)) (.sh (.int x))) rfl ⟨[.int (x + v), .int 2147483647], _, rfl, h4, rfl, pkF (td g i a b t) m .un (.sh (.int c)) (.sh (.int ((x + v) % 2147483647))), rfl, ?_⟩⟩⟩⟩)))))))))))
    have r0 : 0 ≤ (x + v) % 2147483647 := Int.emod_nonneg _ (by omega)
    have r1 : (x + v) % 2147483647 < 2147483647 := Int.emod_lt_of_pos _ (by omega)
    generalize (x + v) % 2147483647 = y at r0 r1
    have h5 : fDiv [.int y, .int 1009] = some (.d (.int (y / 1009))) := fDiv_ok (by omega) (by omega)
    have h6 : fMul [.int y, .int (y / 1009 + 40692)] = some (.d (.int (y * (y / 1009 + 40692)))) := mul_ok (mulOk_l (by omega) (by omega))
    generalize y / 1009 = q at h5 h6
    generalize y * (q + 40692) = z at h6
    have h7 : fMod [.int z, .int 2147483399] = some (.d (.int (z % 2147483399))) := fMod_ok (by omega)
    have s0 : 0 ≤ z % 2147483399 := Int.emod_nonneg _ (by omega)
    generalize z % 2147483399 = s at h7 s0
    refine ws_cons (ws_asgV (w_prim (wa_cons (w_prim (wa_cons (w_prim (wa_cons (W.of (a := .d (.int y)) (ρ := pkF (td g i a b t) m .un (.sh (.int c)) (.sh (.int y))) rfl (wa_cons (w_prim (wa_cons (w_prim (W.of (a := [.d (.int y), .d (.int 1009)]) (ρ := pkF (td g i a b t) m .un (.sh (.int c)) (.sh (.int y))) rfl ⟨[.int y, .int 1009], _, rfl, h5, W.of (a := [.d (.int 40692)]) (ρ := pkF (td g i a b t) m .un (.sh (.int c)) (.sh (.int y))) rfl ⟨[.int q, .int 40692], .d (.int (q + 40692)), rfl, rfl, wa_nil ⟨[.int y, .int (q + 40692)], .d (.int z), rfl, h6, wa_nil ⟨[.int z], .d (.int z), rfl, rfl, W.of (a := [.d (.int 2147483399)]) (ρ := pkF (td g i a b t) m .un (.sh (.int c)) (.sh (.int y))) rfl ⟨[.int z, .int 2147483399], _, rfl, h7, rfl, pkF (td g i a b t) m .un (.sh (.int c)) (.sh (.int s)), rfl, ?_⟩⟩⟩⟩⟩)))))))))))))
    refine ws_cons (ws_seti (W.of (a := .d (.int s)) (ρ := pkF (td g i a b t) m .un (.sh (.int c)) (.sh (.int s))) rfl ⟨.int s, _, rfl, ⟨_, rfl⟩, W.of (a := .d (.int 3)) rfl ⟨3, _, 3, rfl, rfl, rfl, ?_⟩⟩))
    have h8 : fDiv [.int s, .int 16] = some (.d (.int (s / 16))) := fDiv_ok (by omega) (by omega)
    generalize s / 16 = k at h8
    refine ws_cons (ws_ret (w_prim (wa_cons (w_prim (wa_cons (w_prim (W.of (a := [.d (.int s), .d (.int 16)]) (ρ := pkF (td g i a s t) m .un (.sh (.int c)) (.sh (.int s))) rfl ⟨[.int s, .int 16], _, rfl, h8, wa_nil ⟨[.int k], .d (.int k), rfl, rfl, W.of (a := [.d (.int m)]) (ρ := pkF (td g i a s t) m .un (.sh (.int c)) (.sh (.int s))) rfl ⟨[.int k, .int m], .d (.int (k % m)), rfl, fMod_ok hm, ?_⟩⟩⟩)))))))
    exact ⟨_, _, rfl, _, _, rfl, rfl, Int.emod_nonneg _ (by omega), Int.emod_lt_of_pos _ hm, i, a, s, t, rfl, hi, s0⟩
theorem pick_ok {g : List Int} {h : List D} {m : Int} (hm : 0 < m) (hm2 : m < 1073741824) (T : Tap g h) : WF (F_law_pick [.ow h, .sh (.int m)]) fun r o => ∃ k h', r = .d (.int k) ∧ o = [.ow h', .un] ∧ 0 ≤ k ∧ k < m ∧ Tap g h' := by
  obtain ⟨i, a, b, t, rfl, hi, hb⟩ := T
  refine wf_fn ?_
  show WS (evSs _ (pkF (td g i a b t) m .un .un .un)) _ (PickEnd g m) _
  refine ws_cons (ws_ite (W.of (a := decide (a > 1)) (ρ := pkF (td g i a b t) m .un .un .un) rfl ⟨fun h => ?_, fun _ => ws_nil ?_⟩))
  · refine ws_cons (ws_asg (w_prim (W.of (a := [.d (.int a), .d (.int m)]) (ρ := pkF (td g i a b t) m .un .un .un) rfl ⟨_, _, rfl, fMod_ok hm, .d (.int (a % m)), _, pkF (td g i a b t) m (.sh (.int (a % m))) .un .un, rfl, rfl, ?_⟩)))
    refine ws_cons (ws_seti (w_prim (W.of (a := [.d (.int a), .d (.int m)]) (ρ := pkF (td g i a b t) m (.sh (.int (a % m))) .un .un) rfl ⟨_, _, rfl, fDiv_ok hm hm2, .int (a / m), _, rfl, ⟨_, rfl⟩, W.of (a := .d (.int 2)) rfl ⟨2, _, 2, rfl, rfl, rfl, ?_⟩⟩)))
    refine ws_cons (ws_ret (W.of (a := .d (.int (a % m))) (ρ := pkF (td g i (a / m) b t) m (.sh (.int (a % m))) .un .un) rfl ?_))
    exact ⟨_, _, rfl, _, _, rfl, rfl, Int.emod_nonneg _ (by omega), Int.emod_lt_of_pos _ hm, i, a / m, b, t, rfl, hi, hb⟩
  · refine ws_cons (ws_seti (W.of (a := .d (.int (t + 1))) (ρ := pkF (td g i a b t) m .un .un .un) rfl ⟨_, _, rfl, ⟨_, rfl⟩, W.of (a := .d (.int 4)) rfl ⟨4, _, 4, rfl, rfl, rfl, ?_⟩⟩))
    refine ws_cons (ws_asgV (W.of (a := .d (.int 0)) (ρ := pkF (td g i a b (t + 1)) m .un .un .un) rfl ⟨rfl, pkF (td g i a b (t + 1)) m .un (.sh (.int 0)) .un, rfl, ?_⟩))
    refine ws_cons (ws_ite (W.of (a := decide (i < ((g.map D.int).length : Int))) (ρ := pkF (td g i a b (t + 1)) m .un (.sh (.int 0)) .un) rfl ⟨fun h2 => ?_, fun _ => ws_nil ?_⟩))
    · obtain ⟨x, hx, e⟩ := atI_map hi (of_decide_eq_true h2)
      refine ws_cons (ws_asgV (w_prim (wa_cons (w_prim (wa_cons (w_prim (W.of (a := [.d (.lst (g.map D.int)), .d (.int i)]) (ρ := pkF (td g i a b (t + 1)) m .un (.sh (.int 0)) .un) rfl ⟨[.lst (g.map D.int), .int i], .d (.int x), rfl, e, wa_nil ⟨[.int x], .d (.int x), rfl, rfl, wa_nil ⟨[.int x], .d (.int (absI x)), rfl, ?_, rfl, pkF (td g i a b (t + 1)) m .un (.sh (.int (absI x))) .un, rfl, ?_⟩⟩⟩)))))))
      · rfl
      refine ws_cons (ws_seti (W.of (a := .d (.int (i + 1))) (ρ := pkF (td g i a b (t + 1)) m .un (.sh (.int (absI x))) .un) rfl ⟨_, _, rfl, ⟨_, rfl⟩, W.of (a := .d (.int 1)) rfl ⟨1, _, 1, rfl, rfl, rfl, ?_⟩⟩))
      exact ws_nil (pick_tail (i := i + 1) hm hm2 (by omega) hb)
    · exact pick_tail hm hm2 hi hb
end Ev
namespace Ev
open PySem L2
theorem any_ok {g : List Int} {h xs : List D} {s : Slot} (hs : Seq xs s) (h0 : xs ≠ []) (hz : xs.length < 1073741824) (T : Tap g h) : WF (F_law_any [.ow h, s]) fun r o => ∃ d h', r = .d d ∧ o = [.ow h', s.after] ∧ d ∈ xs ∧ Tap g h' := by
  have hp : 0 < (xs.length : Int) := by
    cases xs with
    | nil => exact absurd rfl h0
    | cons _ _ => simp
  refine wf_fn ?_
  cases hs with
  | ow =>
    refine ws_cons (ws_ret (w_prim (wa_cons (W.of (a := .loc 1) (ρ := ⟨[.ow h, .ow xs], [.att, .att]⟩) rfl (wa_cons (w_call (W.of (a := [.loc 0, .d (.int xs.length)]) (ρ := ⟨[.ow h, .ow xs], [.att, .att]⟩) rfl ⟨rfl, [.ow h, .sh (.int xs.length)], rfl, WF.mono (pick_ok hp (by omega) T) ?_⟩)))))))
    rintro r o ⟨k, h', rfl, rfl, a0, a1, T'⟩
    obtain ⟨x, hx, _, e⟩ := atI_nat a0 a1
    exact wa_nil ⟨[.lst xs, .int k], .d x, rfl, (by show (match atI xs k with | some d => some (RB.d d) | none => none) = _; rw [e]), _, _, rfl, x, h', rfl, rfl, hx, T'⟩
  | lst =>
    refine ws_cons (ws_ret (w_prim (wa_cons (W.of (a := .d (.lst xs)) (ρ := ⟨[.ow h, .sh (.lst xs)], [.att, .un]⟩) rfl (wa_cons (w_call (W.of (a := [.loc 0, .d (.int xs.length)]) (ρ := ⟨[.ow h, .sh (.lst xs)], [.att, .un]⟩) rfl ⟨rfl, [.ow h, .sh (.int xs.length)], rfl, WF.mono (pick_ok hp (by omega) T) ?_⟩)))))))
    rintro r o ⟨k, h', rfl, rfl, a0, a1, T'⟩
    obtain ⟨x, hx, _, e⟩ := atI_nat a0 a1
    exact wa_nil ⟨[.lst xs, .int k], .d x, rfl, (by show (match atI xs k with | some d => some (RB.d d) | none => none) = _; rw [e]), _, _, rfl, x, h', rfl, rfl, hx, T'⟩
  | tup =>
    refine ws_cons (ws_ret (w_prim (wa_cons (W.of (a := .d (.tup xs)) (ρ := ⟨[.ow h, .sh (.tup xs)], [.att, .un]⟩) rfl (wa_cons (w_call (W.of (a := [.loc 0, .d (.int xs.length)]) (ρ := ⟨[.ow h, .sh (.tup xs)], [.att, .un]⟩) rfl ⟨rfl, [.ow h, .sh (.int xs.length)], rfl, WF.mono (pick_ok hp (by omega) T) ?_⟩)))))))
    rintro r o ⟨k, h', rfl, rfl, a0, a1, T'⟩
    obtain ⟨x, hx, _, e⟩ := atI_nat a0 a1
    exact wa_nil ⟨[.tup xs, .int k], .d x, rfl, (by show (match atI xs k with | some d => some (RB.d d) | none => none) = _; rw [e]), _, _, rfl, x, h', rfl, rfl, hx, T'⟩
/-- one list of a variable walked -/
theorem locks1 {ρ : Env} {i : Nat} {xs : List D} (hv : ρ.v[i]? = some (.ow xs)) : locks ρ [.loc i] = ρ.setv i (.lk xs) := by
  unfold locks Env.setv
  congr 1
  refine List.ext_getElem? fun j => ?_
  rw [mapI_ix, List.getElem?_set, Nat.zero_add]
  by_cases h : i = j
  · subst h
    have hi : i < ρ.v.length := (List.getElem?_eq_some_iff.mp hv).1
    rw [hv, if_pos rfl, if_pos hi]
    show some (lock1 (.ow xs) (i == i || false)) = _
    rw [beq_self_eq_true]
    rfl
  · rw [if_neg h]
    cases hj : ρ.v[j]? with
    | none => rfl
    | some s =>
      show some (lock1 s (j == i || false)) = _
      rw [beq_eq_false_iff_ne.mpr (Ne.symm h)]
      show some (lock1 s false) = _
      rw [lock1_eq]
theorem unlocks1 {ρ0 ρ : Env} {i : Nat} {xs ys : List D} (h0 : ρ0.v[i]? = some (.ow ys)) (hv : ρ.v[i]? = some (.lk xs)) : unlocks ρ0 ρ [.loc i] = ρ.setv i (.ow xs) := by
  unfold unlocks Env.setv
  congr 1
  refine List.ext_getElem? fun j => ?_
  rw [mapI_ix, List.getElem?_set, Nat.zero_add]
  by_cases h : i = j
  · subst h
    have hi : i < ρ.v.length := (List.getElem?_eq_some_iff.mp hv).1
    rw [hv, if_pos rfl, if_pos hi, h0]
    show some (unlock1 (.lk xs) (some (.ow ys)) (i == i || false)) = _
    rw [beq_self_eq_true]
    rfl
  · rw [if_neg h]
    cases hj : ρ.v[j]? with
    | none => rfl
    | some s =>
      show some (unlock1 s ρ0.v[j]? (j == i || false)) = _
      rw [beq_eq_false_iff_ne.mpr (Ne.symm h)]
      show some (unlock1 s ρ0.v[j]? false) = _
      rw [unlock1_eq]
theorem backI {ρ : Env} {i : Nat} {h h' : List D} {bs : List B} {o : List Slot} (hv : ρ.v[i]? = some (.ow h)) (hn : ∀ j, newAt bs o j = if j = i then some (.ow h') else none) : back ρ bs o = ρ.setv i (.ow h') := by
  unfold back Env.setv
  have e1 : mapI (fun j s => new1 s (newAt bs o j)) 0 ρ.v = ρ.v.set i (.ow h') := by
    refine List.ext_getElem? fun j => ?_
    rw [mapI_ix, List.getElem?_set, Nat.zero_add]
    by_cases e : i = j
    · subst e
      rw [hn, if_pos rfl, if_pos rfl, if_pos (List.getElem?_eq_some_iff.mp hv).1, hv]
      rfl
    · rw [if_neg e, hn, if_neg (Ne.symm e)]
      cases ρ.v[j]? with
      | none => rfl
      | some s => show some (new1 s none) = _; rw [new1_eq]
  have e2 : mapI (fun j s => newO s ρ.v[j]? (newAt bs o j)) 0 ρ.o = ρ.o := mapI_same fun j s hs => by
    rw [hn]
    by_cases e : j = i
    · subst e
      rw [if_pos rfl, hv]
      cases s <;> rfl
    · rw [if_neg e]
      exact newO_none _ _
  rw [e1, e2]
theorem erase_perm : ∀ (L : List D) (k : Nat) (h : k < L.length), (L[k] :: L.eraseIdx k).Perm L
  | a :: t, 0, _ => List.Perm.refl _
  | a :: t, k + 1, h => (List.Perm.swap a _ _).trans (List.Perm.cons a (erase_perm t k (by simpa using h)))
def mxF (h : List D) (s so : Slot) (L : List D) (s3 : Slot) : Env := ⟨[.ow h, s, .ow L, s3], [.att, so]⟩
theorem mixed_core {g : List Int} {h xs : List D} {s so : Slot} {P : B → Env → Prop} {ρ0 : Env} (hρ : mxF h s so xs .un = ρ0) (hz : xs.length ≤ 1000) (T : Tap g h) (hA : evA (.cons (.prim fLen (.cons (.var 1) (.nil))) (.nil)) ρ0 = .ok [.d (.int (xs.length : Int))] ρ0) (hP : ∀ ys h', ys.Perm xs → Tap g h' → P (.nw ys) (mxF h' s so [] .un)) :
    W (evE (.lc [3] (.n 3) itRange1 (.cons (.prim fLen (.cons (.var 1) (.nil))) (.nil)) .none (.mut mPopAt 2 (.cons (.call F_law_pick (.cons (.var 0) (.cons (.prim fLen (.cons (.var 2) (.nil))) (.nil)))) (.nil)))) ρ0) P := by
  subst hρ
  refine w_lc (W.of hA ⟨[.int (xs.length : Int)], _, rfl, range1_ok (by omega) (by omega), ⟨by rw [upFrom_length, sizeLine_eq]; omega, rfl, rfl⟩, fun j acc ρ => ∃ h L, ρ = mxF h s so L .un ∧ L.length + j = xs.length ∧ (acc ++ L).Perm xs ∧ Tap g h, ⟨h, xs, by rw [locks0 fun i => rfl]; rfl, rfl, List.Perm.refl _, T⟩, ?_, ?_⟩)
  · rintro j x acc ρ2 hx ⟨h, L, rfl, hL, hp, T⟩
    obtain ⟨hj, rfl⟩ := upFrom_get _ _ _ _ hx
    have hj' : j < xs.length := by omega
    generalize 0 + (j : Int) = ji
    refine ⟨mxF h s so L (.sh (.int ji)), rfl, W.of (a := true) rfl ⟨fun _ => ?_, fun z => absurd z (by decide)⟩⟩
    have hlen : fLen [.lst L] = some (.d (.int (L.length : Int))) := len_lst L
    have hpos : (0 : Int) < (L.length : Int) := by omega
    have hsm : (L.length : Int) < 1073741824 := by omega
    obtain ⟨li, hli⟩ : ∃ li : Int, li = (L.length : Int) := ⟨_, rfl⟩
    rw [← hli] at hlen hpos hsm
    refine w_mut (xs0 := L) rfl (wd_cons (w_call (wa_cons (W.of (a := .loc 0) (ρ := mxF h s so L (.sh (.int ji))) rfl (wa_cons (w_prim (W.of (a := [.loc 2]) (ρ := mxF h s so L (.sh (.int ji))) rfl ⟨[.lst L], .d (.int li), rfl, hlen, wa_nil ⟨rfl, [.ow h, .sh (.int li)], rfl, WF.mono (pick_ok hpos hsm T) ?_⟩⟩)))))))
    rintro r o ⟨k, h', rfl, rfl, k0, k1, T'⟩
    rw [backI (i := 0) (h' := h') rfl (fun j => by cases j <;> rfl)]
    obtain ⟨kn, rfl⟩ : ∃ kn : Nat, k = kn := ⟨k.toNat, by omega⟩
    have hkn : kn < L.length := by omega
    have hpop : mPopAt L [.int (kn : Int)] = some (L.eraseIdx kn, L[kn]) := by
      show (if L.length ≤ sizeLine then match ixN L.length (kn : Int) with
        | none => none
        | some j => match L[j]? with
          | none => none
          | some d => some (L.eraseIdx j, d) else none) = _
      rw [if_pos (by rw [sizeLine_eq]; omega), ixN_ok hkn]
      show (match L[kn]? with | none => none | some d => some (L.eraseIdx kn, d)) = _
      rw [List.getElem?_eq_getElem hkn]
    refine ⟨.int (kn : Int), mxF h' s so L (.sh (.int ji)), rfl, wd_nil ⟨L, L.eraseIdx kn, L[kn], rfl, hpop, L[kn], mxF h' s so (L.eraseIdx kn) (.sh (.int ji)), rfl, h', L.eraseIdx kn, rfl, ?_, ?_, T'⟩⟩
    · rw [List.length_eraseIdx, if_pos hkn]
      omega
    · have h2 : (L[kn] :: L.eraseIdx kn).Perm L := erase_perm L kn hkn
      rw [List.append_assoc]
      exact (List.Perm.append_left acc h2).trans hp
  · rintro acc ρ3 ⟨h, L, rfl, hL, hp, T⟩
    rw [upFrom_length] at hL
    have : L = [] := List.length_eq_zero_iff.mp (by omega)
    subst this
    rw [List.append_nil] at hp
    rw [unlocks0 fun i => rfl]
    exact hP acc h hp T
theorem mixed_ok {g : List Int} {h xs : List D} {s : Slot} (hs : Seq xs s) (hz : xs.length ≤ 1000) (T : Tap g h) : WF (F_law_mixed [.ow h, s]) fun r o => ∃ ys h', r = .nw ys ∧ o = [.ow h', s.after] ∧ ys.Perm xs ∧ Tap g h' := by
  refine wf_fn ?_
  cases hs with
  | ow =>
    generalize hs : start0 N_law_mixed.length [.ow h, .ow xs] = ρs
    refine ws_cons (ws_asgV ?_)
    have hs : ρs = ⟨[.ow h, .ow xs, .un, .un], [.att, .att]⟩ := hs.symm
    rw [hs]
    refine w_prim (W.of (a := [.loc 1]) (ρ := ⟨[.ow h, .ow xs, .un, .un], [.att, .att]⟩) rfl ⟨[.lst xs], .nw xs, rfl, rfl, rfl, mxF h (.ow xs) .att xs .un, rfl, ?_⟩)
    have hA : evA (.cons (.prim fLen (.cons (.var 1) (.nil))) (.nil)) (mxF h (.ow xs) .att xs .un) = .ok [.d (.int (xs.length : Int))] (mxF h (.ow xs) .att xs .un) := rfl
    generalize hρ : mxF h (.ow xs) .att xs .un = ρ0 at hA ⊢
    exact ws_cons (ws_ret (mixed_core (g := g) hρ hz T hA fun ys h' hp T' => ⟨.nw ys, mxF h' (.ow xs) .att [] .un, rfl, ys, h', rfl, rfl, hp, T'⟩))
  | lst =>
    generalize hs : start0 N_law_mixed.length [.ow h, .sh (.lst xs)] = ρs
    refine ws_cons (ws_asgV ?_)
    have hs : ρs = ⟨[.ow h, .sh (.lst xs), .un, .un], [.att, .un]⟩ := hs.symm
    rw [hs]
    refine w_prim (W.of (a := [.d (.lst xs)]) (ρ := ⟨[.ow h, .sh (.lst xs), .un, .un], [.att, .un]⟩) rfl ⟨[.lst xs], .nw xs, rfl, rfl, rfl, mxF h (.sh (.lst xs)) .un xs .un, rfl, ?_⟩)
    have hA : evA (.cons (.prim fLen (.cons (.var 1) (.nil))) (.nil)) (mxF h (.sh (.lst xs)) .un xs .un) = .ok [.d (.int (xs.length : Int))] (mxF h (.sh (.lst xs)) .un xs .un) := rfl
    generalize hρ : mxF h (.sh (.lst xs)) .un xs .un = ρ0 at hA ⊢
    exact ws_cons (ws_ret (mixed_core (g := g) hρ hz T hA fun ys h' hp T' => ⟨.nw ys, mxF h' (.sh (.lst xs)) .un [] .un, rfl, ys, h', rfl, rfl, hp, T'⟩))
  | tup =>
    generalize hs : start0 N_law_mixed.length [.ow h, .sh (.tup xs)] = ρs
    refine ws_cons (ws_asgV ?_)
    have hs : ρs = ⟨[.ow h, .sh (.tup xs), .un, .un], [.att, .un]⟩ := hs.symm
    rw [hs]
    refine w_prim (W.of (a := [.d (.tup xs)]) (ρ := ⟨[.ow h, .sh (.tup xs), .un, .un], [.att, .un]⟩) rfl ⟨[.tup xs], .nw xs, rfl, rfl, rfl, mxF h (.sh (.tup xs)) .un xs .un, rfl, ?_⟩)
    have hA : evA (.cons (.prim fLen (.cons (.var 1) (.nil))) (.nil)) (mxF h (.sh (.tup xs)) .un xs .un) = .ok [.d (.int (xs.length : Int))] (mxF h (.sh (.tup xs)) .un xs .un) := rfl
    generalize hρ : mxF h (.sh (.tup xs)) .un xs .un = ρ0 at hA ⊢
    exact ws_cons (ws_ret (mixed_core (g := g) hρ hz T hA fun ys h' hp T' => ⟨.nw ys, mxF h' (.sh (.tup xs)) .un [] .un, rfl, ys, h', rfl, rfl, hp, T'⟩))
end Ev
/-! how many things stand alone: no more than there are to make them of -/
namespace Lin
def Ind (p : Int) (w n : Nat) (c : Nat → V) : Prop := ∀ e : Nat → Int, (∀ i, i < w → p ∣ sumTo n (fun k => e k * c k i)) → ∀ k, k < n → p ∣ e k
def skip (k0 k : Nat) : Nat := if k < k0 then k else k + 1
theorem sum_skip {f : Nat → Int} {k0 : Nat} : ∀ {n : Nat}, k0 < n + 1 → sumTo (n + 1) f = sumTo n (fun k => f (skip k0 k)) + f k0
  | 0, h => by
    have : k0 = 0 := by omega
    subst this
    rfl
  | n + 1, h => by
    by_cases e : k0 = n + 1
    · subst e
      have h1 : sumTo (n + 1) (fun k => f (skip (n + 1) k)) = sumTo (n + 1) f := sumTo_eq fun k hk => by
        show f (if k < n + 1 then k else k + 1) = f k
        rw [if_pos hk]
      show sumTo (n + 1) f + f (n + 1) = _
      rw [h1]
    · have ih := sum_skip (f := f) (k0 := k0) (n := n) (by omega)
      show sumTo (n + 1) f + f (n + 1) = (sumTo n (fun k => f (skip k0 k)) + f (skip k0 n)) + f k0
      rw [ih]
      have : skip k0 n = n + 1 := by
        show (if n < k0 then n else n + 1) = _
        rw [if_neg (by omega)]
      rw [this]
      omega
theorem pre_split {p : Int} {w m : Nat} {b : Nat → V} {v : V} (h : Sp p w (Pre b (m + 1)) v) : ∃ c u, Sp p w (Pre b m) u ∧ ∀ i, i < w → p ∣ v i - (u i + c * b m i) :=
  Sp.split (h.mono fun x ⟨j, hj, e⟩ => by
    by_cases z : j = m
    · subst z; exact .inl e
    · exact .inr ⟨j, by omega, e⟩)
theorem steinitz {p : Int} {w : Nat} (hp : 1 < p) (inv : ∀ a : Int, ¬ p ∣ a → ∃ b, p ∣ b * a - 1) : ∀ (m : Nat) (b : Nat → V) (n : Nat) (c : Nat → V), Ind p w n c → (∀ k, k < n → Sp p w (Pre b m) (c k)) → n ≤ m
  | 0, b, n, c, hI, hS => by
    apply Classical.byContradiction
    intro hn
    have h0 : 0 < n := by omega
    have hz : ∀ i, i < w → p ∣ c 0 i := fun i hi => (hS 0 h0).at0 hi fun s ⟨j, hj, _⟩ => absurd hj (Nat.not_lt_zero _)
    have := hI (fun k => if k = 0 then 1 else 0) (fun i hi => sumTo_dv fun k hk => by
      by_cases e : k = 0
      · subst e
        show p ∣ (if 0 = 0 then 1 else 0) * c 0 i
        rw [if_pos rfl, Int.one_mul]
        exact hz i hi
      · show p ∣ (if k = 0 then 1 else 0) * c k i
        rw [if_neg e, Int.zero_mul]
        exact dv0 p) 0 h0
    have h1 : p ∣ 1 := this
    have := Int.le_of_dvd (by decide) h1
    omega
  | m + 1, b, n, c, hI, hS => by
    have hex : ∀ k : Nat, ∃ au : Int × V, k < n → Sp p w (Pre b m) au.2 ∧ ∀ i, i < w → p ∣ c k i - (au.2 i + au.1 * b m i) := fun k => by
      by_cases hk : k < n
      · obtain ⟨a, u, h1, h2⟩ := pre_split (hS k hk)
        exact ⟨(a, u), fun _ => ⟨h1, h2⟩⟩
      · exact ⟨(0, fun _ => 0), fun h => absurd h hk⟩
    obtain ⟨au, hau⟩ := Classical.axiomOfChoice hex
    by_cases hall : ∀ k, k < n → p ∣ (au k).1
    · have := steinitz hp inv m b n c hI fun k hk => (hau k hk).1.congr fun i hi => dvOf (dvAdd ((hau k hk).2 i hi) (dvMul (b m i) (hall k hk))) (by rw [Int.mul_comm (b m i)]; omega)
      omega
    · obtain ⟨k0, hk0⟩ := Classical.not_forall.mp hall
      obtain ⟨hk0, hna⟩ := Classical.not_imp.mp hk0
      obtain ⟨t, ht⟩ := inv _ hna
      obtain ⟨n', rfl⟩ : ∃ n', n = n' + 1 := ⟨n - 1, by omega⟩
      have hsk : ∀ k, k < n' → skip k0 k < n' + 1 ∧ skip k0 k ≠ k0 := fun k hk => by
        unfold skip
        split <;> omega
      have := steinitz (w := w) hp inv m b n' (fun k i => c (skip k0 k) i - (au (skip k0 k)).1 * t * c k0 i) ?_ ?_
      · omega
      · intro e he k hk
        let e2 : Nat → Int := fun j => if j = k0 then - sumTo n' (fun k => e k * ((au (skip k0 k)).1 * t)) else if j < k0 then e j else e (j - 1)
        have hes : ∀ k, k < n' → e2 (skip k0 k) = e k := fun k hk => by
          show (if skip k0 k = k0 then _ else if skip k0 k < k0 then e (skip k0 k) else e (skip k0 k - 1)) = e k
          rw [if_neg (hsk k hk).2]
          unfold skip
          by_cases z : k < k0
          · rw [if_pos z, if_pos z]
          · rw [if_neg z, if_neg (by omega)]
            rfl
        have h0 : e2 k0 = - sumTo n' (fun k => e k * ((au (skip k0 k)).1 * t)) := if_pos rfl
        have hr := hI e2 (fun i hi => by
          have h1 := he i hi
          rw [sum_skip (k0 := k0) (by omega)]
          have h2 : sumTo n' (fun k => e2 (skip k0 k) * c (skip k0 k) i) = sumTo n' (fun k => e k * c (skip k0 k) i) := sumTo_eq fun k hk => by rw [hes k hk]
          rw [h2, h0]
          have h3 : sumTo n' (fun k => e k * (c (skip k0 k) i - (au (skip k0 k)).1 * t * c k0 i)) = sumTo n' (fun k => e k * c (skip k0 k) i) - c k0 i * sumTo n' (fun k => e k * ((au (skip k0 k)).1 * t)) := by
            rw [← sumTo_mul, ← sumTo_sub]
            exact sumTo_eq fun k hk => by rw [Int.mul_sub, ← Int.mul_assoc (e k), Int.mul_comm (c k0 i)]
          rw [h3] at h1
          exact dvOf h1 (by rw [Int.neg_mul, Int.mul_comm (c k0 i)]; omega)) (skip k0 k) (hsk k hk).1
        rw [hes k hk] at hr
        exact hr
      · intro k hk
        have h1 := hau (skip k0 k) (hsk k hk).1
        have h2 := hau k0 hk0
        refine (Sp.sum h1.1 (Sp.smul (-((au (skip k0 k)).1 * t)) h2.1)).congr fun i hi => ?_
        have a1 := h1.2 i hi
        have a2 := dvMul ((au (skip k0 k)).1 * t) (h2.2 i hi)
        have a3 := dvMul ((au (skip k0 k)).1 * b m i) ht
        show p ∣ (c (skip k0 k) i - (au (skip k0 k)).1 * t * c k0 i) - ((au (skip k0 k)).2 i + -((au (skip k0 k)).1 * t) * (au k0).2 i)
        generalize (au (skip k0 k)).1 = a at *
        generalize (au k0).1 = a0 at *
        generalize (au (skip k0 k)).2 i = u1 at *
        generalize (au k0).2 i = u0 at *
        generalize c (skip k0 k) i = c1 at *
        generalize c k0 i = c0 at *
        generalize b m i = bm at *
        have e1 : a * t * (c0 - (u0 + a0 * bm)) = a * t * c0 - a * t * u0 - a * t * (a0 * bm) := by rw [Int.mul_sub, Int.mul_add]; omega
        have e2 : a * bm * (t * a0 - 1) = a * t * (a0 * bm) - a * bm := by
          rw [Int.mul_sub, Int.mul_one]
          congr 1
          rw [Int.mul_assoc, Int.mul_assoc, Int.mul_left_comm bm, Int.mul_comm bm]
        rw [e1] at a2
        rw [e2] at a3
        rw [Int.neg_mul]
        exact dvOf (dvSub (dvSub a1 a2) a3) (by omega)
/-- staggered rows stand alone -/
theorem stag_ind {p : Int} {w : Nat} : ∀ {rows : List (Nat × V)}, Stag p rows → (∀ a ∈ rows, a.1 < w) → Ind p w rows.length (fun k => (rows.getD k (0, fun _ => 0)).2)
  | [], _, _ => fun e _ k hk => absurd hk (Nat.not_lt_zero _)
  | (q, r) :: rest, ⟨h1, h0, hs⟩, hq => by
    intro e he
    have hqw : q < w := hq (q, r) (by simp)
    have hsum : ∀ i, sumTo (rest.length + 1) (fun k => e k * (((q, r) :: rest).getD k (0, fun _ => 0)).2 i) = sumTo rest.length (fun k => e (k + 1) * (rest.getD k (0, fun _ => 0)).2 i) + e 0 * r i := fun i => by
      rw [sum_skip (k0 := 0) (by omega)]
      rfl
    have hz : p ∣ sumTo rest.length (fun k => e (k + 1) * (rest.getD k (0, fun _ => 0)).2 q) := sumTo_dv fun k hk => dvMul _ (h0 _ (by
      rw [List.getD_eq_getElem?_getD, List.getElem?_eq_getElem hk]
      exact List.getElem_mem hk))
    have he0 : p ∣ e 0 := by
      have := he q hqw
      rw [List.length_cons, hsum] at this
      have a := dvMul (e 0) h1
      rw [Int.mul_sub] at a
      exact dvOf (dvSub (dvSub this hz) a) (by omega)
    intro k hk
    cases k with
    | zero => exact he0
    | succ k =>
      refine stag_ind hs (fun a ha => hq a (List.mem_cons_of_mem _ ha)) (fun k => e (k + 1)) (fun i hi => ?_) k (by simpa using hk)
      have := he i hi
      rw [List.length_cons, hsum] at this
      show p ∣ sumTo rest.length (fun k => e (k + 1) * (rest.getD k (0, fun _ => 0)).2 i)
      exact dvOf (dvSub this (dvOf (dvMul (r i) he0) (Int.mul_comm _ _))) (by omega)
theorem rs_pre {rows : List (Nat × V)} : ∀ x, RS rows x ↔ Pre (fun k => (rows.getD k (0, fun _ => 0)).2) rows.length x := fun x => by
  constructor
  · rintro ⟨q, h⟩
    obtain ⟨j, hj, e⟩ := List.getElem_of_mem h
    exact ⟨j, hj, by show x = (rows.getD j (0, fun _ => 0)).2; rw [List.getD_eq_getElem?_getD, List.getElem?_eq_getElem hj, e]; rfl⟩
  · rintro ⟨j, hj, e⟩
    refine ⟨(rows[j]).1, ?_⟩
    have e : x = (rows.getD j (0, fun _ => 0)).2 := e
    rw [List.getD_eq_getElem?_getD, List.getElem?_eq_getElem hj] at e
    rw [e]
    exact List.getElem_mem hj
/-- as many rows, whichever make the same -/
theorem stag_le {p : Int} {w : Nat} (hp : 1 < p) (inv : ∀ a : Int, ¬ p ∣ a → ∃ b, p ∣ b * a - 1) {A B : List (Nat × V)} (hA : Stag p A) (hqA : ∀ a ∈ A, a.1 < w) (h : ∀ x, RS A x → Sp p w (RS B) x) : A.length ≤ B.length :=
  steinitz hp inv B.length (fun k => (B.getD k (0, fun _ => 0)).2) A.length _ (stag_ind hA hqA) fun k hk => (h _ ((rs_pre _).mpr ⟨k, hk, rfl⟩)).mono fun x hx => (rs_pre x).mp hx
end Lin
namespace Ev
open PySem L2
/-! ### the law's own rank, by pops -/
theorem law_inv_ok {p v : Int} (hpp : p ∈ primes) (h0 : 0 < v) (h1 : v < p) : WF (F_law_inverse [.sh (.int p), .sh (.int v)]) fun r o => ∃ t : Int, r = .d (.int t) ∧ o = [.un, .un] ∧ 0 < t ∧ t < p ∧ (t * v) % p = 1 := by
  obtain ⟨hp1, hp2⟩ := primes_lt hpp
  refine wf_fn (ws_cons (ws_for (W.of (a := [.d (.int p)]) (ρ := ⟨[.sh (.int p), .sh (.int v), .un], [.un, .un]⟩) rfl ⟨[.int p], _, rfl, range1_ok (by omega) (by omega), fun j ρ => ∃ s, ρ = ⟨[.sh (.int p), .sh (.int v), s], [.un, .un]⟩ ∧ ∀ i : Nat, i < j → ¬ v * (i : Int) % p = 1, ⟨.un, rfl, fun i hi => absurd hi (Nat.not_lt_zero _)⟩, ?_, ?_⟩)))
  · rintro j x ρ2 hx ⟨s, rfl, hs⟩
    obtain ⟨hj, rfl⟩ := upFrom_get _ _ _ _ hx
    have hjp : (j : Int) < p := by omega
    rw [Int.zero_add]
    have hm : fMul [.int v, .int (j : Int)] = some (.d (.int (v * (j : Int)))) := mul_ok (mulOk_l (by omega) (by omega))
    have hmod : fMod [.int (v * (j : Int)), .int p] = some (.d (.int (v * (j : Int) % p))) := mod_ok (by omega)
    have heq := eq_int (v * (j : Int) % p) 1
    obtain ⟨ji, hji⟩ : ∃ ji : Int, ji = (j : Int) := ⟨_, rfl⟩
    rw [← hji] at hm hmod heq hjp ⊢
    refine ⟨⟨[.sh (.int p), .sh (.int v), .sh (.int ji)], [.un, .un]⟩, bnd_free rfl rfl, ?_⟩
    refine ws_cons (ws_ite (wt_eb (w_prim (wa_cons (w_prim (wa_cons (w_prim (wa_cons (w_prim (W.of (a := [.d (.int v), .d (.int ji)]) (ρ := ⟨[.sh (.int p), .sh (.int v), .sh (.int ji)], [.un, .un]⟩) rfl ⟨[.int v, .int ji], .d (.int (v * ji)), rfl, hm, wa_nil ⟨[.int (v * ji)], .d (.int (v * ji)), rfl, rfl, ?_⟩⟩))))))))))
    refine W.of (a := [.d (.int p)]) (ρ := ⟨[.sh (.int p), .sh (.int v), .sh (.int ji)], [.un, .un]⟩) rfl ⟨[.int (v * ji), .int p], .d (.int (v * ji % p)), rfl, hmod, ?_⟩
    refine W.of (a := [.d (.int 1)]) (ρ := ⟨[.sh (.int p), .sh (.int v), .sh (.int ji)], [.un, .un]⟩) rfl ⟨[.int (v * ji % p), .int 1], _, rfl, heq, _, rfl, fun hb => ?_, fun hb => ?_⟩
    · have hb := of_decide_eq_true hb
      have hj0 : ji ≠ 0 := fun e => by
        rw [e, Int.mul_zero, Int.zero_emod] at hb
        omega
      refine ws_cons (ws_ret (W.of (a := .d (.int ji)) rfl ⟨.d (.int ji), _, rfl, ji, rfl, ?_, by omega, by omega, by rw [Int.mul_comm]; exact hb⟩))
      rw [unlocks0 fun i => rfl]
      rfl
    · have hb := of_decide_eq_false hb
      refine ws_nil (ws_nil ⟨_, rfl, fun i hi => ?_⟩)
      by_cases e : i = j
      · rw [e, ← hji]; exact hb
      · exact hs i (by omega)
  · rintro ρ2 ⟨s, rfl, hs⟩
    obtain ⟨t, _, t0, t1, ht⟩ := inverse_ok hpp h0 h1
    rw [upFrom_length] at hs
    have := hs t.toNat (by omega)
    rw [show ((t.toNat : Nat) : Int) = t by omega, Int.mul_comm] at this
    exact absurd ht this
theorem less_ok {p k : Int} {a b : List Int} (hp : 0 < p) (hp2 : p < 1000) (hk : 0 ≤ k ∧ k < 1000) (ha : a.length ≤ 1000) :
    WF (F_law_less [.sh (.int p), .sh (.lst (vec a)), .sh (.int k), .sh (.lst (vec b))]) fun r o => r = .nw (vec (sub p k a b)) ∧ o = [.un, .un, .un, .un] := by
  have core : ∀ (j : Nat) (x y : D), (zipD (vec a) (vec b))[j]? = some x → (vec (sub p k a b))[j]? = some y → ∃ ρ3, (Tg.t [4, 5]).set ⟨[.sh (.int p), .sh (.lst (vec a)), .sh (.int k), .sh (.lst (vec b)), .un, .un], [.un, .un, .un, .un]⟩ x = some ρ3 ∧ W (evE (.prim fMod (.cons (.prim fInt (.cons (.prim fSub (.cons (.var 4) (.cons (.prim fMul (.cons (.var 2) (.cons (.var 5) .nil))) .nil))) (.nil))) (.cons (.var 0) .nil))) ρ3) fun b' ρ5 => ∃ ρ6, b'.keep ρ5 = some (y, ρ6) ∧ wipeE ρ6 [4, 5] = ⟨[.sh (.int p), .sh (.lst (vec a)), .sh (.int k), .sh (.lst (vec b)), .un, .un], [.un, .un, .un, .un]⟩ := fun j x y hx hy => by
    obtain ⟨j1, j2, rfl⟩ := zip_vec hx
    obtain ⟨_, rfl⟩ := vec_get hy
    rw [sub_at j1 j2]
    have hm : fMul [.int k, .int (b.getD j 0)] = some (.d (.int (k * b.getD j 0))) := mul_ok (mulOk_l (by omega) (by omega))
    generalize a.getD j 0 = u
    generalize b.getD j 0 = v at hm
    have hd : fMod [.int (u - k * v), .int p] = some (.d (.int ((u - k * v) % p))) := mod_ok hp
    generalize k * v = z at hm hd
    refine ⟨⟨[.sh (.int p), .sh (.lst (vec a)), .sh (.int k), .sh (.lst (vec b)), .sh (.int u), .sh (.int v)], [.un, .un, .un, .un]⟩, rfl, ?_⟩
    refine w_prim (wa_cons (w_prim (wa_cons (w_prim (wa_cons (W.of (a := .d (.int u)) (ρ := ⟨[.sh (.int p), .sh (.lst (vec a)), .sh (.int k), .sh (.lst (vec b)), .sh (.int u), .sh (.int v)], [.un, .un, .un, .un]⟩) rfl (wa_cons (w_prim (W.of (a := [.d (.int k), .d (.int v)]) (ρ := ⟨[.sh (.int p), .sh (.lst (vec a)), .sh (.int k), .sh (.lst (vec b)), .sh (.int u), .sh (.int v)], [.un, .un, .un, .un]⟩) rfl ⟨[.int k, .int v], .d (.int z), rfl, hm, wa_nil ⟨[.int u, .int z], .d (.int (u - z)), rfl, rfl, wa_nil ⟨[.int (u - z)], .d (.int (u - z)), rfl, rfl, ?_⟩⟩⟩)))))))))
    exact W.of (a := [.d (.int p)]) (ρ := ⟨[.sh (.int p), .sh (.lst (vec a)), .sh (.int k), .sh (.lst (vec b)), .sh (.int u), .sh (.int v)], [.un, .un, .un, .un]⟩) rfl ⟨[.int (u - z), .int p], _, rfl, hd, _, rfl, rfl⟩
  exact wf_fn (ws_cons (ws_ret (w_lcm (W.of (a := [.d (.lst (vec a)), .d (.lst (vec b))]) (ρ := ⟨[.sh (.int p), .sh (.lst (vec a)), .sh (.int k), .sh (.lst (vec b)), .un, .un], [.un, .un, .un, .un]⟩) rfl ⟨[.lst (vec a), .lst (vec b)], _, rfl, rfl, ⟨by rw [zip_vec_len, sizeLine_eq]; omega, rfl, rfl⟩, vec (sub p k a b), by rw [zip_vec_len, vec_len, sub_len], core, .nw (vec (sub p k a b)), _, rfl, rfl, rfl⟩))))
theorem enum_mat (A : List (List Int)) : enumD 0 (matD A) = (List.range A.length).map fun i : Nat => D.tup [.int (i : Int), .lst (vec (A.getD i []))] := by
  refine List.ext_getElem? fun j => ?_
  rw [List.getElem?_map]
  by_cases h : j < A.length
  · rw [List.getElem?_range h]
    have hl : j < (enumD 0 (matD A)).length := by rw [enumD_length, matD_len]; exact h
    obtain ⟨a, ha, e⟩ := enumD_get _ _ _ _ (List.getElem?_eq_getElem hl)
    rw [matD_at h] at ha
    cases ha
    rw [List.getElem?_eq_getElem hl, e, Int.zero_add]
    rfl
  · rw [List.getElem?_eq_none (by rw [enumD_length, matD_len]; omega), List.getElem?_eq_none (by rw [List.length_range]; omega)]
    rfl
end Ev
namespace Ev
open PySem L2
/-! ### elimination by pops: what stays true -/
def TA (A : List (List Int)) (R : List (Nat × Lin.V)) : Lin.V → Prop := fun x => Lin.RS R x ∨ ∃ v ∈ A, x = co v
structure RI (p : Int) (w : Nat) (S : List (List Int)) (j : Nat) (A : List (List Int)) (R : List (Nat × Lin.V)) : Prop where
  g : ∀ v ∈ A, v.length = w ∧ Rg p v ∧ ∀ i, i < j → v.getD i 0 = 0
  s : Lin.Stag p R
  q : ∀ a ∈ R, a.1 < j
  a : ∀ k, k < S.length → Lin.Sp p w (TA A R) (row S k)
  b : ∀ x, TA A R x → Lin.Sp p w (Lin.Pre (row S) S.length) x
  n : A.length + R.length ≤ S.length
section
variable {p : Int} {w j : Nat} {S A : List (List Int)} {R : List (Nat × Lin.V)}
theorem RI.start (hS : ∀ s ∈ S, s.length = w ∧ Rg p s) : RI p w S 0 S [] where
  g := fun v hv => ⟨(hS v hv).1, (hS v hv).2, fun i hi => absurd hi (Nat.not_lt_zero _)⟩
  s := trivial
  q := fun a ha => by cases ha
  a := fun k hk => Lin.Sp.mem (.inr ⟨S[k], List.getElem_mem hk, row_of (List.getElem?_eq_getElem hk)⟩)
  b := fun x hx => by
    rcases hx with ⟨q, h⟩ | ⟨v, hv, rfl⟩
    · cases h
    · obtain ⟨k, hk, e⟩ := List.getElem_of_mem hv
      exact Lin.Sp.mem ⟨k, hk, by rw [row_of (List.getElem?_eq_getElem hk), e]⟩
  n := by simp
theorem RI.skip (h : RI p w S j A R) (hz : ∀ v ∈ A, v.getD j 0 = 0) : RI p w S (j + 1) A R where
  g := fun v hv => ⟨(h.g v hv).1, (h.g v hv).2.1, fun i hi => by
    by_cases e : i = j
    · rw [e]; exact hz v hv
    · exact (h.g v hv).2.2 i (by omega)⟩
  s := h.s
  q := fun a ha => Nat.lt_succ_of_lt (h.q a ha)
  a := h.a
  b := h.b
  n := h.n
theorem mem_erase {α : Type} {A : List α} {ix : Nat} {v : α} (h : ix < A.length) (hv : v ∈ A) : v = A[ix] ∨ v ∈ A.eraseIdx ix := by
  obtain ⟨k, hk, e⟩ := List.getElem_of_mem hv
  by_cases z : k = ix
  · subst z; exact .inl e.symm
  · exact .inr (List.mem_eraseIdx_iff_getElem.mpr ⟨k, hk, z, e⟩)
def popped (p t : Int) (j : Nat) (A : List (List Int)) (lead : List Int) : List (List Int) := A.map fun v => sub p (v.getD j 0 * t % p) v lead
theorem RI.step {ix : Nat} {t : Int} (h : RI p w S j A R) (hp : 1 < p) (hj : j < w) (hix : ix < A.length) (ht : t * (A[ix]).getD j 0 % p = 1) :
    RI p w S (j + 1) (popped p t j (A.eraseIdx ix) A[ix]) (R ++ [(j, fun i => t * co A[ix] i)]) := by
  have hL := h.g A[ix] (List.getElem_mem hix)
  generalize hld : A[ix] = lead at hL ht ⊢
  have hlA : lead ∈ A := hld ▸ List.getElem_mem hix
  have ht1 : p ∣ t * co lead j - 1 := dv_of_mod ht
  have hk : ∀ v : List Int, p ∣ (v.getD j 0 * t % p) - v.getD j 0 * t := fun v => dv_mod _ _
  have hvA : ∀ v ∈ A.eraseIdx ix, v ∈ A := fun v hv => List.mem_of_mem_eraseIdx hv
  have hsub : ∀ v ∈ A.eraseIdx ix, ∀ i, i < w → p ∣ co (sub p (v.getD j 0 * t % p) v lead) i - (co v i - (v.getD j 0 * t % p) * co lead i) := fun v hv i hi => by
    rw [co_eq, sub_at (by rw [(h.g v (hvA v hv)).1]; exact hi) (by rw [hL.1]; exact hi)]
    exact dv_mod _ _
  have hin : ∀ v ∈ A.eraseIdx ix, TA (popped p t j (A.eraseIdx ix) lead) (R ++ [(j, fun i => t * co lead i)]) (co (sub p (v.getD j 0 * t % p) v lead)) := fun v hv => .inr ⟨_, List.mem_map.mpr ⟨v, hv, rfl⟩, rfl⟩
  have hlead : Lin.Sp p w (TA (popped p t j (A.eraseIdx ix) lead) (R ++ [(j, fun i => t * co lead i)])) (co lead) :=
    (Lin.Sp.smul (co lead j) (Lin.Sp.mem (s := fun i => t * co lead i) (.inl ⟨j, by simp⟩))).congr fun i hi => Lin.dvOf (Lin.dvMul (-(co lead i)) ht1) (by
      have : co lead j * (t * co lead i) = co lead i * (t * co lead j) := by rw [Int.mul_left_comm, Int.mul_comm (co lead j), Int.mul_left_comm]
      show co lead i - co lead j * (t * co lead i) = _
      rw [this, Int.neg_mul, Int.mul_sub, Int.mul_one]
      omega)
  refine ⟨fun v' hv' => ?_, ?_, fun a ha => ?_, fun k hk' => ?_, fun x hx => ?_, ?_⟩
  · obtain ⟨v, hv, rfl⟩ := List.mem_map.mp hv'
    have hvg := h.g v (hvA v hv)
    refine ⟨by rw [sub_len, hvg.1, hL.1, Nat.min_self], sub_rg (by omega), fun i hi => ?_⟩
    rw [sub_at (by rw [hvg.1]; omega) (by rw [hL.1]; omega)]
    by_cases e : i = j
    · subst e
      refine Int.emod_eq_zero_of_dvd ?_
      have a1 := Lin.dvMul (lead.getD i 0) (hk v)
      have a2 := Lin.dvMul (v.getD i 0) ht1
      rw [co_eq] at a2
      generalize v.getD i 0 * t % p = k at a1
      generalize v.getD i 0 = vi at *
      generalize lead.getD i 0 = c at *
      rw [Int.mul_sub] at a1 a2
      have e3 : c * (vi * t) = vi * (t * c) := by rw [Int.mul_left_comm, Int.mul_comm c]
      rw [e3] at a1
      exact Lin.dvOf (Lin.dvMul (-1) (Lin.dvAdd a1 a2)) (by rw [Int.mul_comm k]; omega)
    · rw [hvg.2.2 i (by omega), hL.2.2 i (by omega), Int.mul_zero]
      rfl
  · refine Lin.stag_snoc ht1 h.s fun a ha => ?_
    show p ∣ t * co lead a.1
    rw [co_eq, hL.2.2 _ (h.q a ha), Int.mul_zero]
    exact Lin.dv0 p
  · rcases List.mem_append.mp ha with ha | ha
    · exact Nat.lt_succ_of_lt (h.q a ha)
    · have : a = (j, fun i => t * co lead i) := by simpa using ha
      rw [this]
      exact Nat.lt_succ_self j
  · refine Lin.Sp.trans (fun x hx => ?_) (h.a k hk')
    rcases hx with ⟨q, hq⟩ | ⟨v, hv, rfl⟩
    · exact Lin.Sp.mem (.inl ⟨q, List.mem_append_left _ hq⟩)
    · rcases mem_erase hix hv with e | hv
      · rw [e, hld]
        exact hlead
      · exact (Lin.Sp.sum (Lin.Sp.mem (hin v hv)) (Lin.Sp.smul (v.getD j 0 * t % p) hlead)).congr fun i hi => Lin.dvOf (Lin.dvMul (-1) (hsub v hv i hi)) (by omega)
  · rcases hx with ⟨q, hq⟩ | ⟨v', hv', rfl⟩
    · rcases List.mem_append.mp hq with hq | hq
      · exact h.b x (.inl ⟨q, hq⟩)
      · have : x = fun i => t * co lead i := by
          have : (q, x) = (j, fun i => t * co lead i) := by simpa using hq
          exact (Prod.mk.inj this).2
        rw [this]
        exact Lin.Sp.smul t (h.b _ (.inr ⟨lead, hlA, rfl⟩))
    · obtain ⟨v, hv, rfl⟩ := List.mem_map.mp hv'
      exact (Lin.Sp.sum (h.b _ (.inr ⟨v, hvA v hv, rfl⟩)) (Lin.Sp.smul (-(v.getD j 0 * t % p)) (h.b _ (.inr ⟨lead, hlA, rfl⟩)))).congr fun i hi => Lin.dvOf (hsub v hv i hi) (by rw [Int.neg_mul]; omega)
  · unfold popped
    have := h.n
    rw [List.length_map, List.length_eraseIdx, if_pos hix, List.length_append]
    simp
    omega
/-- as many as any staggered rows that make the same -/
theorem RI.end {rows : List (Nat × List Int)} (h : RI p w S w A R) (hpp : p ∈ primes) (f : Found p w w (row S) S.length rows) : R.length = rows.length := by
  obtain ⟨hp1, hp2⟩ := primes_lt hpp
  have hl : (absR rows).length = rows.length := List.length_map ..
  have h1 : ∀ x, Lin.RS R x → Lin.Sp p w (Lin.RS (absR rows)) x := fun x hx => Lin.Sp.trans (fun y ⟨k, hk, e⟩ => by rw [e]; exact f.t.a k hk) (h.b x (.inl hx))
  have h2 : ∀ x, Lin.RS (absR rows) x → Lin.Sp p w (Lin.RS R) x := fun x hx => by
    refine Lin.Sp.trans (fun y hy => ?_) (Lin.Sp.trans (fun y ⟨k, hk, e⟩ => by rw [e]; exact h.a k hk) (Lin.Sp.mono Lin.ts_pre (f.t.b x hx)))
    rcases hy with hy | ⟨v, hv, rfl⟩
    · exact Lin.Sp.mem hy
    · exact .zero fun i hi => by rw [co_eq, (h.g v hv).2.2 i hi]; exact Lin.dv0 p
  have a1 := Lin.stag_le hp1 (prime_inv hpp) h.s h.q h1
  have a2 := Lin.stag_le hp1 (prime_inv hpp) f.r.s f.qs h2
  omega
end
end Ev
namespace Ev
open PySem L2
def rkF (p : Int) (S A : List (List Int)) (f : Int) (s4 s5 s6 s7 : Slot) : Env := ⟨[.sh (.int p), .ow (sumsD S), .ow (matD A), .sh (.int f), s4, s5, s6, s7, .un, .un], [.un, .att]⟩
def rkBody : Ss := match ir_law_rank with
  | .cons _ (.cons (.for _ _ _ b) _) => b
  | _ => .nil
def nzs (A : List (List Int)) (j : Nat) : List Nat := (List.range A.length).filter fun i => !decide ((A.getD i []).getD j 0 = 0)
section
variable {p : Int} {w j : Nat} {S A : List (List Int)} {R : List (Nat × Lin.V)} {s4 s5 s6 s7 : Slot} {rt : B → Env → Prop} {bk : Env → Prop}
theorem map_erase {α β : Type} (f : α → β) : ∀ (A : List α) (i : Nat), (A.map f).eraseIdx i = (A.eraseIdx i).map f
  | [], _ => rfl
  | a :: A, 0 => rfl
  | a :: A, i + 1 => by
    show f a :: (A.map f).eraseIdx i = f a :: (A.eraseIdx i).map f
    rw [map_erase f A i]
theorem getD_at {A : List (List Int)} {i : Nat} (h : i < A.length) : A.getD i [] = A[i] := by rw [List.getD_eq_getElem?_getD, List.getElem?_eq_getElem h]; rfl
theorem rk_turn {f ji : Int} (hpp : p ∈ primes) (hw : w ≤ 1000) (hSn : S.length ≤ 1000) (h : RI p w S j A R) (hj : j < w) (hji : ji = j) (hf : f = (R.length : Int)) :
    WS (evSs rkBody (rkF p S A f (.sh (.int ji)) s5 s6 s7)) (fun ρ => ∃ A' R' f' s5 s6 s7, ρ = rkF p S A' f' (.sh (.int ji)) s5 s6 s7 ∧ RI p w S (j + 1) A' R' ∧ f' = (R'.length : Int)) rt bk := by
  obtain ⟨hp1, hp2⟩ := primes_lt hpp
  have hAn : A.length ≤ 1000 := by have := h.n; omega
  have hAg : ∀ i, i < A.length → (A.getD i []).length = w ∧ Rg p (A.getD i []) := fun i hi => by
    rw [getD_at hi]
    exact ⟨(h.g _ (List.getElem_mem hi)).1, (h.g _ (List.getElem_mem hi)).2.1⟩
  refine ws_cons (ws_asgV (w_lcfL (l := List.range A.length) (g := fun i : Nat => D.tup [.int (i : Int), .lst (vec (A.getD i []))]) (e := fun i : Nat => D.int (i : Int)) (q := fun i => !decide ((A.getD i []).getD j 0 = 0)) (W.of (a := [.loc 2]) (ρ := rkF p S A f (.sh (.int ji)) s5 s6 s7) rfl ⟨[.lst (matD A)], rfl, by show some (enumD 0 (matD A)) = _; rw [enum_mat], ⟨by rw [List.length_range, sizeLine_eq]; omega, rfl, rfl⟩, fun i hi => ?_, ?_⟩)))
  · rw [locks1 (xs := matD A) rfl]
    have hi := List.mem_range.mp hi
    have hx := hAg i hi
    have hix : fIx [.lst (vec (A.getD i [])), .int ji] = some (.d (.int ((A.getD i []).getD j 0))) := by rw [hji]; exact ix_lst (vec_at (by rw [hx.1]; exact hj))
    generalize hv : A.getD i [] = v at hix
    generalize hz : v.getD j 0 = z at hix
    generalize (i : Int) = ii
    refine ⟨⟨[.sh (.int p), .ow (sumsD S), .lk (matD A), .sh (.int f), .sh (.int ji), s5, s6, s7, .sh (.lst (vec v)), .sh (.int ii)], [.un, .att]⟩, set_t2 rfl rfl rfl rfl, ?_⟩
    refine wt_eb (w_prim (wa_cons (w_prim (W.of (a := [.d (.lst (vec v)), .d (.int ji)]) (ρ := ⟨[.sh (.int p), .ow (sumsD S), .lk (matD A), .sh (.int f), .sh (.int ji), s5, s6, s7, .sh (.lst (vec v)), .sh (.int ii)], [.un, .att]⟩) rfl ⟨[.lst (vec v), .int ji], .d (.int z), rfl, hix, ?_⟩))))
    exact W.of (a := [.d (.int 0)]) (ρ := ⟨[.sh (.int p), .ow (sumsD S), .lk (matD A), .sh (.int f), .sh (.int ji), s5, s6, s7, .sh (.lst (vec v)), .sh (.int ii)], [.un, .att]⟩) rfl ⟨[.int z, .int 0], _, rfl, ne_int z 0, _, rfl, rfl, fun _ => W.of (a := .d (.int ii)) rfl ⟨_, rfl, rfl⟩, rfl⟩
  rw [locks1 (xs := matD A) rfl, unlocks1 (xs := matD A) (ys := matD A) rfl rfl]
  show _ ∧ ∃ ρ3, bindB _ 5 (.nw (nats (nzs A j))) = some ρ3 ∧ _
  refine ⟨rfl, rkF p S A f (.sh (.int ji)) (.ow (nats (nzs A j))) s6 s7, bnd_free rfl rfl, ?_⟩
  cases hnz : nzs A j with
  | nil =>
    have hz : ∀ v ∈ A, v.getD j 0 = 0 := fun v hv => by
      obtain ⟨k, hk, e⟩ := List.getElem_of_mem hv
      apply Classical.byContradiction
      intro hn
      have : k ∈ nzs A j := List.mem_filter.mpr ⟨List.mem_range.mpr hk, by rw [getD_at hk, e, decide_eq_false hn]; rfl⟩
      rw [hnz] at this
      cases this
    refine ws_cons (ws_ite (W.of (a := false) (ρ := rkF p S A f (.sh (.int ji)) (.ow (nats [])) s6 s7) rfl ⟨fun z => absurd z (by decide), fun _ => ws_nil (ws_nil ⟨A, R, f, _, _, _, rfl, h.skip hz, hf⟩)⟩))
  | cons ix rest =>
    have hixm : ix ∈ nzs A j := by rw [hnz]; simp
    have hix : ix < A.length := List.mem_range.mp (List.mem_filter.mp hixm).1
    have hne : (A[ix]).getD j 0 ≠ 0 := fun e => by
      have := (List.mem_filter.mp hixm).2
      rw [getD_at hix, e] at this
      simp at this
    have hLg := h.g A[ix] (List.getElem_mem hix)
    have hpop : mPopAt (matD A) [.int (ix : Int)] = some (matD (A.eraseIdx ix), .lst (vec A[ix])) := by
      show (if (matD A).length ≤ sizeLine then match ixN (matD A).length (ix : Int) with
        | none => none
        | some j => match (matD A)[j]? with
          | none => none
          | some d => some ((matD A).eraseIdx j, d) else none) = _
      rw [if_pos (by rw [matD_len, sizeLine_eq]; omega), matD_len, ixN_ok hix]
      show (match (matD A)[ix]? with | none => none | some d => some ((matD A).eraseIdx ix, d)) = _
      rw [matD_at hix, getD_at hix]
      unfold matD
      rw [map_erase]
    have hlen : fLen [.lst (nats (ix :: rest))] = some (.d (.int (((ix :: rest).length : Nat) : Int))) := by rw [len_lst, nats_len]
    have hpos : (0 : Int) < (((ix :: rest).length : Nat) : Int) := by simp
    have hi0 : fIx [.lst (nats (ix :: rest)), .int 0] = some (.d (.int (ix : Int))) := ix_lst (i := 0) (d := .int (ix : Int)) rfl
    generalize (((ix :: rest).length : Nat) : Int) = li at hlen hpos
    generalize hLL : nats (ix :: rest) = LL at hlen hi0
    generalize hixi : (ix : Int) = ii at hpop hi0
    refine ws_cons (ws_ite (wt_eb (w_prim (wa_cons (w_prim (W.of (a := [.loc 5]) (ρ := rkF p S A f (.sh (.int ji)) (.ow LL) s6 s7) rfl ⟨[.lst LL], .d (.int li), rfl, hlen, W.of (a := [.d (.int 0)]) (ρ := rkF p S A f (.sh (.int ji)) (.ow LL) s6 s7) rfl ⟨[.int li, .int 0], .d (.bl (decide (li > 0))), rfl, rfl, _, rfl, fun _ => ?_, fun z => absurd (decide_eq_true hpos) (by rw [z]; decide)⟩⟩))))))
    generalize hlead : A[ix] = lead at hne hLg hpop
    refine ws_cons (ws_asgV (w_mut (xs0 := matD A) rfl (wd_cons (w_prim (W.of (a := [.loc 5, .d (.int 0)]) (ρ := rkF p S A f (.sh (.int ji)) (.ow LL) s6 s7) rfl ⟨[.lst LL, .int 0], .d (.int ii), rfl, hi0, .int ii, rkF p S A f (.sh (.int ji)) (.ow LL) s6 s7, rfl, wd_nil ⟨matD A, matD (A.eraseIdx ix), .lst (vec lead), rfl, hpop, rfl, rkF p S (A.eraseIdx ix) f (.sh (.int ji)) (.ow LL) (.sh (.lst (vec lead))) s7, bnd_free rfl rfl, ?_⟩⟩)))))
    have hvj := hLg.2.1.at (j := j) (by rw [hLg.1]; exact hj)
    have hixl : fIx [.lst (vec lead), .int ji] = some (.d (.int (lead.getD j 0))) := by rw [hji]; exact ix_lst (vec_at (by rw [hLg.1]; exact hj))
    refine ws_cons (ws_asgV (w_call (wa_cons (W.of (a := .d (.int p)) (ρ := rkF p S (A.eraseIdx ix) f (.sh (.int ji)) (.ow LL) (.sh (.lst (vec lead))) s7) rfl (wa_cons (w_prim (W.of (a := [.d (.lst (vec lead)), .d (.int ji)]) (ρ := rkF p S (A.eraseIdx ix) f (.sh (.int ji)) (.ow LL) (.sh (.lst (vec lead))) s7) rfl ⟨[.lst (vec lead), .int ji], .d (.int (lead.getD j 0)), rfl, hixl, wa_nil ⟨rfl, [.sh (.int p), .sh (.int (lead.getD j 0))], rfl, WF.mono (law_inv_ok hpp (by omega) hvj.2) ?_⟩⟩)))))))
    rintro r o ⟨t, rfl, rfl, t0, t1, ht⟩
    rw [back0 fun i => rfl]
    refine ⟨rfl, rkF p S (A.eraseIdx ix) f (.sh (.int ji)) (.ow LL) (.sh (.lst (vec lead))) (.sh (.int t)), bnd_free rfl rfl, ?_⟩
    have hEn : (A.eraseIdx ix).length ≤ 1000 := by rw [List.length_eraseIdx]; split <;> omega
    refine ws_cons (ws_asgV (w_lcmL (l := A.eraseIdx ix) (g := fun v => D.lst (vec v)) (e := fun v => D.lst (vec (sub p (v.getD j 0 * t % p) v lead))) (W.of (a := [.loc 2]) (ρ := rkF p S (A.eraseIdx ix) f (.sh (.int ji)) (.ow LL) (.sh (.lst (vec lead))) (.sh (.int t))) rfl ⟨[.lst (matD (A.eraseIdx ix))], rfl, rfl, ⟨by rw [sizeLine_eq]; omega, rfl, rfl⟩, fun v hv => ?_, ?_⟩)))
    · rw [locks1 (xs := matD (A.eraseIdx ix)) rfl]
      have hvg := h.g v (List.mem_of_mem_eraseIdx hv)
      have hixv : fIx [.lst (vec v), .int ji] = some (.d (.int (v.getD j 0))) := by rw [hji]; exact ix_lst (vec_at (by rw [hvg.1]; exact hj))
      have hvr := hvg.2.1.at (j := j) (by rw [hvg.1]; exact hj)
      have hm : fMul [.int (v.getD j 0), .int t] = some (.d (.int (v.getD j 0 * t))) := mul_ok (mulOk_l (by omega) (by omega))
      have hd : fMod [.int (v.getD j 0 * t), .int p] = some (.d (.int (v.getD j 0 * t % p))) := mod_ok (by omega)
      have k0 : 0 ≤ v.getD j 0 * t % p := Int.emod_nonneg _ (by omega)
      have k1 : v.getD j 0 * t % p < p := Int.emod_lt_of_pos _ (by omega)
      generalize v.getD j 0 * t % p = k at hd k0 k1
      generalize v.getD j 0 * t = z at hm hd
      generalize v.getD j 0 = y at hixv hm
      refine ⟨⟨[.sh (.int p), .ow (sumsD S), .lk (matD (A.eraseIdx ix)), .sh (.int f), .sh (.int ji), .ow LL, .sh (.lst (vec lead)), .sh (.int t), .sh (.lst (vec v)), .un], [.un, .att]⟩, rfl, ?_⟩
      refine w_call (wa_cons (W.of (a := .d (.int p)) (ρ := ⟨[.sh (.int p), .ow (sumsD S), .lk (matD (A.eraseIdx ix)), .sh (.int f), .sh (.int ji), .ow LL, .sh (.lst (vec lead)), .sh (.int t), .sh (.lst (vec v)), .un], [.un, .att]⟩) rfl (wa_cons (W.of (a := .d (.lst (vec v))) (ρ := ⟨[.sh (.int p), .ow (sumsD S), .lk (matD (A.eraseIdx ix)), .sh (.int f), .sh (.int ji), .ow LL, .sh (.lst (vec lead)), .sh (.int t), .sh (.lst (vec v)), .un], [.un, .att]⟩) rfl (wa_cons (w_prim (wa_cons (w_prim (wa_cons (w_prim (wa_cons (w_prim (W.of (a := [.d (.lst (vec v)), .d (.int ji)]) (ρ := ⟨[.sh (.int p), .ow (sumsD S), .lk (matD (A.eraseIdx ix)), .sh (.int f), .sh (.int ji), .ow LL, .sh (.lst (vec lead)), .sh (.int t), .sh (.lst (vec v)), .un], [.un, .att]⟩) rfl ⟨[.lst (vec v), .int ji], .d (.int y), rfl, hixv, W.of (a := [.d (.int t)]) (ρ := ⟨[.sh (.int p), .ow (sumsD S), .lk (matD (A.eraseIdx ix)), .sh (.int f), .sh (.int ji), .ow LL, .sh (.lst (vec lead)), .sh (.int t), .sh (.lst (vec v)), .un], [.un, .att]⟩) rfl ⟨[.int y, .int t], .d (.int z), rfl, hm, wa_nil ⟨[.int z], .d (.int z), rfl, rfl, ?_⟩⟩⟩)))))))))))))
      refine W.of (a := [.d (.int p)]) (ρ := ⟨[.sh (.int p), .ow (sumsD S), .lk (matD (A.eraseIdx ix)), .sh (.int f), .sh (.int ji), .ow LL, .sh (.lst (vec lead)), .sh (.int t), .sh (.lst (vec v)), .un], [.un, .att]⟩) rfl ⟨[.int z, .int p], .d (.int k), rfl, hd, ?_⟩
      refine W.of (a := [.d (.lst (vec lead))]) (ρ := ⟨[.sh (.int p), .ow (sumsD S), .lk (matD (A.eraseIdx ix)), .sh (.int f), .sh (.int ji), .ow LL, .sh (.lst (vec lead)), .sh (.int t), .sh (.lst (vec v)), .un], [.un, .att]⟩) rfl ⟨rfl, [.sh (.int p), .sh (.lst (vec v)), .sh (.int k), .sh (.lst (vec lead))], rfl, WF.mono (less_ok (by omega) hp2 ⟨k0, by omega⟩ (by rw [hvg.1]; exact hw)) ?_⟩
      rintro r o ⟨rfl, rfl⟩
      rw [back0 fun i => rfl]
      exact ⟨_, rfl, rfl⟩
    rw [locks1 (xs := matD (A.eraseIdx ix)) rfl, unlocks1 (xs := matD (A.eraseIdx ix)) (ys := matD (A.eraseIdx ix)) rfl rfl]
    have hpm : ((A.eraseIdx ix).map fun v => D.lst (vec (sub p (v.getD j 0 * t % p) v lead))) = matD (popped p t j (A.eraseIdx ix) lead) := by
      unfold matD popped
      rw [List.map_map]
      rfl
    rw [hpm]
    have hst := h.step (ix := ix) (t := t) hp1 hj hix (by rw [hlead]; exact ht)
    rw [hlead] at hst
    generalize popped p t j (A.eraseIdx ix) lead = B at hst
    refine ⟨rfl, rkF p S B f (.sh (.int ji)) (.ow LL) (.sh (.lst (vec lead))) (.sh (.int t)), rfl, ?_⟩
    refine ws_cons (ws_asgV (W.of (a := .d (.int (f + 1))) (ρ := rkF p S B f (.sh (.int ji)) (.ow LL) (.sh (.lst (vec lead))) (.sh (.int t))) rfl ⟨rfl, rkF p S B (f + 1) (.sh (.int ji)) (.ow LL) (.sh (.lst (vec lead))) (.sh (.int t)), rfl, ?_⟩))
    exact ws_nil (ws_nil ⟨B, _, f + 1, _, _, _, rfl, hst, by rw [List.length_append, hf]; rfl⟩)
end
end Ev
namespace Ev
open PySem L2
theorem law_rank_ri {p : Int} {w : Nat} {S : List (List Int)} (hpp : p ∈ primes) (hw : w ≤ 1000) (hSn : S.length ≤ 1000) (hS : ∀ s ∈ S, s.length = w ∧ Rg p s) :
    WF (F_law_rank [.sh (.int p), .ow (sumsD S)]) fun r o => o = [.un, .ow (sumsD S)] ∧ ∃ A R, r = .d (.int ((R.length : Nat) : Int)) ∧ RI p w S w A R := by
  refine wf_fn ?_
  generalize hs : start0 N_law_rank.length [.sh (.int p), .ow (sumsD S)] = ρs
  refine ws_cons (ws_par ?_)
  have hs : ρs = ⟨[.sh (.int p), .ow (sumsD S), .un, .un, .un, .un, .un, .un, .un, .un], [.un, .att]⟩ := hs.symm
  rw [hs]
  refine w_lcmL (l := S) (g := fun s => D.tup (vec s)) (e := fun s => D.lst (vec s)) (W.of (a := [.loc 1]) (ρ := ⟨[.sh (.int p), .ow (sumsD S), .un, .un, .un, .un, .un, .un, .un, .un], [.un, .att]⟩) rfl ⟨[.lst (sumsD S)], rfl, rfl, ⟨by rw [sizeLine_eq]; omega, rfl, rfl⟩, fun s hs => ?_, ?_⟩)
  · refine ⟨⟨[.sh (.int p), .lk (sumsD S), .un, .un, .un, .un, .un, .un, .sh (.tup (vec s)), .un], [.un, .att]⟩, rfl, ?_⟩
    exact w_prim (W.of (a := [.d (.tup (vec s))]) (ρ := ⟨[.sh (.int p), .lk (sumsD S), .un, .un, .un, .un, .un, .un, .sh (.tup (vec s)), .un], [.un, .att]⟩) rfl ⟨[.tup (vec s)], .nw (vec s), rfl, rfl, ⟨[.sh (.int p), .lk (sumsD S), .un, .un, .un, .un, .un, .un, .sh (.tup (vec s)), .un], [.un, .att]⟩, rfl, rfl⟩)
  refine W.of (a := .d (.int 0)) (ρ := ⟨[.sh (.int p), .ow (sumsD S), .un, .un, .un, .un, .un, .un, .un, .un], [.un, .att]⟩) rfl ⟨.nw (matD S), ⟨[.sh (.int p), .ow (sumsD S), .un, .un, .un, .un, .un, .un, .un, .un], [.un, .att]⟩, .d (.int 0), ⟨[.sh (.int p), .ow (sumsD S), .un, .un, .un, .un, .un, .un, .un, .un], [.un, .att]⟩, ⟨[.sh (.int p), .ow (sumsD S), .ow (matD S), .un, .un, .un, .un, .un, .un, .un], [.un, .att]⟩, rkF p S S 0 .un .un .un .un, rfl, rfl, rfl, rfl, ?_⟩
  have hst := RI.start hS
  cases hSS : S with
  | nil =>
    subst hSS
    have h0 : RI p w [] w [] [] := by
      refine ⟨fun v hv => (by cases hv), trivial, fun a ha => (by cases ha), fun k hk => absurd hk (Nat.not_lt_zero _), fun x hx => ?_, Nat.le_refl _⟩
      rcases hx with ⟨q, h⟩ | ⟨v, hv, _⟩
      · cases h
      · cases hv
    refine ws_cons (ws_for (W.of (a := [.d (.int 0)]) (ρ := rkF p [] [] 0 .un .un .un .un) rfl ⟨[.int 0], [], rfl, rfl, fun j ρ => ρ = rkF p [] [] 0 .un .un .un .un, rfl, ?_, ?_⟩))
    · rintro j x ρ2 hx _
      simp at hx
    · rintro ρ2 rfl
      exact ws_cons (ws_ret (W.of (a := .d (.int 0)) rfl ⟨.d (.int 0), _, rfl, rfl, [], [], rfl, h0⟩))
  | cons s0 S0 =>
    rw [← hSS]
    have hs0 : s0.length = w := (hS s0 (by rw [hSS]; simp)).1
    have hlen : fLen [.lst (matD S)] = some (.d (.int ((S.length : Nat) : Int))) := by rw [len_lst, matD_len]
    have hpos : (0 : Int) < ((S.length : Nat) : Int) := by rw [hSS]; simp
    have hi0 : fIx [.lst (matD S), .int 0] = some (.d (.lst (vec s0))) := by rw [hSS]; exact ix_lst (i := 0) (d := .lst (vec s0)) rfl
    have hl0 : fLen [.lst (vec s0)] = some (.d (.int ((w : Nat) : Int))) := by rw [len_lst, vec_len, hs0]
    obtain ⟨wi, hwi⟩ : ∃ wi : Int, wi = ((w : Nat) : Int) := ⟨_, rfl⟩
    rw [← hwi] at hl0
    generalize ((S.length : Nat) : Int) = ni at hlen hpos
    generalize hρ : rkF p S S 0 .un .un .un .un = ρ0
    refine ws_cons (ws_for ?_)
    rw [← hρ]
    refine wa_cons (w_ite (wt_eb (w_prim (wa_cons (w_prim (W.of (a := [.loc 2]) (ρ := rkF p S S 0 .un .un .un .un) rfl ⟨[.lst (matD S)], .d (.int ni), rfl, hlen, W.of (a := [.d (.int 0)]) (ρ := rkF p S S 0 .un .un .un .un) rfl ⟨[.int ni, .int 0], .d (.bl (decide (ni > 0))), rfl, rfl, _, rfl, fun _ => ?_, fun z => absurd (decide_eq_true hpos) (by rw [z]; decide)⟩⟩))))))
    refine w_prim (wa_cons (w_prim (W.of (a := [.loc 2, .d (.int 0)]) (ρ := rkF p S S 0 .un .un .un .un) rfl ⟨[.lst (matD S), .int 0], .d (.lst (vec s0)), rfl, hi0, wa_nil ⟨[.lst (vec s0)], .d (.int wi), rfl, hl0, wa_nil ?_⟩⟩)))
    refine ⟨[.int wi], _, rfl, range1_ok (by omega) (by omega), fun j ρ => ∃ A R f s4 s5 s6 s7, ρ = rkF p S A f s4 s5 s6 s7 ∧ RI p w S j A R ∧ f = ((R.length : Nat) : Int), ⟨S, [], 0, .un, .un, .un, .un, locks0 (fun i => rfl), hst, rfl⟩, ?_, ?_⟩
    · rintro j x ρ2 hx ⟨A, R, f, s4, s5, s6, s7, rfl, hI, hf⟩
      obtain ⟨hj, rfl⟩ := upFrom_get _ _ _ _ hx
      have hj' : j < w := by omega
      obtain ⟨ji, hji⟩ : ∃ ji : Int, ji = 0 + (j : Int) := ⟨_, rfl⟩
      rw [← hji]
      refine ⟨rkF p S A f (.sh (.int ji)) s5 s6 s7, bnd_free rfl rfl, ?_⟩
      refine WS.mono (rk_turn hpp hw hSn hI hj' (by omega) hf) ?_ (fun _ _ h => h) (fun _ h => h)
      rintro ρ ⟨A', R', f', s5', s6', s7', rfl, hI', hf'⟩
      exact ⟨A', R', f', _, _, _, _, rfl, hI', hf'⟩
    · rintro ρ2 ⟨A, R, f, s4, s5, s6, s7, rfl, hI, hf⟩
      rw [upFrom_length, show wi.toNat = w by omega] at hI
      rw [unlocks0 fun i => rfl]
      exact ws_cons (ws_ret (W.of (a := .d (.int f)) rfl ⟨.d (.int f), _, rfl, rfl, A, R, by rw [hf], hI⟩))
/-- of pieces: the rank -/
theorem law_rank_picks {p : Int} {w : Nat} {P : List Pc} {l : List Nat} (hpp : p ∈ primes) (h2 : w ≤ 10) (hP : Pcs p w P) (hl : l.length ≤ 100) (h : ∀ k ∈ l, k < P.length) :
    WF (F_law_rank [.sh (.int p), .ow (sumsD (picks P l))]) fun r o => o = [.un, .ow (sumsD (picks P l))] ∧ r = .d (.int ((rk p w P l : Nat) : Int)) := by
  have hS : ∀ s ∈ picks P l, s.length = w ∧ Rg p s := fun v hv => by
    unfold picks at hv
    obtain ⟨k, hk, rfl⟩ := List.mem_map.mp hv
    have := hP.g _ (pcAt_mem (h k hk))
    exact ⟨this.l, this.r⟩
  obtain ⟨fs, rows, hf, ht, hrl⟩ := found_picks hpp h2 hP h
  refine WF.mono (law_rank_ri hpp (by omega) (by rw [picks_len]; omega) hS) ?_
  rintro r o ⟨rfl, A, R, rfl, hI⟩
  have := hI.end hpp (by rw [picks_len]; exact hf)
  refine ⟨rfl, ?_⟩
  rw [this, hrl, ht.eq]
  rfl
end Ev
namespace Ev
open PySem L2
/-! ### what makes nought -/
structure Nou (p : Int) (w : Nat) (S : List (List Int)) (c : List Int) : Prop where
  l : c.length = S.length
  r : Rg p c
  e : ∀ i, i < w → p ∣ Lin.sumTo S.length (fun k => co c k * row S k i)
def noF (p wi : Int) (S : List (List Int)) (R : List (Nat × List Int)) (s4 s5 s6 : Slot) : Env := ⟨[.sh (.int p), .sh (.tup (sumsD S)), .sh (.int wi), .ow (rowsD R), s4, s5, s6], [.un, .un]⟩
section
variable {p wi : Int} {w : Nat} {S : List (List Int)}
/-- what the rest behind the width tells of the first that isn't alone -/
theorem rest_nought {rows : List (Nat × List Int)} {u : List Int} {k : Nat} (hp : 1 < p) (hS : ∀ s ∈ S, s.length = w) (hk : k < S.length) (f : Found p w (w + S.length) (row (mks S)) k rows) (hR : Lin.Red p (w + S.length) (absR rows) (row (mks S) k) (co u)) (hg : Rg p u) (hl : u.length = w + S.length) (h0 : ∀ i, i < w → u.getD i 0 = 0) :
    Nou p w S (u.drop w) ∧ co (u.drop w) k = 1 ∧ ∀ j, k < j → j < S.length → co (u.drop w) j = 0 := by
  have hat : ∀ j, co (u.drop w) j = co u (w + j) := fun j => by rw [co_eq, co_eq, List.getD_eq_getElem?_getD, List.getD_eq_getElem?_getD, List.getElem?_drop]
  have hdr : Rg p (u.drop w) := fun x hx => hg x (List.mem_of_mem_drop hx)
  have hdl : (u.drop w).length = S.length := by rw [List.length_drop]; omega
  have hrow : ∀ x, Lin.RS (absR rows) x → ∀ i, i < w → p ∣ x i - Lin.sumTo S.length (fun j => x (w + j) * row (mks S) j i) := fun x hx => Lin.Sp.marks (fun y ⟨j0, hj0, _, e⟩ i hi => by
    subst e
    have hj0' : j0 < S.length := by omega
    have := Lin.sumTo_delta (p := p) (f := fun j => row (mks S) j0 (w + j) * row (mks S) j i) (a := row (mks S) j0 i) hj0' (by
      show p ∣ row (mks S) j0 (w + j0) * row (mks S) j0 i - row (mks S) j0 i
      rw [rowM_r hS hj0' hj0', if_pos rfl, Int.one_mul, Int.sub_self]
      exact Lin.dv0 p) fun j hj hn => by
      show p ∣ row (mks S) j0 (w + j) * row (mks S) j i
      rw [rowM_r hS hj0' hj, if_neg hn, Int.zero_mul]
      exact Lin.dv0 p
    exact Lin.dvOf (Lin.dvMul (-1) this) (by omega)) (f.t.b x hx)
  have hD := Lin.Sp.marks hrow hR.sp
  have hz : ∀ j, j < S.length → k ≤ j → p ∣ row (mks S) k (w + j) - co u (w + j) := fun j hj hkj => hR.sp.at0 (i := w + j) (by omega) fun x hx => (f.t.b x hx).at0 (by omega) fun y ⟨j0, hj0, _, e⟩ => by
    subst e
    rw [rowM_r hS (by omega) hj, if_neg (by omega)]
    exact Lin.dv0 p
  have hrg : ∀ j, j < S.length → 0 ≤ co u (w + j) ∧ co u (w + j) < p := fun j hj => hg.at (by omega)
  refine ⟨⟨hdl, hdr, fun i hi => ?_⟩, ?_, fun j hj hjn => ?_⟩
  · have h1 := hD i hi
    have h3 : co u i = 0 := h0 i hi
    have h4 := Lin.sumTo_delta (p := p) (n := S.length) (f := fun j => row (mks S) k (w + j) * row (mks S) j i) (a := row (mks S) k i) hk (by
      show p ∣ row (mks S) k (w + k) * row (mks S) k i - row (mks S) k i
      rw [rowM_r hS hk hk, if_pos rfl, Int.one_mul, Int.sub_self]
      exact Lin.dv0 p) fun j hj hn => by
      show p ∣ row (mks S) k (w + j) * row (mks S) j i
      rw [rowM_r hS hk hj, if_neg hn, Int.zero_mul]
      exact Lin.dv0 p
    have h5 : Lin.sumTo S.length (fun j => (row (mks S) k (w + j) - co u (w + j)) * row (mks S) j i) = Lin.sumTo S.length (fun j => row (mks S) k (w + j) * row (mks S) j i) - Lin.sumTo S.length (fun j => co (u.drop w) j * row S j i) := by
      rw [← Lin.sumTo_sub]
      exact Lin.sumTo_eq fun j hj => by rw [Int.sub_mul, hat, rowM_l hS hj hi]
    rw [h3] at h1
    simp only [h5, Int.sub_zero] at h1
    exact Lin.dvOf (Lin.dvAdd h1 h4) (by omega)
  · rw [hat]
    have a := hz k hk (Nat.le_refl k)
    rw [rowM_r hS hk hk, if_pos rfl] at a
    exact (eq_of_dv (p := p) ⟨by omega, hp⟩ (hrg k hk) a).symm
  · rw [hat]
    have a := hz j hjn (by omega)
    rw [rowM_r hS hk hjn, if_neg (by omega)] at a
    exact (eq_of_dv (p := p) ⟨by omega, by omega⟩ (hrg j hjn) a).symm
def NouEnd (p : Int) (w : Nat) (S : List (List Int)) (r : RB) : Prop := (r = .d .non ∧ ∀ k, k < S.length → Lin.Tk p w (row S) k) ∨ ∃ c m, r = .d (.tup (vec c)) ∧ Nou p w S c ∧ m < S.length ∧ ¬ Lin.Tk p w (row S) m ∧ (∀ k, k < m → Lin.Tk p w (row S) k) ∧ co c m = 1 ∧ ∀ j, m < j → j < S.length → co c j = 0
theorem nought_ok (hpp : p ∈ primes) (hw : w ≤ 100) (hm : S.length ≤ 100) (hS : ∀ s ∈ S, s.length = w ∧ Rg p s) (h0 : S = [] → wi = 0) (h1 : S ≠ [] → wi = w) (hwo : WF (F_width_of [.sh (.tup (sumsD S))]) fun r o => r = .d (.int wi) ∧ o = [.un]) :
    WF (F_nought_of [.sh (.int p), .sh (.tup (sumsD S))]) fun r o => o = [.un, .un] ∧ NouEnd p w S r := by
  obtain ⟨hp1, hp2⟩ := primes_lt hpp
  have hl : ∀ s ∈ S, s.length = w := fun s h => (hS s h).1
  have hM : ∀ v ∈ mks S, v.length = w + S.length ∧ Rg p v := fun v hv => by
    obtain ⟨k, hk⟩ := List.mem_iff_getElem?.mp hv
    have hkl : k < S.length := by
      obtain ⟨z, _⟩ := List.getElem?_eq_some_iff.mp hk
      rw [mks_len] at z
      exact z
    rw [mks_get (getD_get hkl)] at hk
    cases hk
    obtain ⟨a, b⟩ := hS _ (getD_memL hkl)
    exact ⟨by rw [List.length_append, marks_len, a], rg_app b (rg_marks hp1 _ _)⟩
  have htk : ∀ k, k < S.length → (Lin.Tk p w (row (mks S)) k ↔ Lin.Tk p w (row S) k) := fun k hk => ⟨fun h => Lin.tk_swap hk (fun j hj i hi => (rowM_l hl hj hi).symm) h, fun h => Lin.tk_swap hk (fun j hj i hi => rowM_l hl hj hi) h⟩
  refine wf_fn (ws_cons (ws_asgV (w_call (W.of (a := [.d (.tup (sumsD S))]) (ρ := ⟨[.sh (.int p), .sh (.tup (sumsD S)), .un, .un, .un, .un, .un], [.un, .un]⟩) rfl ⟨rfl, [.sh (.tup (sumsD S))], rfl, WF.mono hwo ?_⟩))))
  rintro r o ⟨rfl, rfl⟩
  refine ⟨rfl, ⟨[.sh (.int p), .sh (.tup (sumsD S)), .sh (.int wi), .un, .un, .un, .un], [.un, .un]⟩, rfl, ?_⟩
  refine ws_cons (ws_asgV (w_lst (wd_nil ⟨by simp, rfl, noF p wi S [] .un .un .un, rfl, ?_⟩)))
  refine ws_cons (ws_for (wa_cons (w_call (W.of (a := [.d (.tup (sumsD S))]) (ρ := noF p wi S [] .un .un .un) rfl ⟨rfl, [.sh (.tup (sumsD S))], rfl, WF.mono (marked_ok (by omega) (fun s h => by rw [hl s h]; omega)) ?_⟩))))
  rintro r o ⟨rfl, rfl⟩
  rw [back0 fun i => rfl]
  refine wa_nil ⟨[.lst (matD (mks S))], matD (mks S), rfl, rfl, fun j ρ => ∃ rows s4 s5 s6, ρ = noF p wi S rows s4 s5 s6 ∧ rows.length = j ∧ Found p w (w + S.length) (row (mks S)) j rows ∧ ∀ k, k < j → Lin.Tk p w (row S) k, ⟨[], .un, .un, .un, locks0 (fun i => rfl), rfl, Found.nil, fun k hk => absurd hk (Nat.not_lt_zero _)⟩, ?_, ?_⟩
  · rintro j x ρ2 hx ⟨rows, s4, s5, s6, rfl, hrl, hf, hT⟩
    obtain ⟨v, hv, rfl⟩ := matD_get hx
    have hj : j < S.length := by
      obtain ⟨z, _⟩ := List.getElem?_eq_some_iff.mp hv
      rw [mks_len] at z
      exact z
    have hSne : S ≠ [] := fun e => by rw [e] at hj; exact absurd hj (Nat.not_lt_zero _)
    have hwi := h1 hSne
    have hvg := hM v (List.mem_of_getElem? hv)
    refine ⟨noF p wi S rows (.sh (.lst (vec v))) s5 s6, bnd_free rfl rfl, ?_⟩
    refine ws_cons (ws_asgV (w_call (W.of (a := [.d (.int p), .loc 3, .d (.lst (vec v))]) (ρ := noF p wi S rows (.sh (.lst (vec v))) s5 s6) rfl ⟨rfl, [.sh (.int p), .ow (rowsD rows), .sh (.lst (vec v))], rfl, WF.mono (reducedS_ok (.inl rfl) hp1 hp2 (by omega) hf.r hvg.1 hvg.2) ?_⟩)))
    rintro r o ⟨u, rfl, rfl, hu, hUR, hRed⟩
    rw [backI (i := 3) (h := rowsD rows) (h' := rowsD rows) rfl (fun j => by rcases j with _ | _ | _ | _ | j <;> rfl)]
    rw [← row_of hv] at hRed
    refine ⟨rfl, noF p wi S rows (.sh (.lst (vec v))) (.ow (vec u)) s6, bnd_free rfl rfl, ?_⟩
    refine ws_cons (ws_asgV (w_call (W.of (a := [.d (.int p), .d (.int wi), .loc 5]) (ρ := noF p wi S rows (.sh (.lst (vec v))) (.ow (vec u)) s6) rfl ⟨rfl, [.sh (.int p), .sh (.int wi), .ow (vec u)], rfl, WF.mono (leading_ok hpp hwi (by omega) (by omega) hUR) ?_⟩)))
    rintro r o ⟨rfl, hL⟩
    rw [backI (i := 5) (h := vec u) (h' := vec u) rfl (fun j => by rcases j with _ | _ | _ | _ | _ | _ | j <;> rfl)]
    rcases hL with ⟨rfl, hz⟩ | ⟨q, t, hq, hz, t0, t1, htt, rfl⟩
    · refine ⟨rfl, noF p wi S rows (.sh (.lst (vec v))) (.ow (vec u)) (.sh .non), bnd_free rfl rfl, ?_⟩
      have hsk := hf.skip (by omega) hRed hz
      obtain ⟨n1, n2, n3⟩ := rest_nought hp1 hl hj hf hRed hUR hu hz
      have hcut : fCutL [.lst (vec u), .int wi] = some (.nw (vec (u.drop w))) := by
        rw [hwi, cutL_lst (by rw [vec_len]; omega), vec_drop]
      refine ws_cons (ws_ite (W.of (a := true) rfl ⟨fun _ => ?_, fun z => absurd z (by decide)⟩))
      refine ws_cons (ws_ret (w_prim (wa_cons (w_prim (W.of (a := [.loc 5, .d (.int wi)]) (ρ := noF p wi S rows (.sh (.lst (vec v))) (.ow (vec u)) (.sh .non)) rfl ⟨[.lst (vec u), .int wi], _, rfl, hcut, wa_nil ⟨[.lst (vec (u.drop w))], .d (.tup (vec (u.drop w))), rfl, rfl, _, _, rfl, ?_, .inr ⟨u.drop w, j, rfl, n1, hj, fun h => hsk.2 ((htk j hj).mpr h), hT, n2, n3⟩⟩⟩)))))
      rw [unlocks0 fun i => rfl]
      rfl
    · have hnw := hf.new hp1 (by omega) hRed hu hUR hq htt
      refine ⟨rfl, noF p wi S rows (.sh (.lst (vec v))) (.ow (vec u)) (.sh (.tup [.int (q : Int), .lst (vec (mulr p t u))])), bnd_free rfl rfl, ?_⟩
      refine ws_cons (ws_ite (W.of (a := false) rfl ⟨fun z => absurd z (by decide), fun _ => ws_nil ?_⟩))
      refine ws_cons (ws_ex (w_mut (xs0 := rowsD rows) rfl (W.of (a := [.tup [.int (q : Int), .lst (vec (mulr p t u))]]) (ρ := noF p wi S rows (.sh (.lst (vec v))) (.ow (vec u)) (.sh (.tup [.int (q : Int), .lst (vec (mulr p t u))]))) rfl ⟨rowsD rows, rowsD (rows ++ [(q, mulr p t u)]), .non, rfl, ?_, ?_⟩)))
      · rw [append_ok (by unfold rowsD; rw [List.length_map]; omega), ← rowsD_snoc]
      · refine ws_nil ⟨rows ++ [(q, mulr p t u)], _, _, _, rfl, by rw [List.length_append, hrl]; rfl, hnw.1, fun k hk => ?_⟩
        by_cases e : k = j
        · rw [e]; exact (htk j hj).mp hnw.2
        · exact hT k (by omega)
  · rintro ρ2 ⟨rows, s4, s5, s6, rfl, hrl, hf, hT⟩
    rw [unlocks0 fun i => rfl]
    rw [matD_len, mks_len] at hT
    exact ws_cons (ws_ret (W.of (a := .d .non) rfl ⟨.d .non, _, rfl, rfl, .inl ⟨rfl, hT⟩⟩))
end
end Ev
namespace Ev
open PySem L2
/-! ### ranks of lots, by what they make -/
theorem tk_congr {p : Int} {w k : Nat} {s s' : Nat → Lin.V} (e : ∀ j, j ≤ k → s j = s' j) (h : Lin.Tk p w s k) : Lin.Tk p w s' k := fun q => h (by
  rw [e k (Nat.le_refl k)]
  exact Lin.Sp.mono (fun x ⟨j, hj, ex⟩ => ⟨j, hj, by rw [ex, e j (by omega)]⟩) q)
theorem row_app {P : List Pc} {l : List Nat} {x j : Nat} (h : j < l.length) : row (picks P l) j = row (picks P (l ++ [x])) j := by
  rw [row_picks h, row_picks (by rw [List.length_append]; omega), List.getD_eq_getElem?_getD, List.getD_eq_getElem?_getD, List.getElem?_append_left h]
theorem row_end {P : List Pc} {l : List Nat} {x : Nat} : row (picks P (l ++ [x])) l.length = co (pcAt P x).1 := by
  rw [row_picks (by rw [List.length_append]; simp), List.getD_eq_getElem?_getD]
  simp
theorem sp_sumz {p : Int} {w : Nat} {s : Nat → Lin.V} {T : Lin.V → Prop} {e : Nat → Int} : ∀ {m : Nat}, (∀ k, k < m → e k = 0 ∨ T (s k)) → Lin.Sp p w T (fun i => Lin.sumTo m (fun k => e k * s k i))
  | 0, _ => .zero fun i hi => Lin.dv0 p
  | m + 1, h => by
    have ih := sp_sumz (p := p) (w := w) (m := m) fun k hk => h k (by omega)
    rcases h m (by omega) with z | z
    · refine ih.congr fun i hi => ?_
      show p ∣ (Lin.sumTo m (fun k => e k * s k i) + e m * s m i) - Lin.sumTo m (fun k => e k * s k i)
      rw [z, Int.zero_mul]
      exact Lin.dvOf (Lin.dv0 p) (by omega)
    · exact (ih.sum (Lin.Sp.smul (e m) (Lin.Sp.mem z))).congr fun i hi => Lin.dvOf (Lin.dv0 p) (by
        show (Lin.sumTo m (fun k => e k * s k i) + e m * s m i) - (Lin.sumTo m (fun k => e k * s k i) + e m * s m i) = 0
        omega)
section
variable {p : Int} {w : Nat} {P : List Pc}
/-- a piece is made of a lot's -/
def Mk' (p : Int) (w : Nat) (P : List Pc) (m : List Nat) (k : Nat) : Prop := Lin.Sp p w (Lin.Pre (row (picks P m)) m.length) (co (pcAt P k).1)
theorem mk_mem {m : List Nat} {k : Nat} (h : k ∈ m) : Mk' p w P m k := by
  obtain ⟨i, hi, e⟩ := picks_mem (P := P) h
  exact Lin.Sp.mem ⟨i, hi, e⟩
theorem found_any {l : List Nat} (hpp : p ∈ primes) (h2 : w ≤ 10) (hP : Pcs p w P) (hl : l.length ≤ 100) (h : ∀ k ∈ l, k < P.length) : ∃ rows, Found p w w (row (picks P l)) l.length rows ∧ rows.length = rk p w P l := by
  obtain ⟨fs, rows, hf, ht, hrl⟩ := found_picks hpp h2 hP h
  exact ⟨rows, hf, by rw [hrl, ht.eq]; rfl⟩
theorem rk_mono {l m : List Nat} (hpp : p ∈ primes) (h2 : w ≤ 10) (hP : Pcs p w P) (hl : l.length ≤ 100) (h : ∀ k ∈ l, k < P.length) (hm : m.length ≤ 100) (h' : ∀ k ∈ m, k < P.length) (hs : ∀ k ∈ l, Mk' p w P m k) : rk p w P l ≤ rk p w P m := by
  obtain ⟨hp1, hp2⟩ := primes_lt hpp
  obtain ⟨r1, f1, e1⟩ := found_any hpp h2 hP hl h
  obtain ⟨r2, f2, e2⟩ := found_any hpp h2 hP hm h'
  have := Lin.stag_le hp1 (prime_inv hpp) f1.r.s f1.qs fun x hx => by
    refine Lin.Sp.trans (fun y ⟨j, hj, e⟩ => ?_) (Lin.Sp.mono Lin.ts_pre (f1.t.b x hx))
    rw [e, row_picks hj]
    refine Lin.Sp.trans (fun z ⟨i, hi, e⟩ => ?_) (hs _ (getD_mem0 hj))
    rw [e]
    exact f2.t.a i hi
  unfold absR at this
  rw [List.length_map, List.length_map] at this
  omega
theorem rk_perm {l m : List Nat} (hpp : p ∈ primes) (h2 : w ≤ 10) (hP : Pcs p w P) (hl : l.length ≤ 100) (h : ∀ k ∈ l, k < P.length) (hp : l.Perm m) : rk p w P l = rk p w P m := by
  have hm : m.length ≤ 100 := by rw [← hp.length_eq]; exact hl
  have h' : ∀ k ∈ m, k < P.length := fun k hk => h k (hp.mem_iff.mpr hk)
  have a := rk_mono hpp h2 hP hl h hm h' fun k hk => mk_mem (hp.mem_iff.mp hk)
  have b := rk_mono hpp h2 hP hm h' hl h fun k hk => mk_mem (hp.mem_iff.mpr hk)
  omega
/-- a lot and one piece more -/
theorem rk_snoc {l : List Nat} {x : Nat} (h : rk p w P l = l.length) : rk p w P (l ++ [x]) = l.length + 1 ↔ ¬ Mk' p w P l x := by
  have hlen : (l ++ [x]).length = l.length + 1 := by rw [List.length_append]; rfl
  have hpre : ∀ v, Lin.Sp p w (Lin.Pre (row (picks P (l ++ [x]))) l.length) v ↔ Lin.Sp p w (Lin.Pre (row (picks P l)) l.length) v := fun v => ⟨fun q => q.mono fun y ⟨j, hj, e⟩ => ⟨j, hj, by rw [e, row_app hj]⟩, fun q => q.mono fun y ⟨j, hj, e⟩ => ⟨j, hj, by rw [e, ← row_app hj]⟩⟩
  have hlast : Lin.Tk p w (row (picks P (l ++ [x]))) l.length ↔ ¬ Mk' p w P l x := by
    unfold Lin.Tk Mk'
    rw [hpre, row_end]
  rw [← hlast, ← hlen]
  constructor
  · intro e
    exact rk_full.mp e l.length (by omega)
  · intro e
    refine rk_full.mpr fun j hj => ?_
    by_cases z : j < l.length
    · exact tk_congr (fun i hi => row_app (by omega)) (rk_full.mp h j z)
    · have : j = l.length := by omega
      rw [this]
      exact e
theorem drop_len1 {l : List Nat} (h : l.Nodup) {k : Nat} (hk : k ∈ l) : (dropK l k).length + 1 = l.length := by
  have hp : l.Perm (k :: dropK l k) := by
    refine (List.perm_cons_erase hk).trans (List.Perm.cons k ?_)
    unfold dropK
    rw [h.erase_eq_filter]
    refine List.Perm.of_eq (List.filter_congr fun y _ => ?_)
    by_cases e : y = k
    · simp [e]
    · simp [e]
  rw [hp.length_eq]
  rfl
/-- which pieces can be left out for another one -/
theorem ring_iff {l : List Nat} {x j : Nat} {c : List Int} (hpp : p ∈ primes) (h2 : w ≤ 10) (hP : Pcs p w P) (hl : l.Nodup) (hln : l.length ≤ 90) (h : ∀ k ∈ l, k < P.length) (hx : x < P.length) (hk : rk p w P l = l.length) (hc : Nou p w (picks P (l ++ [x])) c) (h1 : co c l.length = 1) (hj : j < l.length) :
    rk p w P (dropK l (l.getD j 0) ++ [x]) = l.length ↔ co c j ≠ 0 := by
  obtain ⟨hp1, hp2⟩ := primes_lt hpp
  have hkl := drop_len1 hl (getD_mem0 hj)
  have hlen : (dropK l (l.getD j 0) ++ [x]).length = l.length := by rw [List.length_append]; exact hkl
  have hin : ∀ k ∈ dropK l (l.getD j 0) ++ [x], k < P.length := fun k hk => by
    rcases List.mem_append.mp hk with hk | hk
    · exact h k (List.mem_filter.mp hk).1
    · have : k = x := by simpa using hk
      rw [this]; exact hx
  have hrel : ∀ i, i < w → p ∣ Lin.sumTo (l.length + 1) (fun k => co c k * row (picks P (l ++ [x])) k i) := fun i hi => by
    have := hc.e i hi
    rw [picks_len, List.length_append] at this
    exact this
  have hne : ∀ i, i < l.length → i ≠ j → l.getD i 0 ∈ dropK l (l.getD j 0) := fun i hi hij => by
    unfold dropK
    refine List.mem_filter.mpr ⟨getD_mem0 hi, ?_⟩
    have : l.getD i 0 ≠ l.getD j 0 := fun e => by
      rw [List.getD_eq_getElem?_getD, List.getD_eq_getElem?_getD, List.getElem?_eq_getElem hi, List.getElem?_eq_getElem hj] at e
      exact hij ((List.getElem_inj hl).mp e)
    rw [decide_eq_false this]
    rfl
  have hrow : ∀ i, i < l.length → row (picks P (l ++ [x])) i = co (pcAt P (l.getD i 0)).1 := fun i hi => by rw [← row_app hi, row_picks hi]
  constructor
  · intro e hz
    -- without it the others make the piece
    have hd : Lin.Sp p w (Lin.Pre (row (picks P (dropK l (l.getD j 0)))) (dropK l (l.getD j 0)).length) (co (pcAt P x).1) := by
      have hs := sp_sumz (p := p) (w := w) (s := row (picks P (l ++ [x]))) (T := Lin.Pre (row (picks P (dropK l (l.getD j 0)))) (dropK l (l.getD j 0)).length) (e := co c) (m := l.length) fun k hk => by
        by_cases z : k = j
        · rw [z]; exact .inl hz
        · right
          rw [hrow k hk]
          obtain ⟨i, hi, e⟩ := picks_mem (P := P) (hne k hk z)
          exact ⟨i, hi, e⟩
      refine (Lin.Sp.smul (-1) hs).congr fun i hi => ?_
      have a := hrel i hi
      have hst : Lin.sumTo (l.length + 1) (fun k => co c k * row (picks P (l ++ [x])) k i) = Lin.sumTo l.length (fun k => co c k * row (picks P (l ++ [x])) k i) + co c l.length * row (picks P (l ++ [x])) l.length i := rfl
      rw [hst, h1, row_end, Int.one_mul] at a
      exact Lin.dvOf a (by omega)
    have hbad := rk_full.mp (e.trans hlen.symm) (dropK l (l.getD j 0)).length (by rw [hlen]; omega)
    refine hbad ?_
    rw [row_end]
    exact hd.mono fun y ⟨i, hi, e⟩ => ⟨i, hi, by rw [e, row_app hi]⟩
  · intro hz
    have hm := rk_mono hpp h2 hP (by omega) h (m := dropK l (l.getD j 0) ++ [x]) (by omega) hin fun k hk => by
      by_cases z : k = l.getD j 0
      · rw [z]
        -- the others and the piece make it
        obtain ⟨hc0, hc1⟩ := hc.r.at (j := j) (by rw [hc.l, picks_len, List.length_append]; omega)
        obtain ⟨t, ht⟩ := prime_inv hpp (co c j) (ndv hz hc0 hc1)
        have hs := sp_sumz (p := p) (w := w) (s := fun k => row (picks P (l ++ [x])) (Lin.skip j k)) (T := Lin.Pre (row (picks P (dropK l (l.getD j 0) ++ [x]))) (dropK l (l.getD j 0) ++ [x]).length) (e := fun k => co c (Lin.skip j k)) (m := l.length) fun k hk => by
          right
          have hm : ∃ y, y ∈ dropK l (l.getD j 0) ++ [x] ∧ row (picks P (l ++ [x])) (Lin.skip j k) = co (pcAt P y).1 := by
            unfold Lin.skip
            by_cases z : k < j
            · rw [if_pos z]
              exact ⟨_, List.mem_append_left _ (hne k hk (by omega)), hrow k hk⟩
            · rw [if_neg z]
              by_cases z2 : k + 1 < l.length
              · exact ⟨_, List.mem_append_left _ (hne (k + 1) z2 (by omega)), hrow (k + 1) z2⟩
              · rw [show k + 1 = l.length by omega]
                exact ⟨x, by simp, row_end⟩
          obtain ⟨y, hy, e⟩ := hm
          obtain ⟨i, hi, e2⟩ := picks_mem (P := P) hy
          show Lin.Pre _ _ (row (picks P (l ++ [x])) (Lin.skip j k))
          rw [e]
          exact ⟨i, hi, e2⟩
        refine (Lin.Sp.smul (-t) hs).congr fun i hi => ?_
        have a := hrel i hi
        rw [Lin.sum_skip (k0 := j) (by omega), hrow j hj] at a
        have b := Lin.dvMul t a
        have d := Lin.dvMul (co (pcAt P (l.getD j 0)).1 i) ht
        generalize co (pcAt P (l.getD j 0)).1 i = v at *
        show p ∣ v - -t * Lin.sumTo l.length (fun k => co c (Lin.skip j k) * row (picks P (l ++ [x])) (Lin.skip j k) i)
        generalize Lin.sumTo l.length (fun k => co c (Lin.skip j k) * row (picks P (l ++ [x])) (Lin.skip j k) i) = u at *
        generalize co c j = cj at *
        rw [Int.mul_add] at b
        rw [Int.mul_sub, Int.mul_one] at d
        have e3 : v * (t * cj) = t * (cj * v) := by rw [Int.mul_left_comm, Int.mul_comm v]
        rw [e3] at d
        rw [Int.neg_mul]
        exact Lin.dvOf (Lin.dvSub b d) (by omega)
      · refine mk_mem (List.mem_append_left _ ?_)
        unfold dropK
        exact List.mem_filter.mpr ⟨hk, by rw [decide_eq_false z]; rfl⟩
    have hle := rk_le p w P (dropK l (l.getD j 0) ++ [x])
    omega
end
end Ev
namespace Ev
open PySem L2
/-! ### the law's lots -/
def toldD (p wi : Int) (P : List Pc) : D := .tup [.int p, .int wi, .lst (pcsD P)]
theorem ixPL {P : List Pc} {k : Nat} (h : k < P.length) : fIx [.lst (pcsD P), .int (k : Int)] = some (.d (pcD (pcAt P k))) := by
  refine ix_lst ?_
  unfold pcsD pcAt
  rw [List.getElem?_map, List.getD_eq_getElem?_getD, List.getElem?_eq_getElem h]
  rfl
section
variable {p wi : Int} {w : Nat} {P : List Pc}
def inwF (p wi : Int) (P : List Pc) (l : List Nat) (s : Slot) : Env := ⟨[.sh (toldD p wi P), .sh (.tup (nats l)), s], [.un, .un]⟩
theorem law_in_ok {l : List Nat} (hpp : p ∈ primes) (h2 : w ≤ 10) (hP : Pcs p w P) (hl : l.length ≤ 100) (h : ∀ k ∈ l, k < P.length) :
    WF (F_law_in [.sh (toldD p wi P), .sh (.tup (nats l))]) fun r o => o = [.un, .un] ∧ r = .d (.int ((rk p w P l : Nat) : Int)) := by
  refine wf_fn (ws_cons (ws_ret (w_call (wa_cons (W.of (a := .d (.int p)) (ρ := inwF p wi P l .un) rfl (wa_cons (w_lcmL (l := l) (g := fun k : Nat => D.int (k : Int)) (e := fun k : Nat => D.tup (vec (pcAt P k).1)) (W.of (a := [.d (.tup (nats l))]) (ρ := inwF p wi P l .un) rfl ⟨[.tup (nats l)], rfl, rfl, ⟨by rw [sizeLine_eq]; omega, rfl, rfl⟩, fun k hk => ?_, ?_⟩))))))))
  · have hix := ixPL (h k hk)
    generalize (k : Int) = ki at hix
    refine ⟨inwF p wi P l (.sh (.int ki)), rfl, ?_⟩
    refine w_prim (wa_cons (w_prim (wa_cons (w_prim (W.of (a := [.d (toldD p wi P), .d (.int 2)]) (ρ := inwF p wi P l (.sh (.int ki))) rfl ⟨[toldD p wi P, .int 2], .d (.lst (pcsD P)), rfl, rfl, W.of (a := [.d (.int ki)]) (ρ := inwF p wi P l (.sh (.int ki))) rfl ⟨[.lst (pcsD P), .int ki], _, rfl, hix, ?_⟩⟩)))))
    exact W.of (a := [.d (.int 0)]) (ρ := inwF p wi P l (.sh (.int ki))) rfl ⟨[pcD (pcAt P k), .int 0], .d (.tup (vec (pcAt P k).1)), rfl, rfl, _, rfl, rfl⟩
  · have e : (l.map fun k : Nat => D.tup (vec (pcAt P k).1)) = sumsD (picks P l) := by
      unfold sumsD picks
      rw [List.map_map]
      rfl
    rw [e]
    refine wa_nil ⟨rfl, [.sh (.int p), .ow (sumsD (picks P l))], rfl, WF.mono (law_rank_picks hpp h2 hP hl h) ?_⟩
    rintro r o ⟨rfl, rfl⟩
    exact ⟨_, _, rfl, rfl, rfl⟩
/-- places sorted -/
def srtN (l : List Nat) : List Nat := l.mergeSort fun a b => decide (a ≤ b)
theorem srtN_perm (l : List Nat) : (srtN l).Perm l := List.mergeSort_perm _ _
theorem srtN_le (l : List Nat) : (srtN l).Pairwise (· ≤ ·) := by
  have := List.pairwise_mergeSort (le := fun a b : Nat => decide (a ≤ b)) (fun a b c h k => decide_eq_true (by have := of_decide_eq_true h; have := of_decide_eq_true k; omega)) (fun a b => by by_cases h : a ≤ b <;> simp [h]; omega) l
  exact this.imp fun h => of_decide_eq_true h
theorem srtN_lot {m : Nat} {l : List Nat} (hd : l.Nodup) (h : ∀ k ∈ l, k < m) : IsLot m (srtN l) := by
  refine ⟨fun k hk => h k ((srtN_perm l).mem_iff.mp hk), ?_⟩
  have hn : (srtN l).Nodup := (srtN_perm l).nodup_iff.mpr hd
  exact (srtN_le l).imp₂ (fun a b h1 h2 => by omega) hn
theorem snocT_nats (l : List Nat) {k : Nat} {ki : Int} (e : ki = k) (h : l.length ≤ 1000) : fAdd [.tup (nats l), .tup [.int ki]] = some (.d (.tup (nats (l ++ [k])))) := by
  rw [add_tup (by show (nats l).length + 1 ≤ 1000000; rw [nats_len]; omega), ← nats_snoc, e]
end
end Ev
namespace Ev
open PySem L2
section
variable {ρ : Env}
theorem keyAll_of {step : D → Option D} : ∀ {xs ks : List D}, ks.length = xs.length → (∀ (i : Nat) (x y : D), xs[i]? = some x → ks[i]? = some y → step x = some y) → keyAll step xs = some ks
  | [], [], _, _ => rfl
  | [], _ :: _, e, _ => by simp at e
  | _ :: _, [], e, _ => by simp at e
  | x :: xs, k :: ks, e, h => by
    unfold keyAll
    rw [h 0 x k rfl rfl]
    simp only
    rw [keyAll_of (by simpa using e) fun i a b h1 h2 => h (i + 1) a b (by simpa using h1) (by simpa using h2)]
theorem w_sortk {f : List D → List D → Option (List D)} {as : Es} {j : Nat} {key : E} {P : B → Env → Prop} (h : W (evA as ρ) fun bs ρ1 => ∃ ds xs ks ys, views ρ1 bs = some ds ∧ itemsOf ds = some xs ∧ ks.length = xs.length ∧
    (∀ (i : Nat) (x y : D), xs[i]? = some x → ks[i]? = some y → W (evE key (keyEnv ρ1 j x)) fun b _ => b = .d y) ∧ f xs ks = some ys ∧ P (.nw ys) ρ1) : W (evE (.sortk f as j key) ρ) P := by
  unfold evE
  refine W.bind (W.mono h ?_)
  rintro bs ρ1 ⟨ds, xs, ks, ys, h1, h2, h3, h4, h5, h6⟩
  rw [h1]
  simp only
  rw [h2]
  simp only
  rw [keyAll_of h3 fun i x y e1 e2 => by
    obtain ⟨b, ρ2, e, rfl⟩ := (h4 i x y e1 e2).get
    rw [e]]
  simp only
  rw [h5]
  exact h6
end
end Ev
/-! what is made of what: a closure with exchange; the lightest by an order -/
namespace Mat
structure Clo (M : (Nat → Prop) → Nat → Prop) : Prop where
  mem : ∀ (S : Nat → Prop) (k : Nat), S k → M S k
  tr : ∀ (S T : Nat → Prop) (k : Nat), (∀ y, S y → M T y) → M S k → M T k
  ex : ∀ (S : Nat → Prop) (e k : Nat), M (fun y => S y ∨ y = e) k → ¬ M S k → M (fun y => S y ∨ y = k) e
structure Ord (lt : Nat → Nat → Prop) : Prop where
  ir : ∀ a, ¬ lt a a
  tr : ∀ a b c, lt a b → lt b c → lt a c
  tot : ∀ a b, a ≠ b → lt a b ∨ lt b a
section
variable {M : (Nat → Prop) → Nat → Prop} {lt : Nat → Nat → Prop}
theorem Clo.mono (C : Clo M) {S T : Nat → Prop} {k : Nat} (h : ∀ y, S y → T y) (m : M S k) : M T k := C.tr S T k (fun y q => C.mem T y (h y q)) m
/-- the light ones of A: those that are not made of the ones ahead -/
def Li (M : (Nat → Prop) → Nat → Prop) (lt : Nat → Nat → Prop) (A : Nat → Prop) : Nat → Prop := fun x => A x ∧ ¬ M (fun y => A y ∧ lt y x) x
section
variable {A : Nat → Prop}
theorem filter_lt {p q : Nat → Prop} [DecidablePred p] [DecidablePred q] {y : Nat} : ∀ {L : List Nat}, (∀ z, p z → q z) → y ∈ L → q y → ¬ p y → (L.filter fun z => decide (p z)).length < (L.filter fun z => decide (q z)).length
  | [], _, h, _, _ => by cases h
  | z :: L, hs, h, hq, hp => by
    have le : (L.filter fun z => decide (p z)).length ≤ (L.filter fun z => decide (q z)).length := by
      clear h
      induction L with
      | nil => simp
      | cons w L ih =>
        by_cases h1 : p w
        · rw [List.filter_cons_of_pos (by simpa using h1), List.filter_cons_of_pos (by simpa using hs w h1)]
          simpa using ih
        · rw [List.filter_cons_of_neg (by simpa using h1)]
          by_cases h2 : q w
          · rw [List.filter_cons_of_pos (by simpa using h2), List.length_cons]
            omega
          · rw [List.filter_cons_of_neg (by simpa using h2)]
            exact ih
    rcases List.mem_cons.mp h with rfl | h
    · rw [List.filter_cons_of_neg (by simpa using hp), List.filter_cons_of_pos (by simpa using hq), List.length_cons]
      omega
    · have ih := filter_lt (L := L) hs h hq hp
      by_cases h1 : p z
      · rw [List.filter_cons_of_pos (by simpa using h1), List.filter_cons_of_pos (by simpa using hs z h1), List.length_cons, List.length_cons]
        omega
      · rw [List.filter_cons_of_neg (by simpa using h1)]
        by_cases h2 : q z
        · rw [List.filter_cons_of_pos (by simpa using h2), List.length_cons]
          omega
        · rw [List.filter_cons_of_neg (by simpa using h2)]
          exact ih
open Classical in
theorem Clo.greedy (C : Clo M) (O : Ord lt) {L : List Nat} (hL : ∀ y, A y → y ∈ L) : ∀ (n : Nat) (x : Nat), A x → (L.filter fun y => decide (lt y x)).length ≤ n → M (fun y => Li M lt A y ∧ ¬ lt x y) x := by
  intro n
  induction n with
  | zero =>
    intro x hx hn
    by_cases h : M (fun y => A y ∧ lt y x) x
    · refine C.tr _ _ _ (fun y hy => ?_) h
      have : y ∈ L.filter fun y => decide (lt y x) := List.mem_filter.mpr ⟨hL y hy.1, by simpa using hy.2⟩
      rw [List.length_eq_zero_iff.mp (Nat.le_zero.mp hn)] at this
      cases this
    · exact C.mem _ _ ⟨⟨hx, h⟩, O.ir x⟩
  | succ n ih =>
    intro x hx hn
    by_cases h : M (fun y => A y ∧ lt y x) x
    · refine C.tr _ _ _ (fun y hy => ?_) h
      have hlt : (L.filter fun z => decide (lt z y)).length < (L.filter fun z => decide (lt z x)).length := filter_lt (fun z hz => O.tr z y x hz hy.2) (hL y hy.1) hy.2 (O.ir y)
      refine C.mono (fun z hz => ⟨hz.1, fun hxz => hz.2 (O.tr y x z hy.2 hxz)⟩) (ih y hy.1 (by omega))
    · exact C.mem _ _ ⟨⟨hx, h⟩, O.ir x⟩
theorem Clo.all (C : Clo M) (O : Ord lt) {L : List Nat} (hL : ∀ y, A y → y ∈ L) {y : Nat} (hy : A y) : M (Li M lt A) y := C.mono (fun b hb => hb.1) (C.greedy O hL _ y hy (Nat.le_refl _))
end
end
end Mat
namespace Ev
open PySem L2
/-! ### made of pieces, as a closure -/
/-! ### the order -/
def sz (P : List Pc) (k : Nat) : Int := (pcAt P k).2
end Ev
namespace Ev
open PySem L2
/-! ### webs drawn -/
def lsF (h : List D) (p wi : Int) (s3 s4 s5 s6 : Slot) : Env := ⟨[.ow h, .sh (.int p), .sh (.int wi), s3, s4, s5, s6], [.att, .un, .un]⟩
theorem good_set {p : Int} {w i : Nat} {v : List Int} {z : Int} (hl : v.length = w) (hR : Rg p v) (hi : i < w) (z0 : 0 < z) (z1 : z < p) : Good p w (v.set i z) := by
  refine ⟨by rw [List.length_set, hl], fun x hx => ?_, fun q => ?_⟩
  · rcases List.mem_or_eq_of_mem_set hx with h' | rfl
    · exact hR x h'
    · omega
  · have : (v.set i z).getD i 0 = z := by
      rw [List.getD_eq_getElem?_getD, List.getElem?_set, if_pos rfl, if_pos (by omega)]
      rfl
    rw [q, rep_getD] at this
    omega
theorem vec_set (v : List Int) (i : Nat) (z : Int) : (vec v).set i (.int z) = vec (v.set i z) := by
  unfold vec
  rw [List.map_set]
def SumEnd (g : List Int) (p : Int) (w : Nat) (b : B) (ρ : Env) : Prop := ∃ r ρ', retB ρ b = some (r, ρ') ∧ ∃ s h', r = .d (.tup (vec s)) ∧ ρ'.outs = [.ow h', .un, .un] ∧ Good p w s ∧ Tap g h'
theorem law_sum_ok {g : List Int} {h : List D} {p wi : Int} {w : Nat} (hpp : p ∈ primes) (hwi : wi = w) (h1 : 1 ≤ w) (h2 : w ≤ 10) (T : Tap g h) :
    WF (F_law_sum [.ow h, .sh (.int p), .sh (.int wi)]) fun r o => ∃ s h', r = .d (.tup (vec s)) ∧ o = [.ow h', .un, .un] ∧ Good p w s ∧ Tap g h' := by
  obtain ⟨hp1, hp2⟩ := primes_lt hpp
  refine wf_fn (ws_cons (ws_par (w_call (W.of (a := [.loc 0, .d (.int 5)]) (ρ := lsF h p wi .un .un .un .un) rfl ⟨rfl, [.ow h, .sh (.int 5)], rfl, WF.mono (pick_ok (by decide) (by decide) T) ?_⟩))))
  rintro r o ⟨kd, h, rfl, rfl, kd0, kd1, T⟩
  rw [backI (i := 0) (h' := h) rfl (fun j => by cases j <;> rfl)]
  refine w_call (W.of (a := [.loc 0, .d (.int wi)]) (ρ := lsF h p wi .un .un .un .un) rfl ⟨rfl, [.ow h, .sh (.int wi)], rfl, WF.mono (pick_ok (by omega) (by omega) T) ?_⟩)
  rintro r o ⟨on, h, rfl, rfl, on0, on1, T⟩
  rw [backI (i := 0) (h' := h) rfl (fun j => by cases j <;> rfl)]
  obtain ⟨k, hk⟩ : ∃ k : Nat, on = k := ⟨on.toNat, by omega⟩
  have hkw : k < w := by omega
  refine ⟨.d (.int kd), lsF h p wi .un .un .un .un, .d (.int on), lsF h p wi .un .un .un .un, lsF h p wi (.sh (.int kd)) .un .un .un, lsF h p wi (.sh (.int kd)) (.sh (.int on)) .un .un, rfl, rfl, rfl, rfl, ?_⟩
  refine ws_cons (ws_asgV (w_prim (wa_cons (w_lst (W.of (a := [.int 0]) (ρ := lsF h p wi (.sh (.int kd)) (.sh (.int on)) .un .un) rfl ⟨by simp, ?_⟩)))))
  refine W.of (a := [.d (.int wi)]) (ρ := lsF h p wi (.sh (.int kd)) (.sh (.int on)) .un .un) rfl ⟨[.lst [.int 0], .int wi], _, rfl, by rw [hwi]; exact noughts_lst (by omega), rfl, lsF h p wi (.sh (.int kd)) (.sh (.int on)) (.ow (vec (List.replicate w 0))) .un, rfl, ?_⟩
  have hrR : Rg p (List.replicate w 0) := rg_rep (by omega) w
  have hrl : (List.replicate w (0 : Int)).length = w := List.length_replicate
  have hix : ∀ {v : List Int}, v.length = w → ixN (vec v).length on = some k := fun {v} hv => by rw [hk]; exact ixN_ok (by rw [vec_len, hv]; exact hkw)
  have fin : ∀ (v : List Int) (h : List D) (s6 : Slot), Good p w v → Tap g h → W (evE (.prim fTuple (.cons (.var 5) (.nil))) (lsF h p wi (.sh (.int kd)) (.sh (.int on)) (.ow (vec v)) s6)) (SumEnd g p w) := fun v h s6 hv T => w_prim (W.of (a := [.loc 5]) (ρ := lsF h p wi (.sh (.int kd)) (.sh (.int on)) (.ow (vec v)) s6) rfl ⟨[.lst (vec v)], .d (.tup (vec v)), rfl, rfl, .d (.tup (vec v)), _, rfl, v, h, rfl, rfl, hv, T⟩)
  -- a value from 1 on
  have val : ∀ (v : List Int) (h : List D), Tap g h → ∀ {P : B → Env → Prop}, (∀ (z : Int) (h' : List D), 0 < z → z < p → Tap g h' → P (.d (.int z)) (lsF h' p wi (.sh (.int kd)) (.sh (.int on)) (.ow (vec v)) .un)) → W (evE (.prim fAdd (.cons (.con (.int 1)) (.cons (.call F_law_pick (.cons (.var 0) (.cons (.prim fSub (.cons (.var 1) (.cons (.con (.int 1)) .nil))) (.nil)))) .nil))) (lsF h p wi (.sh (.int kd)) (.sh (.int on)) (.ow (vec v)) .un)) P := fun v h T {P} q => by
    refine w_prim (wa_cons (W.of (a := .d (.int 1)) (ρ := lsF h p wi (.sh (.int kd)) (.sh (.int on)) (.ow (vec v)) .un) rfl (wa_cons (w_call (W.of (a := [.loc 0, .d (.int (p - 1))]) (ρ := lsF h p wi (.sh (.int kd)) (.sh (.int on)) (.ow (vec v)) .un) rfl ⟨rfl, [.ow h, .sh (.int (p - 1))], rfl, WF.mono (pick_ok (by omega) (by omega) T) ?_⟩)))))
    rintro r o ⟨y, h', rfl, rfl, y0, y1, T'⟩
    rw [backI (i := 0) (h' := h') rfl (fun j => by cases j <;> rfl)]
    exact wa_nil ⟨[.int 1, .int y], .d (.int (1 + y)), rfl, rfl, q (1 + y) h' (by omega) (by omega) T'⟩
  have put : ∀ (v : List Int) (h : List D) (z : Int) {nx : Env → Prop}, v.length = w → Rg p v → 0 < z → z < p → Tap g h → nx (lsF h p wi (.sh (.int kd)) (.sh (.int on)) (.ow (vec (v.set k z))) .un) → ∃ d ρ2, (B.d (.int z)).keep (lsF h p wi (.sh (.int kd)) (.sh (.int on)) (.ow (vec v)) .un) = some (d, ρ2) ∧ (∃ xs, ρ2.v[5]? = some (.ow xs)) ∧ W (evE (.var 4) ρ2) fun k ρ3 => ∃ z xs j, k.view ρ3 = some (.int z) ∧ ρ3.v[5]? = some (.ow xs) ∧ ixN xs.length z = some j ∧ nx (ρ3.setv 5 (.ow (xs.set j d))) := fun v h z {nx} hv hR z0 z1 T q =>
    ⟨.int z, lsF h p wi (.sh (.int kd)) (.sh (.int on)) (.ow (vec v)) .un, rfl, ⟨_, rfl⟩, W.of (a := .d (.int on)) rfl ⟨on, vec v, k, rfl, rfl, hix hv, by rw [vec_set]; exact q⟩⟩
  refine ws_cons (ws_ite (wt_or (W.of (a := decide (kd < 2)) (ρ := lsF h p wi (.sh (.int kd)) (.sh (.int on)) (.ow (vec (List.replicate w 0))) .un) rfl ⟨fun hk2 => ?_, fun hk2 => ?_⟩)))
  · refine ⟨fun _ => ?_, fun z => absurd z (by decide)⟩
    refine ws_cons (ws_seti (w_ite (W.of (a := decide (kd < 2)) (ρ := lsF h p wi (.sh (.int kd)) (.sh (.int on)) (.ow (vec (List.replicate w 0))) .un) rfl ⟨fun _ => W.of (a := .d (.int 1)) rfl ?_, fun z => absurd (z.symm.trans hk2) (by decide)⟩)))
    exact put _ h 1 (nx := fun ρ => WS (evSs (.cons (.ret (.prim fTuple (.cons (.var 5) (.nil)))) (.nil)) ρ) _ (SumEnd g p w) _) hrl hrR (by omega) hp1 T (ws_cons (ws_ret (fin _ h _ (good_set hrl hrR hkw (by omega) hp1) T)))
  · refine wt_eb (w_prim (W.of (a := [.d (.int wi), .d (.int 1)]) (ρ := lsF h p wi (.sh (.int kd)) (.sh (.int on)) (.ow (vec (List.replicate w 0))) .un) rfl ⟨[.int wi, .int 1], _, rfl, eq_int wi 1, _, rfl, fun hw1 => ?_, fun hw1 => ws_nil ?_⟩))
    · refine ws_cons (ws_seti (w_ite (W.of (a := decide (kd < 2)) (ρ := lsF h p wi (.sh (.int kd)) (.sh (.int on)) (.ow (vec (List.replicate w 0))) .un) rfl ⟨fun z => absurd (z.symm.trans hk2) (by decide), fun _ => val _ h T fun z h' z0 z1 T' => ?_⟩)))
      exact put _ h' z (nx := fun ρ => WS (evSs (.cons (.ret (.prim fTuple (.cons (.var 5) (.nil)))) (.nil)) ρ) _ (SumEnd g p w) _) hrl hrR z0 z1 T' (ws_cons (ws_ret (fin _ h' _ (good_set hrl hrR hkw z0 z1) T')))
    · have hw2 : 2 ≤ w := by
        have := of_decide_eq_false hw1
        omega
      refine ws_cons (ws_ite (wt_eb (w_prim (W.of (a := [.d (.int kd), .d (.int 2)]) (ρ := lsF h p wi (.sh (.int kd)) (.sh (.int on)) (.ow (vec (List.replicate w 0))) .un) rfl ⟨[.int kd, .int 2], _, rfl, eq_int kd 2, _, rfl, fun _ => ?_, fun _ => ws_nil ?_⟩))))
      · refine ws_cons (ws_seti2 (W.of (a := .d (.tup [.int 1, .int (p - 1)])) (ρ := lsF h p wi (.sh (.int kd)) (.sh (.int on)) (.ow (vec (List.replicate w 0))) .un) rfl ⟨.int 1, .int (p - 1), lsF h p wi (.sh (.int kd)) (.sh (.int on)) (.ow (vec (List.replicate w 0))) .un, rfl, ⟨_, rfl⟩, W.of (a := .d (.int on)) rfl ⟨on, vec (List.replicate w 0), k, rfl, rfl, hix hrl, ⟨_, rfl⟩, ?_⟩⟩))
        rw [vec_set]
        have hgs := good_set hrl hrR hkw (z := 1) (by omega) hp1
        generalize (List.replicate w (0:Int)).set k 1 = v1 at hgs ⊢
        show W (evE _ (lsF h p wi (.sh (.int kd)) (.sh (.int on)) (.ow (vec v1)) .un)) _
        refine w_prim (wa_cons (w_prim (wa_cons (W.of (a := .d (.int (on + 1))) (ρ := lsF h p wi (.sh (.int kd)) (.sh (.int on)) (.ow (vec v1)) .un) rfl (wa_cons (w_call (W.of (a := [.loc 0, .d (.int (wi - 1))]) (ρ := lsF h p wi (.sh (.int kd)) (.sh (.int on)) (.ow (vec v1)) .un) rfl ⟨rfl, [.ow h, .sh (.int (wi - 1))], rfl, WF.mono (pick_ok (by omega) (by omega) T) ?_⟩)))))))
        rintro r o ⟨y, h, rfl, rfl, y0, y1, T⟩
        rw [backI (i := 0) (h' := h) rfl (fun j => by cases j <;> rfl)]
        have hm : fMod [.int (on + 1 + y), .int wi] = some (.d (.int ((on + 1 + y) % wi))) := mod_ok (by omega)
        have m0 : 0 ≤ (on + 1 + y) % wi := Int.emod_nonneg _ (by omega)
        have m1 : (on + 1 + y) % wi < wi := Int.emod_lt_of_pos _ (by omega)
        refine wa_nil ⟨[.int (on + 1), .int y], .d (.int (on + 1 + y)), rfl, rfl, ?_⟩
        generalize on + 1 + y = u at hm m0 m1
        generalize u % wi = m at hm m0 m1
        obtain ⟨mn, hmn⟩ : ∃ mn : Nat, m = mn := ⟨m.toNat, by omega⟩
        refine W.of (a := [.d (.int wi)]) (ρ := lsF h p wi (.sh (.int kd)) (.sh (.int on)) (.ow (vec v1)) .un) rfl ⟨[.int u, .int wi], _, rfl, hm, m, vec v1, mn, rfl, rfl, by rw [hmn]; exact ixN_ok (by rw [vec_len, hgs.l]; omega), ?_⟩
        rw [vec_set]
        exact ws_cons (ws_ret (fin _ h _ (good_set hgs.l hgs.r (by omega) (by omega) (by omega)) T))
      · refine ws_cons (ws_asgV (w_lc (W.of (a := [.d (.int wi)]) (ρ := lsF h p wi (.sh (.int kd)) (.sh (.int on)) (.ow (vec (List.replicate w 0))) .un) rfl ⟨[.int wi], _, rfl, range1_ok (by omega) (by omega), ⟨by rw [upFrom_length, sizeLine_eq]; omega, rfl, rfl⟩, fun j acc ρ => ∃ h v, ρ = lsF h p wi (.sh (.int kd)) (.sh (.int on)) (.ow (vec (List.replicate w 0))) .un ∧ acc = vec v ∧ v.length = j ∧ Rg p v ∧ Tap g h, ⟨h, [], rfl, rfl, rfl, (fun x hx => by cases hx), T⟩, ?_, ?_⟩)))
        · rintro j x acc ρ2 hx ⟨h, v, rfl, rfl, hvl, hvR, T⟩
          obtain ⟨hj, rfl⟩ := upFrom_get _ _ _ _ hx
          generalize 0 + (j : Int) = ji
          have add : ∀ (y : Int) (h' : List D), 0 ≤ y → y < p → Tap g h' → ∃ d ρ6, (B.d (.int y)).keep (lsF h' p wi (.sh (.int kd)) (.sh (.int on)) (.ow (vec (List.replicate w 0))) (.sh (.int ji))) = some (d, ρ6) ∧ ∃ h v_1, wipeE ρ6 [6] = lsF h p wi (.sh (.int kd)) (.sh (.int on)) (.ow (vec (List.replicate w 0))) .un ∧ vec v ++ [d] = vec v_1 ∧ v_1.length = j + 1 ∧ Rg p v_1 ∧ Tap g h := fun y h' y0 y1 T' => ⟨.int y, _, rfl, h', v ++ [y], rfl, vec_app v [y], by rw [List.length_append, hvl]; rfl, rg_app hvR (fun x hx => by
            have : x = y := by simpa using hx
            omega), T'⟩
          refine ⟨lsF h p wi (.sh (.int kd)) (.sh (.int on)) (.ow (vec (List.replicate w 0))) (.sh (.int ji)), rfl, W.of (a := true) rfl ⟨fun _ => ?_, fun z => absurd z (by decide)⟩⟩
          refine w_ite (wt_eb (w_prim (wa_cons (w_call (W.of (a := [.loc 0, .d (.int 3)]) (ρ := lsF h p wi (.sh (.int kd)) (.sh (.int on)) (.ow (vec (List.replicate w 0))) (.sh (.int ji))) rfl ⟨rfl, [.ow h, .sh (.int 3)], rfl, WF.mono (pick_ok (by decide) (by decide) T) ?_⟩)))))
          rintro r o ⟨y, h, rfl, rfl, y0, y1, T⟩
          rw [backI (i := 0) (h' := h) rfl (fun j => by cases j <;> rfl)]
          refine W.of (a := [.d (.int 0)]) (ρ := lsF h p wi (.sh (.int kd)) (.sh (.int on)) (.ow (vec (List.replicate w 0))) (.sh (.int ji))) rfl ⟨[.int y, .int 0], .d (.bl (decide (y > 0))), rfl, rfl, _, rfl, fun _ => ?_, fun _ => W.of (a := .d (.int 0)) rfl (add 0 h (by omega) (by omega) T)⟩
          refine w_call (W.of (a := [.loc 0, .d (.int p)]) (ρ := lsF h p wi (.sh (.int kd)) (.sh (.int on)) (.ow (vec (List.replicate w 0))) (.sh (.int ji))) rfl ⟨rfl, [.ow h, .sh (.int p)], rfl, WF.mono (pick_ok (by omega) (by omega) T) ?_⟩)
          rintro r o ⟨y, h', rfl, rfl, y0, y1, T'⟩
          rw [backI (i := 0) (h' := h') rfl (fun j => by cases j <;> rfl)]
          exact add y h' y0 y1 T'
        · rintro acc ρ3 ⟨h, v, rfl, rfl, hvl, hvR, T⟩
          rw [upFrom_length] at hvl
          have hvw : v.length = w := by omega
          refine ⟨rfl, lsF h p wi (.sh (.int kd)) (.sh (.int on)) (.ow (vec v)) .un, rfl, ?_⟩
          refine ws_cons (ws_seti (val v h T fun z h' z0 z1 T' => ?_))
          exact put v h' z (nx := fun ρ => WS (evSs (.cons (.ret (.prim fTuple (.cons (.var 5) (.nil)))) (.nil)) ρ) _ (SumEnd g p w) _) hvw hvR z0 z1 T' (ws_cons (ws_ret (fin _ h' _ (good_set hvw hvR hkw z0 z1) T')))
end Ev
namespace Ev
open PySem L2
def PcG (p : Int) (w : Nat) (R : List Pc) : Prop := ∀ a ∈ R, Good p w a.1 ∧ 1 ≤ a.2 ∧ a.2 ≤ 1000000
def pcF (h : List D) (p wi mi mo : Int) (R : List Pc) (s6 s7 : Slot) : Env := ⟨[.ow h, .sh (.int p), .sh (.int wi), .sh (.int mi), .sh (.int mo), .ow (pcsD R), s6, s7], [.att, .un, .un, .un, .un]⟩
def PcI (g : List Int) (p wi mi mo : Int) (w j : Nat) (ρ : Env) : Prop := ∃ h R s6 s7, ρ = pcF h p wi mi mo R s6 s7 ∧ R.length = j ∧ PcG p w R ∧ Tap g h
def pcTail : Ss := match ir_law_pieces with
  | .cons _ (.cons (.for _ _ _ (.cons _ (.cons _ ss))) _) => ss
  | _ => .nil
theorem pcs_snoc (R : List Pc) (a : Pc) : pcsD R ++ [pcD a] = pcsD (R ++ [a]) := by
  unfold pcsD
  rw [List.map_append]
  rfl
theorem pc_tail {g : List Int} {h : List D} {p wi mi mo ji : Int} {w j : Nat} {R : List Pc} {v : List Int} (hmo : 0 < mo ∧ mo ≤ 1000000) (hR : R.length = j) (hj : j ≤ 100) (hG : PcG p w R) (hv : Good p w v) (T : Tap g h) {rt : B → Env → Prop} {bk : Env → Prop} :
    WS (evSs pcTail (pcF h p wi mi mo R (.sh (.int ji)) (.sh (.tup (vec v))))) (PcI g p wi mi mo w (j + 1)) rt bk := by
  refine ws_cons (ws_ex (w_mut (xs0 := pcsD R) rfl (wd_cons (w_tup (wd_cons (W.of (a := .d (.tup (vec v))) (ρ := pcF h p wi mi mo R (.sh (.int ji)) (.sh (.tup (vec v)))) rfl ⟨.tup (vec v), _, rfl, wd_cons (w_prim (wa_cons (W.of (a := .d (.int 1)) (ρ := pcF h p wi mi mo R (.sh (.int ji)) (.sh (.tup (vec v)))) rfl (wa_cons (w_call (W.of (a := [.loc 0, .d (.int mo)]) (ρ := pcF h p wi mi mo R (.sh (.int ji)) (.sh (.tup (vec v)))) rfl ⟨rfl, [.ow h, .sh (.int mo)], rfl, WF.mono (pick_ok (by omega) (by omega) T) ?_⟩))))))⟩))))))
  rintro r o ⟨y, h', rfl, rfl, y0, y1, T'⟩
  rw [backI (i := 0) (h' := h') rfl (fun j => by cases j <;> rfl)]
  refine wa_nil ⟨[.int 1, .int y], .d (.int (1 + y)), rfl, rfl, .int (1 + y), _, rfl, wd_nil ⟨by simp, .tup [.tup (vec v), .int (1 + y)], _, rfl, wd_nil ⟨pcsD R, pcsD (R ++ [(v, 1 + y)]), .non, rfl, (append_ok (by rw [pcsD_len]; omega)).trans (by rw [← pcs_snoc]; rfl), ws_nil ⟨h', R ++ [(v, 1 + y)], _, _, rfl, by rw [List.length_append, hR]; rfl, fun a ha => ?_, T'⟩⟩⟩⟩
  rcases List.mem_append.mp ha with ha | ha
  · exact hG a ha
  · have : a = (v, 1 + y) := by simpa using ha
    rw [this]
    exact ⟨hv, by show 1 ≤ 1 + y; omega, by show 1 + y ≤ 1000000; omega⟩
theorem law_pieces_ok {g : List Int} {h : List D} {p wi mi mo : Int} {w m : Nat} (hpp : p ∈ primes) (hwi : wi = w) (h1 : 1 ≤ w) (h2 : w ≤ 10) (hmi : mi = m) (hm : m ≤ 100) (hmo : 0 < mo ∧ mo ≤ 1000000) (T : Tap g h) :
    WF (F_law_pieces [.ow h, .sh (.int p), .sh (.int wi), .sh (.int mi), .sh (.int mo)]) fun r o => ∃ R h', r = .nw (pcsD R) ∧ o = [.ow h', .un, .un, .un, .un] ∧ R.length = m ∧ PcG p w R ∧ Tap g h' := by
  refine wf_fn (ws_cons (ws_asgV (w_lst (wd_nil ⟨by simp, rfl, pcF h p wi mi mo [] .un .un, rfl, ?_⟩))))
  refine ws_cons (ws_for (W.of (a := [.d (.int mi)]) (ρ := pcF h p wi mi mo [] .un .un) rfl ⟨[.int mi], upFrom mi.toNat 0, rfl, range1_ok (by omega) (by omega), PcI g p wi mi mo w, ⟨h, [], _, _, rfl, rfl, (fun a ha => by cases ha), T⟩, ?_, ?_⟩))
  · rintro j x ρ2 hx ⟨h, R, s6, s7, rfl, hR, hG, T⟩
    obtain ⟨hj, rfl⟩ := upFrom_get _ _ _ _ hx
    have hj100 : j ≤ 100 := by omega
    obtain ⟨ji, hji⟩ : ∃ ji : Int, ji = 0 + (j : Int) := ⟨_, rfl⟩
    rw [← hji]
    refine ⟨pcF h p wi mi mo R (.sh (.int ji)) s7, bnd_free rfl rfl, ?_⟩
    refine ws_cons (ws_asgV (w_call (W.of (a := [.loc 0, .d (.int p), .d (.int wi)]) (ρ := pcF h p wi mi mo R (.sh (.int ji)) s7) rfl ⟨rfl, [.ow h, .sh (.int p), .sh (.int wi)], rfl, WF.mono (law_sum_ok hpp hwi h1 h2 T) ?_⟩)))
    rintro r o ⟨s, h, rfl, rfl, hs, T⟩
    rw [backI (i := 0) (h' := h) rfl (fun j => by cases j <;> rfl)]
    refine ⟨rfl, pcF h p wi mi mo R (.sh (.int ji)) (.sh (.tup (vec s))), bnd_free rfl rfl, ?_⟩
    refine ws_cons (ws_ite (wt_and (wt_eb (w_prim (W.of (a := [.d (.int ji), .d (.int 0)]) (ρ := pcF h p wi mi mo R (.sh (.int ji)) (.sh (.tup (vec s)))) rfl ⟨[.int ji, .int 0], .d (.bl (decide (ji > 0))), rfl, rfl, _, rfl, fun hj0 => ?_, fun _ => ⟨fun z => absurd z (by decide), fun _ => ws_nil (pc_tail hmo hR hj100 hG hs T)⟩⟩)))))
    have hj0 := of_decide_eq_true hj0
    refine wt_eb (w_prim (wa_cons (w_call (W.of (a := [.loc 0, .d (.int 7)]) (ρ := pcF h p wi mi mo R (.sh (.int ji)) (.sh (.tup (vec s)))) rfl ⟨rfl, [.ow h, .sh (.int 7)], rfl, WF.mono (pick_ok (by decide) (by decide) T) ?_⟩))))
    rintro r o ⟨y, h, rfl, rfl, y0, y1, T⟩
    rw [backI (i := 0) (h' := h) rfl (fun j => by cases j <;> rfl)]
    refine W.of (a := [.d (.int 0)]) (ρ := pcF h p wi mi mo R (.sh (.int ji)) (.sh (.tup (vec s)))) rfl ⟨[.int y, .int 0], _, rfl, eq_int y 0, _, rfl, fun _ => ?_, fun _ => ws_nil (pc_tail hmo hR hj100 hG hs T)⟩
    refine ws_cons (ws_asgV (w_prim (wa_cons (w_prim (wa_cons (W.of (a := .loc 5) (ρ := pcF h p wi mi mo R (.sh (.int ji)) (.sh (.tup (vec s)))) rfl (wa_cons (w_call (W.of (a := [.loc 0, .d (.int ji)]) (ρ := pcF h p wi mi mo R (.sh (.int ji)) (.sh (.tup (vec s)))) rfl ⟨rfl, [.ow h, .sh (.int ji)], rfl, WF.mono (pick_ok (by omega) (by omega) T) ?_⟩)))))))))
    rintro r o ⟨y, h, rfl, rfl, y0, y1, T⟩
    rw [backI (i := 0) (h' := h) rfl (fun j => by cases j <;> rfl)]
    obtain ⟨k, rfl⟩ : ∃ k : Nat, y = k := ⟨y.toNat, by omega⟩
    have hk : k < R.length := by omega
    have hix := ixPL hk
    have hg := (hG _ (pcAt_mem hk)).1
    generalize pcAt R k = a at hix hg
    generalize (k : Int) = ki at hix
    refine wa_nil ⟨[.lst (pcsD R), .int ki], _, rfl, hix, ?_⟩
    refine W.of (a := [.d (.int 0)]) (ρ := pcF h p wi mi mo R (.sh (.int ji)) (.sh (.tup (vec s)))) rfl ⟨[pcD a, .int 0], .d (.tup (vec a.1)), rfl, rfl, rfl, pcF h p wi mi mo R (.sh (.int ji)) (.sh (.tup (vec a.1))), rfl, ?_⟩
    exact ws_nil (pc_tail hmo hR hj100 hG hg T)
  · rintro ρ2 ⟨h, R, s6, s7, rfl, hR, hG, T⟩
    rw [upFrom_length] at hR
    rw [unlocks0 fun i => rfl]
    refine ws_cons (ws_ret (W.of (a := .loc 5) (ρ := pcF h p wi mi mo R s6 s7) rfl ⟨.nw (pcsD R), pcF h p wi mi mo R s6 s7, rfl, R, h, rfl, rfl, by omega, hG, T⟩))
end Ev
namespace Ev
open PySem L2
theorem good_marks {p : Int} {w j : Nat} (hp : 1 < p) (hj : j < w) : Good p w (marks w j) := by
  refine ⟨marks_len w j, rg_marks hp w j, fun q => ?_⟩
  have := marks_at (m := w) (k := j) hj
  rw [q, rep_getD, if_pos rfl] at this
  omega
end Ev
namespace Ev
open PySem L2
section
variable {p : Int} {w : Nat} {P : List Pc}
/-- one of a relation is made of those that stand with it -/
theorem rel_mk {L M : List Nat} {c : List Int} {m : Nat} (hpp : p ∈ primes) (hc : Nou p w (picks P L) c) (hm : m < L.length) (hz : co c m ≠ 0) (h : ∀ j, j < L.length → j ≠ m → co c j = 0 ∨ L.getD j 0 ∈ M) : Mk' p w P M (L.getD m 0) := by
  obtain ⟨hp1, hp2⟩ := primes_lt hpp
  obtain ⟨n, hn⟩ : ∃ n, L.length = n + 1 := ⟨L.length - 1, by omega⟩
  have hsk : ∀ k, k < n → Lin.skip m k < L.length ∧ Lin.skip m k ≠ m := fun k hk => by
    unfold Lin.skip
    by_cases z : k < m
    · rw [if_pos z]; omega
    · rw [if_neg z]; omega
  obtain ⟨hc0, hc1⟩ := hc.r.at (j := m) (by rw [hc.l, picks_len]; exact hm)
  obtain ⟨t, ht⟩ := prime_inv hpp (co c m) (ndv hz hc0 hc1)
  have hs := sp_sumz (p := p) (w := w) (s := fun k => row (picks P L) (Lin.skip m k)) (T := Lin.Pre (row (picks P M)) M.length) (e := fun k => co c (Lin.skip m k)) (m := n) fun k hk => by
    obtain ⟨a, b⟩ := hsk k hk
    rcases h _ a b with z | z
    · exact .inl z
    · right
      obtain ⟨i, hi, e2⟩ := picks_mem (P := P) z
      show Lin.Pre _ _ (row (picks P L) (Lin.skip m k))
      rw [row_picks a]
      exact ⟨i, hi, e2⟩
  refine (Lin.Sp.smul (-t) hs).congr fun i hi => ?_
  have a := hc.e i hi
  rw [picks_len, hn, Lin.sum_skip (k0 := m) (by omega), row_picks hm] at a
  have b := Lin.dvMul t a
  have d := Lin.dvMul (co (pcAt P (L.getD m 0)).1 i) ht
  generalize co (pcAt P (L.getD m 0)).1 i = v at *
  show p ∣ v - -t * Lin.sumTo n (fun k => co c (Lin.skip m k) * row (picks P L) (Lin.skip m k) i)
  generalize Lin.sumTo n (fun k => co c (Lin.skip m k) * row (picks P L) (Lin.skip m k) i) = u at *
  generalize co c m = cj at *
  rw [Int.mul_add] at b
  rw [Int.mul_sub, Int.mul_one] at d
  have e3 : v * (t * cj) = t * (cj * v) := by rw [Int.mul_left_comm, Int.mul_comm v]
  rw [e3] at d
  rw [Int.neg_mul]
  exact Lin.dvOf (Lin.dvSub b d) (by omega)
theorem nodup_perm {L M : List Nat} (a : L.Nodup) (b : M.Nodup) (h : ∀ k, k ∈ L ↔ k ∈ M) : L.Perm M := (List.perm_ext_iff_of_nodup a b).mpr h
/-- what lies in a lot that stands alone stands alone -/
theorem ind_sub {L M : List Nat} (hpp : p ∈ primes) (h2 : w ≤ 10) (hP : Pcs p w P) (hL : L.length ≤ 100) (hin : ∀ k ∈ L, k < P.length) (hd : L.Nodup) (hM : M.Nodup) (hs : ∀ k ∈ M, k ∈ L) (hk : rk p w P L = L.length) : rk p w P M = M.length := by
  have hp : L.Perm (M ++ L.filter fun k => !decide (k ∈ M)) := by
    refine nodup_perm hd (List.nodup_append.mpr ⟨hM, hd.filter _, fun a ha b hb e => ?_⟩) fun k => ⟨fun h => ?_, fun h => ?_⟩
    · have := (List.mem_filter.mp hb).2
      rw [← e] at this
      simp [ha] at this
    · by_cases z : k ∈ M
      · exact List.mem_append_left _ z
      · exact List.mem_append_right _ (List.mem_filter.mpr ⟨h, by simp [z]⟩)
    · rcases List.mem_append.mp h with h | h
      · exact hs k h
      · exact (List.mem_filter.mp h).1
  have e := rk_perm hpp h2 hP hL hin hp
  rw [hk, hp.length_eq] at e
  generalize L.filter (fun k => !decide (k ∈ M)) = R at e
  refine rk_full.mpr fun j hj => ?_
  refine tk_congr (fun i hi => ?_) (rk_full.mp e.symm j (by rw [List.length_append]; omega))
  rw [row_picks (by rw [List.length_append]; omega), row_picks (by omega), List.getD_eq_getElem?_getD, List.getD_eq_getElem?_getD, List.getElem?_append_left (by omega)]
structure Circ (p : Int) (w : Nat) (P : List Pc) (rs : List Nat) : Prop where
  lot : IsLot P.length rs
  dep : rk p w P rs < rs.length
  ind : ∀ k ∈ rs, rk p w P (dropK rs k) = (dropK rs k).length
noncomputable def rfl' (p : Int) (w : Nat) (P : List Pc) (l : List Nat) (x : Nat) : List Nat := l.filter fun k => decide (rk p w P (dropK l k ++ [x]) = l.length)
theorem lot_nodup {m : Nat} {l : List Nat} (h : IsLot m l) : l.Nodup := h.up.imp fun h => by omega
theorem drop_nodup {l : List Nat} (h : l.Nodup) (k : Nat) : (dropK l k).Nodup := h.filter _
theorem mem_drop {l : List Nat} {k y : Nat} : y ∈ dropK l k ↔ y ∈ l ∧ y ≠ k := by
  unfold dropK
  rw [List.mem_filter]
  exact ⟨fun ⟨a, b⟩ => ⟨a, by simpa using b⟩, fun ⟨a, b⟩ => ⟨a, by simpa using b⟩⟩
theorem snoc_nodup {l : List Nat} {x : Nat} (h : l.Nodup) (hx : x ∉ l) : (l ++ [x]).Nodup := List.nodup_append.mpr ⟨h, by simp, fun a ha b hb e => by
  have : b = x := by simpa using hb
  exact hx (by rw [← this, ← e]; exact ha)⟩
theorem circ_of {l : List Nat} {x : Nat} {c : List Int} (hpp : p ∈ primes) (h2 : w ≤ 10) (hP : Pcs p w P) (hl : IsLot P.length l) (hx : x < P.length) (hxl : x ∉ l) (hk : rk p w P l = l.length) (hc : Nou p w (picks P (l ++ [x])) c) (h1 : co c l.length = 1) : Circ p w P (srtN (rfl' p w P l x ++ [x])) := by
  have hl40 := lot_len hP.n hl
  have hnd := lot_nodup hl
  have hFs : ∀ k ∈ rfl' p w P l x, k ∈ l := fun k hk => (List.mem_filter.mp hk).1
  have hFn : (rfl' p w P l x).Nodup := hnd.filter _
  have hFx : x ∉ rfl' p w P l x := fun h => hxl (hFs x h)
  have hFi := ind_sub hpp h2 hP (by omega) hl.lt hnd hFn hFs hk
  have hFl : (rfl' p w P l x).length ≤ 40 := Nat.le_trans (List.length_filter_le _ _) hl40
  have hin : ∀ k ∈ rfl' p w P l x ++ [x], k < P.length := fun k hk => by
    rcases List.mem_append.mp hk with hk | hk
    · exact hl.lt k (hFs k hk)
    · have : k = x := by simpa using hk
      rw [this]; exact hx
  have hsn := snoc_nodup hFn hFx
  have hlen : (rfl' p w P l x ++ [x]).length = (rfl' p w P l x).length + 1 := by rw [List.length_append]; rfl
  have hlot := srtN_lot hsn hin
  have hpm := srtN_perm (rfl' p w P l x ++ [x])
  refine ⟨hlot, ?_, fun k hkm => ?_⟩
  · rw [hpm.length_eq, ← rk_perm hpp h2 hP (by omega) hin hpm.symm, hlen]
    have hmk : Mk' p w P (rfl' p w P l x) ((l ++ [x]).getD l.length 0) := rel_mk hpp hc (by rw [List.length_append]; simp) (by rw [h1]; omega) fun j hj hjm => by
      have hjl : j < l.length := by
        rw [List.length_append] at hj
        have hj : j < l.length + 1 := hj
        omega
      by_cases z : co c j = 0
      · exact .inl z
      · right
        rw [List.getD_eq_getElem?_getD, List.getElem?_append_left hjl, ← List.getD_eq_getElem?_getD]
        exact List.mem_filter.mpr ⟨getD_mem0 hjl, decide_eq_true ((ring_iff hpp h2 hP hnd (by omega) hl.lt hx hk hc h1 hjl).mpr z)⟩
    rw [List.getD_eq_getElem?_getD, List.getElem?_append_right (Nat.le_refl _), Nat.sub_self] at hmk
    have hmk : Mk' p w P (rfl' p w P l x) x := hmk
    have : ¬ rk p w P (rfl' p w P l x ++ [x]) = (rfl' p w P l x).length + 1 := fun q => (rk_snoc hFi).mp q hmk
    have hle := rk_le p w P (rfl' p w P l x ++ [x])
    rw [hlen] at hle
    omega
  · have hdn := drop_nodup (lot_nodup hlot) k
    have hmem : ∀ y, y ∈ dropK (srtN (rfl' p w P l x ++ [x])) k → y ≠ k ∧ (y ∈ rfl' p w P l x ∨ y = x) := fun y hy => by
      obtain ⟨a, b⟩ := mem_drop.mp hy
      refine ⟨b, ?_⟩
      rcases List.mem_append.mp (hpm.mem_iff.mp a) with h | h
      · exact .inl h
      · exact .inr (by simpa using h)
    rcases List.mem_append.mp (hpm.mem_iff.mp hkm) with hkF | hkx
    · have hq := of_decide_eq_true (List.mem_filter.mp hkF).2
      have hkl := hFs k hkF
      have hd1 := drop_len1 hnd hkl
      have hxd : x ∉ dropK l k := fun h => hxl (mem_drop.mp h).1
      refine ind_sub hpp h2 hP (L := dropK l k ++ [x]) (by rw [List.length_append]; show (dropK l k).length + 1 ≤ 100; omega) (fun y hy => ?_) (snoc_nodup (drop_nodup hnd k) hxd) hdn (fun y hy => ?_) (by rw [hq, List.length_append]; exact hd1.symm)
      · rcases List.mem_append.mp hy with hy | hy
        · exact hl.lt y (mem_drop.mp hy).1
        · have : y = x := by simpa using hy
          rw [this]; exact hx
      · obtain ⟨a, b | b⟩ := hmem y hy
        · exact List.mem_append_left _ (mem_drop.mpr ⟨hFs y b, a⟩)
        · rw [b]; simp
    · have hkx : k = x := by simpa using hkx
      refine ind_sub hpp h2 hP (L := l) (by omega) hl.lt hnd hdn (fun y hy => ?_) hk
      obtain ⟨a, b | b⟩ := hmem y hy
      · exact hFs y b
      · exact absurd (b.trans hkx.symm) a
theorem circ_full {rs : List Nat} {c : List Int} {m : Nat} (hpp : p ∈ primes) (h2 : w ≤ 10) (hP : Pcs p w P) (h : Circ p w P rs) (hc : Nou p w (picks P rs) c) (hm : m < rs.length) (h1 : co c m = 1) : ∀ j, j < rs.length → co c j ≠ 0 := by
  intro j hj hz
  have hl40 := lot_len hP.n h.lot
  have hnd := lot_nodup h.lot
  have hjm : j ≠ m := fun e => by rw [e, h1] at hz; omega
  have hat : ∀ a b, a < rs.length → b < rs.length → a ≠ b → rs.getD a 0 ≠ rs.getD b 0 := fun a b ha hb hab e => by
    rw [List.getD_eq_getElem?_getD, List.getD_eq_getElem?_getD, List.getElem?_eq_getElem ha, List.getElem?_eq_getElem hb] at e
    exact hab ((List.getElem_inj hnd).mp e)
  have hD := h.ind _ (getD_mem0 hj)
  have hDn := drop_nodup hnd (rs.getD j 0)
  have hDl := drop_len1 hnd (getD_mem0 hj)
  have hDin : ∀ k ∈ dropK rs (rs.getD j 0), k < P.length := fun k hk => h.lot.lt k (mem_drop.mp hk).1
  have hmD : rs.getD m 0 ∈ dropK rs (rs.getD j 0) := mem_drop.mpr ⟨getD_mem0 hm, hat m j hm hj hjm.symm⟩
  have hmk := rel_mk (M := dropK (dropK rs (rs.getD j 0)) (rs.getD m 0)) hpp hc hm (by rw [h1]; omega) fun i hi him => by
    by_cases z : i = j
    · rw [z]; exact .inl hz
    · exact .inr (mem_drop.mpr ⟨mem_drop.mpr ⟨getD_mem0 hi, hat i j hi hj z⟩, hat i m hi hm him⟩)
  generalize dropK rs (rs.getD j 0) = D at hD hDn hDl hDin hmD hmk
  generalize rs.getD m 0 = km at hmD hmk
  have hi := ind_sub hpp h2 hP (by omega) hDin hDn (drop_nodup hDn km) (fun k hk => (mem_drop.mp hk).1) hD
  have hp : D.Perm (dropK D km ++ [km]) := nodup_perm hDn (snoc_nodup (drop_nodup hDn km) fun h => (mem_drop.mp h).2 rfl) fun k => ⟨fun h => by
    by_cases z : k = km
    · rw [z]; simp
    · exact List.mem_append_left _ (mem_drop.mpr ⟨h, z⟩), fun h => by
    rcases List.mem_append.mp h with h | h
    · exact (mem_drop.mp h).1
    · have : k = km := by simpa using h
      rw [this]; exact hmD⟩
  have e := rk_perm hpp h2 hP (by omega) hDin hp
  rw [hD, hp.length_eq, List.length_append] at e
  exact (rk_snoc hi).mp e.symm hmk
end
end Ev
namespace Ev
open PySem L2
theorem in_vec (z : Int) (L : List Int) : fInM [.int z, .tup (vec L)] = some (.d (.bl (decide (z ∈ L)))) := by
  have h1 : inI z L = decide (z ∈ L) := by
    unfold inI
    by_cases h : z ∈ L
    · rw [decide_eq_true h, List.any_eq_true]
      exact ⟨z, h, decide_eq_true rfl⟩
    · rw [decide_eq_false h, List.any_eq_false]
      intro k hk q
      exact h (by rw [← (of_decide_eq_true q : k = z)]; exact hk)
  have h2 : inT? (.int z) (.tup (vec L)) = some (decide (z ∈ L)) := by
    show (match nums (vec L) with | some ns => some (inI z ns) | none => none) = _
    rw [nums_vec]
    show some _ = _
    rw [h1]
  show (match inM? (.int z) (.tup (vec L)) with | some k => some (RB.d (.bl k)) | none => none) = _
  unfold inM?
  rw [h2]
theorem width_nil : WF (F_width_of [.sh (.tup (sumsD []))]) fun r o => r = .d (.int 0) ∧ o = [.un] := by
  refine wf_fn (ws_cons (ws_ite (wt_eb (w_prim (wa_cons (w_prim (W.of (a := [.d (.tup (sumsD []))]) (ρ := ⟨[.sh (.tup (sumsD []))], [.un]⟩) rfl ⟨[.tup (sumsD [])], .d (.int 0), rfl, rfl, ?_⟩)))))))
  refine W.of (a := [.d (.int 0)]) (ρ := ⟨[.sh (.tup (sumsD []))], [.un]⟩) rfl ⟨[.int 0, .int 0], .d (.bl true), rfl, eq_int 0 0, true, rfl, fun _ => ?_, fun z => absurd z (by decide)⟩
  exact ws_cons (ws_ret (W.of (a := .d (.int 0)) (ρ := ⟨[.sh (.tup (sumsD []))], [.un]⟩) rfl ⟨.d (.int 0), _, rfl, rfl, rfl⟩))
section
variable {p wi : Int} {w : Nat} {P : List Pc}
theorem nought_lot {L : List Nat} (hpp : p ∈ primes) (h2 : w ≤ 10) (hP : Pcs p w P) (hd : L.Nodup) (hin : ∀ k ∈ L, k < P.length) :
    WF (F_nought_of [.sh (.int p), .sh (.tup (sumsD (picks P L)))]) fun r o => o = [.un, .un] ∧ NouEnd p w (picks P L) r := by
  have hl : L.length ≤ 40 := by
    have := lot_len hP.n (srtN_lot hd hin)
    rw [(srtN_perm L).length_eq] at this
    exact this
  have hg : ∀ s ∈ picks P L, Good p w s := fun s hs => by
    unfold picks at hs
    obtain ⟨k, hk, rfl⟩ := List.mem_map.mp hs
    exact hP.g _ (pcAt_mem (hin k hk))
  have hS : ∀ s ∈ picks P L, s.length = w ∧ Rg p s := fun s hs => ⟨(hg s hs).l, (hg s hs).r⟩
  have hn : (picks P L).length ≤ 40 := by rw [picks_len]; exact hl
  generalize picks P L = S at hg hS hn
  cases hSS : S with
  | nil => exact nought_ok (wi := 0) hpp (by omega) (by simp) (fun s hs => by cases hs) (fun _ => rfl) (fun h => absurd rfl h) width_nil
  | cons a b =>
    rw [hSS] at hg hS hn
    exact nought_ok (wi := (w : Int)) hpp (by omega) (by omega) hS (fun h => by cases h) (fun _ => rfl) (width_of_ok ⟨hn, hg⟩ (by simp))
end
end Ev
namespace Ev
open PySem L2
/-! ### alike to itself -/
def oP : Option Nat → PyData
  | none => .none
  | some z => .int (z : Int)
end Ev
namespace Mat
/-! ### what is lightest piece by piece is lightest in all -/
def tot (sz : Nat → Int) : List Nat → Int
  | [] => 0
  | a :: l => sz a + tot sz l
end Mat
namespace Ev
open PySem L2
/-! ### lots as data (as in k08's texts) -/
def lotD (l : List Nat) : D := .tup (nats l)
def lotP (l : List Nat) : PyData := .tuple ((l.map fun k : Nat => (k : Int)).map PyData.int)
def lotsD (L : List (List Nat)) : List D := L.map lotD
theorem lotsD_len (L : List (List Nat)) : (lotsD L).length = L.length := List.length_map ..
theorem py_lot (l : List Nat) : (lotD l).py = some (lotP l) := by
  unfold lotD lotP
  rw [nats_vec, py_tup]
theorem pys_lots : ∀ L : List (List Nat), D.pys (lotsD L) = some (L.map lotP)
  | [] => rfl
  | l :: L => by
    show D.pys (lotD l :: lotsD L) = _
    unfold D.pys
    rw [py_lot, pys_lots L]
    rfl
theorem alike_lots (a b : List Nat) : PySem.W.alike (lotP a) (lotP b) = true := by
  show PySem.W.alikeAll ((a.map fun k : Nat => (k : Int)).map PyData.int) ((b.map fun k : Nat => (k : Int)).map PyData.int) = true
  exact alike_ints _ _
theorem dep_lot (l : List Nat) : PyData.depth (lotP l) = 1 := by
  show PyData.depthAll ((l.map fun k : Nat => (k : Int)).map PyData.int) + 1 = 1
  rw [dep_vec]
def keyP (l : List Nat) : PyData := .tuple [.int ((l.length : Nat) : Int), lotP l]
def keyL (l : List Nat) : D := .tup [.int ((l.length : Nat) : Int), lotD l]
theorem pys_keyL : ∀ L : List (List Nat), D.pys (L.map keyL) = some (L.map keyP)
  | [] => rfl
  | l :: L => by
    show D.pys (keyL l :: L.map keyL) = _
    have e : (keyL l).py = some (keyP l) := by
      show (match D.pys [D.int ((l.length : Nat) : Int), lotD l] with | some ps => some (PyData.tuple ps) | none => none) = _
      unfold D.pys
      unfold D.pys
      rw [py_lot]
      rfl
    unfold D.pys
    rw [e, pys_keyL L]
    rfl
theorem alike_keyP (a b : List Nat) : PySem.W.alike (keyP a) (keyP b) = true := by
  show (PySem.W.alike (.int ((a.length : Nat) : Int)) (.int ((b.length : Nat) : Int)) && (PySem.W.alike (lotP a) (lotP b) && true)) = true
  rw [alike_lots]
  rfl
/-- all lots of so many pieces -/
def subL : Nat → List (List Nat)
  | 0 => [[]]
  | n + 1 => subL n ++ (subL n).map fun l => l ++ [n]
theorem subL_len : ∀ n, (subL n).length = 2 ^ n
  | 0 => rfl
  | n + 1 => by
    show (subL n ++ _).length = _
    rw [List.length_append, List.length_map, subL_len n, Nat.pow_succ]
    omega
theorem nil_lot (n : Nat) : IsLot n [] := ⟨(fun k hk => absurd hk (by simp)), List.Pairwise.nil⟩
theorem lot_snoc {n : Nat} {l : List Nat} : IsLot (n + 1) l ↔ IsLot n l ∨ ∃ l', l = l' ++ [n] ∧ IsLot n l' := by
  constructor
  · intro h
    rcases List.eq_nil_or_concat l with rfl | ⟨l', k, rfl⟩
    · exact .inl (nil_lot _)
    · rw [List.concat_eq_append] at h ⊢
      obtain ⟨h1, h2, h3⟩ := List.pairwise_append.mp h.up
      have hk : k < n + 1 := h.lt k (by simp)
      have hlt : ∀ x ∈ l', x < k := fun x hx => h3 x hx k (by simp)
      by_cases e : k = n
      · subst e
        exact .inr ⟨l', rfl, hlt, h1⟩
      · refine .inl ⟨fun x hx => ?_, h.up⟩
        rcases List.mem_append.mp hx with hx | hx
        · have := hlt x hx
          omega
        · have : x = k := by simpa using hx
          omega
  · rintro (h | ⟨l', rfl, h⟩)
    · exact ⟨fun k hk => Nat.lt_succ_of_lt (h.lt k hk), h.up⟩
    · refine ⟨fun k hk => ?_, List.pairwise_append.mpr ⟨h.up, by simp, fun x hx y hy => ?_⟩⟩
      · rcases List.mem_append.mp hk with hk | hk
        · exact Nat.lt_succ_of_lt (h.lt k hk)
        · have : k = n := by simpa using hk
          omega
      · have : y = n := by simpa using hy
        have := h.lt x hx
        omega
theorem subL_mem : ∀ {n : Nat} {l : List Nat}, l ∈ subL n ↔ IsLot n l
  | 0, l => by
    show l ∈ [[]] ↔ _
    constructor
    · intro h
      have : l = [] := by simpa using h
      subst this
      exact nil_lot _
    · intro h
      cases l with
      | nil => simp
      | cons a l => have := h.lt a (by simp); omega
  | n + 1, l => by
    show l ∈ subL n ++ (subL n).map (fun l => l ++ [n]) ↔ _
    rw [List.mem_append, List.mem_map, lot_snoc]
    constructor
    · rintro (h | ⟨l', h, rfl⟩)
      · exact .inl (subL_mem.mp h)
      · exact .inr ⟨l', rfl, subL_mem.mp h⟩
    · rintro (h | ⟨l', rfl, h⟩)
      · exact .inl (subL_mem.mpr h)
      · exact .inr ⟨l', subL_mem.mpr h, rfl⟩
end Ev
namespace Ev
open PySem L2
def lotsF (mi : Int) (L : List D) (s2 : Slot) : Env := ⟨[.sh (.int mi), .ow L, s2, .un], [.un]⟩
theorem subL_d (n : Nat) : lotsD (subL n) ++ ((subL n).map fun l => lotD (l ++ [n])) = lotsD (subL (n + 1)) := by
  show _ = lotsD (subL n ++ (subL n).map fun l => l ++ [n])
  unfold lotsD
  rw [List.map_append, List.map_map]
  rfl
end Ev
namespace Ev
open PySem L2
def smlF (h : List D) (mo : Int) (s2 s3 : Slot) : Env := ⟨[.ow h, .sh (.int mo), s2, s3], [.att, .un]⟩
theorem law_small_ok {g : List Int} {h : List D} {mo : Int} (hmo : 0 < mo ∧ mo ≤ 30) (T : Tap g h) :
    WF (F_law_small [.ow h, .sh (.int mo)]) fun r o => ∃ p wi w R h', r = .d (toldD p wi R) ∧ o = [.ow h', .un] ∧ p ∈ primes ∧ wi = ((w : Nat) : Int) ∧ 1 ≤ w ∧ w ≤ 4 ∧ (R.length : Int) ≤ mo ∧ PcG p w R ∧ Tap g h' := by
  refine wf_fn (ws_cons (ws_par (w_call (wa_cons (W.of (a := .loc 0) (ρ := smlF h mo .un .un) rfl (wa_cons (w_lst (W.of (a := [.int 2, .int 2, .int 3, .int 5, .int 251]) (ρ := smlF h mo .un .un) rfl ⟨by simp, wa_nil ⟨rfl, [.ow h, .ow [.int 2, .int 2, .int 3, .int 5, .int 251]], rfl, WF.mono (any_ok .ow (by simp) (by simp) T) ?_⟩⟩))))))))
  rintro r o ⟨d, h, rfl, rfl, hd, T⟩
  rw [backI (i := 0) (h' := h) rfl (fun j => by rcases j with _ | _ | j <;> rfl)]
  obtain ⟨p, rfl, hpp⟩ : ∃ p : Int, d = .int p ∧ p ∈ primes := by
    simp only [List.mem_cons, List.not_mem_nil, or_false] at hd
    rcases hd with rfl | rfl | rfl | rfl | rfl <;> exact ⟨_, rfl, by decide⟩
  refine w_prim (wa_cons (W.of (a := .d (.int 1)) (ρ := smlF h mo .un .un) rfl (wa_cons (w_call (W.of (a := [.loc 0, .d (.int 4)]) (ρ := smlF h mo .un .un) rfl ⟨rfl, [.ow h, .sh (.int 4)], rfl, WF.mono (pick_ok (by decide) (by decide) T) ?_⟩)))))
  rintro r o ⟨y, h, rfl, rfl, y0, y1, T⟩
  rw [backI (i := 0) (h' := h) rfl (fun j => by cases j <;> rfl)]
  refine wa_nil ⟨[.int 1, .int y], .d (.int (1 + y)), rfl, rfl, ?_⟩
  obtain ⟨w, hw⟩ : ∃ w : Nat, 1 + y = w := ⟨(1 + y).toNat, by omega⟩
  have h1 : 1 ≤ w := by omega
  have h2 : w ≤ 4 := by omega
  generalize 1 + y = wi at hw
  refine ⟨.d (.int p), smlF h mo .un .un, .d (.int wi), smlF h mo .un .un, smlF h mo (.sh (.int p)) .un, smlF h mo (.sh (.int p)) (.sh (.int wi)), rfl, rfl, rfl, rfl, ?_⟩
  refine ws_cons (ws_ret (w_tup (wd_cons (W.of (a := .d (.int p)) (ρ := smlF h mo (.sh (.int p)) (.sh (.int wi))) rfl ⟨.int p, _, rfl, wd_cons (W.of (a := .d (.int wi)) (ρ := smlF h mo (.sh (.int p)) (.sh (.int wi))) rfl ⟨.int wi, _, rfl, wd_cons (w_call (wa_cons (W.of (a := .loc 0) (ρ := smlF h mo (.sh (.int p)) (.sh (.int wi))) rfl (wa_cons (W.of (a := .d (.int p)) (ρ := smlF h mo (.sh (.int p)) (.sh (.int wi))) rfl (wa_cons (W.of (a := .d (.int wi)) (ρ := smlF h mo (.sh (.int p)) (.sh (.int wi))) rfl (wa_cons (w_prim (wa_cons (W.of (a := .d (.int 1)) (ρ := smlF h mo (.sh (.int p)) (.sh (.int wi))) rfl (wa_cons (w_call (W.of (a := [.loc 0, .d (.int mo)]) (ρ := smlF h mo (.sh (.int p)) (.sh (.int wi))) rfl ⟨rfl, [.ow h, .sh (.int mo)], rfl, WF.mono (pick_ok (by omega) (by omega) T) ?_⟩))))))))))))))⟩)⟩))))
  rintro r o ⟨y, h, rfl, rfl, z0, z1, T⟩
  rw [backI (i := 0) (h' := h) rfl (fun j => by cases j <;> rfl)]
  refine wa_nil ⟨[.int 1, .int y], .d (.int (1 + y)), rfl, rfl, ?_⟩
  obtain ⟨m, hm⟩ : ∃ m : Nat, 1 + y = m := ⟨(1 + y).toNat, by omega⟩
  have hm30 : (m : Int) ≤ mo := by omega
  generalize 1 + y = mi at hm
  refine wa_cons (w_call (wa_cons (W.of (a := .loc 0) (ρ := smlF h mo (.sh (.int p)) (.sh (.int wi))) rfl (wa_cons (w_lst (W.of (a := [.int 2, .int 4, .int 9, .int 1000000]) (ρ := smlF h mo (.sh (.int p)) (.sh (.int wi))) rfl ⟨by simp, wa_nil ⟨rfl, [.ow h, .ow [.int 2, .int 4, .int 9, .int 1000000]], rfl, WF.mono (any_ok .ow (by simp) (by simp) T) ?_⟩⟩))))))
  rintro r o ⟨d, h, rfl, rfl, hd, T⟩
  rw [backI (i := 0) (h' := h) rfl (fun j => by rcases j with _ | _ | j <;> rfl)]
  obtain ⟨mz, rfl, hmz⟩ : ∃ mz : Int, d = .int mz ∧ 0 < mz ∧ mz ≤ 1000000 := by
    simp only [List.mem_cons, List.not_mem_nil, or_false] at hd
    rcases hd with rfl | rfl | rfl | rfl <;> exact ⟨_, rfl, by decide⟩
  refine wa_nil ⟨rfl, [.ow h, .sh (.int p), .sh (.int wi), .sh (.int mi), .sh (.int mz)], rfl, WF.mono (law_pieces_ok hpp hw h1 (by omega) hm (by omega) hmz T) ?_⟩
  rintro r o ⟨R, h, rfl, rfl, hR, hG, T⟩
  rw [backI (i := 0) (h' := h) rfl (fun j => by cases j <;> rfl)]
  exact ⟨.lst (pcsD R), _, rfl, wd_nil ⟨by simp, .d (toldD p wi R), smlF h mo (.sh (.int p)) (.sh (.int wi)), rfl, p, wi, w, R, h, rfl, rfl, hpp, hw, h1, h2, by omega, hG, T⟩⟩
end Ev
namespace Ev
open PySem L2
abbrev LO : PyProof.Rows.KeyOrd := PyProof.Rows.listOrd PyProof.Rows.itemOrd
abbrev toks (l : List Nat) : List (Int ⊕ List Nat) := PySem.W.keyToks (keyP l)
def leL (a b : List Nat) : Bool := !LO.blt (toks b) (toks a)
def srtL (S : List (List Nat)) : List (List Nat) := S.mergeSort leL
theorem sortBy_lots (S : List (List Nat)) : sortBy (lotsD S) (S.map keyL) = some (lotsD (srtL S)) := by
  unfold sortBy
  rw [pys_keyL]
  have c1 : alikeB (S.map keyP) = true := List.all_eq_true.mpr fun a ha => List.all_eq_true.mpr fun b hb => by
    obtain ⟨x, _, rfl⟩ := List.mem_map.mp ha
    obtain ⟨y, _, rfl⟩ := List.mem_map.mp hb
    exact alike_keyP x y
  have c2 : sortB (S.map keyP) = true := by
    have : ((S.map keyP).all isT1) = true := List.all_eq_true.mpr fun a ha => by
      obtain ⟨x, _, rfl⟩ := List.mem_map.mp ha
      rfl
    unfold sortB
    rw [this, Bool.true_or]
  have c3 : deepB (S.map keyP) = true := List.all_eq_true.mpr fun a ha => by
    obtain ⟨x, _, rfl⟩ := List.mem_map.mp ha
    show decide (max 0 (max (PyData.depth (lotP x)) 0) + 1 ≤ 60) = true
    rw [dep_lot]
    rfl
  simp only
  unfold lotsD
  rw [if_pos ⟨by rw [List.length_map, List.length_map], by rw [c1, c2, c3]; rfl⟩]
  have hz : (S.map lotD).zip (S.map keyP) = S.map fun l => (lotD l, keyP l) := List.zip_map' ..
  rw [hz, ← List.map_mergeSort (r := leL) (s := PySem.W.dataLe false fun t : D × PyData => t.2) (f := fun l => (lotD l, keyP l)) (l := S) fun a _ b _ => rfl, List.map_map]
  rfl
theorem toks_app : ∀ (ns : List Int) {r t : List (Int ⊕ List Nat)} (ms : List Int), ns.length = ms.length → PySem.W.keyToksAll (ns.map PyData.int) ++ r = PySem.W.keyToksAll (ms.map PyData.int) ++ t → ns = ms
  | [], _, _, [], _, _ => rfl
  | [], _, _, y :: ms, h, _ => by cases h
  | x :: ns, _, _, [], h, _ => by cases h
  | x :: ns, r, t, y :: ms, h, e => by
    have e : (.inl 1 :: .inl x :: (PySem.W.keyToksAll (ns.map PyData.int) ++ r) : List (Int ⊕ List Nat)) = .inl 1 :: .inl y :: (PySem.W.keyToksAll (ms.map PyData.int) ++ t) := e
    injection e with _ e
    injection e with h1 h2
    injection h1 with h1
    rw [toks_app ns ms (by simpa using h) h2, h1]
theorem toks_inj {a b : List Nat} (h : toks a = toks b) : a = b := by
  have h : (.inl 1 :: .inl ((a.length : Nat) : Int) :: .inl 1 :: (PySem.W.keyToksAll ((a.map fun k : Nat => (k : Int)).map PyData.int) ++ PySem.W.keyToksAll []) : List (Int ⊕ List Nat)) = .inl 1 :: .inl ((b.length : Nat) : Int) :: .inl 1 :: (PySem.W.keyToksAll ((b.map fun k : Nat => (k : Int)).map PyData.int) ++ PySem.W.keyToksAll []) := h
  injection h with _ h
  injection h with h1 h
  injection h with _ h
  injection h1 with h1
  exact cast_inj (toks_app _ _ (by rw [List.length_map, List.length_map]; omega) h)
theorem srtL_perm (S : List (List Nat)) : (srtL S).Perm S := List.mergeSort_perm _ _
theorem srtL_le (S : List (List Nat)) : (srtL S).Pairwise fun a b => leL a b = true := List.pairwise_mergeSort (le := leL) (fun a b c h k => by
  unfold leL at *
  have h : LO.blt (toks b) (toks a) = false := by simpa using h
  have k : LO.blt (toks c) (toks b) = false := by simpa using k
  cases z : LO.blt (toks c) (toks a) with
  | false => rfl
  | true => rcases LO.negTrans _ (toks b) _ z with q | q
            · rw [k] at q; cases q
            · rw [h] at q; cases q) (fun a b => by
  unfold leL
  cases h : LO.blt (toks b) (toks a) with
  | false => rfl
  | true =>
    cases k : LO.blt (toks a) (toks b) with
    | false => rfl
    | true =>
      have z := LO.trans _ _ _ h k
      have i := LO.irrefl (toks b)
      rw [i] at z
      cases z) S
/-! ### lots as data, their order -/
theorem lay_lot (l : List Nat) : PyData.canLay0 (lotP l) = true := lay_vec _
theorem lay_lots : ∀ L : List (List Nat), PyData.canLayAll0 (L.map lotP) = true
  | [] => rfl
  | l :: L => by
    show (PyData.canLay0 (lotP l) && PyData.canLayAll0 (L.map lotP)) = true
    rw [lay_lots L, lay_lot]
    rfl
theorem dep_lots : ∀ L : List (List Nat), PyData.depthAll (L.map lotP) ≤ 1
  | [] => by decide
  | l :: L => by
    show max (PyData.depth (lotP l)) (PyData.depthAll (L.map lotP)) ≤ 1
    have := dep_lots L
    rw [dep_lot]
    omega
theorem shaped_lot (l : List Nat) : SeqAt.shaped (lotP l) = true := shaped_tup _
theorem shaped_lots (L : List (List Nat)) : SeqAt.shaped (.list (L.map lotP)) = true := by
  show (PyData.canLayAll0 (L.map lotP) && decide (PyData.depthAll (L.map lotP) + 1 ≤ 64)) = true
  have := dep_lots L
  rw [lay_lots, decide_eq_true (by omega)]
  rfl
theorem eqv_lot (a b : List Nat) : PyData.eqv (lotP a) (lotP b) = decide (a = b) := by
  show PyData.eqvAll ((a.map fun k : Nat => (k : Int)).map PyData.int) ((b.map fun k : Nat => (k : Int)).map PyData.int) = _
  rw [eqv_vec]
  by_cases h : a = b
  · subst h; simp
  · rw [decide_eq_false h, decide_eq_false fun e => h (cast_inj e)]
theorem eqv_lots : ∀ L M : List (List Nat), PyData.eqvAll (L.map lotP) (M.map lotP) = decide (L = M)
  | [], [] => rfl
  | [], _ :: _ => rfl
  | _ :: _, [] => rfl
  | a :: L, b :: M => by
    show (PyData.eqv (lotP a) (lotP b) && PyData.eqvAll (L.map lotP) (M.map lotP)) = _
    rw [eqv_lots L M, eqv_lot]
    by_cases h : a = b
    · subst h; simp
    · simp [h]
theorem ne_lots (L M : List (List Nat)) : fNe [.lst (lotsD L), .lst (lotsD M)] = some (.d (.bl (!decide (L = M)))) := by
  have : eqD? (.lst (lotsD L)) (.lst (lotsD M)) = some (decide (L = M)) := by
    have h1 : ∀ L : List (List Nat), (D.lst (lotsD L)).py = some (.list (L.map lotP)) := fun L => by
      show (match D.pys (lotsD L) with | some ps => some (PyData.list ps) | none => none) = _
      rw [pys_lots]
    unfold eqD?
    rw [h1, h1]
    show (if SeqAt.shaped (.list (L.map lotP)) = true ∧ SeqAt.shaped (.list (M.map lotP)) = true then some (PyData.eqvAll (L.map lotP) (M.map lotP)) else none) = _
    rw [if_pos ⟨shaped_lots L, shaped_lots M⟩, eqv_lots]
  show (match eqD? (.lst (lotsD L)) (.lst (lotsD M)) with | some k => some (RB.d (.bl (!k))) | none => none) = _
  rw [this]
theorem in_lots (l : List Nat) (L : List (List Nat)) : fInM [lotD l, .lst (lotsD L)] = some (.d (.bl (decide (l ∈ L)))) := by
  have h0 : in? (lotD l) (.lst (lotsD L)) = some (decide (l ∈ L)) := by
    have h1 : (D.lst (lotsD L)).py = some (.list (L.map lotP)) := by
      show (match D.pys (lotsD L) with | some ps => some (PyData.list ps) | none => none) = _
      rw [pys_lots]
    unfold in?
    rw [h1, py_lot]
    show (if SeqAt.shaped (lotP l) = true ∧ SeqAt.shaped (.list (L.map lotP)) = true then some (anyEqv (lotP l) (L.map lotP)) else none) = _
    rw [if_pos ⟨shaped_lot l, shaped_lots L⟩]
    congr 1
    unfold anyEqv
    rw [List.any_map]
    by_cases h : l ∈ L
    · rw [decide_eq_true h]
      exact List.any_eq_true.mpr ⟨l, h, by show PyData.eqv (lotP l) (lotP l) = true; rw [eqv_lot]; simp⟩
    · rw [decide_eq_false h]
      refine List.any_eq_false.mpr fun x hx => ?_
      show ¬ PyData.eqv (lotP x) (lotP l) = true
      rw [eqv_lot]
      simp
      rintro rfl
      exact h hx
  show (match inM? (lotD l) (.lst (lotsD L)) with | some k => some (RB.d (.bl k)) | none => none) = _
  have h2 : inM? (lotD l) (.lst (lotsD L)) = in? (lotD l) (.lst (lotsD L)) := rfl
  rw [h2, h0]
theorem law_lots_srt {mi : Int} {m : Nat} (hm : mi = m) (hm2 : m ≤ 12) : WF (F_law_lots [.sh (.int mi)]) fun r o => o = [.un] ∧ r = .nw (lotsD (srtL (subL m))) := by
  have hpow : ∀ j, j ≤ 12 → (subL j).length ≤ 4096 := fun j hj => by
    rw [subL_len]
    exact Nat.pow_le_pow_right (by decide) hj
  refine wf_fn (ws_cons (ws_asgV (w_lst (wd_cons (w_tup (W.of (a := []) (ρ := ⟨[.sh (.int mi), .un, .un, .un], [.un]⟩) rfl ⟨by simp, .tup [], _, rfl, wd_nil ⟨by simp, rfl, lotsF mi (lotsD (subL 0)) .un, rfl, ?_⟩⟩))))))
  refine ws_cons (ws_for (W.of (a := [.d (.int mi)]) (ρ := lotsF mi (lotsD (subL 0)) .un) rfl ⟨[.int mi], upFrom mi.toNat 0, rfl, range1_ok (by omega) (by omega), fun j ρ => ∃ s2, ρ = lotsF mi (lotsD (subL j)) s2, ⟨.un, by rw [locks0 fun i => rfl]⟩, ?_, ?_⟩))
  · rintro j x ρ2 hx ⟨s2, rfl⟩
    obtain ⟨hj, rfl⟩ := upFrom_get _ _ _ _ hx
    have hjm : j ≤ 12 := by omega
    have hlen := hpow j hjm
    have hd := subL_d j
    have hlt : ∀ l ∈ subL j, l.length ≤ 1000 := fun l hl => by
      have := asc_len (subL_mem.mp hl).up (subL_mem.mp hl).lt
      omega
    generalize hS' : subL (j + 1) = S' at hd
    generalize subL j = S at hlen hd hlt
    obtain ⟨ji, hji⟩ : ∃ ji : Int, ji = ((j : Nat) : Int) := ⟨_, rfl⟩
    have hji0 : 0 + (j : Int) = ji := by omega
    rw [hji0]
    refine ⟨lotsF mi (lotsD S) (.sh (.int ji)), bnd_free rfl rfl, ?_⟩
    refine ws_cons (ws_asgV (w_prim (wa_cons (W.of (a := .loc 1) (ρ := lotsF mi (lotsD S) (.sh (.int ji))) rfl (wa_cons (w_lcmL (l := S) (g := lotD) (e := fun l => lotD (l ++ [j])) (W.of (a := [.loc 1]) (ρ := lotsF mi (lotsD S) (.sh (.int ji))) rfl ⟨[.lst (lotsD S)], rfl, rfl, ⟨by rw [sizeLine_eq]; omega, rfl, rfl⟩, fun l hl => ?_, ?_⟩)))))))
    · rw [locks1 (xs := lotsD S) rfl]
      refine ⟨⟨[.sh (.int mi), .lk (lotsD S), .sh (.int ji), .sh (.tup (nats l))], [.un]⟩, rfl, ?_⟩
      exact w_prim (W.of (a := [.d (.tup (nats l)), .d (.tup [.int ji])]) (ρ := ⟨[.sh (.int mi), .lk (lotsD S), .sh (.int ji), .sh (.tup (nats l))], [.un]⟩) rfl ⟨[.tup (nats l), .tup [.int ji]], _, rfl, snocT_nats l hji (hlt l hl), _, rfl, rfl⟩)
    · rw [locks1 (xs := lotsD S) rfl, unlocks1 (xs := lotsD S) (ys := lotsD S) rfl rfl]
      refine wa_nil ⟨[.lst (lotsD S), .lst (S.map fun l => lotD (l ++ [j]))], .nw (lotsD S'), rfl, ?_, rfl, lotsF mi (lotsD S') (.sh (.int ji)), rfl, ws_nil ⟨_, by rw [hS']⟩⟩
      rw [add_lst (by rw [lotsD_len, List.length_map]; omega), hd]
  · rintro ρ2 ⟨s2, rfl⟩
    rw [upFrom_length, show mi.toNat = m by omega]
    rw [unlocks0 fun i => rfl]
    have hM := sortBy_lots (subL m)
    have hlen := hpow m hm2
    generalize subL m = S at hM hlen ⊢
    generalize srtL S = M at hM ⊢
    refine ws_cons (ws_ret (w_sortk (W.of (a := [.loc 1]) (ρ := lotsF mi (lotsD S) s2) rfl ⟨[.lst (lotsD S)], lotsD S, S.map keyL, lotsD M, rfl, rfl, by rw [List.length_map, lotsD_len], fun i x y hx hy => ?_, hM, .nw (lotsD M), _, rfl, rfl, rfl⟩)))
    rw [List.getElem?_map] at hy
    unfold lotsD at hx
    rw [List.getElem?_map] at hx
    cases hi : S[i]? with
    | none => rw [hi] at hx; cases hx
    | some l =>
      rw [hi] at hx hy
      cases hx
      cases hy
      have hlen : fLen [.tup (nats l)] = some (.d (.int ((l.length : Nat) : Int))) := by rw [len_tup, nats_len]
      unfold keyL lotD
      generalize ((l.length : Nat) : Int) = li at hlen
      exact w_tup (wd_cons (w_prim (W.of (a := [.d (.tup (nats l))]) (ρ := keyEnv (lotsF mi (lotsD S) s2) 3 (.tup (nats l))) rfl ⟨[.tup (nats l)], .d (.int li), rfl, hlen, .int li, _, rfl, W.of (a := [.tup (nats l)]) (ρ := keyEnv (lotsF mi (lotsD S) s2) 3 (.tup (nats l))) rfl ⟨by simp, rfl⟩⟩)))
end Ev
namespace Ev
open PySem L2
/-! ### all lots of so many, in their order -/
def subsF : Nat → Nat → Nat → List (List Nat)
  | _, _, 0 => [[]]
  | 0, _, _ + 1 => []
  | k + 1, lo, r + 1 => (subsF k (lo + 1) r).map (lo :: ·) ++ subsF k (lo + 1) (r + 1)
theorem mem_subsF : ∀ {k lo r : Nat} {l : List Nat}, l ∈ subsF k lo r ↔ l.length = r ∧ l.Pairwise (· < ·) ∧ ∀ x ∈ l, lo ≤ x ∧ x < lo + k
  | k, lo, 0, l => by
    have : subsF k lo 0 = [[]] := by cases k <;> rfl
    rw [this, List.mem_singleton]
    constructor
    · rintro rfl
      exact ⟨rfl, .nil, fun x hx => by cases hx⟩
    · rintro ⟨h, _⟩
      exact List.eq_nil_of_length_eq_zero h
  | 0, lo, r + 1, l => by
    have : subsF 0 lo (r + 1) = [] := rfl
    rw [this]
    constructor
    · intro h
      cases h
    · rintro ⟨h, _, h2⟩
      cases l with
      | nil => cases h
      | cons x l =>
        have := h2 x List.mem_cons_self
        omega
  | k + 1, lo, r + 1, l => by
    have : subsF (k + 1) lo (r + 1) = (subsF k (lo + 1) r).map (lo :: ·) ++ subsF k (lo + 1) (r + 1) := rfl
    rw [this, List.mem_append, List.mem_map]
    constructor
    · rintro (⟨m, hm, rfl⟩ | h)
      · obtain ⟨h1, h2, h3⟩ := mem_subsF.mp hm
        refine ⟨by rw [List.length_cons, h1], List.pairwise_cons.mpr ⟨fun x hx => ?_, h2⟩, fun x hx => ?_⟩
        · have := h3 x hx
          omega
        · rcases List.mem_cons.mp hx with rfl | hx
          · omega
          · have := h3 x hx
            omega
      · obtain ⟨h1, h2, h3⟩ := mem_subsF.mp h
        exact ⟨h1, h2, fun x hx => by have := h3 x hx; omega⟩
    · rintro ⟨h1, h2, h3⟩
      cases l with
      | nil => cases h1
      | cons x l =>
        obtain ⟨h4, h5⟩ := List.pairwise_cons.mp h2
        by_cases e : x = lo
        · subst e
          exact .inl ⟨l, mem_subsF.mpr ⟨by simpa using h1, h5, fun y hy => by have := h4 y hy; have := h3 y (List.mem_cons_of_mem _ hy); omega⟩, rfl⟩
        · refine .inr (mem_subsF.mpr ⟨h1, h2, fun y hy => ?_⟩)
          have hx := h3 x List.mem_cons_self
          rcases List.mem_cons.mp hy with rfl | hy
          · omega
          · have := h4 y hy
            have := h3 y (List.mem_cons_of_mem _ hy)
            omega
def subsC (n r : Nat) : List (List Nat) := subsF n 0 r
theorem mem_subsC {n r : Nat} {l : List Nat} : l ∈ subsC n r ↔ l.length = r ∧ IsLot n l := by
  unfold subsC
  rw [mem_subsF]
  constructor
  · rintro ⟨h1, h2, h3⟩
    exact ⟨h1, fun k hk => by have := h3 k hk; omega, h2⟩
  · rintro ⟨h1, h2⟩
    exact ⟨h1, h2.up, fun x hx => ⟨by omega, by have := h2.lt x hx; omega⟩⟩
/-- the walk gives just these -/
def cmbT (n r : Nat) : Bool := (cmbGo n CMBFUEL (cmb0 n r) == some (subsC n r)) && cmbOk n (subsC n r)
theorem cmbT_all : ((List.range 12).all fun n => (List.range 12).all fun r => cmbT n r) = true := by decide +kernel
theorem cmb_is {n r : Nat} (hn : n < 12) (hr : r < 12) : cmbGo n CMBFUEL (cmb0 n r) = some (subsC n r) ∧ cmbOk n (subsC n r) = true := by
  have h := List.all_eq_true.mp (List.all_eq_true.mp cmbT_all n (List.mem_range.mpr hn)) r (List.mem_range.mpr hr)
  unfold cmbT at h
  rw [Bool.and_eq_true] at h
  exact ⟨by simpa using h.1, h.2⟩
/-- all lots, the shortest first -/
def allC (n : Nat) : List (List Nat) := (List.range (n + 1)).flatMap (subsC n)
def chainB : List (List Nat) → Bool
  | a :: b :: l => LO.blt (toks a) (toks b) && chainB (b :: l)
  | _ => true
theorem chain_all : ((List.range 12).all fun n => chainB (allC n)) = true := by decide +kernel
end Ev
namespace Ev
open PySem L2
section
variable {p wi : Int} {w : Nat} {P : List Pc}
structure Vals (p : Int) (w : Nat) (P : List Pc) (rs : List Nat) (v : List Int) : Prop where
  l : v.length = rs.length
  n : 0 < rs.length
  o : v.getD 0 0 = 1
  r : ∀ x ∈ v, 0 < x ∧ x < p
  e : ∀ i, i < w → p ∣ Lin.sumTo rs.length (fun k => v.getD k 0 * (pcAt P (rs.getD k 0)).1.getD i 0)
end
end Ev
namespace Ev
open PySem L2
/-! ### the order; circuits -/
theorem chain_pw : ∀ {L : List (List Nat)}, chainB L = true → L.Pairwise fun a b => LO.blt (toks a) (toks b) = true
  | [], _ => .nil
  | [a], _ => by simp
  | a :: b :: l, h => by
    unfold chainB at h
    rw [Bool.and_eq_true] at h
    have ih := chain_pw h.2
    refine List.pairwise_cons.mpr ⟨fun x hx => ?_, ih⟩
    rcases List.mem_cons.mp hx with rfl | hx
    · exact h.1
    · exact LO.trans _ _ _ h.1 ((List.pairwise_cons.mp ih).1 x hx)
theorem allC_pw {n : Nat} (hn : n < 12) : (allC n).Pairwise fun a b => LO.blt (toks a) (toks b) = true := chain_pw (List.all_eq_true.mp chain_all n (List.mem_range.mpr hn))
theorem mem_allC {n : Nat} {l : List Nat} : l ∈ allC n ↔ IsLot n l := by
  unfold allC
  rw [List.mem_flatMap]
  constructor
  · rintro ⟨r, _, h⟩
    exact (mem_subsC.mp h).2
  · intro h
    exact ⟨l.length, List.mem_range.mpr (by have := h.len; omega), mem_subsC.mpr ⟨rfl, h⟩⟩
theorem subL_nodup : ∀ n, (subL n).Nodup
  | 0 => by simp [subL]
  | n + 1 => by
    have e : subL (n + 1) = subL n ++ (subL n).map fun l => l ++ [n] := rfl
    rw [e]
    refine List.nodup_append.mpr ⟨subL_nodup n, ?_, fun a ha b hb q => ?_⟩
    · refine List.Pairwise.map _ (fun a b hab q => hab ?_) (subL_nodup n)
      exact (List.append_inj' q rfl).1
    · subst q
      obtain ⟨l, _, rfl⟩ := List.mem_map.mp hb
      have := (subL_mem.mp ha).lt n (List.mem_append_right _ List.mem_cons_self)
      omega
theorem blt_le {a b : List Nat} (h : LO.blt (toks a) (toks b) = true) : leL a b = true := by
  unfold leL
  cases k : LO.blt (toks b) (toks a) with
  | false => rfl
  | true =>
    have z := LO.trans _ _ _ h k
    rw [LO.irrefl] at z
    cases z
theorem srt_all {n : Nat} (hn : n < 12) : srtL (subL n) = allC n := by
  have h2 := allC_pw hn
  have hnd : (allC n).Nodup := h2.imp fun {a b} h q => by
    subst q
    rw [LO.irrefl] at h
    cases h
  refine List.Perm.eq_of_pairwise (le := fun a b => leL a b = true) (fun a b _ _ h1 h2 => ?_) (srtL_le _) (h2.imp fun h => blt_le h) ((srtL_perm _).trans ((List.perm_ext_iff_of_nodup (subL_nodup n) hnd).mpr fun l => by rw [subL_mem, mem_allC]))
  unfold leL at h1 h2
  refine toks_inj (LO.total _ _ ?_ ?_)
  · simpa using h2
  · simpa using h1
/-- what stands ahead in the row of all lots -/
theorem allC_ahead {n j : Nat} {l m : List Nat} (hn : n < 12) (hj : (allC n)[j]? = some l) (hm : IsLot n m) (hlt : m.length < l.length) : m ∈ (allC n).take j := by
  obtain ⟨i, hi, e⟩ := List.getElem_of_mem (mem_allC.mpr hm)
  have hjl : j < (allC n).length := (List.getElem?_eq_some_iff.mp hj).1
  have ej : (allC n)[j] = l := (List.getElem?_eq_some_iff.mp hj).2
  by_cases h : i < j
  · rw [← e]
    exact List.mem_take_iff_getElem.mpr ⟨i, by omega, rfl⟩
  · exfalso
    -- the lengths never fall
    have hmono : ∀ (r : Nat) (a b : List Nat), ∀ {A B : Nat}, A < B → B < ((List.range r).flatMap (subsC n)).length → ((List.range r).flatMap (subsC n))[A]? = some a → ((List.range r).flatMap (subsC n))[B]? = some b → a.length ≤ b.length := fun r => by
      induction r with
      | zero => intro a b A B _ h; simp at h
      | succ r ih =>
        intro a b A B hAB hB ha hb
        rw [List.range_succ, List.flatMap_append] at ha hb hB
        have e1 : [r].flatMap (subsC n) = subsC n r := by simp
        rw [e1] at ha hb hB
        have hin : ∀ x, x ∈ (List.range r).flatMap (subsC n) → x.length < r := fun x hx => by
          obtain ⟨q, hq, hx⟩ := List.mem_flatMap.mp hx
          rw [(mem_subsC.mp hx).1]
          exact List.mem_range.mp hq
        by_cases hBr : B < ((List.range r).flatMap (subsC n)).length
        · rw [List.getElem?_append_left hBr] at hb
          rw [List.getElem?_append_left (by omega)] at ha
          exact ih a b hAB hBr ha hb
        · rw [List.getElem?_append_right (by omega)] at hb
          have hbl := (mem_subsC.mp (List.mem_of_getElem? hb)).1
          by_cases hAr : A < ((List.range r).flatMap (subsC n)).length
          · rw [List.getElem?_append_left hAr] at ha
            have := hin a (List.mem_of_getElem? ha)
            omega
          · rw [List.getElem?_append_right (by omega)] at ha
            have := (mem_subsC.mp (List.mem_of_getElem? ha)).1
            omega
    by_cases hij : i = j
    · subst hij
      rw [ej] at e
      rw [e] at hlt
      omega
    · have := hmono (n + 1) l m (A := j) (B := i) (by omega) hi hj (by rw [← e]; exact List.getElem?_eq_getElem hi)
      omega
section
variable {p wi : Int} {w : Nat} {P : List Pc}
noncomputable def circB (p : Int) (w : Nat) (P : List Pc) (l : List Nat) : Bool := decide (rk p w P l < l.length) && l.all fun k => decide (rk p w P (dropK l k) = (dropK l k).length)
theorem circB_iff {l : List Nat} (hl : IsLot P.length l) : circB p w P l = true ↔ Circ p w P l := by
  unfold circB
  rw [Bool.and_eq_true, List.all_eq_true]
  constructor
  · rintro ⟨h1, h2⟩
    exact ⟨hl, of_decide_eq_true h1, fun k hk => of_decide_eq_true (h2 k hk)⟩
  · intro h
    exact ⟨decide_eq_true h.dep, fun k hk => decide_eq_true (h.ind k hk)⟩
theorem srtN_is {m : Nat} {l : List Nat} (h : IsLot m l) : srtN l = l :=
  List.Perm.eq_of_pairwise (le := fun a b => a ≤ b) (fun a b _ _ h1 h2 => by omega) (srtN_le l) (h.up.imp fun h => by omega) (srtN_perm l)
/-- the nought tells whether it is a circuit -/
theorem nou_circ {L : List Nat} {c : List Int} {m : Nat} (hpp : p ∈ primes) (h2 : w ≤ 10) (hP : Pcs p w P) (hL : IsLot P.length L) (hN : Nou p w (picks P L) c) (hm : m < L.length) (hT : ¬ Lin.Tk p w (row (picks P L)) m) (hA : ∀ k, k < m → Lin.Tk p w (row (picks P L)) k) (h1 : co c m = 1) (h0 : ∀ j, m < j → j < L.length → co c j = 0) :
    Circ p w P L ↔ ∀ j, j < L.length → co c j ≠ 0 := by
  constructor
  · intro h
    exact circ_full hpp h2 hP h hN hm h1
  · intro h
    have hme : m + 1 = L.length := by
      by_cases e : m + 1 < L.length
      · exact absurd (h0 (m + 1) (by omega) e) (h _ e)
      · omega
    obtain ⟨l, x, rfl⟩ : ∃ l x, L = l ++ [x] := by
      refine ⟨L.dropLast, L.getLast (by intro z; rw [z] at hm; simp at hm), (List.dropLast_concat_getLast _).symm⟩
    rw [List.length_append, List.length_singleton] at hme
    have hml : m = l.length := by omega
    subst hml
    have hnd := lot_nodup hL
    have hxl : x ∉ l := fun z => by
      rw [List.nodup_append] at hnd
      exact hnd.2.2 x z x List.mem_cons_self rfl
    have hl : IsLot P.length l := ⟨fun k hk => hL.lt k (List.mem_append_left _ hk), (List.pairwise_append.mp hL.up).1⟩
    have hx : x < P.length := hL.lt x (List.mem_append_right _ List.mem_cons_self)
    have hk : rk p w P l = l.length := rk_full.mpr fun j hj => tk_congr (fun i hi => (row_app (x := x) (by omega)).symm) (hA j hj)
    have hc := circ_of hpp h2 hP hl hx hxl hk hN h1
    have hr : rfl' p w P l x = l := by
      unfold rfl'
      refine List.filter_eq_self.mpr fun k hk2 => decide_eq_true ?_
      obtain ⟨j, hj, e⟩ := List.getElem_of_mem hk2
      have hg : l.getD j 0 = k := by rw [List.getD_eq_getElem?_getD, List.getElem?_eq_getElem hj, e]; rfl
      have := (ring_iff hpp h2 hP (lot_nodup hl) (by have := lot_len hP.n hl; omega) hl.lt hx hk hN h1 hj).mpr (h j (by rw [List.length_append]; omega))
      rw [hg] at this
      exact this
    rw [hr, srtN_is hL] at hc
    exact hc
/-- what hangs together holds a circuit -/
theorem circ_in (hpp : p ∈ primes) (h2 : w ≤ 10) (hP : Pcs p w P) : ∀ (n : Nat) (l : List Nat), l.length = n → IsLot P.length l → rk p w P l ≠ l.length → ∃ C, Circ p w P C ∧ ∀ k ∈ C, k ∈ l
  | n, l, hn, hl, hd => by
    by_cases h : ∀ k ∈ l, rk p w P (dropK l k) = (dropK l k).length
    · exact ⟨l, ⟨hl, by have := rk_le p w P l; omega, h⟩, fun k hk => hk⟩
    · obtain ⟨k, hk⟩ := Classical.not_forall.mp h
      obtain ⟨hkl, hk⟩ := Classical.not_imp.mp hk
      have hlen := drop_len1 (lot_nodup hl) hkl
      obtain ⟨C, hC, hs⟩ := circ_in hpp h2 hP (dropK l k).length (dropK l k) rfl (lot_filter hl _) hk
      exact ⟨C, hC, fun y hy => (mem_drop.mp (hs y hy)).1⟩
termination_by n => n
decreasing_by omega
theorem len_sub {C D : List Nat} (hC : C.Nodup) (hD : D.Nodup) (h : ∀ k ∈ C, k ∈ D) : C.length ≤ D.length := by
  have := nodup_perm hC (hD.filter fun k => decide (k ∈ C)) fun k => by
    rw [List.mem_filter]
    exact ⟨fun q => ⟨h k q, decide_eq_true q⟩, fun q => of_decide_eq_true q.2⟩
  rw [this.length_eq]
  exact List.length_filter_le _ _
/-- its length -/
theorem circ_len {C : List Nat} (hpp : p ∈ primes) (h2 : w ≤ 10) (hP : Pcs p w P) (hC : Circ p w P C) (h1 : ∀ k, k < P.length → rk p w P [k] = 1) : 2 ≤ C.length ∧ C.length ≤ w + 1 := by
  have hd := hC.dep
  constructor
  · match C, hC with
    | [], h => exact absurd h.dep (by simp)
    | [k], h =>
      have := h1 k (h.lot.lt k List.mem_cons_self)
      have := h.dep
      rw [h1 k (h.lot.lt k List.mem_cons_self)] at this
      simp at this
    | _ :: _ :: _, _ => simp
  · match C, hC with
    | [], _ => simp
    | k :: C, h =>
      have hlen := drop_len1 (lot_nodup h.lot) (List.mem_cons_self (a := k) (l := C))
      have hi := h.ind k List.mem_cons_self
      have := rk_lew hpp h2 hP (lot_filter h.lot fun i => !decide (i = k))
      have e : (k :: C).filter (fun i => !decide (i = k)) = dropK (k :: C) k := rfl
      rw [e, hi] at this
      omega
end
end Ev
namespace Ev
open PySem L2
/-! ### the rules once more, shut: each names what is run next, nothing is evaluated unasked -/
@[irreducible] def VE (e : E) (ρ : Env) (P : B → Env → Prop) : Prop := W (evE e ρ) P
@[irreducible] def VA (as : Es) (ρ : Env) (P : List B → Env → Prop) : Prop := W (evA as ρ) P
@[irreducible] def VD (as : Es) (ρ : Env) (P : List D → Env → Prop) : Prop := W (evD as ρ) P
@[irreducible] def VT (t : T) (ρ : Env) (P : Bool → Env → Prop) : Prop := W (evT t ρ) P
@[irreducible] def VO (t : OT) (ρ : Env) (P : Bool → Env → Prop) : Prop := W (evO t ρ) P
@[irreducible] def VS (s : S) (ρ : Env) (nx : Env → Prop) (rt : B → Env → Prop) (bk : Env → Prop) : Prop := WS (evS s ρ) nx rt bk
@[irreducible] def VSs (ss : Ss) (ρ : Env) (nx : Env → Prop) (rt : B → Env → Prop) (bk : Env → Prop) : Prop := WS (evSs ss ρ) nx rt bk
theorem VE.of {e : E} {ρ : Env} {P : B → Env → Prop} (h : VE e ρ P) : W (evE e ρ) P := by unfold VE at h; exact h
theorem VA.of {e : Es} {ρ : Env} {P : List B → Env → Prop} (h : VA e ρ P) : W (evA e ρ) P := by unfold VA at h; exact h
theorem VD.of {e : Es} {ρ : Env} {P : List D → Env → Prop} (h : VD e ρ P) : W (evD e ρ) P := by unfold VD at h; exact h
theorem VT.of {e : T} {ρ : Env} {P : Bool → Env → Prop} (h : VT e ρ P) : W (evT e ρ) P := by unfold VT at h; exact h
theorem VO.of {e : OT} {ρ : Env} {P : Bool → Env → Prop} (h : VO e ρ P) : W (evO e ρ) P := by unfold VO at h; exact h
theorem VE.to {e : E} {ρ : Env} {P : B → Env → Prop} (h : W (evE e ρ) P) : VE e ρ P := by unfold VE; exact h
theorem VA.to {e : Es} {ρ : Env} {P : List B → Env → Prop} (h : W (evA e ρ) P) : VA e ρ P := by unfold VA; exact h
theorem VD.to {e : Es} {ρ : Env} {P : List D → Env → Prop} (h : W (evD e ρ) P) : VD e ρ P := by unfold VD; exact h
theorem VT.to {e : T} {ρ : Env} {P : Bool → Env → Prop} (h : W (evT e ρ) P) : VT e ρ P := by unfold VT; exact h
theorem VO.to {e : OT} {ρ : Env} {P : Bool → Env → Prop} (h : W (evO e ρ) P) : VO e ρ P := by unfold VO; exact h
section
variable {ρ : Env} {P : B → Env → Prop} {nx : Env → Prop} {rt : B → Env → Prop} {bk : Env → Prop}
theorem VS.of {s : S} (h : VS s ρ nx rt bk) : WS (evS s ρ) nx rt bk := by unfold VS at h; exact h
theorem VS.to {s : S} (h : WS (evS s ρ) nx rt bk) : VS s ρ nx rt bk := by unfold VS; exact h
theorem VSs.of {s : Ss} (h : VSs s ρ nx rt bk) : WS (evSs s ρ) nx rt bk := by unfold VSs at h; exact h
theorem VSs.to {s : Ss} (h : WS (evSs s ρ) nx rt bk) : VSs s ρ nx rt bk := by unfold VSs; exact h
theorem VSs.mono {s : Ss} {nx' : Env → Prop} {rt' : B → Env → Prop} {bk' : Env → Prop} (h : VSs s ρ nx rt bk) (h1 : ∀ ρ, nx ρ → nx' ρ) (h2 : ∀ b ρ, rt b ρ → rt' b ρ) (h3 : ∀ ρ, bk ρ → bk' ρ) : VSs s ρ nx' rt' bk' := VSs.to (WS.mono h.of h1 h2 h3)
end
/-! #### frames -/
inductive SetAt : Nat → Slot → List Slot → List Slot → Prop where
  | zero {s a : Slot} {l : List Slot} : SetAt 0 s (a :: l) (s :: l)
  | succ {i : Nat} {s a : Slot} {l l' : List Slot} : SetAt i s l l' → SetAt (i + 1) s (a :: l) (a :: l')
theorem SetAt.eq {i : Nat} {s : Slot} {l l' : List Slot} (h : SetAt i s l l') : l.set i s = l' := by
  induction h with
  | zero => rfl
  | succ _ ih => rw [List.set_cons_succ, ih]
theorem SetAt.get {i : Nat} {s : Slot} {l l' : List Slot} (h : SetAt i s l l') : ∃ a, l[i]? = some a := by
  induction h with
  | zero => exact ⟨_, rfl⟩
  | succ _ ih => obtain ⟨a, e⟩ := ih; exact ⟨a, by rw [List.getElem?_cons_succ]; exact e⟩
theorem SetAt.got {i : Nat} {s : Slot} {l l' : List Slot} (h : SetAt i s l l') : l'[i]? = some s := by
  induction h with
  | zero => rfl
  | succ _ ih => rw [List.getElem?_cons_succ]; exact ih
def freeAt (o : List Slot) (i : Nat) : Bool := match o[i]? with
  | some .att => false
  | _ => true
theorem bnd_at {v v' o : List Slot} {i : Nat} {s : Slot} (hf : freeAt o i = true) (h : SetAt i s v v') : Env.bnd ⟨v, o⟩ i s = some ⟨v', o⟩ := by
  obtain ⟨a, ha⟩ := h.get
  have e := h.eq
  unfold freeAt at hf
  unfold Env.bnd
  simp only [ha]
  split
  · rename_i q; simp at q
  · rename_i q1 q2; rw [q2] at hf; cases hf
  · rename_i q1 q2; rw [q2] at hf; cases hf
  · rw [e]
theorem frz_at {v v' o : List Slot} {i : Nat} {xs : List D} (hf : freeAt o i = true) (h : SetAt i (.sh (.lst xs)) v v') : Env.frz ⟨v, o⟩ i xs = ⟨v', o⟩ := by
  have e := h.eq
  unfold freeAt at hf
  unfold Env.frz
  simp only
  split
  · rename_i q; rw [q] at hf; cases hf
  · rw [e]
inductive BndAll (o : List Slot) : List Nat → List D → List Slot → List Slot → Prop where
  | nil {v : List Slot} : BndAll o [] [] v v
  | cons {i : Nat} {is : List Nat} {d : D} {ds : List D} {v v1 v' : List Slot} : freeAt o i = true → SetAt i (.sh d) v v1 → BndAll o is ds v1 v' → BndAll o (i :: is) (d :: ds) v v'
theorem BndAll.eq {o : List Slot} {is : List Nat} {ds : List D} {v v' : List Slot} (h : BndAll o is ds v v') : bndAll ⟨v, o⟩ is ds = some ⟨v', o⟩ := by
  induction h with
  | nil => rfl
  | cons hf hs _ ih =>
    unfold bndAll
    rw [bnd_at hf hs]
    exact ih
def B.asSlot : B → Option Slot
  | .d x => some (.sh x)
  | .nw xs => some (.ow xs)
  | .loc _ => none
def B.asD : B → Option D
  | .d x => some x
  | .nw xs => some (.lst xs)
  | .loc _ => none
theorem keep_of {b : B} {d : D} (ρ : Env) (h : b.asD = some d) : b.keep ρ = some (d, ρ) := by
  cases b with
  | d x => cases h; rfl
  | nw x => cases h; rfl
  | loc i => cases h
theorem stab_of {b : B} {s : Slot} (ρ : Env) (h : b.asSlot = some s) : b.stab ρ = some (b, ρ) := by
  cases b with
  | d x => rfl
  | nw x => rfl
  | loc i => cases h
theorem bindB_of {b : B} {s : Slot} {ρ : Env} {i : Nat} (h : b.asSlot = some s) : bindB ρ i b = ρ.bnd i s := by
  cases b with
  | d x => cases h; rfl
  | nw x => cases h; rfl
  | loc i => cases h
def noLocs : List B → Bool
  | [] => true
  | .loc _ :: _ => false
  | _ :: bs => noLocs bs
theorem noLocs_has : ∀ {bs : List B}, noLocs bs = true → ∀ i, hasLoc i bs = false
  | [], _, _ => rfl
  | .d _ :: bs, h, i => noLocs_has (bs := bs) h i
  | .nw _ :: bs, h, i => noLocs_has (bs := bs) h i
theorem mapI_ix' {f : Nat → Slot → Slot} : ∀ {l : List Slot} {n i : Nat}, (mapI f n l)[i]? = (l[i]?).map (f (n + i))
  | [], _, _ => by simp [mapI]
  | s :: l, n, 0 => by simp [mapI]
  | s :: l, n, i + 1 => by
    have := mapI_ix' (f := f) (l := l) (n := n + 1) (i := i)
    simp only [mapI, List.getElem?_cons_succ]
    rw [this, show n + 1 + i = n + (i + 1) by omega]
theorem mapI_same' {f : Nat → Slot → Slot} {l : List Slot} (h : ∀ i s, l[i]? = some s → f i s = s) : mapI f 0 l = l := by
  apply List.ext_getElem?
  intro i
  rw [mapI_ix', Nat.zero_add]
  cases e : l[i]? with
  | none => rfl
  | some s => show some (f i s) = _; rw [h i s e]
theorem lock1_f (s : Slot) : lock1 s false = s := by cases s <;> rfl
theorem unlock1_f (s : Slot) (o : Option Slot) : unlock1 s o false = s := by cases s <;> first | rfl | (cases o <;> first | rfl | (rename_i x; cases x <;> rfl))
theorem locks_no {ρ : Env} {bs : List B} (h : noLocs bs = true) : locks ρ bs = ρ := by
  unfold locks
  rw [mapI_same' fun i s _ => by rw [noLocs_has h i]; exact lock1_f s]
theorem unlocks_no {ρ0 ρ : Env} {bs : List B} (h : noLocs bs = true) : unlocks ρ0 ρ bs = ρ := by
  unfold unlocks
  rw [mapI_same' fun i s _ => by rw [noLocs_has h i]; exact unlock1_f s _]
/-- behind a call -/
inductive BackV : List B → List Slot → List Slot → List Slot → Prop where
  | nil {v : List Slot} : BackV [] [] v v
  | d {x : D} {s : Slot} {bs : List B} {os v v' : List Slot} : BackV bs os v v' → BackV (.d x :: bs) (s :: os) v v'
  | nw {x : List D} {s : Slot} {bs : List B} {os v v' : List Slot} : BackV bs os v v' → BackV (.nw x :: bs) (s :: os) v v'
  | loc {i : Nat} {h h' : List D} {bs : List B} {os v v1 v' : List Slot} : v[i]? = some (.ow h) → SetAt i (.ow h') v v1 → BackV bs os v1 v' → BackV (.loc i :: bs) (.ow h' :: os) v v'
theorem newAt_no {i : Nat} : ∀ {bs : List B} {os : List Slot}, (∀ b ∈ bs, b ≠ .loc i) → newAt bs os i = none
  | [], _, _ => by unfold newAt; rfl
  | b :: bs, [], _ => by cases b <;> rfl
  | .d _ :: bs, s :: os, h => newAt_no (bs := bs) (os := os) fun b hb => h b (List.mem_cons_of_mem _ hb)
  | .nw _ :: bs, s :: os, h => newAt_no (bs := bs) (os := os) fun b hb => h b (List.mem_cons_of_mem _ hb)
  | .loc j :: bs, s :: os, h => by
    show (if i = j then some s else newAt bs os i) = none
    rw [if_neg fun e => h _ List.mem_cons_self (by rw [e])]
    exact newAt_no fun b hb => h b (List.mem_cons_of_mem _ hb)
theorem noTwice_loc {i : Nat} {bs : List B} (h : noTwice (.loc i :: bs) = true) : (∀ b ∈ bs, b ≠ .loc i) ∧ noTwice bs = true := by
  unfold noTwice at h
  rw [Bool.and_eq_true] at h
  refine ⟨fun b hb e => ?_, h.2⟩
  have := List.all_eq_true.mp h.1 b hb
  rw [e] at this
  simp at this
theorem new1_none (s : Slot) : new1 s none = s := by cases s <;> rfl
theorem newO_no (s : Slot) (o : Option Slot) : newO s o none = s := by cases s <;> cases o <;> first | rfl | (rename_i x; cases x <;> rfl)
theorem newO_ow (s : Slot) (o : Option Slot) (h : List D) : newO s o (some (.ow h)) = s := by cases s <;> cases o <;> first | rfl | (rename_i x; cases x <;> rfl)
theorem BackV.at {bs : List B} {os v v' : List Slot} (h : BackV bs os v v') : noTwice bs = true → ∀ j, v'[j]? = (v[j]?).map (fun s => new1 s (newAt bs os j)) ∧ (newAt bs os j = none ∨ ∃ x, newAt bs os j = some (.ow x)) := by
  induction h with
  | @nil v =>
    intro _ j
    refine ⟨?_, .inl (by unfold newAt; rfl)⟩
    cases v[j]? with
    | none => rfl
    | some s => show some s = some (new1 s (newAt [] [] j)); rw [show newAt [] [] j = none by unfold newAt; rfl, new1_none]
  | d _ ih => exact fun hn => ih hn
  | nw _ ih => exact fun hn => ih hn
  | @loc i h h' bs os v v1 v' hv hs _ ih =>
    intro hn j
    have hn := noTwice_loc hn
    obtain ⟨e1, e2⟩ := ih hn.2 j
    have hs' := hs.eq
    have hi : i < v.length := (List.getElem?_eq_some_iff.mp hv).1
    have hna : newAt (.loc i :: bs) (.ow h' :: os) j = if j = i then some (.ow h') else newAt bs os j := rfl
    by_cases hj : j = i
    · subst hj
      rw [hna, if_pos rfl, e1, newAt_no hn.1, hs.got, hv]
      exact ⟨rfl, .inr ⟨_, rfl⟩⟩
    · rw [hna, if_neg hj, e1, ← hs', List.getElem?_set, if_neg (Ne.symm hj)]
      exact ⟨rfl, e2⟩
theorem BackV.eq {bs : List B} {os v v' o : List Slot} (h : BackV bs os v v') (hn : noTwice bs = true) : back ⟨v, o⟩ bs os = ⟨v', o⟩ := by
  unfold back
  congr 1
  · refine List.ext_getElem? fun j => ?_
    rw [mapI_ix', Nat.zero_add, (h.at hn j).1]
  · refine mapI_same' fun i s _ => ?_
    rcases (h.at hn i).2 with e | ⟨x, e⟩
    · rw [e]; exact newO_no s _
    · rw [e]; exact newO_ow s _ x
/-! #### what is done with a value -/
@[irreducible] def AsgK (i : Nat) (nx : Env → Prop) (b : B) (ρ : Env) : Prop := ∃ b' ρ2 ρ3, b.stab ρ = some (b', ρ2) ∧ bindB ρ2 i b' = some ρ3 ∧ nx ρ3
@[irreducible] def AsgTK (is : List Nat) (nx : Env → Prop) (b : B) (ρ : Env) : Prop := ∃ ds ρ2 ρ3, b.keep ρ = some (.tup ds, ρ2) ∧ bndAll ρ2 is ds = some ρ3 ∧ nx ρ3
@[irreducible] def ParK (i j : Nat) (nx : Env → Prop) (x y : B) (ρ : Env) : Prop := ∃ x' ρ3 y' ρ4 ρ5 ρ6, x.stab ρ = some (x', ρ3) ∧ y.stab ρ3 = some (y', ρ4) ∧ bindB ρ4 i x' = some ρ5 ∧ bindB ρ5 j y' = some ρ6 ∧ nx ρ6
@[irreducible] def PrimK (f : List D → Option RB) (bs : List B) (ρ : Env) (P : B → Env → Prop) : Prop := ∃ ds r, views ρ bs = some ds ∧ f ds = some r ∧ P r.b ρ
@[irreducible] def TupK (ds : List D) (ρ : Env) (P : B → Env → Prop) : Prop := ds.length ≤ 1000 ∧ P (.d (.tup ds)) ρ
@[irreducible] def LstK (ds : List D) (ρ : Env) (P : B → Env → Prop) : Prop := ds.length ≤ 1000 ∧ P (.nw ds) ρ
@[irreducible] def KeepK (b : B) (ρ : Env) (P : D → Env → Prop) : Prop := ∃ d ρ2, b.keep ρ = some (d, ρ2) ∧ P d ρ2
@[irreducible] def TruK (b : B) (ρ : Env) (P : Bool → Env → Prop) : Prop := ∃ d k, b.view ρ = some d ∧ d.truth = some k ∧ P k ρ
@[irreducible] def BoolK (b : B) (ρ : Env) (P : Bool → Env → Prop) : Prop := ∃ k, b.view ρ = some (.bl k) ∧ P k ρ
@[irreducible] def IfK (k : Bool) (A C : Prop) : Prop := (k = true → A) ∧ (k = false → C)
@[irreducible] def VF (g : Fn) (ss : List Slot) (P : RB → List Slot → Prop) : Prop := WF (g ss) P
@[irreducible] def CallK (g : Fn) (bs : List B) (ρ : Env) (P : B → Env → Prop) : Prop := noTwice bs = true ∧ ∃ ss, args ρ bs = some ss ∧ WF (g ss) fun r o => P r.b (back ρ bs o)
@[irreducible] def BackK (bs : List B) (ρ : Env) (Q : Env → Prop) (os : List Slot) : Prop := Q (back ρ bs os)
@[irreducible] def RetK (P : RB → List Slot → Prop) (b : B) (ρ : Env) : Prop := ∃ r ρ', retB ρ b = some (r, ρ') ∧ P r ρ'.outs
@[irreducible] def TgK (tg : Tg) (x : D) (ρ : Env) (Q : Env → Prop) : Prop := ∃ ρ3, tg.set ρ x = some ρ3 ∧ Q ρ3
@[irreducible] def SetiK (i : Nat) (ix : E) (nx : Env → Prop) (b : B) (ρ : Env) : Prop := ∃ d ρ2, b.keep ρ = some (d, ρ2) ∧ (∃ xs, ρ2.v[i]? = some (.ow xs)) ∧ W (evE ix ρ2) fun k ρ3 => ∃ z xs j, k.view ρ3 = some (.int z) ∧ ρ3.v[i]? = some (.ow xs) ∧ ixN xs.length z = some j ∧ nx (ρ3.setv i (.ow (xs.set j d)))
@[irreducible] def Seti2K (i : Nat) (d : D) (nx : Env → Prop) (k : B) (ρ3 : Env) : Prop := ∃ z xs j, k.view ρ3 = some (.int z) ∧ ρ3.v[i]? = some (.ow xs) ∧ ixN xs.length z = some j ∧ nx (ρ3.setv i (.ow (xs.set j d)))
@[irreducible] def MutK (f : List D → List D → Option (List D × D)) (i : Nat) (ds : List D) (ρ2 : Env) (P : B → Env → Prop) : Prop := ∃ xs ys x, ρ2.v[i]? = some (.ow xs) ∧ f xs ds = some (ys, x) ∧ P (.d x) (ρ2.setv i (.ow ys))
@[irreducible] def ForK (tg : Tg) (f : List D → Option (List D)) (bs : List B) (body : Ss) (ρ1 : Env) (nx : Env → Prop) (rt : B → Env → Prop) : Prop := ∃ ds items, views ρ1 bs = some ds ∧ f ds = some items ∧ ∃ I : Nat → Env → Prop, I 0 (locks ρ1 bs) ∧
      (∀ (j : Nat) (x : D) (ρ2 : Env), items[j]? = some x → I j ρ2 → ∃ ρ3, tg.set ρ2 x = some ρ3 ∧ WS (evSs body ρ3) (I (j + 1)) (fun b ρ4 => rt b (unlocks ρ1 ρ4 bs)) (fun ρ4 => nx (unlocks ρ1 ρ4 bs))) ∧
      ∀ ρ2, I items.length ρ2 → nx (unlocks ρ1 ρ2 bs)
@[irreducible] def LcK (ows : List Nat) (tg : Tg) (f : List D → Option (List D)) (bs : List B) (oc : OT) (elt : E) (ρ1 : Env) (P : B → Env → Prop) : Prop := ∃ ds items, views ρ1 bs = some ds ∧ f ds = some items ∧
      (items.length ≤ sizeLine ∧ (ows.all fun i => match ρ1.o[i]? with | some .att => false | _ => true) = true ∧ (tg.is.all fun i => ows.contains i) = true) ∧ ∃ I : Nat → List D → Env → Prop, I 0 [] (wipeE (locks ρ1 bs) ows) ∧
      (∀ (j : Nat) (x : D) (acc : List D) (ρ2 : Env), items[j]? = some x → I j acc ρ2 → ∃ ρ3, tg.set ρ2 x = some ρ3 ∧ W (evO oc ρ3) fun k ρ4 => (k = true → W (evE elt ρ4) fun b ρ5 => ∃ d ρ6, b.keep ρ5 = some (d, ρ6) ∧ I (j + 1) (acc ++ [d]) (wipeE ρ6 ows)) ∧ (k = false → I (j + 1) acc (wipeE ρ4 ows))) ∧
      ∀ acc ρ3, I items.length acc ρ3 → P (.nw acc) (unlocks ρ1 (unwipe (locks ρ1 bs) ρ3 ows) bs)
@[irreducible] def SortK (f : List D → List D → Option (List D)) (bs : List B) (j : Nat) (key : E) (ρ1 : Env) (P : B → Env → Prop) : Prop := ∃ ds xs ks ys, views ρ1 bs = some ds ∧ itemsOf ds = some xs ∧ ks.length = xs.length ∧
    (∀ (i : Nat) (x y : D), xs[i]? = some x → ks[i]? = some y → W (evE key (keyEnv ρ1 j x)) fun b _ => b = .d y) ∧ f xs ks = some ys ∧ P (.nw ys) ρ1
@[irreducible] def EltK (b : B) (ρ5 : Env) (Q : D → Env → Prop) : Prop := ∃ d ρ6, b.keep ρ5 = some (d, ρ6) ∧ Q d ρ6
section
variable {ρ : Env} {P : B → Env → Prop} {nx : Env → Prop} {rt : B → Env → Prop} {bk : Env → Prop} {v v' v1 o : List Slot}
/-! #### statements -/
theorem vss_nil (h : nx ρ) : VSs .nil ρ nx rt bk := VSs.to (ws_nil h)
theorem vss_cons {s : S} {ss : Ss} (h : VS s ρ (fun ρ1 => VSs ss ρ1 nx rt bk) rt bk) : VSs (.cons s ss) ρ nx rt bk := VSs.to (ws_cons (WS.mono h.of (fun _ q => q.of) (fun _ _ q => q) fun _ q => q))
theorem vs_asg {i : Nat} {e : E} (h : VE e ρ (AsgK i nx)) : VS (.asg (.n i) e) ρ nx rt bk := VS.to (ws_asg (W.mono h.of fun b ρ1 q => by unfold AsgK at q; exact q))
theorem vs_asgT {is : List Nat} {e : E} (h : VE e ρ (AsgTK is nx)) : VS (.asg (.t is) e) ρ nx rt bk := VS.to (ws_asgT (W.mono h.of fun b ρ1 q => by unfold AsgTK at q; exact q))
theorem vs_par {i j : Nat} {a b : E} (h : VE a ρ fun x ρ1 => VE b ρ1 fun y ρ2 => ParK i j nx x y ρ2) : VS (.par i j a b) ρ nx rt bk := VS.to (ws_par (W.mono h.of fun x ρ1 q => W.mono q.of fun y ρ2 q => by unfold ParK at q; exact q))
theorem vs_seti {i : Nat} {ix w : E} (h : VE w ρ (SetiK i ix nx)) : VS (.seti i ix w) ρ nx rt bk := VS.to (ws_seti (W.mono h.of fun b ρ1 q => by unfold SetiK at q; exact q))
theorem vs_ex {e : E} (h : VE e ρ fun _ ρ1 => nx ρ1) : VS (.ex e) ρ nx rt bk := VS.to (ws_ex h.of)
theorem vs_ret {e : E} (h : VE e ρ rt) : VS (.ret e) ρ nx rt bk := VS.to (ws_ret h.of)
theorem vs_retN (h : rt (.d .non) ρ) : VS .retN ρ nx rt bk := VS.to (ws_retN h)
theorem vs_pass (h : nx ρ) : VS .pass ρ nx rt bk := VS.to (ws_pass h)
theorem vs_brk (h : bk ρ) : VS .brk ρ nx rt bk := VS.to (ws_brk h)
theorem vs_ite {c : T} {a b : Ss} (h : VT c ρ fun k ρ1 => IfK k (VSs a ρ1 nx rt bk) (VSs b ρ1 nx rt bk)) : VS (.ite c a b) ρ nx rt bk := VS.to (ws_ite (W.mono h.of fun k ρ1 q => by
  unfold IfK at q
  exact ⟨fun h => (q.1 h).of, fun h => (q.2 h).of⟩))
theorem vs_for {tg : Tg} {f : List D → Option (List D)} {as : Es} {body : Ss} (h : VA as ρ fun bs ρ1 => ForK tg f bs body ρ1 nx rt) : VS (.for tg f as body) ρ nx rt bk := VS.to (ws_for (W.mono h.of fun bs ρ1 q => by unfold ForK at q; exact q))
theorem asgk {b : B} {s : Slot} {i : Nat} (hb : b.asSlot = some s) (hf : freeAt o i = true) (h : SetAt i s v v') (k : nx ⟨v', o⟩) : AsgK i nx b ⟨v, o⟩ := by
  unfold AsgK
  exact ⟨b, _, _, stab_of _ hb, by rw [bindB_of hb, bnd_at hf h], k⟩
theorem asgk_loc {i j : Nat} {xs : List D} (hv : v[j]? = some (.ow xs)) (hf : freeAt o j = true) (h : SetAt j (.sh (.lst xs)) v v1) (hf2 : freeAt o i = true) (h2 : SetAt i (.sh (.lst xs)) v1 v') (k : nx ⟨v', o⟩) : AsgK i nx (.loc j) ⟨v, o⟩ := by
  unfold AsgK
  refine ⟨.d (.lst xs), ⟨v1, o⟩, ⟨v', o⟩, ?_, bnd_at hf2 h2, k⟩
  show (match (B.loc j).keep ⟨v, o⟩ with | none => none | some (x, ρ') => some (B.d x, ρ')) = _
  have e : (B.loc j).keep ⟨v, o⟩ = some (.lst xs, ⟨v1, o⟩) := by
    unfold B.keep
    simp only [hv]
    rw [frz_at hf h]
  rw [e]
theorem asgtk {is : List Nat} {ds : List D} (h : BndAll o is ds v v') (k : nx ⟨v', o⟩) : AsgTK is nx (.d (.tup ds)) ⟨v, o⟩ := by
  unfold AsgTK
  exact ⟨ds, _, _, rfl, h.eq, k⟩
theorem park {i j : Nat} {x y : B} {s t : Slot} (hx : x.asSlot = some s) (hy : y.asSlot = some t) (hf : freeAt o i = true) (h : SetAt i s v v1) (hf2 : freeAt o j = true) (h2 : SetAt j t v1 v') (k : nx ⟨v', o⟩) : ParK i j nx x y ⟨v, o⟩ := by
  unfold ParK
  exact ⟨x, _, y, _, _, _, stab_of _ hx, stab_of _ hy, by rw [bindB_of hx, bnd_at hf h], by rw [bindB_of hy, bnd_at hf2 h2], k⟩
theorem setik {i : Nat} {ix : E} {b : B} {d : D} {xs : List D} (hb : b.asD = some d) (hv : v[i]? = some (.ow xs)) (h : VE ix ⟨v, o⟩ (Seti2K i d nx)) : SetiK i ix nx b ⟨v, o⟩ := by
  unfold SetiK
  exact ⟨d, _, keep_of _ hb, ⟨xs, hv⟩, W.mono h.of fun k ρ3 q => by unfold Seti2K at q; exact q⟩
theorem ifk_t {A C : Prop} (h : A) : IfK true A C := by unfold IfK; exact ⟨fun _ => h, fun z => (by cases z)⟩
theorem ifk_f {A C : Prop} (h : C) : IfK false A C := by unfold IfK; exact ⟨fun z => (by cases z), fun _ => h⟩
theorem ifk {k : Bool} {A C : Prop} (h1 : k = true → A) (h2 : k = false → C) : IfK k A C := by unfold IfK; exact ⟨h1, h2⟩
theorem ifk_nd {p : Prop} [Decidable p] {A C : Prop} (h1 : ¬ p → A) (h2 : p → C) : IfK (!decide p) A C := ifk (fun h => h1 (by simpa using h)) fun h => h2 (by simpa using h)
/-! #### tests -/
theorem vt_e {e : E} {Q : Bool → Env → Prop} (h : VE e ρ fun b ρ1 => TruK b ρ1 Q) : VT (.e e) ρ Q := VT.to (wt_e (W.mono h.of fun b ρ1 q => by unfold TruK at q; exact q))
theorem vt_eb {e : E} {Q : Bool → Env → Prop} (h : VE e ρ fun b ρ1 => BoolK b ρ1 Q) : VT (.eb e) ρ Q := VT.to (wt_eb (W.mono h.of fun b ρ1 q => by unfold BoolK at q; exact q))
theorem vt_and {a b : T} {Q : Bool → Env → Prop} (h : VT a ρ fun k ρ1 => IfK k (VT b ρ1 Q) (Q false ρ1)) : VT (.and a b) ρ Q := VT.to (wt_and (W.mono h.of fun k ρ1 q => by
  unfold IfK at q
  exact ⟨fun h => (q.1 h).of, q.2⟩))
theorem vt_or {a b : T} {Q : Bool → Env → Prop} (h : VT a ρ fun k ρ1 => IfK k (Q true ρ1) (VT b ρ1 Q)) : VT (.or a b) ρ Q := VT.to (wt_or (W.mono h.of fun k ρ1 q => by
  unfold IfK at q
  exact ⟨q.1, fun h => (q.2 h).of⟩))
theorem vt_not {a : T} {Q : Bool → Env → Prop} (h : VT a ρ fun k ρ1 => Q (!k) ρ1) : VT (.not a) ρ Q := VT.to (wt_not h.of)
theorem boolk {k : Bool} {Q : Bool → Env → Prop} (h : Q k ρ) : BoolK (.d (.bl k)) ρ Q := by unfold BoolK; exact ⟨k, rfl, h⟩
theorem truk {b : B} {d : D} {k : Bool} {Q : Bool → Env → Prop} (h1 : b.view ρ = some d) (h2 : d.truth = some k) (h : Q k ρ) : TruK b ρ Q := by unfold TruK; exact ⟨d, k, h1, h2, h⟩
/-! #### expressions -/
theorem ve_con {d : D} (k : P (.d d) ρ) : VE (.con d) ρ P := VE.to (w_con k)
theorem ve_prim {f : List D → Option RB} {as : Es} (h : VA as ρ fun bs ρ1 => PrimK f bs ρ1 P) : VE (.prim f as) ρ P := VE.to (w_prim (W.mono h.of fun b ρ1 q => by unfold PrimK at q; exact q))
theorem ve_tup {as : Es} (h : VD as ρ fun ds ρ1 => TupK ds ρ1 P) : VE (.tup as) ρ P := VE.to (w_tup (W.mono h.of fun b ρ1 q => by unfold TupK at q; exact q))
theorem ve_lst {as : Es} (h : VD as ρ fun ds ρ1 => LstK ds ρ1 P) : VE (.lst as) ρ P := VE.to (w_lst (W.mono h.of fun b ρ1 q => by unfold LstK at q; exact q))
theorem ve_call {g : Fn} {as : Es} (h : VA as ρ fun bs ρ1 => CallK g bs ρ1 P) : VE (.call g as) ρ P := VE.to (w_call (W.mono h.of fun b ρ1 q => by unfold CallK at q; exact q))
theorem ve_ite {c : T} {a b : E} (h : VT c ρ fun k ρ1 => IfK k (VE a ρ1 P) (VE b ρ1 P)) : VE (.ite c a b) ρ P := VE.to (w_ite (W.mono h.of fun k ρ1 q => by
  unfold IfK at q
  exact ⟨fun h => (q.1 h).of, fun h => (q.2 h).of⟩))
theorem ve_and {a b : E} (h : VE a ρ fun x ρ1 => BoolK x ρ1 fun k ρ1 => IfK k (VE b ρ1 P) (P (.d (.bl false)) ρ1)) : VE (.and a b) ρ P := VE.to (we_and (W.mono h.of fun x ρ1 q => by
  unfold BoolK IfK at q
  obtain ⟨k, h1, h2, h3⟩ := q
  exact ⟨k, h1, fun h => (h2 h).of, h3⟩))
theorem ve_or {a b : E} (h : VE a ρ fun x ρ1 => BoolK x ρ1 fun k ρ1 => IfK k (P (.d (.bl true)) ρ1) (VE b ρ1 P)) : VE (.or a b) ρ P := VE.to (we_or (W.mono h.of fun x ρ1 q => by
  unfold BoolK IfK at q
  obtain ⟨k, h1, h2, h3⟩ := q
  exact ⟨k, h1, h2, fun h => (h3 h).of⟩))
theorem ve_not {a : E} (h : VE a ρ fun x ρ1 => BoolK x ρ1 fun k ρ1 => P (.d (.bl (!k))) ρ1) : VE (.notb a) ρ P := VE.to (we_not (W.mono h.of fun x ρ1 q => by
  unfold BoolK at q
  exact q))
theorem ve_mut {f : List D → List D → Option (List D × D)} {i : Nat} {as : Es} {xs0 : List D} (h0 : ρ.v[i]? = some (.ow xs0)) (h : VD as ρ fun ds ρ2 => MutK f i ds ρ2 P) : VE (.mut f i as) ρ P := VE.to (by
  rw [evE, h0]
  refine W.bind (r := evD as ρ) (W.mono h.of fun ds ρ2 q => ?_)
  unfold MutK at q
  obtain ⟨xs, ys, x, h1, h2, h3⟩ := q
  simp only [h1, h2]
  exact h3)
theorem ve_lc {ows : List Nat} {tg : Tg} {f : List D → Option (List D)} {as : Es} {oc : OT} {elt : E} (h : VA as ρ fun bs ρ1 => LcK ows tg f bs oc elt ρ1 P) : VE (.lc ows tg f as oc elt) ρ P := VE.to (w_lc (W.mono h.of fun b ρ1 q => by unfold LcK at q; exact q))
theorem ve_sortk {f : List D → List D → Option (List D)} {as : Es} {j : Nat} {key : E} (h : VA as ρ fun bs ρ1 => SortK f bs j key ρ1 P) : VE (.sortk f as j key) ρ P := VE.to (w_sortk (W.mono h.of fun b ρ1 q => by unfold SortK at q; exact q))
@[irreducible] def ChainK (f f' : List D → Option RB) (d : E) (x y : B) (ρ2 : Env) (P : B → Env → Prop) : Prop := ∃ u v k, x.view ρ2 = some u ∧ y.view ρ2 = some v ∧ f [u, v] = some (.d (.bl k)) ∧ (k = false → P (.d (.bl false)) ρ2) ∧
      (k = true → W (evE d ρ2) fun z ρ3 => ∃ v' w r, y.view ρ3 = some v' ∧ z.view ρ3 = some w ∧ f' [v', w] = some r ∧ P r.b ρ3)
theorem ve_chain {f f' : List D → Option RB} {a b d : E} (h : VE a ρ fun x ρ1 => VE b ρ1 fun y ρ2 => ChainK f f' d x y ρ2 P) : VE (.chain f f' a b d) ρ P := VE.to (w_chain (W.mono h.of fun x ρ1 q => W.mono q.of fun y ρ2 q => by unfold ChainK at q; exact q))
theorem va_cons {e : E} {es : Es} {Q : List B → Env → Prop} (h : VE e ρ fun b ρ1 => VA es ρ1 fun bs ρ2 => Q (b :: bs) ρ2) : VA (.cons e es) ρ Q := VA.to (wa_cons (W.mono h.of fun b ρ1 q => q.of))
theorem va_nil {Q : List B → Env → Prop} (h : Q [] ρ) : VA .nil ρ Q := VA.to (wa_nil h)
theorem vd_cons {e : E} {es : Es} {Q : List D → Env → Prop} (h : VE e ρ fun b ρ1 => KeepK b ρ1 fun d ρ2 => VD es ρ2 fun ds ρ3 => Q (d :: ds) ρ3) : VD (.cons e es) ρ Q := VD.to (wd_cons (W.mono h.of fun b ρ1 q => by
  unfold KeepK at q
  obtain ⟨d, ρ2, h1, h2⟩ := q
  exact ⟨d, ρ2, h1, h2.of⟩))
theorem vd_nil {Q : List D → Env → Prop} (h : Q [] ρ) : VD .nil ρ Q := VD.to (wd_nil h)
theorem vo_none {Q : Bool → Env → Prop} (h : Q true ρ) : VO .none ρ Q := VO.to (W.of rfl h)
theorem vo_some {t : T} {Q : Bool → Env → Prop} (h : VT t ρ Q) : VO (.some t) ρ Q := VO.to h.of
theorem primk {f : List D → Option RB} {bs : List B} {ds : List D} {r : RB} (h1 : views ρ bs = some ds) (h2 : f ds = some r) (h3 : P r.b ρ) : PrimK f bs ρ P := by unfold PrimK; exact ⟨ds, r, h1, h2, h3⟩
theorem tupk {ds : List D} (h : ds.length ≤ 1000) (k : P (.d (.tup ds)) ρ) : TupK ds ρ P := by unfold TupK; exact ⟨h, k⟩
theorem lstk {ds : List D} (h : ds.length ≤ 1000) (k : P (.nw ds) ρ) : LstK ds ρ P := by unfold LstK; exact ⟨h, k⟩
theorem keepk {b : B} {d : D} {Q : D → Env → Prop} (hb : b.asD = some d) (k : Q d ρ) : KeepK b ρ Q := by unfold KeepK; exact ⟨d, ρ, keep_of ρ hb, k⟩
theorem keepk_loc {j : Nat} {xs : List D} {Q : D → Env → Prop} (hv : v[j]? = some (.ow xs)) (hf : freeAt o j = true) (h : SetAt j (.sh (.lst xs)) v v') (k : Q (.lst xs) ⟨v', o⟩) : KeepK (.loc j) ⟨v, o⟩ Q := by
  unfold KeepK
  refine ⟨.lst xs, ⟨v', o⟩, ?_, k⟩
  unfold B.keep
  simp only [hv]
  rw [frz_at hf h]
theorem mutk {f : List D → List D → Option (List D × D)} {i : Nat} {ds xs ys : List D} {x : D} (hv : v[i]? = some (.ow xs)) (hf : f xs ds = some (ys, x)) (h : SetAt i (.ow ys) v v') (k : P (.d x) ⟨v', o⟩) : MutK f i ds ⟨v, o⟩ P := by
  unfold MutK
  refine ⟨xs, ys, x, hv, hf, ?_⟩
  show P (.d x) ⟨v.set i (.ow ys), o⟩
  rw [h.eq]
  exact k
theorem callk {g : Fn} {bs : List B} {ss : List Slot} (hn : noTwice bs = true) (ha : args ρ bs = some ss) (h : VF g ss fun r os => BackK bs ρ (P r.b) os) : CallK g bs ρ P := by
  unfold CallK
  unfold VF at h
  exact ⟨hn, ss, ha, WF.mono h fun r o q => by unfold BackK at q; exact q⟩
theorem backk {bs : List B} {os : List Slot} {Q : Env → Prop} (h : BackV bs os v v') (hn : noTwice bs = true) (k : Q ⟨v', o⟩) : BackK bs ⟨v, o⟩ Q os := by
  unfold BackK
  rw [h.eq hn]
  exact k
theorem retk_d {P : RB → List Slot → Prop} {x : D} (h : P (.d x) ρ.outs) : RetK P (.d x) ρ := by unfold RetK; exact ⟨.d x, ρ, rfl, h⟩
theorem retk_nw {P : RB → List Slot → Prop} {x : List D} (h : P (.nw x) ρ.outs) : RetK P (.nw x) ρ := by unfold RetK; exact ⟨.nw x, ρ, rfl, h⟩
theorem retk_loc {P : RB → List Slot → Prop} {i : Nat} {xs : List D} (hv : v[i]? = some (.ow xs)) (hf : freeAt o i = true) (h : P (.nw xs) (Env.outs ⟨v, o⟩)) : RetK P (.loc i) ⟨v, o⟩ := by
  unfold RetK
  refine ⟨.nw xs, ⟨v, o⟩, ?_, h⟩
  unfold freeAt at hf
  unfold retB
  simp only [hv]
  split
  · rename_i q; rw [q] at hf; cases hf
  · rfl
theorem tgk_n {i : Nat} {x : D} {Q : Env → Prop} (hf : freeAt o i = true) (h : SetAt i (.sh x) v v') (k : Q ⟨v', o⟩) : TgK (.n i) x ⟨v, o⟩ Q := by
  unfold TgK
  exact ⟨_, bnd_at hf h, k⟩
theorem tgk_t {is : List Nat} {ds : List D} {Q : Env → Prop} (h : BndAll o is ds v v') (k : Q ⟨v', o⟩) : TgK (.t is) (.tup ds) ⟨v, o⟩ Q := by
  unfold TgK
  exact ⟨_, h.eq, k⟩
theorem eltk {b : B} {d : D} {Q : D → Env → Prop} (hb : b.asD = some d) (k : Q d ρ) : EltK b ρ Q := by unfold EltK; exact ⟨d, ρ, keep_of ρ hb, k⟩
/-! #### a def -/
inductive PadV : Nat → List Slot → List Slot → Prop where
  | zero : PadV 0 [] []
  | nil {n : Nat} {l : List Slot} : PadV n [] l → PadV (n + 1) [] (.un :: l)
  | cons {n : Nat} {s : Slot} {ss l : List Slot} : PadV n ss l → PadV (n + 1) (s :: ss) (s :: l)
theorem PadV.eq {n : Nat} {ss l : List Slot} (h : PadV n ss l) : ss ++ List.replicate (n - ss.length) .un = l := by
  induction h with
  | zero => rfl
  | @nil n l _ ih =>
    have ih : List.replicate n Slot.un = l := by simpa using ih
    show List.replicate (n + 1) Slot.un = _
    rw [List.replicate_succ, ih]
  | @cons n s ss l _ ih =>
    rw [List.length_cons, Nat.add_sub_add_right, List.cons_append, ih]
inductive PassV : List Slot → List Slot → Prop where
  | nil : PassV [] []
  | ow {xs : List D} {ss l : List Slot} : PassV ss l → PassV (.ow xs :: ss) (.att :: l)
  | sh {x : D} {ss l : List Slot} : PassV ss l → PassV (.sh x :: ss) (.un :: l)
theorem PassV.eq {ss l : List Slot} (h : PassV ss l) : ss.map Slot.pass = l := by
  induction h with
  | nil => rfl
  | ow _ ih => rw [List.map_cons, ih]; rfl
  | sh _ ih => rw [List.map_cons, ih]; rfl
theorem vf_fn {n : Nat} {ir : Ss} {ss v o : List Slot} {P : RB → List Slot → Prop} (hv : PadV n ss v) (ho : PassV ss o) (h : VSs ir ⟨v, o⟩ (fun ρ => P (.d .non) ρ.outs) (RetK P) fun _ => False) : WF (runFn0 n ir ss) P := by
  refine wf_fn ?_
  have e : start0 n ss = ⟨v, o⟩ := by
    unfold start0
    rw [hv.eq, ho.eq]
  rw [e]
  exact WS.mono h.of (fun _ q => q) (fun b ρ q => by unfold RetK at q; exact q) fun _ q => q
theorem VF.of {g : Fn} {ss : List Slot} {A : Prop} {Q P : RB → List Slot → Prop} (h : A) (e : A = WF (g ss) Q) (k : ∀ r o, Q r o → P r o) : VF g ss P := by
  unfold VF
  subst e
  exact WF.mono h k
theorem VF.eq {g : Fn} {ss : List Slot} {A : Prop} {a : RB} {os : List Slot} {P : RB → List Slot → Prop} (h : A) (e : A = WF (g ss) fun r o => r = a ∧ o = os) (k : P a os) : VF g ss P := VF.of h e fun r o ⟨e1, e2⟩ => by rw [e1, e2]; exact k
theorem VF.eq' {g : Fn} {ss : List Slot} {A : Prop} {a : RB} {os : List Slot} {P : RB → List Slot → Prop} (h : A) (e : A = WF (g ss) fun r o => o = os ∧ r = a) (k : P a os) : VF g ss P := VF.of h e fun r o ⟨e2, e1⟩ => by rw [e1, e2]; exact k
theorem VF.mono {g : Fn} {ss : List Slot} {Q P : RB → List Slot → Prop} (h : VF g ss Q) (k : ∀ r o, Q r o → P r o) : VF g ss P := by
  unfold VF at h ⊢
  exact WF.mono h k
theorem VF.is {g : Fn} {ss : List Slot} {a : RB} {os : List Slot} {P : RB → List Slot → Prop} (h : VF g ss fun r o => r = a ∧ o = os) (k : P a os) : VF g ss P := VF.mono h fun r o ⟨e1, e2⟩ => by rw [e1, e2]; exact k
theorem VF.ofW {g : Fn} {ss : List Slot} {A : Prop} {P : RB → List Slot → Prop} (h : A) (e : A = WF (g ss) P) : VF g ss P := by
  unfold VF
  subst e
  exact h
theorem VF_eq {g : Fn} {ss : List Slot} {P : RB → List Slot → Prop} : VF g ss P = WF (g ss) P := by unfold VF; rfl
theorem vff_fn {n : Nat} {ir : Ss} {ss v o : List Slot} {P : RB → List Slot → Prop} (hv : PadV n ss v) (ho : PassV ss o) (h : VSs ir ⟨v, o⟩ (fun ρ => P (.d .non) ρ.outs) (RetK P) fun _ => False) : VF (runFn0 n ir) ss P := by
  unfold VF
  exact vf_fn hv ho h
theorem WF.eq {r : FRes} {a : RB} {os : List Slot} {Q : RB → List Slot → Prop} (h : WF r fun r o => r = a ∧ o = os) (k : Q a os) : WF r Q := WF.mono h fun r o ⟨e1, e2⟩ => by rw [e1, e2]; exact k
/-! #### loops over data -/
theorem fork {α σ : Type} {tg : Tg} {f : List D → Option (List D)} {bs : List B} {body : Ss} {ds : List D} (l : List α) (g : α → D) (fr : σ → Env) (I : Nat → σ → Prop) (s0 : σ) (hn : noLocs bs = true) (hv : views ρ bs = some ds) (hf : f ds = some (l.map g)) (hρ : ρ = fr s0) (h0 : I 0 s0)
    (hs : ∀ (j : Nat) (a : α) (s : σ), l[j]? = some a → I j s → TgK tg (g a) (fr s) fun ρ3 => VSs body ρ3 (fun ρ4 => ∃ s', ρ4 = fr s' ∧ I (j + 1) s') rt nx) (he : ∀ s, I l.length s → nx (fr s)) : ForK tg f bs body ρ nx rt := by
  unfold ForK
  refine ⟨ds, l.map g, hv, hf, fun j ρ' => ∃ s, ρ' = fr s ∧ I j s, ⟨s0, by rw [locks_no hn, hρ], h0⟩, ?_, ?_⟩
  · rintro j x ρ2 hx ⟨s, rfl, hI⟩
    rw [List.getElem?_map] at hx
    cases hj : l[j]? with
    | none => rw [hj] at hx; cases hx
    | some a =>
      rw [hj] at hx
      cases hx
      have q := hs j a s hj hI
      unfold TgK at q
      obtain ⟨ρ3, e, q⟩ := q
      exact ⟨ρ3, e, WS.mono q.of (fun _ h => h) (fun b ρ4 h => by rw [unlocks_no hn]; exact h) fun ρ4 h => by rw [unlocks_no hn]; exact h⟩
  · rintro ρ2 ⟨s, rfl, hI⟩
    rw [unlocks_no hn]
    rw [List.length_map] at hI
    exact he s hI
end
end Ev
namespace Ev
open PySem L2
/-! ### comprehensions -/
inductive LockV : List B → List Slot → List Slot → Prop where
  | nil {v : List Slot} : LockV [] v v
  | d {x : D} {bs : List B} {v v' : List Slot} : LockV bs v v' → LockV (.d x :: bs) v v'
  | nw {x : List D} {bs : List B} {v v' : List Slot} : LockV bs v v' → LockV (.nw x :: bs) v v'
  | loc {i : Nat} {xs : List D} {bs : List B} {v v1 v' : List Slot} : v[i]? = some (.ow xs) → SetAt i (.lk xs) v v1 → LockV bs v1 v' → LockV (.loc i :: bs) v v'
  | lk {i : Nat} {xs : List D} {bs : List B} {v v' : List Slot} : v[i]? = some (.lk xs) → LockV bs v v' → LockV (.loc i :: bs) v v'
theorem lock1_lk (xs : List D) (b : Bool) : lock1 (.lk xs) b = .lk xs := by cases b <;> rfl
theorem LockV.at {bs : List B} {v vl : List Slot} (h : LockV bs v vl) : ∀ j, vl[j]? = (v[j]?).map fun s => lock1 s (hasLoc j bs) := by
  induction h with
  | @nil v =>
    intro j
    cases v[j]? with
    | none => rfl
    | some s => show some s = some (lock1 s false); rw [lock1_f]
  | d _ ih => exact ih
  | nw _ ih => exact ih
  | @loc i xs bs v v1 v' hv hs _ ih =>
    intro j
    have hi : i < v.length := (List.getElem?_eq_some_iff.mp hv).1
    rw [ih j, ← hs.eq, List.getElem?_set]
    by_cases h : i = j
    · subst h
      rw [if_pos rfl, if_pos hi, hv]
      show some (lock1 (.lk xs) _) = some (lock1 (.ow xs) (i == i || _))
      rw [lock1_lk, beq_self_eq_true]
      rfl
    · rw [if_neg h]
      cases v[j]? with
      | none => rfl
      | some s =>
        show some _ = some (lock1 s (j == i || _))
        rw [beq_eq_false_iff_ne.mpr (Ne.symm h)]
        rfl
  | @lk i xs bs v v' hv _ ih =>
    intro j
    rw [ih j]
    by_cases h : i = j
    · subst h
      rw [hv]
      show some (lock1 (.lk xs) _) = some (lock1 (.lk xs) _)
      rw [lock1_lk, lock1_lk]
    · cases v[j]? with
      | none => rfl
      | some s =>
        show some _ = some (lock1 s (j == i || _))
        rw [beq_eq_false_iff_ne.mpr (Ne.symm h)]
        rfl
theorem LockV.eq {bs : List B} {v vl o : List Slot} (h : LockV bs v vl) : locks ⟨v, o⟩ bs = ⟨vl, o⟩ := by
  unfold locks
  congr 1
  refine List.ext_getElem? fun j => ?_
  rw [mapI_ix', Nat.zero_add, h.at j]
theorem unlock_lock (s : Slot) (b : Bool) : unlock1 (lock1 s b) (some s) b = s := by cases s <;> cases b <;> rfl
theorem unlocks_locks (ρ : Env) (bs : List B) : unlocks ρ (locks ρ bs) bs = ρ := by
  unfold unlocks locks
  simp only
  have : mapI (fun i s => unlock1 s ρ.v[i]? (hasLoc i bs)) 0 (mapI (fun i s => lock1 s (hasLoc i bs)) 0 ρ.v) = ρ.v := by
    refine List.ext_getElem? fun j => ?_
    rw [mapI_ix', mapI_ix', Nat.zero_add]
    cases h : ρ.v[j]? with
    | none => rfl
    | some s =>
      show some (unlock1 (lock1 s _) (some s) _) = some s
      rw [unlock_lock]
  rw [this]
theorem unwipe_self (ρ : Env) (ows : List Nat) : unwipe ρ ρ ows = ρ := by
  unfold unwipe
  have : mapI (fun i s => if ows.contains i then ρ.v.getD i .un else s) 0 ρ.v = ρ.v := mapI_same' fun i s h => by
    split
    · rw [List.getD_eq_getElem?_getD, h]; rfl
    · rfl
  rw [this]
section
variable {P : B → Env → Prop} {v vl o : List Slot} {α : Type}
theorem lckM {ows : List Nat} {tg : Tg} {f : List D → Option (List D)} {bs : List B} {elt : E} {ds : List D} (l : List α) (g e : α → D) (hv : views ⟨v, o⟩ bs = some ds) (hf : f ds = some (l.map g)) (hl : l.length ≤ 1000000) (hk : LockV bs v vl) (ha : (ows.all fun i => match o[i]? with | some .att => false | _ => true) = true) (ht : (tg.is.all fun i => ows.contains i) = true) (hw : wipeE ⟨vl, o⟩ ows = ⟨vl, o⟩)
    (hs : ∀ a ∈ l, TgK tg (g a) ⟨vl, o⟩ fun ρ3 => VE elt ρ3 fun b ρ5 => EltK b ρ5 fun d ρ6 => d = e a ∧ wipeE ρ6 ows = ⟨vl, o⟩) (k : P (.nw (l.map e)) ⟨v, o⟩) : LcK ows tg f bs .none elt ⟨v, o⟩ P := by
  unfold LcK
  have e1 : locks ⟨v, o⟩ bs = ⟨vl, o⟩ := hk.eq
  refine ⟨ds, l.map g, hv, hf, ⟨by rw [List.length_map, sizeLine_eq]; omega, ha, ht⟩, fun j acc ρ2 => acc = (l.map e).take j ∧ ρ2 = ⟨vl, o⟩, ⟨rfl, by rw [e1, hw]⟩, ?_, ?_⟩
  · rintro j x acc ρ2 hx ⟨rfl, rfl⟩
    rw [List.getElem?_map] at hx
    cases hj : l[j]? with
    | none => rw [hj] at hx; cases hx
    | some a =>
      rw [hj] at hx
      cases hx
      have q := hs a (List.mem_of_getElem? hj)
      unfold TgK at q
      obtain ⟨ρ3, e3, q⟩ := q
      refine ⟨ρ3, e3, W.of (a := true) (ρ := ρ3) rfl ⟨fun _ => W.mono q.of fun b ρ5 q => ?_, fun z => by cases z⟩⟩
      unfold EltK at q
      obtain ⟨d, ρ6, h1, rfl, h2⟩ := q
      refine ⟨_, ρ6, h1, ?_, h2⟩
      rw [List.take_add_one, List.getElem?_map, hj]
      rfl
  · rintro acc ρ3 ⟨rfl, rfl⟩
    rw [e1, unwipe_self, ← e1, unlocks_locks, List.length_map, ← List.length_map (f := e), List.take_length]
    exact k
/-- turns that leave something behind -/
theorem lckS {σ : Type} {ρ : Env} {ows : List Nat} {tg : Tg} {f : List D → Option (List D)} {bs : List B} {oc : OT} {elt : E} {ds : List D} (l : List α) (g : α → D) (fr fr' : σ → Env) (I : Nat → List D → σ → Prop) (s0 : σ) (hv : views ρ bs = some ds) (hf : f ds = some (l.map g)) (hl : l.length ≤ 1000000) (ha : (ows.all fun i => match ρ.o[i]? with | some .att => false | _ => true) = true) (ht : (tg.is.all fun i => ows.contains i) = true) (hw : wipeE (locks ρ bs) ows = fr s0) (h0 : I 0 [] s0) (hu : ∀ s, unlocks ρ (unwipe (locks ρ bs) (fr s) ows) bs = fr' s)
    (hs : ∀ (j : Nat) (a : α) (acc : List D) (s : σ), l[j]? = some a → I j acc s → TgK tg (g a) (fr s) fun ρ3 => VO oc ρ3 fun k ρ4 => IfK k (VE elt ρ4 fun b ρ5 => EltK b ρ5 fun d ρ6 => ∃ s', wipeE ρ6 ows = fr s' ∧ I (j + 1) (acc ++ [d]) s') (∃ s', wipeE ρ4 ows = fr s' ∧ I (j + 1) acc s')) (k : ∀ acc s, I l.length acc s → P (.nw acc) (fr' s)) : LcK ows tg f bs oc elt ρ P := by
  unfold LcK
  refine ⟨ds, l.map g, hv, hf, ⟨by rw [List.length_map, sizeLine_eq]; omega, ha, ht⟩, fun j acc ρ2 => ∃ s, ρ2 = fr s ∧ I j acc s, ⟨s0, hw, h0⟩, ?_, ?_⟩
  · rintro j x acc ρ2 hx ⟨s, rfl, hI⟩
    rw [List.getElem?_map] at hx
    cases hj : l[j]? with
    | none => rw [hj] at hx; cases hx
    | some a =>
      rw [hj] at hx
      cases hx
      have z := hs j a acc s hj hI
      unfold TgK at z
      obtain ⟨ρ3, e3, z⟩ := z
      refine ⟨ρ3, e3, W.mono z.of fun kk ρ4 z => ?_⟩
      unfold IfK at z
      refine ⟨fun hk => W.mono (z.1 hk).of fun b ρ5 z => ?_, z.2⟩
      unfold EltK at z
      exact z
  · rintro acc ρ3 ⟨s, rfl, hI⟩
    rw [hu]
    rw [List.length_map] at hI
    exact k acc s hI
end
end Ev
namespace Ev
open PySem L2
/-! ### what is done to frames, found by instances -/
class GetC (i : Nat) (l : List Slot) (s : outParam Slot) : Prop where
  h : l[i]? = some s
class SetC (i : Nat) (s : Slot) (l : List Slot) (l' : outParam (List Slot)) : Prop where
  h : SetAt i s l l'
class FreeC (o : List Slot) (i : Nat) : Prop where
  h : freeAt o i = true
section
variable {i n : Nat} {s a : Slot} {l l' o v v1 v' vl : List Slot} {x d : D} {xs ds : List D} {b : B} {bs : List B} {os ss : List Slot}
instance : GetC 0 (s :: l) s := ⟨rfl⟩
instance [g : GetC i l s] : GetC (i + 1) (a :: l) s := ⟨by rw [List.getElem?_cons_succ]; exact g.h⟩
instance : SetC 0 s (a :: l) (s :: l) := ⟨.zero⟩
instance [g : SetC i s l l'] : SetC (i + 1) s (a :: l) (a :: l') := ⟨.succ g.h⟩
instance : FreeC [] i := ⟨rfl⟩
instance : FreeC (.un :: o) 0 := ⟨rfl⟩
instance : FreeC (.sh x :: o) 0 := ⟨rfl⟩
instance : FreeC (.ow xs :: o) 0 := ⟨rfl⟩
instance [g : FreeC o i] : FreeC (a :: o) (i + 1) := ⟨by have := g.h; unfold freeAt at this ⊢; rw [List.getElem?_cons_succ]; exact this⟩
/-- a variable's value -/
class VarC (i : Nat) (v : List Slot) (b : outParam B) : Prop where
  h : ∀ o, evE (.var i) ⟨v, o⟩ = .ok b ⟨v, o⟩
class VarS (s : Slot) (i : Nat) (b : outParam B) : Prop where
  h : ∀ v o, v[i]? = some s → evE (.var i) ⟨v, o⟩ = .ok b ⟨v, o⟩
instance : VarS (.sh x) i (.d x) := ⟨fun v o h => by
  show (match v[i]? with | some (.sh d) => Res.ok (B.d d) _ | some (.ow _) => .ok (.loc i) _ | some (.lk _) => .ok (.loc i) _ | _ => .no) = _
  rw [h]⟩
instance : VarS (.ow xs) i (.loc i) := ⟨fun v o h => by
  show (match v[i]? with | some (.sh d) => Res.ok (B.d d) _ | some (.ow _) => .ok (.loc i) _ | some (.lk _) => .ok (.loc i) _ | _ => .no) = _
  rw [h]⟩
instance : VarS (.lk xs) i (.loc i) := ⟨fun v o h => by
  show (match v[i]? with | some (.sh d) => Res.ok (B.d d) _ | some (.ow _) => .ok (.loc i) _ | some (.lk _) => .ok (.loc i) _ | _ => .no) = _
  rw [h]⟩
instance [g : GetC i v s] [q : VarS s i b] : VarC i v b := ⟨fun o => q.h v o g.h⟩
/-- x = b -/
class AsgC (i : Nat) (b : B) (v o : List Slot) (v' : outParam (List Slot)) : Prop where
  h : ∀ nx : Env → Prop, nx ⟨v', o⟩ → AsgK i nx b ⟨v, o⟩
instance [f : FreeC o i] [g : SetC i (.sh x) v v'] : AsgC i (.d x) v o v' := ⟨fun nx k => asgk rfl f.h g.h k⟩
instance [f : FreeC o i] [g : SetC i (.ow xs) v v'] : AsgC i (.nw xs) v o v' := ⟨fun nx k => asgk rfl f.h g.h k⟩
instance {j : Nat} [e : GetC j v (.ow xs)] [f : FreeC o j] [g : SetC j (.sh (.lst xs)) v v1] [f2 : FreeC o i] [g2 : SetC i (.sh (.lst xs)) v1 v'] : AsgC i (.loc j) v o v' := ⟨fun nx k => asgk_loc e.h f.h g.h f2.h g2.h k⟩
class BndC (o : List Slot) (is : List Nat) (ds : List D) (v : List Slot) (v' : outParam (List Slot)) : Prop where
  h : BndAll o is ds v v'
instance : BndC o [] [] v v := ⟨.nil⟩
instance {is : List Nat} [f : FreeC o i] [g : SetC i (.sh d) v v1] [q : BndC o is ds v1 v'] : BndC o (i :: is) (d :: ds) v v' := ⟨.cons f.h g.h q.h⟩
class BackC (bs : List B) (os v : List Slot) (v' : outParam (List Slot)) : Prop where
  h : BackV bs os v v'
instance : BackC [] [] v v := ⟨.nil⟩
instance [q : BackC bs os v v'] : BackC (.d x :: bs) (s :: os) v v' := ⟨.d q.h⟩
instance [q : BackC bs os v v'] : BackC (.nw xs :: bs) (s :: os) v v' := ⟨.nw q.h⟩
instance {h h' : List D} [e : GetC i v (.ow h)] [g : SetC i (.ow h') v v1] [q : BackC bs os v1 v'] : BackC (.loc i :: bs) (.ow h' :: os) v v' := ⟨.loc e.h g.h q.h⟩
class LockC (bs : List B) (v : List Slot) (vl : outParam (List Slot)) : Prop where
  h : LockV bs v vl
instance : LockC [] v v := ⟨.nil⟩
instance [q : LockC bs v vl] : LockC (.d x :: bs) v vl := ⟨.d q.h⟩
instance [q : LockC bs v vl] : LockC (.nw xs :: bs) v vl := ⟨.nw q.h⟩
class LockS (s : Slot) (i : Nat) (v : List Slot) (v' : outParam (List Slot)) : Prop where
  h : ∀ bs vl, v[i]? = some s → LockV bs v' vl → LockV (.loc i :: bs) v vl
instance [g : SetC i (.lk xs) v v'] : LockS (.ow xs) i v v' := ⟨fun _ _ e q => .loc e g.h q⟩
instance : LockS (.lk xs) i v v := ⟨fun _ _ e q => .lk e q⟩
instance [e : GetC i v s] [g : LockS s i v v1] [q : LockC bs v1 vl] : LockC (.loc i :: bs) v vl := ⟨g.h _ _ e.h q.h⟩
class KeepC (b : B) (v o : List Slot) (d : outParam D) (v' : outParam (List Slot)) : Prop where
  h : ∀ Q : D → Env → Prop, Q d ⟨v', o⟩ → KeepK b ⟨v, o⟩ Q
instance : KeepC (.d x) v o x v := ⟨fun Q k => keepk rfl k⟩
instance : KeepC (.nw xs) v o (.lst xs) v := ⟨fun Q k => keepk rfl k⟩
class KeepS (s : Slot) (j : Nat) (v o : List Slot) (d : outParam D) (v' : outParam (List Slot)) : Prop where
  h : v[j]? = some s → ∀ Q : D → Env → Prop, Q d ⟨v', o⟩ → KeepK (.loc j) ⟨v, o⟩ Q
instance {j : Nat} [f : FreeC o j] [g : SetC j (.sh (.lst xs)) v v'] : KeepS (.ow xs) j v o (.lst xs) v' := ⟨fun e Q k => keepk_loc e f.h g.h k⟩
instance {j : Nat} [e : GetC j v s] [g : KeepS s j v o d v'] : KeepC (.loc j) v o d v' := ⟨g.h e.h⟩
class RetC (b : B) (v o : List Slot) (r : outParam RB) : Prop where
  h : ∀ P : RB → List Slot → Prop, P r (Env.outs ⟨v, o⟩) → RetK P b ⟨v, o⟩
instance : RetC (.d x) v o (.d x) := ⟨fun P k => retk_d k⟩
instance : RetC (.nw xs) v o (.nw xs) := ⟨fun P k => retk_nw k⟩
instance {j : Nat} [e : GetC j v (.ow xs)] [f : FreeC o j] : RetC (.loc j) v o (.nw xs) := ⟨fun P k => retk_loc e.h f.h k⟩
class TgC (tg : Tg) (x : D) (v o : List Slot) (v' : outParam (List Slot)) : Prop where
  h : ∀ Q : Env → Prop, Q ⟨v', o⟩ → TgK tg x ⟨v, o⟩ Q
instance [f : FreeC o i] [g : SetC i (.sh x) v v'] : TgC (.n i) x v o v' := ⟨fun Q k => tgk_n f.h g.h k⟩
instance {is : List Nat} [q : BndC o is ds v v'] : TgC (.t is) (.tup ds) v o v' := ⟨fun Q k => tgk_t q.h k⟩
class PadC (ns : List Str) (ss : List Slot) (v : outParam (List Slot)) : Prop where
  h : PadV ns.length ss v
instance : PadC [] [] [] := ⟨.zero⟩
instance {x : Str} {ns : List Str} [q : PadC ns [] l] : PadC (x :: ns) [] (.un :: l) := ⟨.nil q.h⟩
instance {x : Str} {ns : List Str} [q : PadC ns ss l] : PadC (x :: ns) (s :: ss) (s :: l) := ⟨.cons q.h⟩
class PassC (ss : List Slot) (o : outParam (List Slot)) : Prop where
  h : PassV ss o
instance : PassC [] [] := ⟨.nil⟩
instance [q : PassC ss o] : PassC (.ow xs :: ss) (.att :: o) := ⟨.ow q.h⟩
instance [q : PassC ss o] : PassC (.sh x :: ss) (.un :: o) := ⟨.sh q.h⟩
/-- what is passed -/
class ArgC (bs : List B) (v : List Slot) (ss : outParam (List Slot)) : Prop where
  h : ∀ o, args ⟨v, o⟩ bs = some ss
instance : ArgC [] v [] := ⟨fun _ => rfl⟩
instance [q : ArgC bs v ss] : ArgC (.d x :: bs) v (.sh x :: ss) := ⟨fun o => by
  show (match args ⟨v, o⟩ bs with | none => none | some ds => some (Slot.sh x :: ds)) = _
  rw [q.h o]⟩
instance [q : ArgC bs v ss] : ArgC (.nw xs :: bs) v (.ow xs :: ss) := ⟨fun o => by
  show (match args ⟨v, o⟩ bs with | none => none | some ds => some (Slot.ow xs :: ds)) = _
  rw [q.h o]⟩
instance [e : GetC i v (.ow xs)] [q : ArgC bs v ss] : ArgC (.loc i :: bs) v (.ow xs :: ss) := ⟨fun o => by
  have e1 : (B.loc i).arg ⟨v, o⟩ = some (.ow xs) := by
    unfold B.arg
    simp only [e.h]
  unfold args
  rw [e1, q.h o]⟩
class ViewC (bs : List B) (v : List Slot) (ds : outParam (List D)) : Prop where
  h : ∀ o, views ⟨v, o⟩ bs = some ds
class ViewS (s : Slot) (d : outParam D) : Prop where
  h : ∀ (i : Nat) (v o : List Slot), v[i]? = some s → (B.loc i).view ⟨v, o⟩ = some d
instance : ViewS (.ow xs) (.lst xs) := ⟨fun i v o e => by unfold B.view; simp only [e]⟩
instance : ViewS (.lk xs) (.lst xs) := ⟨fun i v o e => by unfold B.view; simp only [e]⟩
instance : ViewC [] v [] := ⟨fun _ => rfl⟩
instance [q : ViewC bs v ds] : ViewC (.d x :: bs) v (x :: ds) := ⟨fun o => by
  show (match views ⟨v, o⟩ bs with | none => none | some ds => some (x :: ds)) = _
  rw [q.h o]⟩
instance [q : ViewC bs v ds] : ViewC (.nw xs :: bs) v (.lst xs :: ds) := ⟨fun o => by
  show (match views ⟨v, o⟩ bs with | none => none | some ds => some (D.lst xs :: ds)) = _
  rw [q.h o]⟩
instance [e : GetC i v s] [g : ViewS s d] [q : ViewC bs v ds] : ViewC (.loc i :: bs) v (d :: ds) := ⟨fun o => by
  unfold views
  rw [g.h i v o e.h, q.h o]⟩
end
section
variable {P : B → Env → Prop} {nx : Env → Prop} {rt : B → Env → Prop} {bk : Env → Prop} {v v' v1 vl o os : List Slot} {b : B} {bs : List B} {x d : D} {xs ds : List D} {i : Nat} {ρ : Env}
theorem c_var [g : VarC i v b] (k : P b ⟨v, o⟩) : VE (.var i) ⟨v, o⟩ P := VE.to (W.of (g.h o) k)
theorem c_asg [g : AsgC i b v o v'] (k : nx ⟨v', o⟩) : AsgK i nx b ⟨v, o⟩ := g.h nx k
theorem c_asgT {is : List Nat} [g : BndC o is ds v v'] (k : nx ⟨v', o⟩) : AsgTK is nx (.d (.tup ds)) ⟨v, o⟩ := asgtk g.h k
theorem c_prim {f : List D → Option RB} {r : RB} [g : ViewC bs v ds] (h2 : f ds = some r) (h3 : P r.b ⟨v, o⟩) : PrimK f bs ⟨v, o⟩ P := primk (g.h o) h2 h3
theorem c_call {g : Fn} {ss : List Slot} [a : ArgC bs v ss] (hn : noTwice bs = true) (h : VF g ss fun r os => BackK bs ⟨v, o⟩ (P r.b) os) : CallK g bs ⟨v, o⟩ P := callk hn (a.h o) h
theorem c_back {Q : Env → Prop} [g : BackC bs os v v'] (hn : noTwice bs = true) (k : Q ⟨v', o⟩) : BackK bs ⟨v, o⟩ Q os := backk g.h hn k
theorem c_keep {Q : D → Env → Prop} [g : KeepC b v o d v'] (k : Q d ⟨v', o⟩) : KeepK b ⟨v, o⟩ Q := g.h Q k
theorem c_ret {P : RB → List Slot → Prop} {r : RB} [g : RetC b v o r] (k : P r (Env.outs ⟨v, o⟩)) : RetK P b ⟨v, o⟩ := g.h P k
theorem c_tg {tg : Tg} {Q : Env → Prop} [g : TgC tg x v o v'] (k : Q ⟨v', o⟩) : TgK tg x ⟨v, o⟩ Q := g.h Q k
theorem c_mut {f : List D → List D → Option (List D × D)} {as : Es} [g : GetC i v (.ow xs)] (h : VD as ⟨v, o⟩ fun ds ρ2 => MutK f i ds ρ2 P) : VE (.mut f i as) ⟨v, o⟩ P := ve_mut (ρ := ⟨v, o⟩) g.h h
theorem c_mutk {f : List D → List D → Option (List D × D)} {ys : List D} [g : GetC i v (.ow xs)] (hf : f xs ds = some (ys, x)) [q : SetC i (.ow ys) v v'] (k : P (.d x) ⟨v', o⟩) : MutK f i ds ⟨v, o⟩ P := mutk g.h hf q.h k
theorem c_elt {Q : D → Env → Prop} {b : B} {d : D} (hb : b.asD = some d) (k : Q d ρ) : EltK b ρ Q := eltk hb k
theorem c_seti {ix : E} (hb : b.asD = some d) [g : GetC i v (.ow xs)] (h : VE ix ⟨v, o⟩ (Seti2K i d nx)) : SetiK i ix nx b ⟨v, o⟩ := setik hb g.h h
theorem c_par {i j : Nat} {x y : B} {s t : Slot} (hx : x.asSlot = some s) (hy : y.asSlot = some t) [f : FreeC o i] [h : SetC i s v v1] [f2 : FreeC o j] [h2 : SetC j t v1 v'] (k : nx ⟨v', o⟩) : ParK i j nx x y ⟨v, o⟩ := park hx hy f.h h.h f2.h h2.h k
theorem c_fn {ns : List Str} {ir : Ss} {ss : List Slot} {P : RB → List Slot → Prop} [hv : PadC ns ss v] [ho : PassC ss o] (h : VSs ir ⟨v, o⟩ (fun ρ => P (.d .non) ρ.outs) (RetK P) fun _ => False) : VF (runFn0 ns.length ir) ss P := vff_fn hv.h ho.h h
end
end Ev
namespace Ev
open PySem L2
section
variable {P : B → Env → Prop} {nx : Env → Prop} {rt : B → Env → Prop} {bk : Env → Prop} {v v' v1 vl o os : List Slot} {b : B} {bs : List B} {x d : D} {xs ds : List D} {i : Nat} {ρ : Env} {α σ : Type}
theorem c_lcM {ows : List Nat} {tg : Tg} {f : List D → Option (List D)} {elt : E} (l : List α) (g e : α → D) [hv : ViewC bs v ds] [hk : LockC bs v vl] (hf : f ds = some (l.map g)) (hl : l.length ≤ 1000000) (ha : (ows.all fun i => match o[i]? with | some .att => false | _ => true) = true) (ht : (tg.is.all fun i => ows.contains i) = true) (hw : wipeE ⟨vl, o⟩ ows = ⟨vl, o⟩)
    (hs : ∀ a ∈ l, TgK tg (g a) ⟨vl, o⟩ fun ρ3 => VE elt ρ3 fun b ρ5 => EltK b ρ5 fun d ρ6 => d = e a ∧ wipeE ρ6 ows = ⟨vl, o⟩) (k : P (.nw (l.map e)) ⟨v, o⟩) : LcK ows tg f bs .none elt ⟨v, o⟩ P := lckM l g e (hv.h o) hf hl hk.h ha ht hw hs k
/-- turns that leave something behind; nothing of the frame is walked -/
theorem c_lcS {ows : List Nat} {tg : Tg} {f : List D → Option (List D)} {oc : OT} {elt : E} (l : List α) (g : α → D) (fr : σ → Env) (I : Nat → List D → σ → Prop) (s0 : σ) (hn : noLocs bs = true) [hv : ViewC bs v ds] (hf : f ds = some (l.map g)) (hl : l.length ≤ 1000000) (ha : (ows.all fun i => match o[i]? with | some .att => false | _ => true) = true) (ht : (tg.is.all fun i => ows.contains i) = true) (hw : wipeE ⟨v, o⟩ ows = fr s0) (h0 : I 0 [] s0) (hu : ∀ s, unwipe ⟨v, o⟩ (fr s) ows = fr s)
    (hs : ∀ (j : Nat) (a : α) (acc : List D) (s : σ), l[j]? = some a → I j acc s → TgK tg (g a) (fr s) fun ρ3 => VO oc ρ3 fun k ρ4 => IfK k (VE elt ρ4 fun b ρ5 => EltK b ρ5 fun d ρ6 => ∃ s', wipeE ρ6 ows = fr s' ∧ I (j + 1) (acc ++ [d]) s') (∃ s', wipeE ρ4 ows = fr s' ∧ I (j + 1) acc s')) (k : ∀ acc s, I l.length acc s → P (.nw acc) (fr s)) : LcK ows tg f bs oc elt ⟨v, o⟩ P :=
  lckS l g fr fr I s0 (hv.h o) hf hl ha ht (by rw [locks_no hn, hw]) h0 (fun s => by rw [unlocks_no hn, locks_no hn, hu]) hs k
theorem c_for {tg : Tg} {f : List D → Option (List D)} {body : Ss} (l : List α) (g : α → D) (fr : σ → Env) (I : Nat → σ → Prop) (s0 : σ) (hn : noLocs bs = true) [hv : ViewC bs v ds] (hf : f ds = some (l.map g)) (hρ : ⟨v, o⟩ = fr s0) (h0 : I 0 s0)
    (hs : ∀ (j : Nat) (a : α) (s : σ), l[j]? = some a → I j s → TgK tg (g a) (fr s) fun ρ3 => VSs body ρ3 (fun ρ4 => ∃ s', ρ4 = fr s' ∧ I (j + 1) s') rt nx) (he : ∀ s, I l.length s → nx (fr s)) : ForK tg f bs body ⟨v, o⟩ nx rt := fork l g fr I s0 hn (hv.h o) hf hρ h0 hs he
end
end Ev
namespace Ev
open PySem L2
/-! ### dict comprehensions -/
def dcStep (own : List Nat) (tg : Tg) (c : OT) (ek ev : E) : D → Env → Res (Option (Key × D)) := fun x ρ => match tg.set ρ x with
          | none => .no
          | some ρ' => (evO c ρ').bind fun k ρ'' => if k then (evE ek ρ'').bind fun b ρ2 => match keyB b with
              | none => .no
              | some key => (evE ev ρ2).bind fun b2 ρ3 => match b2.keep ρ3 with
                | none => .no
                | some (d, ρ4) => .ok (some (key, d)) (wipeE ρ4 own) else .ok none (wipeE ρ'' own)
def dcRun (own : List Nat) (tg : Tg) (f : List D → Option (List D)) (bs : List B) (c : OT) (ek ev : E) (ρ1 : Env) : Res B := match views ρ1 bs with
    | none => .no
    | some ds => match f ds with
      | none => .no
      | some items => if items.length ≤ sizeLine ∧ (own.all fun i => match ρ1.o[i]? with | some .att => false | _ => true) = true ∧ (tg.is.all fun i => own.contains i) = true then
        (dcLoop (dcStep own tg c ek ev) items [] [] (wipeE (locks ρ1 bs) own)).bind fun acc ρ3 => .ok (.d (.dk acc.1 acc.2)) (unlocks ρ1 (unwipe (locks ρ1 bs) ρ3 own) bs) else .no
theorem evE_dc {own : List Nat} {tg : Tg} {f : List D → Option (List D)} {as : Es} {c : OT} {ek ev : E} {ρ : Env} : evE (.dc own tg f as c ek ev) ρ = (evA as ρ).bind fun bs ρ1 => dcRun own tg f bs c ek ev ρ1 := by
  unfold evE dcRun dcStep
  rfl
@[irreducible] def DcK (own : List Nat) (tg : Tg) (f : List D → Option (List D)) (bs : List B) (c : OT) (ek ev : E) (ρ1 : Env) (P : B → Env → Prop) : Prop := W (dcRun own tg f bs c ek ev ρ1) P
section
variable {P : B → Env → Prop} {v vl o : List Slot} {bs : List B} {ds : List D} {ρ : Env} {α : Type}
theorem ve_dc {ows : List Nat} {tg : Tg} {f : List D → Option (List D)} {as : Es} {oc : OT} {ek ev : E} (h : VA as ρ fun bs ρ1 => DcK ows tg f bs oc ek ev ρ1 P) : VE (.dc ows tg f as oc ek ev) ρ P := VE.to (by
  rw [evE_dc]
  exact W.bind (W.mono h.of fun bs ρ1 q => by unfold DcK at q; exact q))
end
end Ev
/-! {k: v for ..} whose keys are tuples, after the library's rule for whole numbers and texts (HandS.DictComp), with the put of HandS.Dict (DPut) in place of its own -/
namespace Ev
open PySem L2
/-! ### dict comprehensions with tuples as keys -/
def dctStep (own : List Nat) (tg : Tg) (c : OT) (ek ev : E) : D → Env → Res (Option (List Key × D)) := fun x ρ => match tg.set ρ x with
          | none => .no
          | some ρ' => (evO c ρ').bind fun k ρ'' => if k then (evE ek ρ'').bind fun b ρ2 => match keysB b with
              | none => .no
              | some key => (evE ev ρ2).bind fun b2 ρ3 => match b2.keep ρ3 with
                | none => .no
                | some (d, ρ4) => .ok (some (key, d)) (wipeE ρ4 own) else .ok none (wipeE ρ'' own)
def dctRun (own : List Nat) (tg : Tg) (f : List D → Option (List D)) (bs : List B) (c : OT) (ek ev : E) (ρ1 : Env) : Res B := match views ρ1 bs with
    | none => .no
    | some ds => match f ds with
      | none => .no
      | some items => if items.length ≤ sizeLine ∧ (own.all fun i => match ρ1.o[i]? with | some .att => false | _ => true) = true ∧ (tg.is.all fun i => own.contains i) = true then
        (dcLoop (dctStep own tg c ek ev) items [] [] (wipeE (locks ρ1 bs) own)).bind fun acc ρ3 => .ok (.d (.dt acc.1 acc.2)) (unlocks ρ1 (unwipe (locks ρ1 bs) ρ3 own) bs) else .no
theorem evE_dct {own : List Nat} {tg : Tg} {f : List D → Option (List D)} {as : Es} {c : OT} {ek ev : E} {ρ : Env} : evE (.dct own tg f as c ek ev) ρ = (evA as ρ).bind fun bs ρ1 => dctRun own tg f bs c ek ev ρ1 := by
  unfold evE dctRun dctStep
  rfl
@[irreducible] def DctK (own : List Nat) (tg : Tg) (f : List D → Option (List D)) (bs : List B) (c : OT) (ek ev : E) (ρ1 : Env) (P : B → Env → Prop) : Prop := W (dctRun own tg f bs c ek ev ρ1) P
section
variable {P : B → Env → Prop} {v vl o : List Slot} {bs : List B} {ds : List D} {ρ : Env} {α : Type}
theorem ve_dct {ows : List Nat} {tg : Tg} {f : List D → Option (List D)} {as : Es} {oc : OT} {ek ev : E} (h : VA as ρ fun bs ρ1 => DctK ows tg f bs oc ek ev ρ1 P) : VE (.dct ows tg f as oc ek ev) ρ P := VE.to (by
  rw [evE_dct]
  exact W.bind (W.mono h.of fun bs ρ1 q => by unfold DctK at q; exact q))
end
/-! ### what such a dict tells -/
end Ev
namespace Ev
open PySem L2
set_option maxHeartbeats 4000000
local macro_rules | `(tactic| walk_at "prim") => `(tactic| first | with_reducible assumption | with_reducible exact eq_int _ _ | with_reducible exact ne_int _ _ | rfl | assumption)
local macro_rules | `(tactic| walk_at "go") => `(tactic| repeat (first
  | (guard_target =~ VA _ _ _; first | refine va_cons ?_ | refine va_nil ?_)
  | (guard_target =~ VE _ _ _; first | refine c_var ?_ | refine ve_prim ?_ | refine ve_con ?_ | refine ve_call ?_ | refine ve_tup ?_ | refine ve_lc ?_ | refine c_mut ?_ | refine ve_lst ?_ | refine ve_ite ?_ | refine ve_and ?_ | refine ve_or ?_ | refine ve_not ?_ | refine ve_sortk ?_ | refine ve_chain ?_ | refine ve_dc ?_ | refine ve_dct ?_)
  | (guard_target =~ PrimK _ _ _ _; refine c_prim (by walk_at "prim") ?_)
  | (guard_target =~ BackK _ _ _ _; refine c_back rfl ?_)
  | (guard_target =~ CallK _ _ _ _; refine c_call rfl ?_)
  | (guard_target =~ AsgK _ _ _ _; refine c_asg ?_)
  | (guard_target =~ VSs _ _ _ _ _; first | refine vss_cons ?_ | refine vss_nil ?_)
  | (guard_target =~ VS _ _ _ _ _; first | refine vs_asg ?_ | refine vs_ite ?_ | refine vs_ret ?_ | refine vs_for ?_ | refine vs_ex ?_ | refine vs_asgT ?_ | refine vs_par ?_ | refine vs_seti ?_ | refine vs_retN ?_ | refine vs_brk ?_ | refine vs_pass ?_)
  | (guard_target =~ VD _ _ _; first | refine vd_cons ?_ | refine vd_nil ?_)
  | (guard_target =~ KeepK _ _ _; refine c_keep ?_)
  | (guard_target =~ VT _ _ _; first | refine vt_eb ?_ | refine vt_e ?_ | refine vt_and ?_ | refine vt_or ?_ | refine vt_not ?_)
  | (guard_target =~ BoolK _ _ _; refine boolk ?_)
  | (guard_target =~ TruK _ _ _; refine truk rfl rfl ?_)
  | (guard_target =~ IfK _ _ _; first | refine ifk_t ?_ | refine ifk_f ?_)
  | (guard_target =~ RetK _ _ _; refine c_ret ?_)
  | (guard_target =~ TupK _ _ _; refine tupk (Nat.le_of_ble_eq_true rfl) ?_)
  | (guard_target =~ LstK _ _ _; refine lstk (Nat.le_of_ble_eq_true rfl) ?_)
  | (guard_target =~ EltK _ _ _; refine c_elt rfl ?_)
  | (guard_target =~ TgK _ _ _ _; refine c_tg ?_)
  | (guard_target =~ MutK _ _ _ _ _; refine c_mutk (by walk_at "prim") ?_)
  | (guard_target =~ AsgTK _ _ _ _; refine c_asgT ?_)
  | (guard_target =~ ParK _ _ _ _ _ _; refine c_par rfl rfl ?_)
  | (guard_target =~ SetiK _ _ _ _ _; refine c_seti rfl ?_)
  | (guard_target =~ VO _ _ _; first | refine vo_some ?_ | refine vo_none ?_)))
local macro_rules | `(tactic| walk_at "shut") => `(tactic| rw [← VF_eq])
local macro_rules | `(tactic| walk_at "fn") => `(tactic| (try rw [← VF_eq]); refine c_fn ?_; walk_at "go")
/-! ### rings, by the program -/
section
variable {p wi : Int} {w : Nat} {P : List Pc}
theorem rk_one (hpp : p ∈ primes) (hP : Pcs p w P) {k : Nat} (hk : k < P.length) : rk p w P [k] = 1 := by
  have h0 : rk p w P [] = ([] : List Nat).length := rk_full.mpr fun j hj => by simp at hj
  refine (rk_snoc (l := []) (x := k) h0).mpr fun hm => ?_
  have hg := hP.g _ (pcAt_mem hk)
  apply hg.z
  have hz : ∀ i, i < w → co (pcAt P k).1 i = 0 := fun i hi => by
    have hd := Lin.Sp.at0 hi (fun s ⟨j, hj, _⟩ => by simp [picks] at hj) hm
    have hr := hg.r.at (j := i) (by rw [hg.l]; exact hi)
    have he : co (pcAt P k).1 i = (pcAt P k).1.getD i 0 := rfl
    rw [he] at hd ⊢
    have e1 := Int.emod_eq_zero_of_dvd hd
    rw [Int.emod_eq_of_lt hr.1 hr.2] at e1
    exact e1
  refine List.ext_getElem (by rw [hg.l, List.length_replicate]) fun i h1 h2 => ?_
  have := hz i (by rw [← hg.l]; exact h1)
  rw [co_eq, List.getD_eq_getElem?_getD, List.getElem?_eq_getElem h1] at this
  rw [List.getElem_replicate]
  exact this
theorem closing_vf {L : List Nat} (hpp : p ∈ primes) (h2 : w ≤ 10) (hP : Pcs p w P) (hL : IsLot P.length L) :
    VF F_closing [.sh (webD p wi P), .sh (.tup (nats L))] fun r o => o = [.un, .un] ∧ ∃ d, r = .d d ∧ fNotN [d, .non] = some (.d (.bl (circB p w P L))) := by
  have hl40 := lot_len hP.n hL
  have c1 : VF F_sums_of [.sh (webD p wi P), .sh (.tup (nats L))] fun r o => r = .d (.tup (sumsD (picks P L))) ∧ o = [.un, .un] := VF.ofW (sums_of_ok (by omega) hL.lt) rfl
  have c2 := nought_lot (p := p) (w := w) hpp h2 hP (lot_nodup hL) hL.lt
  have f0 : fFld 0 0 [webD p wi P] = some (.d (.int p)) := rfl
  have hpl : (picks P L).length = L.length := List.length_map ..
  generalize webD p wi P = wb at c1 f0
  generalize D.tup (nats L) = ld at c1
  generalize D.tup (sumsD (picks P L)) = sd at c1 c2
  walk_at "fn"
  refine VF.is c1 ?_
  walk_at "go"
  refine VF.of c2 rfl ?_
  rintro r o ⟨rfl, h⟩
  rcases h with ⟨rfl, hT⟩ | ⟨c, m, rfl, hN, hm, hTm, hA, h1, h0⟩
  · have hc : circB p w P L = false := by
      cases e : circB p w P L with
      | false => rfl
      | true =>
        have h := ((circB_iff hL).mp e).dep
        rw [rk_full.mpr fun j hj => hT j (by rw [hpl]; exact hj)] at h
        omega
    have hn : fIsN [.non, .non] = some (.d (.bl true)) := rfl
    walk_at "go"
    exact ⟨rfl, .non, rfl, by rw [hc]; rfl⟩
  · have hn : fIsN [.tup (vec c), .non] = some (.d (.bl false)) := rfl
    have hi := in_vec 0 c
    have hiff := nou_circ hpp h2 hP hL hN (by rw [← hpl]; exact hm) hTm hA h1 fun j a b => h0 j a (by rw [hpl]; exact b)
    have hb : decide ((0 : Int) ∈ c) = !circB p w P L := by
      cases e : circB p w P L with
      | false =>
        refine decide_eq_true ?_
        apply Classical.byContradiction
        intro hz
        have : ¬ Circ p w P L := fun q => by rw [(circB_iff hL).mpr q] at e; cases e
        refine this (hiff.mpr fun j hj q => hz ?_)
        have hjc : j < c.length := by rw [hN.l, hpl]; exact hj
        rw [co_eq, List.getD_eq_getElem?_getD, List.getElem?_eq_getElem hjc] at q
        have q : c[j] = 0 := q
        rw [← q]
        exact List.getElem_mem hjc
      | true =>
        refine decide_eq_false fun hz => ?_
        obtain ⟨j, hj, q⟩ := List.getElem_of_mem hz
        refine hiff.mp ((circB_iff hL).mp e) j (by rw [← hpl, ← hN.l]; exact hj) ?_
        rw [co_eq, List.getD_eq_getElem?_getD, List.getElem?_eq_getElem hj]
        exact q
    rw [hb] at hi
    have hnn : fNotN [.tup (vec c), .non] = some (.d (.bl true)) := rfl
    generalize D.tup (vec c) = cd at hn hi hnn
    cases e : circB p w P L with
    | false =>
      rw [e] at hi
      walk_at "go"
      exact ⟨rfl, .non, rfl, rfl⟩
    | true =>
      rw [e] at hi
      walk_at "go"
      exact ⟨rfl, cd, rfl, hnn⟩
theorem is_ring_vf {L : List Nat} (hpp : p ∈ primes) (h2 : w ≤ 10) (hP : Pcs p w P) (hL : IsLot P.length L) :
    VF F_is_ring [.sh (webD p wi P), .sh (.tup (nats L))] fun r o => r = .d (.bl (circB p w P L)) ∧ o = [.un, .un] := by
  have hl40 := lot_len hP.n hL
  have c1 : VF F_is_lot_of [.sh (webD p wi P), .sh (.tup (nats L))] fun r o => r = .d (.bl true) ∧ o = [.un, .un] := by
    have := VF.ofW (is_lot_of_ok (p := p) (wi := wi) (P := P) (okd_nats (l := L) (by omega))) rfl
    rw [lotB_of rfl hL] at this
    exact this
  have c2 := closing_vf (wi := wi) hpp h2 hP hL
  generalize circB p w P L = b at c2 ⊢
  generalize webD p wi P = wb at c1 c2
  generalize D.tup (nats L) = ld at c1 c2
  walk_at "fn"
  refine VF.is c1 ?_
  walk_at "go"
  refine VF.mono c2 ?_
  rintro r o ⟨rfl, d, rfl, hd⟩
  walk_at "go"
  exact ⟨rfl, rfl⟩
/-- what is no lot -/
theorem is_ring_no {d : D} (hd : Okd d) (hb : lotB (P.length : Int) d = false) :
    VF F_is_ring [.sh (webD p wi P), .sh d] fun r o => r = .d (.bl false) ∧ o = [.un, .un] := by
  have c1 : VF F_is_lot_of [.sh (webD p wi P), .sh d] fun r o => r = .d (.bl false) ∧ o = [.un, .un] := by
    have := VF.ofW (is_lot_of_ok (p := p) (wi := wi) (P := P) hd) rfl
    rw [hb] at this
    exact this
  generalize webD p wi P = wb at c1
  walk_at "fn"
  refine VF.is c1 ?_
  walk_at "go"
  exact ⟨rfl, rfl⟩
theorem is_lot_own {xs : List D} (m : Int) : VF F_is_lot [.sh (.int m), .ow xs] fun r o => r = .d (.bl false) ∧ o = [.un, .ow xs] := by
  have h : fIsi [.lst xs, .ty "tuple"] = some (.d (.bl false)) := rfl
  walk_at "fn"
  exact ⟨rfl, rfl⟩
theorem is_ring_own {xs : List D} : VF F_is_ring [.sh (webD p wi P), .ow xs] fun r o => r = .d (.bl false) ∧ o = [.un, .ow xs] := by
  have c1 : VF F_is_lot_of [.sh (webD p wi P), .ow xs] fun r o => r = .d (.bl false) ∧ o = [.un, .ow xs] := by
    have f2 : fFld 0 2 [webD p wi P] = some (.d (.tup (pcsD P))) := rfl
    have hl := lenP P
    have c0 := is_lot_own (xs := xs) (P.length : Int)
    generalize webD p wi P = wb at f2
    generalize D.tup (pcsD P) = pd at f2 hl
    generalize (P.length : Int) = n at hl c0
    walk_at "fn"
    refine VF.is c0 ?_
    walk_at "go"
    exact ⟨rfl, rfl⟩
  generalize webD p wi P = wb at c1
  walk_at "fn"
  refine VF.is c1 ?_
  walk_at "go"
  exact ⟨rfl, rfl⟩
/-- all circuits, as they stand in the row of all lots -/
noncomputable def ringsL (p : Int) (w : Nat) (P : List Pc) : List (List Nat) := (allC P.length).filter (circB p w P)
noncomputable def upC (p : Int) (w : Nat) (P : List Pc) (r : Nat) : List (List Nat) := (List.range r).flatMap fun q => (subsC P.length q).filter (circB p w P)
theorem upC_succ (r : Nat) : upC p w P (r + 1) = upC p w P r ++ (subsC P.length r).filter (circB p w P) := by
  unfold upC
  rw [List.range_succ, List.flatMap_append]
  simp
theorem filter_none {n r : Nat} (h : ∀ l, IsLot n l → l.length = r → circB p w P l = false) : (subsC n r).filter (circB p w P) = [] := by
  refine List.filter_eq_nil_iff.mpr fun l hl => ?_
  obtain ⟨h1, h2⟩ := mem_subsC.mp hl
  rw [h l h2 h1]
  simp
theorem upC_two (hpp : p ∈ primes) (h2 : w ≤ 10) (hP : Pcs p w P) : upC p w P 2 = [] := by
  have q : ∀ r, r < 2 → (subsC P.length r).filter (circB p w P) = [] := fun r hr => filter_none fun l hl e => by
    cases hc : circB p w P l with
    | false => rfl
    | true =>
      have := (circ_len hpp h2 hP ((circB_iff hl).mp hc) fun k hk => rk_one hpp hP hk).1
      omega
  rw [upC_succ, upC_succ, q 1 (by omega), q 0 (by omega)]
  rfl
theorem upC_end (hpp : p ∈ primes) (h2 : w ≤ 10) (hP : Pcs p w P) : upC p w P (w + 2) = ringsL p w P := by
  have q : ∀ r, w + 2 ≤ r → (subsC P.length r).filter (circB p w P) = [] := fun r hr => filter_none fun l hl e => by
    cases hc : circB p w P l with
    | false => rfl
    | true =>
      have := (circ_len hpp h2 hP ((circB_iff hl).mp hc) fun k hk => rk_one hpp hP hk).2
      omega
  have q2 : ∀ r, P.length < r → (subsC P.length r).filter (circB p w P) = [] := fun r hr => filter_none fun l hl e => by
    have := hl.len
    omega
  have g : ∀ a, (∀ r, a ≤ r → (subsC P.length r).filter (circB p w P) = []) → ∀ k, upC p w P (a + k) = upC p w P a := fun a h k => by
    induction k with
    | zero => rfl
    | succ k ih => rw [← Nat.add_assoc, upC_succ, ih, h _ (by omega), List.append_nil]
  have e1 := g (w + 2) q (P.length + 1)
  have e2 := g (P.length + 1) (fun r hr => q2 r (by omega)) (w + 2)
  rw [Nat.add_comm] at e2
  rw [← e1, e2]
  unfold ringsL allC upC
  rw [List.filter_flatMap]
theorem subs_len_all : ((List.range 12).all fun n => (List.range 12).all fun r => decide ((subsC n r).length ≤ 1000)) = true := by decide +kernel
theorem subs_len {n r : Nat} (hn : n < 12) (hr : r < 12) : (subsC n r).length ≤ 1000 := of_decide_eq_true (List.all_eq_true.mp (List.all_eq_true.mp subs_len_all n (List.mem_range.mpr hn)) r (List.mem_range.mpr hr))
theorem upC_len (hn : P.length < 12) : ∀ r, r ≤ 12 → (upC p w P r).length ≤ 1000 * r
  | 0, _ => by simp [upC]
  | r + 1, h => by
    rw [upC_succ, List.length_append]
    have h1 := upC_len hn r (by omega)
    have h2 := List.length_filter_le (circB p w P) (subsC P.length r)
    have h3 := subs_len hn (show r < 12 by omega)
    omega
theorem all_rings_ok (hpp : p ∈ primes) (hw : wi = w) (h2 : w ≤ 9) (hP : Pcs p w P) (hn : P.length < 12) :
    VF F_all_rings [.sh (webD p wi P)] fun r o => r = .nw (lotsD (ringsL p w P)) ∧ o = [.un] := by
  have f1 : fFld 0 1 [webD p wi P] = some (.d (.int wi)) := rfl
  have f2 : fFld 0 2 [webD p wi P] = some (.d (.tup (pcsD P))) := rfl
  have hl := lenP P
  have hgt : fGt [.int (P.length : Int), .int 12] = some (.d (.bl false)) := by
    show some (RB.d (.bl (decide ((12 : Int) < (P.length : Int))))) = _
    rw [decide_eq_false (by omega)]
  have hadd : fAdd [.int wi, .int 2] = some (.d (.int (wi + 2))) := rfl
  have hrg : itRange2 [.int 2, .int (wi + 2)] = some ((List.range w).map fun k : Nat => D.int (2 + (k : Int))) := by
    have hs : (small62 2 && small62 (wi + 2)) = true := by
      unfold small62
      rw [decide_eq_true (show (-4611686018427387904 : Int) ≤ wi + 2 by omega), decide_eq_true (show wi + 2 < (4611686018427387904 : Int) by omega)]
      rfl
    show (if (small62 2 && small62 (wi + 2)) = true then some (upFrom (wi + 2 - 2).toNat 2) else none) = _
    rw [if_pos hs, show (wi + 2 - 2).toNat = w by omega]
    congr 1
    apply List.ext_getElem?
    intro j
    rw [List.getElem?_map]
    by_cases h : j < w
    · rw [List.getElem?_range h]
      cases e : (upFrom w 2)[j]? with
      | none =>
        rw [List.getElem?_eq_none_iff, upFrom_length] at e
        omega
      | some d =>
        obtain ⟨_, rfl⟩ := upFrom_get _ _ _ _ e
        rfl
    · rw [List.getElem?_eq_none (by rw [upFrom_length]; omega), List.getElem?_eq_none (by rw [List.length_range]; omega)]
      rfl
  have hcm : ∀ r : Nat, r < 12 → itCmb [.int (P.length : Int), .int (r : Int)] = some ((subsC P.length r).map fun ix => D.tup (nats ix)) := fun r hr => by
    obtain ⟨q1, q2⟩ := cmb_is hn hr
    show (if 0 ≤ (P.length : Int) ∧ (P.length : Int) ≤ 1000000 ∧ 0 ≤ (r : Int) ∧ (r : Int) ≤ 1000 then match cmbGo (P.length : Int).toNat CMBFUEL (cmb0 (P.length : Int).toNat (r : Int).toNat) with
      | some L => if cmbOk (P.length : Int).toNat L = true then some (L.map fun ix => D.tup (ix.map fun k : Nat => D.int (k : Int))) else none
      | none => none
      else none) = _
    rw [if_pos ⟨by omega, by omega, by omega, by omega⟩, Int.toNat_natCast, Int.toNat_natCast, q1]
    simp only
    rw [if_pos q2]
    rfl
  have hcl := fun L (hL : IsLot P.length L) => closing_vf (wi := wi) hpp (by omega) hP hL
  have h20 := upC_two hpp (by omega) hP
  have hend := upC_end hpp (by omega) hP
  generalize webD p wi P = wb at *
  generalize D.tup (pcsD P) = pd at f2 hl
  generalize (P.length : Int) = n at hl hgt hcm
  generalize wi + 2 = w2 at hadd hrg
  walk_at "fn"
  refine c_for (σ := List (List Nat) × Slot × Slot) (List.range w) (fun k : Nat => D.int (2 + (k : Int))) (fun s => ⟨[.sh wb, .ow (lotsD s.1), s.2.1, s.2.2], [.un]⟩) (fun j s => s.1 = upC p w P (2 + j)) ([], .un, .un) rfl hrg rfl h20.symm ?_ ?_
  · rintro j k ⟨A, s2, s3⟩ hj hA
    have hA : A = upC p w P (2 + j) := hA
    have hkj : k = j := by
      have := (List.getElem?_eq_some_iff.mp hj)
      obtain ⟨h1, h3⟩ := this
      rw [List.getElem_range] at h3
      exact h3.symm
    subst hkj
    have hkw : k < w := by
      have := (List.getElem?_eq_some_iff.mp hj).1
      rw [List.length_range] at this
      exact this
    subst hA
    have hcmb := hcm (2 + k) (by omega)
    have hcast : ((2 + k : Nat) : Int) = 2 + (k : Int) := by omega
    rw [hcast] at hcmb
    show TgK _ (D.int (2 + (k : Int))) ⟨[.sh wb, .ow (lotsD (upC p w P (2 + k))), s2, s3], [.un]⟩ _
    generalize 2 + (k : Int) = ki at hcmb ⊢
    walk_at "go"
    refine c_for (σ := List (List Nat) × Slot) (subsC P.length (2 + k)) (fun ix => D.tup (nats ix)) (fun s => ⟨[.sh wb, .ow (lotsD s.1), .sh (.int ki), s.2], [.un]⟩) (fun i s => s.1 = upC p w P (2 + k) ++ ((subsC P.length (2 + k)).take i).filter (circB p w P)) (upC p w P (2 + k), s3) rfl hcmb rfl (by simp) ?_ ?_
    · rintro i l ⟨A, s3⟩ hi hA
      have hA : A = upC p w P (2 + k) ++ ((subsC P.length (2 + k)).take i).filter (circB p w P) := hA
      obtain ⟨h1, h3⟩ := mem_subsC.mp (List.mem_of_getElem? hi)
      have hc := hcl l h3
      have hap : mAppend (lotsD A) [.tup (nats l)] = some (lotsD (A ++ [l]), .non) := by
        have h5 := upC_len (p := p) (w := w) hn (2 + k) (by omega)
        have h6 := subs_len hn (show 2 + k < 12 by omega)
        have h7 := List.length_filter_le (circB p w P) ((subsC P.length (2 + k)).take i)
        have h8 := List.length_take_le' i (subsC P.length (2 + k))
        have hAl : A.length ≤ 20000 := by
          rw [hA, List.length_append]
          omega
        rw [append_ok (by rw [lotsD_len]; omega)]
        unfold lotsD
        rw [List.map_append]
        rfl
      have hst : ((subsC P.length (2 + k)).take (i + 1)).filter (circB p w P) = ((subsC P.length (2 + k)).take i).filter (circB p w P) ++ (if circB p w P l = true then [l] else []) := by
        rw [List.take_add_one, hi, List.filter_append]
        show _ ++ List.filter (circB p w P) [l] = _
        by_cases hb : circB p w P l = true
        · rw [if_pos hb, List.filter_cons_of_pos hb]
          rfl
        · rw [if_neg hb, List.filter_cons_of_neg hb]
          rfl
      show TgK _ (D.tup (nats l)) ⟨[.sh wb, .ow (lotsD A), .sh (.int ki), s3], [.un]⟩ _
      generalize circB p w P l = b at hc hst
      generalize D.tup (nats l) = ld at hc hap ⊢
      walk_at "go"
      refine VF.mono hc ?_
      rintro r o ⟨rfl, d, rfl, hd⟩
      walk_at "go"
      cases b with
      | true =>
        walk_at "go"
        refine ⟨(A ++ [l], _), rfl, ?_⟩
        show A ++ [l] = _
        rw [hst, hA]
        simp
      | false =>
        walk_at "go"
        refine ⟨(A, _), rfl, ?_⟩
        show A = _
        rw [hst, hA]
        simp
    · rintro ⟨A, s3⟩ hA
      have hA : A = upC p w P (2 + k) ++ ((subsC P.length (2 + k)).take (subsC P.length (2 + k)).length).filter (circB p w P) := hA
      rw [List.take_length] at hA
      walk_at "go"
      refine ⟨(A, _, _), rfl, ?_⟩
      show A = upC p w P (2 + (k + 1))
      rw [hA, ← Nat.add_assoc, upC_succ]
  · rintro ⟨A, s2, s3⟩ hA
    have hA : A = upC p w P (2 + (List.range w).length) := hA
    rw [List.length_range, Nat.add_comm, hend] at hA
    subst hA
    walk_at "go"
    exact ⟨rfl, rfl⟩
end
end Ev
namespace Ev
open PySem L2
set_option maxHeartbeats 4000000
local macro_rules | `(tactic| walk_at "prim") => `(tactic| first | with_reducible assumption | with_reducible exact eq_int _ _ | with_reducible exact ne_int _ _ | rfl | assumption)
local macro_rules | `(tactic| walk_at "go") => `(tactic| repeat (first
  | (guard_target =~ VA _ _ _; first | refine va_cons ?_ | refine va_nil ?_)
  | (guard_target =~ VE _ _ _; first | refine c_var ?_ | refine ve_prim ?_ | refine ve_con ?_ | refine ve_call ?_ | refine ve_tup ?_ | refine ve_lc ?_ | refine c_mut ?_ | refine ve_lst ?_ | refine ve_ite ?_ | refine ve_and ?_ | refine ve_or ?_ | refine ve_not ?_ | refine ve_sortk ?_ | refine ve_chain ?_ | refine ve_dc ?_ | refine ve_dct ?_)
  | (guard_target =~ PrimK _ _ _ _; refine c_prim (by walk_at "prim") ?_)
  | (guard_target =~ BackK _ _ _ _; refine c_back rfl ?_)
  | (guard_target =~ CallK _ _ _ _; refine c_call rfl ?_)
  | (guard_target =~ AsgK _ _ _ _; refine c_asg ?_)
  | (guard_target =~ VSs _ _ _ _ _; first | refine vss_cons ?_ | refine vss_nil ?_)
  | (guard_target =~ VS _ _ _ _ _; first | refine vs_asg ?_ | refine vs_ite ?_ | refine vs_ret ?_ | refine vs_for ?_ | refine vs_ex ?_ | refine vs_asgT ?_ | refine vs_par ?_ | refine vs_seti ?_ | refine vs_retN ?_ | refine vs_brk ?_ | refine vs_pass ?_)
  | (guard_target =~ VD _ _ _; first | refine vd_cons ?_ | refine vd_nil ?_)
  | (guard_target =~ KeepK _ _ _; refine c_keep ?_)
  | (guard_target =~ VT _ _ _; first | refine vt_eb ?_ | refine vt_e ?_ | refine vt_and ?_ | refine vt_or ?_ | refine vt_not ?_)
  | (guard_target =~ BoolK _ _ _; refine boolk ?_)
  | (guard_target =~ TruK _ _ _; refine truk rfl rfl ?_)
  | (guard_target =~ IfK _ _ _; first | refine ifk_t ?_ | refine ifk_f ?_)
  | (guard_target =~ RetK _ _ _; refine c_ret ?_)
  | (guard_target =~ TupK _ _ _; refine tupk (Nat.le_of_ble_eq_true rfl) ?_)
  | (guard_target =~ LstK _ _ _; refine lstk (Nat.le_of_ble_eq_true rfl) ?_)
  | (guard_target =~ EltK _ _ _; refine c_elt rfl ?_)
  | (guard_target =~ TgK _ _ _ _; refine c_tg ?_)
  | (guard_target =~ MutK _ _ _ _ _; refine c_mutk (by walk_at "prim") ?_)
  | (guard_target =~ AsgTK _ _ _ _; refine c_asgT ?_)
  | (guard_target =~ ParK _ _ _ _ _ _; refine c_par rfl rfl ?_)
  | (guard_target =~ SetiK _ _ _ _ _; refine c_seti rfl ?_)
  | (guard_target =~ VO _ _ _; first | refine vo_some ?_ | refine vo_none ?_)))
local macro_rules | `(tactic| walk_at "shut") => `(tactic| rw [← VF_eq])
local macro_rules | `(tactic| walk_at "fn") => `(tactic| (try rw [← VF_eq]); refine c_fn ?_; walk_at "go")
/-! ### rings, by the law -/
section
variable {p wi : Int} {w : Nat} {P : List Pc}
theorem circ_eq {C D : List Nat} (hpp : p ∈ primes) (h2 : w ≤ 10) (hP : Pcs p w P) (hC : Circ p w P C) (hD : Circ p w P D) (hs : ∀ k ∈ C, k ∈ D) : C = D := by
  have hCn := lot_nodup hC.lot
  have hDn := lot_nodup hD.lot
  refine rise_nat hC.lot.up hD.lot.up fun k => ⟨hs k, fun hkD => ?_⟩
  apply Classical.byContradiction
  intro hkC
  have hlt := (lot_filter hD.lot (fun i => !decide (i = k))).lt
  have := ind_sub (L := dropK D k) (M := C) hpp h2 hP (by have := lot_len hP.n (lot_filter hD.lot fun i => !decide (i = k)); show (dropK D k).length ≤ 100; unfold dropK; omega) hlt (drop_nodup hDn k) hCn (fun y hy => mem_drop.mpr ⟨hs y hy, fun e => hkC (e ▸ hy)⟩) (hD.ind k hkD)
  have := hC.dep
  omega
theorem ring_cond {l : List Nat} {j : Nat} (hpp : p ∈ primes) (h2 : w ≤ 10) (hP : Pcs p w P) (hn : P.length < 12) (hj : (allC P.length)[j]? = some l) :
    (!decide (rk p w P l = l.length) && !(((allC P.length).take j).filter (circB p w P)).any fun C => C.all fun k => decide (k ∈ l)) = circB p w P l := by
  have hl : IsLot P.length l := mem_allC.mp (List.mem_of_getElem? hj)
  cases e : circB p w P l with
  | true =>
    have hc := (circB_iff hl).mp e
    have h1 : decide (rk p w P l = l.length) = false := decide_eq_false (by have := hc.dep; omega)
    rw [h1]
    have h3 : ((((allC P.length).take j).filter (circB p w P)).any fun C => C.all fun k => decide (k ∈ l)) = false := by
      refine List.any_eq_false.mpr fun C hC hall => ?_
      obtain ⟨hm, hb⟩ := List.mem_filter.mp hC
      have hCl : IsLot P.length C := mem_allC.mp (List.mem_of_mem_take hm)
      have hs : ∀ k ∈ C, k ∈ l := fun k hk => of_decide_eq_true (List.all_eq_true.mp hall k hk)
      have := circ_eq hpp h2 hP ((circB_iff hCl).mp hb) hc hs
      subst this
      obtain ⟨i, hi, q⟩ := List.mem_take_iff_getElem.mp hm
      have hjl := List.getElem?_eq_some_iff.mp hj
      have hpw := List.pairwise_iff_getElem.mp (allC_pw hn) i j (by omega) hjl.1 (by omega)
      rw [hjl.2, q, LO.irrefl] at hpw
      cases hpw
    rw [h3]
    rfl
  | false =>
    by_cases hd : rk p w P l = l.length
    · rw [decide_eq_true hd]
      rfl
    · rw [decide_eq_false hd]
      obtain ⟨C, hC, hs⟩ := circ_in hpp h2 hP l.length l rfl hl hd
      have hne : C.length < l.length := by
        have hle := len_sub (lot_nodup hC.lot) (lot_nodup hl) hs
        by_cases h : C.length = l.length
        · exfalso
          have hsub : ∀ k ∈ l, k ∈ C := fun k hk => by
            apply Classical.byContradiction
            intro hkC
            have := len_sub (C := C) (D := dropK l k) (lot_nodup hC.lot) (drop_nodup (lot_nodup hl) k) fun y hy => mem_drop.mpr ⟨hs y hy, fun q => hkC (q ▸ hy)⟩
            have := drop_len1 (lot_nodup hl) hk
            omega
          have : C = l := rise_nat hC.lot.up hl.up fun k => ⟨hs k, hsub k⟩
          subst this
          rw [(circB_iff hl).mpr hC] at e
          cases e
        · omega
      have hm := allC_ahead hn hj hC.lot hne
      have h3 : ((((allC P.length).take j).filter (circB p w P)).any fun C => C.all fun k => decide (k ∈ l)) = true :=
        List.any_eq_true.mpr ⟨C, List.mem_filter.mpr ⟨hm, (circB_iff hC.lot).mpr hC⟩, List.all_eq_true.mpr fun k hk => decide_eq_true (hs k hk)⟩
      rw [h3]
      rfl
theorem told2 (p wi : Int) (P : List Pc) : fIx [toldD p wi P, .int 2] = some (.d (.lst (pcsD P))) := rfl
theorem lots_vf0 {m : Nat} {n : Int} (e : n = (m : Int)) (hn : m < 12) : VF F_law_lots [.sh (.int n)] fun r o => r = .nw (lotsD (allC m)) ∧ o = [.un] := by
  have h2 : VF F_law_lots [.sh (.int n)] fun r o => o = [.un] ∧ r = .nw (lotsD (srtL (subL m))) := by
    unfold VF
    exact law_lots_srt e (by omega)
  rw [srt_all hn] at h2
  exact VF.mono h2 fun r o ⟨a, b⟩ => ⟨b, a⟩
theorem lots_vf (hn : P.length < 12) : VF F_law_lots [.sh (.int (P.length : Int))] fun r o => r = .nw (lotsD (allC P.length)) ∧ o = [.un] := lots_vf0 rfl hn
theorem leans_ok {l : List Nat} (hpp : p ∈ primes) (h2 : w ≤ 10) (hP : Pcs p w P) (hl : IsLot P.length l) :
    VF F_law_leans [.sh (toldD p wi P), .sh (.tup (nats l))] fun r o => r = .d (.bl (decide (rk p w P l = l.length))) ∧ o = [.un, .un] := by
  have hl40 := lot_len hP.n hl
  have c := law_in_ok (wi := wi) (p := p) (w := w) hpp h2 hP (show l.length ≤ 100 by omega) hl.lt
  have hlen : fLen [.tup (nats l)] = some (.d (.int (l.length : Int))) := by rw [len_tup, nats_len]
  have heq : fEq [.int ((rk p w P l : Nat) : Int), .int (l.length : Int)] = some (.d (.bl (decide (rk p w P l = l.length)))) := by
    rw [eq_int]
    by_cases h : rk p w P l = l.length
    · rw [decide_eq_true h, decide_eq_true (by omega)]
    · rw [decide_eq_false h, decide_eq_false (by omega)]
  generalize decide (rk p w P l = l.length) = b at heq ⊢
  generalize ((rk p w P l : Nat) : Int) = ri at c heq
  generalize (l.length : Int) = li at hlen heq
  generalize toldD p wi P = td at c
  generalize D.tup (nats l) = ld at c hlen
  walk_at "fn"
  refine VF.eq' c rfl ?_
  walk_at "go"
  exact ⟨rfl, rfl⟩
theorem holds_ok {l C : List Nat} (hC : C.length ≤ 1000) :
    VF F_law_holds [.sh (.tup (nats l)), .sh (.tup (nats C))] fun r o => r = .d (.bl (C.all fun k => decide (k ∈ l))) ∧ o = [.un, .un] := by
  have hs : itSeq [.tup (nats C)] = some (C.map fun k : Nat => D.int (k : Int)) := rfl
  have hin : ∀ k : Nat, fInM [.int (k : Int), .tup (nats l)] = some (.d (.bl (decide (k ∈ l)))) := fun k => in_nats rfl l
  have hall := all_map (fun k : Nat => decide (k ∈ l)) C
  generalize (C.all fun k => decide (k ∈ l)) = b at hall ⊢
  generalize D.tup (nats l) = ld at hin
  generalize D.tup (nats C) = cd at hs
  walk_at "fn"
  refine c_lcM C (fun k : Nat => D.int (k : Int)) (fun k : Nat => D.bl (decide (k ∈ l))) hs (by omega) rfl rfl rfl (fun k hk => ?_) ?_
  · have h3 := hin k
    generalize decide (k ∈ l) = b at h3 ⊢
    generalize (k : Int) = ki at h3 ⊢
    walk_at "go"
    exact ⟨rfl, rfl⟩
  · generalize (C.map fun k : Nat => D.bl (decide (k ∈ l))) = L at hall ⊢
    walk_at "go"
    exact ⟨rfl, rfl⟩
theorem law_rings_ok (hpp : p ∈ primes) (h2 : w ≤ 10) (hP : Pcs p w P) (hn : P.length < 12) :
    VF F_law_rings [.sh (toldD p wi P)] fun r o => r = .nw (lotsD (ringsL p w P)) ∧ o = [.un] := by
  have i2 := told2 p wi P
  have hl : fLen [.lst (pcsD P)] = some (.d (.int (P.length : Int))) := by rw [len_lst, pcsD_len]
  have hlo := lots_vf (P := P) hn
  have hle := fun l (hl : IsLot P.length l) => leans_ok (wi := wi) hpp h2 hP hl
  have hwk : itSeq [.lst (lotsD (allC P.length))] = some ((allC P.length).map lotD) := rfl
  have hcd := fun j l => ring_cond (w := w) (l := l) (j := j) hpp h2 hP hn
  have hlot : ∀ l, l ∈ allC P.length → IsLot P.length l := fun l => mem_allC.mp
  have hlen : (allC P.length).length ≤ 4096 := by
    rw [← srt_all hn, (srtL_perm _).length_eq, subL_len]
    exact Nat.pow_le_pow_right (n := 2) (by decide) (show P.length ≤ 12 by omega)
  have hP40 := hP.n
  generalize toldD p wi P = td at i2 hle
  generalize D.lst (pcsD P) = pd at i2 hl
  generalize (P.length : Int) = n at hl hlo
  walk_at "fn"
  refine VF.is hlo ?_
  walk_at "go"
  refine c_for (σ := List (List Nat) × Slot) (allC P.length) lotD (fun s => ⟨[.sh td, .ow (lotsD s.1), s.2, .un], [.un]⟩) (fun j s => s.1 = ((allC P.length).take j).filter (circB p w P)) ([], .un) rfl hwk rfl (by simp) ?_ ?_
  · rintro j l ⟨A, s2⟩ hj hA
    have hA : A = ((allC P.length).take j).filter (circB p w P) := hA
    have hl := hlot l (List.mem_of_getElem? hj)
    have hle := hle l hl
    have hcd := hcd j l hj
    rw [← hA] at hcd
    have hAl : A.length ≤ 5000 := by
      rw [hA]
      have h7 := List.length_filter_le (circB p w P) ((allC P.length).take j)
      have h8 := List.length_take_le' j (allC P.length)
      omega
    have hAm : ∀ C ∈ A, C.length ≤ 1000 := fun C hC => by
      rw [hA] at hC
      have := lot_len hP.n (hlot C (List.mem_of_mem_take (List.mem_filter.mp hC).1))
      omega
    have hst : ((allC P.length).take (j + 1)).filter (circB p w P) = A ++ (if circB p w P l = true then [l] else []) := by
      rw [List.take_add_one, hj, List.filter_append, hA]
      show _ ++ List.filter (circB p w P) [l] = _
      by_cases hb : circB p w P l = true
      · rw [if_pos hb, List.filter_cons_of_pos hb]
        rfl
      · rw [if_neg hb, List.filter_cons_of_neg hb]
        rfl
    have hap : mAppend (lotsD A) [lotD l] = some (lotsD (A ++ [l]), .non) := by
      rw [append_ok (by rw [lotsD_len]; omega)]
      unfold lotsD
      rw [List.map_append]
      rfl
    have hho := fun C (hC : C.length ≤ 1000) => holds_ok (l := l) (C := C) hC
    have hany := any_map (fun C : List Nat => C.all fun k => decide (k ∈ l)) A
    have hw2 : itSeq [.lst (lotsD A)] = some (A.map lotD) := rfl
    show TgK _ (lotD l) ⟨[.sh td, .ow (lotsD A), s2, .un], [.un]⟩ _
    have hle : VF F_law_leans [.sh td, .sh (lotD l)] fun r o => r = .d (.bl (decide (rk p w P l = l.length))) ∧ o = [.un, .un] := hle
    have hho : ∀ C, C.length ≤ 1000 → VF F_law_holds [.sh (lotD l), .sh (lotD C)] fun r o => r = .d (.bl (C.all fun k => decide (k ∈ l))) ∧ o = [.un, .un] := hho
    generalize (A.any fun C => C.all fun k => decide (k ∈ l)) = b2 at hcd hany
    generalize decide (rk p w P l = l.length) = b1 at hcd hle
    generalize circB p w P l = b at hcd hst
    generalize lotD l = ld at hle hap hho ⊢
    walk_at "go"
    refine VF.is hle ?_
    walk_at "go"
    cases b1 with
    | true =>
      have hb : b = false := hcd.symm
      subst hb
      walk_at "go"
      refine ⟨(A, _), rfl, ?_⟩
      show A = _
      rw [hst]
      simp
    | false =>
      have hb : b = !b2 := by
        rw [← hcd]
        cases b2 <;> rfl
      subst hb
      walk_at "go"
      refine c_lcM A lotD (fun C => D.bl (C.all fun k => decide (k ∈ l))) hw2 (by omega) rfl rfl rfl (fun C hC => ?_) ?_
      · have h3 := hho C (hAm C hC)
        generalize (C.all fun k => decide (k ∈ l)) = b at h3 ⊢
        generalize lotD C = cd at h3 ⊢
        walk_at "go"
        refine VF.is h3 ?_
        walk_at "go"
        exact ⟨rfl, rfl⟩
      · generalize (A.map fun C => D.bl (C.all fun k => decide (k ∈ l))) = Bs at hany ⊢
        walk_at "go"
        cases b2 with
        | true =>
          walk_at "go"
          refine ⟨(A, _), rfl, ?_⟩
          show A = _
          rw [hst]
          simp
        | false =>
          walk_at "go"
          refine ⟨(A ++ [l], _), rfl, ?_⟩
          show A ++ [l] = _
          rw [hst]
          simp
  · rintro ⟨A, s2⟩ hA
    have hA : A = ((allC P.length).take (allC P.length).length).filter (circB p w P) := hA
    rw [List.take_length] at hA
    subst hA
    walk_at "go"
    exact ⟨rfl, rfl⟩
end
end Ev
namespace Ev
open PySem L2
set_option maxHeartbeats 4000000
local macro_rules | `(tactic| walk_at "prim") => `(tactic| first | with_reducible assumption | with_reducible exact eq_int _ _ | with_reducible exact ne_int _ _ | rfl | assumption)
local macro_rules | `(tactic| walk_at "go") => `(tactic| repeat (first
  | (guard_target =~ VA _ _ _; first | refine va_cons ?_ | refine va_nil ?_)
  | (guard_target =~ VE _ _ _; first | refine c_var ?_ | refine ve_prim ?_ | refine ve_con ?_ | refine ve_call ?_ | refine ve_tup ?_ | refine ve_lc ?_ | refine c_mut ?_ | refine ve_lst ?_ | refine ve_ite ?_ | refine ve_and ?_ | refine ve_or ?_ | refine ve_not ?_ | refine ve_sortk ?_ | refine ve_chain ?_ | refine ve_dc ?_ | refine ve_dct ?_)
  | (guard_target =~ PrimK _ _ _ _; refine c_prim (by walk_at "prim") ?_)
  | (guard_target =~ BackK _ _ _ _; refine c_back rfl ?_)
  | (guard_target =~ CallK _ _ _ _; refine c_call rfl ?_)
  | (guard_target =~ AsgK _ _ _ _; refine c_asg ?_)
  | (guard_target =~ VSs _ _ _ _ _; first | refine vss_cons ?_ | refine vss_nil ?_)
  | (guard_target =~ VS _ _ _ _ _; first | refine vs_asg ?_ | refine vs_ite ?_ | refine vs_ret ?_ | refine vs_for ?_ | refine vs_ex ?_ | refine vs_asgT ?_ | refine vs_par ?_ | refine vs_seti ?_ | refine vs_retN ?_ | refine vs_brk ?_ | refine vs_pass ?_)
  | (guard_target =~ VD _ _ _; first | refine vd_cons ?_ | refine vd_nil ?_)
  | (guard_target =~ KeepK _ _ _; refine c_keep ?_)
  | (guard_target =~ VT _ _ _; first | refine vt_eb ?_ | refine vt_e ?_ | refine vt_and ?_ | refine vt_or ?_ | refine vt_not ?_)
  | (guard_target =~ BoolK _ _ _; refine boolk ?_)
  | (guard_target =~ TruK _ _ _; refine truk rfl rfl ?_)
  | (guard_target =~ IfK _ _ _; first | refine ifk_t ?_ | refine ifk_f ?_)
  | (guard_target =~ RetK _ _ _; refine c_ret ?_)
  | (guard_target =~ TupK _ _ _; refine tupk (Nat.le_of_ble_eq_true rfl) ?_)
  | (guard_target =~ LstK _ _ _; refine lstk (Nat.le_of_ble_eq_true rfl) ?_)
  | (guard_target =~ EltK _ _ _; refine c_elt rfl ?_)
  | (guard_target =~ TgK _ _ _ _; refine c_tg ?_)
  | (guard_target =~ MutK _ _ _ _ _; refine c_mutk (by walk_at "prim") ?_)
  | (guard_target =~ AsgTK _ _ _ _; refine c_asgT ?_)
  | (guard_target =~ ParK _ _ _ _ _ _; refine c_par rfl rfl ?_)
  | (guard_target =~ SetiK _ _ _ _ _; refine c_seti rfl ?_)
  | (guard_target =~ VO _ _ _; first | refine vo_some ?_ | refine vo_none ?_)))
local macro_rules | `(tactic| walk_at "shut") => `(tactic| rw [← VF_eq])
local macro_rules | `(tactic| walk_at "fn") => `(tactic| (try rw [← VF_eq]); refine c_fn ?_; walk_at "go")
/-! ### a long ring drawn -/
theorem any_own {g : List Int} {h xs : List D} (h0 : xs ≠ []) (hz : xs.length < 1000) (T : Tap g h) : VF F_law_any [.ow h, .ow xs] fun r o => ∃ d h', r = .d d ∧ o = [.ow h', .ow xs] ∧ d ∈ xs ∧ Tap g h' := VF.ofW (any_ok .ow h0 (by omega) T) rfl
theorem perm_map {α β : Type} (f : α → β) {ys zs : List β} (h : ys.Perm zs) : ∀ {L : List α}, L.map f = zs → ∃ M : List α, ys = M.map f ∧ M.Perm L := by
  induction h with
  | nil =>
    intro L e
    rw [List.map_eq_nil_iff.mp e]
    exact ⟨[], rfl, .nil⟩
  | cons x _ ih =>
    intro L e
    cases L with
    | nil => cases e
    | cons a L =>
      injection e with e1 e2
      subst e1
      obtain ⟨M, rfl, hM⟩ := ih e2
      exact ⟨a :: M, rfl, hM.cons a⟩
  | swap x y l =>
    intro L e
    match L, e with
    | a :: b :: L, e =>
      injection e with e1 e2
      injection e2 with e2 e3
      subst e1 e2 e3
      exact ⟨b :: a :: L, rfl, .swap _ _ _⟩
  | trans _ _ ih1 ih2 =>
    intro L e
    obtain ⟨M2, e2, h2⟩ := ih2 e
    obtain ⟨M1, e1, h1⟩ := ih1 e2.symm
    exact ⟨M1, e1, h1.trans h2⟩
theorem perm_pcs {ys : List D} {P : List Pc} (h : ys.Perm (pcsD P)) : ∃ M, ys = pcsD M ∧ M.Perm P := perm_map pcD h rfl
theorem mixed_own {g : List Int} {h xs : List D} (hz : xs.length ≤ 1000) (T : Tap g h) : VF F_law_mixed [.ow h, .ow xs] fun r o => ∃ ys h', r = .nw ys ∧ o = [.ow h', .ow xs] ∧ ys.Perm xs ∧ Tap g h' := by
  have key : ∀ s : Slot, Seq xs s → VF F_law_mixed [.ow h, s] fun r o => ∃ ys h', r = .nw ys ∧ o = [.ow h', s.after] ∧ ys.Perm xs ∧ Tap g h' := fun s hs => VF.ofW (mixed_ok hs hz T) rfl
  exact key (.ow xs) .ow
theorem range_ints {n : Nat} {ni : Int} (e : ni = (n : Int)) (hn : n ≤ 1000) : itRange1 [.int ni] = some ((List.range n).map fun k : Nat => D.int (k : Int)) := by
  rw [range1_ok (by omega) (by omega), up_nats e]
  rfl
theorem good_ones {p : Int} {w : Nat} {c : List Int} (hl : c.length = w) (h1 : 1 ≤ w) (hc : ∀ x ∈ c, 1 ≤ x ∧ x < p) : Good p w c := by
  refine ⟨hl, fun x hx => by have := hc x hx; omega, fun e => ?_⟩
  have hx : (0 : Int) ∈ c := by
    rw [e]
    exact List.mem_replicate.mpr ⟨by omega, rfl⟩
  have := hc 0 hx
  omega
theorem app_pc (P : List Pc) (a : Pc) (h : P.length < 1000) : mAppend (pcsD P) [pcD a] = some (pcsD (P ++ [a]), .non) := by
  rw [append_ok (by rw [pcsD_len]; omega), pcs_snoc]
theorem law_long_ok {g : List Int} {h : List D} (T : Tap g h) :
    VF F_law_long [.ow h] fun r o => ∃ p wi w P h', r = .d (toldD p wi P) ∧ o = [.ow h'] ∧ p ∈ primes ∧ wi = ((w : Nat) : Int) ∧ 1 ≤ w ∧ w ≤ 9 ∧ Pcs p w P ∧ P.length < 12 ∧ Tap g h' := by
  walk_at "fn"
  refine VF.mono (any_own (by simp) (by simp) T) ?_
  rintro r o ⟨d, h, rfl, rfl, hd, T⟩
  obtain ⟨p, rfl, hpp, hp3⟩ : ∃ p : Int, d = .int p ∧ p ∈ primes ∧ 2 ≤ p ∧ p ≤ 3 := by
    simp only [List.mem_cons, List.not_mem_nil, or_false] at hd
    rcases hd with rfl | rfl
    · exact ⟨2, rfl, by decide, by omega, by omega⟩
    · exact ⟨3, rfl, by decide, by omega, by omega⟩
  walk_at "go"
  refine VF.of (pick_ok (m := 3) (by decide) (by decide) T) rfl ?_
  rintro r o ⟨k, h, rfl, rfl, k0, k1, T⟩
  have hadd : fAdd [.int 7, .int k] = some (.d (.int (7 + k))) := rfl
  obtain ⟨w, hw⟩ : ∃ w : Nat, 7 + k = (w : Int) := ⟨(7 + k).toNat, by omega⟩
  have hw7 : 7 ≤ w ∧ w ≤ 9 := by omega
  generalize 7 + k = wi at hadd hw
  have hR := range_ints hw (by omega)
  have hsub : fSub [.int p, .int 1] = some (.d (.int (p - 1))) := rfl
  have hrl : (List.range w).length ≤ 1000000 := by rw [List.length_range]; omega
  walk_at "go"
  refine c_lcM (List.range w) (fun v : Nat => D.int (v : Int)) (fun v : Nat => pcD (marks w v, 1)) hR hrl rfl rfl rfl (fun v hv => ?_) ?_
  · have heq : ∀ k : Nat, fEq [.int (k : Int), .int (v : Int)] = some (.d (.bl (decide (k = v)))) := fun k => by
      rw [eq_int]
      by_cases h : k = v
      · rw [decide_eq_true h, decide_eq_true (by omega)]
      · rw [decide_eq_false h, decide_eq_false (by omega)]
    have hm : ((List.range w).map fun k : Nat => D.int (if k = v then 1 else 0)) = vec (marks w v) := by
      unfold vec marks
      rw [List.map_map]
      rfl
    have hpc : pcD (marks w v, 1) = .tup [.tup (vec (marks w v)), .int 1] := rfl
    rw [hpc]
    generalize (v : Int) = vi at heq ⊢
    walk_at "go"
    refine c_lcM (List.range w) (fun k : Nat => D.int (k : Int)) (fun k : Nat => D.int (if k = v then 1 else 0)) hR hrl rfl rfl rfl (fun k hk => ?_) ?_
    · have h3 := heq k
      generalize (k : Int) = ki at h3 ⊢
      by_cases e : k = v
      · rw [decide_eq_true e] at h3
        rw [if_pos e]
        walk_at "go"
        exact ⟨rfl, rfl⟩
      · rw [decide_eq_false e] at h3
        rw [if_neg e]
        walk_at "go"
        exact ⟨rfl, rfl⟩
    · rw [hm]
      have htu : fTuple [.lst (vec (marks w v))] = some (.d (.tup (vec (marks w v)))) := rfl
      generalize vec (marks w v) = M at htu ⊢
      walk_at "go"
      exact ⟨rfl, rfl⟩
  · have hP1 : ((List.range w).map fun v : Nat => pcD (marks w v, 1)) = pcsD ((List.range w).map fun v : Nat => (marks w v, (1 : Int))) := by
      unfold pcsD
      rw [List.map_map]
      rfl
    rw [hP1]
    have hG1 : ∀ a ∈ (List.range w).map (fun v : Nat => (marks w v, (1 : Int))), Good p w a.1 ∧ 1 ≤ a.2 ∧ a.2 ≤ 1000000 := fun a ha => by
      obtain ⟨v, hv, rfl⟩ := List.mem_map.mp ha
      exact ⟨good_marks (by omega) (List.mem_range.mp hv), by simp, by simp⟩
    have hl1 : ((List.range w).map (fun v : Nat => (marks w v, (1 : Int)))).length = w := by rw [List.length_map, List.length_range]
    generalize (List.range w).map (fun v : Nat => (marks w v, (1 : Int))) = P1 at hG1 hl1 ⊢
    generalize hp1 : p - 1 = p1 at hsub
    walk_at "go"
    refine c_lcS (σ := List D) (List.range w) (fun k : Nat => D.int (k : Int)) (fun h => ⟨[.ow h, .sh (.int p), .sh (.int wi), .ow (pcsD P1), .un, .un], [.att]⟩) (fun j acc h => ∃ c, acc = vec c ∧ c.length = j ∧ (∀ x ∈ c, 1 ≤ x ∧ x < p) ∧ Tap g h) h rfl hR hrl rfl rfl rfl ⟨[], rfl, rfl, fun x hx => (by cases hx), T⟩ (fun s => rfl) ?_ ?_
    · rintro j k acc h hj ⟨c, rfl, hc, hcr, T⟩
      generalize (k : Int) = ki
      walk_at "go"
      refine VF.of (pick_ok (m := p1) (by omega) (by omega) T) rfl ?_
      rintro r o ⟨t, h, rfl, rfl, t0, t1, T⟩
      have hat : fAdd [.int 1, .int t] = some (.d (.int (1 + t))) := rfl
      walk_at "go"
      refine ⟨h, rfl, c ++ [1 + t], ?_, by rw [List.length_append, hc]; rfl, fun x hx => ?_, T⟩
      · unfold vec
        rw [List.map_append]
        rfl
      · rcases List.mem_append.mp hx with hx | hx
        · exact hcr x hx
        · rw [List.mem_singleton.mp hx]
          omega
    · rintro acc h ⟨c, rfl, hc, hcr, T⟩
      rw [List.length_range] at hc
      have hg := good_ones hc (by omega) hcr
      have htu : fTuple [.lst (vec c)] = some (.d (.tup (vec c))) := rfl
      have hap : mAppend (pcsD P1) [.tup [.tup (vec c), .int 1]] = some (pcsD (P1 ++ [(c, 1)]), .non) := app_pc P1 (c, 1) (by omega)
      have hG2 : ∀ a ∈ P1 ++ [(c, (1 : Int))], Good p w a.1 ∧ 1 ≤ a.2 ∧ a.2 ≤ 1000000 := fun a ha => by
        rcases List.mem_append.mp ha with ha | ha
        · exact hG1 a ha
        · rw [List.mem_singleton.mp ha]
          exact ⟨hg, by simp, by simp⟩
      have hl2 : (P1 ++ [(c, (1 : Int))]).length = w + 1 := by rw [List.length_append, hl1]; rfl
      generalize P1 ++ [(c, (1 : Int))] = P2 at hap hG2 hl2
      generalize vec c = cv at htu hap ⊢
      have fin : ∀ (P3 : List Pc) (h : List D), (∀ a ∈ P3, Good p w a.1 ∧ 1 ≤ a.2 ∧ a.2 ≤ 1000000) → P3.length ≤ w + 2 → Tap g h → VF F_law_mixed [.ow h, .ow (pcsD P3)] fun r o => ∃ M h', r = .nw (pcsD M) ∧ o = [.ow h', .ow (pcsD P3)] ∧ Pcs p w M ∧ M.length < 12 ∧ Tap g h' := fun P3 h hG hl T => by
        refine VF.mono (mixed_own (xs := pcsD P3) (by rw [pcsD_len]; omega) T) ?_
        rintro r o ⟨ys, h', rfl, rfl, hp, T⟩
        obtain ⟨M, rfl, hM⟩ := perm_pcs hp
        have hle := hM.length_eq
        exact ⟨M, h', rfl, rfl, ⟨by omega, fun a ha => (hG a (hM.mem_iff.mp ha)).1, fun a ha => (hG a (hM.mem_iff.mp ha)).2⟩, by omega, T⟩
      walk_at "go"
      refine VF.of (pick_ok (m := 2) (by decide) (by decide) T) rfl ?_
      rintro r o ⟨t, h, rfl, rfl, t0, t1, T⟩
      have hk : fEq [.int t, .int 0] = some (.d (.bl (decide (t = 0)))) := eq_int _ _
      generalize decide (t = 0) = b at hk
      walk_at "go"
      cases b with
      | false =>
        walk_at "go"
        refine VF.mono (fin P2 h hG2 (by omega) T) ?_
        rintro r o ⟨M, h, rfl, rfl, hM, hMl, T⟩
        have htd : toldD p wi M = .tup [.int p, .int wi, .lst (pcsD M)] := rfl
        walk_at "go"
        exact ⟨p, wi, w, M, h, by rw [htd], rfl, hpp, hw, by omega, by omega, hM, hMl, T⟩
      | true =>
        walk_at "go"
        refine VF.mono (any_own (xs := pcsD P2) (fun e => by have : (pcsD P2).length = 0 := by rw [e]; rfl
                                                             rw [pcsD_len] at this; omega) (by rw [pcsD_len]; omega) T) ?_
        rintro r o ⟨d, h, rfl, rfl, hd, T⟩
        obtain ⟨a, ha, rfl⟩ := List.mem_map.mp hd
        have hap2 : mAppend (pcsD P2) [pcD a] = some (pcsD (P2 ++ [a]), .non) := app_pc P2 a (by omega)
        have hG3 : ∀ b ∈ P2 ++ [a], Good p w b.1 ∧ 1 ≤ b.2 ∧ b.2 ≤ 1000000 := fun b hb => by
          rcases List.mem_append.mp hb with hb | hb
          · exact hG2 b hb
          · rw [List.mem_singleton.mp hb]
            exact hG2 a ha
        have hl3 : (P2 ++ [a]).length = w + 2 := by rw [List.length_append, hl2]; rfl
        generalize P2 ++ [a] = P3 at hap2 hG3 hl3
        generalize pcD a = ad at hap2 ⊢
        walk_at "go"
        refine VF.mono (fin P3 h hG3 (by omega) T) ?_
        rintro r o ⟨M, h, rfl, rfl, hM, hMl, T⟩
        have htd : toldD p wi M = .tup [.int p, .int wi, .lst (pcsD M)] := rfl
        walk_at "go"
        exact ⟨p, wi, w, M, h, by rw [htd], rfl, hpp, hw, by omega, by omega, hM, hMl, T⟩
end Ev
namespace Ev
open PySem L2
set_option maxHeartbeats 4000000
local macro_rules | `(tactic| walk_at "prim") => `(tactic| first | with_reducible assumption | with_reducible exact eq_int _ _ | with_reducible exact ne_int _ _ | rfl | assumption)
local macro_rules | `(tactic| walk_at "go") => `(tactic| repeat (first
  | (guard_target =~ VA _ _ _; first | refine va_cons ?_ | refine va_nil ?_)
  | (guard_target =~ VE _ _ _; first | refine c_var ?_ | refine ve_prim ?_ | refine ve_con ?_ | refine ve_call ?_ | refine ve_tup ?_ | refine ve_lc ?_ | refine c_mut ?_ | refine ve_lst ?_ | refine ve_ite ?_ | refine ve_and ?_ | refine ve_or ?_ | refine ve_not ?_ | refine ve_sortk ?_ | refine ve_chain ?_ | refine ve_dc ?_ | refine ve_dct ?_)
  | (guard_target =~ PrimK _ _ _ _; refine c_prim (by walk_at "prim") ?_)
  | (guard_target =~ BackK _ _ _ _; refine c_back rfl ?_)
  | (guard_target =~ CallK _ _ _ _; refine c_call rfl ?_)
  | (guard_target =~ AsgK _ _ _ _; refine c_asg ?_)
  | (guard_target =~ VSs _ _ _ _ _; first | refine vss_cons ?_ | refine vss_nil ?_)
  | (guard_target =~ VS _ _ _ _ _; first | refine vs_asg ?_ | refine vs_ite ?_ | refine vs_ret ?_ | refine vs_for ?_ | refine vs_ex ?_ | refine vs_asgT ?_ | refine vs_par ?_ | refine vs_seti ?_ | refine vs_retN ?_ | refine vs_brk ?_ | refine vs_pass ?_)
  | (guard_target =~ VD _ _ _; first | refine vd_cons ?_ | refine vd_nil ?_)
  | (guard_target =~ KeepK _ _ _; refine c_keep ?_)
  | (guard_target =~ VT _ _ _; first | refine vt_eb ?_ | refine vt_e ?_ | refine vt_and ?_ | refine vt_or ?_ | refine vt_not ?_)
  | (guard_target =~ BoolK _ _ _; refine boolk ?_)
  | (guard_target =~ TruK _ _ _; refine truk rfl rfl ?_)
  | (guard_target =~ IfK _ _ _; first | refine ifk_t ?_ | refine ifk_f ?_)
  | (guard_target =~ RetK _ _ _; refine c_ret ?_)
  | (guard_target =~ TupK _ _ _; refine tupk (Nat.le_of_ble_eq_true rfl) ?_)
  | (guard_target =~ LstK _ _ _; refine lstk (Nat.le_of_ble_eq_true rfl) ?_)
  | (guard_target =~ EltK _ _ _; refine c_elt rfl ?_)
  | (guard_target =~ TgK _ _ _ _; refine c_tg ?_)
  | (guard_target =~ MutK _ _ _ _ _; refine c_mutk (by walk_at "prim") ?_)
  | (guard_target =~ AsgTK _ _ _ _; refine c_asgT ?_)
  | (guard_target =~ ParK _ _ _ _ _ _; refine c_par rfl rfl ?_)
  | (guard_target =~ SetiK _ _ _ _ _; refine c_seti rfl ?_)
  | (guard_target =~ VO _ _ _; first | refine vo_some ?_ | refine vo_none ?_)))
local macro_rules | `(tactic| walk_at "shut") => `(tactic| rw [← VF_eq])
local macro_rules | `(tactic| walk_at "fn") => `(tactic| (try rw [← VF_eq]); refine c_fn ?_; walk_at "go")
/-! ### the law -/
def oddR : List D := [.non, .int 0, .str "0", .lst [.int 0], .tup [.bl true], .tup [.int 1, .int 0], .tup [.int 0, .int 0], .tup [.int (-1)], .tup [.int 99], .tup [.tup [.int 0]], .dk [] [], .tup [.int 0, .non]]
theorem odd_no {m : Nat} (hm : m ≤ 40) : ∀ d ∈ oddR, Okd d ∧ lotB (m : Int) d = false := fun d hd => by
  have h1 : ∀ d ∈ oddR, Okd d := fun d hd => okdB_ok (List.all_eq_true.mp (show oddR.all okdB = true by decide) d hd)
  refine ⟨h1 d hd, ?_⟩
  have e99 : inB (-1 + 1) ((m : Int) - 1) (.int 99) = false := by
    show (decide ((-1 + 1 : Int) ≤ 99) && decide ((99 : Int) ≤ (m : Int) - 1)) = false
    rw [decide_eq_false (show ¬ (99 : Int) ≤ (m : Int) - 1 by omega), Bool.and_false]
  have en : inB (-1 + 1) ((m : Int) - 1) (.int (-1)) = false := rfl
  have e10 : inB (1 + 1) ((m : Int) - 1) (.int 0) = false := rfl
  have e00 : inB (0 + 1) ((m : Int) - 1) (.int 0) = false := rfl
  unfold oddR at hd
  simp only [List.mem_cons, List.not_mem_nil, or_false] at hd
  rcases hd with rfl | rfl | rfl | rfl | rfl | rfl | rfl | rfl | rfl | rfl | rfl | rfl
  · rfl
  · rfl
  · rfl
  · rfl
  · rfl
  · show (inB (-1 + 1) ((m : Int) - 1) (.int 1) && (inB (1 + 1) ((m : Int) - 1) (.int 0) && true)) = false
    rw [e10]
    simp
  · show (inB (-1 + 1) ((m : Int) - 1) (.int 0) && (inB (0 + 1) ((m : Int) - 1) (.int 0) && true)) = false
    rw [e00]
    simp
  · show (inB (-1 + 1) ((m : Int) - 1) (.int (-1)) && true) = false
    rw [en]
    rfl
  · show (inB (-1 + 1) ((m : Int) - 1) (.int 99) && true) = false
    rw [e99]
    rfl
  · rfl
  · rfl
  · show (inB (-1 + 1) ((m : Int) - 1) (.int 0) && (false && true)) = false
    simp
theorem ve_dnew {ρ : Env} {Q : B → Env → Prop} (h : Q (.d (.dk [] [])) ρ) : VE .dnew ρ Q := VE.to (W.of rfl h)
theorem law_odd_ok {g : List Int} {h : List D} (T : Tap g h) : VF F_law_odd [.ow h] fun r o => ∃ d h', r = .d d ∧ o = [.ow h'] ∧ d ∈ oddR ∧ Tap g h' := by
  walk_at "fn"
  refine ve_dnew ?_
  walk_at "go"
  refine VF.mono (any_own (xs := oddR) (by decide) (by decide) T) ?_
  rintro r o ⟨d, h, rfl, rfl, hd, T⟩
  walk_at "go"
  exact ⟨d, h, rfl, rfl, hd, T⟩
def restB : Ss := match ir_law with | .cons _ (.cons (.for _ _ _ (.cons _ b)) _) => b | _ => .nil
section
variable {g : List Int} {p wi : Int} {w : Nat} {P : List Pc}
theorem rest_ok {h : List D} {scr : D} {s2 s4 s5 s6 : Slot} {rt : B → Env → Prop} {bk : Env → Prop} (hpp : p ∈ primes) (hw : wi = w) (h1 : 1 ≤ w) (h9 : w ≤ 9) (hP : Pcs p w P) (hn : P.length < 12) (T : Tap g h) :
    VSs restB ⟨[.sh scr, .ow h, s2, .sh (toldD p wi P), s4, s5, s6], [.un]⟩ (fun ρ => ∃ h s3 s4 s5 s6, ρ = ⟨[.sh scr, .ow h, s2, s3, s4, s5, s6], [.un]⟩ ∧ Tap g h) rt bk := by
  have i0 : fIx [toldD p wi P, .int 0] = some (.d (.int p)) := rfl
  have i1 : fIx [toldD p wi P, .int 1] = some (.d (.int wi)) := rfl
  have i2 := told2 p wi P
  have htu : fTuple [.lst (pcsD P)] = some (.d (.tup (pcsD P))) := rfl
  have hl : fLen [.lst (pcsD P)] = some (.d (.int (P.length : Int))) := by rw [len_lst, pcsD_len]
  have hwb : VF F_i_Web [.sh (.int p), .sh (.int wi), .sh (.tup (pcsD P))] fun r o => r = .d (webD p wi P) ∧ o = [.un, .un, .un] := VF.ofW (show WF (F_i_Web [.sh (.int p), .sh (.int wi), .sh (.tup (pcsD P))]) fun r o => r = .d (webD p wi P) ∧ o = [.un, .un, .un] by rw [web_ok hpp hw h1 (by omega) hP]; exact ⟨rfl, rfl⟩) rfl
  have hlr := law_rings_ok (wi := wi) hpp (by omega) hP hn
  have har := all_rings_ok (wi := wi) hpp hw h9 hP hn
  have hlo := lots_vf (P := P) hn
  have hir := fun l (hl : IsLot P.length l) => is_ring_vf (wi := wi) hpp (by omega) hP hl
  have hno := fun d (hd : d ∈ oddR) => is_ring_no (p := p) (wi := wi) (P := P) (odd_no (m := P.length) (by omega) d hd).1 (odd_no (m := P.length) (by omega) d hd).2
  have how := fun xs => is_ring_own (p := p) (wi := wi) (P := P) (xs := xs)
  have hne : fNe [.lst (lotsD (ringsL p w P)), .lst (lotsD (ringsL p w P))] = some (.d (.bl false)) := by rw [ne_lots, decide_eq_true rfl]; rfl
  have hin := fun l => in_lots l (ringsL p w P)
  have hmem : ∀ l, l ∈ allC P.length → decide (l ∈ ringsL p w P) = circB p w P l := fun l hl => by
    unfold ringsL
    cases e : circB p w P l with
    | true => exact decide_eq_true (List.mem_filter.mpr ⟨hl, e⟩)
    | false => exact decide_eq_false fun z => by rw [(List.mem_filter.mp z).2] at e; cases e
  have hnil : fNe [.lst (lotsD (ringsL p w P)), .lst []] = some (.d (.bl (!decide (ringsL p w P = [])))) := ne_lots (ringsL p w P) []
  have hwk : itSeq [.lst (lotsD (allC P.length))] = some ((allC P.length).map lotD) := rfl
  have hlot : ∀ l, l ∈ allC P.length → IsLot P.length l := fun l => mem_allC.mp
  have nb1 : fNotB [.bl false, .bl false] = some (.d (.bl false)) := rfl
  have hfst : ∀ A : List (List Nat), A ≠ [] → ∃ l, fIx [.lst (lotsD A), .int 0] = some (.d (lotD l)) := fun A hA => by
    cases A with
    | nil => exact absurd rfl hA
    | cons l A => exact ⟨l, ix_lst (xs := lotsD (l :: A)) (i := 0) rfl⟩
  have hli : ∀ l, fList [lotD l] = some (.nw (nats l)) := fun l => rfl
  have hfst := hfst (ringsL p w P)
  generalize hrg : ringsL p w P = A at *
  generalize D.lst (pcsD P) = pl at i2 htu hl
  generalize D.tup (pcsD P) = pd at htu hwb
  generalize toldD p wi P = td at *
  generalize webD p wi P = wb at *
  generalize (P.length : Int) = n at hl hlo
  unfold restB ir_law
  walk_at "go"
  refine VF.is hwb ?_
  walk_at "go"
  refine VF.is hlr ?_
  walk_at "go"
  refine VF.is har ?_
  walk_at "go"
  refine VF.is hlo ?_
  walk_at "go"
  refine c_for (σ := Slot) (allC P.length) lotD (fun s => ⟨[.sh scr, .ow h, s2, .sh td, .sh wb, .ow (lotsD A), s], [.un]⟩) (fun _ _ => True) s6 rfl hwk rfl trivial ?_ ?_
  · rintro j l s6 hj _
    have hm := List.mem_of_getElem? hj
    have h3 := hir l (hlot l hm)
    have h4 := hin l
    rw [hmem l hm] at h4
    have h5 : fNe [.bl (circB p w P l), .bl (circB p w P l)] = some (.d (.bl false)) := by cases circB p w P l <;> rfl
    have h3 : VF F_is_ring [.sh wb, .sh (lotD l)] fun r o => r = .d (.bl (circB p w P l)) ∧ o = [.un, .un] := h3
    generalize circB p w P l = b at h3 h4 h5
    generalize lotD l = ld at h3 h4 ⊢
    walk_at "go"
    refine VF.is h3 ?_
    walk_at "go"
    exact ⟨_, rfl, trivial⟩
  · rintro s6 _
    walk_at "go"
    refine VF.mono (law_odd_ok T) ?_
    rintro r o ⟨d, h, rfl, rfl, hd, T⟩
    have h3 := hno d hd
    walk_at "go"
    refine VF.is h3 ?_
    walk_at "go"
    refine ifk_nd (fun e => ?_) fun e => ?_
    · obtain ⟨l, hl0⟩ := hfst e
      have hli := hli l
      have how := how (nats l)
      generalize lotD l = ld at hl0 hli
      generalize nats l = xs at hli how
      walk_at "go"
      refine VF.is how ?_
      walk_at "go"
      exact ⟨h, _, _, _, _, rfl, T⟩
    · walk_at "go"
      exact ⟨h, _, _, _, _, rfl, T⟩
end
theorem law_vf (ns : List Int) (hl : ns.length ≤ 63) : VF F_law [.sh (.ro (ns.map D.int))] fun r o => r = .d (.bl true) := by
  have htape := tape_ok ns hl
  generalize D.ro (ns.map D.int) = scr at htape ⊢
  have hr2 : itRange1 [.int 2] = some ((List.range 2).map fun k : Nat => D.int (k : Int)) := rfl
  walk_at "fn"
  refine VF.of htape rfl ?_
  rintro r o ⟨h, rfl, rfl, T⟩
  walk_at "go"
  refine c_for (σ := List D × Slot × Slot × Slot × Slot × Slot) (List.range 2) (fun k : Nat => D.int (k : Int)) (fun s => ⟨[.sh scr, .ow s.1, s.2.1, s.2.2.1, s.2.2.2.1, s.2.2.2.2.1, s.2.2.2.2.2], [.un]⟩) (fun _ s => Tap ns s.1) (h, .un, .un, .un, .un, .un) rfl hr2 rfl T ?_ ?_
  · rintro j a ⟨h, s2, s3, s4, s5, s6⟩ hj T
    have T : Tap ns h := T
    show TgK _ _ ⟨[.sh scr, .ow h, s2, s3, s4, s5, s6], [.un]⟩ _
    generalize (a : Int) = ai
    walk_at "go"
    refine VF.of (pick_ok (m := 40) (by decide) (by decide) T) rfl ?_
    rintro r o ⟨t, h, rfl, rfl, t0, t1, T⟩
    have hk : fEq [.int t, .int 0] = some (.d (.bl (decide (t = 0)))) := eq_int _ _
    generalize decide (t = 0) = b at hk
    walk_at "go"
    cases b with
    | true =>
      walk_at "go"
      refine VF.mono (law_long_ok T) ?_
      rintro r o ⟨p, wi, w, P, h, rfl, rfl, hpp, hw, h1, h9, hP, hn, T⟩
      refine c_back rfl ?_
      refine c_asg ?_
      refine VSs.mono (rest_ok hpp hw h1 h9 hP hn T) ?_ (fun _ _ q => q) (fun _ q => q)
      rintro ρ ⟨h, s3, s4, s5, s6, rfl, T⟩
      exact ⟨(h, _, s3, s4, s5, s6), rfl, T⟩
    | false =>
      walk_at "go"
      refine VF.of (law_small_ok (mo := 8) (by decide) T) rfl ?_
      rintro r o ⟨p, wi, w, P, h, rfl, rfl, hpp, hw, h1, h4, hPl, hG, T⟩
      refine c_back rfl ?_
      refine c_asg ?_
      refine VSs.mono (rest_ok hpp hw h1 (by omega) ⟨by omega, fun a ha => (hG a ha).1, fun a ha => (hG a ha).2⟩ (by omega) T) ?_ (fun _ _ q => q) (fun _ q => q)
      rintro ρ ⟨h, s3, s4, s5, s6, rfl, T⟩
      exact ⟨(h, _, s3, s4, s5, s6), rfl, T⟩
  · rintro ⟨h, s2, s3, s4, s5, s6⟩ T
    walk_at "go"
    rfl
theorem law_true (ns : List Int) (h : ns.length ≤ 63) : ∃ o, F_law [.sh (.ro (ns.map D.int))] = .ok (.d (.bl true)) o := by
  have q := law_vf ns h
  rw [VF_eq] at q
  obtain ⟨r, o, e, rfl⟩ := q.get
  exact ⟨o, e⟩
end Ev
namespace Ev
open PySem L2
theorem all_mk {K : PySem.W.Frag} {h : Heap} {mg : Str → Option Value} {ts : List Addr} (X : K.In h) (G : h.Ns mainGlobals mg) (hT : ∀ P ∈ ts, h.get? P = some { cls := .none, data := .fields #[] })
    {q0 : Addr} {oc0 kV0 dc0 pm0 cd0 ct0 : Value} {od0 an0 : Option Addr} {sl0 : Array (Option Value)}
    (a0 : PySem.W.nsIn K mainGlobals "is_integer" = some (some (.ref q0)))
    (l0 : K.lookup q0 = some ⟨oc0, od0, .func (PySem.W.fnOf "is_integer" "is_integer" (defArgs st_is_integer) (defBody st_is_integer) (defScope st_is_integer) .none kV0 dc0 pm0 an0 cd0 ct0), sl0⟩)
    (c0 : PySem.W.codeIn K cd0 "is_integer" = true) (k0 : PySem.W.keepIn K (.ref q0) = true)
    {q1 : Addr} {oc1 kV1 dc1 pm1 cd1 ct1 : Value} {od1 an1 : Option Addr} {sl1 : Array (Option Value)}
    (a1 : PySem.W.nsIn K mainGlobals "is_within" = some (some (.ref q1)))
    (l1 : K.lookup q1 = some ⟨oc1, od1, .func (PySem.W.fnOf "is_within" "is_within" (defArgs st_is_within) (defBody st_is_within) (defScope st_is_within) .none kV1 dc1 pm1 an1 cd1 ct1), sl1⟩)
    (c1 : PySem.W.codeIn K cd1 "is_within" = true) (k1 : PySem.W.keepIn K (.ref q1) = true)
    {q2 : Addr} {oc2 kV2 dc2 pm2 cd2 ct2 : Value} {od2 an2 : Option Addr} {sl2 : Array (Option Value)}
    (a2 : PySem.W.nsIn K mainGlobals "is_lot" = some (some (.ref q2)))
    (l2 : K.lookup q2 = some ⟨oc2, od2, .func (PySem.W.fnOf "is_lot" "is_lot" (defArgs st_is_lot) (defBody st_is_lot) (defScope st_is_lot) .none kV2 dc2 pm2 an2 cd2 ct2), sl2⟩)
    (c2 : PySem.W.codeIn K cd2 "is_lot" = true) (k2 : PySem.W.keepIn K (.ref q2) = true)
    {q3 : Addr} {oc3 kV3 dc3 pm3 cd3 ct3 : Value} {od3 an3 : Option Addr} {sl3 : Array (Option Value)}
    (a3 : PySem.W.nsIn K mainGlobals "is_prime" = some (some (.ref q3)))
    (l3 : K.lookup q3 = some ⟨oc3, od3, .func (PySem.W.fnOf "is_prime" "is_prime" (defArgs st_is_prime) (defBody st_is_prime) (defScope st_is_prime) .none kV3 dc3 pm3 an3 cd3 ct3), sl3⟩)
    (c3 : PySem.W.codeIn K cd3 "is_prime" = true) (k3 : PySem.W.keepIn K (.ref q3) = true)
    {q4 : Addr} {oc4 kV4 dc4 pm4 cd4 ct4 : Value} {od4 an4 : Option Addr} {sl4 : Array (Option Value)}
    (a4 : PySem.W.nsIn K mainGlobals "is_values" = some (some (.ref q4)))
    (l4 : K.lookup q4 = some ⟨oc4, od4, .func (PySem.W.fnOf "is_values" "is_values" (defArgs st_is_values) (defBody st_is_values) (defScope st_is_values) .none kV4 dc4 pm4 an4 cd4 ct4), sl4⟩)
    (c4 : PySem.W.codeIn K cd4 "is_values" = true) (k4 : PySem.W.keepIn K (.ref q4) = true)
    {q5 : Addr} {oc5 kV5 dc5 pm5 cd5 ct5 : Value} {od5 an5 : Option Addr} {sl5 : Array (Option Value)}
    (a5 : PySem.W.nsIn K mainGlobals "is_sum" = some (some (.ref q5)))
    (l5 : K.lookup q5 = some ⟨oc5, od5, .func (PySem.W.fnOf "is_sum" "is_sum" (defArgs st_is_sum) (defBody st_is_sum) (defScope st_is_sum) .none kV5 dc5 pm5 an5 cd5 ct5), sl5⟩)
    (c5 : PySem.W.codeIn K cd5 "is_sum" = true) (k5 : PySem.W.keepIn K (.ref q5) = true)
    {q6 : Addr} {oc6 kV6 dc6 pm6 cd6 ct6 : Value} {od6 an6 : Option Addr} {sl6 : Array (Option Value)}
    (a6 : PySem.W.nsIn K mainGlobals "width_of" = some (some (.ref q6)))
    (l6 : K.lookup q6 = some ⟨oc6, od6, .func (PySem.W.fnOf "width_of" "width_of" (defArgs st_width_of) (defBody st_width_of) (defScope st_width_of) .none kV6 dc6 pm6 an6 cd6 ct6), sl6⟩)
    (c6 : PySem.W.codeIn K cd6 "width_of" = true) (k6 : PySem.W.keepIn K (.ref q6) = true)
    {q7 : Addr} {oc7 kV7 dc7 pm7 cd7 ct7 : Value} {od7 an7 : Option Addr} {sl7 : Array (Option Value)}
    (a7 : PySem.W.nsIn K mainGlobals "inverse" = some (some (.ref q7)))
    (l7 : K.lookup q7 = some ⟨oc7, od7, .func (PySem.W.fnOf "inverse" "inverse" (defArgs st_inverse) (defBody st_inverse) (defScope st_inverse) .none kV7 dc7 pm7 an7 cd7 ct7), sl7⟩)
    (c7 : PySem.W.codeIn K cd7 "inverse" = true) (k7 : PySem.W.keepIn K (.ref q7) = true)
    {q8 : Addr} {oc8 kV8 dc8 pm8 cd8 ct8 : Value} {od8 an8 : Option Addr} {sl8 : Array (Option Value)}
    (a8 : PySem.W.nsIn K mainGlobals "reduced" = some (some (.ref q8)))
    (l8 : K.lookup q8 = some ⟨oc8, od8, .func (PySem.W.fnOf "reduced" "reduced" (defArgs st_reduced) (defBody st_reduced) (defScope st_reduced) .none kV8 dc8 pm8 an8 cd8 ct8), sl8⟩)
    (c8 : PySem.W.codeIn K cd8 "reduced" = true) (k8 : PySem.W.keepIn K (.ref q8) = true)
    {q9 : Addr} {oc9 kV9 dc9 pm9 cd9 ct9 : Value} {od9 an9 : Option Addr} {sl9 : Array (Option Value)}
    (a9 : PySem.W.nsIn K mainGlobals "leading" = some (some (.ref q9)))
    (l9 : K.lookup q9 = some ⟨oc9, od9, .func (PySem.W.fnOf "leading" "leading" (defArgs st_leading) (defBody st_leading) (defScope st_leading) .none kV9 dc9 pm9 an9 cd9 ct9), sl9⟩)
    (c9 : PySem.W.codeIn K cd9 "leading" = true) (k9 : PySem.W.keepIn K (.ref q9) = true)
    {q10 : Addr} {oc10 kV10 dc10 pm10 cd10 ct10 : Value} {od10 an10 : Option Addr} {sl10 : Array (Option Value)}
    (a10 : PySem.W.nsIn K mainGlobals "marked" = some (some (.ref q10)))
    (l10 : K.lookup q10 = some ⟨oc10, od10, .func (PySem.W.fnOf "marked" "marked" (defArgs st_marked) (defBody st_marked) (defScope st_marked) .none kV10 dc10 pm10 an10 cd10 ct10), sl10⟩)
    (c10 : PySem.W.codeIn K cd10 "marked" = true) (k10 : PySem.W.keepIn K (.ref q10) = true)
    {q11 : Addr} {oc11 kV11 dc11 pm11 cd11 ct11 : Value} {od11 an11 : Option Addr} {sl11 : Array (Option Value)}
    (a11 : PySem.W.nsIn K mainGlobals "nought_of" = some (some (.ref q11)))
    (l11 : K.lookup q11 = some ⟨oc11, od11, .func (PySem.W.fnOf "nought_of" "nought_of" (defArgs st_nought_of) (defBody st_nought_of) (defScope st_nought_of) .none kV11 dc11 pm11 an11 cd11 ct11), sl11⟩)
    (c11 : PySem.W.codeIn K cd11 "nought_of" = true) (k11 : PySem.W.keepIn K (.ref q11) = true)
    {q12 : Addr} {oc12 kV12 dc12 pm12 cd12 ct12 : Value} {od12 an12 : Option Addr} {sl12 : Array (Option Value)}
    (a12 : PySem.W.nsIn K mainGlobals "is_pair" = some (some (.ref q12)))
    (l12 : K.lookup q12 = some ⟨oc12, od12, .func (PySem.W.fnOf "is_pair" "is_pair" (defArgs st_is_pair) (defBody st_is_pair) (defScope st_is_pair) .none kV12 dc12 pm12 an12 cd12 ct12), sl12⟩)
    (c12 : PySem.W.codeIn K cd12 "is_pair" = true) (k12 : PySem.W.keepIn K (.ref q12) = true)
    {q13 : Addr} {oc13 kV13 dc13 pm13 cd13 ct13 : Value} {od13 an13 : Option Addr} {sl13 : Array (Option Value)}
    {qC13 : Addr} (aC13 : PySem.W.nsIn K mainGlobals "Web" = some (some (.ref qC13)))
    (a13 : PySem.W.findIn K (.ref qC13) "__init__" = some (some (.ref q13))) (i13 : PySem.W.isFn K (.ref q13) = true)
    (l13 : K.lookup q13 = some ⟨oc13, od13, .func (PySem.W.fnOf "__init__" "Web.__init__" (defArgs st_i_Web) (defBody st_i_Web) (defScope st_i_Web) .none kV13 dc13 pm13 an13 cd13 ct13), sl13⟩)
    (c13 : PySem.W.codeIn K cd13 "Web.__init__" = true) (k13 : PySem.W.keepIn K (.ref q13) = true)
    (pg13 : PySem.W.plainGet K qC13 Str.empty = true) (hd13 : PySem.W.hasDictIn K qC13 = true) (po13 : PySem.W.plainOver K qC13 = true) (sa13 : PySem.W.findIn K (.ref qC13) "__setattr__" = some (some (.builtin "object.__setattr__"))) (mk13 : PySem.W.makesIn K qC13 = true) (kc13 : PySem.W.keepIn K (.ref qC13) = true)
    (n13_0 : PySem.W.findIn K (.ref qC13) "prime" = some none)
    (n13_1 : PySem.W.findIn K (.ref qC13) "many" = some none)
    (n13_2 : PySem.W.findIn K (.ref qC13) "pieces" = some none)
    (xa13 : PySem.W.findIn K (.ref qC13) "__class__" = some (some (.builtin "object.__class__"))) (xm13 : PySem.W.mroIn K qC13 (.type "object") = some true) (xn13 : PySem.W.subIn K (.ref qC13) (.type "tuple") = some false)
    (xg13 : PySem.W.specialIn K (.builtin "object.__class__") "__get__" = some (some (.builtin "getset_descriptor.__get__"))) (xt13 : PySem.W.takesIn K (.builtin "object.__class__") = some true)
    {q14 : Addr} {oc14 kV14 dc14 pm14 cd14 ct14 : Value} {od14 an14 : Option Addr} {sl14 : Array (Option Value)}
    (a14 : PySem.W.nsIn K mainGlobals "is_lot_of" = some (some (.ref q14)))
    (l14 : K.lookup q14 = some ⟨oc14, od14, .func (PySem.W.fnOf "is_lot_of" "is_lot_of" (defArgs st_is_lot_of) (defBody st_is_lot_of) (defScope st_is_lot_of) .none kV14 dc14 pm14 an14 cd14 ct14), sl14⟩)
    (c14 : PySem.W.codeIn K cd14 "is_lot_of" = true) (k14 : PySem.W.keepIn K (.ref q14) = true)
    {q15 : Addr} {oc15 kV15 dc15 pm15 cd15 ct15 : Value} {od15 an15 : Option Addr} {sl15 : Array (Option Value)}
    (a15 : PySem.W.nsIn K mainGlobals "sum_of" = some (some (.ref q15)))
    (l15 : K.lookup q15 = some ⟨oc15, od15, .func (PySem.W.fnOf "sum_of" "sum_of" (defArgs st_sum_of) (defBody st_sum_of) (defScope st_sum_of) .none kV15 dc15 pm15 an15 cd15 ct15), sl15⟩)
    (c15 : PySem.W.codeIn K cd15 "sum_of" = true) (k15 : PySem.W.keepIn K (.ref q15) = true)
    {q16 : Addr} {oc16 kV16 dc16 pm16 cd16 ct16 : Value} {od16 an16 : Option Addr} {sl16 : Array (Option Value)}
    (a16 : PySem.W.nsIn K mainGlobals "sums_of" = some (some (.ref q16)))
    (l16 : K.lookup q16 = some ⟨oc16, od16, .func (PySem.W.fnOf "sums_of" "sums_of" (defArgs st_sums_of) (defBody st_sums_of) (defScope st_sums_of) .none kV16 dc16 pm16 an16 cd16 ct16), sl16⟩)
    (c16 : PySem.W.codeIn K cd16 "sums_of" = true) (k16 : PySem.W.keepIn K (.ref q16) = true)
    {q17 : Addr} {oc17 kV17 dc17 pm17 cd17 ct17 : Value} {od17 an17 : Option Addr} {sl17 : Array (Option Value)}
    (a17 : PySem.W.nsIn K mainGlobals "closing" = some (some (.ref q17)))
    (l17 : K.lookup q17 = some ⟨oc17, od17, .func (PySem.W.fnOf "closing" "closing" (defArgs st_closing) (defBody st_closing) (defScope st_closing) .none kV17 dc17 pm17 an17 cd17 ct17), sl17⟩)
    (c17 : PySem.W.codeIn K cd17 "closing" = true) (k17 : PySem.W.keepIn K (.ref q17) = true)
    {q18 : Addr} {oc18 kV18 dc18 pm18 cd18 ct18 : Value} {od18 an18 : Option Addr} {sl18 : Array (Option Value)}
    (a18 : PySem.W.nsIn K mainGlobals "is_ring" = some (some (.ref q18)))
    (l18 : K.lookup q18 = some ⟨oc18, od18, .func (PySem.W.fnOf "is_ring" "is_ring" (defArgs st_is_ring) (defBody st_is_ring) (defScope st_is_ring) .none kV18 dc18 pm18 an18 cd18 ct18), sl18⟩)
    (c18 : PySem.W.codeIn K cd18 "is_ring" = true) (k18 : PySem.W.keepIn K (.ref q18) = true)
    {q19 : Addr} {oc19 kV19 dc19 pm19 cd19 ct19 : Value} {od19 an19 : Option Addr} {sl19 : Array (Option Value)}
    (a19 : PySem.W.nsIn K mainGlobals "all_rings" = some (some (.ref q19)))
    (l19 : K.lookup q19 = some ⟨oc19, od19, .func (PySem.W.fnOf "all_rings" "all_rings" (defArgs st_all_rings) (defBody st_all_rings) (defScope st_all_rings) .none kV19 dc19 pm19 an19 cd19 ct19), sl19⟩)
    (c19 : PySem.W.codeIn K cd19 "all_rings" = true) (k19 : PySem.W.keepIn K (.ref q19) = true)
    {q20 : Addr} {oc20 kV20 dc20 pm20 cd20 ct20 : Value} {od20 an20 : Option Addr} {sl20 : Array (Option Value)}
    (a20 : PySem.W.nsIn K mainGlobals "_law_tape" = some (some (.ref q20)))
    (l20 : K.lookup q20 = some ⟨oc20, od20, .func (PySem.W.fnOf "_law_tape" "_law_tape" (defArgs st_law_tape) (defBody st_law_tape) (defScope st_law_tape) .none kV20 dc20 pm20 an20 cd20 ct20), sl20⟩)
    (c20 : PySem.W.codeIn K cd20 "_law_tape" = true) (k20 : PySem.W.keepIn K (.ref q20) = true)
    {q21 : Addr} {oc21 kV21 dc21 pm21 cd21 ct21 : Value} {od21 an21 : Option Addr} {sl21 : Array (Option Value)}
    (a21 : PySem.W.nsIn K mainGlobals "_law_pick" = some (some (.ref q21)))
    (l21 : K.lookup q21 = some ⟨oc21, od21, .func (PySem.W.fnOf "_law_pick" "_law_pick" (defArgs st_law_pick) (defBody st_law_pick) (defScope st_law_pick) .none kV21 dc21 pm21 an21 cd21 ct21), sl21⟩)
    (c21 : PySem.W.codeIn K cd21 "_law_pick" = true) (k21 : PySem.W.keepIn K (.ref q21) = true)
    {q22 : Addr} {oc22 kV22 dc22 pm22 cd22 ct22 : Value} {od22 an22 : Option Addr} {sl22 : Array (Option Value)}
    (a22 : PySem.W.nsIn K mainGlobals "_law_any" = some (some (.ref q22)))
    (l22 : K.lookup q22 = some ⟨oc22, od22, .func (PySem.W.fnOf "_law_any" "_law_any" (defArgs st_law_any) (defBody st_law_any) (defScope st_law_any) .none kV22 dc22 pm22 an22 cd22 ct22), sl22⟩)
    (c22 : PySem.W.codeIn K cd22 "_law_any" = true) (k22 : PySem.W.keepIn K (.ref q22) = true)
    {q23 : Addr} {oc23 kV23 dc23 pm23 cd23 ct23 : Value} {od23 an23 : Option Addr} {sl23 : Array (Option Value)}
    (a23 : PySem.W.nsIn K mainGlobals "_law_mixed" = some (some (.ref q23)))
    (l23 : K.lookup q23 = some ⟨oc23, od23, .func (PySem.W.fnOf "_law_mixed" "_law_mixed" (defArgs st_law_mixed) (defBody st_law_mixed) (defScope st_law_mixed) .none kV23 dc23 pm23 an23 cd23 ct23), sl23⟩)
    (c23 : PySem.W.codeIn K cd23 "_law_mixed" = true) (k23 : PySem.W.keepIn K (.ref q23) = true)
    {q24 : Addr} {oc24 kV24 dc24 pm24 cd24 ct24 : Value} {od24 an24 : Option Addr} {sl24 : Array (Option Value)}
    (a24 : PySem.W.nsIn K mainGlobals "_law_inverse" = some (some (.ref q24)))
    (l24 : K.lookup q24 = some ⟨oc24, od24, .func (PySem.W.fnOf "_law_inverse" "_law_inverse" (defArgs st_law_inverse) (defBody st_law_inverse) (defScope st_law_inverse) .none kV24 dc24 pm24 an24 cd24 ct24), sl24⟩)
    (c24 : PySem.W.codeIn K cd24 "_law_inverse" = true) (k24 : PySem.W.keepIn K (.ref q24) = true)
    {q25 : Addr} {oc25 kV25 dc25 pm25 cd25 ct25 : Value} {od25 an25 : Option Addr} {sl25 : Array (Option Value)}
    (a25 : PySem.W.nsIn K mainGlobals "_law_less" = some (some (.ref q25)))
    (l25 : K.lookup q25 = some ⟨oc25, od25, .func (PySem.W.fnOf "_law_less" "_law_less" (defArgs st_law_less) (defBody st_law_less) (defScope st_law_less) .none kV25 dc25 pm25 an25 cd25 ct25), sl25⟩)
    (c25 : PySem.W.codeIn K cd25 "_law_less" = true) (k25 : PySem.W.keepIn K (.ref q25) = true)
    {q26 : Addr} {oc26 kV26 dc26 pm26 cd26 ct26 : Value} {od26 an26 : Option Addr} {sl26 : Array (Option Value)}
    (a26 : PySem.W.nsIn K mainGlobals "_law_rank" = some (some (.ref q26)))
    (l26 : K.lookup q26 = some ⟨oc26, od26, .func (PySem.W.fnOf "_law_rank" "_law_rank" (defArgs st_law_rank) (defBody st_law_rank) (defScope st_law_rank) .none kV26 dc26 pm26 an26 cd26 ct26), sl26⟩)
    (c26 : PySem.W.codeIn K cd26 "_law_rank" = true) (k26 : PySem.W.keepIn K (.ref q26) = true)
    {q27 : Addr} {oc27 kV27 dc27 pm27 cd27 ct27 : Value} {od27 an27 : Option Addr} {sl27 : Array (Option Value)}
    (a27 : PySem.W.nsIn K mainGlobals "_law_sum" = some (some (.ref q27)))
    (l27 : K.lookup q27 = some ⟨oc27, od27, .func (PySem.W.fnOf "_law_sum" "_law_sum" (defArgs st_law_sum) (defBody st_law_sum) (defScope st_law_sum) .none kV27 dc27 pm27 an27 cd27 ct27), sl27⟩)
    (c27 : PySem.W.codeIn K cd27 "_law_sum" = true) (k27 : PySem.W.keepIn K (.ref q27) = true)
    {q28 : Addr} {oc28 kV28 dc28 pm28 cd28 ct28 : Value} {od28 an28 : Option Addr} {sl28 : Array (Option Value)}
    (a28 : PySem.W.nsIn K mainGlobals "_law_pieces" = some (some (.ref q28)))
    (l28 : K.lookup q28 = some ⟨oc28, od28, .func (PySem.W.fnOf "_law_pieces" "_law_pieces" (defArgs st_law_pieces) (defBody st_law_pieces) (defScope st_law_pieces) .none kV28 dc28 pm28 an28 cd28 ct28), sl28⟩)
    (c28 : PySem.W.codeIn K cd28 "_law_pieces" = true) (k28 : PySem.W.keepIn K (.ref q28) = true)
    {q29 : Addr} {oc29 kV29 dc29 pm29 cd29 ct29 : Value} {od29 an29 : Option Addr} {sl29 : Array (Option Value)}
    (a29 : PySem.W.nsIn K mainGlobals "_law_small" = some (some (.ref q29)))
    (l29 : K.lookup q29 = some ⟨oc29, od29, .func (PySem.W.fnOf "_law_small" "_law_small" (defArgs st_law_small) (defBody st_law_small) (defScope st_law_small) .none kV29 dc29 pm29 an29 cd29 ct29), sl29⟩)
    (c29 : PySem.W.codeIn K cd29 "_law_small" = true) (k29 : PySem.W.keepIn K (.ref q29) = true)
    {q30 : Addr} {oc30 kV30 dc30 pm30 cd30 ct30 : Value} {od30 an30 : Option Addr} {sl30 : Array (Option Value)}
    (a30 : PySem.W.nsIn K mainGlobals "_law_in" = some (some (.ref q30)))
    (l30 : K.lookup q30 = some ⟨oc30, od30, .func (PySem.W.fnOf "_law_in" "_law_in" (defArgs st_law_in) (defBody st_law_in) (defScope st_law_in) .none kV30 dc30 pm30 an30 cd30 ct30), sl30⟩)
    (c30 : PySem.W.codeIn K cd30 "_law_in" = true) (k30 : PySem.W.keepIn K (.ref q30) = true)
    {q31 : Addr} {oc31 kV31 dc31 pm31 cd31 ct31 : Value} {od31 an31 : Option Addr} {sl31 : Array (Option Value)}
    (a31 : PySem.W.nsIn K mainGlobals "_law_leans" = some (some (.ref q31)))
    (l31 : K.lookup q31 = some ⟨oc31, od31, .func (PySem.W.fnOf "_law_leans" "_law_leans" (defArgs st_law_leans) (defBody st_law_leans) (defScope st_law_leans) .none kV31 dc31 pm31 an31 cd31 ct31), sl31⟩)
    (c31 : PySem.W.codeIn K cd31 "_law_leans" = true) (k31 : PySem.W.keepIn K (.ref q31) = true)
    {cc32 PP32 : Addr} {vs32 : Array Value} {oy32 : Value} {ody32 : Option Addr} {sly32 : Array (Option Value)}
    {q32 : Addr} {oc32 kV32 dc32 pm32 ct32 : Value} {od32 an32 : Option Addr} {sl32 : Array (Option Value)}
    (a32 : PySem.W.nsIn K mainGlobals "_law_lots" = some (some (.ref q32)))
    (l32 : K.lookup q32 = some ⟨oc32, od32, .func (PySem.W.fnOf "_law_lots" "_law_lots" (defArgs st_law_lots) (defBody st_law_lots) (defScope st_law_lots) .none kV32 dc32 pm32 an32 (.ref cc32) ct32), sl32⟩)
    (c32 : PySem.W.codeIn K (.ref cc32) "_law_lots" = true) (k32 : PySem.W.keepIn K (.ref q32) = true)
    (yv32 : K.lookup cc32 = some ⟨oy32, ody32, .fields vs32, sly32⟩) (yp32 : vs32[11]? = some (.ref PP32)) (yh32 : PySem.W.codeHdIn K cc32 PP32 = true) (yn32 : K.lookup PP32 = none) (yt32 : PP32 ∈ ts)
    {q33 : Addr} {oc33 kV33 dc33 pm33 cd33 ct33 : Value} {od33 an33 : Option Addr} {sl33 : Array (Option Value)}
    (a33 : PySem.W.nsIn K mainGlobals "_law_holds" = some (some (.ref q33)))
    (l33 : K.lookup q33 = some ⟨oc33, od33, .func (PySem.W.fnOf "_law_holds" "_law_holds" (defArgs st_law_holds) (defBody st_law_holds) (defScope st_law_holds) .none kV33 dc33 pm33 an33 cd33 ct33), sl33⟩)
    (c33 : PySem.W.codeIn K cd33 "_law_holds" = true) (k33 : PySem.W.keepIn K (.ref q33) = true)
    {q34 : Addr} {oc34 kV34 dc34 pm34 cd34 ct34 : Value} {od34 an34 : Option Addr} {sl34 : Array (Option Value)}
    (a34 : PySem.W.nsIn K mainGlobals "_law_odd" = some (some (.ref q34)))
    (l34 : K.lookup q34 = some ⟨oc34, od34, .func (PySem.W.fnOf "_law_odd" "_law_odd" (defArgs st_law_odd) (defBody st_law_odd) (defScope st_law_odd) .none kV34 dc34 pm34 an34 cd34 ct34), sl34⟩)
    (c34 : PySem.W.codeIn K cd34 "_law_odd" = true) (k34 : PySem.W.keepIn K (.ref q34) = true)
    {q35 : Addr} {oc35 kV35 dc35 pm35 cd35 ct35 : Value} {od35 an35 : Option Addr} {sl35 : Array (Option Value)}
    (a35 : PySem.W.nsIn K mainGlobals "_law_long" = some (some (.ref q35)))
    (l35 : K.lookup q35 = some ⟨oc35, od35, .func (PySem.W.fnOf "_law_long" "_law_long" (defArgs st_law_long) (defBody st_law_long) (defScope st_law_long) .none kV35 dc35 pm35 an35 cd35 ct35), sl35⟩)
    (c35 : PySem.W.codeIn K cd35 "_law_long" = true) (k35 : PySem.W.keepIn K (.ref q35) = true)
    {q36 : Addr} {oc36 kV36 dc36 pm36 cd36 ct36 : Value} {od36 an36 : Option Addr} {sl36 : Array (Option Value)}
    (a36 : PySem.W.nsIn K mainGlobals "_law_rings" = some (some (.ref q36)))
    (l36 : K.lookup q36 = some ⟨oc36, od36, .func (PySem.W.fnOf "_law_rings" "_law_rings" (defArgs st_law_rings) (defBody st_law_rings) (defScope st_law_rings) .none kV36 dc36 pm36 an36 cd36 ct36), sl36⟩)
    (c36 : PySem.W.codeIn K cd36 "_law_rings" = true) (k36 : PySem.W.keepIn K (.ref q36) = true)
    {q37 : Addr} {oc37 kV37 dc37 pm37 cd37 ct37 : Value} {od37 an37 : Option Addr} {sl37 : Array (Option Value)}
    (a37 : PySem.W.nsIn K mainGlobals "law" = some (some (.ref q37)))
    (l37 : K.lookup q37 = some ⟨oc37, od37, .func (PySem.W.fnOf "law" "law" (defArgs st_law) (defBody st_law) (defScope st_law) .none kV37 dc37 pm37 an37 cd37 ct37), sl37⟩)
    (c37 : PySem.W.codeIn K cd37 "law" = true) (k37 : PySem.W.keepIn K (.ref q37) = true)
    (u0 : PySem.W.nsIn K mainGlobals "abs" = some none)
    (u1 : PySem.W.nsIn K mainGlobals "all" = some none)
    (u2 : PySem.W.nsIn K mainGlobals "any" = some none)
    (u3 : PySem.W.nsIn K mainGlobals "bool" = some none)
    {tk4 : Tok} (u4 : PySem.W.nsIn K mainGlobals "MOST_PIECES_rings" = some (some (.int 12 tk4)))
    {tk5 : Tok} (u5 : PySem.W.nsIn K mainGlobals "MOST_PIECES_webs" = some (some (.int 40 tk5)))
    {tk6 : Tok} (u6 : PySem.W.nsIn K mainGlobals "MOST_PRIME" = some (some (.int 251 tk6)))
    {tk7 : Tok} (u7 : PySem.W.nsIn K mainGlobals "MOST_SIZE" = some (some (.int 1000000 tk7)))
    {tk8 : Tok} (u8 : PySem.W.nsIn K mainGlobals "MOST_VERSIONS" = some (some (.int 10 tk8)))
    (u9 : PySem.W.nsIn K mainGlobals "enumerate" = some none)
    (u10 : PySem.W.nsIn K mainGlobals "combinations" = some (some (.type "itertools.combinations")))
    (u11 : PySem.W.nsIn K mainGlobals "int" = some none)
    (u12 : PySem.W.nsIn K mainGlobals "isinstance" = some none)
    (u13 : PySem.W.nsIn K mainGlobals "len" = some none)
    (u14 : PySem.W.nsIn K mainGlobals "list" = some none)
    (u15 : PySem.W.nsIn K mainGlobals "range" = some none)
    (u16 : PySem.W.nsIn K mainGlobals "sorted" = some none)
    (u17 : PySem.W.nsIn K mainGlobals "tuple" = some none)
    (u18 : PySem.W.nsIn K mainGlobals "zip" = some none)
    (yd32 : PP32 ∉ ([] : List Addr))
    : ∃ T : Facts K mg, ∃ L : TabL, TabsIn K h L ∧ LamIn L T.d_law_lots.code ("_law_lots" ++ ".<locals>.") ∧ ∃ kV dc pm an cd ct, T.d_law = PySem.W.fnOf "law" "law" (defArgs st_law) (defBody st_law) (defScope st_law) .none kV dc pm an cd ct := by
  have f0 := fun_mk (st := st_is_integer) l0 c0 k0
  have f1 := fun_mk (st := st_is_within) l1 c1 k1
  have f2 := fun_mk (st := st_is_lot) l2 c2 k2
  have f3 := fun_mk (st := st_is_prime) l3 c3 k3
  have f4 := fun_mk (st := st_is_values) l4 c4 k4
  have f5 := fun_mk (st := st_is_sum) l5 c5 k5
  have f6 := fun_mk (st := st_width_of) l6 c6 k6
  have f7 := fun_mk (st := st_inverse) l7 c7 k7
  have f8 := fun_mk (st := st_reduced) l8 c8 k8
  have f9 := fun_mk (st := st_leading) l9 c9 k9
  have f10 := fun_mk (st := st_marked) l10 c10 k10
  have f11 := fun_mk (st := st_nought_of) l11 c11 k11
  have f12 := fun_mk (st := st_is_pair) l12 c12 k12
  have f13 := fun_mk (st := st_i_Web) l13 c13 k13
  have f14 := fun_mk (st := st_is_lot_of) l14 c14 k14
  have f15 := fun_mk (st := st_sum_of) l15 c15 k15
  have f16 := fun_mk (st := st_sums_of) l16 c16 k16
  have f17 := fun_mk (st := st_closing) l17 c17 k17
  have f18 := fun_mk (st := st_is_ring) l18 c18 k18
  have f19 := fun_mk (st := st_all_rings) l19 c19 k19
  have f20 := fun_mk (st := st_law_tape) l20 c20 k20
  have f21 := fun_mk (st := st_law_pick) l21 c21 k21
  have f22 := fun_mk (st := st_law_any) l22 c22 k22
  have f23 := fun_mk (st := st_law_mixed) l23 c23 k23
  have f24 := fun_mk (st := st_law_inverse) l24 c24 k24
  have f25 := fun_mk (st := st_law_less) l25 c25 k25
  have f26 := fun_mk (st := st_law_rank) l26 c26 k26
  have f27 := fun_mk (st := st_law_sum) l27 c27 k27
  have f28 := fun_mk (st := st_law_pieces) l28 c28 k28
  have f29 := fun_mk (st := st_law_small) l29 c29 k29
  have f30 := fun_mk (st := st_law_in) l30 c30 k30
  have f31 := fun_mk (st := st_law_leans) l31 c31 k31
  have f32 := fun_mk (st := st_law_lots) l32 c32 k32
  have f33 := fun_mk (st := st_law_holds) l33 c33 k33
  have f34 := fun_mk (st := st_law_odd) l34 c34 k34
  have f35 := fun_mk (st := st_law_long) l35 c35 k35
  have f36 := fun_mk (st := st_law_rings) l36 c36 k36
  have f37 := fun_mk (st := st_law) l37 c37 k37
  have b0 := f0.binds (ps := ["thing"]) fun _ _ _ _ _ _ us hl => match us, hl with | [_], _ => rfl
  have b1 := f1.binds (ps := ["least", "most", "thing"]) fun _ _ _ _ _ _ us hl => match us, hl with | [_, _, _], _ => rfl
  have b2 := f2.binds (ps := ["many", "thing"]) fun _ _ _ _ _ _ us hl => match us, hl with | [_, _], _ => rfl
  have b3 := f3.binds (ps := ["thing"]) fun _ _ _ _ _ _ us hl => match us, hl with | [_], _ => rfl
  have b4 := f4.binds (ps := ["prime", "many", "thing"]) fun _ _ _ _ _ _ us hl => match us, hl with | [_, _, _], _ => rfl
  have b5 := f5.binds (ps := ["prime", "width", "thing"]) fun _ _ _ _ _ _ us hl => match us, hl with | [_, _, _], _ => rfl
  have b6 := f6.binds (ps := ["sums"]) fun _ _ _ _ _ _ us hl => match us, hl with | [_], _ => rfl
  have b7 := f7.binds (ps := ["prime", "value"]) fun _ _ _ _ _ _ us hl => match us, hl with | [_, _], _ => rfl
  have b8 := f8.binds (ps := ["prime", "rows", "values"]) fun _ _ _ _ _ _ us hl => match us, hl with | [_, _, _], _ => rfl
  have b9 := f9.binds (ps := ["prime", "width", "values"]) fun _ _ _ _ _ _ us hl => match us, hl with | [_, _, _], _ => rfl
  have b10 := f10.binds (ps := ["sums"]) fun _ _ _ _ _ _ us hl => match us, hl with | [_], _ => rfl
  have b11 := f11.binds (ps := ["prime", "sums"]) fun _ _ _ _ _ _ us hl => match us, hl with | [_, _], _ => rfl
  have b12 := f12.binds (ps := ["prime", "many", "thing"]) fun _ _ _ _ _ _ us hl => match us, hl with | [_, _, _], _ => rfl
  have b13 := f13.binds (ps := ["self", "prime", "many", "pieces"]) fun _ _ _ _ _ _ us hl => match us, hl with | [_, _, _, _], _ => rfl
  have b14 := f14.binds (ps := ["web", "thing"]) fun _ _ _ _ _ _ us hl => match us, hl with | [_, _], _ => rfl
  have b15 := f15.binds (ps := ["web", "piece"]) fun _ _ _ _ _ _ us hl => match us, hl with | [_, _], _ => rfl
  have b16 := f16.binds (ps := ["web", "lot"]) fun _ _ _ _ _ _ us hl => match us, hl with | [_, _], _ => rfl
  have b17 := f17.binds (ps := ["web", "lot"]) fun _ _ _ _ _ _ us hl => match us, hl with | [_, _], _ => rfl
  have b18 := f18.binds (ps := ["web", "thing"]) fun _ _ _ _ _ _ us hl => match us, hl with | [_, _], _ => rfl
  have b19 := f19.binds (ps := ["web"]) fun _ _ _ _ _ _ us hl => match us, hl with | [_], _ => rfl
  have b20 := f20.binds (ps := ["_law_script"]) fun _ _ _ _ _ _ us hl => match us, hl with | [_], _ => rfl
  have b21 := f21.binds (ps := ["_law_tape_here", "_law_many"]) fun _ _ _ _ _ _ us hl => match us, hl with | [_, _], _ => rfl
  have b22 := f22.binds (ps := ["_law_tape_here", "_law_things"]) fun _ _ _ _ _ _ us hl => match us, hl with | [_, _], _ => rfl
  have b23 := f23.binds (ps := ["_law_tape_here", "_law_things"]) fun _ _ _ _ _ _ us hl => match us, hl with | [_, _], _ => rfl
  have b24 := f24.binds (ps := ["_law_prime", "_law_value"]) fun _ _ _ _ _ _ us hl => match us, hl with | [_, _], _ => rfl
  have b25 := f25.binds (ps := ["_law_prime", "_law_row", "_law_times", "_law_lead"]) fun _ _ _ _ _ _ us hl => match us, hl with | [_, _, _, _], _ => rfl
  have b26 := f26.binds (ps := ["_law_prime", "_law_rows"]) fun _ _ _ _ _ _ us hl => match us, hl with | [_, _], _ => rfl
  have b27 := f27.binds (ps := ["_law_tape_here", "_law_prime", "_law_many"]) fun _ _ _ _ _ _ us hl => match us, hl with | [_, _, _], _ => rfl
  have b28 := f28.binds (ps := ["_law_tape_here", "_law_prime", "_law_many", "_law_count", "_law_sizes"]) fun _ _ _ _ _ _ us hl => match us, hl with | [_, _, _, _, _], _ => rfl
  have b29 := f29.binds (ps := ["_law_tape_here", "_law_most"]) fun _ _ _ _ _ _ us hl => match us, hl with | [_, _], _ => rfl
  have b30 := f30.binds (ps := ["_law_told", "_law_lot"]) fun _ _ _ _ _ _ us hl => match us, hl with | [_, _], _ => rfl
  have b31 := f31.binds (ps := ["_law_told", "_law_lot"]) fun _ _ _ _ _ _ us hl => match us, hl with | [_, _], _ => rfl
  have b32 := f32.binds (ps := ["_law_many"]) fun _ _ _ _ _ _ us hl => match us, hl with | [_], _ => rfl
  have b33 := f33.binds (ps := ["_law_lot", "_law_other"]) fun _ _ _ _ _ _ us hl => match us, hl with | [_, _], _ => rfl
  have b34 := f34.binds (ps := ["_law_tape_here"]) fun _ _ _ _ _ _ us hl => match us, hl with | [_], _ => rfl
  have b35 := f35.binds (ps := ["_law_tape_here"]) fun _ _ _ _ _ _ us hl => match us, hl with | [_], _ => rfl
  have b36 := f36.binds (ps := ["_law_told"]) fun _ _ _ _ _ _ us hl => match us, hl with | [_], _ => rfl
  have b37 := f37.binds (ps := ["_law_script"]) fun _ _ _ _ _ _ us hl => match us, hl with | [_], _ => rfl
  exact ⟨⟨q0, _, f0, PySem.W.mg_of X G a0, b0, q1, _, f1, PySem.W.mg_of X G a1, b1, q2, _, f2, PySem.W.mg_of X G a2, b2, q3, _, f3, PySem.W.mg_of X G a3, b3, q4, _, f4, PySem.W.mg_of X G a4, b4, q5, _, f5, PySem.W.mg_of X G a5, b5, q6, _, f6, PySem.W.mg_of X G a6, b6, q7, _, f7, PySem.W.mg_of X G a7, b7, q8, _, f8, PySem.W.mg_of X G a8, b8, q9, _, f9, PySem.W.mg_of X G a9, b9, q10, _, f10, PySem.W.mg_of X G a10, b10, q11, _, f11, PySem.W.mg_of X G a11, b11, q12, _, f12, PySem.W.mg_of X G a12, b12, qC13, PySem.W.mg_of X G aC13, q13, _, f13, ⟨mk13, a13, i13, kc13⟩, ⟨pg13, hd13, po13, sa13⟩, n13_0, n13_1, n13_2, ⟨⟨pg13, hd13, po13, sa13⟩, xa13, xg13, xt13, xm13, out_of xn13⟩, b13, q14, _, f14, PySem.W.mg_of X G a14, b14, q15, _, f15, PySem.W.mg_of X G a15, b15, q16, _, f16, PySem.W.mg_of X G a16, b16, q17, _, f17, PySem.W.mg_of X G a17, b17, q18, _, f18, PySem.W.mg_of X G a18, b18, q19, _, f19, PySem.W.mg_of X G a19, b19, q20, _, f20, PySem.W.mg_of X G a20, b20, q21, _, f21, PySem.W.mg_of X G a21, b21, q22, _, f22, PySem.W.mg_of X G a22, b22, q23, _, f23, PySem.W.mg_of X G a23, b23, q24, _, f24, PySem.W.mg_of X G a24, b24, q25, _, f25, PySem.W.mg_of X G a25, b25, q26, _, f26, PySem.W.mg_of X G a26, b26, q27, _, f27, PySem.W.mg_of X G a27, b27, q28, _, f28, PySem.W.mg_of X G a28, b28, q29, _, f29, PySem.W.mg_of X G a29, b29, q30, _, f30, PySem.W.mg_of X G a30, b30, q31, _, f31, PySem.W.mg_of X G a31, b31, q32, _, f32, PySem.W.mg_of X G a32, b32, q33, _, f33, PySem.W.mg_of X G a33, b33, q34, _, f34, PySem.W.mg_of X G a34, b34, q35, _, f35, PySem.W.mg_of X G a35, b35, q36, _, f36, PySem.W.mg_of X G a36, b36, q37, _, f37, PySem.W.mg_of X G a37, b37, PySem.W.mg_none_of X G u0, PySem.W.mg_none_of X G u1, PySem.W.mg_none_of X G u2, PySem.W.mg_none_of X G u3, tk4, PySem.W.mg_of X G u4, tk5, PySem.W.mg_of X G u5, tk6, PySem.W.mg_of X G u6, tk7, PySem.W.mg_of X G u7, tk8, PySem.W.mg_of X G u8, PySem.W.mg_none_of X G u9, PySem.W.mg_of X G u10, PySem.W.mg_none_of X G u11, PySem.W.mg_none_of X G u12, PySem.W.mg_none_of X G u13, PySem.W.mg_none_of X G u14, PySem.W.mg_none_of X G u15, PySem.W.mg_none_of X G u16, PySem.W.mg_none_of X G u17, PySem.W.mg_none_of X G u18⟩, [(cc32, PP32, ("_law_lots" ++ ".<locals>.") ++ "<lambda>")], .cons .nil (hT _ yt32) yn32 yh32 yd32, ⟨cc32, PP32, rfl, .head _⟩, _, _, _, _, _, _, rfl⟩
theorem walk {l : PySem.W.OpenLaw} {q : Program} {loose : List Str} {XP : (Str → Option Value) → Heap → Prop} {YP : World → Heap → Prop} {d : DefRec} {K : Params → PySem.W.Frag} {ts : List Addr} (hn : l.most = some 63) (hdf : d.params.defaults = []) (hd : d.name = "law")
    (hY : ∀ (w : World) (h : Heap), YP w h → (K w.params).In h) (hTs : ∀ (w : World) (h : Heap), YP w h → ∀ P ∈ ts, h.get? P = some { cls := .none, data := .fields #[] })
    (Fc : ∀ (w : World) (mg : Str → Option Value) (h : Heap), (K w.params).In h → h.Ns mainGlobals mg → (∀ P ∈ ts, h.get? P = some { cls := .none, data := .fields #[] }) → ∃ T : Facts (K w.params) mg, ∃ L : TabL, TabsIn (K w.params) h L ∧ LamIn L T.d_law_lots.code ("_law_lots" ++ ".<locals>.") ∧ ∃ kV dc pm an cd ct, T.d_law = PySem.W.fnOf "law" "law" (defArgs st_law) (defBody st_law) (defScope st_law) .none kV dc pm an cd ct) :
    PySem.W.WalkO q loose XP YP l.row.toRowW d [] (fun f vs => PySem.call f vs) :=
  LamX.walk_ofTs (n := 63) (k := 8) (x := "_law_script") (CX := fun _ => CX0) hn (by decide) hdf ⟨rfl, by decide, by decide⟩ hY
    (fun w mg fa h Y KX G hmg => by
      obtain ⟨T, L, I, y_law_lots, kV, dc, pm, an, cd, ct, e⟩ := Fc w mg h KX G (hTs w h Y)
      rw [hd, T.m_law] at hmg
      cases hmg
      refine ⟨T.d_law, codesOf L, spLaw (K w.params) L 63, fun p hp => ?_, fun p hp => ?_, fun p hp => ?_, fun s u => ?_, fun H a ns hl _ ht hS => ⟨a, ns, rfl, hS, hl, ht, I.n, fun _ => rfl⟩, fun base _ _ B => (ok_law T ⟨fun n => if n = 0 then (T.q_Web, fs_Web) else (0, []), tabsOf L, fun _ => none⟩ rfl (lamAt_of I rfl B y_law_lots)).imp fun vs H Q E h => law_sp law_true rfl rfl h⟩
      · obtain ⟨t, ht, rfl⟩ := List.mem_map.mp hp
        exact I.g t ht
      · obtain ⟨t, ht, rfl⟩ := List.mem_map.mp hp
        exact I.n t ht
      · obtain ⟨t, ht, rfl⟩ := List.mem_map.mp hp
        exact PySem.W.codeHd_of_K KX (I.c t ht)
      · rw [e]
        exact .of_eq rfl)
    fun _ _ _ _ _ z => z
end Ev
open PySem PySem.W PyProof.Rows
set_option maxRecDepth 100000 in
set_option maxHeartbeats 0 in
theorem PySem.Challenge.cw_lightfirst_k10_whole_rings_of_small_webs_holds : PySem.Challenge.rw_lightfirst_k10_whole_rings_of_small_webs.Holds := by
  w_on; o_law; k_head; (case hw => w_witness2)
  k_fill
  refine Ev.walk (l := PySem.Challenge.rw_lightfirst_k10_whole_rings_of_small_webs) rfl rfl rfl (fun w h Y => PySem.W.km_in_of Y) (fun w h Y => PySem.W.km_tabs_of Y) ?F
  case F =>
    intro w mg h KX G hT
    refine' Ev.all_mk KX G hT ?a0 ?l0 ?c0 ?k0 ?a1 ?l1 ?c1 ?k1 ?a2 ?l2 ?c2 ?k2 ?a3 ?l3 ?c3 ?k3 ?a4 ?l4 ?c4 ?k4 ?a5 ?l5 ?c5 ?k5 ?a6 ?l6 ?c6 ?k6 ?a7 ?l7 ?c7 ?k7 ?a8 ?l8 ?c8 ?k8 ?a9 ?l9 ?c9 ?k9 ?a10 ?l10 ?c10 ?k10 ?a11 ?l11 ?c11 ?k11 ?a12 ?l12 ?c12 ?k12 ?xa13 ?xm13 ?xn13 ?xg13 ?xt13 ?aC13 ?a13 ?i13 ?l13 ?c13 ?k13 ?pg13 ?hd13 ?po13 ?sa13 ?mk13 ?kc13 ?n13_0 ?n13_1 ?n13_2 ?a14 ?l14 ?c14 ?k14 ?a15 ?l15 ?c15 ?k15 ?a16 ?l16 ?c16 ?k16 ?a17 ?l17 ?c17 ?k17 ?a18 ?l18 ?c18 ?k18 ?a19 ?l19 ?c19 ?k19 ?a20 ?l20 ?c20 ?k20 ?a21 ?l21 ?c21 ?k21 ?a22 ?l22 ?c22 ?k22 ?a23 ?l23 ?c23 ?k23 ?a24 ?l24 ?c24 ?k24 ?a25 ?l25 ?c25 ?k25 ?a26 ?l26 ?c26 ?k26 ?a27 ?l27 ?c27 ?k27 ?a28 ?l28 ?c28 ?k28 ?a29 ?l29 ?c29 ?k29 ?a30 ?l30 ?c30 ?k30 ?a31 ?l31 ?c31 ?k31 ?a32 ?l32 ?c32 ?k32 ?yv32 ?yp32 ?yh32 ?yn32 ?yt32 ?a33 ?l33 ?c33 ?k33 ?a34 ?l34 ?c34 ?k34 ?a35 ?l35 ?c35 ?k35 ?a36 ?l36 ?c36 ?k36 ?a37 ?l37 ?c37 ?k37 ?u0 ?u1 ?u2 ?u3 ?u4 ?u5 ?u6 ?u7 ?u8 ?u9 ?u10 ?u11 ?u12 ?u13 ?u14 ?u15 ?u16 ?u17 ?u18 ?yd32
    (case a0 => k_is)
    (case l0 => k_is)
    (case c0 => k_is)
    (case k0 => k_is)
    (case a1 => k_is)
    (case l1 => k_is)
    (case c1 => k_is)
    (case k1 => k_is)
    (case a2 => k_is)
    (case l2 => k_is)
    (case c2 => k_is)
    (case k2 => k_is)
    (case a3 => k_is)
    (case l3 => k_is)
    (case c3 => k_is)
    (case k3 => k_is)
    (case a4 => k_is)
    (case l4 => k_is)
    (case c4 => k_is)
    (case k4 => k_is)
    (case a5 => k_is)
    (case l5 => k_is)
    (case c5 => k_is)
    (case k5 => k_is)
    (case a6 => k_is)
    (case l6 => k_is)
    (case c6 => k_is)
    (case k6 => k_is)
    (case a7 => k_is)
    (case l7 => k_is)
    (case c7 => k_is)
    (case k7 => k_is)
    (case a8 => k_is)
    (case l8 => k_is)
    (case c8 => k_is)
    (case k8 => k_is)
    (case a9 => k_is)
    (case l9 => k_is)
    (case c9 => k_is)
    (case k9 => k_is)
    (case a10 => k_is)
    (case l10 => k_is)
    (case c10 => k_is)
    (case k10 => k_is)
    (case a11 => k_is)
    (case l11 => k_is)
    (case c11 => k_is)
    (case k11 => k_is)
    (case a12 => k_is)
    (case l12 => k_is)
    (case c12 => k_is)
    (case k12 => k_is)
    (case xa13 => k_is)
    (case xm13 => k_is)
    (case xn13 => k_is)
    (case xg13 => k_is)
    (case xt13 => k_is)
    (case aC13 => k_is)
    (case a13 => k_is)
    (case i13 => k_is)
    (case l13 => k_is)
    (case c13 => k_is)
    (case k13 => k_is)
    (case pg13 => k_is)
    (case hd13 => k_is)
    (case po13 => k_is)
    (case sa13 => k_is)
    (case mk13 => k_is)
    (case kc13 => k_is)
    (case n13_0 => k_is)
    (case n13_1 => k_is)
    (case n13_2 => k_is)
    (case a14 => k_is)
    (case l14 => k_is)
    (case c14 => k_is)
    (case k14 => k_is)
    (case a15 => k_is)
    (case l15 => k_is)
    (case c15 => k_is)
    (case k15 => k_is)
    (case a16 => k_is)
    (case l16 => k_is)
    (case c16 => k_is)
    (case k16 => k_is)
    (case a17 => k_is)
    (case l17 => k_is)
    (case c17 => k_is)
    (case k17 => k_is)
    (case a18 => k_is)
    (case l18 => k_is)
    (case c18 => k_is)
    (case k18 => k_is)
    (case a19 => k_is)
    (case l19 => k_is)
    (case c19 => k_is)
    (case k19 => k_is)
    (case a20 => k_is)
    (case l20 => k_is)
    (case c20 => k_is)
    (case k20 => k_is)
    (case a21 => k_is)
    (case l21 => k_is)
    (case c21 => k_is)
    (case k21 => k_is)
    (case a22 => k_is)
    (case l22 => k_is)
    (case c22 => k_is)
    (case k22 => k_is)
    (case a23 => k_is)
    (case l23 => k_is)
    (case c23 => k_is)
    (case k23 => k_is)
    (case a24 => k_is)
    (case l24 => k_is)
    (case c24 => k_is)
    (case k24 => k_is)
    (case a25 => k_is)
    (case l25 => k_is)
    (case c25 => k_is)
    (case k25 => k_is)
    (case a26 => k_is)
    (case l26 => k_is)
    (case c26 => k_is)
    (case k26 => k_is)
    (case a27 => k_is)
    (case l27 => k_is)
    (case c27 => k_is)
    (case k27 => k_is)
    (case a28 => k_is)
    (case l28 => k_is)
    (case c28 => k_is)
    (case k28 => k_is)
    (case a29 => k_is)
    (case l29 => k_is)
    (case c29 => k_is)
    (case k29 => k_is)
    (case a30 => k_is)
    (case l30 => k_is)
    (case c30 => k_is)
    (case k30 => k_is)
    (case a31 => k_is)
    (case l31 => k_is)
    (case c31 => k_is)
    (case k31 => k_is)
    (case a32 => k_is)
    (case l32 => k_is)
    (case c32 => k_is)
    (case k32 => k_is)
    (case yv32 => k_is)
    (case yp32 => rfl)
    (case yh32 => kernel_rfl)
    (case yn32 => kernel_rfl)
    (case yt32 => k_mem)
    (case a33 => k_is)
    (case l33 => k_is)
    (case c33 => k_is)
    (case k33 => k_is)
    (case a34 => k_is)
    (case l34 => k_is)
    (case c34 => k_is)
    (case k34 => k_is)
    (case a35 => k_is)
    (case l35 => k_is)
    (case c35 => k_is)
    (case k35 => k_is)
    (case a36 => k_is)
    (case l36 => k_is)
    (case c36 => k_is)
    (case k36 => k_is)
    (case a37 => k_is)
    (case l37 => k_is)
    (case c37 => k_is)
    (case k37 => k_is)
    (case u0 => k_is)
    (case u1 => k_is)
    (case u2 => k_is)
    (case u3 => k_is)
    (case u4 => k_is)
    (case u5 => k_is)
    (case u6 => k_is)
    (case u7 => k_is)
    (case u8 => k_is)
    (case u9 => k_is)
    (case u10 => k_is)
    (case u11 => k_is)
    (case u12 => k_is)
    (case u13 => k_is)
    (case u14 => k_is)
    (case u15 => k_is)
    (case u16 => k_is)
    (case u17 => k_is)
    (case u18 => k_is)
    (case yd32 => decide)
