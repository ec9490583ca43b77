/- Tokens as terms: the mathematics of the project's reader. -/
import Derived.Test.YtedbcmagjbgbjaaGreatDoorTkM
import Derived.Test.YtedbcmagjbgbjaaGreatDoorTm
import Derived.Test.YtedbcmagjbgbjaaGreatDoorOpA
namespace Go.Proofs.YtedbcmagjbgbjaaGreatDoor.rd
open Go.Proofs.YtedbcmagjbgbjaaGreatDoor.tk
set_option linter.unusedVariables false
abbrev Tm := tm.Tm
abbrev Names := List (List UInt8)
def nm (s : List UInt8) : ByteArray := ⟨s.toArray⟩
/-- the token k places on, of those that are left; beyond the last one it is of no kind, at the text's end -/
def see (N : Nat) (ts : List Tk) (k : Nat) : Tk := (ts[k]?).getD ⟨0, [], 0, 0, 0, N⟩
def isP (t : Tk) (c : UInt8) : Bool := decide (t.k = 6) && decide (t.t = [c])
structure OT where
  pre : List UInt8 → Bool
  dp : List UInt8 → opa.D
  inf : List UInt8 → Bool
  di : List UInt8 → opa.D
/-- may an atom ahead of it stand by itself, whatever operator it is? -/
def shuts (t : Tk) : Bool := if t.k = 6 then !(decide (t.t = [40]) || decide (t.t = [91])) else decide (t.k = 8) || decide (t.k = 0)
/-- is the token behind the next one an operator between alone? (x: does it count where a KOpen follows?) -/
def alone (x : Bool) (O : OT) (N : Nat) (ts : List Tk) : Bool :=
  decide ((see N ts 1).k = 1) && ((x || !decide ((see N ts 2).k = 7)) && (O.inf (see N ts 1).t && !O.pre (see N ts 1).t))
def bnd (o : opa.D) (k : Int) : Int := if o.k = k then o.p else o.p - 1
/-- as what the next token begins a term: 0 none, 1 whole, 2 minus, 3 name, 4 in front, 5 group, 6 list; its priority -/
def atomB (x : Bool) (O : OT) (N : Nat) (most : Int) (ts : List Tk) : Int × Int :=
  let t := see N ts 0
  let b := see N ts 1
  if b.k = 7 then (3, 0)
  else if t.k = 2 then (1, 0)
  else if t.t = [45] ∧ b.k = 4 ∧ b.a = t.a + 1 then (2, 0)
  else if shuts b = true then (1, 0)
  else if O.pre t.t = true ∧ (O.dp t.t).p ≤ most ∧ alone x O N ts = false then (4, (O.dp t.t).p)
  else (1, max (O.dp t.t).p (O.di t.t).p)
def begs (x : Bool) (O : OT) (N : Nat) (most : Int) (ts : List Tk) : Int × Int :=
  let t := see N ts 0
  if t.k = 1 ∨ t.k = 2 then atomB x O N most ts
  else if t.k = 3 ∨ t.k = 5 then (1, 0)
  else if t.k = 4 then (if 0 ≤ t.n then (1, 0) else (0, 0))
  else if t.k = 7 then (5, 0)
  else if t.k = 6 then (if t.t = [40] then (5, 0) else if t.t = [91] then (6, 0) else (0, 0))
  else (0, 0)
inductive PR (α : Type) where
  | er (e : Int) (rest : List Tk) (ns : Names)
  | ok (v : α) (rest : List Tk) (ns : Names)
def PR.bind {α β : Type} (x : PR α) (f : α → List Tk → Names → PR β) : PR β := match x with
  | .er e r n => .er e r n
  | .ok v r n => f v r n
/-- a closing sign, and what comes of what stands ahead of it -/
def shut {α β : Type} (N : Nat) (c : UInt8) (f : α → β) (x : PR α) : PR β := x.bind fun v r n => if isP (see N r 0) c = true then .ok (f v) r.tail n else .er 2 r n
def number (s : List UInt8) (ns : Names) : Nat × Names := if s ≠ [95] ∧ s ∈ ns then (ns.idxOf s, ns) else (ns.length, ns ++ [s])
def below (n : Int) : Int := if 0 < n then -n else n
def whole (t : Tk) (ns : Names) : Tm × Names :=
  if t.k = 3 then (tm.var (number t.t ns).1, (number t.t ns).2)
  else if t.k = 4 then (.mk 3 tm.E t.n 0 0 [], ns)
  else if t.k = 5 then (.mk 4 tm.E 0 t.re t.im [], ns)
  else (tm.atom (nm t.t), ns)
def infx (O : OT) (t : Tk) : Bool := (decide (t.k = 1) || isP t 44) && O.inf t.t
abbrev Rec := Int → Nat → List Tk → Names → PR Tm
/-- terms with commas between -/
def row (N : Nat) (rec : Rec) (level : Nat) : Nat → List Tm → List Tk → Names → PR (List Tm)
  | 0, _, ts, ns => .er 0 ts ns
  | f + 1, acc, ts, ns => (rec 999 level ts ns).bind fun t r n => if isP (see N r 0) 44 = true then row N rec level f (acc ++ [t]) r.tail n else .ok (acc ++ [t]) r n
def pair (a b : Tm) : Tm := tm.comp (nm [46]) [a, b]
def listOf (l : List Tm) (e : Tm) : Tm := l.foldr pair e
def listE : Tm := tm.atom (nm [91, 93])
def list (N : Nat) (rec : Rec) (level : Nat) (ts : List Tk) (ns : Names) : PR Tm :=
  if isP (see N ts 0) 93 = true then .ok listE ts.tail ns
  else (row N rec level (ts.length + 1) [] ts ns).bind fun l r n =>
    if isP (see N r 0) 124 = true then shut N 93 (listOf l) (rec 999 level r.tail n) else shut N 93 (fun _ => listOf l listE) (.ok () r n)
def first (O : OT) (N : Nat) (rec : Rec) (a : Int) (level : Nat) (ts : List Tk) (ns : Names) : PR Tm :=
  let t := see N ts 0
  if a = 2 then .ok (.mk 3 tm.E (below (see N ts 1).n) 0 0 []) ts.tail.tail ns
  else if a = 3 then shut N 41 (tm.comp (nm t.t)) (row N rec (level + 1) (ts.length + 1) [] ts.tail.tail ns)
  else if a = 4 then (rec (bnd (O.dp t.t) 4) (level + 1) ts.tail ns).bind fun v r n => .ok (tm.comp (nm t.t) [v]) r n
  else if a = 5 then shut N 41 id (rec 1200 (level + 1) ts.tail ns)
  else if a = 6 then list N rec (level + 1) ts.tail ns
  else .ok (whole t ns).1 ts.tail (whole t ns).2
/-- operators between, behind a term of that priority -/
def goOn (O : OT) (N : Nat) (rec : Rec) (most : Int) (level : Nat) : Nat → Tm → Int → List Tk → Names → PR Tm
  | 0, _, _, ts, ns => .er 0 ts ns
  | f + 1, left, pr, ts, ns =>
    let t := see N ts 0
    if infx O t = true ∧ (O.di t.t).p ≤ most ∧ pr ≤ bnd (O.di t.t) 3 then
      (rec (bnd (O.di t.t) 2) (level + 1) ts.tail ns).bind fun v r n => goOn O N rec most level f (tm.comp (nm (O.di t.t).n) [left, v]) (O.di t.t).p r n
    else .ok left ts ns
def step (x : Bool) (O : OT) (N : Nat) (rec : Rec) : Rec := fun most level ts ns =>
  let b := begs x O N most ts
  if b.1 = 0 ∨ most < b.2 then .er 2 ts ns
  else if 2000 < level then .er 3 ts ns
  else (first O N rec b.1 level ts ns).bind fun v r n => goOn O N rec most level (ts.length + 1) v b.2 r n
/-- a term of at most that priority, with so much fuel (more than there are tokens is enough) -/
def term (x : Bool) (O : OT) (N : Nat) : Nat → Rec
  | 0 => fun _ _ ts ns => .er 0 ts ns
  | f + 1 => step x O N (term x O N f)
/-- a clause: its term, its names, what is left; or an error's place -/
inductive CR where
  | er (e : Int) (a : Nat)
  | ok (t : Tm) (ns : Names) (a : Nat) (rest : List Tk)
def clause (x : Bool) (O : OT) (N : Nat) (ts : List Tk) : CR :=
  match term x O N (ts.length + 1) 1200 0 ts [] with
  | .er e r _ => .er e (see N r 0).a
  | .ok t r n => if (see N r 0).k = 8 then (if tm.may t = 0 then .ok t n (see N ts 0).a r.tail else .er (tm.may t) (see N ts 0).a) else .er 2 (see N r 0).a
/-- read.Term of a text of N bytes with these tokens -/
def termOf (x : Bool) (O : OT) (N : Nat) (ts : List Tk) : CR :=
  match clause x O N ts with
  | .er e a => .er e a
  | .ok t n a r => if r = [] then .ok t n a [] else .er 2 ((see N (ts.drop (ts.length - r.length - 1)) 0).a + 1)
def allOf (x : Bool) (O : OT) (N : Nat) : Nat → List (Tm × Names × Nat) → List Tk → List (Tm × Names × Nat) × Nat × Int
  | 0, _, _ => ([], 0, 0)
  | f + 1, acc, ts => if ts = [] then (acc, 0, 0) else match clause x O N ts with
    | .er e a => ([], a, e)
    | .ok t n a r => allOf x O N f (acc ++ [(t, n, a)]) r
end Go.Proofs.YtedbcmagjbgbjaaGreatDoor.rd
