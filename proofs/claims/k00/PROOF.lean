import PyProof.Rows.All
import Wide.All
import OpenK.AllK
import Wide.FinOn
import HandS.ForMost
import HandS.ForExc
import HandS.ForDict
import HandS.SortInts
import HandS.Gcd
import HandS.SortKw
import HandS.Strs
import HandS.TupAny
import HandS.TupMul
import HandS.Wide
import HandS.WideBits
import HandS.Deep
import HandS.Conv
import HandS.Flow
import HandS.IsInst
import HandS.Style
import HandS.SetFor
import HandS.Defaults
import HandS.Ends
import HandS.HeadEnd
import HandS.HeadHook1
import HandS.HeadHook2
import HandS.HeadHook4
import KE.BitLaws
import KE.IntBitsLaws
import HandS.Text
import KE.KEqSeq
import KE.KStateDown
import Lean
import HandS.Words
import HandS.WordsExc
import HandS.Head0
import HandS.Head1
import HandS.Head2
import PySem.Challenge.RW_ringtables_k00_whole_sums_of_lots
section
set_option Elab.async false
set_option linter.all false
/-! the values, the store, the text of a def, what it evaluates to -/
namespace Z
open PySem L2

/-- a value: ref i is the i-th thing of the store -/
inductive D where
  | non | bl (b : Bool) | int (i : Int) | str (s : Str) | tup (ds : List D) | ref (i : Nat)
deriving Inhabited

/-- a thing of the store: a list, a list that is only read, a dict -/
inductive SO where
  | lst (xs : List D) | fro (xs : List D) | dct (kvs : List (Key × D)) | fdc (kvs : List (Key × D))
deriving Inhabited
abbrev Sto := List SO
abbrev Ev := List (Option D)

mutual
/-- all references are below n -/
def D.cl (n : Nat) : D → Bool
  | .tup ds => clL n ds
  | .ref i => decide (i < n)
  | _ => true
def clL (n : Nat) : List D → Bool
  | [] => true
  | d :: ds => d.cl n && clL n ds
end
def SO.cl (n : Nat) : SO → Bool
  | .lst xs => clL n xs
  | .fro xs => clL n xs
  | .dct kvs => clL n (kvs.map (·.2))
  | .fdc kvs => clL n (kvs.map (·.2))

/-- what is left of what an expression made: nothing, or the one thing that it hands back -/
def gc (n : Nat) : Option (D × Sto) → Option (D × Sto)
  | none => none
  | some (v, S) => if v.cl n then some (v, S.take n) else match v with
    | .ref k => (match S[k]? with
      | some o => if o.cl n then some (.ref n, S.take n ++ [o]) else some (v, S)
      | none => some (v, S))
    | _ => some (v, S)

/-! ### the text -/
inductive Bl where
  | len | abs | int | bool | max2 | min2 | sum | all | any | tuple | list | sorted
deriving DecidableEq
inductive Ik where
  | int | bool | tuple | list | str
deriving DecidableEq
inductive Mt where
  | append | pop | popAt | bits
deriving DecidableEq
inductive Tg where
  | nm (i : Nat) | tp (is : List Nat)
deriving DecidableEq

mutual
inductive Ex where
  | var (i : Nat)
  | non | bl (b : Bool) | int (i : Int) | str (s : Str)
  | con (i : Int)
  | bin (op : Operator) (a b : Ex) | un (op : UnaryOp) (a : Ex)
  | cmp (op : CmpOp) (a b : Ex) | chn (o1 o2 : CmpOp) (a b c : Ex)
  | and (a b : Ex) | or (a b : Ex) | not (a : Ex) | ite (c a b : Ex)
  | tup (es : Es) | lst (es : Es)
  | ix (a b : Ex) | sl (a : Ex) (lo hi : Ox) | rev (a : Ex)
  | call (f : Str) (es : Es)
  | blt (b : Bl) (es : Es)
  | met (m : Mt) (o : Ex) (es : Es)
  | isi (a : Ex) (k : Ik)
  | rg1 (t : Bool) (a : Ex) | rg2 (t : Bool) (a b : Ex) | srs (a : Ex)
  | dic | dix (a b : Ex) | dgt (o k v : Ex)
  | lck (own : List Nat) (i o : Nat) (c : Ox) (e : Ex)
  | lc (own : List Nat) (g : Tg) (it : It) (c : Ox) (e : Ex)
inductive Es where
  | nil | cons (e : Ex) (es : Es)
inductive Ox where
  | no | yes (e : Ex)
inductive It where
  | ex (e : Ex) | rng1 (a : Ex) | rng2 (a b : Ex)
end
mutual
inductive Sm where
  | set (i : Nat) (e : Ex)
  | par (i j : Nat) (a b : Ex)
  | unp (is : List Nat) (e : Ex)
  | six (o i e : Ex) | dst (o i e : Ex)
  | aug (i : Nat) (op : Operator) (e : Ex)
  | expr (e : Ex)
  | ifs (c : Ex) (a b : Ss)
  | for (g : Tg) (it : It) (b : Ss)
  | while (c : Ex) (b : Ss)
  | ret (e : Ex) | retN | brk | cnt | pass | fail
inductive Ss where
  | nil | cons (s : Sm) (ss : Ss)
end
/-- a def: how many parameters, how many names, its body -/
structure Df where
  np : Nat
  nn : Nat
  body : Ss
abbrev Txt := List (Str × Df)

/-! ### operations -/
abbrev lim : Nat := 100000
mutual
/-- the data of a value, f reading what it refers to -/
def pyD (f : Nat → Option PyData) : D → Option PyData
  | .non => some .none
  | .bl b => some (.bool b)
  | .int i => some (.int i)
  | .str s => some (.str s)
  | .tup ds => (pyL f ds).map .tuple
  | .ref i => f i
def pyL (f : Nat → Option PyData) : List D → Option (List PyData)
  | [] => some []
  | d :: ds => match pyD f d, pyL f ds with
    | some x, some xs => some (x :: xs)
    | _, _ => none
end
def SO.seq? : SO → Option (List D)
  | .lst xs => some xs
  | .fro xs => some xs
  | _ => none
/-- the items of a list or a tuple -/
def itemsOf (S : Sto) : D → Option (List D)
  | .tup ds => some ds
  | .ref i => (S[i]?).bind SO.seq?
  | _ => none
def rdS (S : Sto) : Nat → Nat → Option PyData
  | 0, _ => none
  | n + 1, i => ((S[i]?).bind SO.seq?).bind fun xs => (pyL (rdS S n) xs).map .list
def py (S : Sto) (d : D) : Option PyData := pyD (rdS S 8) d
/-- == of data -/
def eqD (S : Sto) (x y : D) : Option Bool := match py S x, py S y with
  | some a, some b => if SeqAt.shaped a && SeqAt.shaped b then some (PyData.eqv a b) else none
  | _, _ => none
def flatD : D → Bool
  | .non => true
  | .bl _ => true
  | .int _ => true
  | .str _ => true
  | _ => false
def eqF : D → D → Bool
  | .non, .non => true
  | .bl a, .bl b => a == b
  | .bl a, .int b => (if a then 1 else 0) == b
  | .int a, .bl b => a == (if b then 1 else 0)
  | .int a, .int b => a == b
  | .str a, .str b => a == b
  | _, _ => false
/-- x in a list or tuple: of flat things, else of data -/
def inD (S : Sto) (x y : D) : Option Bool := (itemsOf S y).bind fun xs =>
  if flatD x && xs.all flatD then some (xs.any fun z => eqF z x) else match y with
  | .ref _ => (match py S x, py S y with
    | some a, some (.list bs) => if SeqAt.shaped a && SeqAt.shaped (.list bs) then some (bs.any fun z => PyData.eqv z a) else none
    | _, _ => none)
  | _ => none
def new (S : Sto) (o : SO) : Option (D × Sto) := some (.ref S.length, S ++ [o])
def binF (op : Operator) (x y : D) (S : Sto) : Option (D × Sto) := match x, y with
  | .int i, .int j => (match op with
    | .Add => some (.int (i + j), S)
    | .Sub => some (.int (i - j), S)
    | .Mult => if i.natAbs.log2 + j.natAbs.log2 < 1000000 then some (.int (i * j), S) else none
    | .FloorDiv => if 0 < j ∧ j.natAbs.log2 < 9000 then some (.int (i / j), S) else none
    | .Mod => if 0 < j then some (.int (i % j), S) else none
    | .Pow => if 0 ≤ j ∧ j ≤ 1000000 ∧ i.natAbs < 2 ^ 64 then some (.int (i ^ j.toNat), S) else none
    | .LShift => if 0 ≤ j ∧ j ≤ 1000000 ∧ i.natAbs < 2 ^ 64 then some (.int (i * 2 ^ j.toNat), S) else none
    | .RShift => if 0 ≤ j then some (.int (i / 2 ^ j.toNat), S) else none
    | .BitAnd => some (.int (Builtin.bitAnd i j), S)
    | .BitOr => some (.int (Builtin.bitOr i j), S)
    | .BitXor => some (.int (Builtin.bitXor i j), S)
    | _ => none)
  | .tup a, .tup b => (match op with
    | .Add => if a.length + b.length ≤ lim then some (.tup (a ++ b), S) else none
    | _ => none)
  | .tup a, .int k => (match op with
    | .Mult => if a ≠ [] ∧ 2 ≤ k ∧ k ≤ 1000 ∧ a.length ≤ 1000 ∧ a.length * k.toNat ≤ lim then some (.tup (List.replicate k.toNat a).flatten, S) else none
    | _ => none)
  | .ref i, .ref j => (match op, S[i]?, S[j]? with
    | .Add, some (.lst a), some (.lst b) => if a.length + b.length ≤ lim then new S (.lst (a ++ b)) else none
    | _, _, _ => none)
  | _, _ => none
def unF (op : UnaryOp) (x : D) : Option D := match x with
  | .int i => (match op with
    | .USub => some (.int (-i))
    | .Invert => some (.int (Builtin.bitNot i))
    | _ => none)
  | _ => none
def isNon : D → Bool
  | .non => true
  | _ => false
def cmpF (op : CmpOp) (x y : D) (S : Sto) : Option Bool := match op with
  | .Eq => eqD S x y
  | .NotEq => (eqD S x y).map (!·)
  | .In => inD S x y
  | .NotIn => (inD S x y).map (!·)
  | .Is => (match y with
    | .non => some (isNon x)
    | _ => none)
  | .IsNot => (match y with
    | .non => some (!isNon x)
    | _ => none)
  | .Lt => (match x, y with
    | .int i, .int j => some (decide (i < j))
    | _, _ => none)
  | .LtE => (match x, y with
    | .int i, .int j => some (decide (i ≤ j))
    | _, _ => none)
  | .Gt => (match x, y with
    | .int i, .int j => some (decide (j < i))
    | _, _ => none)
  | .GtE => (match x, y with
    | .int i, .int j => some (decide (j ≤ i))
    | _, _ => none)
/-- truth -/
def truF (S : Sto) : D → Option Bool
  | .non => some false
  | .bl b => some b
  | .int i => some (i != 0)
  | .str s => if s.length ≤ lim then some (s.length != 0) else none
  | .tup ds => some (!ds.isEmpty)
  | .ref i => (S[i]?).bind fun o => o.seq?.map fun xs => !xs.isEmpty
def intsOf : List D → Option (List Int)
  | [] => some []
  | .int i :: r => (intsOf r).map (i :: ·)
  | _ :: _ => none
def boolsOf : List D → Option (List Bool)
  | [] => some []
  | .bl b :: r => (boolsOf r).map (b :: ·)
  | _ :: _ => none
def insI (x : Int) : List Int → List Int
  | [] => [x]
  | y :: r => if x ≤ y then x :: y :: r else y :: insI x r
def sortI : List Int → List Int
  | [] => []
  | x :: r => insI x (sortI r)
def lstOf (S : Sto) (d : D) : Option (List D) := match d with
  | .ref i => (S[i]?).bind SO.seq?
  | _ => none
def bltF (b : Bl) (vs : List D) (S : Sto) : Option (D × Sto) := match b, vs with
  | .len, [x] => (itemsOf S x).map fun xs => (.int xs.length, S)
  | .abs, [.int i] => some (.int (if i < 0 then -i else i), S)
  | .int, [.int i] => some (.int i, S)
  | .int, [.bl k] => some (.int (if k then 1 else 0), S)
  | .bool, [.int i] => some (.bl (i != 0), S)
  | .bool, [.bl k] => some (.bl k, S)
  | .max2, [.int i, .int j] => some (.int (if j > i then j else i), S)
  | .min2, [.int i, .int j] => some (.int (if j < i then j else i), S)
  | .sum, [x] => ((lstOf S x).bind intsOf).map fun ns => (.int ns.sum, S)
  | .all, [x] => ((lstOf S x).bind boolsOf).map fun bs => (.bl (bs.all id), S)
  | .any, [x] => ((lstOf S x).bind boolsOf).map fun bs => (.bl (bs.any id), S)
  | .tuple, [x] => (itemsOf S x).map fun xs => (.tup xs, S)
  | .list, [x] => (itemsOf S x).bind fun xs => new S (.lst xs)
  | .sorted, [x] => ((lstOf S x).bind intsOf).bind fun ns => new S (.lst ((sortI ns).map .int))
  | _, _ => none
def isiF (S : Sto) (x : D) (k : Ik) : Option Bool := match x with
  | .non => some false
  | .bl _ => some (k == .bool || k == .int)
  | .int _ => some (k == .int)
  | .str _ => some (k == .str)
  | .tup _ => some (k == .tuple)
  | .ref i => (match S[i]? with
    | some (.lst _) => some (k == .list)
    | some (.fro _) => some (k == .list)
    | some (.dct _) => some false
    | some (.fdc _) => some false
    | none => none)
def keyD : D → Option Key
  | .int i => some (.inl i)
  | .str s => some (.inr s)
  | _ => none
def kD : Key → D
  | .inl i => .int i
  | .inr s => .str s
def dLook (kvs : List (Key × D)) (k : Key) : Option D := (kvs.find? fun p => decide (p.1 = k)).map (·.2)
def dPut (kvs : List (Key × D)) (k : Key) (v : D) : List (Key × D) :=
  if (kvs.any fun kv => decide (kv.1 = k)) = true then kvs.map (fun kv => if kv.1 = k then (kv.1, v) else kv) else kvs ++ [(k, v)]
def ixF (x y : D) (S : Sto) : Option D := match y with
  | .int i => (itemsOf S x).bind fun xs => atI xs i
  | _ => none
def SO.dic? : SO → Option (List (Key × D))
  | .dct kvs => some kvs
  | .fdc kvs => some kvs
  | _ => none
def dicOf (S : Sto) (d : D) : Option (List (Key × D)) := match d with
  | .ref i => (S[i]?).bind SO.dic?
  | _ => none
def dixF (x y : D) (S : Sto) : Option D := (dicOf S x).bind fun kvs => (keyD y).bind fun k => dLook kvs k
def dgtF (x y z : D) (S : Sto) : Option D := (dicOf S x).bind fun kvs => (keyD y).map fun k => (dLook kvs k).getD z
def cutL {α : Type} (xs : List α) (lo hi : Option Int) : List α := (xs.drop (HT.sIx xs.length 0 lo)).take (HT.sIx xs.length xs.length hi - HT.sIx xs.length 0 lo)
def optI : Option D → Option (Option Int)
  | none => some none
  | some (.int i) => if -(2 ^ 62) ≤ i ∧ i ≤ 2 ^ 62 then some (some i) else none
  | _ => none
def slF (x : D) (lo hi : Option D) (S : Sto) : Option (D × Sto) := match optI lo, optI hi, x with
  | some l, some h, .tup ds => some (.tup (cutL ds l h), S)
  | some l, some h, .ref i => ((S[i]?).bind SO.seq?).bind fun xs => new S (.lst (cutL xs l h))
  | _, _, _ => none
def revF (x : D) (S : Sto) : Option (D × Sto) := match x with
  | .tup ds => some (.tup ds.reverse, S)
  | .ref i => ((S[i]?).bind SO.seq?).bind fun xs => new S (.lst xs.reverse)
  | _ => none
def wr (base i : Nat) (d : D) : Bool := decide (base ≤ i) || d.cl 0
def rgOk (i : Int) : Bool := decide (-(2 ^ 62) ≤ i) && decide (i < 2 ^ 62)
def metP (m : Mt) (x : D) (S : Sto) : Bool := match m with
  | .bits => true
  | _ => match x with
    | .ref i => (match S[i]? with
      | some (.lst _) => true
      | _ => false)
    | _ => false
def metF (base : Nat) (m : Mt) (x : D) (vs : List D) (S : Sto) : Option (D × Sto) := match m, x, vs with
  | .append, .ref i, [y] => (match S[i]? with
    | some (.lst xs) => if wr base i y && decide (xs.length < lim) then some (.non, S.set i (.lst (xs ++ [y]))) else none
    | _ => none)
  | .pop, .ref i, [] => (match S[i]? with
    | some (.lst xs) => (match xs[xs.length - 1]? with
      | some y => some (y, S.set i (.lst xs.dropLast))
      | none => none)
    | _ => none)
  | .popAt, .ref i, [.int j] => (match S[i]? with
    | some (.lst xs) => (match ixN xs.length j with
      | some k => (match xs[k]? with
        | some y => if rgOk j then some (y, S.set i (.lst (xs.eraseIdx k))) else none
        | none => none)
      | none => none)
    | _ => none)
  | .bits, .int i, [] => some (.int (Builtin.Int.intBits i : Nat), S)
  | _, _, _ => none
def sixF (base : Nat) (o i v : D) (S : Sto) : Option Sto := match o, i with
  | .ref a, .int k => (match S[a]? with
    | some (.lst xs) => (match ixN xs.length k with
      | some j => if wr base a v then some (S.set a (.lst (xs.set j v))) else none
      | none => none)
    | _ => none)
  | _, _ => none
def dstF (base : Nat) (o i v : D) (S : Sto) : Option Sto := match o, keyD i with
  | .ref a, some k => (match S[a]? with
    | some (.dct kvs) => if wr base a v && decide (kvs.length < lim) then some (S.set a (.dct (dPut kvs k v))) else none
    | _ => none)
  | _, _ => none

/-! ### evaluation -/
abbrev Phi := Str → List D → Sto → Option (D × Sto)
def getV (env : Ev) (i : Nat) : Option D := (env[i]?).join
def wipeE (env : Ev) : List Nat → Ev
  | [] => env
  | i :: is => (wipeE env is).set i none
def setAll (env : Ev) : List Nat → List D → Option Ev
  | [], [] => some env
  | i :: is, d :: ds => setAll (env.set i (some d)) is ds
  | _, _ => none
def tgF (g : Tg) (env : Ev) (d : D) : Option Ev := match g with
  | .nm i => some (env.set i (some d))
  | .tp is => (match d with
    | .tup ds => setAll env is ds
    | _ => none)
def tgIn (own : List Nat) : Tg → Bool
  | .nm i => own.contains i
  | .tp is => is.all own.contains
def rgI (lo : Int) : Nat → List D
  | 0 => []
  | n + 1 => .int lo :: rgI (lo + 1) n
/-- list(range(i, j)), tuple(range(i, j)) -/
def rgF (t : Bool) (i j : Int) (S : Sto) : Option (D × Sto) := if rgOk i && rgOk j && decide ((j - i).toNat ≤ lim) then (if t = true then some (.tup (rgI i (j - i).toNat), S) else new S (.lst (rgI i (j - i).toNat))) else none
def insU (x : Int) : List Int → List Int
  | [] => [x]
  | y :: r => if x < y then x :: y :: r else if x = y then y :: r else y :: insU x r
def srtU : List Int → List Int
  | [] => []
  | x :: r => insU x (srtU r)
/-- sorted(set(t)) -/
def srsF (x : D) (S : Sto) : Option (D × Sto) := match x with
  | .tup ds => (intsOf ds).bind fun ns => if ns.length < 64 then new S (.lst ((srtU ns).map .int)) else none
  | _ => none
mutual
def D.beq : D → D → Bool
  | .non, .non => true
  | .bl a, .bl b => a == b
  | .int a, .int b => a == b
  | .str a, .str b => a == b
  | .tup a, .tup b => beqL a b
  | .ref a, .ref b => a == b
  | _, _ => false
def beqL : List D → List D → Bool
  | [], [] => true
  | x :: xs, y :: ys => x.beq y && beqL xs ys
  | _, _ => false
end
/-- does the list that is walked still hold these items? -/
def still (S : Sto) : Option Nat → List D → Bool
  | none, _ => true
  | some i, xs => match (S[i]?).bind SO.seq? with
    | some ys => beqL ys xs
    | none => false
/-- what is walked: the items, and the list that must stay as it is -/
def itV (S : Sto) (d : D) : Option (List D × Option Nat) := match d with
  | .tup ds => some (ds, none)
  | .ref i => ((S[i]?).bind SO.seq?).map fun xs => (xs, some i)
  | _ => none
/-- is the dict still locked, with these keys? -/
def isFd (S : Sto) (a : Nat) (ks : List D) : Bool := match S[a]? with
  | some (.fdc kvs) => beqL (kvs.map fun p => kD p.1) ks
  | _ => false
/-- it is unlocked, and the new list is laid -/
def unFd (a : Nat) (ys : List D) (S : Sto) : Option (D × Sto) := match S[a]? with
  | some (.fdc kvs) => new (S.set a (.dct kvs)) (.lst ys)
  | _ => none
/-- a comprehension's turns -/
def lcF (step : D → Sto → Option (Option D × Sto)) (ok : Sto → Bool) : List D → List D → Sto → Option (List D × Sto)
  | [], acc, S => if ok S then some (acc, S) else none
  | d :: ds, acc, S => if ok S && decide (acc.length < lim) then (match step d S with
    | some (some y, S1) => lcF step ok ds (acc ++ [y]) S1
    | some (none, S1) => lcF step ok ds acc S1
    | none => none) else none
inductive Fl where
  | nx | ret (d : D) | bk | ct
abbrev Rs := Option (Fl × Ev × Sto)
/-- a for's turns -/
def forF (step : D → Ev → Sto → Rs) (ok : Sto → Bool) : List D → Ev → Sto → Rs
  | [], env, S => if ok S then some (.nx, env, S) else none
  | d :: ds, env, S => if ok S then (match step d env S with
    | some (.nx, env1, S1) => forF step ok ds env1 S1
    | some (.ct, env1, S1) => forF step ok ds env1 S1
    | some (.bk, env1, S1) => some (.nx, env1, S1)
    | some (.ret v, env1, S1) => some (.ret v, env1, S1)
    | none => none) else none
def whF (test : Ev → Sto → Option (Bool × Sto)) (step : Ev → Sto → Rs) : Nat → Ev → Sto → Rs
  | 0, _, _ => none
  | n + 1, env, S => match test env S with
    | some (false, S1) => some (.nx, env, S1)
    | some (true, S1) => (match step env S1 with
      | some (.nx, env1, S2) => whF test step n env1 S2
      | some (.ct, env1, S2) => whF test step n env1 S2
      | some (.bk, env1, S2) => some (.nx, env1, S2)
      | some (.ret v, env1, S2) => some (.ret v, env1, S2)
      | none => none)
    | none => none
abbrev fuel : Nat := 1000000
mutual
def evE (φ : Phi) (base : Nat) (env : Ev) : Ex → Sto → Option (D × Sto)
  | .var i, S => (getV env i).map fun d => (d, S)
  | .non, S => some (.non, S)
  | .bl b, S => some (.bl b, S)
  | .int i, S => some (.int i, S)
  | .con i, S => some (.int i, S)
  | .str s, S => some (.str s, S)
  | .bin op a b, S => gc S.length (match evE φ S.length env a S with
    | some (x, S1) => (match evE φ S.length env b S1 with
      | some (y, S2) => binF op x y S2
      | none => none)
    | none => none)
  | .un op a, S => (match evE φ S.length env a S with
    | some (x, S1) => gc S.length ((unF op x).map fun z => (z, S1))
    | none => none)
  | .cmp op a b, S => gc S.length (match evE φ S.length env a S with
    | some (x, S1) => (match evE φ S.length env b S1 with
      | some (y, S2) => (cmpF op x y S2).map fun z => (.bl z, S2)
      | none => none)
    | none => none)
  | .chn o1 o2 a b c, S => gc S.length (match evE φ S.length env a S with
    | some (x, S1) => (match evE φ S.length env b S1 with
      | some (y, S2) => (match cmpF o1 x y S2 with
        | some true => (match evE φ S.length env c S2 with
          | some (z, S3) => (cmpF o2 y z S3).map fun r => (.bl r, S3)
          | none => none)
        | some false => some (.bl false, S2)
        | none => none)
      | none => none)
    | none => none)
  | .and a b, S => (match evE φ base env a S with
    | some (x, S1) => (match truF S1 x with
      | some true => evE φ base env b S1
      | some false => some (x, S1)
      | none => none)
    | none => none)
  | .or a b, S => (match evE φ base env a S with
    | some (x, S1) => (match truF S1 x with
      | some true => some (x, S1)
      | some false => evE φ base env b S1
      | none => none)
    | none => none)
  | .not a, S => (match evE φ base env a S with
    | some (x, S1) => (truF S1 x).map fun k => (.bl (!k), S1)
    | none => none)
  | .ite c a b, S => (match evE φ base env c S with
    | some (x, S1) => (match truF S1 x with
      | some true => evE φ base env a S1
      | some false => evE φ base env b S1
      | none => none)
    | none => none)
  | .tup es, S => gc S.length (match evS φ S.length env es S with
    | some (vs, S1) => if vs.length ≤ lim then some (.tup vs, S1) else none
    | none => none)
  | .lst es, S => gc S.length (match evS φ S.length env es S with
    | some (vs, S1) => if vs.length ≤ lim then new S1 (.lst vs) else none
    | none => none)
  | .ix a b, S => gc S.length (match evE φ S.length env a S with
    | some (x, S1) => (match evE φ S.length env b S1 with
      | some (y, S2) => (ixF x y S2).map fun z => (z, S2)
      | none => none)
    | none => none)
  | .sl a lo hi, S => gc S.length (match evE φ S.length env a S with
    | some (x, S1) => (match evO φ S.length env lo S1 with
      | some (l, S2) => (match evO φ S.length env hi S2 with
        | some (h, S3) => slF x l h S3
        | none => none)
      | none => none)
    | none => none)
  | .rev a, S => gc S.length (match evE φ S.length env a S with
    | some (x, S1) => revF x S1
    | none => none)
  | .rg1 t a, S => gc S.length (match evE φ S.length env a S with
    | some (.int j, S1) => rgF t 0 j S1
    | _ => none)
  | .rg2 t a b, S => gc S.length (match evE φ S.length env a S with
    | some (.int i, S1) => (match evE φ S.length env b S1 with
      | some (.int j, S2) => rgF t i j S2
      | _ => none)
    | _ => none)
  | .srs a, S => gc S.length (match evE φ S.length env a S with
    | some (x, S1) => srsF x S1
    | none => none)
  | .call f es, S => gc S.length (match evS φ S.length env es S with
    | some (vs, S1) => φ f vs S1
    | none => none)
  | .blt b es, S => gc S.length (match evS φ S.length env es S with
    | some (vs, S1) => bltF b vs S1
    | none => none)
  | .met m o es, S => (match evE φ base env o S with
    | some (x, S1) => if metP m x S1 then (match evS φ base env es S1 with
      | some (vs, S2) => metF base m x vs S2
      | none => none) else none
    | none => none)
  | .isi a k, S => gc S.length (match evE φ S.length env a S with
    | some (x, S1) => (isiF S1 x k).map fun z => (.bl z, S1)
    | none => none)
  | .dic, S => new S (.dct [])
  | .dix a b, S => gc S.length (match evE φ S.length env a S with
    | some (x, S1) => (match evE φ S.length env b S1 with
      | some (y, S2) => (dixF x y S2).map fun z => (z, S2)
      | none => none)
    | none => none)
  | .dgt o k v, S => gc S.length (match evE φ S.length env o S with
    | some (x, S1) => if (dicOf S1 x).isSome then (match evE φ S.length env k S1 with
      | some (y, S2) => (match evE φ S.length env v S2 with
        | some (z, S3) => (dgtF x y z S3).map fun r => (r, S3)
        | none => none)
      | none => none) else none
    | none => none)
  | .lck own i o c e, S => if own.contains i then (match getV env o with
    | some (.ref a) => (match S[a]? with
      | some (.dct kvs) => gc S.length (match lcF (fun d S2 => (match evO φ S.length ((wipeE env own).set i (some d)) c S2 with
          | some (t, S3) => (match t with
            | none => (match evE φ S.length ((wipeE env own).set i (some d)) e S3 with
              | some (y, S4) => some (some y, S4)
              | none => none)
            | some t => (match truF S3 t with
              | some true => (match evE φ S.length ((wipeE env own).set i (some d)) e S3 with
                | some (y, S4) => some (some y, S4)
                | none => none)
              | some false => some (none, S3)
              | none => none))
          | none => none)) (fun S2 => isFd S2 a (kvs.map fun p => kD p.1)) (kvs.map fun p => kD p.1) [] (S.set a (.fdc kvs)) with
        | some (ys, S2) => unFd a ys S2
        | none => none)
      | _ => none)
    | _ => none) else none
  | .lc own g it c e, S => if tgIn own g then gc S.length (match evI φ S.length env it S with
    | some (xs, h, S1) => (match lcF (fun d S2 => (match tgF g (wipeE env own) d with
        | some env2 => (match evO φ S.length env2 c S2 with
          | some (t, S3) => (match t with
            | none => (match evE φ S.length env2 e S3 with
              | some (y, S4) => some (some y, S4)
              | none => none)
            | some t => (match truF S3 t with
              | some true => (match evE φ S.length env2 e S3 with
                | some (y, S4) => some (some y, S4)
                | none => none)
              | some false => some (none, S3)
              | none => none))
          | none => none)
        | none => none)) (fun S2 => still S2 h xs) xs [] S1 with
      | some (ys, S2) => new S2 (.lst ys)
      | none => none)
    | none => none) else none
termination_by structural x => x
def evS (φ : Phi) (base : Nat) (env : Ev) : Es → Sto → Option (List D × Sto)
  | .nil, S => some ([], S)
  | .cons e es, S => (match evE φ base env e S with
    | some (x, S1) => (match evS φ base env es S1 with
      | some (xs, S2) => some (x :: xs, S2)
      | none => none)
    | none => none)
termination_by structural x => x
def evO (φ : Phi) (base : Nat) (env : Ev) : Ox → Sto → Option (Option D × Sto)
  | .no, S => some (none, S)
  | .yes e, S => (match evE φ base env e S with
    | some (x, S1) => some (some x, S1)
    | none => none)
termination_by structural x => x
def evI (φ : Phi) (base : Nat) (env : Ev) : It → Sto → Option (List D × Option Nat × Sto)
  | .ex e, S => (match evE φ base env e S with
    | some (x, S1) => (itV S1 x).map fun p => (p.1, p.2, S1)
    | none => none)
  | .rng1 a, S => (match evE φ base env a S with
    | some (.int j, S1) => if rgOk j then some (rgI 0 j.toNat, none, S1) else none
    | _ => none)
  | .rng2 a b, S => (match evE φ base env a S with
    | some (.int i, S1) => (match evE φ base env b S1 with
      | some (.int j, S2) => if rgOk i && rgOk j then some (rgI i (j - i).toNat, none, S2) else none
      | _ => none)
    | _ => none)
termination_by structural x => x
end
/-- a test: an expression's truth -/
def evT (φ : Phi) (base : Nat) (env : Ev) (e : Ex) (S : Sto) : Option (Bool × Sto) := match evE φ base env e S with
  | some (x, S1) => (truF S1 x).map fun k => (k, S1)
  | none => none
def augOk : Operator → Bool
  | .Add => true
  | .Sub => true
  | .BitAnd => true
  | .BitOr => true
  | .BitXor => true
  | _ => false
mutual
def ex1 (φ : Phi) (base : Nat) : Sm → Ev → Sto → Rs
  | .set i e, env, S => (match evE φ base env e S with
    | some (x, S1) => some (.nx, env.set i (some x), S1)
    | none => none)
  | .par i j a b, env, S => (match evE φ base env a S with
    | some (x, S1) => (match evE φ base env b S1 with
      | some (y, S2) => some (.nx, (env.set i (some x)).set j (some y), S2)
      | none => none)
    | none => none)
  | .unp is e, env, S => (match evE φ base env e S with
    | some (.tup ds, S1) => (setAll env is ds).map fun env1 => (.nx, env1, S1)
    | _ => none)
  | .six o i e, env, S => (match evE φ base env e S with
    | some (x, S1) => (match evE φ base env o S1 with
      | some (y, S2) => (match evE φ base env i S2 with
        | some (z, S3) => (sixF base y z x S3).map fun S4 => (.nx, env, S4)
        | none => none)
      | none => none)
    | none => none)
  | .aug i op e, env, S => (match getV env i with
    | some x => (match evE φ base env e S with
      | some (y, S1) => (match x, y with
        | .int p, .int q => if augOk op then (match binF op (.int p) (.int q) S1 with
          | some (z, S2) => some (.nx, env.set i (some z), S2)
          | none => none) else none
        | _, _ => none)
      | none => none)
    | none => none)
  | .dst o i e, env, S => (match evE φ base env e S with
    | some (x, S1) => (match evE φ base env o S1 with
      | some (y, S2) => (match evE φ base env i S2 with
        | some (z, S3) => (dstF base y z x S3).map fun S4 => (.nx, env, S4)
        | none => none)
      | none => none)
    | none => none)
  | .expr e, env, S => (match evE φ base env e S with
    | some (_, S1) => some (.nx, env, S1)
    | none => none)
  | .ifs c a b, env, S => (match evT φ base env c S with
    | some (true, S1) => exs φ base a env S1
    | some (false, S1) => exs φ base b env S1
    | none => none)
  | .for g it b, env, S => (match evI φ base env it S with
    | some (xs, h, S1) => forF (fun d env1 S2 => match tgF g env1 d with
      | some env2 => exs φ base b env2 S2
      | none => none) (fun S2 => still S2 h xs) xs env S1
    | none => none)
  | .while c b, env, S => whF (fun env1 S1 => evT φ base env1 c S1) (fun env1 S1 => exs φ base b env1 S1) fuel env S
  | .ret e, env, S => (match evE φ base env e S with
    | some (x, S1) => some (.ret x, env, S1)
    | none => none)
  | .retN, env, S => some (.ret .non, env, S)
  | .brk, env, S => some (.bk, env, S)
  | .cnt, env, S => some (.ct, env, S)
  | .pass, env, S => some (.nx, env, S)
  | .fail, _, _ => none
termination_by structural x => x
def exs (φ : Phi) (base : Nat) : Ss → Ev → Sto → Rs
  | .nil, env, S => some (.nx, env, S)
  | .cons s ss, env, S => (match ex1 φ base s env S with
    | some (.nx, env1, S1) => exs φ base ss env1 S1
    | some (.ret v, env1, S1) => some (.ret v, env1, S1)
    | some (.bk, env1, S1) => some (.bk, env1, S1)
    | some (.ct, env1, S1) => some (.ct, env1, S1)
    | none => none)
termination_by structural x => x
end
/-- a def's call -/
def runD (φ : Phi) (c : Df) (vs : List D) (S : Sto) : Option (D × Sto) :=
  if vs.length = c.np then gc S.length (match exs φ S.length c.body (vs.map some ++ List.replicate (c.nn - vs.length) none) S with
    | some (.ret d, _, S1) => some (d, S1)
    | some (.nx, _, S1) => some (.non, S1)
    | _ => none) else none
def run (T : Txt) : Nat → Phi
  | 0 => fun _ _ _ => none
  | n + 1 => fun f vs S => match T.lookup f with
    | some c => runD (run T n) c vs S
    | none => none
end Z
end
section
set_option Elab.async false
set_option linter.all false
set_option autoImplicit false
/-! how a store lies in the abstract heap; how it grows -/
namespace Z
open PySem L2

mutual
def Rep (K : PySem.W.Frag) (β : Nat → Addr) (H : Hp) : D → V → Prop
  | .non, v => v = .non
  | .bl b, v => v = .bl b
  | .int i, v => v = .int i
  | .str s, v => v = .str s
  | .tup ds, v => ∃ a vs, v = .ref a ∧ SqT K H a vs ∧ Reps K β H ds vs
  | .ref i, v => v = .ref (β i)
def Reps (K : PySem.W.Frag) (β : Nat → Addr) (H : Hp) : List D → List V → Prop
  | [], vs => vs = []
  | d :: ds, vs => ∃ x r, vs = x :: r ∧ Rep K β H d x ∧ Reps K β H ds r
end

def Cell (K : PySem.W.Frag) (β : Nat → Addr) (H : Hp) (a : Addr) : SO → Prop
  | .lst xs => ∃ vs, H a = some (.lst vs) ∧ Reps K β H xs vs
  | .fro xs => ∃ o vs, H a = some (.frz o (.lst vs)) ∧ Reps K β H xs vs
  | .dct kvs => ∃ kws, H a = some (.dK kws) ∧ kws.map (·.1) = kvs.map (·.1) ∧ Reps K β H (kvs.map (·.2)) (kws.map (·.2))
  | .fdc kvs => ∃ o kws, H a = some (.frz o (.dK kws)) ∧ kws.map (·.1) = kvs.map (·.1) ∧ Reps K β H (kvs.map (·.2)) (kws.map (·.2))
structure Sim (K : PySem.W.Frag) (β : Nat → Addr) (S : Sto) (H : Hp) : Prop where
  cell : ∀ i o, S[i]? = some o → Cell K β H (β i) o
  cl : ∀ (i : Nat) (o : SO), S[i]? = some o → o.cl S.length = true
  inj : ∀ i j, i < S.length → j < S.length → β i = β j → i = j
/-- tuples and what is locked stay -/
structure TupK (H H' : Hp) : Prop where
  tup : ∀ a vs, H a = some (.tup vs) → H' a = some (.tup vs)
  frz : ∀ a o u, H a = some (.frz o u) → H' a = some (.frz o u)
/-- .. tuples alone -/
structure TupR (H H' : Hp) : Prop where
  tup : ∀ a vs, H a = some (.tup vs) → H' a = some (.tup vs)
  frt : ∀ a o vs, H a = some (.frz o (.tup vs)) → H' a = some (.frz o (.tup vs))
structure Gr (base : Nat) (β : Nat → Addr) (S : Sto) (H : Hp) (β' : Nat → Addr) (S' : Sto) (H' : Hp) : Prop where
  len : S.length ≤ S'.length
  same : ∀ i, i < S.length → β' i = β i
  fr : ∀ a o, H a = some o → (∀ i, i < S.length → β i ≠ a) → H' a = some o
  trk : ∀ a o, H a = some o → ∃ o', H' a = some o'
  new : ∀ i, S.length ≤ i → i < S'.length → H (β' i) = none
  tm : ∀ i, i < base → ∀ (n : Nat) (o o' : SO), S[i]? = some o → S'[i]? = some o' → o.cl n = true → o'.cl n = true
  tk : TupK H H'
structure EnvR (K : PySem.W.Frag) (β : Nat → Addr) (H : Hp) (n : Nat) (env : Ev) (σ : L2.St) : Prop where
  len : env.length = σ.length
  get : ∀ (i : Nat) (d : D), env[i]? = some (some d) → d.cl n = true ∧ ∃ v, σ[i]? = some (some v) ∧ Rep K β H d v

section
variable {K : PySem.W.Frag} {β β' β1 β2 : Nat → Addr} {H H' H1 H2 : Hp} {S S' S1 S2 : Sto} {base n m : Nat}

theorem TupK.refl : TupK H H := ⟨fun _ _ h => h, fun _ _ _ h => h⟩
theorem TupK.trans (a : TupK H H1) (b : TupK H1 H2) : TupK H H2 := ⟨fun _ _ h => b.tup _ _ (a.tup _ _ h), fun _ _ _ h => b.frz _ _ _ (a.frz _ _ _ h)⟩
theorem TupK.new {p : Addr} {o : HO} (h : H p = none) : TupK H (upd H p o) := ⟨fun a vs e => by rw [upd_ne (ne_of_none e h)]; exact e, fun a ob u e => by rw [upd_ne (ne_of_none e h)]; exact e⟩
theorem TupK.set {p : Addr} {o u : HO} (h : H p = some u) (h1 : ∀ vs, u ≠ .tup vs) (h2 : ∀ ob w, u ≠ .frz ob w) : TupK H (upd H p o) :=
  ⟨fun a vs e => by rw [upd_ne (ne_of e h (fun z => h1 vs z.symm))]; exact e, fun a ob w e => by rw [upd_ne (ne_of e h (fun z => h2 ob w z.symm))]; exact e⟩
theorem TupK.r (t : TupK H H') : TupR H H' := ⟨t.tup, fun a o vs h => t.frz a o _ h⟩
theorem TupR.refl : TupR H H := ⟨fun _ _ h => h, fun _ _ _ h => h⟩
theorem TupR.sqT {a : Addr} {vs : List V} (t : TupR H H') (h : SqT K H a vs) : SqT K H' a vs := by
  rcases h with (h | ⟨o, h⟩) | h
  · exact .inl (.inl (t.tup _ _ h))
  · exact .inl (.inr ⟨o, t.frt _ _ _ h⟩)
  · exact .inr h

mutual
theorem D.cl_mono (h : n ≤ m) : ∀ d : D, d.cl n = true → d.cl m = true
  | .non, _ => rfl
  | .bl _, _ => rfl
  | .int _, _ => rfl
  | .str _, _ => rfl
  | .ref i, e => decide_eq_true (Nat.lt_of_lt_of_le (of_decide_eq_true e) h)
  | .tup ds, e => clL_mono h ds e
theorem clL_mono (h : n ≤ m) : ∀ ds : List D, clL n ds = true → clL m ds = true
  | [], _ => rfl
  | d :: ds, e => by
    have e' : (d.cl n && clL n ds) = true := e
    rw [Bool.and_eq_true] at e'
    show (d.cl m && clL m ds) = true
    rw [D.cl_mono h d e'.1, clL_mono h ds e'.2]
    rfl
end
theorem SO.cl_mono (h : n ≤ m) {o : SO} (e : o.cl n = true) : o.cl m = true := by
  cases o with
  | lst xs => exact clL_mono h xs e
  | fro xs => exact clL_mono h xs e
  | dct kvs => exact clL_mono h _ e
  | fdc kvs => exact clL_mono h _ e
theorem clL_mem : ∀ {ds : List D}, clL n ds = true → ∀ d ∈ ds, d.cl n = true
  | _ :: _, e, d, hd => by
    rw [clL, Bool.and_eq_true] at e
    rcases List.mem_cons.mp hd with rfl | hd
    · exact e.1
    · exact clL_mem e.2 d hd
theorem clL_of : ∀ {ds : List D}, (∀ d ∈ ds, d.cl n = true) → clL n ds = true
  | [], _ => rfl
  | d :: ds, h => by
    rw [clL, h d List.mem_cons_self, clL_of fun e he => h e (List.mem_cons_of_mem _ he)]
    rfl
theorem clL_iff {ds : List D} : clL n ds = true ↔ ∀ d ∈ ds, d.cl n = true := ⟨fun h => clL_mem h, clL_of⟩

mutual
theorem Rep.tk (t : TupR H H') (h : ∀ i, i < n → β' i = β i) : ∀ (d : D) (v : V), d.cl n = true → Rep K β H d v → Rep K β' H' d v
  | .non, _, _, r => r
  | .bl _, _, _, r => r
  | .int _, _, _, r => r
  | .str _, _, _, r => r
  | .ref i, v, c, r => by
    have r' : v = .ref (β i) := r
    show v = .ref (β' i)
    rw [h i (of_decide_eq_true c)]
    exact r'
  | .tup ds, v, c, r => by
    obtain ⟨a, vs, e, s, rs⟩ := (show ∃ a vs, v = .ref a ∧ SqT K H a vs ∧ Reps K β H ds vs from r)
    exact ⟨a, vs, e, t.sqT s, Reps.tk t h ds vs c rs⟩
theorem Reps.tk (t : TupR H H') (h : ∀ i, i < n → β' i = β i) : ∀ (ds : List D) (vs : List V), clL n ds = true → Reps K β H ds vs → Reps K β' H' ds vs
  | [], _, _, r => r
  | d :: ds, vs, c, r => by
    obtain ⟨x, q, e, r1, r2⟩ := (show ∃ x q, vs = x :: q ∧ Rep K β H d x ∧ Reps K β H ds q from r)
    have c' : (d.cl n && clL n ds) = true := c
    rw [Bool.and_eq_true] at c'
    exact ⟨x, q, e, Rep.tk t h d x c'.1 r1, Reps.tk t h ds q c'.2 r2⟩
end
theorem Reps.length : ∀ {ds : List D} {vs : List V}, Reps K β H ds vs → ds.length = vs.length
  | [], vs, r => by cases (show vs = [] from r); rfl
  | d :: ds, vs, r => by
    obtain ⟨x, q, rfl, _, r2⟩ := (show ∃ x q, vs = x :: q ∧ Rep K β H d x ∧ Reps K β H ds q from r)
    rw [List.length_cons, List.length_cons, Reps.length r2]
theorem Reps.get : ∀ {ds : List D} {vs : List V} {i : Nat} {d : D}, Reps K β H ds vs → ds[i]? = some d → ∃ v, vs[i]? = some v ∧ Rep K β H d v
  | [], _, _, _, _, e => by simp at e
  | d0 :: ds, vs, i, d, r, e => by
    obtain ⟨x, q, rfl, r1, r2⟩ := (show ∃ x q, vs = x :: q ∧ Rep K β H d0 x ∧ Reps K β H ds q from r)
    cases i with
    | zero =>
      simp only [List.getElem?_cons_zero, Option.some.injEq] at e
      subst e
      exact ⟨x, rfl, r1⟩
    | succ i =>
      simp only [List.getElem?_cons_succ] at e
      obtain ⟨v, h1, h2⟩ := Reps.get r2 e
      exact ⟨v, by simpa using h1, h2⟩
theorem Reps.append : ∀ {ds es : List D} {vs ws : List V}, Reps K β H ds vs → Reps K β H es ws → Reps K β H (ds ++ es) (vs ++ ws)
  | [], es, vs, ws, r, q => by cases (show vs = [] from r); exact q
  | d :: ds, es, vs, ws, r, q => by
    obtain ⟨x, q1, rfl, r1, r2⟩ := (show ∃ x q, vs = x :: q ∧ Rep K β H d x ∧ Reps K β H ds q from r)
    exact ⟨x, q1 ++ ws, rfl, r1, Reps.append r2 q⟩
theorem Reps.one {d : D} {v : V} (r : Rep K β H d v) : Reps K β H [d] [v] := ⟨v, [], rfl, r, rfl⟩
theorem Reps.take : ∀ (k : Nat) {ds : List D} {vs : List V}, Reps K β H ds vs → Reps K β H (ds.take k) (vs.take k)
  | 0, _, _, _ => rfl
  | k + 1, [], vs, r => by cases (show vs = [] from r); rfl
  | k + 1, d :: ds, vs, r => by
    obtain ⟨x, q, rfl, r1, r2⟩ := (show ∃ x q, vs = x :: q ∧ Rep K β H d x ∧ Reps K β H ds q from r)
    exact ⟨x, q.take k, rfl, r1, Reps.take k r2⟩
theorem Reps.drop : ∀ (k : Nat) {ds : List D} {vs : List V}, Reps K β H ds vs → Reps K β H (ds.drop k) (vs.drop k)
  | 0, _, _, r => r
  | k + 1, [], vs, r => by cases (show vs = [] from r); rfl
  | k + 1, d :: ds, vs, r => by
    obtain ⟨x, q, rfl, r1, r2⟩ := (show ∃ x q, vs = x :: q ∧ Rep K β H d x ∧ Reps K β H ds q from r)
    exact Reps.drop k r2
theorem Reps.rev : ∀ {ds : List D} {vs : List V}, Reps K β H ds vs → Reps K β H ds.reverse vs.reverse
  | [], vs, r => by cases (show vs = [] from r); rfl
  | d :: ds, vs, r => by
    obtain ⟨x, q, rfl, r1, r2⟩ := (show ∃ x q, vs = x :: q ∧ Rep K β H d x ∧ Reps K β H ds q from r)
    rw [List.reverse_cons, List.reverse_cons]
    exact (Reps.rev r2).append (Reps.one r1)
theorem Reps.flat {ds : List D} {vs : List V} (r : Reps K β H ds vs) : ∀ k : Nat, Reps K β H (List.replicate k ds).flatten (List.replicate k vs).flatten
  | 0 => rfl
  | k + 1 => by
    rw [List.replicate_succ, List.replicate_succ, List.flatten_cons, List.flatten_cons]
    exact r.append (Reps.flat r k)
theorem Reps.set : ∀ {ds : List D} {vs : List V} (i : Nat) {d : D} {v : V}, Reps K β H ds vs → Rep K β H d v → Reps K β H (ds.set i d) (vs.set i v)
  | [], vs, i, _, _, r, _ => by cases (show vs = [] from r); rfl
  | d0 :: ds, vs, 0, d, v, r, q => by
    obtain ⟨x, w, rfl, r1, r2⟩ := (show ∃ x q, vs = x :: q ∧ Rep K β H d0 x ∧ Reps K β H ds q from r)
    exact ⟨v, w, rfl, q, r2⟩
  | d0 :: ds, vs, i + 1, d, v, r, q => by
    obtain ⟨x, w, rfl, r1, r2⟩ := (show ∃ x q, vs = x :: q ∧ Rep K β H d0 x ∧ Reps K β H ds q from r)
    exact ⟨x, w.set i v, rfl, r1, Reps.set i r2 q⟩
theorem Reps.erase : ∀ {ds : List D} {vs : List V} (i : Nat), Reps K β H ds vs → Reps K β H (ds.eraseIdx i) (vs.eraseIdx i)
  | [], vs, i, r => by cases (show vs = [] from r); rfl
  | d0 :: ds, vs, 0, r => by
    obtain ⟨x, w, rfl, r1, r2⟩ := (show ∃ x q, vs = x :: q ∧ Rep K β H d0 x ∧ Reps K β H ds q from r)
    exact r2
  | d0 :: ds, vs, i + 1, r => by
    obtain ⟨x, w, rfl, r1, r2⟩ := (show ∃ x q, vs = x :: q ∧ Rep K β H d0 x ∧ Reps K β H ds q from r)
    exact ⟨x, w.eraseIdx i, rfl, r1, Reps.erase i r2⟩

/-! ### growing -/
theorem Gr.refl : Gr base β S H β S H := ⟨Nat.le_refl _, fun _ _ => rfl, fun _ _ e _ => e, fun _ o e => ⟨o, e⟩, fun i a b => absurd b (by omega), fun i _ n o o' a b c => by
  rw [a] at b
  cases b
  exact c, TupK.refl⟩
theorem Gr.trans (a : Gr base β S H β1 S1 H1) (b : Gr base β1 S1 H1 β2 S2 H2) : Gr base β S H β2 S2 H2 where
  len := Nat.le_trans a.len b.len
  same := fun i h => (b.same i (Nat.lt_of_lt_of_le h a.len)).trans (a.same i h)
  fr := fun x o e h => b.fr x o (a.fr x o e h) fun i hi => by
    by_cases hs : i < S.length
    · rw [a.same i hs]
      exact h i hs
    · intro z
      have := a.new i (by omega) hi
      rw [z, e] at this
      cases this
  trk := fun x o e => let ⟨o1, e1⟩ := a.trk x o e; b.trk x o1 e1
  new := fun i h1 h2 => by
    by_cases hs : i < S1.length
    · rw [b.same i hs]
      exact a.new i h1 hs
    · have q := b.new i (by omega) h2
      cases e : H (β2 i) with
      | none => rfl
      | some o =>
        obtain ⟨o', e'⟩ := a.trk _ o e
        rw [e'] at q
        cases q
  tm := fun i hi n o o' e1 e2 c => by
    have h1 : i < S1.length := Nat.lt_of_lt_of_le (List.getElem?_eq_some_iff.mp e1).1 a.len
    exact b.tm i hi n _ o' (List.getElem?_eq_getElem h1) e2 (a.tm i hi n o _ e1 (List.getElem?_eq_getElem h1) c)
  tk := a.tk.trans b.tk
/-- a tighter word is a looser one; from the whole store on there is nothing tighter -/
theorem Gr.loose (a : Gr m β S H β1 S1 H1) (h : base ≤ m ∨ S.length ≤ m) : Gr base β S H β1 S1 H1 :=
  ⟨a.len, a.same, a.fr, a.trk, a.new, fun i hi n o o' e1 e2 c => a.tm i (by
    have := (List.getElem?_eq_some_iff.mp e1).1
    omega) n o o' e1 e2 c, a.tk⟩
theorem Gr.rep {d : D} {v : V} (g : Gr base β S H β' S' H') (r : Rep K β H d v) (c : d.cl S.length = true) : Rep K β' H' d v := Rep.tk g.tk.r g.same d v c r
theorem Gr.reps {ds : List D} {vs : List V} (g : Gr base β S H β' S' H') (r : Reps K β H ds vs) (c : clL S.length ds = true) : Reps K β' H' ds vs := Reps.tk g.tk.r g.same ds vs c r
theorem Gr.cl {d : D} (g : Gr base β S H β' S' H') (c : d.cl S.length = true) : d.cl S'.length = true := D.cl_mono g.len d c
theorem Gr.cls {ds : List D} (g : Gr base β S H β' S' H') (c : clL S.length ds = true) : clL S'.length ds = true := clL_mono g.len ds c
theorem EnvR.gr {env : Ev} {σ : L2.St} (e : EnvR K β H S.length env σ) (g : Gr base β S H β' S' H') : EnvR K β' H' S'.length env σ := ⟨e.len, fun i d h => by
  obtain ⟨c, v, e1, r⟩ := e.get i d h
  exact ⟨g.cl c, v, e1, g.rep r c⟩⟩
theorem EnvR.set {env : Ev} {σ : L2.St} {d : D} {v : V} (e : EnvR K β H n env σ) (i : Nat) (c : d.cl n = true) (r : Rep K β H d v) : EnvR K β H n (env.set i (some d)) (σ.set i (some v)) := ⟨by
  rw [List.length_set, List.length_set]
  exact e.len, fun j x h => by
  by_cases hj : i = j
  · subst hj
    have hl : i < env.length := by
      have := (List.getElem?_eq_some_iff.mp h).1
      rw [List.length_set] at this
      exact this
    rw [List.getElem?_set_self hl] at h
    cases h
    exact ⟨c, v, List.getElem?_set_self (by rw [← e.len]; exact hl), r⟩
  · rw [List.getElem?_set_ne hj] at h
    obtain ⟨c1, w, e1, r1⟩ := e.get j x h
    exact ⟨c1, w, by rw [List.getElem?_set_ne hj]; exact e1, r1⟩⟩
theorem EnvR.wipe {env : Ev} {σ : L2.St} (e : EnvR K β H n env σ) : ∀ is : List Nat, EnvR K β H n (wipeE env is) (L2.wipe σ is)
  | [] => e
  | i :: is => by
    have ih := EnvR.wipe e is
    refine ⟨?_, fun j x h => ?_⟩
    · show ((wipeE env is).set i none).length = ((L2.wipe σ is).set i none).length
      rw [List.length_set, List.length_set]
      exact ih.len
    · have h' : ((wipeE env is).set i none)[j]? = some (some x) := h
      by_cases hj : i = j
      · subst hj
        by_cases hl : i < (wipeE env is).length
        · rw [List.getElem?_set_self hl] at h'
          cases h'
        · rw [List.getElem?_eq_none (by rw [List.length_set]; omega)] at h'
          cases h'
      · rw [List.getElem?_set_ne hj] at h'
        obtain ⟨c1, w, e1, r1⟩ := ih.get j x h'
        refine ⟨c1, w, ?_, r1⟩
        show ((L2.wipe σ is).set i none)[j]? = _
        rw [List.getElem?_set_ne hj]
        exact e1

theorem Cell.there {a : Addr} {o : SO} (c : Cell K β H a o) : ∃ u, H a = some u ∧ (∀ vs, u ≠ .tup vs) ∧ ∀ ob vs, u ≠ .frz ob (.tup vs) := by
  cases o with
  | lst xs => obtain ⟨vs, e, _⟩ := c; exact ⟨_, e, (fun _ z => by cases z), (fun _ _ z => by cases z)⟩
  | fro xs => obtain ⟨o, vs, e, _⟩ := c; exact ⟨_, e, (fun _ z => by cases z), (fun _ _ z => by cases z)⟩
  | dct xs => obtain ⟨vs, e, _⟩ := c; exact ⟨_, e, (fun _ z => by cases z), (fun _ _ z => by cases z)⟩
  | fdc xs => obtain ⟨o, vs, e, _⟩ := c; exact ⟨_, e, (fun _ z => by cases z), (fun _ _ z => by cases z)⟩
/-- a cell whose own object stays -/
theorem Cell.tk {a a' : Addr} {o : SO} (c : Cell K β H a o) (t : TupR H H') (h : ∀ i, i < n → β' i = β i) (ho : o.cl n = true) (ea : a' = a) (e : H' a = H a) : Cell K β' H' a' o := by
  subst ea
  cases o with
  | lst xs => obtain ⟨vs, e1, r⟩ := c; exact ⟨vs, e.trans e1, Reps.tk t h _ _ ho r⟩
  | fro xs => obtain ⟨ob, vs, e1, r⟩ := c; exact ⟨ob, vs, e.trans e1, Reps.tk t h _ _ ho r⟩
  | dct xs => obtain ⟨vs, e1, k, r⟩ := c; exact ⟨vs, e.trans e1, k, Reps.tk t h _ _ ho r⟩
  | fdc xs => obtain ⟨ob, vs, e1, k, r⟩ := c; exact ⟨ob, vs, e.trans e1, k, Reps.tk t h _ _ ho r⟩
theorem get_app {S : Sto} {o : SO} {i : Nat} {u : SO} (h : (S ++ [o])[i]? = some u) : (i < S.length ∧ S[i]? = some u) ∨ (i = S.length ∧ u = o) := by
  by_cases hi : i < S.length
  · rw [List.getElem?_append_left hi] at h
    exact .inl ⟨hi, h⟩
  · rw [List.getElem?_append_right (by omega)] at h
    by_cases h0 : i - S.length = 0
    · rw [h0] at h
      exact .inr ⟨by omega, (Option.some.inj h).symm⟩
    · rw [List.getElem?_eq_none (by simp; omega)] at h
      cases h
def ext (β : Nat → Addr) (n : Nat) (p : Addr) : Nat → Addr := fun i => if i = n then p else β i
theorem ext_lt {i : Nat} {p : Addr} (h : i < n) : ext β n p i = β i := if_neg (by omega)
theorem ext_eq {p : Addr} : ext β n p n = p := if_pos rfl
/-- a new thing -/
theorem Sim.add {p : Addr} {o : SO} {u : HO} (s : Sim K β S H) (hp : H p = none) (ho : o.cl S.length = true) (c : Cell K β (upd H p u) p o) : Sim K (ext β S.length p) (S ++ [o]) (upd H p u) ∧ Gr base β S H (ext β S.length p) (S ++ [o]) (upd H p u) := by
  have t : TupK H (upd H p u) := TupK.new hp
  have ne : ∀ i o, S[i]? = some o → β i ≠ p := fun i o e z => by
    obtain ⟨w, e1, _⟩ := (s.cell i o e).there
    rw [z, hp] at e1
    cases e1
  have same : ∀ i, i < S.length → ext β S.length p i = β i := fun i h => ext_lt h
  refine ⟨⟨fun i o' e => ?_, fun i o' e => ?_, fun i j hi hj e => ?_⟩, ⟨by simp, same, fun a o' e _ => by rw [upd_ne (ne_of_none e hp)]; exact e, fun a o' e => ?_, fun i h1 h2 => ?_, fun i hi n o1 o2 e1 e2 c1 => ?_, t⟩⟩
  · rcases get_app e with ⟨hi, e⟩ | ⟨rfl, rfl⟩
    · exact (s.cell i o' e).tk t.r same (s.cl i o' e) (same i hi) (upd_ne (ne i o' e))
    · exact c.tk TupR.refl same ho ext_eq rfl
  · rw [List.length_append]
    rcases get_app e with ⟨hi, e⟩ | ⟨rfl, rfl⟩
    · exact SO.cl_mono (Nat.le_add_right _ _) (s.cl i o' e)
    · exact SO.cl_mono (Nat.le_add_right _ _) ho
  · rw [List.length_append, List.length_singleton] at hi hj
    by_cases h1 : i < S.length
    · by_cases h2 : j < S.length
      · rw [same i h1, same j h2] at e
        exact s.inj i j h1 h2 e
      · have : j = S.length := by omega
        subst this
        rw [same i h1, ext_eq] at e
        exact absurd e (ne i _ (List.getElem?_eq_getElem h1))
    · have : i = S.length := by omega
      subst this
      by_cases h2 : j < S.length
      · rw [same j h2, ext_eq] at e
        exact absurd e.symm (ne j _ (List.getElem?_eq_getElem h2))
      · omega
  · by_cases ha : a = p
    · subst ha
      exact ⟨u, upd_same⟩
    · exact ⟨o', by rw [upd_ne ha]; exact e⟩
  · rw [List.length_append, List.length_singleton] at h2
    have : i = S.length := by omega
    subst this
    rw [ext_eq]
    exact hp
  · have h1 := (List.getElem?_eq_some_iff.mp e1).1
    rw [List.getElem?_append_left h1, e1] at e2
    cases e2
    exact c1
/-- a new tuple -/
theorem Sim.tup {p : Addr} {vs : List V} (s : Sim K β S H) (hp : H p = none) : Sim K β S (upd H p (.tup vs)) ∧ Gr base β S H β S (upd H p (.tup vs)) := by
  have t : TupK H (upd H p (.tup vs)) := TupK.new hp
  have ne : ∀ i o, S[i]? = some o → β i ≠ p := fun i o e z => by
    obtain ⟨w, e1, _⟩ := (s.cell i o e).there
    rw [z, hp] at e1
    cases e1
  refine ⟨⟨fun i o' e => (s.cell i o' e).tk t.r (fun _ _ => rfl) (s.cl i o' e) rfl (upd_ne (ne i o' e)), s.cl, s.inj⟩, ⟨Nat.le_refl _, fun _ _ => rfl, fun a o' e _ => by rw [upd_ne (ne_of_none e hp)]; exact e, fun a o' e => ?_, fun i h1 h2 => absurd h2 (by omega), fun i hi n o1 o2 e1 e2 c1 => ?_, t⟩⟩
  · by_cases ha : a = p
    · subst ha
      exact ⟨_, upd_same⟩
    · exact ⟨o', by rw [upd_ne ha]; exact e⟩
  · rw [e1] at e2
    cases e2
    exact c1
/-- a thing is written -/
theorem Sim.put {i : Nat} {o o' : SO} {u u' : HO} (s : Sim K β S H) (e : S[i]? = some o) (hu : H (β i) = some u) (h1 : ∀ vs, u ≠ .tup vs) (h2 : ∀ ob w, u ≠ .frz ob w) (ho : o'.cl S.length = true)
    (c : Cell K β (upd H (β i) u') (β i) o') (hb : i < base → ∀ n, o.cl n = true → o'.cl n = true) : Sim K β (S.set i o') (upd H (β i) u') ∧ Gr base β S H β (S.set i o') (upd H (β i) u') := by
  have t : TupK H (upd H (β i) u') := TupK.set hu h1 h2
  have hi := (List.getElem?_eq_some_iff.mp e).1
  refine ⟨⟨fun j oj ej => ?_, fun j oj ej => ?_, fun j k hj hk q => s.inj j k (by simpa using hj) (by simpa using hk) q⟩, ⟨by simp, fun _ _ => rfl, fun a oa ea na => by rw [upd_ne (fun z => na i hi z.symm)]; exact ea, fun a oa ea => ?_, fun j h1 h2 => absurd h2 (by rw [List.length_set]; omega), fun j hj n o1 o2 e1 e2 c1 => ?_, t⟩⟩
  · by_cases hj : i = j
    · subst hj
      rw [List.getElem?_set_self hi] at ej
      cases ej
      exact c
    · rw [List.getElem?_set_ne hj] at ej
      refine (s.cell j oj ej).tk t.r (fun _ _ => rfl) (s.cl j oj ej) rfl (upd_ne fun z => hj ?_)
      exact (s.inj j i (List.getElem?_eq_some_iff.mp ej).1 hi z).symm
  · rw [List.length_set]
    by_cases hj : i = j
    · subst hj
      rw [List.getElem?_set_self hi] at ej
      cases ej
      exact ho
    · rw [List.getElem?_set_ne hj] at ej
      exact s.cl j oj ej
  · by_cases ha : a = β i
    · subst ha
      exact ⟨_, upd_same⟩
    · exact ⟨oa, by rw [upd_ne ha]; exact ea⟩
  · by_cases hij : i = j
    · subst hij
      rw [List.getElem?_set_self hi] at e2
      cases e2
      rw [e] at e1
      cases e1
      exact hb hj n c1
    · rw [List.getElem?_set_ne hij, e1] at e2
      cases e2
      exact c1
/-- what an expression made is thrown away but for what it hands back -/
theorem gc_ok {v d : D} {x : V} (hg : gc S.length (some (v, S1)) = some (d, S')) (g : Gr S.length β S H β1 S1 H1) (s : Sim K β S H) (s1 : Sim K β1 S1 H1) (r : Rep K β1 H1 v x) (c : v.cl S1.length = true) :
    ∃ β', Gr base β S H β' S' H1 ∧ Sim K β' S' H1 ∧ Rep K β' H1 d x ∧ d.cl S'.length = true := by
  have low : ∀ i o, i < S.length → S1[i]? = some o → o.cl S.length = true := fun i o hi e =>
    g.tm i hi S.length _ o (List.getElem?_eq_getElem hi) e (s.cl i _ (List.getElem?_eq_getElem hi))
  have lt : (S1.take S.length).length = S.length := by
    rw [List.length_take]
    have := g.len
    omega
  have getT : ∀ i o, (S1.take S.length)[i]? = some o → i < S.length ∧ S1[i]? = some o := fun i o e => by
    have hi := (List.getElem?_eq_some_iff.mp e).1
    rw [lt] at hi
    rw [List.getElem?_take, if_pos hi] at e
    exact ⟨hi, e⟩
  have sT : Sim K β1 (S1.take S.length) H1 := ⟨fun i o e => s1.cell i o (getT i o e).2, fun i o e => by rw [lt]; exact low i o (getT i o e).1 (getT i o e).2, fun i j hi hj e => s1.inj i j (by rw [lt] at hi; have := g.len; omega) (by rw [lt] at hj; have := g.len; omega) e⟩
  have whole : Gr base β S H β1 S1 H1 := g.loose (.inr (Nat.le_refl _))
  have gT : Gr base β S H β1 (S1.take S.length) H1 := ⟨by rw [lt]; exact Nat.le_refl _, g.same, g.fr, g.trk, fun i h1 h2 => by rw [lt] at h2; omega, fun i hi n o o' e1 e2 c1 => whole.tm i hi n o o' e1 (getT i o' e2).2 c1, g.tk⟩
  unfold gc at hg
  simp only at hg
  by_cases hc : v.cl S.length = true
  · rw [if_pos hc] at hg
    cases hg
    exact ⟨β1, gT, sT, r, by rw [lt]; exact hc⟩
  · rw [if_neg hc] at hg
    have keep : some (v, S1) = some (d, S') → ∃ β', Gr base β S H β' S' H1 ∧ Sim K β' S' H1 ∧ Rep K β' H1 d x ∧ d.cl S'.length = true := fun q => by
      cases q
      exact ⟨β1, whole, s1, r, c⟩
    cases v with
    | ref k =>
      simp only at hg
      cases e : S1[k]? with
      | none => rw [e] at hg; exact keep hg
      | some o =>
        rw [e] at hg
        simp only at hg
        by_cases ho : o.cl S.length = true
        · rw [if_pos ho] at hg
          cases hg
          have hk : S.length ≤ k := by
            have : ¬ k < S.length := fun z => hc (decide_eq_true z)
            omega
          have hk1 := (List.getElem?_eq_some_iff.mp e).1
          have same : ∀ i, i < S.length → ext β1 S.length (β1 k) i = β1 i := fun i h => ext_lt h
          refine ⟨ext β1 S.length (β1 k), ⟨?_, fun i h => (same i h).trans (g.same i h), g.fr, g.trk, fun i h1 h2 => ?_, fun i hi n o1 o2 e1 e2 c1 => ?_, g.tk⟩, ⟨fun i o' e' => ?_, fun i o' e' => ?_, fun i j hi hj q => ?_⟩, ?_, ?_⟩
          · rw [List.length_append, lt]
            exact Nat.le_add_right _ _
          · rw [List.length_append, lt, List.length_singleton] at h2
            have : i = S.length := by omega
            subst this
            rw [ext_eq]
            exact g.new k hk hk1
          · have h1 := (List.getElem?_eq_some_iff.mp e1).1
            rw [List.getElem?_append_left (by rw [lt]; exact h1)] at e2
            exact gT.tm i hi n o1 o2 e1 e2 c1
          · rcases get_app e' with ⟨hi, e'⟩ | ⟨rfl, rfl⟩
            · rw [lt] at hi
              exact (sT.cell i o' e').tk (n := S.length) TupR.refl same (low i o' hi (getT i o' e').2) (same i hi) rfl
            · rw [lt]
              exact (s1.cell k o' e).tk (n := S.length) TupR.refl same ho ext_eq rfl
          · rw [List.length_append, lt]
            rcases get_app e' with ⟨hi, e'⟩ | ⟨rfl, rfl⟩
            · rw [lt] at hi
              exact SO.cl_mono (Nat.le_add_right _ _) (low i o' hi (getT i o' e').2)
            · exact SO.cl_mono (Nat.le_add_right _ _) ho
          · rw [List.length_append, lt, List.length_singleton] at hi hj
            have gl := g.len
            by_cases h1 : i < S.length
            · by_cases h2 : j < S.length
              · rw [same i h1, same j h2] at q
                exact s1.inj i j (by omega) (by omega) q
              · have : j = S.length := by omega
                subst this
                rw [same i h1, ext_eq] at q
                have := s1.inj i k (by omega) hk1 q
                omega
            · have : i = S.length := by omega
              subst this
              by_cases h2 : j < S.length
              · rw [same j h2, ext_eq] at q
                have := s1.inj k j hk1 (by omega) q
                omega
              · omega
          · show x = .ref (ext β1 S.length (β1 k) S.length)
            rw [ext_eq]
            exact r
          · rw [List.length_append, lt]
            exact decide_eq_true (by simp)
        · rw [if_neg ho] at hg
          exact keep hg
    | non => exact keep hg
    | bl b => exact keep hg
    | int i => exact keep hg
    | str z => exact keep hg
    | tup ds => exact keep hg
end
end Z
end
section
set_option Elab.async false
set_option linter.all false
set_option autoImplicit false
/-! operations: what they ask is met -/
namespace Z
open PySem L2

/-- what is wanted behind an expression -/
def Kt (K : PySem.W.Frag) (base : Nat) (β : Nat → Addr) (S : Sto) (H : Hp) (S' : Sto) (d : D) (Q : VK) : Prop :=
  ∀ (β' : Nat → Addr) (v : V) (H' : Hp), Gr base β S H β' S' H' → Sim K β' S' H' → Rep K β' H' d v → d.cl S'.length = true → Q v H'

section
variable {K : PySem.W.Frag} {β β1 β2 : Nat → Addr} {H H1 H2 : Hp} {S S' S1 S2 : Sto} {base n m : Nat} {Q : VK} {d : D} {v : V}

theorem Kt.here (k : Kt K base β S H S d Q) (s : Sim K β S H) (r : Rep K β H d v) (c : d.cl S.length = true) : Q v H := k β v H Gr.refl s r c
theorem Kt.list {xs : List D} {vs : List V} (k : Kt K base β S H (S ++ [.lst xs]) (.ref S.length) Q) (s : Sim K β S H) (r : Reps K β H xs vs) (c : clL S.length xs = true) : ∀ p, H p = none → Q (.ref p) (upd H p (.lst vs)) := fun p hp => by
  have t : TupK H (upd H p (.lst vs)) := TupK.new hp
  obtain ⟨s', g⟩ := s.add (base := base) (u := .lst vs) (o := .lst xs) hp c ⟨vs, upd_same, Reps.tk t.r (n := S.length) (fun _ _ => rfl) xs vs c r⟩
  refine k _ _ _ g s' ?_ (decide_eq_true (by simp))
  show V.ref p = .ref (ext β S.length p S.length)
  rw [ext_eq]
theorem Kt.tuple {ds : List D} {vs : List V} (k : Kt K base β S H S (.tup ds) Q) (s : Sim K β S H) (r : Reps K β H ds vs) (c : clL S.length ds = true) : ∀ p, H p = none → Q (.ref p) (upd H p (.tup vs)) := fun p hp => by
  have t : TupK H (upd H p (.tup vs)) := TupK.new hp
  obtain ⟨s', g⟩ := s.tup (base := base) (vs := vs) hp
  exact k _ _ _ g s' ⟨p, vs, rfl, SqT.of upd_same, Reps.tk t.r (n := S.length) (fun _ _ => rfl) ds vs c r⟩ c
theorem Kt.fin {w : D} (k : Kt K base β S H S' d Q) (hg : Z.gc S.length (some (w, S2)) = some (d, S')) (s : Sim K β S H) (g : Gr S.length β S H β1 S1 H1) : Kt K S.length β1 S1 H1 S2 w Q := fun β2 u H2 g2 s2 r c => by
  obtain ⟨β', g', s', r', c'⟩ := gc_ok (base := base) hg (g.trans g2) s s2 r c
  exact k β' u H2 g' s' r' c'

theorem Sim.lst {i : Nat} {xs : List D} (s : Sim K β S H) (e : S[i]? = some (.lst xs)) : ∃ vs, H (β i) = some (.lst vs) ∧ Reps K β H xs vs ∧ clL S.length xs = true := by
  obtain ⟨vs, h, r⟩ := s.cell i _ e
  exact ⟨vs, h, r, s.cl i _ e⟩
theorem Sim.seq {i : Nat} {xs : List D} (s : Sim K β S H) (e : (S[i]?).bind SO.seq? = some xs) : ∃ vs, SqL K H (β i) vs ∧ Reps K β H xs vs ∧ clL S.length xs = true := by
  cases q : S[i]? with
  | none => rw [q] at e; cases e
  | some o =>
    rw [q] at e
    have e' : o.seq? = some xs := e
    cases o with
    | lst ys =>
      cases e'
      obtain ⟨vs, h, r⟩ := s.cell i _ q
      exact ⟨vs, .inl (.inl h), r, s.cl i _ q⟩
    | fro ys =>
      cases e'
      obtain ⟨o, vs, h, r⟩ := s.cell i _ q
      exact ⟨vs, .inl (.inr ⟨o, h⟩), r, s.cl i _ q⟩
    | dct kvs => cases e'
    | fdc kvs => cases e'
theorem itemsOf_ok {xs : List D} (s : Sim K β S H) (e : itemsOf S d = some xs) (r : Rep K β H d v) (c : d.cl S.length = true) :
    ∃ a vs, v = .ref a ∧ (SqL K H a vs ∨ SqT K H a vs) ∧ Reps K β H xs vs ∧ clL S.length xs = true ∧ ((∃ i, d = .ref i ∧ SqL K H a vs) ∨ (d = .tup xs ∧ SqT K H a vs)) := by
  cases d with
  | tup ds =>
    cases e
    obtain ⟨a, vs, rfl, q, rs⟩ := r
    exact ⟨a, vs, rfl, .inr q, rs, c, .inr ⟨rfl, q⟩⟩
  | ref i =>
    obtain ⟨vs, q, rs, cs⟩ := s.seq (show (S[i]?).bind SO.seq? = some xs from e)
    exact ⟨β i, vs, r, .inl q, rs, cs, .inl ⟨i, rfl, q⟩⟩
  | _ => cases e

/-! ### flat values -/
theorem eqF_eqV : ∀ {x y : D} {u w : V}, flatD x = true → flatD y = true → Rep K β H x u → Rep K β H y w → eqV u w = eqF x y := by
  intro x y u w fx fy rx ry
  cases x with
  | non =>
    cases (show u = .non from rx)
    cases y with
    | non => cases (show w = .non from ry); rfl
    | bl b => cases (show w = .bl b from ry); rfl
    | int b => cases (show w = .int b from ry); rfl
    | str b => cases (show w = .str b from ry); rfl
    | tup b => cases fy
    | ref b => cases fy
  | bl a =>
    cases (show u = .bl a from rx)
    cases y with
    | non => cases (show w = .non from ry); rfl
    | bl b => cases (show w = .bl b from ry); rfl
    | int b => cases (show w = .int b from ry); rfl
    | str b => cases (show w = .str b from ry); rfl
    | tup b => cases fy
    | ref b => cases fy
  | int a =>
    cases (show u = .int a from rx)
    cases y with
    | non => cases (show w = .non from ry); rfl
    | bl b => cases (show w = .bl b from ry); rfl
    | int b => cases (show w = .int b from ry); rfl
    | str b => cases (show w = .str b from ry); rfl
    | tup b => cases fy
    | ref b => cases fy
  | str a =>
    cases (show u = .str a from rx)
    cases y with
    | non => cases (show w = .non from ry); rfl
    | bl b => cases (show w = .bl b from ry); rfl
    | int b => cases (show w = .int b from ry); rfl
    | str b => cases (show w = .str b from ry); rfl
    | tup b => cases fy
    | ref b => cases fy
  | tup a => cases fx
  | ref a => cases fx
theorem flat_flat {x : D} {u : V} (r : Rep K β H x u) (f : flatD x = true) : flatV u = true := by
  cases x with
  | non => cases (show u = .non from r); rfl
  | bl b => cases (show u = .bl b from r); rfl
  | int b => cases (show u = .int b from r); rfl
  | str b => cases (show u = .str b from r); rfl
  | tup b => cases f
  | ref b => cases f
theorem flats_flats : ∀ {xs : List D} {us : List V}, Reps K β H xs us → xs.all flatD = true → us.all flatV = true
  | [], us, r, _ => by cases (show us = [] from r); rfl
  | x :: xs, us, r, f => by
    obtain ⟨y, q, rfl, r1, r2⟩ := (show ∃ y q, us = y :: q ∧ Rep K β H x y ∧ Reps K β H xs q from r)
    rw [List.all_cons, Bool.and_eq_true] at f
    rw [List.all_cons, flat_flat r1 f.1, flats_flats r2 f.2]
    rfl
theorem any_flat {x : D} {u : V} (rx : Rep K β H x u) (fx : flatD x = true) : ∀ {xs : List D} {us : List V}, Reps K β H xs us → xs.all flatD = true → inV u us = xs.any fun z => eqF z x
  | [], us, r, _ => by cases (show us = [] from r); rfl
  | z :: xs, us, r, f => by
    obtain ⟨y, q, rfl, r1, r2⟩ := (show ∃ y q, us = y :: q ∧ Rep K β H z y ∧ Reps K β H xs q from r)
    rw [List.all_cons, Bool.and_eq_true] at f
    have ih := any_flat rx fx r2 f.2
    show (eqV y u || inV u q) = (eqF z x || xs.any fun z => eqF z x)
    rw [ih, eqF_eqV f.1 fx r1 rx]

/-! ### data -/
def RdOk (K : PySem.W.Frag) (β : Nat → Addr) (H : Hp) (f : Nat → Option PyData) : Prop := ∀ i p, f i = some p → Dp K H (.ref (β i)) p
mutual
theorem pyD_ok {f : Nat → Option PyData} (h : RdOk K β H f) : ∀ (d : D) (v : V) (p : PyData), pyD f d = some p → Rep K β H d v → Dp K H v p
  | .non, v, p, e, r => by cases e; cases (show v = .non from r); exact .non
  | .bl b, v, p, e, r => by cases e; cases (show v = .bl b from r); exact .bl b
  | .int b, v, p, e, r => by cases e; cases (show v = .int b from r); exact .int b
  | .str b, v, p, e, r => by cases e; cases (show v = .str b from r); exact .str b
  | .ref i, v, p, e, r => by cases (show v = .ref (β i) from r); exact h i p e
  | .tup ds, v, p, e, r => by
    obtain ⟨a, vs, rfl, q, rs⟩ := (show ∃ a vs, v = .ref a ∧ SqT K H a vs ∧ Reps K β H ds vs from r)
    have e' : (pyL f ds).map PyData.tuple = some p := e
    cases q2 : pyL f ds with
    | none => rw [q2] at e'; cases e'
    | some ps =>
      rw [q2] at e'
      cases e'
      exact .tup q (pyL_ok h ds vs ps q2 rs)
theorem pyL_ok {f : Nat → Option PyData} (h : RdOk K β H f) : ∀ (ds : List D) (vs : List V) (ps : List PyData), pyL f ds = some ps → Reps K β H ds vs → DpAll K H vs ps
  | [], vs, ps, e, r => by cases e; cases (show vs = [] from r); exact .nil
  | d :: ds, vs, ps, e, r => by
    obtain ⟨x, q, rfl, r1, r2⟩ := (show ∃ x q, vs = x :: q ∧ Rep K β H d x ∧ Reps K β H ds q from r)
    rw [pyL] at e
    cases q1 : pyD f d with
    | none => rw [q1] at e; cases e
    | some p =>
      cases q2 : pyL f ds with
      | none => rw [q1, q2] at e; cases e
      | some ps' =>
        rw [q1, q2] at e
        cases e
        exact .cons (pyD_ok h d x p q1 r1) (pyL_ok h ds q ps' q2 r2)
end
theorem rdS_ok (s : Sim K β S H) : ∀ n : Nat, RdOk K β H (rdS S n)
  | 0 => fun _ _ e => by cases e
  | n + 1 => fun i p e => by
    have e' : (((S[i]?).bind SO.seq?).bind fun xs => (pyL (rdS S n) xs).map PyData.list) = some p := e
    cases q : (S[i]?).bind SO.seq? with
    | none => rw [q] at e'; cases e'
    | some xs =>
      rw [q] at e'
      have e2 : (pyL (rdS S n) xs).map PyData.list = some p := e'
      obtain ⟨vs, h, r, _⟩ := s.seq q
      cases q2 : pyL (rdS S n) xs with
      | none => rw [q2] at e2; cases e2
      | some ps =>
        rw [q2] at e2
        cases e2
        exact .lst h (pyL_ok (rdS_ok s n) xs vs ps q2 r)
theorem py_ok (s : Sim K β S H) {p : PyData} (e : py S d = some p) (r : Rep K β H d v) : Dp K H v p := pyD_ok (rdS_ok s 8) d v p e r
theorem eqD_ok {x y : D} {u w : V} {b : Bool} (s : Sim K β S H) (e : eqD S x y = some b) (rx : Rep K β H x u) (ry : Rep K β H y w) :
    ∃ p q, Dp K H u p ∧ Dp K H w q ∧ SeqAt.shaped p = true ∧ SeqAt.shaped q = true ∧ PyData.eqv p q = b := by
  unfold eqD at e
  cases q1 : py S x with
  | none => rw [q1] at e; cases e
  | some p =>
    cases q2 : py S y with
    | none => rw [q1, q2] at e; cases e
    | some q =>
      rw [q1, q2] at e
      simp only at e
      by_cases h : (SeqAt.shaped p && SeqAt.shaped q) = true
      · rw [if_pos h] at e
        rw [Bool.and_eq_true] at h
        cases e
        exact ⟨p, q, py_ok s q1 rx, py_ok s q2 ry, h.1, h.2, rfl⟩
      · rw [if_neg h] at e
        cases e
end
end Z
end
section
set_option Elab.async false
set_option linter.all false
set_option autoImplicit false
/-! operators, built-ins: the rules meet the store's words -/
namespace Z
open PySem L2

theorem lim_line {n : Nat} (h : n ≤ lim) : n ≤ sizeLine := Nat.le_trans h (by rw [sizeLine_eq]; decide)
theorem lim_line' {n : Nat} (h : n < lim) : n < sizeLine := Nat.lt_of_lt_of_le h (by rw [sizeLine_eq]; decide)

section
variable {X : Cx} {β : Nat → Addr} {H : Hp} {S S' : Sto} {base : Nat} {Q : VK} {d x y : D} {u w : V}

theorem OpR.no {f : Value → Value → Sem Value} : OpR X f (fun _ _ _ _ => False) := fun _ _ _ _ _ _ _ _ _ _ _ _ h => h.elim
theorem UnR.no {f : Value → Sem Value} : UnR X f (fun _ _ _ => False) := fun _ _ _ _ _ _ _ _ _ h => h.elim

/-- a two-place operator meets binF -/
def BinOk (X : Cx) (op : Operator) (r : R2) : Prop := ∀ {β : Nat → Addr} {H : Hp} {S S' : Sto} {base : Nat} {Q : VK} {d x y : D} {u w : V}, Sim X.K β S H → binF op x y S = some (d, S') →
  Rep X.K β H x u → Rep X.K β H y w → x.cl S.length = true → y.cl S.length = true → Kt X.K base β S H S' d Q → r u w H Q

theorem bin_int {op : Operator} {r : R2} (h : ∀ {i j : Int} {S S' : Sto} {d : D}, binF op (.int i) (.int j) S = some (d, S') → S' = S ∧ ∃ k : Int, d = .int k ∧ ∀ (H : Hp) (Q : VK), Q (.int k) H → r (.int i) (.int j) H Q)
    (o : ∀ {x y : D} {S : Sto} {z : D × Sto}, binF op x y S = some z → ∃ i j, x = .int i ∧ y = .int j) : BinOk X op r := by
  intro β H S S' base Q d x y u w s e rx ry cx cy k
  obtain ⟨i, j, rfl, rfl⟩ := o e
  obtain ⟨rfl, m, rfl, q⟩ := h e
  cases (show u = .int i from rx)
  cases (show w = .int j from ry)
  exact q H Q (k.here s (v := .int m) rfl rfl)
theorem bin_shape {op : Operator} {x y : D} {S : Sto} {z : D × Sto} (e : binF op x y S = some z) : (∃ i j, x = .int i ∧ y = .int j) ∨ (∃ a b, x = .tup a ∧ y = .tup b) ∨ (∃ a k, x = .tup a ∧ y = .int k) ∨ ∃ i j, x = .ref i ∧ y = .ref j := by
  cases x <;> cases y <;> first
    | exact .inl ⟨_, _, rfl, rfl⟩
    | exact .inr (.inl ⟨_, _, rfl, rfl⟩)
    | exact .inr (.inr (.inl ⟨_, _, rfl, rfl⟩))
    | exact .inr (.inr (.inr ⟨_, _, rfl, rfl⟩))
    | cases e
theorem bin_only {op : Operator} {x y : D} {S : Sto} {z : D × Sto} (h1 : op ≠ .Add) (h2 : op ≠ .Mult) (e : binF op x y S = some z) : ∃ i j, x = .int i ∧ y = .int j := by
  rcases bin_shape e with h | ⟨a, b, rfl, rfl⟩ | ⟨a, k, rfl, rfl⟩ | ⟨i, j, rfl, rfl⟩
  · exact h
  · cases op <;> first | exact absurd rfl h1 | exact absurd rfl h2 | cases e
  · cases op <;> first | exact absurd rfl h1 | exact absurd rfl h2 | cases e
  · cases op <;> first | exact absurd rfl h1 | exact absurd rfl h2 | (unfold binF at e; simp at e)

def rBin (K : PySem.W.Frag) : Operator → R2
  | .Add => fun x y H Q => (rI0 (fun i j => .int (i + j)) x y H Q ∨ rCatA K x y H Q) ∨ rCat x y H Q
  | .Sub => rI0 fun i j => .int (i - j)
  | .Mult => fun x y H Q => rI CMulW (fun i j => .int (i * j)) x y H Q ∨ rRepT K x y H Q
  | .FloorDiv => rI CDivW fun i j => .int (i / j)
  | .Mod => rI (fun _ j => 0 < j) fun i j => .int (i % j)
  | .Pow => rI CPow fun i j => .int (i ^ j.toNat)
  | .LShift => rI CPow fun i j => .int (i * 2 ^ j.toNat)
  | .RShift => rI (fun _ j => 0 ≤ j) fun i j => .int (i / 2 ^ j.toNat)
  | .BitAnd => rI0 fun i j => .int (Builtin.bitAnd i j)
  | .BitOr => rI0 fun i j => .int (Builtin.bitOr i j)
  | .BitXor => rI0 fun i j => .int (Builtin.bitXor i j)
  | _ => fun _ _ _ _ => False
theorem op_bin (op : Operator) : OpR X (binaryOp op) (rBin X.K op) := by
  cases op
  case Add => exact (OpR.or (OpR.or op_add op_catA) op_cat)
  case Sub => exact op_sub
  case Mult => exact OpR.or op_mulW op_repT
  case FloorDiv => exact op_fdivW
  case Mod => exact op_mod
  case Pow => exact op_pow
  case LShift => exact op_shl
  case RShift => exact op_shr
  case BitAnd => exact op_and
  case BitOr => exact op_or
  case BitXor => exact op_xor
  all_goals exact OpR.no
theorem ite_some {α : Type} {c : Prop} [Decidable c] {a b : α} (h : (if c then some a else none) = some b) : c ∧ a = b := by
  by_cases hc : c
  · rw [if_pos hc] at h
    exact ⟨hc, Option.some.inj h⟩
  · rw [if_neg hc] at h
    cases h
theorem bin_ok (op : Operator) : BinOk X op (rBin X.K op) := by
  cases op
  case Sub => exact bin_int (fun e => by cases e; exact ⟨rfl, _, rfl, fun _ _ q => ⟨_, _, rfl, rfl, q⟩⟩) (bin_only (by decide) (by decide))
  case FloorDiv => exact bin_int (fun e => by obtain ⟨c, e⟩ := ite_some e; cases e; exact ⟨rfl, _, rfl, fun _ _ q => ⟨_, _, rfl, rfl, c, q⟩⟩) (bin_only (by decide) (by decide))
  case Mod => exact bin_int (fun e => by obtain ⟨c, e⟩ := ite_some e; cases e; exact ⟨rfl, _, rfl, fun _ _ q => ⟨_, _, rfl, rfl, c, q⟩⟩) (bin_only (by decide) (by decide))
  case Pow => exact bin_int (fun e => by obtain ⟨c, e⟩ := ite_some e; cases e; exact ⟨rfl, _, rfl, fun _ _ q => ⟨_, _, rfl, rfl, c, q⟩⟩) (bin_only (by decide) (by decide))
  case LShift => exact bin_int (fun e => by obtain ⟨c, e⟩ := ite_some e; cases e; exact ⟨rfl, _, rfl, fun _ _ q => ⟨_, _, rfl, rfl, c, q⟩⟩) (bin_only (by decide) (by decide))
  case RShift => exact bin_int (fun e => by obtain ⟨c, e⟩ := ite_some e; cases e; exact ⟨rfl, _, rfl, fun _ _ q => ⟨_, _, rfl, rfl, c, q⟩⟩) (bin_only (by decide) (by decide))
  case BitAnd => exact bin_int (fun e => by cases e; exact ⟨rfl, _, rfl, fun _ _ q => ⟨_, _, rfl, rfl, q⟩⟩) (bin_only (by decide) (by decide))
  case BitOr => exact bin_int (fun e => by cases e; exact ⟨rfl, _, rfl, fun _ _ q => ⟨_, _, rfl, rfl, q⟩⟩) (bin_only (by decide) (by decide))
  case BitXor => exact bin_int (fun e => by cases e; exact ⟨rfl, _, rfl, fun _ _ q => ⟨_, _, rfl, rfl, q⟩⟩) (bin_only (by decide) (by decide))
  case Add =>
    intro β H S S' base Q d x y u w s e rx ry cx cy k
    rcases bin_shape e with ⟨i, j, rfl, rfl⟩ | ⟨a, b, rfl, rfl⟩ | ⟨a, m, rfl, rfl⟩ | ⟨i, j, rfl, rfl⟩
    · cases e
      cases (show u = .int i from rx)
      cases (show w = .int j from ry)
      exact .inl (.inl ⟨i, j, rfl, rfl, k.here s (v := .int (i + j)) rfl rfl⟩)
    · obtain ⟨c, e⟩ := ite_some e
      cases e
      obtain ⟨p, vs, rfl, h1, r1⟩ := (show ∃ p vs, u = .ref p ∧ SqT X.K H p vs ∧ Reps X.K β H a vs from rx)
      obtain ⟨q, ws, rfl, h2, r2⟩ := (show ∃ p vs, w = .ref p ∧ SqT X.K H p vs ∧ Reps X.K β H b vs from ry)
      have cab : clL S.length (a ++ b) = true := clL_of fun z hz => by
        rcases List.mem_append.mp hz with hz | hz
        · exact clL_mem cx z hz
        · exact clL_mem cy z hz
      refine .inl (.inr ⟨p, q, vs, ws, rfl, rfl, h1, h2, ?_, fun e => ?_, fun _ e => ?_, fun _ _ => ?_⟩)
      · rw [← r1.length, ← r2.length]
        exact lim_line c
      · subst e
        have : a = [] := List.length_eq_zero_iff.mp r1.length
        subst this
        exact k.here s (v := .ref q) ⟨q, ws, rfl, h2, r2⟩ cab
      · subst e
        have : b = [] := List.length_eq_zero_iff.mp r2.length
        subst this
        rw [List.append_nil] at k cab
        exact k.here s (v := .ref p) ⟨p, vs, rfl, h1, r1⟩ cab
      · exact k.tuple s (r1.append r2) cab
    · cases e
    · have e' : (match S[i]?, S[j]? with
        | some (.lst a), some (.lst b) => if a.length + b.length ≤ lim then new S (.lst (a ++ b)) else none
        | _, _ => none) = some (d, S') := by
        unfold binF at e
        simp only at e
        split at e
        · rename_i a b e1 e2
          rw [e1, e2]
          exact e
        · cases e
      cases q1 : S[i]? with
      | none => rw [q1] at e'; cases e'
      | some o1 =>
        cases o1 with
        | lst a =>
          cases q2 : S[j]? with
          | none => rw [q1, q2] at e'; cases e'
          | some o2 =>
            cases o2 with
            | lst b =>
              rw [q1, q2] at e'
              obtain ⟨c, e2⟩ := ite_some e'
              cases e2
              obtain ⟨vs, h1, r1, c1⟩ := s.lst q1
              obtain ⟨ws, h2, r2, c2⟩ := s.lst q2
              cases (show u = .ref (β i) from rx)
              cases (show w = .ref (β j) from ry)
              refine .inr ⟨β i, β j, vs, ws, rfl, rfl, h1, h2, ?_, ?_⟩
              · rw [← r1.length, ← r2.length]
                exact lim_line c
              · exact k.list s (r1.append r2) (clL_of fun z hz => by
                  rcases List.mem_append.mp hz with hz | hz
                  · exact clL_mem c1 z hz
                  · exact clL_mem c2 z hz)
            | fro b => rw [q1, q2] at e'; cases e'
            | dct b => rw [q1, q2] at e'; cases e'
            | fdc b => rw [q1, q2] at e'; cases e'
        | fro a => rw [q1] at e'; cases e'
        | dct a => rw [q1] at e'; cases e'
        | fdc a => rw [q1] at e'; cases e'
  case Mult =>
    intro β H S S' base Q d x y u w s e rx ry cx cy k
    rcases bin_shape e with ⟨i, j, rfl, rfl⟩ | ⟨a, b, rfl, rfl⟩ | ⟨a, m, rfl, rfl⟩ | ⟨i, j, rfl, rfl⟩
    · obtain ⟨c, e⟩ := ite_some e
      cases e
      cases (show u = .int i from rx)
      cases (show w = .int j from ry)
      exact .inl ⟨i, j, rfl, rfl, c, k.here s (v := .int (i * j)) rfl rfl⟩
    · cases e
    · obtain ⟨⟨c1, c2, c3, c4, c5⟩, e⟩ := ite_some e
      cases e
      obtain ⟨p, vs, rfl, h1, r1⟩ := (show ∃ p vs, u = .ref p ∧ SqT X.K H p vs ∧ Reps X.K β H a vs from rx)
      cases (show w = .int m from ry)
      refine .inr ⟨p, m, vs, rfl, rfl, h1, fun z => c1 ?_, c2, c3, by rw [← r1.length]; exact c4, ?_⟩
      · subst z
        exact List.length_eq_zero_iff.mp r1.length
      · exact k.tuple s (r1.flat _) (clL_of fun z hz => by
          obtain ⟨l, hl, hz⟩ := List.mem_flatten.mp hz
          rw [(List.mem_replicate.mp hl).2] at hz
          exact clL_mem cx z hz)
    · unfold binF at e
      simp at e
  all_goals
    intro β H S S' base Q d x y u w s e rx ry cx cy k
    exfalso
    rcases bin_shape e with ⟨i, j, rfl, rfl⟩ | ⟨a, b, rfl, rfl⟩ | ⟨a, m, rfl, rfl⟩ | ⟨i, j, rfl, rfl⟩ <;> (unfold binF at e; simp at e)

/-! ### one-place -/
def rUnF : UnaryOp → V → Hp → VK → Prop
  | .USub => rU fun i => .int (-i)
  | .Invert => rU fun i => .int (Builtin.bitNot i)
  | _ => fun _ _ _ => False
theorem un_op (op : UnaryOp) : UnR X (unaryOp op) (rUnF op) := by
  cases op
  case USub => exact un_neg
  case Invert => exact un_inv
  all_goals exact UnR.no
theorem un_ok {op : UnaryOp} {z : D} (s : Sim X.K β S H) (e : unF op x = some z) (rx : Rep X.K β H x u) (k : Kt X.K base β S H S z Q) : rUnF op u H Q := by
  cases x with
  | int i =>
    cases (show u = .int i from rx)
    cases op with
    | USub => cases e; exact ⟨i, rfl, k.here s (v := .int (-i)) rfl rfl⟩
    | Invert => cases e; exact ⟨i, rfl, k.here s (v := .int (Builtin.bitNot i)) rfl rfl⟩
    | _ => cases e
  | _ => cases e

/-! ### comparisons -/
def rCmpF (K : PySem.W.Frag) : CmpOp → R2
  | .Eq => rEqD K
  | .NotEq => rNeD K
  | .In => fun x y H Q => rIn K false x y H Q ∨ rInD K x y H Q
  | .NotIn => fun x y H Q => rIn K true x y H Q ∨ rNotInD K x y H Q
  | .Is => fun x y H Q => y = .non ∧ Q (.bl (decide (x = .non))) H
  | .IsNot => fun x y H Q => y = .non ∧ Q (.bl (!decide (x = .non))) H
  | .Lt => rI0 fun i j => .bl (decide (i < j))
  | .LtE => rI0 fun i j => .bl (decide (i ≤ j))
  | .Gt => rI0 fun i j => .bl (decide (j < i))
  | .GtE => rI0 fun i j => .bl (decide (j ≤ i))
theorem op_cmp (hu : X.A.units + 65 < cLine) (op : CmpOp) : OpR X (compareOp op) (rCmpF X.K op) := by
  have hu2 : X.A.units + 64 < cLine := by omega
  cases op
  case Eq => exact op_eqD hu2
  case NotEq => exact op_neD hu2
  case In => exact OpR.or op_in_seq (op_inD hu)
  case NotIn => exact OpR.or op_notIn_seq (op_notInD hu)
  case Is => exact op_isN
  case IsNot => exact op_notN
  case Lt => exact op_lt
  case LtE => exact op_le
  case Gt => exact op_gt
  case GtE => exact op_ge
theorem rep_non (rx : Rep X.K β H x u) : decide (u = .non) = isNon x := by
  cases x with
  | non => cases (show u = .non from rx); rfl
  | bl b => cases (show u = .bl b from rx); rfl
  | int b => cases (show u = .int b from rx); rfl
  | str b => cases (show u = .str b from rx); rfl
  | tup b => obtain ⟨a, vs, rfl, _⟩ := rx; rfl
  | ref b => cases (show u = .ref (β b) from rx); rfl
theorem int_shape {α : Type} {x y : D} {f : Int → Int → α} {z : α} (e : (match x, y with
    | .int i, .int j => some (f i j)
    | _, _ => none) = some z) : ∃ i j, x = .int i ∧ y = .int j ∧ f i j = z := by
  cases x <;> cases y <;> first
    | exact ⟨_, _, rfl, rfl, Option.some.inj e⟩
    | cases e
theorem inD_ok {b : Bool} (s : Sim X.K β S H) (e : inD S x y = some b) (rx : Rep X.K β H x u) (ry : Rep X.K β H y w) (cy : y.cl S.length = true) :
    (∃ p vs, w = .ref p ∧ (SqL X.K H p vs ∨ SqT X.K H p vs) ∧ flatV u = true ∧ vs.all flatV = true ∧ inV u vs = b) ∨
    (∃ d ds, Dp X.K H u d ∧ Dp X.K H w (.list ds) ∧ SeqAt.shaped d = true ∧ SeqAt.shaped (.list ds) = true ∧ (ds.any fun z => PyData.eqv z d) = b) := by
  unfold inD at e
  cases q : itemsOf S y with
  | none => rw [q] at e; cases e
  | some xs =>
    rw [q] at e
    simp only [Option.bind_some] at e
    obtain ⟨p, vs, rfl, hq, rs, cs, _⟩ := itemsOf_ok s q ry cy
    by_cases hf : (flatD x && xs.all flatD) = true
    · rw [if_pos hf] at e
      rw [Bool.and_eq_true] at hf
      exact .inl ⟨p, vs, rfl, hq, flat_flat rx hf.1, flats_flats rs hf.2, (any_flat rx hf.1 rs hf.2).trans (Option.some.inj e)⟩
    · rw [if_neg hf] at e
      cases y with
      | ref i =>
        simp only at e
        split at e
        · rename_i a bs e1 e2
          obtain ⟨c, e⟩ := ite_some e
          rw [Bool.and_eq_true] at c
          exact .inr ⟨a, bs, py_ok s e1 rx, py_ok s e2 ry, c.1, c.2, e⟩
        · cases e
      | _ => cases e
theorem cmp_ok {op : CmpOp} {b : Bool} (s : Sim X.K β S H) (e : cmpF op x y S = some b) (rx : Rep X.K β H x u) (ry : Rep X.K β H y w) (cy : y.cl S.length = true) (k : Kt X.K base β S H S (.bl b) Q) : rCmpF X.K op u w H Q := by
  have fin : Q (.bl b) H := k.here s (v := .bl b) rfl rfl
  cases op with
  | Eq =>
    obtain ⟨p, q, h1, h2, h3, h4, h5⟩ := eqD_ok s e rx ry
    exact ⟨p, q, h1, h2, h3, h4, by rw [h5]; exact fin⟩
  | NotEq =>
    have e' : (eqD S x y).map (!·) = some b := e
    cases q : eqD S x y with
    | none => rw [q] at e'; cases e'
    | some c =>
      rw [q] at e'
      cases e'
      obtain ⟨p, q, h1, h2, h3, h4, h5⟩ := eqD_ok s q rx ry
      exact ⟨p, q, h1, h2, h3, h4, by rw [h5]; exact fin⟩
  | In =>
    rcases inD_ok s e rx ry cy with ⟨p, vs, rfl, h1, h2, h3, h4⟩ | ⟨p, q, h1, h2, h3, h4, h5⟩
    · exact .inl ⟨p, vs, rfl, h1, h2, h3, by rw [h4]; exact fin⟩
    · exact .inr ⟨p, q, h1, h2, h3, h4, by rw [h5]; exact fin⟩
  | NotIn =>
    have e' : (inD S x y).map (!·) = some b := e
    cases q : inD S x y with
    | none => rw [q] at e'; cases e'
    | some c =>
      rw [q] at e'
      cases e'
      rcases inD_ok s q rx ry cy with ⟨p, vs, rfl, h1, h2, h3, h4⟩ | ⟨p, q, h1, h2, h3, h4, h5⟩
      · exact .inl ⟨p, vs, rfl, h1, h2, h3, by rw [h4]; exact fin⟩
      · exact .inr ⟨p, q, h1, h2, h3, h4, by rw [h5]; exact fin⟩
  | Is =>
    cases y with
    | non =>
      refine ⟨ry, ?_⟩
      rw [rep_non rx, Option.some.inj (show some (isNon x) = some b from e)]
      exact fin
    | _ => cases e
  | IsNot =>
    cases y with
    | non =>
      refine ⟨ry, ?_⟩
      rw [rep_non rx, Option.some.inj (show some (!isNon x) = some b from e)]
      exact fin
    | _ => cases e
  | Lt =>
    obtain ⟨i, j, rfl, rfl, rfl⟩ := int_shape e
    exact ⟨i, j, rx, ry, fin⟩
  | LtE =>
    obtain ⟨i, j, rfl, rfl, rfl⟩ := int_shape e
    exact ⟨i, j, rx, ry, fin⟩
  | Gt =>
    obtain ⟨i, j, rfl, rfl, rfl⟩ := int_shape e
    exact ⟨i, j, rx, ry, fin⟩
  | GtE =>
    obtain ⟨i, j, rfl, rfl, rfl⟩ := int_shape e
    exact ⟨i, j, rx, ry, fin⟩
end
end Z
end
section
set_option Elab.async false
set_option linter.all false
set_option autoImplicit false
/-! built-ins, isinstance, places, slices, methods, truth -/
namespace Z
open PySem L2

theorem CallR.or {X : Cx} {f : Value} {r r' : List V → Hp → VK → Prop} (h : CallR X f r) (h' : CallR X f r') : CallR X f (fun xs H Q => r xs H Q ∨ r' xs H Q) := by
  intro pins s σ H xs us Q I rs q
  rcases q with q | q
  · exact h pins s σ H xs us Q I rs q
  · exact h' pins s σ H xs us Q I rs q

def Bl.v : Bl → Value
  | .len => .builtin "len"
  | .abs => .builtin "abs"
  | .int => .type "int"
  | .bool => .type "bool"
  | .max2 => .builtin "max"
  | .min2 => .builtin "min"
  | .sum => .builtin "sum"
  | .all => .builtin "all"
  | .any => .builtin "any"
  | .tuple => .type "tuple"
  | .list => .type "list"
  | .sorted => .builtin "sorted"
def rBlt (K : PySem.W.Frag) : Bl → List V → Hp → VK → Prop
  | .len => fun xs H Q => ∃ p ys, xs = [.ref p] ∧ (SqL K H p ys ∨ SqT K H p ys) ∧ Q (.int ys.length) H
  | .abs => fun xs H Q => ∃ i, xs = [.int i] ∧ Q (.int (if i < 0 then -i else i)) H
  | .int => fun xs H Q => (∃ i, xs = [.int i] ∧ Q (.int i) H) ∨ ∃ k, xs = [.bl k] ∧ Q (.int (if k then 1 else 0)) H
  | .bool => fun xs H Q => (∃ i, xs = [.int i] ∧ Q (.bl (i != 0)) H) ∨ ∃ k, xs = [.bl k] ∧ Q (.bl k) H
  | .max2 => fun xs H Q => ∃ i j, xs = [.int i, .int j] ∧ Q (.int (if j > i then j else i)) H
  | .min2 => fun xs H Q => ∃ i j, xs = [.int i, .int j] ∧ Q (.int (if j < i then j else i)) H
  | .sum => rSum K
  | .all => rAll K
  | .any => rAny K
  | .tuple => fun xs H Q => ∃ p ys, xs = [.ref p] ∧ ((SqL K H p ys ∧ ∀ l, H l = none → Q (.ref l) (upd H l (.tup ys))) ∨ (SqT K H p ys ∧ Q (.ref p) H))
  | .list => fun xs H Q => ∃ p ys, xs = [.ref p] ∧ (SqL K H p ys ∨ SqT K H p ys) ∧ ∀ l, H l = none → Q (.ref l) (upd H l (.lst ys))
  | .sorted => rSortedI K
section
variable {X : Cx} {β : Nat → Addr} {H : Hp} {S S' : Sto} {base : Nat} {Q : VK} {d x y : D} {u w : V}
theorem call_blt (hc : X.calm = true) (b : Bl) : CallR X b.v (rBlt X.K b) := by
  cases b
  case len => exact call_len_seq
  case abs => exact call_abs
  case int => exact call_int1
  case bool => exact call_bool1
  case max2 => exact call_max2 hc
  case min2 => exact call_min2 hc
  case sum => exact cr_sum hc
  case all => exact cr_all hc
  case any => exact cr_any hc
  case tuple => exact call_tuple_of
  case list => exact call_list_of
  case sorted => exact cr_sortedI

/-! ### sorting -/
theorem insI_perm (x : Int) : ∀ l : List Int, (insI x l).Perm (x :: l)
  | [] => .refl _
  | y :: r => by
    unfold insI
    split
    · exact .refl _
    · exact ((insI_perm x r).cons y).trans (.swap x y r)
theorem sortI_perm : ∀ l : List Int, (sortI l).Perm l
  | [] => .refl _
  | x :: r => (insI_perm x _).trans ((sortI_perm r).cons x)
theorem insI_sorted (x : Int) : ∀ l : List Int, l.Pairwise (· ≤ ·) → (insI x l).Pairwise (· ≤ ·)
  | [], _ => by
    unfold insI
    exact List.pairwise_singleton _ _
  | y :: r, h => by
    unfold insI
    rw [List.pairwise_cons] at h
    split
    · rename_i q
      refine List.pairwise_cons.mpr ⟨fun z hz => ?_, List.pairwise_cons.mpr h⟩
      rcases List.mem_cons.mp hz with rfl | hz
      · exact q
      · exact Int.le_trans q (h.1 z hz)
    · rename_i q
      refine List.pairwise_cons.mpr ⟨fun z hz => ?_, insI_sorted x r h.2⟩
      rcases List.mem_cons.mp ((insI_perm x r).mem_iff.mp hz) with rfl | hz
      · omega
      · exact h.1 z hz
theorem sortI_sorted : ∀ l : List Int, (sortI l).Pairwise (· ≤ ·)
  | [] => .nil
  | x :: r => insI_sorted x _ (sortI_sorted r)
theorem sortI_eq {l m : List Int} (h : m.Perm l) (q : m.Pairwise (· ≤ ·)) : m = sortI l := PySem.W.ksm_same (h.trans (sortI_perm l).symm) q (sortI_sorted l)

/-! ### ints, bools -/
theorem intsOf_map : ∀ {xs : List D} {ns : List Int}, intsOf xs = some ns → xs = ns.map D.int
  | [], ns, e => by cases e; rfl
  | .int i :: r, ns, e => by
    have e' : (intsOf r).map (i :: ·) = some ns := e
    cases q : intsOf r with
    | none => rw [q] at e'; cases e'
    | some ms =>
      rw [q] at e'
      cases e'
      rw [List.map_cons, ← intsOf_map q]
  | .non :: r, ns, e => by cases e
  | .bl b :: r, ns, e => by cases e
  | .str b :: r, ns, e => by cases e
  | .tup b :: r, ns, e => by cases e
  | .ref b :: r, ns, e => by cases e
theorem boolsOf_map : ∀ {xs : List D} {ns : List Bool}, boolsOf xs = some ns → xs = ns.map D.bl
  | [], ns, e => by cases e; rfl
  | .bl i :: r, ns, e => by
    have e' : (boolsOf r).map (i :: ·) = some ns := e
    cases q : boolsOf r with
    | none => rw [q] at e'; cases e'
    | some ms =>
      rw [q] at e'
      cases e'
      rw [List.map_cons, ← boolsOf_map q]
  | .non :: r, ns, e => by cases e
  | .int b :: r, ns, e => by cases e
  | .str b :: r, ns, e => by cases e
  | .tup b :: r, ns, e => by cases e
  | .ref b :: r, ns, e => by cases e
theorem reps_ints {K : PySem.W.Frag} : ∀ {ns : List Int} {vs : List V}, Reps K β H (ns.map D.int) vs → vs = ns.map V.int
  | [], vs, r => r
  | n :: ns, vs, r => by
    obtain ⟨x, q, rfl, r1, r2⟩ := (show ∃ x q, vs = x :: q ∧ Rep K β H (.int n) x ∧ Reps K β H (ns.map D.int) q from r)
    rw [List.map_cons, ← reps_ints r2]
    rw [show x = .int n from r1]
theorem reps_bools {K : PySem.W.Frag} : ∀ {ns : List Bool} {vs : List V}, Reps K β H (ns.map D.bl) vs → vs = ns.map V.bl
  | [], vs, r => r
  | n :: ns, vs, r => by
    obtain ⟨x, q, rfl, r1, r2⟩ := (show ∃ x q, vs = x :: q ∧ Rep K β H (.bl n) x ∧ Reps K β H (ns.map D.bl) q from r)
    rw [List.map_cons, ← reps_bools r2]
    rw [show x = .bl n from r1]
theorem reps_of_ints {K : PySem.W.Frag} : ∀ (ns : List Int), Reps K β H (ns.map D.int) (ns.map V.int)
  | [] => rfl
  | n :: ns => ⟨_, _, rfl, rfl, reps_of_ints ns⟩
theorem cl_ints {n : Nat} : ∀ (ns : List Int), clL n (ns.map D.int) = true
  | [] => rfl
  | _ :: ns => by
    rw [List.map_cons, clL, cl_ints ns]
    rfl
theorem lstOf_ok {K : PySem.W.Frag} {xs : List D} (s : Sim K β S H) (e : lstOf S x = some xs) (r : Rep K β H x u) : ∃ a vs, u = .ref a ∧ SqL K H a vs ∧ Reps K β H xs vs ∧ clL S.length xs = true := by
  cases x with
  | ref i =>
    obtain ⟨vs, h, rs, c⟩ := s.seq (show (S[i]?).bind SO.seq? = some xs from e)
    exact ⟨β i, vs, r, h, rs, c⟩
  | _ => cases e
theorem reps1 {K : PySem.W.Frag} {us : List V} (r : Reps K β H [x] us) : ∃ v, us = [v] ∧ Rep K β H x v := by
  obtain ⟨v, q, rfl, r1, r2⟩ := (show ∃ y q, us = y :: q ∧ Rep K β H x y ∧ Reps K β H [] q from r)
  cases (show q = [] from r2)
  exact ⟨v, rfl, r1⟩
theorem reps2 {K : PySem.W.Frag} {us : List V} (r : Reps K β H [x, y] us) : ∃ v w, us = [v, w] ∧ Rep K β H x v ∧ Rep K β H y w := by
  obtain ⟨v, q, rfl, r1, r2⟩ := (show ∃ z q, us = z :: q ∧ Rep K β H x z ∧ Reps K β H [y] q from r)
  obtain ⟨w, rfl, r3⟩ := reps1 r2
  exact ⟨v, w, rfl, r1, r3⟩
theorem cl1 {n : Nat} (c : clL n [x] = true) : x.cl n = true := clL_mem c x List.mem_cons_self
theorem blt_ok {b : Bl} {vs : List D} {us : List V} (s : Sim X.K β S H) (e : bltF b vs S = some (d, S')) (r : Reps X.K β H vs us) (c : clL S.length vs = true) (k : Kt X.K base β S H S' d Q) : rBlt X.K b us H Q := by
  cases b <;> rcases vs with _ | ⟨x, _ | ⟨y, _ | ⟨z, t⟩⟩⟩
  case len.cons.nil =>
    have e' : (itemsOf S x).map (fun xs => (D.int xs.length, S)) = some (d, S') := e
    cases q : itemsOf S x with
    | none => rw [q] at e'; cases e'
    | some xs =>
      rw [q] at e'
      cases e'
      obtain ⟨v, rfl, r1⟩ := reps1 r
      obtain ⟨a, vs, rfl, h, rs, cs, _⟩ := itemsOf_ok s q r1 (cl1 c)
      exact ⟨a, vs, rfl, h, k.here s (v := .int vs.length) (by rw [rs.length]; rfl) rfl⟩
  case abs.cons.nil =>
    obtain ⟨v, rfl, r1⟩ := reps1 r
    cases x with
    | int i => cases e; cases (show v = .int i from r1); exact ⟨i, rfl, k.here s (v := .int (if i < 0 then -i else i)) rfl rfl⟩
    | _ => cases e
  case int.cons.nil =>
    obtain ⟨v, rfl, r1⟩ := reps1 r
    cases x with
    | int i => cases e; cases (show v = .int i from r1); exact .inl ⟨i, rfl, k.here s (v := .int i) rfl rfl⟩
    | bl i => cases e; cases (show v = .bl i from r1); exact .inr ⟨i, rfl, k.here s (v := .int (if i then 1 else 0)) rfl rfl⟩
    | _ => cases e
  case bool.cons.nil =>
    obtain ⟨v, rfl, r1⟩ := reps1 r
    cases x with
    | int i => cases e; cases (show v = .int i from r1); exact .inl ⟨i, rfl, k.here s (v := .bl (i != 0)) rfl rfl⟩
    | bl i => cases e; cases (show v = .bl i from r1); exact .inr ⟨i, rfl, k.here s (v := .bl i) rfl rfl⟩
    | _ => cases e
  case max2.cons.cons.nil =>
    obtain ⟨v, w, rfl, r1, r2⟩ := reps2 r
    cases x <;> cases y <;> first
      | (cases e; cases r1; cases r2; exact ⟨_, _, rfl, k.here s (v := .int _) rfl rfl⟩)
      | cases e
  case min2.cons.cons.nil =>
    obtain ⟨v, w, rfl, r1, r2⟩ := reps2 r
    cases x <;> cases y <;> first
      | (cases e; cases r1; cases r2; exact ⟨_, _, rfl, k.here s (v := .int _) rfl rfl⟩)
      | cases e
  case sum.cons.nil =>
    obtain ⟨v, rfl, r1⟩ := reps1 r
    have e' : ((lstOf S x).bind intsOf).map (fun ns => (D.int ns.sum, S)) = some (d, S') := e
    cases q : lstOf S x with
    | none => rw [q] at e'; cases e'
    | some xs =>
      rw [q, Option.bind_some] at e'
      cases q2 : intsOf xs with
      | none => rw [q2] at e'; cases e'
      | some ns =>
        rw [q2] at e'
        cases e'
        obtain ⟨a, vs, rfl, h, rs, cs⟩ := lstOf_ok s q r1
        cases intsOf_map q2
        cases reps_ints rs
        exact ⟨a, ns, rfl, h, k.here s (v := .int ns.sum) rfl rfl⟩
  case all.cons.nil =>
    obtain ⟨v, rfl, r1⟩ := reps1 r
    have e' : ((lstOf S x).bind boolsOf).map (fun bs => (D.bl (bs.all id), S)) = some (d, S') := e
    cases q : lstOf S x with
    | none => rw [q] at e'; cases e'
    | some xs =>
      rw [q, Option.bind_some] at e'
      cases q2 : boolsOf xs with
      | none => rw [q2] at e'; cases e'
      | some ns =>
        rw [q2] at e'
        cases e'
        obtain ⟨a, vs, rfl, h, rs, cs⟩ := lstOf_ok s q r1
        cases boolsOf_map q2
        cases reps_bools rs
        exact ⟨a, ns, rfl, h, k.here s (v := .bl (ns.all id)) rfl rfl⟩
  case any.cons.nil =>
    obtain ⟨v, rfl, r1⟩ := reps1 r
    have e' : ((lstOf S x).bind boolsOf).map (fun bs => (D.bl (bs.any id), S)) = some (d, S') := e
    cases q : lstOf S x with
    | none => rw [q] at e'; cases e'
    | some xs =>
      rw [q, Option.bind_some] at e'
      cases q2 : boolsOf xs with
      | none => rw [q2] at e'; cases e'
      | some ns =>
        rw [q2] at e'
        cases e'
        obtain ⟨a, vs, rfl, h, rs, cs⟩ := lstOf_ok s q r1
        cases boolsOf_map q2
        cases reps_bools rs
        exact ⟨a, ns, rfl, h, k.here s (v := .bl (ns.any id)) rfl rfl⟩
  case tuple.cons.nil =>
    obtain ⟨v, rfl, r1⟩ := reps1 r
    have e' : (itemsOf S x).map (fun xs => (D.tup xs, S)) = some (d, S') := e
    cases q : itemsOf S x with
    | none => rw [q] at e'; cases e'
    | some xs =>
      rw [q] at e'
      cases e'
      obtain ⟨a, vs, rfl, h, rs, cs, h2⟩ := itemsOf_ok s q r1 (cl1 c)
      refine ⟨a, vs, rfl, ?_⟩
      rcases h2 with ⟨i, _, h2⟩ | ⟨_, h2⟩
      · exact .inl ⟨h2, k.tuple s rs cs⟩
      · exact .inr ⟨h2, k.here s (v := .ref a) ⟨a, vs, rfl, h2, rs⟩ cs⟩
  case list.cons.nil =>
    obtain ⟨v, rfl, r1⟩ := reps1 r
    have e' : (itemsOf S x).bind (fun xs => new S (.lst xs)) = some (d, S') := e
    cases q : itemsOf S x with
    | none => rw [q] at e'; cases e'
    | some xs =>
      rw [q] at e'
      cases e'
      obtain ⟨a, vs, rfl, h, rs, cs, _⟩ := itemsOf_ok s q r1 (cl1 c)
      exact ⟨a, vs, rfl, h, k.list s rs cs⟩
  case sorted.cons.nil =>
    obtain ⟨v, rfl, r1⟩ := reps1 r
    have e' : ((lstOf S x).bind intsOf).bind (fun ns => new S (.lst ((sortI ns).map .int))) = some (d, S') := e
    cases q : lstOf S x with
    | none => rw [q] at e'; cases e'
    | some xs =>
      rw [q, Option.bind_some] at e'
      cases q2 : intsOf xs with
      | none => rw [q2] at e'; cases e'
      | some ns =>
        rw [q2] at e'
        cases e'
        obtain ⟨a, vs, rfl, h, rs, cs⟩ := lstOf_ok s q r1
        cases intsOf_map q2
        cases reps_ints rs
        refine ⟨a, ns, rfl, h, fun ns' p hp hs hn => ?_⟩
        cases sortI_eq hp hs
        exact k.list s (reps_of_ints _) (cl_ints _) p hn
  all_goals first | cases e | (cases x <;> cases e) | (cases x <;> cases y <;> cases e)

/-! ### isinstance -/
def Ik.n : Ik → String
  | .int => "int"
  | .bool => "bool"
  | .tuple => "tuple"
  | .list => "list"
  | .str => "str"
theorem isi_ok {kk : Ik} {b : Bool} (s : Sim X.K β S H) (e : isiF S x kk = some b) (r : Rep X.K β H x u) (k : Kt X.K base β S H S (.bl b) Q) : rIsi X.K [u, .ty kk.n] H Q := by
  have fin : Q (.bl b) H := k.here s (v := .bl b) rfl rfl
  cases x with
  | non =>
    cases (show u = .non from r)
    cases e
    exact ⟨_, _, _, _, false, rfl, .ty _, .base .non, by cases kk <;> rfl, fin⟩
  | bl z =>
    cases (show u = .bl z from r)
    cases e
    exact ⟨_, _, _, _, _, rfl, .ty _, .base (.bl z), by cases kk <;> rfl, fin⟩
  | int z =>
    cases (show u = .int z from r)
    cases e
    exact ⟨_, _, _, _, _, rfl, .ty _, .base (.int z), by cases kk <;> rfl, fin⟩
  | str z =>
    cases (show u = .str z from r)
    cases e
    exact ⟨_, _, _, _, _, rfl, .ty _, .base (.str z), by cases kk <;> rfl, fin⟩
  | tup ds =>
    obtain ⟨a, vs, rfl, h, rs⟩ := (show ∃ a vs, u = .ref a ∧ SqT X.K H a vs ∧ Reps X.K β H ds vs from r)
    cases e
    rcases h with (h | ⟨o, h⟩) | ⟨o, its, n, h, hc, _⟩
    · exact ⟨_, _, _, _, _, rfl, .ty _, .base (.tup h), by cases kk <;> rfl, fin⟩
    · exact ⟨_, _, _, _, _, rfl, .ty _, .fTuple h, by cases kk <;> rfl, fin⟩
    · exact ⟨_, _, _, _, _, rfl, .ty _, .kTuple h hc, by cases kk <;> rfl, fin⟩
  | ref i =>
    cases (show u = .ref (β i) from r)
    have e' : (match S[i]? with
      | some (.lst _) => some (kk == .list)
      | some (.fro _) => some (kk == .list)
      | some (.dct _) => some false
      | some (.fdc _) => some false
      | none => none) = some b := e
    cases q : S[i]? with
    | none => rw [q] at e'; cases e'
    | some o =>
      rw [q] at e'
      cases o with
      | lst xs =>
        cases e'
        obtain ⟨vs, h, _⟩ := s.cell i _ q
        exact ⟨_, _, _, _, _, rfl, .ty _, .base (.lst h), by cases kk <;> rfl, fin⟩
      | fro xs =>
        cases e'
        obtain ⟨o, vs, h, _⟩ := s.cell i _ q
        exact ⟨_, _, _, _, _, rfl, .ty _, .base (.frz h), by cases kk <;> rfl, fin⟩
      | dct xs =>
        cases e'
        obtain ⟨vs, h, _⟩ := s.cell i _ q
        exact ⟨_, _, _, _, _, rfl, .ty _, .base (.dK h), by cases kk <;> rfl, fin⟩
      | fdc xs =>
        cases e'
        obtain ⟨o, vs, h, _⟩ := s.cell i _ q
        exact ⟨_, _, _, _, _, rfl, .ty _, .fDict h, by cases kk <;> rfl, fin⟩

/-! ### truth -/
theorem str_ne (z : Str) : (z.length != 0) = ((z.length : Int) != 0) := by
  cases h : z.length with
  | zero => rfl
  | succ n =>
    show true = ((((n + 1 : Nat) : Int)) != 0)
    exact (bne_iff_ne.mpr (by omega)).symm
theorem tru_meets {k : Bool} (s : Sim X.K β S H) (e : truF S x = some k) (r : Rep X.K β H x u) : TruV X.K u H k := by
  cases x with
  | non => cases (show u = .non from r); cases e; rfl
  | bl z => cases (show u = .bl z from r); cases e; rfl
  | int z => cases (show u = .int z from r); cases e; rfl
  | str z =>
    cases (show u = .str z from r)
    obtain ⟨c, e⟩ := ite_some e
    exact ⟨lim_line c, by rw [← e]; exact str_ne z⟩
  | tup ds =>
    obtain ⟨a, vs, rfl, h, rs⟩ := (show ∃ a vs, u = .ref a ∧ SqT X.K H a vs ∧ Reps X.K β H ds vs from r)
    cases e
    refine .inr (.inl ⟨vs, h, ?_⟩)
    have := rs.length
    cases ds <;> cases vs <;> first | rfl | cases this
  | ref i =>
    cases (show u = .ref (β i) from r)
    have e' : ((S[i]?).bind fun o => o.seq?.map fun xs => !xs.isEmpty) = some k := e
    cases q : S[i]? with
    | none => rw [q] at e'; cases e'
    | some o =>
      rw [q, Option.bind_some] at e'
      cases q2 : o.seq? with
      | none => rw [q2] at e'; cases e'
      | some xs =>
        rw [q2] at e'
        cases e'
        obtain ⟨vs, h, rs, _⟩ := s.seq (i := i) (xs := xs) (by rw [q]; exact q2)
        refine .inl ⟨vs, h, ?_⟩
        have := rs.length
        cases xs <;> cases vs <;> first | rfl | cases this

/-! ### places -/
theorem atI_map {α : Type} {xs : List α} {i : Int} {z : α} (h : atI xs i = some z) : ∃ j, ixN xs.length i = some j ∧ xs[j]? = some z := by
  unfold atI at h
  cases q : ixN xs.length i with
  | none => rw [q] at h; cases h
  | some j => rw [q] at h; exact ⟨j, rfl, h⟩
theorem ix_ok {z : D} (s : Sim X.K β S H) (e : ixF x y S = some z) (rx : Rep X.K β H x u) (ry : Rep X.K β H y w) (cx : x.cl S.length = true) (k : Kt X.K base β S H S z Q) : rIxL X.K u w H Q ∨ rIxT X.K u w H Q := by
  cases y with
  | int i =>
    have e' : ((itemsOf S x).bind fun xs => atI xs i) = some z := e
    cases (show w = .int i from ry)
    cases q : itemsOf S x with
    | none => rw [q] at e'; cases e'
    | some xs =>
      rw [q, Option.bind_some] at e'
      obtain ⟨a, vs, rfl, h, rs, cs, h2⟩ := itemsOf_ok s q rx cx
      obtain ⟨j, hj, hz⟩ := atI_map e'
      obtain ⟨v, hv, rv⟩ := rs.get hz
      have ea : atI vs i = some v := by
        unfold atI
        rw [← rs.length, hj]
        exact hv
      have fin : Q v H := k.here s rv (clL_mem cs z (List.mem_of_getElem? hz))
      rcases h2 with ⟨_, _, h2⟩ | ⟨_, h2⟩
      · exact .inl ⟨a, vs, i, v, rfl, rfl, h2, ea, fin⟩
      · exact .inr ⟨a, vs, i, v, rfl, rfl, h2, ea, fin⟩
  | _ => cases e

/-! ### slices -/
theorem reps_cut {K : PySem.W.Frag} {ds : List D} {vs : List V} (r : Reps K β H ds vs) (lo hi : Option Int) : Reps K β H (cutL ds lo hi) (cutV vs lo hi) := by
  unfold cutL cutV
  rw [r.length]
  exact (r.drop _).take _
theorem cl_cut {n : Nat} {ds : List D} (c : clL n ds = true) (lo hi : Option Int) : clL n (cutL ds lo hi) = true := clL_of fun z hz => clL_mem c z (List.mem_of_mem_drop (List.mem_of_mem_take hz))
theorem sl_ok {lo hi : Option D} {l h : Option Int} (s : Sim X.K β S H) (el : optI lo = some l) (eh : optI hi = some h) (e : slF x lo hi S = some (d, S')) (rx : Rep X.K β H x u) (cx : x.cl S.length = true) (k : Kt X.K base β S H S' d Q) :
    rSlL X.K u l h H Q ∨ rSlA X.K u l h H Q := by
  unfold slF at e
  rw [el, eh] at e
  cases x with
  | tup ds =>
    cases e
    obtain ⟨a, vs, rfl, q, rs⟩ := (show ∃ a vs, u = .ref a ∧ SqT X.K H a vs ∧ Reps X.K β H ds vs from rx)
    refine .inr ⟨a, vs, rfl, q, fun hw => ?_, fun _ => k.tuple s (reps_cut rs l h) (cl_cut cx l h)⟩
    have e0 : cutL ds l h = ds := by
      unfold cutL
      rw [rs.length, hw.1, hw.2, ← rs.length, List.drop_zero, Nat.sub_zero, List.take_length]
    rw [e0] at k
    exact k.here s (v := .ref a) ⟨a, vs, rfl, q, rs⟩ cx
  | ref i =>
    cases (show u = .ref (β i) from rx)
    have e' : ((S[i]?).bind SO.seq?).bind (fun xs => new S (.lst (cutL xs l h))) = some (d, S') := e
    cases q : (S[i]?).bind SO.seq? with
    | none => rw [q] at e'; cases e'
    | some xs =>
      rw [q] at e'
      cases e'
      obtain ⟨vs, hq, rs, cs⟩ := s.seq q
      exact .inl ⟨β i, vs, rfl, hq, k.list s (reps_cut rs l h) (cl_cut cs l h)⟩
  | _ => cases e
end
end Z
end
section
set_option Elab.async false
set_option linter.all false
set_option autoImplicit false
/-! what an expression asks, and that its evaluation meets it -/
namespace Z
open PySem L2

/-- a def's promise: it does what F does -/
def spOf (K : PySem.W.Frag) (F : List D → Sto → Option (D × Sto)) : Sp := fun vs H Q _ => ∃ (β : Nat → Addr) (S : Sto) (ds : List D) (d : D) (S' : Sto),
  F ds S = some (d, S') ∧ Sim K β S H ∧ Reps K β H ds vs ∧ clL S.length ds = true ∧ Kt K S.length β S H S' d Q

def rIxA (K : PySem.W.Frag) : R2 := fun x y H Q => rIxL K x y H Q ∨ rIxT K x y H Q
def rSlB (K : PySem.W.Frag) : V → Option Int → Option Int → Hp → VK → Prop := fun x l h H Q => rSlL K x l h H Q ∨ rSlA K x l h H Q
/-- t[::-1], xs[::-1] -/
def tRevA (K : PySem.W.Frag) (te : TE) : TE := fun σ H Q => te σ H fun x H1 => (∃ a xs, x = .ref a ∧ SqL K H1 a xs ∧ ∀ p, H1 p = none → Q (.ref p) (upd H1 p (.lst xs.reverse))) ∨
  (∃ a xs, x = .ref a ∧ SqT K H1 a xs ∧ ∀ p, H1 p = none → Q (.ref p) (upd H1 p (.tup xs.reverse)))
def tTru (K : PySem.W.Frag) (ta : TE) : TT := fun σ H Q => ta σ H fun x H' => ∃ k, TruV K x H' k ∧ Q k H'
def tIfT (tc ta tb : TT) : TT := fun σ H Q => tc σ H fun k H1 => if k = true then ta σ H1 Q else tb σ H1 Q
def rdG (K : PySem.W.Frag) : Tg → TG
  | .nm i => gName i
  | .tp is => gTup K is.length (is.foldr (fun i t => gCons (gName i) t) gNil)

def tRgB (t : Bool) (te : L2.St → Hp → (Int → Int → Hp → Prop) → Prop) : TE := if t = true then tTupRg te else tLstRg te
/-- sorted(set(t)) -/
def tSrs (K : PySem.W.Frag) (te : TE) : TE := fun σ H Q => te σ H fun x H1 => ∃ a ns, x = .ref a ∧ SqT K H1 a (ns.map V.int) ∧ ns.length < 64 ∧ ∀ p u q, H1 p = none → upd H1 p u q = none → Q (.ref q) (upd (upd H1 p u) q (.lst ((srtU ns).map V.int)))

mutual
def rdP (K : PySem.W.Frag) (φ : Phi) : Ex → TE × TT
  | .var i => (tVar i, tTru K (tVar i))
  | .non => (tC .non, tTru K (tC .non))
  | .bl b => (tC (.bl b), tTru K (tC (.bl b)))
  | .int i => (tC (.int i), tTru K (tC (.int i)))
  | .con i => (tC (.int i), tTru K (tC (.int i)))
  | .str s => (tC (.str s), tTru K (tC (.str s)))
  | .bin op a b => (tOp (rBin K op) (rdP K φ a).1 (rdP K φ b).1, tTru K (tOp (rBin K op) (rdP K φ a).1 (rdP K φ b).1))
  | .un op a => (tUn (rUnF op) (rdP K φ a).1, tTru K (tUn (rUnF op) (rdP K φ a).1))
  | .cmp op a b => (tOp (rCmpF K op) (rdP K φ a).1 (rdP K φ b).1, tTest (tOp (rCmpF K op) (rdP K φ a).1 (rdP K φ b).1))
  | .chn o1 o2 a b c => (tChain (rCmpF K o1) (rCmpF K o2) (rdP K φ a).1 (rdP K φ b).1 (rdP K φ c).1, tTest (tChain (rCmpF K o1) (rCmpF K o2) (rdP K φ a).1 (rdP K φ b).1 (rdP K φ c).1))
  | .and a b => (tAndT K (rdP K φ a).1 (rdP K φ b).1, tAnd (rdP K φ a).2 (rdP K φ b).2)
  | .or a b => (tOrT K (rdP K φ a).1 (rdP K φ b).1, tOr (rdP K φ a).2 (rdP K φ b).2)
  | .not a => (tNotT K (rdP K φ a).1, tNot (rdP K φ a).2)
  | .ite c a b => (tIf (rdP K φ c).2 (rdP K φ a).1 (rdP K φ b).1, tIfT (rdP K φ c).2 (rdP K φ a).2 (rdP K φ b).2)
  | .tup es => (tTup (rdA K φ es), tTru K (tTup (rdA K φ es)))
  | .lst es => (tLst (rdA K φ es), tTru K (tLst (rdA K φ es)))
  | .ix a b => (tOp (rIxA K) (rdP K φ a).1 (rdP K φ b).1, tTru K (tOp (rIxA K) (rdP K φ a).1 (rdP K φ b).1))
  | .sl a lo hi => (tSl (rSlB K) (rdP K φ a).1 (rdO K φ lo).1 (rdO K φ hi).1, tTru K (tSl (rSlB K) (rdP K φ a).1 (rdO K φ lo).1 (rdO K φ hi).1))
  | .rev a => (tRevA K (rdP K φ a).1, tTru K (tRevA K (rdP K φ a).1))
  | .rg1 t a => (tRgB t (tRg1 (rdP K φ a).1), tTru K (tRgB t (tRg1 (rdP K φ a).1)))
  | .rg2 t a b => (tRgB t (tRg2 (rdP K φ a).1 (rdP K φ b).1), tTru K (tRgB t (tRg2 (rdP K φ a).1 (rdP K φ b).1)))
  | .srs a => (tSrs K (rdP K φ a).1, tTru K (tSrs K (rdP K φ a).1))
  | .call f es => (tCall (spOf K (φ f)) [] E0 (rdA K φ es), tTru K (tCall (spOf K (φ f)) [] E0 (rdA K φ es)))
  | .blt b es => (tCB (rBlt K b) (rdA K φ es), tTru K (tCB (rBlt K b) (rdA K φ es)))
  | .met m o es => match m with
    | .append => (tBM K "list" rAppend (rdP K φ o).1 (rdA K φ es), tTru K (tBM K "list" rAppend (rdP K φ o).1 (rdA K φ es)))
    | .pop => (tBM0 K "list" rPop (rdP K φ o).1, tTru K (tBM0 K "list" rPop (rdP K φ o).1))
    | .popAt => (tBM K "list" rPopAt (rdP K φ o).1 (rdA K φ es), tTru K (tBM K "list" rPopAt (rdP K φ o).1 (rdA K φ es)))
    | .bits => (tBits (rdP K φ o).1, tTru K (tBits (rdP K φ o).1))
  | .isi a k => (tCB (rIsi K) (tCons (rdP K φ a).1 (tCons (tC (.ty k.n)) tNil)), tTru K (tCB (rIsi K) (tCons (rdP K φ a).1 (tCons (tC (.ty k.n)) tNil))))
  | .dic => (tDNewK, tTru K tDNewK)
  | .dix a b => (tDGet (rdP K φ a).1 (rdP K φ b).1, tTru K (tDGet (rdP K φ a).1 (rdP K φ b).1))
  | .dgt o k v => (tDGet2 (rdP K φ o).1 (rdP K φ k).1 (rdP K φ v).1, tTru K (tDGet2 (rdP K φ o).1 (rdP K φ k).1 (rdP K φ v).1))
  | .lc own g it c e => (tLc (rdI K φ it) (rdG K g) (rdO K φ c).2 (rdP K φ e).1 own, tTru K (tLc (rdI K φ it) (rdG K g) (rdO K φ c).2 (rdP K φ e).1 own))
  | .lck own i o c e => (tLockE (tLc (iKeys (tVar o)) (gName i) (rdO K φ c).2 (rdP K φ e).1 own), tTru K (tLockE (tLc (iKeys (tVar o)) (gName i) (rdO K φ c).2 (rdP K φ e).1 own)))
termination_by structural x => x
def rdA (K : PySem.W.Frag) (φ : Phi) : Es → TA
  | .nil => tNil
  | .cons e es => tCons (rdP K φ e).1 (rdA K φ es)
termination_by structural x => x
/-- as a slice's part; as a comprehension's test -/
def rdO (K : PySem.W.Frag) (φ : Phi) : Ox → TO × TT
  | .no => (tNoPart, tYes)
  | .yes e => (tPart (rdP K φ e).1, (rdP K φ e).2)
termination_by structural x => x
def rdI (K : PySem.W.Frag) (φ : Phi) : It → TI
  | .ex e => fun σ H R => iList K (rdP K φ e).1 σ H R ∨ iTup K (rdP K φ e).1 σ H R
  | .rng1 a => iRng1 (tCons (rdP K φ a).1 tNil)
  | .rng2 a b => iRng2 (tCons (rdP K φ a).1 (tCons (rdP K φ b).1 tNil))
termination_by structural x => x
end
end Z
end
section
set_option Elab.async false
set_option linter.all false
set_option autoImplicit false
/-! an expression's evaluation meets what it asks -/
namespace Z
open PySem L2

theorem gc_some {n : Nat} {o : Option (D × Sto)} {r : D × Sto} (h : gc n o = some r) : ∃ v S2, o = some (v, S2) ∧ gc n (some (v, S2)) = some r := by
  cases o with
  | none => cases h
  | some p => exact ⟨p.1, p.2, rfl, h⟩
theorem map_some {α γ : Type} {o : Option α} {f : α → γ} {r : γ} (h : o.map f = some r) : ∃ x, o = some x ∧ f x = r := by
  cases o with
  | none => cases h
  | some p => exact ⟨p, rfl, Option.some.inj h⟩
theorem bind_some {α γ : Type} {o : Option α} {f : α → Option γ} {r : γ} (h : o.bind f = some r) : ∃ x, o = some x ∧ f x = some r := by
  cases o with
  | none => cases h
  | some p => exact ⟨p, rfl, h⟩

section
variable {K : PySem.W.Frag} {φ : Phi}

def ES (K : PySem.W.Frag) (φ : Phi) (t : TE) (c : Ex) : Prop := ∀ (base : Nat) (β : Nat → Addr) (env : Ev) (S : Sto) (σ : L2.St) (H : Hp) (Q : VK) (d : D) (S' : Sto),
  evE φ base env c S = some (d, S') → Sim K β S H → EnvR K β H S.length env σ → Kt K base β S H S' d Q → t σ H Q
def ET (K : PySem.W.Frag) (φ : Phi) (t : TT) (c : Ex) : Prop := ∀ (base : Nat) (β : Nat → Addr) (env : Ev) (S : Sto) (σ : L2.St) (H : Hp) (Q : Bool → Hp → Prop) (k : Bool) (S' : Sto),
  evT φ base env c S = some (k, S') → Sim K β S H → EnvR K β H S.length env σ → (∀ (β' : Nat → Addr) (H' : Hp), Gr base β S H β' S' H' → Sim K β' S' H' → Q k H') → t σ H Q
def EA (K : PySem.W.Frag) (φ : Phi) (t : TA) (c : Es) : Prop := ∀ (base : Nat) (β : Nat → Addr) (env : Ev) (S : Sto) (σ : L2.St) (H : Hp) (Q : List V → Hp → Prop) (ds : List D) (S' : Sto),
  evS φ base env c S = some (ds, S') → Sim K β S H → EnvR K β H S.length env σ → (∀ (β' : Nat → Addr) (vs : List V) (H' : Hp), Gr base β S H β' S' H' → Sim K β' S' H' → Reps K β' H' ds vs → clL S'.length ds = true → Q vs H') → t σ H Q
/-- a slice's part -/
def EO (K : PySem.W.Frag) (φ : Phi) (t : TO) (c : Ox) : Prop := ∀ (base : Nat) (β : Nat → Addr) (env : Ev) (S : Sto) (σ : L2.St) (H : Hp) (Q : Option Int → Hp → Prop) (o : Option D) (l : Option Int) (S' : Sto),
  evO φ base env c S = some (o, S') → optI o = some l → Sim K β S H → EnvR K β H S.length env σ → (∀ (β' : Nat → Addr) (H' : Hp), Gr base β S H β' S' H' → Sim K β' S' H' → Q l H') → t σ H Q
def tstO (S : Sto) : Option D → Option Bool
  | none => some true
  | some d => truF S d
/-- a comprehension's test -/
def EC (K : PySem.W.Frag) (φ : Phi) (t : TT) (c : Ox) : Prop := ∀ (base : Nat) (β : Nat → Addr) (env : Ev) (S : Sto) (σ : L2.St) (H : Hp) (Q : Bool → Hp → Prop) (o : Option D) (k : Bool) (S' : Sto),
  evO φ base env c S = some (o, S') → tstO S' o = some k → Sim K β S H → EnvR K β H S.length env σ → (∀ (β' : Nat → Addr) (H' : Hp), Gr base β S H β' S' H' → Sim K β' S' H' → Q k H') → t σ H Q
/-- what is walked, seen from any later state -/
def Wlk (K : PySem.W.Frag) (J : L2.It) (β : Nat → Addr) (S : Sto) (H : Hp) (h : Option Nat) (xs : List D) : Prop :=
  ∀ (base : Nat) (β' : Nat → Addr) (S' : Sto) (H' : Hp), Gr base β S H β' S' H' → Sim K β' S' H' → still S' h xs = true →
    (∀ i, xs.length ≤ i → J.stop i H') ∧ ∀ i x, xs[i]? = some x → J.go i H' ∧ ∀ v H2, J.yld i H' v H2 → H2 = H' ∧ Rep K β' H' x v
def EI (K : PySem.W.Frag) (φ : Phi) (t : TI) (c : It) : Prop := ∀ (base : Nat) (β : Nat → Addr) (env : Ev) (S : Sto) (σ : L2.St) (H : Hp) (R : L2.It → Hp → Prop) (xs : List D) (h : Option Nat) (S' : Sto),
  evI φ base env c S = some (xs, h, S') → Sim K β S H → EnvR K β H S.length env σ → (∀ (β' : Nat → Addr) (J : L2.It) (H' : Hp), Gr base β S H β' S' H' → Sim K β' S' H' → clL S'.length xs = true → Wlk K J β' S' H' h xs → R J H') → t σ H R

theorem ES.two {ta tb : TE} {a b : Ex} (ha : ES K φ ta a) (hb : ES K φ tb b) {base : Nat} {β : Nat → Addr} {env : Ev} {S S1 S2 : Sto} {σ : L2.St} {H : Hp} {x y : D} {R : V → V → Hp → Prop}
    (e1 : evE φ base env a S = some (x, S1)) (e2 : evE φ base env b S1 = some (y, S2)) (s : Sim K β S H) (r : EnvR K β H S.length env σ)
    (k : ∀ (β' : Nat → Addr) (v w : V) (H' : Hp), Gr base β S H β' S2 H' → Sim K β' S2 H' → Rep K β' H' x v → Rep K β' H' y w → x.cl S2.length = true → y.cl S2.length = true → R v w H') :
    ta σ H fun v H1 => tb σ H1 fun w H2 => R v w H2 :=
  ha base β env S σ H _ x S1 e1 s r fun β1 v H1 g1 s1 r1 c1 => hb base β1 env S1 σ H1 _ y S2 e2 s1 (r.gr g1) fun β2 w H2 g2 s2 r2 c2 => k β2 v w H2 (g1.trans g2) s2 (g2.rep r1 c1) r2 (g2.cl c1) c2

/-! ### names, constants -/
theorem es_var (i : Nat) : ES K φ (tVar i) (.var i) := by
  intro base β env S σ H Q d S' e s r k
  rw [evE] at e
  obtain ⟨x, e1, e2⟩ := map_some e
  obtain ⟨rfl, rfl⟩ := Prod.mk.inj e2
  have h : env[i]? = some (some x) := by
    unfold getV at e1
    cases q : env[i]? with
    | none => rw [q] at e1; cases e1
    | some o => rw [q] at e1; exact congrArg some e1
  obtain ⟨c, v, hv, rv⟩ := r.get i x h
  exact ⟨v, hv, k.here s rv c⟩
theorem es_c {c : Ex} {v : V} {d0 : D} (h : ∀ base env S, evE φ base env c S = some (d0, S)) (r0 : ∀ β H, Rep K β H d0 v) (c0 : ∀ n, d0.cl n = true) : ES K φ (tC v) c := by
  intro base β env S σ H Q d S' e s r k
  rw [h] at e
  cases e
  exact k.here s (r0 β H) (c0 _)

/-! ### operators -/
theorem es_bin {X : Cx} {op : Operator} {ta tb : TE} {a b : Ex} (ha : ES X.K φ ta a) (hb : ES X.K φ tb b) : ES X.K φ (tOp (rBin X.K op) ta tb) (.bin op a b) := by
  intro base β env S σ H Q d S' e s r k
  rw [evE] at e
  obtain ⟨v, S3, e1, hg⟩ := gc_some e
  rcases h1 : evE φ S.length env a S with _ | ⟨x, S1⟩
  · rw [h1] at e1; cases e1
  · rw [h1] at e1
    simp only at e1
    rcases h2 : evE φ S.length env b S1 with _ | ⟨y, S2⟩
    · rw [h2] at e1; cases e1
    · rw [h2] at e1
      simp only at e1
      exact ES.two ha hb h1 h2 s r fun β2 u w H2 g s2 rx ry cx cy => bin_ok op s2 e1 rx ry cx cy (k.fin hg s g)
theorem es_un {X : Cx} {op : UnaryOp} {ta : TE} {a : Ex} (ha : ES X.K φ ta a) : ES X.K φ (tUn (rUnF op) ta) (.un op a) := by
  intro base β env S σ H Q d S' e s r k
  rw [evE] at e
  rcases h1 : evE φ S.length env a S with _ | ⟨x, S1⟩
  · rw [h1] at e; cases e
  · rw [h1] at e
    simp only at e
    obtain ⟨v, S3, e1, hg⟩ := gc_some e
    obtain ⟨z, e2, e3⟩ := map_some e1
    cases e3
    exact ha _ β env S σ H _ x S1 h1 s r fun β1 u H1 g1 s1 r1 c1 => un_ok s1 e2 r1 (k.fin hg s g1)
theorem es_cmp {X : Cx} {op : CmpOp} {ta tb : TE} {a b : Ex} (ha : ES X.K φ ta a) (hb : ES X.K φ tb b) : ES X.K φ (tOp (rCmpF X.K op) ta tb) (.cmp op a b) := by
  intro base β env S σ H Q d S' e s r k
  rw [evE] at e
  obtain ⟨v, S3, e1, hg⟩ := gc_some e
  rcases h1 : evE φ S.length env a S with _ | ⟨x, S1⟩
  · rw [h1] at e1; cases e1
  · rw [h1] at e1
    simp only at e1
    rcases h2 : evE φ S.length env b S1 with _ | ⟨y, S2⟩
    · rw [h2] at e1; cases e1
    · rw [h2] at e1
      simp only at e1
      obtain ⟨z, e2, e3⟩ := map_some e1
      cases e3
      exact ES.two ha hb h1 h2 s r fun β2 u w H2 g s2 rx ry cx cy => cmp_ok s2 e2 rx ry cy (k.fin hg s g)
theorem es_chn {X : Cx} {o1 o2 : CmpOp} {ta tb tc : TE} {a b c : Ex} (ha : ES X.K φ ta a) (hb : ES X.K φ tb b) (hc : ES X.K φ tc c) : ES X.K φ (tChain (rCmpF X.K o1) (rCmpF X.K o2) ta tb tc) (.chn o1 o2 a b c) := by
  intro base β env S σ H Q d S' e s r k
  rw [evE] at e
  obtain ⟨v, S4, e1, hg⟩ := gc_some e
  rcases h1 : evE φ S.length env a S with _ | ⟨x, S1⟩
  · rw [h1] at e1; cases e1
  · rw [h1] at e1
    simp only at e1
    rcases h2 : evE φ S.length env b S1 with _ | ⟨y, S2⟩
    · rw [h2] at e1; cases e1
    · rw [h2] at e1
      simp only at e1
      refine ES.two ha hb h1 h2 s r fun β2 u w H2 g s2 rx ry cx cy => ?_
      cases h3 : cmpF o1 x y S2 with
      | none => rw [h3] at e1; cases e1
      | some q =>
        rw [h3] at e1
        refine cmp_ok (base := S.length) s2 h3 rx ry cy fun β3 u3 H3 g3 s3 r3 c3 => ⟨q, r3, ?_⟩
        cases q with
        | false =>
          cases e1
          rw [if_neg Bool.false_ne_true]
          exact (k.fin hg s (g.trans g3)).here s3 (v := .bl false) rfl rfl
        | true =>
          rw [if_pos rfl]
          simp only at e1
          rcases h4 : evE φ S.length env c S2 with _ | ⟨z, S3⟩
          · rw [h4] at e1; cases e1
          · rw [h4] at e1
            simp only at e1
            obtain ⟨z2, e2, e3⟩ := map_some e1
            cases e3
            have g13 : Gr S.length β S H β3 S2 H3 := g.trans g3
            exact hc _ β3 env S2 σ H3 _ z _ h4 s3 (r.gr g13) fun β4 u4 H4 g4 s4 r4 c4 => cmp_ok s4 e2 (g4.rep (g3.rep ry cy) (g3.cl cy)) r4 c4 (k.fin hg s (g13.trans g4))

/-! ### truth, and, or, not, if -/
theorem evT_inv {base : Nat} {env : Ev} {c : Ex} {S S' : Sto} {k : Bool} (e : evT φ base env c S = some (k, S')) : ∃ x, evE φ base env c S = some (x, S') ∧ truF S' x = some k := by
  unfold evT at e
  rcases h : evE φ base env c S with _ | ⟨x, S1⟩
  · rw [h] at e; cases e
  · rw [h] at e
    simp only at e
    obtain ⟨z, e1, e2⟩ := map_some e
    obtain ⟨rfl, rfl⟩ := Prod.mk.inj e2
    exact ⟨x, rfl, e1⟩
theorem et_tru {X : Cx} {t : TE} {c : Ex} (h : ES X.K φ t c) : ET X.K φ (tTru X.K t) c := by
  intro base β env S σ H Q k S' e s r q
  obtain ⟨x, e1, e2⟩ := evT_inv e
  exact h base β env S σ H _ x S' e1 s r fun β1 v H1 g s1 r1 c1 => ⟨k, tru_meets s1 e2 r1, q β1 H1 g s1⟩
theorem et_test {t : TE} {c : Ex} (h : ES K φ t c) (hb : ∀ {base env S x S'}, evE φ base env c S = some (x, S') → ∃ b, x = .bl b) : ET K φ (tTest t) c := by
  intro base β env S σ H Q k S' e s r q
  obtain ⟨x, e1, e2⟩ := evT_inv e
  obtain ⟨b, rfl⟩ := hb e1
  cases e2
  exact h base β env S σ H _ _ S' e1 s r fun β1 v H1 g s1 r1 c1 => ⟨_, r1, q β1 H1 g s1⟩
theorem gc_bl {n : Nat} {b : Bool} {S S' : Sto} {x : D} (h : gc n (some (.bl b, S)) = some (x, S')) : x = .bl b := by
  unfold gc at h
  simp only at h
  rw [if_pos (show (D.bl b).cl n = true from rfl)] at h
  cases h
  rfl
theorem cmp_bl {base : Nat} {env : Ev} {op : CmpOp} {a b : Ex} {S S' : Sto} {x : D} (e : evE φ base env (.cmp op a b) S = some (x, S')) : ∃ k, x = .bl k := by
  rw [evE] at e
  obtain ⟨v, S3, e1, hg⟩ := gc_some e
  rcases h1 : evE φ S.length env a S with _ | ⟨x1, S1⟩
  · rw [h1] at e1; cases e1
  · rw [h1] at e1
    simp only at e1
    rcases h2 : evE φ S.length env b S1 with _ | ⟨y, S2⟩
    · rw [h2] at e1; cases e1
    · rw [h2] at e1
      simp only at e1
      obtain ⟨z, e2, e3⟩ := map_some e1
      cases e3
      exact ⟨z, gc_bl hg⟩
theorem chn_bl {base : Nat} {env : Ev} {o1 o2 : CmpOp} {a b c : Ex} {S S' : Sto} {x : D} (e : evE φ base env (.chn o1 o2 a b c) S = some (x, S')) : ∃ k, x = .bl k := by
  rw [evE] at e
  obtain ⟨v, S4, e1, hg⟩ := gc_some e
  rcases h1 : evE φ S.length env a S with _ | ⟨x, S1⟩
  · rw [h1] at e1; cases e1
  · rw [h1] at e1
    simp only at e1
    rcases h2 : evE φ S.length env b S1 with _ | ⟨y, S2⟩
    · rw [h2] at e1; cases e1
    · rw [h2] at e1
      simp only at e1
      cases h3 : cmpF o1 x y S2 with
      | none => rw [h3] at e1; cases e1
      | some q =>
        rw [h3] at e1
        cases q with
        | false => cases e1; exact ⟨_, gc_bl hg⟩
        | true =>
          simp only at e1
          rcases h4 : evE φ S.length env c S2 with _ | ⟨z, S3⟩
          · rw [h4] at e1; cases e1
          · rw [h4] at e1
            simp only at e1
            obtain ⟨z2, e2, e3⟩ := map_some e1
            cases e3
            exact ⟨_, gc_bl hg⟩
theorem es_and {X : Cx} {ta tb : TE} {a b : Ex} (ha : ES X.K φ ta a) (hb : ES X.K φ tb b) : ES X.K φ (tAndT X.K ta tb) (.and a b) := by
  intro base β env S σ H Q d S' e s r k
  rw [evE] at e
  rcases h1 : evE φ base env a S with _ | ⟨x, S1⟩
  · rw [h1] at e; cases e
  · rw [h1] at e
    simp only at e
    refine ha base β env S σ H _ x S1 h1 s r fun β1 u H1 g1 s1 r1 c1 => ?_
    cases h2 : truF S1 x with
    | none => rw [h2] at e; cases e
    | some q =>
      rw [h2] at e
      refine ⟨q, tru_meets s1 h2 r1, ?_⟩
      cases q with
      | true => exact hb base β1 env S1 σ H1 Q d S' e s1 (r.gr g1) fun β2 w H2 g2 s2 r2 c2 => k β2 w H2 (g1.trans g2) s2 r2 c2
      | false => cases e; exact k β1 u H1 g1 s1 r1 c1
theorem es_or {X : Cx} {ta tb : TE} {a b : Ex} (ha : ES X.K φ ta a) (hb : ES X.K φ tb b) : ES X.K φ (tOrT X.K ta tb) (.or a b) := by
  intro base β env S σ H Q d S' e s r k
  rw [evE] at e
  rcases h1 : evE φ base env a S with _ | ⟨x, S1⟩
  · rw [h1] at e; cases e
  · rw [h1] at e
    simp only at e
    refine ha base β env S σ H _ x S1 h1 s r fun β1 u H1 g1 s1 r1 c1 => ?_
    cases h2 : truF S1 x with
    | none => rw [h2] at e; cases e
    | some q =>
      rw [h2] at e
      refine ⟨q, tru_meets s1 h2 r1, ?_⟩
      cases q with
      | false => exact hb base β1 env S1 σ H1 Q d S' e s1 (r.gr g1) fun β2 w H2 g2 s2 r2 c2 => k β2 w H2 (g1.trans g2) s2 r2 c2
      | true => cases e; exact k β1 u H1 g1 s1 r1 c1
theorem es_not {X : Cx} {ta : TE} {a : Ex} (ha : ES X.K φ ta a) : ES X.K φ (tNotT X.K ta) (.not a) := by
  intro base β env S σ H Q d S' e s r k
  rw [evE] at e
  rcases h1 : evE φ base env a S with _ | ⟨x, S1⟩
  · rw [h1] at e; cases e
  · rw [h1] at e
    simp only at e
    obtain ⟨q, e1, e2⟩ := map_some e
    cases e2
    exact ha base β env S σ H _ x S' h1 s r fun β1 u H1 g1 s1 r1 c1 => ⟨q, tru_meets s1 e1 r1, k β1 _ H1 g1 s1 rfl rfl⟩
theorem et_and {tA tB' : TT} {a b : Ex} (ha : ET K φ tA a) (hb : ET K φ tB' b) : ET K φ (tAnd tA tB') (.and a b) := by
  intro base β env S σ H Q k S' e s r q
  obtain ⟨x, e1, e2⟩ := evT_inv e
  rw [evE] at e1
  rcases h1 : evE φ base env a S with _ | ⟨y, S1⟩
  · rw [h1] at e1; cases e1
  · rw [h1] at e1
    simp only at e1
    cases h2 : truF S1 y with
    | none => rw [h2] at e1; cases e1
    | some b0 =>
      rw [h2] at e1
      have ea : evT φ base env a S = some (b0, S1) := by
        unfold evT
        rw [h1]
        simp only [h2, Option.map_some]
      refine ha base β env S σ H _ b0 S1 ea s r fun β1 H1 g1 s1 => ?_
      cases b0 with
      | true =>
        rw [if_pos rfl]
        have eb : evT φ base env b S1 = some (k, S') := by
          unfold evT
          simp only at e1
          rw [e1]
          simp only [e2, Option.map_some]
        exact hb base β1 env S1 σ H1 Q k S' eb s1 (r.gr g1) fun β2 H2 g2 s2 => q β2 H2 (g1.trans g2) s2
      | false =>
        rw [if_neg Bool.false_ne_true]
        cases e1
        rw [h2] at e2
        cases e2
        exact q β1 H1 g1 s1
theorem et_or {tA tB' : TT} {a b : Ex} (ha : ET K φ tA a) (hb : ET K φ tB' b) : ET K φ (tOr tA tB') (.or a b) := by
  intro base β env S σ H Q k S' e s r q
  obtain ⟨x, e1, e2⟩ := evT_inv e
  rw [evE] at e1
  rcases h1 : evE φ base env a S with _ | ⟨y, S1⟩
  · rw [h1] at e1; cases e1
  · rw [h1] at e1
    simp only at e1
    cases h2 : truF S1 y with
    | none => rw [h2] at e1; cases e1
    | some b0 =>
      rw [h2] at e1
      have ea : evT φ base env a S = some (b0, S1) := by
        unfold evT
        rw [h1]
        simp only [h2, Option.map_some]
      refine ha base β env S σ H _ b0 S1 ea s r fun β1 H1 g1 s1 => ?_
      cases b0 with
      | false =>
        rw [if_neg Bool.false_ne_true]
        have eb : evT φ base env b S1 = some (k, S') := by
          unfold evT
          simp only at e1
          rw [e1]
          simp only [e2, Option.map_some]
        exact hb base β1 env S1 σ H1 Q k S' eb s1 (r.gr g1) fun β2 H2 g2 s2 => q β2 H2 (g1.trans g2) s2
      | true =>
        rw [if_pos rfl]
        cases e1
        rw [h2] at e2
        cases e2
        exact q β1 H1 g1 s1
theorem et_not {tA : TT} {a : Ex} (ha : ET K φ tA a) : ET K φ (tNot tA) (.not a) := by
  intro base β env S σ H Q k S' e s r q
  obtain ⟨x, e1, e2⟩ := evT_inv e
  rw [evE] at e1
  rcases h1 : evE φ base env a S with _ | ⟨y, S1⟩
  · rw [h1] at e1; cases e1
  · rw [h1] at e1
    simp only at e1
    obtain ⟨z, e3, e4⟩ := map_some e1
    obtain ⟨rfl, rfl⟩ := Prod.mk.inj e4
    cases e2
    have ea : evT φ base env a S = some (z, S1) := by
      unfold evT
      rw [h1]
      simp only [e3, Option.map_some]
    exact ha base β env S σ H _ z S1 ea s r fun β1 H1 g1 s1 => q β1 H1 g1 s1
theorem es_ite {tc : TT} {ta tb : TE} {c a b : Ex} (hc : ET K φ tc c) (ha : ES K φ ta a) (hb : ES K φ tb b) : ES K φ (tIf tc ta tb) (.ite c a b) := by
  intro base β env S σ H Q d S' e s r k
  rw [evE] at e
  rcases h1 : evE φ base env c S with _ | ⟨x, S1⟩
  · rw [h1] at e; cases e
  · rw [h1] at e
    simp only at e
    cases h2 : truF S1 x with
    | none => rw [h2] at e; cases e
    | some q =>
      rw [h2] at e
      have ec : evT φ base env c S = some (q, S1) := by
        unfold evT
        rw [h1]
        simp only [h2, Option.map_some]
      refine hc base β env S σ H _ q S1 ec s r fun β1 H1 g1 s1 => ?_
      cases q with
      | true =>
        rw [if_pos rfl]
        exact ha base β1 env S1 σ H1 Q d S' e s1 (r.gr g1) fun β2 w H2 g2 s2 r2 c2 => k β2 w H2 (g1.trans g2) s2 r2 c2
      | false =>
        rw [if_neg Bool.false_ne_true]
        exact hb base β1 env S1 σ H1 Q d S' e s1 (r.gr g1) fun β2 w H2 g2 s2 r2 c2 => k β2 w H2 (g1.trans g2) s2 r2 c2

/-! ### arguments, displays -/
theorem ea_nil : EA K φ tNil .nil := by
  intro base β env S σ H Q ds S' e s r q
  cases e
  exact q β [] H Gr.refl s rfl rfl
theorem ea_cons {te : TE} {t : TA} {c : Ex} {cs : Es} (h : ES K φ te c) (hs : EA K φ t cs) : EA K φ (tCons te t) (.cons c cs) := by
  intro base β env S σ H Q ds S' e s r q
  rw [evS] at e
  rcases h1 : evE φ base env c S with _ | ⟨x, S1⟩
  · rw [h1] at e; cases e
  · rw [h1] at e
    simp only at e
    rcases h2 : evS φ base env cs S1 with _ | ⟨xs, S2⟩
    · rw [h2] at e; cases e
    · rw [h2] at e
      cases e
      refine h base β env S σ H _ x S1 h1 s r fun β1 u H1 g1 s1 r1 c1 => ?_
      refine hs base β1 env S1 σ H1 _ xs S' h2 s1 (r.gr g1) fun β2 us H2 g2 s2 r2 c2 => ?_
      exact q β2 (u :: us) H2 (g1.trans g2) s2 ⟨u, us, rfl, g2.rep r1 c1, r2⟩ (by
        show (x.cl S'.length && clL S'.length xs) = true
        rw [g2.cl c1, c2]
        rfl)
theorem es_tup {t : TA} {es : Es} (h : EA K φ t es) : ES K φ (tTup t) (.tup es) := by
  intro base β env S σ H Q d S' e s r k
  rw [evE] at e
  obtain ⟨v, S3, e1, hg⟩ := gc_some e
  rcases h1 : evS φ S.length env es S with _ | ⟨ds, S1⟩
  · rw [h1] at e1; cases e1
  · rw [h1] at e1
    obtain ⟨cl, e1⟩ := ite_some e1
    cases e1
    refine h _ β env S σ H _ ds S3 h1 s r fun β1 vs H1 g1 s1 r1 c1 => ⟨?_, (k.fin hg s g1).tuple s1 r1 c1⟩
    rw [← r1.length]
    exact lim_line cl
theorem es_lst {t : TA} {es : Es} (h : EA K φ t es) : ES K φ (tLst t) (.lst es) := by
  intro base β env S σ H Q d S' e s r k
  rw [evE] at e
  obtain ⟨v, S3, e1, hg⟩ := gc_some e
  rcases h1 : evS φ S.length env es S with _ | ⟨ds, S1⟩
  · rw [h1] at e1; cases e1
  · rw [h1] at e1
    simp only at e1
    obtain ⟨cl, e1⟩ := ite_some e1
    cases e1
    refine h _ β env S σ H _ ds S1 h1 s r fun β1 vs H1 g1 s1 r1 c1 => ⟨?_, (k.fin hg s g1).list s1 r1 c1⟩
    rw [← r1.length]
    exact lim_line cl
theorem es_call {f : Str} {t : TA} {es : Es} (h : EA K φ t es) : ES K φ (tCall (spOf K (φ f)) [] E0 t) (.call f es) := by
  intro base β env S σ H Q d S' e s r k
  rw [evE] at e
  obtain ⟨v, S3, e1, hg⟩ := gc_some e
  rcases h1 : evS φ S.length env es S with _ | ⟨ds, S1⟩
  · rw [h1] at e1; cases e1
  · rw [h1] at e1
    simp only at e1
    refine h _ β env S σ H _ ds S1 h1 s r fun β1 vs H1 g1 s1 r1 c1 => ?_
    rw [List.append_nil]
    exact ⟨β1, S1, ds, v, S3, e1, s1, r1, c1, fun β2 w H2 g2 s2 r2 c2 => (k.fin hg s g1) β2 w H2 (g2.loose (.inl g1.len)) s2 r2 c2⟩
theorem es_blt {X : Cx} {b : Bl} {t : TA} {es : Es} (h : EA X.K φ t es) : ES X.K φ (tCB (rBlt X.K b) t) (.blt b es) := by
  intro base β env S σ H Q d S' e s r k
  rw [evE] at e
  obtain ⟨v, S3, e1, hg⟩ := gc_some e
  rcases h1 : evS φ S.length env es S with _ | ⟨ds, S1⟩
  · rw [h1] at e1; cases e1
  · rw [h1] at e1
    simp only at e1
    exact h _ β env S σ H _ ds S1 h1 s r fun β1 vs H1 g1 s1 r1 c1 => blt_ok s1 e1 r1 c1 (k.fin hg s g1)
theorem es_isi {X : Cx} {kk : Ik} {ta : TE} {a : Ex} (ha : ES X.K φ ta a) : ES X.K φ (tCB (rIsi X.K) (tCons ta (tCons (tC (.ty kk.n)) tNil))) (.isi a kk) := by
  intro base β env S σ H Q d S' e s r k
  rw [evE] at e
  obtain ⟨v, S3, e1, hg⟩ := gc_some e
  rcases h1 : evE φ S.length env a S with _ | ⟨x, S1⟩
  · rw [h1] at e1; cases e1
  · rw [h1] at e1
    simp only at e1
    obtain ⟨z, e2, e3⟩ := map_some e1
    cases e3
    exact ha _ β env S σ H _ x _ h1 s r fun β1 u H1 g1 s1 r1 c1 => isi_ok s1 e2 r1 (k.fin hg s g1)

/-! ### places, slices -/
theorem es_ix {X : Cx} {ta tb : TE} {a b : Ex} (ha : ES X.K φ ta a) (hb : ES X.K φ tb b) : ES X.K φ (tOp (rIxA X.K) ta tb) (.ix a b) := by
  intro base β env S σ H Q d S' e s r k
  rw [evE] at e
  obtain ⟨v, S3, e1, hg⟩ := gc_some e
  rcases h1 : evE φ S.length env a S with _ | ⟨x, S1⟩
  · rw [h1] at e1; cases e1
  · rw [h1] at e1
    simp only at e1
    rcases h2 : evE φ S.length env b S1 with _ | ⟨y, S2⟩
    · rw [h2] at e1; cases e1
    · rw [h2] at e1
      simp only at e1
      obtain ⟨z, e2, e3⟩ := map_some e1
      cases e3
      exact ES.two ha hb h1 h2 s r fun β2 u w H2 g s2 rx ry cx cy => ix_ok s2 e2 rx ry cx (k.fin hg s g)
theorem eo_no : EO K φ tNoPart .no := by
  intro base β env S σ H Q o l S' e el s r q
  cases e
  cases el
  exact q β H Gr.refl s
theorem eo_yes {t : TE} {c : Ex} (h : ES K φ t c) : EO K φ (tPart t) (.yes c) := by
  intro base β env S σ H Q o l S' e el s r q
  rw [evO] at e
  rcases h1 : evE φ base env c S with _ | ⟨x, S1⟩
  · rw [h1] at e; cases e
  · rw [h1] at e
    cases e
    cases x with
    | int i =>
      obtain ⟨_, el⟩ := ite_some el
      cases el
      exact h base β env S σ H _ _ S' h1 s r fun β1 v H1 g1 s1 r1 _ => ⟨i, r1, q β1 H1 g1 s1⟩
    | _ => cases el
theorem ec_no : EC K φ tYes .no := by
  intro base β env S σ H Q o k S' e el s r q
  cases e
  cases el
  exact q β H Gr.refl s
theorem ec_yes {t : TT} {c : Ex} (h : ET K φ t c) : EC K φ t (.yes c) := by
  intro base β env S σ H Q o k S' e el s r q
  rw [evO] at e
  rcases h1 : evE φ base env c S with _ | ⟨x, S1⟩
  · rw [h1] at e; cases e
  · rw [h1] at e
    cases e
    refine h base β env S σ H Q k S' ?_ s r q
    unfold evT
    rw [h1]
    have el' : truF S' x = some k := el
    simp only [el', Option.map_some]
theorem es_sl {X : Cx} {ta : TE} {tl th : TO} {a : Ex} {lo hi : Ox} (ha : ES X.K φ ta a) (hl : EO X.K φ tl lo) (hh : EO X.K φ th hi) : ES X.K φ (tSl (rSlB X.K) ta tl th) (.sl a lo hi) := by
  intro base β env S σ H Q d S' e s r k
  rw [evE] at e
  obtain ⟨v, S4, e1, hg⟩ := gc_some e
  rcases h1 : evE φ S.length env a S with _ | ⟨x, S1⟩
  · rw [h1] at e1; cases e1
  · rw [h1] at e1
    simp only at e1
    rcases h2 : evO φ S.length env lo S1 with _ | ⟨l, S2⟩
    · rw [h2] at e1; cases e1
    · rw [h2] at e1
      simp only at e1
      rcases h3 : evO φ S.length env hi S2 with _ | ⟨u, S3⟩
      · rw [h3] at e1; cases e1
      · rw [h3] at e1
        simp only at e1
        have hp : ∃ l' u', optI l = some l' ∧ optI u = some u' := by
          unfold slF at e1
          cases q1 : optI l with
          | none => rw [q1] at e1; cases e1
          | some l' =>
            cases q2 : optI u with
            | none => rw [q1, q2] at e1; cases e1
            | some u' => exact ⟨l', u', rfl, rfl⟩
        obtain ⟨l', u', el, eu⟩ := hp
        refine ha _ β env S σ H _ x S1 h1 s r fun β1 w H1 g1 s1 r1 c1 => ?_
        refine hl _ β1 env S1 σ H1 _ l l' S2 h2 el s1 (r.gr g1) fun β2 H2 g2 s2 => ?_
        refine hh _ β2 env S2 σ H2 _ u u' S3 h3 eu s2 (r.gr (g1.trans g2)) fun β3 H3 g3 s3 => ?_
        have g13 := (g1.trans g2).trans g3
        exact sl_ok s3 el eu e1 ((g2.trans g3).rep r1 c1) ((g2.trans g3).cl c1) (k.fin hg s g13)
theorem es_rev {ta : TE} {a : Ex} (ha : ES K φ ta a) : ES K φ (tRevA K ta) (.rev a) := by
  intro base β env S σ H Q d S' e s r k
  rw [evE] at e
  obtain ⟨v, S4, e1, hg⟩ := gc_some e
  rcases h1 : evE φ S.length env a S with _ | ⟨x, S1⟩
  · rw [h1] at e1; cases e1
  · rw [h1] at e1
    simp only at e1
    refine ha _ β env S σ H _ x S1 h1 s r fun β1 w H1 g1 s1 r1 c1 => ?_
    cases x with
    | tup ds =>
      cases e1
      obtain ⟨a, vs, rfl, h, rs⟩ := (show ∃ a vs, w = .ref a ∧ SqT K H1 a vs ∧ Reps K β1 H1 ds vs from r1)
      exact .inr ⟨a, vs, rfl, h, (k.fin hg s g1).tuple s1 rs.rev (clL_of fun z hz => clL_mem c1 z (List.mem_reverse.mp hz))⟩
    | ref i =>
      cases (show w = .ref (β1 i) from r1)
      have e' : ((S1[i]?).bind SO.seq?).bind (fun xs => new S1 (.lst xs.reverse)) = some (v, S4) := e1
      obtain ⟨xs, q1, q2⟩ := bind_some e'
      cases q2
      obtain ⟨vs, hq, rs, cs⟩ := s1.seq q1
      exact .inl ⟨β1 i, vs, rfl, hq, (k.fin hg s g1).list s1 rs.rev (clL_of fun z hz => clL_mem cs z (List.mem_reverse.mp hz))⟩
    | _ => cases e1
end
end Z
end
section
set_option Elab.async false
set_option linter.all false
set_option autoImplicit false
/-! methods, dicts, what is walked, comprehensions -/
namespace Z
open PySem L2

section
variable {K : PySem.W.Frag} {φ : Phi} {β β1 β2 : Nat → Addr} {H H1 H2 : Hp} {S S' S1 S2 : Sto} {base : Nat}

theorem Sim.putL {i : Nat} {xs ys : List D} {vs ws : List V} (s : Sim K β S H) (e : S[i]? = some (.lst xs)) (h : H (β i) = some (.lst vs)) (r : Reps K β H ys ws) (c : clL S.length ys = true) (hb : i < base → ∀ n, clL n xs = true → clL n ys = true) :
    Sim K β (S.set i (.lst ys)) (upd H (β i) (.lst ws)) ∧ Gr base β S H β (S.set i (.lst ys)) (upd H (β i) (.lst ws)) :=
  s.put e h (fun _ z => by cases z) (fun _ _ z => by cases z) c ⟨ws, upd_same, Reps.tk (TupK.set (o := .lst ws) h (fun _ z => by cases z) (fun _ _ z => by cases z)).r (n := S.length) (fun _ _ => rfl) ys ws c r⟩ hb
theorem wr_ok {i : Nat} {d : D} (h : wr base i d = true) : i < base → ∀ n, d.cl n = true := fun hi n => by
  unfold wr at h
  rw [Bool.or_eq_true] at h
  rcases h with h | h
  · have := of_decide_eq_true h
    omega
  · exact D.cl_mono (Nat.zero_le n) d h
theorem tyV_lst {i : Nat} {xs : List D} (s : Sim K β S H) (e : S[i]? = some (.lst xs)) : tyV K "list" (.ref (β i)) H := by
  obtain ⟨vs, h, _⟩ := s.lst e
  exact .inl ⟨rfl, vs, .inl (.inl h)⟩
theorem metP_lst {m : Mt} {x : D} (hm : m ≠ .bits) (h : metP m x S = true) : ∃ i xs, x = .ref i ∧ S[i]? = some (.lst xs) := by
  unfold metP at h
  cases m with
  | bits => exact absurd rfl hm
  | _ =>
    cases x with
    | ref i =>
      simp only at h
      cases q : S[i]? with
      | none => rw [q] at h; cases h
      | some o =>
        rw [q] at h
        cases o with
        | lst xs => exact ⟨i, xs, rfl, q⟩
        | fro xs => cases h
        | dct xs => cases h
        | fdc xs => cases h
    | _ => cases h
theorem clL_app {n : Nat} {xs ys : List D} (a : clL n xs = true) (b : clL n ys = true) : clL n (xs ++ ys) = true := clL_of fun z hz => by
  rcases List.mem_append.mp hz with hz | hz
  · exact clL_mem a z hz
  · exact clL_mem b z hz
theorem clL_one {n : Nat} {x : D} (a : x.cl n = true) : clL n [x] = true := clL_of fun z hz => by
  rw [List.mem_singleton.mp hz]
  exact a
theorem lst_at {i : Nat} {α : Type} {f : List D → Option α} {r : α} (e : (match S[i]? with
    | some (.lst xs) => f xs
    | _ => none) = some r) : ∃ xs, S[i]? = some (.lst xs) ∧ f xs = some r := by
  cases q : S[i]? with
  | none => rw [q] at e; cases e
  | some o =>
    rw [q] at e
    cases o with
    | lst xs => exact ⟨xs, rfl, e⟩
    | fro xs => cases e
    | dct xs => cases e
    | fdc xs => cases e

theorem rgOk_iff {i : Int} (h : rgOk i = true) : -(2 ^ 62) ≤ i ∧ i < 2 ^ 62 := by
  unfold rgOk at h
  rw [Bool.and_eq_true] at h
  exact ⟨of_decide_eq_true h.1, of_decide_eq_true h.2⟩
theorem es_append {to : TE} {t : TA} {o : Ex} {es : Es} (ho : ES K φ to o) (ha : EA K φ t es) : ES K φ (tBM K "list" rAppend to t) (.met .append o es) := by
  intro base β env S σ H Q d S' e s r k
  rw [evE] at e
  rcases h1 : evE φ base env o S with _ | ⟨x, S1⟩
  · rw [h1] at e; cases e
  · rw [h1] at e
    simp only at e
    by_cases hp : metP .append x S1 = true
    · rw [if_pos hp] at e
      rcases h2 : evS φ base env es S1 with _ | ⟨vs, S2⟩
      · rw [h2] at e; cases e
      · rw [h2] at e
        simp only at e
        obtain ⟨i, xs1, rfl, q1⟩ := metP_lst (by decide) hp
        refine ho base β env S σ H _ _ S1 h1 s r fun β1 u H1 g1 s1 r1 c1 => ?_
        cases (show u = .ref (β1 i) from r1)
        refine ⟨tyV_lst s1 q1, ha base β1 env S1 σ H1 _ vs S2 h2 s1 (r.gr g1) fun β2 us H2 g2 s2 r2 c2 => ?_⟩
        have hi : i < S1.length := of_decide_eq_true c1
        rcases vs with _ | ⟨y, _ | ⟨z, t⟩⟩
        · cases e
        · obtain ⟨w, rfl, ry⟩ := reps1 r2
          obtain ⟨xs, q, e⟩ := lst_at (S := S2) (i := i) (f := fun xs => if wr base i y && decide (xs.length < lim) then some (D.non, S2.set i (.lst (xs ++ [y]))) else none) e
          obtain ⟨c, e⟩ := ite_some e
          cases e
          rw [Bool.and_eq_true] at c
          obtain ⟨ws, h, rs, cs⟩ := s2.lst q
          obtain ⟨s3, g3⟩ := s2.putL (base := base) q h (rs.append (Reps.one ry)) (clL_app cs c2) fun hi' n hn => clL_app hn (clL_one (wr_ok c.1 hi' n))
          refine ⟨β2 i, ws, w, by rw [g2.same i hi], rfl, h, ?_, ?_⟩
          · rw [← rs.length]
            exact lim_line' (of_decide_eq_true c.2)
          · exact k β2 .non _ ((g1.trans g2).trans g3) s3 rfl rfl
        · cases e
    · rw [if_neg hp] at e
      cases e
theorem es_popAt {to : TE} {t : TA} {o : Ex} {es : Es} (ho : ES K φ to o) (ha : EA K φ t es) : ES K φ (tBM K "list" rPopAt to t) (.met .popAt o es) := by
  intro base β env S σ H Q d S' e s r k
  rw [evE] at e
  rcases h1 : evE φ base env o S with _ | ⟨x, S1⟩
  · rw [h1] at e; cases e
  · rw [h1] at e
    simp only at e
    by_cases hp : metP .popAt x S1 = true
    · rw [if_pos hp] at e
      rcases h2 : evS φ base env es S1 with _ | ⟨vs, S2⟩
      · rw [h2] at e; cases e
      · rw [h2] at e
        simp only at e
        obtain ⟨i, xs1, rfl, q1⟩ := metP_lst (by decide) hp
        refine ho base β env S σ H _ _ S1 h1 s r fun β1 u H1 g1 s1 r1 c1 => ?_
        cases (show u = .ref (β1 i) from r1)
        refine ⟨tyV_lst s1 q1, ha base β1 env S1 σ H1 _ vs S2 h2 s1 (r.gr g1) fun β2 us H2 g2 s2 r2 c2 => ?_⟩
        have hi : i < S1.length := of_decide_eq_true c1
        rcases vs with _ | ⟨y, _ | ⟨z, t⟩⟩
        · cases e
        · obtain ⟨w, rfl, ry⟩ := reps1 r2
          cases y with
          | int j =>
            cases (show w = .int j from ry)
            obtain ⟨xs, q, e⟩ := lst_at (S := S2) (i := i) (f := fun xs => match ixN xs.length j with
              | some k => (match xs[k]? with
                | some y => if rgOk j then some (y, S2.set i (.lst (xs.eraseIdx k))) else none
                | none => none)
              | none => none) e
            cases e1 : ixN xs.length j with
            | none => rw [e1] at e; cases e
            | some m =>
              rw [e1] at e
              simp only at e
              cases e2 : xs[m]? with
              | none => rw [e2] at e; cases e
              | some z =>
                rw [e2] at e
                obtain ⟨cj, e⟩ := ite_some e
                cases e
                obtain ⟨b1, b2⟩ := rgOk_iff cj
                obtain ⟨ws, h, rs, cs⟩ := s2.lst q
                obtain ⟨s3, g3⟩ := s2.putL (base := base) q h (rs.erase m) (clL_of fun z hz => clL_mem cs z (List.mem_of_mem_eraseIdx hz)) fun _ n hn => clL_of fun z hz => clL_mem hn z (List.mem_of_mem_eraseIdx hz)
                obtain ⟨v, hv, rv⟩ := rs.get e2
                obtain ⟨a1, a2, a3, a4⟩ := ixN_seq e1
                have hl := rs.length
                refine ⟨β2 i, ws, j, m, v, by rw [g2.same i hi], rfl, h, by omega, by omega, by rw [← hl]; exact a1, hv, ?_⟩
                exact k β2 v _ ((g1.trans g2).trans g3) s3 (g3.rep rv (clL_mem cs _ (List.mem_of_getElem? e2))) (g3.cl (clL_mem cs _ (List.mem_of_getElem? e2)))
          | _ => cases e
        · (cases y <;> cases e)
    · rw [if_neg hp] at e
      cases e
theorem es_pop {to : TE} {o : Ex} (ho : ES K φ to o) : ES K φ (tBM0 K "list" rPop to) (.met .pop o .nil) := by
  intro base β env S σ H Q d S' e s r k
  rw [evE] at e
  rcases h1 : evE φ base env o S with _ | ⟨x, S1⟩
  · rw [h1] at e; cases e
  · rw [h1] at e
    simp only at e
    by_cases hp : metP .pop x S1 = true
    · rw [if_pos hp] at e
      obtain ⟨i, xs1, rfl, q1⟩ := metP_lst (by decide) hp
      have e' : metF base .pop (.ref i) [] S1 = some (d, S') := e
      refine ho base β env S σ H _ _ S1 h1 s r fun β1 u H1 g1 s1 r1 c1 => ?_
      cases (show u = .ref (β1 i) from r1)
      refine ⟨tyV_lst s1 q1, ?_⟩
      obtain ⟨xs, q, e⟩ := lst_at (S := S1) (i := i) (f := fun xs => match xs[xs.length - 1]? with
        | some y => some (y, S1.set i (.lst xs.dropLast))
        | none => none) e'
      cases e2 : xs[xs.length - 1]? with
      | none => rw [e2] at e; cases e
      | some z =>
        rw [e2] at e
        cases e
        obtain ⟨ws, h, rs, cs⟩ := s1.lst q
        have rd : Reps K β1 H1 xs.dropLast ws.dropLast := by
          rw [List.dropLast_eq_take, List.dropLast_eq_take, ← rs.length]
          exact rs.take _
        obtain ⟨s3, g3⟩ := s1.putL (base := base) q h rd (clL_of fun z hz => clL_mem cs z (List.dropLast_subset _ hz)) fun _ n hn => clL_of fun z hz => clL_mem hn z (List.dropLast_subset _ hz)
        obtain ⟨v, hv, rv⟩ := rs.get e2
        refine ⟨β1 i, ws, v, rfl, rfl, h, by rw [← rs.length]; exact hv, ?_⟩
        exact k β1 v _ (g1.trans g3) s3 (g3.rep rv (clL_mem cs _ (List.mem_of_getElem? e2))) (g3.cl (clL_mem cs _ (List.mem_of_getElem? e2)))
    · rw [if_neg hp] at e
      cases e
theorem es_bits {to : TE} {o : Ex} (ho : ES K φ to o) : ES K φ (tBits to) (.met .bits o .nil) := by
  intro base β env S σ H Q d S' e s r k
  rw [evE] at e
  rcases h1 : evE φ base env o S with _ | ⟨x, S1⟩
  · rw [h1] at e; cases e
  · rw [h1] at e
    have e' : metF base .bits x [] S1 = some (d, S') := e
    refine ho base β env S σ H _ _ S1 h1 s r fun β1 u H1 g1 s1 r1 c1 => ?_
    cases x with
    | int i =>
      cases e'
      exact ⟨i, r1, k β1 _ H1 g1 s1 rfl rfl⟩
    | _ => cases e'

/-! ### dicts -/
def KR (K : PySem.W.Frag) (β : Nat → Addr) (H : Hp) (kvs : List (Key × D)) (kws : List (Key × V)) : Prop := kws.map (·.1) = kvs.map (·.1) ∧ Reps K β H (kvs.map (·.2)) (kws.map (·.2))
theorem KR.nil : KR K β H [] [] := ⟨rfl, rfl⟩
theorem KR.inv {p : Key × D} {r : List (Key × D)} {kws : List (Key × V)} (h : KR K β H (p :: r) kws) : ∃ v t, kws = (p.1, v) :: t ∧ Rep K β H p.2 v ∧ KR K β H r t := by
  obtain ⟨h1, h2⟩ := h
  cases kws with
  | nil => cases h1
  | cons q t =>
    obtain ⟨x, w, e, r1, r2⟩ := (show ∃ x w, ((q :: t).map (·.2)) = x :: w ∧ Rep K β H p.2 x ∧ Reps K β H (r.map (·.2)) w from h2)
    cases e
    have e1 : q.1 = p.1 := (List.cons.inj h1).1
    exact ⟨q.2, t, by rw [← e1], r1, (List.cons.inj h1).2, r2⟩
theorem KR.cons {k : Key} {d : D} {v : V} {r : List (Key × D)} {t : List (Key × V)} (h : Rep K β H d v) (q : KR K β H r t) : KR K β H ((k, d) :: r) ((k, v) :: t) :=
  ⟨by rw [List.map_cons, List.map_cons, q.1], ⟨v, _, rfl, h, q.2⟩⟩
theorem KR.length {kvs : List (Key × D)} {kws : List (Key × V)} (h : KR K β H kvs kws) : kvs.length = kws.length := by
  have := congrArg List.length h.1
  rw [List.length_map, List.length_map] at this
  exact this.symm
theorem KR.look {k : Key} : ∀ {kvs : List (Key × D)} {kws : List (Key × V)}, KR K β H kvs kws → (∀ d, dLook kvs k = some d → ∃ v, valV kws k = some v ∧ Rep K β H d v) ∧ (dLook kvs k = none → valV kws k = none)
  | [], kws, h => by
    have : kws = [] := List.length_eq_zero_iff.mp h.length.symm
    subst this
    exact ⟨(fun _ e => by cases e), (fun _ => rfl)⟩
  | p :: r, kws, h => by
    obtain ⟨v, t, rfl, r1, q⟩ := h.inv
    by_cases hk : p.1 = k
    · have e1 : dLook (p :: r) k = some p.2 := by simp [dLook, List.find?_cons, hk]
      have e2 : valV ((p.1, v) :: t) k = some v := valV_pos hk
      rw [e1, e2]
      exact ⟨(fun d e => ⟨v, rfl, Option.some.inj e ▸ r1⟩), (fun e => by cases e)⟩
    · have e1 : dLook (p :: r) k = dLook r k := by simp [dLook, List.find?_cons, hk]
      have e2 : valV ((p.1, v) :: t) k = valV t k := valV_neg hk
      rw [e1, e2]
      exact KR.look q
theorem KR.putMap {k : Key} {d : D} {v : V} (hd : Rep K β H d v) : ∀ {kvs : List (Key × D)} {kws : List (Key × V)}, KR K β H kvs kws → KR K β H (kvs.map fun kv => if kv.1 = k then (kv.1, d) else kv) (kws.map fun kv => if kv.1 = k then (kv.1, v) else kv)
  | [], kws, h => by
    have : kws = [] := List.length_eq_zero_iff.mp h.length.symm
    subst this
    exact .nil
  | p :: r, kws, h => by
    obtain ⟨w, t, rfl, r1, q⟩ := h.inv
    rw [List.map_cons, List.map_cons]
    by_cases hk : p.1 = k
    · rw [if_pos hk, if_pos (show (p.1, w).1 = k from hk)]
      exact KR.cons hd (KR.putMap hd q)
    · rw [if_neg hk, if_neg (show ¬ (p.1, w).1 = k from hk)]
      exact KR.cons (k := p.1) (d := p.2) r1 (KR.putMap hd q)
theorem KR.app {k : Key} {d : D} {v : V} (hd : Rep K β H d v) {kvs : List (Key × D)} {kws : List (Key × V)} (h : KR K β H kvs kws) : KR K β H (kvs ++ [(k, d)]) (kws ++ [(k, v)]) :=
  ⟨by rw [List.map_append, List.map_append, h.1]; rfl, by rw [List.map_append, List.map_append]; exact h.2.append (Reps.one hd)⟩
theorem KR.any {k : Key} {kvs : List (Key × D)} {kws : List (Key × V)} (h : KR K β H kvs kws) : (kws.any fun kv => decide (kv.1 = k)) = kvs.any fun kv => decide (kv.1 = k) := by
  have e1 : (kws.any fun kv => decide (kv.1 = k)) = (kws.map (·.1)).any fun x => decide (x = k) := by rw [List.any_map]; rfl
  have e2 : (kvs.any fun kv => decide (kv.1 = k)) = (kvs.map (·.1)).any fun x => decide (x = k) := by rw [List.any_map]; rfl
  rw [e1, e2, h.1]
theorem KR.put {k : Key} {d : D} {v : V} (hd : Rep K β H d v) {kvs : List (Key × D)} {kws : List (Key × V)} (h : KR K β H kvs kws) : KR K β H (dPut kvs k d) (putK kws k v) := by
  unfold dPut putK
  rw [h.any]
  split
  · exact KR.putMap hd h
  · exact KR.app hd h
theorem cl_dPut {n : Nat} {k : Key} {d : D} {kvs : List (Key × D)} (h : clL n (kvs.map (·.2)) = true) (c : d.cl n = true) : clL n ((dPut kvs k d).map (·.2)) = true := by
  unfold dPut
  split
  · refine clL_of fun z hz => ?_
    rw [List.map_map] at hz
    obtain ⟨p, hp, e⟩ := List.mem_map.mp hz
    by_cases hk : p.1 = k
    · have : z = d := by rw [← e]; simp [hk]
      rw [this]
      exact c
    · have : z = p.2 := by rw [← e]; simp [hk]
      rw [this]
      exact clL_mem h _ (List.mem_map.mpr ⟨p, hp, rfl⟩)
  · rw [List.map_append]
    exact clL_app h (clL_one c)
theorem Sim.dic {d : D} {v : V} {kvs : List (Key × D)} (s : Sim K β S H) (e : dicOf S d = some kvs) (r : Rep K β H d v) : ∃ a kws, v = .ref a ∧ Rd H a (.dK kws) ∧ KR K β H kvs kws ∧ clL S.length (kvs.map (·.2)) = true := by
  cases d with
  | ref i =>
    obtain ⟨o, q, e⟩ := bind_some (show (S[i]?).bind SO.dic? = some kvs from e)
    cases o with
    | dct l =>
      cases e
      obtain ⟨kws, h, r1, r2⟩ := s.cell i _ q
      exact ⟨β i, kws, r, .inl h, ⟨r1, r2⟩, s.cl i _ q⟩
    | fdc l =>
      cases e
      obtain ⟨o, kws, h, r1, r2⟩ := s.cell i _ q
      exact ⟨β i, kws, r, .inr ⟨o, h⟩, ⟨r1, r2⟩, s.cl i _ q⟩
    | lst l => cases e
    | fro l => cases e
  | _ => cases e
theorem keyD_ok {d : D} {v : V} {k : Key} (e : keyD d = some k) (r : Rep K β H d v) : v = kV k := by
  cases d with
  | int i => cases e; exact r
  | str i => cases e; exact r
  | _ => cases e
theorem dLook_mem {kvs : List (Key × D)} {k : Key} {d : D} (e : dLook kvs k = some d) : d ∈ kvs.map (·.2) := by
  unfold dLook at e
  obtain ⟨p, h1, h2⟩ := map_some e
  exact List.mem_map.mpr ⟨p, List.mem_of_find?_eq_some h1, h2⟩
theorem es_dic : ES K φ tDNewK .dic := by
  intro base β env S σ H Q d S' e s r k
  cases e
  intro p hp
  obtain ⟨s', g⟩ := s.add (base := base) (u := .dK []) (o := .dct []) hp rfl ⟨[], upd_same, rfl, rfl⟩
  refine k _ _ _ g s' ?_ (decide_eq_true (by simp))
  show V.ref p = .ref (ext β S.length p S.length)
  rw [ext_eq]
theorem es_dix {ta tb : TE} {a b : Ex} (ha : ES K φ ta a) (hb : ES K φ tb b) : ES K φ (tDGet ta tb) (.dix a b) := by
  intro base β env S σ H Q d S' e s r k
  rw [evE] at e
  obtain ⟨v, S3, e1, hg⟩ := gc_some e
  rcases h1 : evE φ S.length env a S with _ | ⟨x, S1⟩
  · rw [h1] at e1; cases e1
  · rw [h1] at e1
    simp only at e1
    rcases h2 : evE φ S.length env b S1 with _ | ⟨y, S2⟩
    · rw [h2] at e1; cases e1
    · rw [h2] at e1
      simp only at e1
      obtain ⟨z, e2, e3⟩ := map_some e1
      cases e3
      refine ES.two ha hb h1 h2 s r fun β2 u w H2 g s2 rx ry cx cy => ?_
      obtain ⟨kvs, q1, q2⟩ := bind_some e2
      obtain ⟨key, q3, q4⟩ := bind_some q2
      obtain ⟨p, kws, rfl, hr, kr, ck⟩ := s2.dic q1 rx
      obtain ⟨w', hw, rw'⟩ := (kr.look (k := key)).1 _ q4
      refine ⟨p, w', rfl, .inl ⟨kws, key, hr, keyD_ok q3 ry, hw.symm⟩, ?_⟩
      exact (k.fin hg s g).here s2 rw' (clL_mem ck _ (dLook_mem q4))
end
end Z
end
section
set_option Elab.async false
set_option linter.all false
set_option autoImplicit false
/-! what is walked, comprehensions -/
namespace Z
open PySem L2

section
variable {K : PySem.W.Frag} {φ : Phi} {β β1 β2 : Nat → Addr} {H H1 H2 : Hp} {S S' S1 S2 : Sto} {base : Nat}

theorem isD_of {d : D} {kvs : List (Key × D)} {v : V} (s : Sim K β S H) (e : dicOf S d = some kvs) (r : Rep K β H d v) : ∃ a, v = .ref a ∧ IsD H a := by
  obtain ⟨a, kws, e1, h, _⟩ := s.dic e r
  exact ⟨a, e1, .inl ⟨kws, h⟩⟩
theorem es_dgt {ta tb tc : TE} {a b c : Ex} (ha : ES K φ ta a) (hb : ES K φ tb b) (hc : ES K φ tc c) : ES K φ (tDGet2 ta tb tc) (.dgt a b c) := by
  intro base β env S σ H Q d S' e s r k
  rw [evE] at e
  obtain ⟨v, S4, e1, hg⟩ := gc_some e
  rcases h1 : evE φ S.length env a S with _ | ⟨x, S1⟩
  · rw [h1] at e1; cases e1
  · rw [h1] at e1
    simp only at e1
    by_cases hd : (dicOf S1 x).isSome = true
    · rw [if_pos hd] at e1
      rcases h2 : evE φ S.length env b S1 with _ | ⟨y, S2⟩
      · rw [h2] at e1; cases e1
      · rw [h2] at e1
        simp only at e1
        rcases h3 : evE φ S.length env c S2 with _ | ⟨z, S3⟩
        · rw [h3] at e1; cases e1
        · rw [h3] at e1
          simp only at e1
          obtain ⟨w0, e2, e3⟩ := map_some e1
          cases e3
          refine ha _ β env S σ H _ x S1 h1 s r fun β1 u H1 g1 s1 r1 c1 => ?_
          cases q0 : dicOf S1 x with
          | none => rw [q0] at hd; cases hd
          | some kv0 =>
            obtain ⟨p, rfl, hD⟩ := isD_of s1 q0 r1
            refine ⟨p, rfl, hD, hb _ β1 env S1 σ H1 _ y S2 h2 s1 (r.gr g1) fun β2 u2 H2 g2 s2 r2 c2 => ?_⟩
            refine hc _ β2 env S2 σ H2 _ z _ h3 s2 (r.gr (g1.trans g2)) fun β3 u3 H3 g3 s3 r3 c3 => ?_
            obtain ⟨kvs, q1, q2⟩ := bind_some e2
            obtain ⟨key, q3, q4⟩ := map_some q2
            obtain ⟨p', kws, ep, hr, kr, ck⟩ := s3.dic q1 ((g2.trans g3).rep r1 c1)
            cases ep
            have fin := k.fin hg s ((g1.trans g2).trans g3)
            cases ql : dLook kvs key with
            | some dd =>
              obtain ⟨w', hw, rw'⟩ := (kr.look (k := key)).1 _ ql
              rw [ql] at q4
              cases q4
              exact ⟨some w', .inl ⟨kws, key, hr, keyD_ok q3 (g3.rep r2 c2), hw.symm⟩, fin.here s3 rw' (clL_mem ck _ (dLook_mem ql))⟩
            | none =>
              have hw := (kr.look (k := key)).2 ql
              rw [ql] at q4
              cases q4
              exact ⟨none, .inl ⟨kws, key, hr, keyD_ok q3 (g3.rep r2 c2), hw.symm⟩, fin.here s3 r3 c3⟩
    · rw [if_neg hd] at e1
      cases e1

/-! ### equal by look is equal -/
mutual
theorem D.beq_eq : ∀ (a b : D), a.beq b = true → a = b
  | .non, b, h => by cases b <;> first | rfl | cases h
  | .bl x, b, h => by
    cases b with
    | bl y => rw [eq_of_beq (show (x == y) = true from h)]
    | _ => cases h
  | .int x, b, h => by
    cases b with
    | int y => rw [eq_of_beq (show (x == y) = true from h)]
    | _ => cases h
  | .str x, b, h => by
    cases b with
    | str y => rw [eq_of_beq (show (x == y) = true from h)]
    | _ => cases h
  | .ref x, b, h => by
    cases b with
    | ref y => rw [eq_of_beq (show (x == y) = true from h)]
    | _ => cases h
  | .tup x, b, h => by
    cases b with
    | tup y => rw [beqL_eq x y h]
    | _ => cases h
theorem beqL_eq : ∀ (a b : List D), beqL a b = true → a = b
  | [], b, h => by
    cases b with
    | nil => rfl
    | cons y b => cases h
  | x :: a, b, h => by
    cases b with
    | nil => cases h
    | cons y b =>
      have h' : (x.beq y && beqL a b) = true := h
      rw [Bool.and_eq_true] at h'
      rw [D.beq_eq x y h'.1, beqL_eq a b h'.2]
end
mutual
theorem D.beq_refl : ∀ (a : D), a.beq a = true
  | .non => rfl
  | .bl x => beq_self_eq_true x
  | .int x => beq_self_eq_true x
  | .str x => beq_self_eq_true x
  | .ref x => beq_self_eq_true x
  | .tup x => beqL_refl x
theorem beqL_refl : ∀ (a : List D), beqL a a = true
  | [] => rfl
  | x :: a => by
    show (x.beq x && beqL a a) = true
    rw [D.beq_refl x, beqL_refl a]
    rfl
end

/-! ### what is walked -/
theorem wlk_list {i : Nat} {xs : List D} (hi : i < S.length) : Wlk K (Itl K (β i)) β S H (some i) xs := by
  intro b β' S' H' g s st
  unfold still at st
  simp only at st
  cases q : (S'[i]?).bind SO.seq? with
  | none => rw [q] at st; cases st
  | some ys =>
    rw [q] at st
    have e := beqL_eq ys xs st
    subst e
    obtain ⟨vs, h, rs, cs⟩ := s.seq q
    rw [g.same i hi] at h
    refine ⟨fun j hj => ⟨vs, h, by rw [← rs.length]; exact hj⟩, fun j x hx => ?_⟩
    obtain ⟨v, hv, rv⟩ := rs.get hx
    exact ⟨⟨vs, v, h, hv⟩, fun w H2 ⟨e1, e2⟩ => ⟨e1, by
      have := e2 vs h
      rw [hv] at this
      cases this
      exact rv⟩⟩
theorem wlk_tup {a : Addr} {xs : List D} {vs : List V} (h : SqT K H a vs) (rs : Reps K β H xs vs) (cs : clL S.length xs = true) : Wlk K (Itt K a) β S H none xs := by
  intro b β' S' H' g s st
  have h' := g.tk.r.sqT h
  have rs' := g.reps rs cs
  refine ⟨fun j hj => ⟨vs, h', by rw [← rs.length]; exact hj⟩, fun j x hx => ?_⟩
  obtain ⟨v, hv, rv⟩ := rs'.get hx
  exact ⟨⟨vs, v, h', hv⟩, fun w H2 ⟨e1, e2⟩ => ⟨e1, by
    have := e2 vs h'
    rw [hv] at this
    cases this
    exact rv⟩⟩
theorem rgI_length : ∀ (n : Nat) (lo : Int), (rgI lo n).length = n
  | 0, _ => rfl
  | n + 1, lo => by rw [rgI, List.length_cons, rgI_length n]
theorem rgI_get : ∀ (n : Nat) (lo : Int) (i : Nat) (x : D), (rgI lo n)[i]? = some x → x = .int (lo + i) ∧ i < n
  | 0, lo, i, x, h => by simp [rgI] at h
  | n + 1, lo, 0, x, h => by
    simp only [rgI, List.getElem?_cons_zero, Option.some.injEq] at h
    exact ⟨by rw [← h]; simp, by omega⟩
  | n + 1, lo, i + 1, x, h => by
    simp only [rgI, List.getElem?_cons_succ] at h
    obtain ⟨e, l⟩ := rgI_get n (lo + 1) i x h
    refine ⟨?_, by omega⟩
    rw [e]
    congr 1
    omega
theorem rgI_cl {m : Nat} : ∀ (n : Nat) (lo : Int), clL m (rgI lo n) = true
  | 0, _ => rfl
  | n + 1, lo => rgI_cl n (lo + 1)
theorem wlk_rng {lo : Int} {n : Nat} : Wlk K (Itr lo n) β S H none (rgI lo n) := by
  intro b β' S' H' g s st
  refine ⟨fun j hj => by rw [rgI_length] at hj; exact hj, fun j x hx => ?_⟩
  obtain ⟨rfl, hl⟩ := rgI_get n lo j x hx
  exact ⟨hl, fun w H2 ⟨e1, e2⟩ => ⟨e1, e2⟩⟩
theorem ei_ex {te : TE} {c : Ex} (h : ES K φ te c) : EI K φ (fun σ H R => iList K te σ H R ∨ iTup K te σ H R) (.ex c) := by
  intro base β env S σ H R xs ho S' e s r q
  rw [evI] at e
  rcases h1 : evE φ base env c S with _ | ⟨x, S1⟩
  · rw [h1] at e; cases e
  · rw [h1] at e
    simp only at e
    obtain ⟨⟨p1, p2⟩, e1, e2⟩ := map_some e
    cases e2
    cases x with
    | tup ds =>
      cases e1
      refine .inr (h base β env S σ H _ _ _ h1 s r fun β1 v H1 g1 s1 r1 c1 => ?_)
      obtain ⟨a, vs, rfl, hq, rs⟩ := (show ∃ a vs, v = .ref a ∧ SqT K H1 a vs ∧ Reps K β1 H1 _ vs from r1)
      exact ⟨a, rfl, ⟨vs, hq⟩, q β1 _ H1 g1 s1 c1 (wlk_tup hq rs c1)⟩
    | ref i =>
      obtain ⟨ys, q1, q2⟩ := map_some (show ((S'[i]?).bind SO.seq?).map (fun xs => (xs, some i)) = some (p1, p2) from e1)
      cases q2
      refine .inl (h base β env S σ H _ _ _ h1 s r fun β1 v H1 g1 s1 r1 c1 => ?_)
      cases (show v = .ref (β1 i) from r1)
      obtain ⟨vs, hq, rs, cs⟩ := s1.seq q1
      exact ⟨β1 i, rfl, ⟨vs, hq⟩, q β1 _ H1 g1 s1 cs (wlk_list (of_decide_eq_true c1))⟩
    | _ => cases e1
theorem ei_rng1 {te : TE} {c : Ex} (h : ES K φ te c) : EI K φ (iRng1 (tCons te tNil)) (.rng1 c) := by
  intro base β env S σ H R xs ho S' e s r q
  rw [evI] at e
  rcases h1 : evE φ base env c S with _ | ⟨x, S1⟩
  · rw [h1] at e; cases e
  · rw [h1] at e
    cases x with
    | int j =>
      simp only at e
      obtain ⟨cj, e⟩ := ite_some e
      cases e
      obtain ⟨b1, b2⟩ := rgOk_iff cj
      refine h base β env S σ H _ _ _ h1 s r fun β1 v H1 g1 s1 r1 c1 => ?_
      cases (show v = .int j from r1)
      exact ⟨j, rfl, b1, b2, q β1 _ H1 g1 s1 (rgI_cl _ _) wlk_rng⟩
    | _ => cases e
theorem ei_rng2 {ta tb : TE} {a b : Ex} (ha : ES K φ ta a) (hb : ES K φ tb b) : EI K φ (iRng2 (tCons ta (tCons tb tNil))) (.rng2 a b) := by
  intro base β env S σ H R xs ho S' e s r q
  rw [evI] at e
  rcases h1 : evE φ base env a S with _ | ⟨x, S1⟩
  · rw [h1] at e; cases e
  · rw [h1] at e
    cases x with
    | int i =>
      simp only at e
      rcases h2 : evE φ base env b S1 with _ | ⟨y, S2⟩
      · rw [h2] at e; cases e
      · rw [h2] at e
        cases y with
        | int j =>
          simp only at e
          obtain ⟨cj, e⟩ := ite_some e
          cases e
          rw [Bool.and_eq_true] at cj
          obtain ⟨b1, b2⟩ := rgOk_iff cj.1
          obtain ⟨b3, b4⟩ := rgOk_iff cj.2
          refine ES.two ha hb h1 h2 s r fun β2 u w H2 g s2 rx ry cx cy => ?_
          cases (show u = .int i from rx)
          cases (show w = .int j from ry)
          exact ⟨i, j, rfl, ⟨b1, b2, b3, b4⟩, q β2 _ H2 g s2 (rgI_cl _ _) wlk_rng⟩
        | _ => cases e
    | _ => cases e

/-! ### a thing beside the store -/
theorem Sim.side {p : Addr} {u : HO} (s : Sim K β S H) (hp : H p = none) : Sim K β S (upd H p u) ∧ Gr base β S H β S (upd H p u) := by
  have t : TupK H (upd H p u) := TupK.new hp
  have ne : ∀ i o, S[i]? = some o → β i ≠ p := fun i o e z => by
    obtain ⟨w, e1, _⟩ := (s.cell i o e).there
    rw [z, hp] at e1
    cases e1
  refine ⟨⟨fun i o' e => (s.cell i o' e).tk t.r (fun _ _ => rfl) (s.cl i o' e) rfl (upd_ne (ne i o' e)), s.cl, s.inj⟩, ⟨Nat.le_refl _, fun _ _ => rfl, fun a o' e _ => by rw [upd_ne (ne_of_none e hp)]; exact e, fun a o' e => ?_, fun i h1 h2 => absurd h2 (by omega), fun i hi n o1 o2 e1 e2 c1 => ?_, t⟩⟩
  · by_cases ha : a = p
    · subst ha
      exact ⟨_, upd_same⟩
    · exact ⟨o', by rw [upd_ne ha]; exact e⟩
  · rw [e1] at e2
    cases e2
    exact c1
/-- it changes -/
theorem Sim.side2 {p : Addr} {xs : List V} {u : HO} (s : Sim K β S H) (hp : H p = some (.lst xs)) (ne : ∀ i, i < S.length → β i ≠ p) : Sim K β S (upd H p u) := by
  have t : TupK H (upd H p u) := TupK.set hp (fun _ z => by cases z) (fun _ _ z => by cases z)
  exact ⟨fun i o' e => (s.cell i o' e).tk t.r (fun _ _ => rfl) (s.cl i o' e) rfl (upd_ne (ne i (List.getElem?_eq_some_iff.mp e).1)), s.cl, s.inj⟩
/-- of what was there ahead of it nothing is seen -/
theorem Gr.side {p : Addr} {u : HO} (g : Gr base β S H β1 S1 H1) (hp : H p = none) (hq : ∃ xs, H1 p = some (.lst xs)) : Gr base β S H β1 S1 (upd H1 p u) := by
  obtain ⟨xs, hq⟩ := hq
  have ne : ∀ a o, H a = some o → a ≠ p := fun a o e z => by rw [z, hp] at e; cases e
  refine ⟨g.len, g.same, fun a o e h => by rw [upd_ne (ne a o e)]; exact g.fr a o e h, fun a o e => ?_, g.new, g.tm, ⟨fun a vs e => by rw [upd_ne (ne a _ e)]; exact g.tk.tup a vs e, fun a o w e => by rw [upd_ne (ne a _ e)]; exact g.tk.frz a o w e⟩⟩
  obtain ⟨o', e'⟩ := g.trk a o e
  exact ⟨o', by rw [upd_ne (ne a o e)]; exact e'⟩
/-- at last it becomes a thing of the store -/
theorem Sim.adopt {p : Addr} {xs : List D} {vs : List V} (s : Sim K β S H) (hp : H p = some (.lst vs)) (ne : ∀ i, i < S.length → β i ≠ p) (r : Reps K β H xs vs) (c : clL S.length xs = true) : Sim K (ext β S.length p) (S ++ [.lst xs]) H := by
  have same : ∀ i, i < S.length → ext β S.length p i = β i := fun i h => ext_lt h
  refine ⟨fun i o' e => ?_, fun i o' e => ?_, fun i j hi hj e => ?_⟩
  · rcases get_app e with ⟨hi, e⟩ | ⟨rfl, rfl⟩
    · exact (s.cell i o' e).tk TupR.refl same (s.cl i o' e) (same i hi) rfl
    · refine ⟨vs, ?_, Reps.tk TupR.refl same xs vs c r⟩
      rw [ext_eq]
      exact hp
  · rw [List.length_append]
    rcases get_app e with ⟨hi, e⟩ | ⟨rfl, rfl⟩
    · exact SO.cl_mono (Nat.le_add_right _ _) (s.cl i o' e)
    · exact clL_mono (Nat.le_add_right _ _) xs c
  · rw [List.length_append, List.length_singleton] at hi hj
    by_cases h1 : i < S.length
    · by_cases h2 : j < S.length
      · rw [same i h1, same j h2] at e
        exact s.inj i j h1 h2 e
      · have : j = S.length := by omega
        subst this
        rw [same i h1, ext_eq] at e
        exact absurd e (ne i h1)
    · have : i = S.length := by omega
      subst this
      by_cases h2 : j < S.length
      · rw [same j h2, ext_eq] at e
        exact absurd e.symm (ne j h2)
      · omega
theorem Gr.adopt {p : Addr} {o : SO} (g : Gr base β S H β1 S1 H1) (hp : H p = none) : Gr base β S H (ext β1 S1.length p) (S1 ++ [o]) H1 := by
  have same : ∀ i, i < S1.length → ext β1 S1.length p i = β1 i := fun i h => ext_lt h
  refine ⟨by rw [List.length_append]; exact Nat.le_trans g.len (Nat.le_add_right _ _), fun i h => (same i (Nat.lt_of_lt_of_le h g.len)).trans (g.same i h), g.fr, g.trk, fun i h1 h2 => ?_, fun i hi n o1 o2 e1 e2 c1 => ?_, g.tk⟩
  · rw [List.length_append, List.length_singleton] at h2
    by_cases h3 : i < S1.length
    · rw [same i h3]
      exact g.new i h1 h3
    · have : i = S1.length := by omega
      subst this
      rw [ext_eq]
      exact hp
  · have h1 := Nat.lt_of_lt_of_le (List.getElem?_eq_some_iff.mp e1).1 g.len
    rw [List.getElem?_append_left h1] at e2
    exact g.tm i hi n o1 o2 e1 e2 c1

/-! ### targets -/
theorem wipe_len (σ : L2.St) : ∀ is : List Nat, (wipe σ is).length = σ.length := wipe_length σ
theorem wipe_get {σ : L2.St} {j : Nat} : ∀ {is : List Nat}, (wipe σ is)[j]? = if j ∈ is then (if j < σ.length then some none else none) else σ[j]?
  | [] => by simp [wipe]
  | i :: is => by
    show ((wipe σ is).set i none)[j]? = _
    by_cases hij : i = j
    · subst hij
      by_cases hl : i < σ.length
      · rw [List.getElem?_set_self (by rw [wipe_length]; exact hl)]
        simp [hl]
      · rw [List.getElem?_eq_none (by rw [List.length_set, wipe_length]; omega)]
        simp [hl]
    · rw [List.getElem?_set_ne hij, wipe_get (is := is)]
      have : (j ∈ i :: is) ↔ j ∈ is := by simp [Ne.symm hij]
      by_cases h : j ∈ is <;> simp [h, Ne.symm hij]
theorem wipe_set {σ : L2.St} {i : Nat} {v : V} {is : List Nat} (h : i ∈ is) : wipe (σ.set i (some v)) is = wipe σ is := by
  apply List.ext_getElem?
  intro j
  rw [wipe_get, wipe_get, List.length_set]
  by_cases hj : j ∈ is
  · rw [if_pos hj, if_pos hj]
  · rw [if_neg hj, if_neg hj, List.getElem?_set_ne (fun e => hj (by rw [← e]; exact h))]
theorem wipe_wipe {σ : L2.St} {is : List Nat} : wipe (wipe σ is) is = wipe σ is := by
  apply List.ext_getElem?
  intro j
  rw [wipe_get, wipe_get, wipe_length]
  by_cases hj : j ∈ is
  · rw [if_pos hj, if_pos hj]
  · rw [if_neg hj, if_neg hj]
/-- a target's store -/
def EG (K : PySem.W.Frag) (t : TG) (g : Tg) : Prop := ∀ (β : Nat → Addr) (env env2 : Ev) (n : Nat) (σ : L2.St) (H : Hp) (d : D) (v : V) (own : List Nat) (Q : L2.St → Hp → Prop),
  tgF g env d = some env2 → EnvR K β H n env σ → Rep K β H d v → d.cl n = true → (∀ σ2, EnvR K β H n env2 σ2 → (tgIn own g = true → wipe σ2 own = wipe σ own) → Q σ2 H) → t v σ H Q
theorem eg_all (K : PySem.W.Frag) : ∀ (is : List Nat) (ds : List D) (vs : List V) (β : Nat → Addr) (env env2 : Ev) (n : Nat) (σ : L2.St) (H : Hp) (own : List Nat) (Q : L2.St → Hp → Prop),
    setAll env is ds = some env2 → EnvR K β H n env σ → Reps K β H ds vs → clL n ds = true → (∀ σ2, EnvR K β H n env2 σ2 → (is.all own.contains = true → wipe σ2 own = wipe σ own) → Q σ2 H) → (is.foldr (fun i t => gCons (gName i) t) gNil) vs σ H Q
  | [], [], vs, β, env, env2, n, σ, H, own, Q, e, r, rs, c, q => by
    cases e
    exact ⟨rs, q σ r fun _ => rfl⟩
  | i :: is, d :: ds, vs, β, env, env2, n, σ, H, own, Q, e, r, rs, c, q => by
    obtain ⟨x, w, rfl, r1, r2⟩ := (show ∃ x w, vs = x :: w ∧ Rep K β H d x ∧ Reps K β H ds w from rs)
    have c' : (d.cl n && clL n ds) = true := c
    rw [Bool.and_eq_true] at c'
    refine ⟨x, w, rfl, ?_⟩
    refine eg_all K is ds w β (env.set i (some d)) env2 n (σ.set i (some x)) H own Q e (r.set i c'.1 r1) r2 c'.2 fun σ2 h2 hw => q σ2 h2 fun hall => ?_
    rw [List.all_cons, Bool.and_eq_true] at hall
    rw [hw hall.2]
    exact wipe_set (by simpa using hall.1)
  | [], _ :: _, vs, β, env, env2, n, σ, H, own, Q, e, r, rs, c, q => by cases e
  | _ :: _, [], vs, β, env, env2, n, σ, H, own, Q, e, r, rs, c, q => by cases e
theorem setAll_len : ∀ {is : List Nat} {ds : List D} {env env2 : Ev}, setAll env is ds = some env2 → is.length = ds.length
  | [], [], _, _, _ => rfl
  | i :: is, d :: ds, env, env2, e => by
    rw [List.length_cons, List.length_cons, setAll_len (show setAll (env.set i (some d)) is ds = some env2 from e)]
  | [], _ :: _, _, _, e => by cases e
  | _ :: _, [], _, _, e => by cases e
theorem eg (g : Tg) : EG K (rdG K g) g := by
  intro β env env2 n σ H d v own Q e r rv c q
  cases g with
  | nm i =>
    cases e
    exact q _ (r.set i c rv) fun h => wipe_set (by simpa [tgIn] using h)
  | tp is =>
    cases d with
    | tup ds =>
      obtain ⟨a, vs, rfl, h, rs⟩ := (show ∃ a vs, v = .ref a ∧ SqT K H a vs ∧ Reps K β H ds vs from rv)
      have e' : setAll env is ds = some env2 := e
      refine ⟨a, vs, rfl, h, by rw [← rs.length, setAll_len e'], ?_⟩
      exact eg_all K is ds vs β env env2 n σ H own Q e' r rs c q
    | _ => cases e
end
end Z
end
section
set_option Elab.async false
set_option linter.all false
set_option autoImplicit false
/-! comprehensions -/
namespace Z
open PySem L2

section
variable {K : PySem.W.Frag} {φ : Phi} {β β1 β2 : Nat → Addr} {H H1 H2 : Hp} {S S' S1 S2 : Sto} {base n : Nat}

/-- one turn: the test, the item -/
def elF (φ : Phi) (n : Nat) (c : Ox) (e : Ex) (env2 : Ev) (S2 : Sto) : Option (Option D × Sto) := match evO φ n env2 c S2 with
  | some (t, S3) => (match t with
    | none => (match evE φ n env2 e S3 with
      | some (y, S4) => some (some y, S4)
      | none => none)
    | some t => (match truF S3 t with
      | some true => (match evE φ n env2 e S3 with
        | some (y, S4) => some (some y, S4)
        | none => none)
      | some false => some (none, S3)
      | none => none))
  | none => none
theorem el_ok {tt : TT} {te : TE} {c : Ox} {e : Ex} {env2 : Ev} {σ2 : L2.St} {o : Option D} {Y : V → Hp → Prop} {N : Hp → Prop} (hc : EC K φ tt c) (he : ES K φ te e) (h : elF φ n c e env2 S = some (o, S')) (s : Sim K β S H) (r : EnvR K β H S.length env2 σ2)
    (hy : ∀ y, o = some y → Kt K n β S H S' y Y) (hn : o = none → ∀ (β' : Nat → Addr) (H' : Hp), Gr n β S H β' S' H' → Sim K β' S' H' → N H') :
    tt σ2 H fun b H3 => if b = true then te σ2 H3 Y else N H3 := by
  unfold elF at h
  rcases h1 : evO φ n env2 c S with _ | ⟨t, S3⟩
  · rw [h1] at h; cases h
  · rw [h1] at h
    have yes : ∀ (k0 : tstO S3 t = some true), (match evE φ n env2 e S3 with
        | some (y, S4) => some (some y, S4)
        | none => none) = some (o, S') → tt σ2 H fun b H3 => if b = true then te σ2 H3 Y else N H3 := fun k0 h2 => by
      rcases h3 : evE φ n env2 e S3 with _ | ⟨y, S4⟩
      · rw [h3] at h2; cases h2
      · rw [h3] at h2
        cases h2
        refine hc n β env2 S σ2 H _ t true S3 h1 k0 s r fun β1 H1 g1 s1 => ?_
        rw [if_pos rfl]
        exact he n β1 env2 S3 σ2 H1 Y y _ h3 s1 (r.gr g1) fun β2 w H2 g2 s2 r2 c2 => hy y rfl β2 w H2 (g1.trans g2) s2 r2 c2
    cases t with
    | none => exact yes rfl h
    | some d =>
      simp only at h
      cases q : truF S3 d with
      | none => rw [q] at h; cases h
      | some b =>
        rw [q] at h
        cases b with
        | true => exact yes q h
        | false =>
          cases h
          refine hc n β env2 S σ2 H _ (some d) false _ h1 q s r fun β1 H1 g1 s1 => ?_
          rw [if_neg Bool.false_ne_true]
          exact hn rfl β1 H1 g1 s1

/-- what is walked, by a word about the store -/
def Wk (K : PySem.W.Frag) (J : L2.It) (β : Nat → Addr) (S : Sto) (H : Hp) (ok : Sto → Bool) (xs : List D) : Prop :=
  ∀ (base : Nat) (β' : Nat → Addr) (S' : Sto) (H' : Hp), Gr base β S H β' S' H' → Sim K β' S' H' → ok S' = true →
    (∀ i, xs.length ≤ i → J.stop i H') ∧ ∀ i x, xs[i]? = some x → J.go i H' ∧ ∀ v H2, J.yld i H' v H2 → H2 = H' ∧ Rep K β' H' x v
theorem drop_get {α : Type} {xs : List α} {i : Nat} {d : α} {ds : List α} (h : xs.drop i = d :: ds) : xs[i]? = some d ∧ xs.drop (i + 1) = ds ∧ i < xs.length := by
  have hl : i < xs.length := by
    by_cases hi : i < xs.length
    · exact hi
    · rw [List.drop_eq_nil_of_le (by omega)] at h
      cases h
  rw [List.drop_eq_getElem_cons hl] at h
  obtain ⟨h1, h2⟩ := List.cons.inj h
  exact ⟨by rw [List.getElem?_eq_getElem hl, h1], h2, hl⟩
theorem lc_run {J : L2.It} {g : TG} {tt : TT} {te : TE} {vs : List Nat} {σ : L2.St} {step : D → Sto → Option (Option D × Sto)} {ok : Sto → Bool} {xs ys : List D} {Q : VK}
    (hw : Wk K J β1 S1 H1 ok xs) (s1 : Sim K β1 S1 H1) (cx : clL S1.length xs = true) (hl : lcF step ok xs [] S1 = some (ys, S2))
    (hstep : ∀ (d : D) (v : V) (βc : Nat → Addr) (Sc S' : Sto) (Hc : Hp) (o : Option D) (Y : V → Hp → Prop) (N : Hp → Prop), step d Sc = some (o, S') → Gr n β1 S1 H1 βc Sc Hc → Sim K βc Sc Hc → Rep K βc Hc d v → d.cl Sc.length = true →
      (∀ y, o = some y → Kt K n βc Sc Hc S' y Y) → (o = none → ∀ (β' : Nat → Addr) (H' : Hp), Gr n βc Sc Hc β' S' H' → Sim K β' S' H' → N H') →
      g v (wipe σ vs) Hc fun σ2 H2 => wipe σ2 vs = wipe σ vs ∧ tt σ2 H2 fun b H3 => if b = true then te σ2 H3 Y else N H3)
    (hend : ∀ (D0 : Addr) (β2 : Nat → Addr) (H2 : Hp) (ws : List V), H1 D0 = none → Gr n β1 S1 H1 β2 S2 H2 → Sim K β2 S2 H2 → H2 D0 = some (.lst ws) → Reps K β2 H2 ys ws → clL S2.length ys = true → (∀ i, i < S2.length → β2 i ≠ D0) → Q (.ref D0) H2) :
    ∀ D0, H1 D0 = none → ∃ W : Nat → Nat → Hp → Prop, (∃ m, W 0 m (upd H1 D0 (.lst []))) ∧ ∀ i m H, W i m H →
      (J.stop i H ∧ Q (.ref D0) H) ∨ (J.go i H ∧ ∃ Nx : Hp → Prop, (∀ H', Nx H' → ∃ m', m' < m ∧ W (i + 1) m' H') ∧ ∀ x H', J.yld i H x H' → g x (wipe σ vs) H' fun σ2 H2 => wipe σ2 vs = wipe σ vs ∧ tt σ2 H2 fun b H3 =>
        if b = true then te σ2 H3 fun y H4 => ∃ acc, H4 D0 = some (.lst acc) ∧ acc.length < sizeLine ∧ Nx (upd H4 D0 (.lst (acc ++ [y]))) else Nx H3) := by
  intro D0 hD
  let W : Nat → Nat → Hp → Prop := fun i m Hc => ∃ (βc : Nat → Addr) (Sc : Sto) (acc : List D) (ws : List V), m = xs.length - i ∧ i ≤ xs.length ∧ lcF step ok (xs.drop i) acc Sc = some (ys, S2) ∧
    Gr n β1 S1 H1 βc Sc Hc ∧ Sim K βc Sc Hc ∧ Hc D0 = some (.lst ws) ∧ Reps K βc Hc acc ws ∧ clL Sc.length acc = true ∧ ∀ j, j < Sc.length → βc j ≠ D0
  refine ⟨W, ⟨xs.length, β1, S1, [], [], by simp, Nat.zero_le _, hl, (s1.side (base := n) hD).2, (s1.side (base := n) hD).1, upd_same, rfl, rfl, fun j hj z => ?_⟩, ?_⟩
  · obtain ⟨u, hu, _⟩ := (s1.cell j _ (List.getElem?_eq_getElem hj)).there
    rw [z, hD] at hu
    cases hu
  · rintro i m Hc ⟨βc, Sc, acc, ws, rfl, hi, hlc, gc0, sc, hDc, rs, ca, nd⟩
    cases hx : xs.drop i with
    | nil =>
      have hil : xs.length ≤ i := List.drop_eq_nil_iff.mp hx
      rw [hx] at hlc
      unfold lcF at hlc
      obtain ⟨c, e⟩ := ite_some hlc
      cases e
      exact .inl ⟨(hw n βc _ Hc gc0 sc c).1 i hil, hend D0 βc Hc ws hD gc0 sc hDc rs ca nd⟩
    | cons d ds =>
      obtain ⟨hget, hdrop, hlt⟩ := drop_get hx
      rw [hx] at hlc
      unfold lcF at hlc
      by_cases hok : (ok Sc && decide (acc.length < lim)) = true
      · rw [if_pos hok] at hlc
        rw [Bool.and_eq_true] at hok
        obtain ⟨hgo, hyld⟩ := (hw n βc Sc Hc gc0 sc hok.1).2 i d hget
        have cd : d.cl Sc.length = true := D.cl_mono gc0.len d (clL_mem cx d (List.mem_of_getElem? hget))
        refine .inr ⟨hgo, fun H' => ∃ m', m' < xs.length - i ∧ W (i + 1) m' H', fun H' h => h, fun x H' hy => ?_⟩
        obtain ⟨rfl, rx⟩ := hyld x H' hy
        rcases hs : step d Sc with _ | ⟨o, S'⟩
        · rw [hs] at hlc; cases hlc
        · rw [hs] at hlc
          have later : ∀ (β' : Nat → Addr) (H'' : Hp), Gr n βc Sc H' β' S' H'' → H'' D0 = some (.lst ws) ∧ ∀ j, j < S'.length → β' j ≠ D0 := fun β' H'' g => by
            refine ⟨g.fr D0 _ hDc nd, fun j hj z => ?_⟩
            by_cases h : j < Sc.length
            · rw [g.same j h] at z
              exact nd j h z
            · have := g.new j (by omega) hj
              rw [z, hDc] at this
              cases this
          refine hstep d x βc Sc S' H' o _ _ hs gc0 sc rx cd (fun y ho β' w H'' g' s' r' c' => ?_) (fun ho β' H'' g' s' => ?_)
          · subst ho
            simp only at hlc
            obtain ⟨h1, h2⟩ := later β' H'' g'
            refine ⟨ws, h1, ?_, xs.length - (i + 1), by omega, β', S', acc ++ [y], ws ++ [w], rfl, hlt, by rw [hdrop]; exact hlc, (gc0.trans g').side hD ⟨ws, h1⟩, s'.side2 h1 h2, upd_same, ?_, clL_app (g'.cls ca) (clL_one c'), h2⟩
            · rw [← rs.length]
              exact lim_line' (of_decide_eq_true hok.2)
            · have t : TupR H'' (upd H'' D0 (.lst (ws ++ [w]))) := (TupK.set h1 (fun _ z => by cases z) (fun _ _ z => by cases z)).r
              exact Reps.tk t (n := S'.length) (fun _ _ => rfl) _ _ (clL_app (g'.cls ca) (clL_one c')) ((g'.reps rs ca).append (Reps.one r'))
          · subst ho
            simp only at hlc
            obtain ⟨h1, h2⟩ := later β' H'' g'
            exact ⟨xs.length - (i + 1), by omega, β', S', acc, ws, rfl, hlt, by rw [hdrop]; exact hlc, gc0.trans g', s', h1, g'.reps rs ca, g'.cls ca, h2⟩
      · rw [if_neg hok] at hlc
        cases hlc

theorem es_lc {wi : TI} {tt : TT} {te : TE} {own : List Nat} {g : Tg} {it : It} {c : Ox} {e : Ex} (hi : EI K φ wi it) (hc : EC K φ tt c) (he : ES K φ te e) : ES K φ (tLc wi (rdG K g) tt te own) (.lc own g it c e) := by
  intro base β env S σ H Q d S' ev s r k
  rw [evE] at ev
  by_cases hg0 : tgIn own g = true
  · rw [if_pos hg0] at ev
    obtain ⟨v, S3, e1, hg⟩ := gc_some ev
    rcases h1 : evI φ S.length env it S with _ | ⟨xs, h, S1⟩
    · rw [h1] at e1; cases e1
    · rw [h1] at e1
      simp only at e1
      have e2 : (match lcF (fun d S2 => match tgF g (wipeE env own) d with
          | some env2 => elF φ S.length c e env2 S2
          | none => none) (fun S2 => still S2 h xs) xs [] S1 with
        | some (ys, S2) => new S2 (.lst ys)
        | none => none) = some (v, S3) := e1
      rcases h2 : lcF (fun d S2 => match tgF g (wipeE env own) d with
          | some env2 => elF φ S.length c e env2 S2
          | none => none) (fun S2 => still S2 h xs) xs [] S1 with _ | ⟨ys, S2⟩
      · rw [h2] at e2; cases e2
      · rw [h2] at e2
        cases e2
        refine hi S.length β env S σ H _ xs h S1 h1 s r fun β1 J H1 g1 s1 cx hw => ?_
        refine lc_run (n := S.length) (fun base β' S' H' g s st => hw base β' S' H' g s st) s1 cx h2 (fun d v βc Sc S' Hc o Y N hs gc0 sc rx cd hy hn => ?_) (fun D0 β2 H2 ws hD g2 s2 h2 rs2 cs2 nd => ?_)
        · cases q : tgF g (wipeE env own) d with
          | none => simp only [q] at hs; cases hs
          | some env2 =>
            simp only [q] at hs
            have rw0 : EnvR K βc Hc Sc.length (wipeE env own) (wipe σ own) := (r.gr (g1.trans gc0)).wipe own
            refine eg g βc (wipeE env own) env2 Sc.length (wipe σ own) Hc d v own _ q rw0 rx cd fun σ2 r2 hwp => ⟨?_, ?_⟩
            · rw [hwp hg0]
              exact wipe_wipe
            · exact el_ok hc he hs sc r2 hy hn
        · have s3 := s2.adopt h2 nd rs2 cs2
          have g3 : Gr S.length β1 S1 H1 (ext β2 S2.length D0) (S2 ++ [.lst ys]) H2 := g2.adopt hD
          obtain ⟨β', g', s', r', c'⟩ := gc_ok (base := base) (x := .ref D0) hg (g1.trans g3) s s3 (by
            show V.ref D0 = .ref (ext β2 S2.length D0 S2.length)
            rw [ext_eq]) (decide_eq_true (by simp))
          exact k β' _ H2 g' s' r' c'
  · rw [if_neg hg0] at ev
    cases ev
end
end Z
end
section
set_option Elab.async false
set_option linter.all false
set_option autoImplicit false
/-! a comprehension over a dict's keys; statements -/
namespace Z
open PySem L2

section
variable {K : PySem.W.Frag} {φ : Phi} {β β1 β2 : Nat → Addr} {H H1 H2 : Hp} {S S' S1 S2 : Sto} {base n : Nat}

theorem TupR.set {p : Addr} {o u : HO} (h : H p = some u) (h1 : ∀ vs, u ≠ .tup vs) (h2 : ∀ ob w, u ≠ .frz ob (.tup w)) : TupR H (upd H p o) :=
  ⟨fun a vs e => by rw [upd_ne (ne_of e h (fun z => h1 vs z.symm))]; exact e, fun a ob w e => by rw [upd_ne (ne_of e h (fun z => h2 ob w z.symm))]; exact e⟩
/-- a thing is written, its old word locked -/
theorem Sim.put2 {i : Nat} {o o' : SO} {u u' : HO} (s : Sim K β S H) (e : S[i]? = some o) (hu : H (β i) = some u) (h1 : ∀ vs, u ≠ .tup vs) (h2 : ∀ ob w, u ≠ .frz ob (.tup w)) (ho : o'.cl S.length = true)
    (c : Cell K β (upd H (β i) u') (β i) o') : Sim K β (S.set i o') (upd H (β i) u') := by
  have t : TupR H (upd H (β i) u') := TupR.set hu h1 h2
  have hi := (List.getElem?_eq_some_iff.mp e).1
  refine ⟨fun j oj ej => ?_, fun j oj ej => ?_, fun j k hj hk q => s.inj j k (by simpa using hj) (by simpa using hk) q⟩
  · by_cases hj : i = j
    · subst hj
      rw [List.getElem?_set_self hi] at ej
      cases ej
      exact c
    · rw [List.getElem?_set_ne hj] at ej
      refine (s.cell j oj ej).tk t (fun _ _ => rfl) (s.cl j oj ej) rfl (upd_ne fun z => hj ?_)
      exact (s.inj j i (List.getElem?_eq_some_iff.mp ej).1 hi z).symm
  · rw [List.length_set]
    by_cases hj : i = j
    · subst hj
      rw [List.getElem?_set_self hi] at ej
      cases ej
      exact ho
    · rw [List.getElem?_set_ne hj] at ej
      exact s.cl j oj ej
theorem Gr.unlock {a : Nat} {kvs kvs2 : List (Key × D)} {kws : List (Key × V)} {od : Obj} (e : S[a]? = some (.dct kvs)) (hd : H (β a) = some (.dK kws)) (e2 : S2[a]? = some (.fdc kvs2))
    (g : Gr base β (S.set a (.fdc kvs)) (upd H (β a) (.frz od (.dK kws))) β2 S2 H2) : Gr base β S H β2 (S2.set a (.dct kvs2)) (upd H2 (β a) (.dK kws)) := by
  have ha := (List.getElem?_eq_some_iff.mp e).1
  have ll : (S.set a (.fdc kvs)).length = S.length := List.length_set
  have frh : ∀ x o, x ≠ β a → H x = some o → upd H (β a) (.frz od (.dK kws)) x = some o := fun x o h q => by rw [upd_ne h]; exact q
  refine ⟨?_, fun i h => g.same i (by rw [ll]; exact h), fun x o q h => ?_, fun x o q => ?_, fun i h1 h2 => ?_, fun i hi m o1 o2 q1 q2 c1 => ?_, ⟨fun x vs q => ?_, fun x ob w q => ?_⟩⟩
  · have := g.len
    rw [ll] at this
    rw [List.length_set]
    exact this
  · have hx : x ≠ β a := fun z => h a ha z.symm
    rw [upd_ne hx]
    exact g.fr x o (frh x o hx q) fun i hi => h i (by rw [ll] at hi; exact hi)
  · by_cases hx : x = β a
    · exact ⟨_, by rw [hx]; exact upd_same⟩
    · rw [upd_ne hx]
      exact g.trk x o (frh x o hx q)
  · rw [List.length_set] at h2
    have q := g.new i (by rw [ll]; exact h1) h2
    by_cases hx : β2 i = β a
    · rw [hx, upd_same] at q
      cases q
    · rw [upd_ne hx] at q
      exact q
  · by_cases hia : a = i
    · subst hia
      rw [e] at q1
      cases q1
      have hl2 := (List.getElem?_eq_some_iff.mp e2).1
      rw [List.getElem?_set_self hl2] at q2
      cases q2
      exact g.tm a hi m (.fdc kvs) (.fdc kvs2) (List.getElem?_set_self ha) e2 c1
    · rw [List.getElem?_set_ne hia] at q2
      exact g.tm i hi m o1 o2 (by rw [List.getElem?_set_ne hia]; exact q1) q2 c1
  · have hx : x ≠ β a := fun z => by rw [z, hd] at q; cases q
    rw [upd_ne hx]
    exact g.tk.tup x vs (frh x _ hx q)
  · have hx : x ≠ β a := fun z => by rw [z, hd] at q; cases q
    rw [upd_ne hx]
    exact g.tk.frz x ob w (frh x _ hx q)
theorem kD_rep (k : Key) : Rep K β H (kD k) (kV k) := by
  cases k <;> rfl
theorem es_lck {tt : TT} {te : TE} {own : List Nat} {i o : Nat} {c : Ox} {e : Ex} (hc : EC K φ tt c) (he : ES K φ te e) : ES K φ (tLockE (tLc (iKeys (tVar o)) (gName i) tt te own)) (.lck own i o c e) := by
  intro base β env S σ H Q d S' ev s r k
  rw [evE] at ev
  by_cases hg0 : own.contains i = true
  · rw [if_pos hg0] at ev
    cases hv : getV env o with
    | none => rw [hv] at ev; cases ev
    | some x =>
      rw [hv] at ev
      cases x with
      | ref a =>
        simp only at ev
        cases hS : S[a]? with
        | none => rw [hS] at ev; cases ev
        | some so =>
          rw [hS] at ev
          cases so with
          | dct kvs =>
            simp only at ev
            obtain ⟨v, S3, e1, hg⟩ := gc_some ev
            have e2 : (match lcF (fun d S2 => elF φ S.length c e ((wipeE env own).set i (some d)) S2) (fun S2 => isFd S2 a (kvs.map fun p => kD p.1)) (kvs.map fun p => kD p.1) [] (S.set a (.fdc kvs)) with
              | some (ys, S2) => unFd a ys S2
              | none => none) = some (v, S3) := e1
            rcases h2 : lcF (fun d S2 => elF φ S.length c e ((wipeE env own).set i (some d)) S2) (fun S2 => isFd S2 a (kvs.map fun p => kD p.1)) (kvs.map fun p => kD p.1) [] (S.set a (.fdc kvs)) with _ | ⟨ys, S2⟩
            · rw [h2] at e2; cases e2
            · rw [h2] at e2
              simp only at e2
              obtain ⟨kws, hd, kr1, kr2⟩ := s.cell a _ hS
              have kr : KR K β H kvs kws := ⟨kr1, kr2⟩
              have ck : clL S.length (kvs.map (·.2)) = true := s.cl a _ hS
              have henv : env[o]? = some (some (.ref a)) := by
                unfold getV at hv
                cases q : env[o]? with
                | none => rw [q] at hv; cases hv
                | some z => rw [q] at hv; exact congrArg some hv
              obtain ⟨_, w, hw, rw0⟩ := r.get o _ henv
              cases (show w = .ref (β a) from rw0)
              refine ⟨β a, .dK kws, hd, True.intro, fun od => ?_⟩
              have tkl : TupR H (upd H (β a) (.frz od (.dK kws))) := TupR.set hd (fun _ z => by cases z) (fun _ _ z => by cases z)
              obtain ⟨sl, gl⟩ := s.put (base := S.length) (o' := .fdc kvs) (u' := .frz od (.dK kws)) hS hd (fun _ z => by cases z) (fun _ _ z => by cases z) ck ⟨od, kws, upd_same, kr1, Reps.tk tkl (n := S.length) (fun _ _ => rfl) _ _ ck kr2⟩ (fun _ m q => q)
              have hlen : (S.set a (.fdc kvs)).length = S.length := List.length_set
              refine ⟨.ref (β a), hw, β a, od, rfl, .inl ⟨kws, upd_same, ?_⟩⟩
              refine lc_run (n := S.length) (J := Itk (β a) od kws) (g := gName i) (tt := tt) (te := te) (vs := own) (σ := σ) (Q := fun v H' => H' (β a) = some (.frz od (.dK kws)) ∧ Q v (upd H' (β a) (.dK kws))) (ok := fun S2 => isFd S2 a (kvs.map fun p => kD p.1)) (xs := kvs.map fun p => kD p.1) (fun b β' S' H' g s' st => ?_) sl (clL_of fun z hz => ?_) h2 (fun d v βc Sc S' Hc o Y N hs gc0 sc rx cd hy hn => ?_) (fun D0 β2 H2 ws hD g2 s2 hD2 rs2 cs2 nd => ?_)
              · have hfz : H' (β a) = some (.frz od (.dK kws)) := g.tk.frz _ _ _ upd_same
                refine ⟨fun j hj => ⟨hfz, by rw [List.length_map, kr.length] at hj; exact hj⟩, fun j x hx => ?_⟩
                rw [List.getElem?_map] at hx
                obtain ⟨p, hp, ex⟩ := map_some hx
                have hj : j < kws.length := by
                  have := (List.getElem?_eq_some_iff.mp hp).1
                  rw [kr.length] at this
                  exact this
                refine ⟨⟨hfz, hj⟩, fun v H2 ⟨q1, kk, vv, q2, q3⟩ => ⟨q1, ?_⟩⟩
                have hk : kk = p.1 := by
                  have z1 : (kws.map (·.1))[j]? = some kk := by rw [List.getElem?_map, q2]; rfl
                  have z2 : (kvs.map (·.1))[j]? = some p.1 := by rw [List.getElem?_map, hp]; rfl
                  rw [kr1, z2] at z1
                  exact (Option.some.inj z1).symm
                rw [← ex, q3, hk]
                exact kD_rep p.1
              · obtain ⟨p, _, ez⟩ := List.mem_map.mp hz
                rw [← ez]
                cases p.1 <;> rfl
              · have rw1 : EnvR K βc Hc Sc.length (wipeE env own) (wipe σ own) := ((r.gr gl).gr gc0).wipe own
                refine ⟨?_, el_ok hc he hs sc (rw1.set i cd rx) hy hn⟩
                rw [wipe_set (by simpa using hg0)]
                exact wipe_wipe
              · have hfz : H2 (β a) = some (.frz od (.dK kws)) := g2.tk.frz _ _ _ upd_same
                refine ⟨hfz, ?_⟩
                unfold unFd at e2
                cases hS2 : S2[a]? with
                | none => rw [hS2] at e2; cases e2
                | some so2 =>
                  rw [hS2] at e2
                  cases so2 with
                  | fdc kvs2 =>
                    cases e2
                    have ba : β2 a = β a := g2.same a (by rw [hlen]; exact (List.getElem?_eq_some_iff.mp hS).1)
                    obtain ⟨o2, kws2, hc2, kr21, kr22⟩ := s2.cell a _ hS2
                    rw [ba, hfz] at hc2
                    cases hc2
                    have ck2 : clL S2.length (kvs2.map (·.2)) = true := s2.cl a _ hS2
                    have tku : TupR H2 (upd H2 (β2 a) (.dK kws)) := by
                      rw [ba]
                      exact TupR.set hfz (fun _ z => by cases z) (fun _ _ z => by cases z)
                    have s3 := s2.put2 (o' := .dct kvs2) (u' := .dK kws) hS2 (by rw [ba]; exact hfz) (fun _ z => by cases z) (fun _ _ z => by cases z) ck2 ⟨kws, upd_same, kr21, Reps.tk tku (n := S2.length) (fun _ _ => rfl) _ _ ck2 kr22⟩
                    rw [ba] at s3 tku
                    have hD3 : D0 ≠ β a := fun z => by
                      rw [z, upd_same] at hD
                      cases hD
                    have hH3 : upd H2 (β a) (.dK kws) D0 = some (.lst ws) := by rw [upd_ne hD3]; exact hD2
                    have ls : (S2.set a (.dct kvs2)).length = S2.length := List.length_set
                    have s4 := s3.adopt (p := D0) (xs := ys) (vs := ws) hH3 (fun j hj => nd j (by rw [ls] at hj; exact hj)) (Reps.tk tku (n := S2.length) (fun _ _ => rfl) _ _ cs2 rs2) (by rw [ls]; exact cs2)
                    have g3 := Gr.unlock hS hd hS2 g2
                    have hD0 : H D0 = none := by
                      rw [upd_ne hD3] at hD
                      exact hD
                    have g4 := g3.adopt (o := .lst ys) hD0
                    obtain ⟨β', g', s', r', c'⟩ := gc_ok (base := base) (x := .ref D0) hg g4 s s4 (by
                      show V.ref D0 = .ref (ext β2 (S2.set a (.dct kvs2)).length D0 (S2.set a (.dct kvs2)).length)
                      rw [ext_eq]) (decide_eq_true (by simp))
                    exact k β' _ _ g' s' r' c'
                  | lst l => cases e2
                  | fro l => cases e2
                  | dct l => cases e2
          | lst l => cases ev
          | fro l => cases ev
          | fdc l => cases ev
      | _ => cases ev
  · rw [if_neg hg0] at ev
    cases ev
end
end Z
end
section
set_option Elab.async false
set_option linter.all false
set_option autoImplicit false
/-! list(range(..)), sorted(set(..)) -/
namespace Z
open PySem L2

section
variable {K : PySem.W.Frag} {φ : Phi} {β β1 β2 : Nat → Addr} {H H1 H2 : Hp} {S S' S1 S2 : Sto} {base n : Nat} {Q : VK} {d : D}

theorem rgI_map : ∀ (n : Nat) (i : Int), rgI i n = ((List.range n).map fun k : Nat => i + (k : Int)).map D.int
  | 0, i => rfl
  | n + 1, i => by
    rw [List.range_succ_eq_map, List.map_cons, List.map_cons, List.map_map]
    show D.int i :: rgI (i + 1) n = _
    rw [rgI_map n (i + 1)]
    congr 1
    · simp
    · rw [List.map_map, List.map_map]
      refine List.map_congr_left fun k _ => ?_
      show D.int (i + 1 + (k : Int)) = D.int (i + ((k + 1 : Nat) : Int))
      congr 1
      omega
theorem rgV_map (i j : Int) : rgV i j = ((List.range (j - i).toNat).map fun k : Nat => i + (k : Int)).map V.int := by
  unfold rgV
  rw [List.map_map]
  rfl
theorem rg_ok {t : Bool} {i j : Int} (k : Kt K base β S H S' d Q) (s : Sim K β S H) (e : rgF t i j S = some (d, S')) : RgOk i j ∧ ∀ q, H q = none → Q (.ref q) (upd H q (if t = true then .tup (rgV i j) else .lst (rgV i j))) := by
  unfold rgF at e
  by_cases c : (rgOk i && rgOk j && decide ((j - i).toNat ≤ lim)) = true
  · rw [if_pos c] at e
    rw [Bool.and_eq_true, Bool.and_eq_true] at c
    obtain ⟨b1, b2⟩ := rgOk_iff c.1.1
    obtain ⟨b3, b4⟩ := rgOk_iff c.1.2
    have b5 : (j - i).toNat ≤ 100000 := of_decide_eq_true c.2
    refine ⟨⟨b1, b2, b3, b4, by omega⟩, ?_⟩
    rw [rgI_map, rgV_map] at *
    cases t with
    | true =>
      cases e
      exact k.tuple s (reps_of_ints _) (cl_ints _)
    | false =>
      cases e
      exact k.list s (reps_of_ints _) (cl_ints _)
  · rw [if_neg c] at e
    cases e
theorem es_rg1 {t : Bool} {te : TE} {a : Ex} (h : ES K φ te a) : ES K φ (tRgB t (tRg1 te)) (.rg1 t a) := by
  intro base β env S σ H Q d S' e s r k
  rw [evE] at e
  obtain ⟨v, S4, e1, hg⟩ := gc_some e
  rcases h1 : evE φ S.length env a S with _ | ⟨x, S1⟩
  · rw [h1] at e1; cases e1
  · rw [h1] at e1
    cases x with
    | int j =>
      simp only at e1
      have key : te σ H fun x H1 => ∃ n, x = .int n ∧ RgOk 0 n ∧ ∀ q, H1 q = none → Q (.ref q) (upd H1 q (if t = true then .tup (rgV 0 n) else .lst (rgV 0 n))) := by
        refine h _ β env S σ H _ _ S1 h1 s r fun β1 w H1 g1 s1 r1 c1 => ?_
        cases (show w = .int j from r1)
        exact ⟨j, rfl, rg_ok (k.fin hg s g1) s1 e1⟩
      cases t with
      | true => exact key
      | false => exact key
    | _ => cases e1
theorem es_rg2 {t : Bool} {ta tb : TE} {a b : Ex} (ha : ES K φ ta a) (hb : ES K φ tb b) : ES K φ (tRgB t (tRg2 ta tb)) (.rg2 t a b) := by
  intro base β env S σ H Q d S' e s r k
  rw [evE] at e
  obtain ⟨v, S4, e1, hg⟩ := gc_some e
  rcases h1 : evE φ S.length env a S with _ | ⟨x, S1⟩
  · rw [h1] at e1; cases e1
  · rw [h1] at e1
    cases x with
    | int i =>
      simp only at e1
      rcases h2 : evE φ S.length env b S1 with _ | ⟨y, S2⟩
      · rw [h2] at e1; cases e1
      · rw [h2] at e1
        cases y with
        | int j =>
          simp only at e1
          have key : ta σ H fun x H1 => tb σ H1 fun y H2 => ∃ i j, x = .int i ∧ y = .int j ∧ RgOk i j ∧ ∀ q, H2 q = none → Q (.ref q) (upd H2 q (if t = true then .tup (rgV i j) else .lst (rgV i j))) := by
            refine ES.two ha hb h1 h2 s r fun β2 u w H2 g s2 rx ry cx cy => ?_
            cases (show u = .int i from rx)
            cases (show w = .int j from ry)
            exact ⟨i, j, rfl, rfl, rg_ok (k.fin hg s g) s2 e1⟩
          cases t with
          | true => exact key
          | false => exact key
        | _ => cases e1
    | _ => cases e1
theorem es_srs {te : TE} {a : Ex} (h : ES K φ te a) : ES K φ (tSrs K te) (.srs a) := by
  intro base β env S σ H Q d S' e s r k
  rw [evE] at e
  obtain ⟨v, S4, e1, hg⟩ := gc_some e
  rcases h1 : evE φ S.length env a S with _ | ⟨x, S1⟩
  · rw [h1] at e1; cases e1
  · rw [h1] at e1
    cases x with
    | tup ds =>
      have e1' : ((intsOf ds).bind fun ns => if ns.length < 64 then new S1 (.lst ((srtU ns).map .int)) else none) = some (v, S4) := e1
      cases q : intsOf ds with
      | none => rw [q] at e1'; cases e1'
      | some ns =>
        rw [q, Option.bind_some] at e1'
        by_cases c : ns.length < 64
        · rw [if_pos c] at e1'
          cases e1'
          refine h _ β env S σ H _ _ S1 h1 s r fun β1 w H1 g1 s1 r1 c1 => ?_
          obtain ⟨a, vs, rfl, hq, rs⟩ := (show ∃ a vs, w = .ref a ∧ SqT K H1 a vs ∧ Reps K β1 H1 ds vs from r1)
          cases intsOf_map q
          cases reps_ints rs
          refine ⟨a, ns, rfl, hq, c, fun p u q hp hn => ?_⟩
          obtain ⟨s2, g2⟩ := s1.side (base := S.length) (u := u) hp
          exact (k.fin hg s (g1.trans g2)).list s2 (reps_of_ints _) (cl_ints _) q hn
        · rw [if_neg c] at e1'
          cases e1'
    | _ => cases e1
end
end Z
end
section
set_option Elab.async false
set_option linter.all false
set_option autoImplicit false
/-! all expressions; statements -/
namespace Z
open PySem L2

def rAug : Operator → TIp
  | .Add => rI0 fun i j => .int (i + j)
  | .Sub => rI0 fun i j => .int (i - j)
  | .BitAnd => rI0 fun i j => .int (Builtin.bitAnd i j)
  | .BitOr => rI0 fun i j => .int (Builtin.bitOr i j)
  | .BitXor => rI0 fun i j => .int (Builtin.bitXor i j)
  | _ => fun _ _ _ _ => False
mutual
def rd1 (K : PySem.W.Frag) (φ : Phi) : Sm → TS
  | .set i e => tAsg (rdP K φ e).1 (gName i)
  | .par i j a b => tPar i j (tCons (rdP K φ a).1 (tCons (rdP K φ b).1 tNil))
  | .unp is e => tAsg (rdP K φ e).1 (rdG K (.tp is))
  | .six o i e => tAsg (rdP K φ e).1 (gSub (rdP K φ o).1 (rdP K φ i).1 rSetL)
  | .dst o i e => sDPut (rdP K φ o).1 (rdP K φ i).1 (rdP K φ e).1
  | .aug i op e => tAug i (rdP K φ e).1 (rAug op)
  | .expr e => tDrop (rdP K φ e).1
  | .ifs c a b => tIfS (rdP K φ c).2 (rds K φ a) (rds K φ b)
  | .for g it b => tFor (rdI K φ it) (rdG K g) (rds K φ b)
  | .while c b => tWhile (rdP K φ c).2 (rds K φ b)
  | .ret e => tRet (rdP K φ e).1
  | .retN => tRetN
  | .brk => tBreak
  | .cnt => tCont
  | .pass => tNext
  | .fail => tNever
termination_by structural x => x
def rds (K : PySem.W.Frag) (φ : Phi) : Ss → TS
  | .nil => tNext
  | .cons s ss => tSeq (rd1 K φ s) (rds K φ ss)
termination_by structural x => x
end

section
variable {K : PySem.W.Frag} {φ : Phi}

theorem et_ite {tc ta tb : TT} {c a b : Ex} (hc : ET K φ tc c) (ha : ET K φ ta a) (hb : ET K φ tb b) : ET K φ (tIfT tc ta tb) (.ite c a b) := by
  intro base β env S σ H Q k S' e s r q
  obtain ⟨x, e1, e2⟩ := evT_inv e
  rw [evE] at e1
  rcases h1 : evE φ base env c S with _ | ⟨y, S1⟩
  · rw [h1] at e1; cases e1
  · rw [h1] at e1
    simp only at e1
    cases h2 : truF S1 y with
    | none => rw [h2] at e1; cases e1
    | some b0 =>
      rw [h2] at e1
      have ea : evT φ base env c S = some (b0, S1) := by
        unfold evT
        rw [h1]
        simp only [h2, Option.map_some]
      refine hc base β env S σ H _ b0 S1 ea s r fun β1 H1 g1 s1 => ?_
      cases b0 with
      | true =>
        rw [if_pos rfl]
        have eb : evT φ base env a S1 = some (k, S') := by
          unfold evT
          simp only at e1
          rw [e1]
          simp only [e2, Option.map_some]
        exact ha base β1 env S1 σ H1 Q k S' eb s1 (r.gr g1) fun β2 H2 g2 s2 => q β2 H2 (g1.trans g2) s2
      | false =>
        rw [if_neg Bool.false_ne_true]
        have eb : evT φ base env b S1 = some (k, S') := by
          unfold evT
          simp only at e1
          rw [e1]
          simp only [e2, Option.map_some]
        exact hb base β1 env S1 σ H1 Q k S' eb s1 (r.gr g1) fun β2 H2 g2 s2 => q β2 H2 (g1.trans g2) s2
theorem es_met_none {m : Mt} {t : TE} {o : Ex} {e1 : Ex} {es : Es} (hm : m = .pop ∨ m = .bits) : ES K φ t (.met m o (.cons e1 es)) := by
  intro base β env S σ H Q d S' e s r k
  exfalso
  rw [evE] at e
  rcases h1 : evE φ base env o S with _ | ⟨x, S1⟩
  · rw [h1] at e; cases e
  · rw [h1] at e
    simp only at e
    by_cases hp : metP m x S1 = true
    · rw [if_pos hp] at e
      rcases h2 : evS φ base env (.cons e1 es) S1 with _ | ⟨vs, S2⟩
      · rw [h2] at e; cases e
      · rw [h2] at e
        rw [evS] at h2
        rcases h3 : evE φ base env e1 S1 with _ | ⟨y, S3⟩
        · rw [h3] at h2; cases h2
        · rw [h3] at h2
          simp only at h2
          rcases h4 : evS φ base env es S3 with _ | ⟨ys, S4⟩
          · rw [h4] at h2; cases h2
          · rw [h4] at h2
            cases h2
            rcases hm with rfl | rfl
            · cases x <;> cases e
            · cases x <;> cases e
    · rw [if_neg hp] at e
      cases e
mutual
theorem esAll (X : Cx) (φ : Phi) : ∀ c : Ex, ES X.K φ (rdP X.K φ c).1 c ∧ ET X.K φ (rdP X.K φ c).2 c
  | .var i => ⟨es_var i, et_tru (es_var i)⟩
  | .non => have h := es_c (K := X.K) (φ := φ) (c := .non) (v := .non) (d0 := .non) (fun _ _ _ => rfl) (fun _ _ => rfl) (fun _ => rfl); ⟨h, et_tru h⟩
  | .bl b => have h := es_c (K := X.K) (φ := φ) (c := .bl b) (v := .bl b) (d0 := .bl b) (fun _ _ _ => rfl) (fun _ _ => rfl) (fun _ => rfl); ⟨h, et_tru h⟩
  | .int b => have h := es_c (K := X.K) (φ := φ) (c := .int b) (v := .int b) (d0 := .int b) (fun _ _ _ => rfl) (fun _ _ => rfl) (fun _ => rfl); ⟨h, et_tru h⟩
  | .con b => have h := es_c (K := X.K) (φ := φ) (c := .con b) (v := .int b) (d0 := .int b) (fun _ _ _ => rfl) (fun _ _ => rfl) (fun _ => rfl); ⟨h, et_tru h⟩
  | .str b => have h := es_c (K := X.K) (φ := φ) (c := .str b) (v := .str b) (d0 := .str b) (fun _ _ _ => rfl) (fun _ _ => rfl) (fun _ => rfl); ⟨h, et_tru h⟩
  | .bin op a b => have h := es_bin (X := X) (op := op) (esAll X φ a).1 (esAll X φ b).1; ⟨h, et_tru h⟩
  | .un op a => have h := es_un (X := X) (op := op) (esAll X φ a).1; ⟨h, et_tru h⟩
  | .cmp op a b => have h := es_cmp (X := X) (op := op) (esAll X φ a).1 (esAll X φ b).1; ⟨h, et_test h fun e => cmp_bl e⟩
  | .chn o1 o2 a b c => have h := es_chn (X := X) (o1 := o1) (o2 := o2) (esAll X φ a).1 (esAll X φ b).1 (esAll X φ c).1; ⟨h, et_test h fun e => chn_bl e⟩
  | .and a b => ⟨es_and (X := X) (esAll X φ a).1 (esAll X φ b).1, et_and (esAll X φ a).2 (esAll X φ b).2⟩
  | .or a b => ⟨es_or (X := X) (esAll X φ a).1 (esAll X φ b).1, et_or (esAll X φ a).2 (esAll X φ b).2⟩
  | .not a => ⟨es_not (X := X) (esAll X φ a).1, et_not (esAll X φ a).2⟩
  | .ite c a b => ⟨es_ite (esAll X φ c).2 (esAll X φ a).1 (esAll X φ b).1, et_ite (esAll X φ c).2 (esAll X φ a).2 (esAll X φ b).2⟩
  | .tup es => have h := es_tup (eaAll X φ es); ⟨h, et_tru h⟩
  | .lst es => have h := es_lst (eaAll X φ es); ⟨h, et_tru h⟩
  | .ix a b => have h := es_ix (X := X) (esAll X φ a).1 (esAll X φ b).1; ⟨h, et_tru h⟩
  | .sl a lo hi => have h := es_sl (X := X) (esAll X φ a).1 (eoAll X φ lo).1 (eoAll X φ hi).1; ⟨h, et_tru h⟩
  | .rev a => have h := es_rev (esAll X φ a).1; ⟨h, et_tru h⟩
  | .rg1 t a => have h := es_rg1 (t := t) (esAll X φ a).1; ⟨h, et_tru h⟩
  | .rg2 t a b => have h := es_rg2 (t := t) (esAll X φ a).1 (esAll X φ b).1; ⟨h, et_tru h⟩
  | .srs a => have h := es_srs (esAll X φ a).1; ⟨h, et_tru h⟩
  | .call f es => have h := es_call (f := f) (eaAll X φ es); ⟨h, et_tru h⟩
  | .blt b es => have h := es_blt (X := X) (b := b) (eaAll X φ es); ⟨h, et_tru h⟩
  | .met .append o es => have h := es_append (esAll X φ o).1 (eaAll X φ es); ⟨h, et_tru h⟩
  | .met .popAt o es => have h := es_popAt (esAll X φ o).1 (eaAll X φ es); ⟨h, et_tru h⟩
  | .met .pop o .nil => have h := es_pop (esAll X φ o).1; ⟨h, et_tru h⟩
  | .met .bits o .nil => have h := es_bits (esAll X φ o).1; ⟨h, et_tru h⟩
  | .met .pop o (.cons e es) => have h := es_met_none (K := X.K) (φ := φ) (t := tBM0 X.K "list" rPop (rdP X.K φ o).1) (o := o) (e1 := e) (es := es) (.inl rfl); ⟨h, et_tru h⟩
  | .met .bits o (.cons e es) => have h := es_met_none (K := X.K) (φ := φ) (t := tBits (rdP X.K φ o).1) (o := o) (e1 := e) (es := es) (.inr rfl); ⟨h, et_tru h⟩
  | .isi a k => have h := es_isi (X := X) (kk := k) (esAll X φ a).1; ⟨h, et_tru h⟩
  | .dic => have h := es_dic (K := X.K) (φ := φ); ⟨h, et_tru h⟩
  | .dix a b => have h := es_dix (esAll X φ a).1 (esAll X φ b).1; ⟨h, et_tru h⟩
  | .dgt o k v => have h := es_dgt (esAll X φ o).1 (esAll X φ k).1 (esAll X φ v).1; ⟨h, et_tru h⟩
  | .lc own g it c e => have h := es_lc (own := own) (g := g) (eiAll X φ it) (eoAll X φ c).2 (esAll X φ e).1; ⟨h, et_tru h⟩
  | .lck own i o c e => have h := es_lck (own := own) (i := i) (o := o) (eoAll X φ c).2 (esAll X φ e).1; ⟨h, et_tru h⟩
theorem eaAll (X : Cx) (φ : Phi) : ∀ c : Es, EA X.K φ (rdA X.K φ c) c
  | .nil => ea_nil
  | .cons e es => ea_cons (esAll X φ e).1 (eaAll X φ es)
theorem eoAll (X : Cx) (φ : Phi) : ∀ c : Ox, EO X.K φ (rdO X.K φ c).1 c ∧ EC X.K φ (rdO X.K φ c).2 c
  | .no => ⟨eo_no, ec_no⟩
  | .yes e => ⟨eo_yes (esAll X φ e).1, ec_yes (esAll X φ e).2⟩
theorem eiAll (X : Cx) (φ : Phi) : ∀ c : It, EI X.K φ (rdI X.K φ c) c
  | .ex e => ei_ex (esAll X φ e).1
  | .rng1 a => ei_rng1 (esAll X φ a).1
  | .rng2 a b => ei_rng2 (esAll X φ a).1 (esAll X φ b).1
end
end
end Z
end
section
set_option Elab.async false
set_option linter.all false
set_option autoImplicit false
/-! statements: what they do meets what they ask -/
namespace Z
open PySem L2

section
variable {K : PySem.W.Frag} {φ : Phi} {β β1 β2 : Nat → Addr} {H H1 H2 : Hp} {S S' S1 S2 : Sto} {base n : Nat} {env env1 env' : Ev} {σ : L2.St} {E : Ends}

/-- what is wanted at a statement's end -/
def Wt (K : PySem.W.Frag) (E : Ends) (fl : Fl) (β : Nat → Addr) (S : Sto) (σ : L2.St) (H : Hp) : Prop := match fl with
  | .nx => E.nx σ H
  | .bk => E.bk σ H
  | .ct => E.ct σ H
  | .ret d => ∀ v, Rep K β H d v → d.cl S.length = true → E.rt v H
def Aft (K : PySem.W.Frag) (base : Nat) (β : Nat → Addr) (S : Sto) (H : Hp) (env' : Ev) (S' : Sto) (fl : Fl) (E : Ends) : Prop :=
  ∀ (β' : Nat → Addr) (σ' : L2.St) (H' : Hp), Gr base β S H β' S' H' → Sim K β' S' H' → EnvR K β' H' S'.length env' σ' → Wt K E fl β' S' σ' H'
def S1d (K : PySem.W.Frag) (φ : Phi) (t : TS) (c : Sm) : Prop := ∀ (base : Nat) (β : Nat → Addr) (env : Ev) (S : Sto) (σ : L2.St) (H : Hp) (E : Ends) (fl : Fl) (env' : Ev) (S' : Sto),
  ex1 φ base c env S = some (fl, env', S') → Sim K β S H → EnvR K β H S.length env σ → Aft K base β S H env' S' fl E → t E σ H
def Ssd (K : PySem.W.Frag) (φ : Phi) (t : TS) (c : Ss) : Prop := ∀ (base : Nat) (β : Nat → Addr) (env : Ev) (S : Sto) (σ : L2.St) (H : Hp) (E : Ends) (fl : Fl) (env' : Ev) (S' : Sto),
  exs φ base c env S = some (fl, env', S') → Sim K β S H → EnvR K β H S.length env σ → Aft K base β S H env' S' fl E → t E σ H
theorem Aft.gr {fl : Fl} (a : Aft K base β S H env' S' fl E) (g : Gr base β S H β1 S1 H1) : Aft K base β1 S1 H1 env' S' fl E := fun β' σ' H' g' s' r' => a β' σ' H' (g.trans g') s' r'

theorem sd_set {te : TE} {e : Ex} {i : Nat} (h : ES K φ te e) : S1d K φ (tAsg te (gName i)) (.set i e) := by
  intro base β env S σ H E fl env' S' ev s r a
  rw [ex1] at ev
  rcases h1 : evE φ base env e S with _ | ⟨x, S1⟩
  · rw [h1] at ev; cases ev
  · rw [h1] at ev
    cases ev
    exact h base β env S σ H _ x _ h1 s r fun β1 v H1 g1 s1 r1 c1 => a β1 _ H1 g1 s1 ((r.gr g1).set i c1 r1)
theorem sd_par {ta tb : TE} {x y : Ex} {i j : Nat} (hx : ES K φ ta x) (hy : ES K φ tb y) : S1d K φ (tPar i j (tCons ta (tCons tb tNil))) (.par i j x y) := by
  intro base β env S σ H E fl env' S' ev s r a
  rw [ex1] at ev
  rcases h1 : evE φ base env x S with _ | ⟨d1, S1⟩
  · rw [h1] at ev; cases ev
  · rw [h1] at ev
    simp only at ev
    rcases h2 : evE φ base env y S1 with _ | ⟨d2, S2⟩
    · rw [h2] at ev; cases ev
    · rw [h2] at ev
      cases ev
      exact ES.two hx hy h1 h2 s r fun β2 u w H2 g2 s2 r1 r2 c1 c2 => ⟨u, w, rfl, a β2 _ H2 g2 s2 (((r.gr g2).set i c1 r1).set j c2 r2)⟩
theorem sd_unp {te : TE} {e : Ex} {is : List Nat} (h : ES K φ te e) : S1d K φ (tAsg te (rdG K (.tp is))) (.unp is e) := by
  intro base β env S σ H E fl env' S' ev s r a
  rw [ex1] at ev
  rcases h1 : evE φ base env e S with _ | ⟨x, S1⟩
  · rw [h1] at ev; cases ev
  · rw [h1] at ev
    cases x with
    | tup ds =>
      obtain ⟨env1, e1, e2⟩ := map_some (show (setAll env is ds).map (fun env1 => (Fl.nx, env1, S1)) = some (fl, env', S') from ev)
      cases e2
      exact h base β env S σ H _ _ _ h1 s r fun β1 v H1 g1 s1 r1 c1 => eg (.tp is) β1 env env' S'.length σ H1 (.tup ds) v [] _ e1 (r.gr g1) r1 c1 fun σ2 r2 _ => a β1 σ2 H1 g1 s1 r2
    | _ => cases ev
theorem sd_six {to ti te : TE} {o i e : Ex} (ho : ES K φ to o) (hi : ES K φ ti i) (he : ES K φ te e) : S1d K φ (tAsg te (gSub to ti rSetL)) (.six o i e) := by
  intro base β env S σ H E fl env' S' ev s r a
  rw [ex1] at ev
  rcases h1 : evE φ base env e S with _ | ⟨x, S1⟩
  · rw [h1] at ev; cases ev
  · rw [h1] at ev
    simp only at ev
    rcases h2 : evE φ base env o S1 with _ | ⟨y, S2⟩
    · rw [h2] at ev; cases ev
    · rw [h2] at ev
      simp only at ev
      rcases h3 : evE φ base env i S2 with _ | ⟨z, S3⟩
      · rw [h3] at ev; cases ev
      · rw [h3] at ev
        simp only at ev
        obtain ⟨S4, e1, e2⟩ := map_some ev
        cases e2
        refine he base β env S σ H _ x S1 h1 s r fun β1 v H1 g1 s1 r1 c1 => ?_
        refine ES.two ho hi h2 h3 s1 (r.gr g1) fun β3 u w H3 g3 s3 r3 r4 c3 c4 => ?_
        unfold sixF at e1
        cases y with
        | ref p =>
          cases z with
          | int kk =>
            simp only at e1
            obtain ⟨xs, q, e1⟩ := lst_at (S := S3) (i := p) (f := fun xs => match ixN xs.length kk with
              | some j => if wr base p x then some (S3.set p (.lst (xs.set j x))) else none
              | none => none) e1
            cases hj : ixN xs.length kk with
            | none => rw [hj] at e1; cases e1
            | some j =>
              rw [hj] at e1
              obtain ⟨cw, e1⟩ := ite_some e1
              cases e1
              obtain ⟨ws, hh, rs, cs⟩ := s3.lst q
              have cset : ∀ m, clL m xs = true → x.cl m = true → clL m (xs.set j x) = true := fun m q1 q2 => clL_of fun t ht => by
                rcases List.mem_or_eq_of_mem_set ht with h | h
                · exact clL_mem q1 t h
                · rw [h]; exact q2
              obtain ⟨s5, g5⟩ := s3.putL (base := base) q hh (rs.set j (g3.rep r1 c1)) (cset _ cs (g3.cl c1)) fun hb m q1 => cset m q1 (wr_ok cw hb m)
              refine ⟨β3 p, ws, kk, j, r3, r4, hh, by rw [← rs.length]; exact hj, ?_⟩
              have g := (g1.trans g3).trans g5
              exact a β3 σ _ g s5 (r.gr g)
          | _ => cases e1
        | _ => cases e1
theorem sd_dst {to ti te : TE} {o i e : Ex} (ho : ES K φ to o) (hi : ES K φ ti i) (he : ES K φ te e) : S1d K φ (sDPut to ti te) (.dst o i e) := by
  intro base β env S σ H E fl env' S' ev s r a
  rw [ex1] at ev
  rcases h1 : evE φ base env e S with _ | ⟨x, S1⟩
  · rw [h1] at ev; cases ev
  · rw [h1] at ev
    simp only at ev
    rcases h2 : evE φ base env o S1 with _ | ⟨y, S2⟩
    · rw [h2] at ev; cases ev
    · rw [h2] at ev
      simp only at ev
      rcases h3 : evE φ base env i S2 with _ | ⟨z, S3⟩
      · rw [h3] at ev; cases ev
      · rw [h3] at ev
        simp only at ev
        obtain ⟨S4, e1, e2⟩ := map_some ev
        cases e2
        refine he base β env S σ H _ x S1 h1 s r fun β1 v H1 g1 s1 r1 c1 => ?_
        refine ES.two ho hi h2 h3 s1 (r.gr g1) fun β3 u w H3 g3 s3 r3 r4 c3 c4 => ?_
        unfold dstF at e1
        cases y with
        | ref p =>
          cases hk : keyD z with
          | none => rw [hk] at e1; cases e1
          | some kk =>
            rw [hk] at e1
            simp only at e1
            cases q : S3[p]? with
            | none => rw [q] at e1; cases e1
            | some so =>
              rw [q] at e1
              cases so with
              | dct kvs =>
                simp only at e1
                obtain ⟨cw, e1⟩ := ite_some e1
                cases e1
                rw [Bool.and_eq_true] at cw
                obtain ⟨kws, hh, kr1, kr2⟩ := s3.cell p _ q
                have kr : KR K β3 H3 kvs kws := ⟨kr1, kr2⟩
                have ck : clL S3.length (kvs.map (·.2)) = true := s3.cl p _ q
                have rx := g3.rep r1 c1
                have cx := g3.cl c1
                have krp := kr.put (k := kk) rx
                have ckp : clL S3.length ((dPut kvs kk x).map (·.2)) = true := cl_dPut ck cx
                have tk : TupR H3 (upd H3 (β3 p) (.dK (putK kws kk v))) := TupR.set hh (fun _ z => by cases z) (fun _ _ z => by cases z)
                obtain ⟨s5, g5⟩ := s3.put (base := base) (o' := .dct (dPut kvs kk x)) (u' := .dK (putK kws kk v)) q hh (fun _ z => by cases z) (fun _ _ z => by cases z) ckp ⟨_, upd_same, krp.1, Reps.tk tk (n := S3.length) (fun _ _ => rfl) _ _ ckp krp.2⟩ fun hb m q1 => cl_dPut q1 (wr_ok cw.1 hb m)
                refine ⟨β3 p, _, r3, .inl ⟨kws, kk, hh, keyD_ok hk r4, ?_, rfl⟩, ?_⟩
                · rw [← kr.length]
                  exact lim_line' (of_decide_eq_true cw.2)
                · have g := (g1.trans g3).trans g5
                  exact a β3 σ _ g s5 (r.gr g)
              | lst l => cases e1
              | fro l => cases e1
              | fdc l => cases e1
        | _ => cases e1
theorem getV_at {i : Nat} {d : D} (h : getV env i = some d) : env[i]? = some (some d) := by
  unfold getV at h
  cases q : env[i]? with
  | none => rw [q] at h; cases h
  | some z => rw [q] at h; exact congrArg some h
theorem sd_aug {te : TE} {e : Ex} {i : Nat} {op : Operator} (h : ES K φ te e) : S1d K φ (tAug i te (rAug op)) (.aug i op e) := by
  intro base β env S σ H E fl env' S' ev s r a
  rw [ex1] at ev
  cases hv : getV env i with
  | none => rw [hv] at ev; cases ev
  | some x =>
    rw [hv] at ev
    simp only at ev
    obtain ⟨cx, v, hvs, rv⟩ := r.get i x (getV_at hv)
    rcases h1 : evE φ base env e S with _ | ⟨y, S1⟩
    · rw [h1] at ev; cases ev
    · rw [h1] at ev
      simp only at ev
      cases x with
      | int p =>
        cases y with
        | int q =>
          simp only at ev
          by_cases ha : augOk op = true
          · rw [if_pos ha] at ev
            rcases h2 : binF op (.int p) (.int q) S1 with _ | ⟨z, S2⟩
            · rw [h2] at ev; cases ev
            · rw [h2] at ev
              cases ev
              refine ⟨v, hvs, h base β env S σ H _ _ S1 h1 s r fun β1 w H1 g1 s1 r1 c1 => ?_⟩
              cases (show v = .int p from rv)
              cases (show w = .int q from r1)
              have fin : ∀ m : Int, z = .int m → S' = S1 → E.nx (σ.set i (some (.int m))) H1 := fun m ez es => by
                subst ez es
                exact a β1 _ H1 g1 s1 ((r.gr g1).set i rfl rfl)
              cases op with
              | Add => cases h2; exact ⟨p, q, rfl, rfl, fin _ rfl rfl⟩
              | Sub => cases h2; exact ⟨p, q, rfl, rfl, fin _ rfl rfl⟩
              | BitAnd => cases h2; exact ⟨p, q, rfl, rfl, fin _ rfl rfl⟩
              | BitOr => cases h2; exact ⟨p, q, rfl, rfl, fin _ rfl rfl⟩
              | BitXor => cases h2; exact ⟨p, q, rfl, rfl, fin _ rfl rfl⟩
              | _ => cases ha
          · rw [if_neg ha] at ev
            cases ev
        | _ => cases ev
      | _ => cases ev
theorem sd_expr {te : TE} {e : Ex} (h : ES K φ te e) : S1d K φ (tDrop te) (.expr e) := by
  intro base β env S σ H E fl env' S' ev s r a
  rw [ex1] at ev
  rcases h1 : evE φ base env e S with _ | ⟨x, S1⟩
  · rw [h1] at ev; cases ev
  · rw [h1] at ev
    cases ev
    exact h base β env S σ H _ x _ h1 s r fun β1 v H1 g1 s1 r1 c1 => a β1 σ H1 g1 s1 (r.gr g1)
theorem sd_ret {te : TE} {e : Ex} (h : ES K φ te e) : S1d K φ (tRet te) (.ret e) := by
  intro base β env S σ H E fl env' S' ev s r a
  rw [ex1] at ev
  rcases h1 : evE φ base env e S with _ | ⟨x, S1⟩
  · rw [h1] at ev; cases ev
  · rw [h1] at ev
    cases ev
    exact h base β env S σ H _ x _ h1 s r fun β1 v H1 g1 s1 r1 c1 => a β1 σ H1 g1 s1 (r.gr g1) v r1 c1
theorem sd_retN : S1d K φ tRetN .retN := by
  intro base β env S σ H E fl env' S' ev s r a
  cases ev
  exact a β σ H Gr.refl s r .non rfl rfl
theorem sd_brk : S1d K φ tBreak .brk := by
  intro base β env S σ H E fl env' S' ev s r a
  cases ev
  exact a β σ H Gr.refl s r
theorem sd_cnt : S1d K φ tCont .cnt := by
  intro base β env S σ H E fl env' S' ev s r a
  cases ev
  exact a β σ H Gr.refl s r
theorem sd_pass : S1d K φ tNext .pass := by
  intro base β env S σ H E fl env' S' ev s r a
  cases ev
  exact a β σ H Gr.refl s r
theorem sd_fail : S1d K φ tNever .fail := by
  intro base β env S σ H E fl env' S' ev s r a
  cases ev
theorem sd_ifs {tc : TT} {ta tb : TS} {c : Ex} {x y : Ss} (hc : ET K φ tc c) (hx : Ssd K φ ta x) (hy : Ssd K φ tb y) : S1d K φ (tIfS tc ta tb) (.ifs c x y) := by
  intro base β env S σ H E fl env' S' ev s r a
  rw [ex1] at ev
  rcases h1 : evT φ base env c S with _ | ⟨k, S1⟩
  · rw [h1] at ev; cases ev
  · rw [h1] at ev
    refine hc base β env S σ H _ k S1 h1 s r fun β1 H1 g1 s1 => ?_
    cases k with
    | true => rw [if_pos rfl]; exact hx base β1 env S1 σ H1 E fl env' S' ev s1 (r.gr g1) (a.gr g1)
    | false => rw [if_neg Bool.false_ne_true]; exact hy base β1 env S1 σ H1 E fl env' S' ev s1 (r.gr g1) (a.gr g1)
theorem ssd_nil : Ssd K φ tNext .nil := by
  intro base β env S σ H E fl env' S' ev s r a
  cases ev
  exact a β σ H Gr.refl s r
theorem ssd_cons {t u : TS} {c : Sm} {cs : Ss} (h : S1d K φ t c) (hs : Ssd K φ u cs) : Ssd K φ (tSeq t u) (.cons c cs) := by
  intro base β env S σ H E fl env' S' ev s r a
  rw [exs] at ev
  rcases h1 : ex1 φ base c env S with _ | ⟨f1, env1, S1⟩
  · rw [h1] at ev; cases ev
  · rw [h1] at ev
    refine h base β env S σ H _ f1 env1 S1 h1 s r fun β1 σ1 H1 g1 s1 r1 => ?_
    cases f1 with
    | nx => exact hs base β1 env1 S1 σ1 H1 E fl env' S' ev s1 r1 (a.gr g1)
    | ret v => cases ev; exact a β1 σ1 H1 g1 s1 r1
    | bk => cases ev; exact a β1 σ1 H1 g1 s1 r1
    | ct => cases ev; exact a β1 σ1 H1 g1 s1 r1

/-! ### loops -/
theorem sd_for {wi : TI} {tb : TS} {g : Tg} {it : It} {b : Ss} (hi : EI K φ wi it) (hb : Ssd K φ tb b) : S1d K φ (tFor wi (rdG K g) tb) (.for g it b) := by
  intro base β env S σ H E fl env' S' ev s r a
  rw [ex1] at ev
  rcases h1 : evI φ base env it S with _ | ⟨xs, h, S1⟩
  · rw [h1] at ev; cases ev
  · rw [h1] at ev
    simp only at ev
    refine hi base β env S σ H _ xs h S1 h1 s r fun β1 J H1 g1 s1 cx hw => ?_
    have a1 := a.gr g1
    let W : Nat → Nat → L2.St → Hp → Prop := fun i m σc Hc => ∃ (βc : Nat → Addr) (Sc : Sto) (ec : Ev), m = xs.length - i ∧ i ≤ xs.length ∧
      forF (fun d env1 S2 => match tgF g env1 d with
        | some env2 => exs φ base b env2 S2
        | none => none) (fun S2 => still S2 h xs) (xs.drop i) ec Sc = some (fl, env', S') ∧ Gr base β1 S1 H1 βc Sc Hc ∧ Sim K βc Sc Hc ∧ EnvR K βc Hc Sc.length ec σc
    refine ⟨W, ⟨xs.length, β1, S1, env, by simp, Nat.zero_le _, ev, Gr.refl, s1, r.gr g1⟩, ?_⟩
    rintro i m σc Hc ⟨βc, Sc, ec, rfl, hil, hf, gc0, sc, rc⟩
    cases hx : xs.drop i with
    | nil =>
      have hl : xs.length ≤ i := List.drop_eq_nil_iff.mp hx
      rw [hx] at hf
      unfold forF at hf
      obtain ⟨c, e⟩ := ite_some hf
      cases e
      exact .inl ⟨(hw base βc _ Hc gc0 sc c).1 i hl, a1 βc σc Hc gc0 sc rc⟩
    | cons d ds =>
      obtain ⟨hget, hdrop, hlt⟩ := drop_get hx
      rw [hx] at hf
      unfold forF at hf
      by_cases hok : still Sc h xs = true
      · rw [if_pos hok] at hf
        obtain ⟨hgo, hyld⟩ := (hw base βc Sc Hc gc0 sc hok).2 i d hget
        have cd : d.cl Sc.length = true := D.cl_mono gc0.len d (clL_mem cx d (List.mem_of_getElem? hget))
        refine .inr ⟨hgo, fun σ' H' => ∃ m', m' < xs.length - i ∧ W (i + 1) m' σ' H', fun σ' H' h => h, fun x H' hy => ?_⟩
        obtain ⟨rfl, rx⟩ := hyld x H' hy
        cases q : tgF g ec d with
        | none => simp only [q] at hf; cases hf
        | some env2 =>
          simp only [q] at hf
          refine eg g βc ec env2 Sc.length σc H' d x [] _ q rc rx cd fun σ2 r2 _ => ?_
          rcases h2 : exs φ base b env2 Sc with _ | ⟨f1, ev1, S2⟩
          · rw [h2] at hf; cases hf
          · rw [h2] at hf
            refine hb base βc env2 Sc σ2 H' _ f1 ev1 S2 h2 sc r2 fun β2 σ3 H2 g2 s2 r3 => ?_
            have again : forF (fun d env1 S2 => match tgF g env1 d with
                | some env2 => exs φ base b env2 S2
                | none => none) (fun S2 => still S2 h xs) ds ev1 S2 = some (fl, env', S') → ∃ m', m' < xs.length - i ∧ W (i + 1) m' σ3 H2 := fun q2 =>
              ⟨xs.length - (i + 1), by omega, β2, S2, ev1, rfl, hlt, by rw [hdrop]; exact q2, gc0.trans g2, s2, r3⟩
            cases f1 with
            | nx => exact again hf
            | ct => exact again hf
            | bk =>
              cases hf
              exact a1 β2 σ3 H2 (gc0.trans g2) s2 r3
            | ret v =>
              cases hf
              exact a1 β2 σ3 H2 (gc0.trans g2) s2 r3
      · rw [if_neg hok] at hf
        cases hf
theorem sd_while {tc : TT} {tb : TS} {c : Ex} {b : Ss} (hc : ET K φ tc c) (hb : Ssd K φ tb b) : S1d K φ (tWhile tc tb) (.while c b) := by
  intro base β env S σ H E fl env' S' ev s r a
  rw [ex1] at ev
  let W : Nat → L2.St → Hp → Prop := fun m σc Hc => ∃ (βc : Nat → Addr) (Sc : Sto) (ec : Ev), whF (fun env1 S1 => evT φ base env1 c S1) (fun env1 S1 => exs φ base b env1 S1) m ec Sc = some (fl, env', S') ∧
    Gr base β S H βc Sc Hc ∧ Sim K βc Sc Hc ∧ EnvR K βc Hc Sc.length ec σc
  refine ⟨W, ⟨fuel, β, S, env, ev, Gr.refl, s, r⟩, ?_⟩
  rintro m σc Hc ⟨βc, Sc, ec, hw, gc0, sc, rc⟩
  cases m with
  | zero => cases hw
  | succ m =>
    rw [whF] at hw
    rcases h1 : evT φ base ec c Sc with _ | ⟨k, S1⟩
    · rw [h1] at hw; cases hw
    · rw [h1] at hw
      refine hc base βc ec Sc σc Hc _ k S1 h1 sc rc fun β1 H1 g1 s1 => ?_
      cases k with
      | false =>
        rw [if_neg Bool.false_ne_true]
        cases hw
        exact a β1 σc H1 (gc0.trans g1) s1 (rc.gr g1)
      | true =>
        rw [if_pos rfl]
        simp only at hw
        refine ⟨fun σ' H' => ∃ m', m' < m + 1 ∧ W m' σ' H', fun σ' H' h => h, ?_⟩
        rcases h2 : exs φ base b ec S1 with _ | ⟨f1, ev1, S2⟩
        · rw [h2] at hw; cases hw
        · rw [h2] at hw
          refine hb base β1 ec S1 σc H1 _ f1 ev1 S2 h2 s1 (rc.gr g1) fun β2 σ3 H2 g2 s2 r3 => ?_
          have gg := (gc0.trans g1).trans g2
          cases f1 with
          | nx => exact ⟨m, Nat.lt_succ_self m, β2, S2, ev1, hw, gg, s2, r3⟩
          | ct => exact ⟨m, Nat.lt_succ_self m, β2, S2, ev1, hw, gg, s2, r3⟩
          | bk =>
            cases hw
            exact a β2 σ3 H2 gg s2 r3
          | ret v =>
            cases hw
            exact a β2 σ3 H2 gg s2 r3
mutual
theorem s1All (X : Cx) (φ : Phi) : ∀ c : Sm, S1d X.K φ (rd1 X.K φ c) c
  | .set i e => sd_set (esAll X φ e).1
  | .par i j a b => sd_par (esAll X φ a).1 (esAll X φ b).1
  | .unp is e => sd_unp (esAll X φ e).1
  | .six o i e => sd_six (esAll X φ o).1 (esAll X φ i).1 (esAll X φ e).1
  | .dst o i e => sd_dst (esAll X φ o).1 (esAll X φ i).1 (esAll X φ e).1
  | .aug i op e => sd_aug (esAll X φ e).1
  | .expr e => sd_expr (esAll X φ e).1
  | .ifs c a b => sd_ifs (esAll X φ c).2 (ssAll X φ a) (ssAll X φ b)
  | .for g it b => sd_for (eiAll X φ it) (ssAll X φ b)
  | .while c b => sd_while (esAll X φ c).2 (ssAll X φ b)
  | .ret e => sd_ret (esAll X φ e).1
  | .retN => sd_retN
  | .brk => sd_brk
  | .cnt => sd_cnt
  | .pass => sd_pass
  | .fail => sd_fail
theorem ssAll (X : Cx) (φ : Phi) : ∀ c : Ss, Ssd X.K φ (rds X.K φ c) c
  | .nil => ssd_nil
  | .cons s ss => ssd_cons (s1All X φ s) (ssAll X φ ss)
end
end
end Z
end
section
set_option Elab.async false
set_option linter.all false
set_option autoImplicit false
/-! is this code the code of that text? -/
namespace Z
open PySem L2

/-- what a def's text is read by: its names by slot, the defs, the constants -/
structure Cc where
  N : List Str
  fns : List Str
  cons : List (Str × Int)

def bltNames : List Str := ["len", "abs", "int", "bool", "max", "min", "sum", "all", "any", "tuple", "list", "sorted", "range", "isinstance", "str", "dict", "set"]
def Bl.nm : Bl → Str
  | .len => "len"
  | .abs => "abs"
  | .int => "int"
  | .bool => "bool"
  | .max2 => "max"
  | .min2 => "min"
  | .sum => "sum"
  | .all => "all"
  | .any => "any"
  | .tuple => "tuple"
  | .list => "list"
  | .sorted => "sorted"
def Ik.nm : Ik → Str
  | .int => "int"
  | .bool => "bool"
  | .tuple => "tuple"
  | .list => "list"
  | .str => "str"
def Mt.nm : Mt → Str
  | .append => "append"
  | .pop => "pop"
  | .popAt => "pop"
  | .bits => "bit_length"
/-- how many arguments a method takes -/
def metN : Mt → List Expr → Bool
  | .append, args => args.length == 1
  | .popAt, args => args.length == 1
  | .pop, args => args.length == 0
  | .bits, args => args.length == 0
def visB (sc : Scope) (x : Str) : Bool := match sc.names.lookup x with
  | some .local => true
  | some .cell => true
  | some .free => true
  | _ => false
def glB (sc : Scope) (x : Str) : Bool := match sc.names.lookup x with
  | some .globalImplicit => true
  | _ => false
def plainB (x : Str) : Bool := !(x == ("__debug__" : Str)) && !(x == ("__classdict__" : Str)) && !(x == ("__name__" : Str))
def slotB (cc : Cc) (sc : Scope) (i : Nat) (x : Str) : Bool := visB sc x && decide (cc.N[i]? = some x) && plainB x
/-- what may stand ahead of a method's name -/
def recB : Expr → Bool
  | .Name _ _ => true
  | .Subscript _ _ _ => true
  | _ => false
def notSlB : Expr → Bool
  | .Slice _ _ _ _ => false
  | _ => true
def ownOf (N : List Str) (scope : Scope) : List (Str × Nat) := scope.names.filterMap fun p => match p.2 with
  | .local => (N.findIdx? (fun x => decide (x = p.1))).map fun i => (p.1, i)
  | .cell => (N.findIdx? (fun x => decide (x = p.1))).map fun i => (p.1, i)
  | _ => none
/-- a name that a comprehension may set -/
def setB (cc : Cc) (scope sc : Scope) (i : Nat) (x : Str) : Bool := decide (cc.N[i]? = some x) && (match (relS scope sc).names.lookup x with
  | some .local => true
  | some .cell => decide (scope.names.lookup x = some .cell)
  | _ => false)
def ckTgs (cc : Cc) (scope sc : Scope) : List Nat → List Expr → Bool
  | [], [] => true
  | i :: is, .Name x _ :: es => setB cc scope sc i x && ckTgs cc scope sc is es
  | _, _ => false
def ckTg (cc : Cc) (scope sc : Scope) : Tg → Expr → Bool
  | .nm i, .Name x _ => setB cc scope sc i x
  | .tp is, .Tuple es _ _ => ckTgs cc scope sc is es
  | _, _ => false
mutual
def ckE (cc : Cc) : Ex → Scope → Expr → Bool
  | .var i, sc, e => (match e with
    | .Name x _ => slotB cc sc i x
    | _ => false)
  | .con i, sc, e => (match e with
    | .Name x _ => glB sc x && decide (cc.cons.lookup x = some i) && plainB x
    | _ => false)
  | .non, sc, e => (match e with
    | .Constant .none _ _ => true
    | _ => false)
  | .bl b, sc, e => (match e with
    | .Constant (.bool c) _ _ => b == c
    | _ => false)
  | .int b, sc, e => (match e with
    | .Constant (.int c) _ _ => decide (b = c)
    | _ => false)
  | .str b, sc, e => (match e with
    | .Constant (.str c) _ _ => decide (b = c)
    | _ => false)
  | .bin op a b, sc, e => (match e with
    | .BinOp ea o eb _ => decide (op = o) && ckE cc a sc ea && ckE cc b sc eb
    | _ => false)
  | .un op a, sc, e => (match e with
    | .UnaryOp o ea _ => decide (op = o) && !decide (op = .Not) && ckE cc a sc ea
    | _ => false)
  | .cmp op a b, sc, e => (match e with
    | .Compare ea [o] [eb] _ => decide (op = o) && !behindInMarks op eb && ckE cc a sc ea && ckE cc b sc eb
    | _ => false)
  | .chn o1 o2 a b c, sc, e => (match e with
    | .Compare ea [p1, p2] [eb, ec] _ => decide (o1 = p1) && decide (o2 = p2) && !lastMarks [p1, p2] [eb, ec] && ckE cc a sc ea && ckE cc b sc eb && ckE cc c sc ec
    | _ => false)
  | .and a b, sc, e => (match e with
    | .BoolOp .And (ea :: eb :: rest) p => ckE cc a sc ea && (match rest with
      | [] => ckE cc b sc eb
      | z :: zs => ckE cc b sc (.BoolOp .And (eb :: z :: zs) p))
    | _ => false)
  | .or a b, sc, e => (match e with
    | .BoolOp .Or (ea :: eb :: rest) p => ckE cc a sc ea && (match rest with
      | [] => ckE cc b sc eb
      | z :: zs => ckE cc b sc (.BoolOp .Or (eb :: z :: zs) p))
    | _ => false)
  | .not a, sc, e => (match e with
    | .UnaryOp .Not ea _ => ckE cc a sc ea
    | _ => false)
  | .ite c a b, sc, e => (match e with
    | .IfExp ec ea eb _ => ckE cc c sc ec && ckE cc a sc ea && ckE cc b sc eb
    | _ => false)
  | .tup es, sc, e => (match e with
    | .Tuple xs _ _ => ckS cc es sc xs
    | _ => false)
  | .lst es, sc, e => (match e with
    | .List xs _ => ckS cc es sc xs
    | _ => false)
  | .ix a b, sc, e => (match e with
    | .Subscript ea eb _ => notSlB eb && ckE cc a sc ea && ckE cc b sc eb
    | _ => false)
  | .dix a b, sc, e => (match e with
    | .Subscript ea eb _ => notSlB eb && ckE cc a sc ea && ckE cc b sc eb
    | _ => false)
  | .sl a lo hi, sc, e => (match e with
    | .Subscript ea (.Slice l h none _) _ => ckE cc a sc ea && ckO cc lo sc l && ckO cc hi sc h
    | _ => false)
  | .rev a, sc, e => (match e with
    | .Subscript ea (.Slice none none (some (.UnaryOp .USub (.Constant (.int 1) _ _) _)) _) _ => ckE cc a sc ea
    | _ => false)
  | .rg1 t a, sc, e => (match e with
    | .Call (.Name x _) [.Call (.Name y _) [ea] [] _] [] _ => decide (x = if t = true then ("tuple" : Str) else "list") && glB sc x && decide (y = ("range" : Str)) && glB sc y && ckE cc a sc ea
    | _ => false)
  | .rg2 t a b, sc, e => (match e with
    | .Call (.Name x _) [.Call (.Name y _) [ea, eb] [] _] [] _ => decide (x = if t = true then ("tuple" : Str) else "list") && glB sc x && decide (y = ("range" : Str)) && glB sc y && ckE cc a sc ea && ckE cc b sc eb
    | _ => false)
  | .srs a, sc, e => (match e with
    | .Call (.Name x _) [.Call (.Name y _) [ea] [] _] [] _ => decide (x = ("sorted" : Str)) && glB sc x && decide (y = ("set" : Str)) && glB sc y && ckE cc a sc ea
    | _ => false)
  | .call f es, sc, e => (match e with
    | .Call (.Name x _) args [] _ => decide (f = x) && glB sc x && plainB x && cc.fns.contains x && ckS cc es sc args
    | _ => false)
  | .blt b es, sc, e => (match e with
    | .Call (.Name x _) (a1 :: args) [] _ => decide (x = b.nm) && glB sc x && ckS cc es sc (a1 :: args)
    | _ => false)
  | .met m o es, sc, e => (match e with
    | .Call (.Attribute eo x ap) args [] p => decide (x = m.nm) && recB eo && (ap.endLine == p.line) && ckE cc o sc eo && ckS cc es sc args && metN m args
    | _ => false)
  | .isi a k, sc, e => (match e with
    | .Call (.Name x _) [ea, .Name t _] [] _ => decide (x = ("isinstance" : Str)) && glB sc x && decide (t = k.nm) && glB sc t && ckE cc a sc ea
    | _ => false)
  | .dic, sc, e => (match e with
    | .Dict [] [] _ => true
    | _ => false)
  | .dgt o k v, sc, e => (match e with
    | .Call (.Attribute eo x ap) [ek, ev] [] p => decide (x = ("get" : Str)) && recB eo && (ap.endLine == p.line) && ckE cc o sc eo && ckE cc k sc ek && ckE cc v sc ev
    | _ => false)
  | .lc own g it c e0, sc, e => (match e with
    | .ListComp elt [⟨tg, iter, ifs, 0⟩] scope _ => decide (own = (ownOf cc.N scope).map (·.2)) && blkC cc.N sc scope (ownOf cc.N scope) && ckTg cc scope sc g tg && ckI cc it sc iter && ckC cc c (relS scope sc) ifs && ckE cc e0 (relS scope sc) elt
    | _ => false)
  | .lck own i o c e0, sc, e => (match e with
    | .ListComp elt [⟨.Name x _, .Name y _, ifs, 0⟩] scope _ => decide (own = (ownOf cc.N scope).map (·.2)) && blkC cc.N sc scope (ownOf cc.N scope) && setB cc scope sc i x && slotB cc sc o y && ckC cc c (relS scope sc) ifs && ckE cc e0 (relS scope sc) elt
    | _ => false)
termination_by structural x => x
def ckS (cc : Cc) : Es → Scope → List Expr → Bool
  | .nil, sc, es => (match es with
    | [] => true
    | _ => false)
  | .cons c cs, sc, es => (match es with
    | e :: r => ckE cc c sc e && ckS cc cs sc r
    | [] => false)
termination_by structural x => x
def ckO (cc : Cc) : Ox → Scope → Option Expr → Bool
  | .no, sc, o => (match o with
    | none => true
    | _ => false)
  | .yes c, sc, o => (match o with
    | some e => ckE cc c sc e
    | none => false)
termination_by structural x => x
def ckC (cc : Cc) : Ox → Scope → List Expr → Bool
  | .no, sc, o => (match o with
    | [] => true
    | _ => false)
  | .yes c, sc, o => (match o with
    | [e] => ckE cc c sc e
    | _ => false)
termination_by structural x => x
def ckI (cc : Cc) : It → Scope → Expr → Bool
  | .ex c, sc, e => ckE cc c sc e
  | .rng1 a, sc, e => (match e with
    | .Call (.Name x _) [ea] [] _ => decide (x = ("range" : Str)) && glB sc x && ckE cc a sc ea
    | _ => false)
  | .rng2 a b, sc, e => (match e with
    | .Call (.Name x _) [ea, eb] [] _ => decide (x = ("range" : Str)) && glB sc x && ckE cc a sc ea && ckE cc b sc eb
    | _ => false)
termination_by structural x => x
end

/-! ### the context -/
/-- a def that keeps its promise -/
structure FnS (X : Cx) (k : Nat) (φ : Phi) (f : Str) : Prop where
  ex : ∃ (a : Addr) (fd : FuncData) (ps : List Str), FnOk X.prog X.w X.K X.mg X.base CX0 k a fd ps (spOf X.K (φ f)) ∧ X.mg f = some (.ref a) ∧ PySem.W.keepIn X.K (.ref a) = true ∧ Binds X.K fd ps []
structure Ctx (X : Cx) (cc : Cc) (sc : Scope) (k : Nat) (φ : Phi) : Prop where
  nN : X.N = cc.N
  nd : cc.N.Nodup
  sc : X.env.scope = sc
  calm : X.calm = true
  room : Room k X.A
  blt : ∀ x ∈ bltNames, X.mg x = none
  con : ∀ x i, cc.cons.lookup x = some i → ∃ t, X.mg x = some (.int i t)
  fn : ∀ f, f ∈ cc.fns → FnS X k φ f

section
variable {X : Cx} {cc : Cc} {sc : Scope} {k : Nat} {φ : Phi}
theorem Ctx.blk (h : Ctx X cc sc k φ) (s : Shared) (H : Hp) (scope : Scope) (C : Addr) (cl : List (Str × Addr)) (fp : List Addr) : Ctx (X.blk s H scope (compEnvC scope cl C X.env) fp) cc (relS scope sc) k φ :=
  ⟨h.nN, h.nd, by
    show relabel scope X.env = relS scope sc
    rw [← h.sc]
    rfl, h.calm, h.room, h.blt, h.con, fun f hf => ⟨(h.fn f hf).ex⟩⟩
theorem vis_of {x : Str} (h : visB sc x = true) : Vis sc x := by
  unfold visB at h
  unfold Vis
  cases q : sc.names.lookup x with
  | none => rw [q] at h; cases h
  | some kd =>
    rw [q] at h
    cases kd with
    | «local» => exact .inl rfl
    | cell => exact .inr (.inl rfl)
    | free => exact .inr (.inr rfl)
    | globalExplicit => cases h
    | globalImplicit => cases h
theorem gl_of {x : Str} (hc : Ctx X cc sc k φ) (h : glB sc x = true) : Gl X x := by
  show X.env.scope.names.lookup x = some .globalImplicit
  rw [hc.sc]
  unfold glB at h
  cases q : sc.names.lookup x with
  | none => rw [q] at h; cases h
  | some kd =>
    rw [q] at h
    cases kd with
    | globalImplicit => rfl
    | «local» => cases h
    | cell => cases h
    | free => cases h
    | globalExplicit => cases h
theorem plain_of {x : Str} (h : plainB x = true) : (x == ("__debug__" : Str)) = false ∧ (x == ("__classdict__" : Str)) = false ∧ (x == ("__name__" : Str)) = false := by
  unfold plainB at h
  rw [Bool.and_eq_true, Bool.and_eq_true] at h
  exact ⟨by simpa using h.1.1, by simpa using h.1.2, by simpa using h.2⟩
theorem slot_of {i : Nat} {x : Str} {pos : Pos} (hc : Ctx X cc sc k φ) (h : slotB cc sc i x = true) : PE X (.Name x pos) (tVar i) := by
  unfold slotB at h
  rw [Bool.and_eq_true, Bool.and_eq_true] at h
  obtain ⟨p1, p2, _⟩ := plain_of h.2
  exact pe_var (by rw [hc.nN]; exact of_decide_eq_true h.1.2) (by rw [hc.sc]; exact vis_of h.1.1) p1 p2

/-! ### not starred -/
theorem ck_star (c : Ex) (e : Expr) (h : ckE cc c sc e = true) (es : List Expr) (env : Env) : starEach (e :: es) env = (false, eval e env) :: starEach es env := by
  cases e with
  | Starred v p => cases c <;> exact (Bool.false_ne_true h).elim
  | _ => rfl
theorem ck_any : ∀ (cs : Es) (es : List Expr), ckS cc cs sc es = true → ∀ (pos : Pos) (env : Env), (backTo pos (starEach es env)).any (·.1) = false
  | .nil, es, h, pos, env => by
    cases es with
    | nil => rfl
    | cons e r => exact (Bool.false_ne_true h).elim
  | .cons c cs, es, h, pos, env => by
    cases es with
    | nil => exact (Bool.false_ne_true h).elim
    | cons e r =>
      rw [ckS, Bool.and_eq_true] at h
      rw [ck_star c e h.1]
      show (false || (backTo pos (starEach r env)).any (·.1)) = false
      rw [ck_any cs r h.2 pos env]
      rfl
theorem ck_set (c : Ex) (e : Expr) (h : ckE cc c sc e = true) (env : Env) : ∀ x, foldedSetIterable e env x = pure x := by
  intro x
  cases e with
  | Set v p q => cases c <;> exact (Bool.false_ne_true h).elim
  | _ => rfl
end
end Z
end
section
set_option Elab.async false
set_option linter.all false
set_option autoImplicit false
/-! code that passes the check asks what the text asks -/
namespace Z
open PySem L2

section
variable {X : Cx} {cc : Cc} {sc : Scope} {k : Nat} {φ : Phi}

/-- an expression that is asked for its truth the plain way -/
def Plain (X : Cx) (e : Expr) : Prop := ∀ whole, isTrue e X.env whole = (do let v ← whole; standAt e.pos; holding [v] (truthy v))
theorem pt_plain {e : Expr} {t : TE} (h : PE X e t) (p : Plain X e) : PE X e t ∧ PT X e (tTru X.K t) := ⟨h, pt_truth h p⟩
theorem pt_ite {c a b : Expr} {pos : Pos} {tc ta tb : TT} (hc : PT X c tc) (ha : PT X a ta) (hb : PT X b tb) : PT X (.IfExp c a b pos) (tIfT tc ta tb) := by
  refine ⟨fun pins s σ H Q I h => ?_⟩
  show wpAny (model X.prog X.w) X.A (isTrue c X.env (eval c X.env) >>= fun k => if k = true then isTrue a X.env (eval a X.env) else isTrue b X.env (eval b X.env)) _ _ _
  refine wpAny_bind (thn (hc.run pins s σ H _ I h) fun k s1 ⟨H1, I1, q1⟩ => ?_)
  cases k with
  | true =>
    rw [if_pos rfl] at q1 ⊢
    exact ha.run pins s1 σ H1 Q I1 q1
  | false =>
    rw [if_neg Bool.false_ne_true] at q1 ⊢
    exact hb.run pins s1 σ H1 Q I1 q1
theorem pw_bool {op : BoolOp} {vs : List Expr} {pos : Pos} {t : TT} (h : PT X (.BoolOp op vs pos) t) : PW X (.BoolOp op vs pos) t := ⟨fun whole pins s σ H Q I hw => h.run pins s σ H Q I hw⟩
theorem OpR.pip {op : Operator} {r : R2} (h : OpR X (inplaceOp op) r) : PIp X op r := fun pins s σ H x y v u Q I rx ry q => h pins s σ H x y v u Q I rx ry q
theorem pi_or {tg l : Expr} {w1 w2 : TI} (h1 : PI X tg l w1) (h2 : PI X tg l w2) : PI X tg l (fun σ H R => w1 σ H R ∨ w2 σ H R) := ⟨fun pins s σ H R I h => h.elim (h1.run pins s σ H R I) (h2.run pins s σ H R I)⟩
theorem boot_blt (b : Bl) : ∃ v, bootBuiltins b.nm = some v ∧ v = b.v := by
  cases b <;> exact ⟨_, by decide +kernel, rfl⟩
theorem pe_blt {b : Bl} {x : Str} {a : Expr} {args : List Expr} {t : TA} {p pos : Pos} (hc : Ctx X cc sc k φ) (hx : x = b.nm) (hg : Gl X x) (ha : PA X (a :: args) t)
    (he : starEach (a :: args) X.env = (false, eval a X.env) :: starEach args X.env) (hp : (backTo pos (starEach args X.env)).any (·.1) = false) : PE X (.Call (.Name x p) (a :: args) [] pos) (tCB (rBlt X.K b) t) := by
  subst hx
  have hm : X.mg b.nm = none := hc.blt _ (by cases b <;> decide +kernel)
  have hr := call_blt hc.calm b
  cases b with
  | len => exact pe_callB (id := "len") hr hg hm (by decide +kernel) ha (by decide) (by decide) he hp
  | abs => exact pe_callB (id := "abs") hr hg hm (by decide +kernel) ha (by decide) (by decide) he hp
  | int => exact pe_callTy (T := "int") hr hg hm (by decide +kernel) ha (by decide) (by decide) he hp
  | bool => exact pe_callTy (T := "bool") hr hg hm (by decide +kernel) ha (by decide) (by decide) he hp
  | max2 => exact pe_callB (id := "max") hr hg hm (by decide +kernel) ha (by decide) (by decide) he hp
  | min2 => exact pe_callB (id := "min") hr hg hm (by decide +kernel) ha (by decide) (by decide) he hp
  | sum => exact pe_callB (id := "sum") hr hg hm (by decide +kernel) ha (by decide) (by decide) he hp
  | all => exact pe_callB (id := "all") hr hg hm (by decide +kernel) ha (by decide) (by decide) he hp
  | any => exact pe_callB (id := "any") hr hg hm (by decide +kernel) ha (by decide) (by decide) he hp
  | tuple => exact pe_callTy (T := "tuple") hr hg hm (by decide +kernel) ha (by decide) (by decide) he hp
  | list => exact pe_callTy (T := "list") hr hg hm (by decide +kernel) ha (by decide) (by decide) he hp
  | sorted => exact pe_callB (id := "sorted") hr hg hm (by decide +kernel) ha (by decide) (by decide) he hp
theorem rec_base {o : Expr} {m : Str} {env : Env} (h : recB o = true) : attributeBase o m env (eval o env) = eval o env := by
  cases o with
  | Name x p => rfl
  | Subscript a b p => rfl
  | _ => cases h
theorem notSl_plain {b : Expr} (h : notSlB b = true) : PlainIx b := by
  cases b with
  | Slice _ _ _ _ => cases h
  | _ => exact fun _ _ => rfl
theorem and3 {a b c : Bool} (h : (a && b && c) = true) : a = true ∧ b = true ∧ c = true := by
  rw [Bool.and_eq_true, Bool.and_eq_true] at h
  exact ⟨h.1.1, h.1.2, h.2⟩
theorem and2 {a b : Bool} (h : (a && b) = true) : a = true ∧ b = true := Bool.and_eq_true_iff.mp h
theorem few_one {e : Expr} {cpos : Pos} {env : Env} (hs : starEach [e] env = (false, eval e env) :: starEach [] env) : ((backTo cpos (starEach [e] env)).all (fun x => !x.1) && (backToKw cpos (keywordEach [] env)).all (fun x => x.1.isSome)
      && decide (([e] : List Expr).length + ([] : List Keyword).length + (if ([] : List Keyword).isEmpty then 0 else 1) < 30)) = true := by
  rw [hs]
  rfl
theorem few_two {e f : Expr} {cpos : Pos} {env : Env} (hs : starEach [e, f] env = (false, eval e env) :: starEach [f] env) (hs2 : starEach [f] env = (false, eval f env) :: starEach [] env) : ((backTo cpos (starEach [e, f] env)).all (fun x => !x.1) && (backToKw cpos (keywordEach [] env)).all (fun x => x.1.isSome)
      && decide (([e, f] : List Expr).length + ([] : List Keyword).length + (if ([] : List Keyword).isEmpty then 0 else 1) < 30)) = true := by
  rw [hs, hs2]
  rfl
theorem set_of {Y : Cx} {scope : Scope} {i : Nat} {x : Str} {pos : Pos} (hN : Y.N = cc.N) (nd : cc.N.Nodup) (hs : Y.env.scope = relS scope sc) (hf : Y.fn = fun x => scope.names.lookup x == some .cell) (h : setB cc scope sc i x = true) : PG Y (.Name x pos) (gName i) := by
  unfold setB at h
  rw [Bool.and_eq_true] at h
  have hi : Y.N[i]? = some x := by rw [hN]; exact of_decide_eq_true h.1
  have h2 := h.2
  cases q : (relS scope sc).names.lookup x with
  | none => rw [q] at h2; cases h2
  | some kd =>
    rw [q] at h2
    cases kd with
    | «local» => exact pg_name (by rw [hN]; exact nd) hi (by rw [hs]; exact .inl q) (.inr (by rw [hs]; exact q))
    | cell => exact pg_name (by rw [hN]; exact nd) hi (by rw [hs]; exact .inr q) (.inl (by rw [hf]; simp [of_decide_eq_true h2]))
    | free => cases h2
    | globalExplicit => cases h2
    | globalImplicit => cases h2
theorem sets_of {Y : Cx} {scope : Scope} (hN : Y.N = cc.N) (nd : cc.N.Nodup) (hs : Y.env.scope = relS scope sc) (hf : Y.fn = fun x => scope.names.lookup x == some .cell) : ∀ (is : List Nat) (es : List Expr), ckTgs cc scope sc is es = true →
    PGs Y es (is.foldr (fun i t => gCons (gName i) t) gNil) ∧ is.length = es.length
  | [], [], _ => ⟨pgs_nil, rfl⟩
  | i :: is, .Name x p :: es, h => by
    have h' : (setB cc scope sc i x && ckTgs cc scope sc is es) = true := h
    obtain ⟨h1, h2⟩ := and2 h'
    obtain ⟨q1, q2⟩ := sets_of hN nd hs hf is es h2
    exact ⟨pgs_cons (set_of hN nd hs hf h1) q1, by rw [List.length_cons, List.length_cons, q2]⟩
  | [], _ :: _, h => (Bool.false_ne_true h).elim
  | _ :: _, [], h => (Bool.false_ne_true h).elim
  | i :: is, e :: es, h => by
    cases e with
    | Name x p =>
      have h' : (setB cc scope sc i x && ckTgs cc scope sc is es) = true := h
      obtain ⟨h1, h2⟩ := and2 h'
      obtain ⟨q1, q2⟩ := sets_of hN nd hs hf is es h2
      exact ⟨pgs_cons (set_of hN nd hs hf h1) q1, by rw [List.length_cons, List.length_cons, q2]⟩
    | _ => exact (Bool.false_ne_true h).elim
theorem asg_each : ∀ (es : List Expr) (env : Env), (assignEach es env).length = es.length
  | [], _ => rfl
  | e :: es, env => by
    cases e <;> (show (assignEach es env).length + 1 = es.length + 1; rw [asg_each es env])
theorem asg_len {n : Nat} (es : List Expr) (env : Env) (h : n = es.length) : (assignEach es env).length = n := by
  rw [asg_each, h]
theorem asg_star {scope : Scope} : ∀ (is : List Nat) (es : List Expr), ckTgs cc scope sc is es = true → ∀ env : Env, (assignEach es env).findIdx? (·.1) = none
  | [], [], _, _ => rfl
  | [], _ :: _, h, _ => (Bool.false_ne_true h).elim
  | _ :: _, [], h, _ => (Bool.false_ne_true (show false = true from h)).elim
  | i :: is, e :: es, h, env => by
    cases e with
    | Name x p =>
      obtain ⟨_, h2⟩ := and2 (show (setB cc scope sc i x && ckTgs cc scope sc is es) = true from h)
      have ih := asg_star is es h2 env
      show ((false, assign (.Name x p) env) :: assignEach es env).findIdx? (·.1) = none
      rw [List.findIdx?_cons]
      simp [ih]
    | _ => exact (Bool.false_ne_true h).elim
theorem ckI_set (c : It) (e : Expr) (h : ckI cc c sc e = true) (env : Env) : ∀ x, foldedSetIterable e env x = pure x := by
  cases c with
  | ex c => exact ck_set c e h env
  | rng1 a =>
    intro x
    cases e with
    | Set v p q => exact (Bool.false_ne_true h).elim
    | _ => rfl
  | rng2 a b =>
    intro x
    cases e with
    | Set v p q => exact (Bool.false_ne_true h).elim
    | _ => rfl
end
end Z
end
section
set_option Elab.async false
set_option linter.all false
set_option autoImplicit false
set_option maxRecDepth 100000
set_option maxHeartbeats 4000000
/-! t[::-1], xs[::-1] -/
namespace Z
open PySem L2 PySem.Spec PyProof.Rows HT
section
variable {prog : Program} {w : World} {A : Around} {E : Value → Shared → Prop} {s : Shared}
theorem applied_rev {sl : Addr} {vl vu vs : Value} {n : Nat} {Q : Int × Int × Nat → Shared → Prop} (hs : s.heap.IsSliceOf sl vl vu vs) (pl : IsPart vl none) (pu : IsPart vu none) (ps : IsPart vs (some (-1)))
    (h : Q ((n : Int) - 1, -1, n) s) : wpAny (model prog w) A (Builtin.Slice.sliceApplied (.ref sl) (pure (n : Int))) Q E s := by
  obtain ⟨os, hos, hcs, hds⟩ := id hs
  unfold Builtin.Slice.sliceApplied Builtin.Slice.sliceFields
  refine wpAny_bind (wpAny_bind (wpAny_field hos hds (x := vl) rfl (wpAny_bind (wpAny_field hos hds (x := vu) rfl (wpAny_bind (wpAny_field hos hds (x := vs) rfl (wpAny_pure ?_)))))))
  refine wpAny_bind (slicePart_ ps ?_)
  show wpAny _ _ (if ((-1 : Int) == 0) = true then _ else _) _ _ s
  rw [if_neg (by decide)]
  refine wpAny_bind (slicePart_ pl (wpAny_bind (slicePart_ pu (wpAny_bind (wpAny_pure ?_)))))
  show wpAny _ _ (match Builtin.Slice.sliceAdjust none none (-1) (n : Int) with | (lo, hi) => pure (lo, (-1 : Int), Builtin.Slice.slicePlaces lo hi (-1))) _ _ s
  have e1 : Builtin.Slice.sliceAdjust none none (-1) (n : Int) = ((n : Int) - 1, -1) := by
    unfold Builtin.Slice.sliceAdjust
    simp
  have e2 : Builtin.Slice.slicePlaces ((n : Int) - 1) (-1) (-1) = n := by
    unfold Builtin.Slice.slicePlaces
    have h1 : ¬ ((-1 : Int) > 0) := by omega
    simp only [h1, if_false]
    by_cases h2 : (n : Int) - 1 > -1
    · simp only [h2, if_true]
      have : ((n : Int) - 1 - -1 - 1) / (- -1) = (n : Int) - 1 := by
        have : (- -1 : Int) = 1 := by omega
        rw [this, Int.ediv_one]
        omega
      rw [this]
      omega
    · simp only [h2, if_false]
      have : n = 0 := by omega
      subst this
      rfl
  rw [e1]
  show wpAny _ _ (pure ((n : Int) - 1, (-1 : Int), Builtin.Slice.slicePlaces ((n : Int) - 1) (-1) (-1))) _ _ s
  rw [e2]
  exact wpAny_pure h
theorem fm_congr {α γ : Type} {f g : α → Option γ} : ∀ {l : List α}, (∀ m ∈ l, f m = g m) → l.filterMap f = l.filterMap g
  | [], _ => rfl
  | a :: l, h => by
    rw [List.filterMap_cons, List.filterMap_cons, h a List.mem_cons_self, fm_congr fun m hm => h m (List.mem_cons_of_mem _ hm)]
theorem rev_pick (xs : Array Value) : ((List.range xs.size).filterMap fun (m : Nat) => xs[(((xs.size : Nat) : Int) - 1 + (m : Int) * -1).toNat]?).toArray = xs.toList.reverse.toArray := by
  congr 1
  have e : ∀ m ∈ List.range xs.size, xs[(((xs.size : Nat) : Int) - 1 + (m : Int) * -1).toNat]? = xs.toList.reverse[m]? := fun m hm => by
    have hm' : m < xs.size := List.mem_range.mp hm
    have e2 : (((xs.size : Nat) : Int) - 1 + (m : Int) * -1).toNat = xs.size - 1 - m := by omega
    rw [e2, List.getElem?_reverse (by rw [Array.length_toList]; exact hm'), Array.length_toList, Array.getElem?_toList]
  rw [fm_congr e]
  have e3 : xs.size = xs.toList.reverse.length := by simp
  rw [e3]
  generalize xs.toList.reverse = l
  clear e e3
  have gen : ∀ (l : List Value) (j : Nat), (List.range' j (l.length - j)).filterMap (fun m => l[m]?) = l.drop j := by
    intro l j
    generalize hk : l.length - j = k
    induction k generalizing j with
    | zero =>
      rw [List.drop_eq_nil_of_le (by omega)]
      rfl
    | succ k ih =>
      have hj : j < l.length := by omega
      rw [List.range'_succ, List.filterMap_cons, List.getElem?_eq_getElem hj]
      simp only
      rw [ih (j + 1) (by omega), List.drop_eq_getElem_cons hj]
  have := gen l 0
  rw [Nat.sub_zero, List.drop_zero] at this
  rw [List.range_eq_range']
  exact this
theorem getItem_tuple_rev {t sl : Addr} {items : Array Value} {vl vu vs : Value} {Q : Value → Shared → Prop} (ht : IsTup s.heap t items) (hs : s.heap.IsSliceOf sl vl vu vs) (pl : IsPart vl none) (pu : IsPart vu none) (ps : IsPart vs (some (-1)))
    (h : Q (.ref s.heap.objs.size) { s with heap := s.heap.push { cls := .type "tuple", data := .seq items.toList.reverse.toArray } })
    (hsz : items.size ≤ sizeLine) : wpAny (model prog w) A (getItem (.ref t) (.ref sl)) Q E s := by
  have htake : sizeOk (.seq items.toList.reverse.toArray) := by
    show items.toList.reverse.toArray.size ≤ sizeLine
    rw [List.size_toArray, List.length_reverse, Array.length_toList]
    exact hsz
  obtain ⟨os, hos, hcs, hds⟩ := id hs
  have hTs : s.TypeIs (.ref sl) "slice" := ⟨os, hos, hcs⟩
  unfold getItem
  try with_reducible refine wpAny_holding ?_
  first | refine wpAny_bind (wpAny_pure ?_) | skip
  refine wpAny_bind (wpAny_sequenceKey ht.typeIs (by decide) ?_)
  refine wpAny_bind (wpAny_callSpecial?_slot (name := Str.ofString "__getitem__") ht.typeIs PyProof.Rows.slot_tuple_getitem
    (wpAny_call_entry PyProof.Rows.slot_tuple_getitem ht.typeIs entry_tuple_getitem ?_ (args_tuple_getitem _ _)))
  show wpAny _ _ (Builtin.Tuple.tupleItemsOf (.ref t) >>= _) _ _ s
  refine wpAny_bind (tupleItemsOf_ ht ?_)
  refine wpAny_bind (wpAny_typeOf hTs ?_)
  rw [if_pos (by decide)]
  refine wpAny_bind (applied_rev hs pl pu ps ?_)
  have hno : ¬ ((((items.size : Nat) : Int) - 1 == 0 && (-1 : Int) == 1 && items.size == items.size) = true) := by
    intro q
    rw [Bool.and_eq_true, Bool.and_eq_true] at q
    have q1 : (-1 : Int) = 1 := eq_of_beq q.1.2
    omega
  show wpAny _ _ (if (((items.size : Nat) : Int) - 1 == 0 && (-1 : Int) == 1 && items.size == items.size) = true then _ else _) _ _ s
  rw [if_neg hno, rev_pick]
  first
    | exact wpAny_bind (m := Builtin.Tuple.tupleExact _) (wpAny_newObj_type (wpAny_pure ⟨_, rfl, wpAny_pure h⟩) htake)
    | exact wpAny_bind (m := Builtin.Tuple.tupleExact _) (wpAny_newObj_type (wpAny_bind (wpAny_pure (wpAny_pure ⟨_, rfl, wpAny_pure h⟩))) htake)
    | exact wpAny_bind (wpAny_bind (m := Builtin.Tuple.tupleExact _) (wpAny_newObj_type (wpAny_pure (wpAny_pure ⟨_, rfl, wpAny_pure h⟩)) htake))
    | exact wpAny_bind (wpAny_bind (m := Builtin.Tuple.tupleExact _) (wpAny_newObj_type (wpAny_pure ⟨_, rfl, wpAny_pure h⟩) htake))
end
section
variable {X : Cx}
theorem pe_revA {e : Expr} {te : TE} {k : Nat} {p1 p2 p3 pos : Pos} (he : PE X e te) : PE X (.Subscript e (.Slice none none (some (.UnaryOp .USub (.Constant (.int 1) k p1) p2)) p3) pos) (tRevA X.K te) := by
  refine ⟨fun pins s σ H Q I h => ?_⟩
  refine Subscript_ (thn (he.run pins s σ H _ I h) fun v s1 ⟨x, H1, I1, r1, q1⟩ => ?_)
  have hst : PO X (some (.UnaryOp .USub (.Constant (.int 1) k p1) p2)) (tPart (tUn (rU fun i => .int (-i)) (tC (.int 1)))) := po_some (pe_un un_neg pe_int)
  refine wpAny_Slice (thn (po_none.run pins s1 σ H1 (fun o H2 => o = none ∧ H2 = H1) I1 ⟨rfl, rfl⟩) fun vl s2 ⟨l, H2, I2, pl, el, e2⟩ => ?_)
  subst el e2
  refine thn (po_none.run pins s2 σ H2 (fun o H3 => o = none ∧ H3 = H2) I2 ⟨rfl, rfl⟩) fun vu s3 ⟨u, H3, I3, pu, eu, e3⟩ => ?_
  subst eu e3
  refine thn (hst.run pins s3 σ H3 (fun o H4 => o = some (-1) ∧ H4 = H3) I3 ⟨1, rfl, -1, rfl, rfl, rfl⟩) fun vs s4 ⟨o, H4, I4, ps, eo, e4⟩ => ?_
  subst eo e4
  have I5 : Inv X pins σ H4 { s4 with heap := s4.heap.push { cls := .type "slice", data := .fields #[vl, vu, vs] } } := I4.kept (t' := s4.toks) fun b ob q => Heap.get?_push_of_some _ q
  rcases q1 with ⟨a, xs, ex, hx, q⟩ | ⟨a, xs, ex, hx, q⟩
  · subst ex
    cases r1
    obtain ⟨its, r, ht, hz⟩ := I5.list hx
    have hlen := r.length
    show wpAny (model X.prog X.w) X.A (subscriptTail e (.Slice none none (some (.UnaryOp .USub (.Constant (.int 1) k p1) p2)) p3) (.ref a) (.ref s4.heap.objs.size)) (EP X pins σ Q) X.xe { s4 with heap := s4.heap.push { cls := .type "slice", data := .fields #[vl, vu, vs] } }
    refine tail_any (ops := [.ref a, .ref s4.heap.objs.size]) ht.isList.typeIs (PySem.slot_list_getitem.lookup) ?_ (by with_unfolding_all rfl)
    refine wpAny_getItem_list_slice ht.isList (Heap.IsSliceOf.new _ vl vu vs) pl pu ps (by decide) ?_ (by rw [List.size_toArray]; omega)
    rw [PySem.W.krv_pick]
    refine ⟨.ref _, _, I5.laid (t' := s4.toks) (o := .lst xs.reverse) (fun b ob q => Heap.get?_push_of_some _ q) (Nat.le_refl _) ?_, rfl, q _ (I5.hok.fresh (Nat.le_refl _))⟩
    exact ⟨by rw [List.length_reverse]; exact hz, _, 0, r.reverse, Heap.get?_push_size _ rfl⟩
  · subst ex
    cases r1
    obtain ⟨its, r, ht, hz⟩ := I5.tuple hx
    have hlen := r.length
    show wpAny (model X.prog X.w) X.A (subscriptTail e (.Slice none none (some (.UnaryOp .USub (.Constant (.int 1) k p1) p2)) p3) (.ref a) (.ref s4.heap.objs.size)) (EP X pins σ Q) X.xe { s4 with heap := s4.heap.push { cls := .type "slice", data := .fields #[vl, vu, vs] } }
    refine tail_any (ops := [.ref a, .ref s4.heap.objs.size]) ht.typeIs (PyProof.Rows.slot_tuple_getitem.lookup) ?_ (by with_unfolding_all rfl)
    refine getItem_tuple_rev ht (Heap.IsSliceOf.new _ vl vu vs) pl pu ps ?_ (by rw [List.size_toArray]; omega)
    refine ⟨.ref _, _, I5.laid (t' := s4.toks) (o := .tup xs.reverse) (fun b ob q => Heap.get?_push_of_some _ q) (Nat.le_refl _) ?_, rfl, q _ (I5.hok.fresh (Nat.le_refl _))⟩
    exact ⟨by rw [List.length_reverse]; exact hz, _, r.reverse, _, Heap.get?_push_size _ rfl, rfl, 0, rfl⟩
theorem PE.weaken {e : Expr} {t t' : TE} (h : PE X e t) (i : ∀ σ H Q, t' σ H Q → t σ H Q) : PE X e t' := ⟨fun pins s σ H Q I q => h.run pins s σ H Q I (i σ H Q q)⟩
/-- what is asked, made monotone -/
def tMono (t : TE) : TE := fun σ H Q => ∃ R : VK, t σ H R ∧ ∀ x H', R x H' → Q x H'
theorem PE.clos {e : Expr} {t : TE} (h : PE X e t) : PE X e (tMono t) := ⟨fun pins s σ H Q I ⟨R, q, i⟩ => thn (h.run pins s σ H R I q) fun v s1 ⟨x, H1, I1, r1, q1⟩ => ⟨x, H1, I1, r1, i x H1 q1⟩⟩
theorem insU_mem (x k : Int) : ∀ l : List Int, k ∈ insU x l ↔ k = x ∨ k ∈ l
  | [] => by simp [insU]
  | y :: r => by
    unfold insU
    by_cases h : x < y
    · rw [if_pos h]; simp
    · rw [if_neg h]
      by_cases h2 : x = y
      · rw [if_pos h2]; subst h2; simp
      · rw [if_neg h2, List.mem_cons, insU_mem x k r, List.mem_cons]
        constructor
        · rintro (a | a | a) <;> simp [a]
        · rintro (a | a | a) <;> simp [a]
theorem insU_asc (x : Int) : ∀ l : List Int, l.Pairwise (· < ·) → (insU x l).Pairwise (· < ·)
  | [], _ => List.pairwise_singleton _ _
  | y :: r, h => by
    unfold insU
    obtain ⟨h1, h2⟩ := List.pairwise_cons.mp h
    by_cases c : x < y
    · rw [if_pos c]
      refine List.pairwise_cons.mpr ⟨fun z hz => ?_, h⟩
      rcases List.mem_cons.mp hz with rfl | hz
      · exact c
      · have := h1 z hz; omega
    · rw [if_neg c]
      by_cases c2 : x = y
      · rw [if_pos c2]; exact h
      · rw [if_neg c2]
        refine List.pairwise_cons.mpr ⟨fun z hz => ?_, insU_asc x r h2⟩
        rcases (insU_mem x z r).mp hz with rfl | hz
        · omega
        · exact h1 z hz
theorem srtU_mem (k : Int) : ∀ l : List Int, k ∈ srtU l ↔ k ∈ l
  | [] => by simp [srtU]
  | x :: r => by
    show k ∈ insU x (srtU r) ↔ _
    rw [insU_mem, srtU_mem k r, List.mem_cons]
theorem srtU_asc : ∀ l : List Int, (srtU l).Pairwise (· < ·)
  | [] => List.Pairwise.nil
  | x :: r => insU_asc x _ (srtU_asc r)
theorem asc_same : ∀ {l m : List Int}, l.Pairwise (· < ·) → m.Pairwise (· < ·) → (∀ k, k ∈ l ↔ k ∈ m) → l = m
  | [], [], _, _, _ => rfl
  | [], y :: m, _, _, h => absurd ((h y).mpr List.mem_cons_self) (by simp)
  | x :: l, [], _, _, h => absurd ((h x).mp List.mem_cons_self) (by simp)
  | x :: l, y :: m, hl, hm, h => by
    obtain ⟨l1, l2⟩ := List.pairwise_cons.mp hl
    obtain ⟨m1, m2⟩ := List.pairwise_cons.mp hm
    have e : x = y := by
      rcases List.mem_cons.mp ((h x).mp List.mem_cons_self) with e | hx
      · exact e
      · rcases List.mem_cons.mp ((h y).mpr List.mem_cons_self) with e | hy
        · exact e.symm
        · have a := m1 x hx
          have b := l1 y hy
          omega
    subst e
    congr 1
    refine asc_same l2 m2 fun k => ⟨fun hk => ?_, fun hk => ?_⟩
    · rcases List.mem_cons.mp ((h k).mp (List.mem_cons_of_mem _ hk)) with e | q
      · have := l1 k hk; omega
      · exact q
    · rcases List.mem_cons.mp ((h k).mpr (List.mem_cons_of_mem _ hk)) with e | q
      · have := m1 k hk; omega
      · exact q
/-- set(t) -/
def rSetT (K : PySem.W.Frag) (w : World) : List V → Hp → VK → Prop := fun vs H Q => ∃ (p : Addr) (ns : List Int), vs = [V.ref p] ∧ SqT K H p (ns.map V.int) ∧ ns.length < 64 ∧
  ∀ (a : Addr) (c : Nat), c ≤ ns.length → H a = none → Q (.ref a) (upd H a (SetO w a (fun j => decide (j ∈ ns)) c))
theorem cr_setT (hc : X.calm = true) : CallR X (.type "set") (rSetT X.K X.w) := by
  intro pins s σ H vs us Q I r h
  obtain ⟨p, ns, rfl, hq, hl, q⟩ := h
  rw [Vals.ref1 r]
  obtain ⟨its, rv, pt, hz⟩ := I.tuple hq
  have hi : IntsAre its.toArray.toList ns := ints_of_vals rv
  refine call_set_tupI ns (I.ok.hd hc) (show s.heap.IsTuple p its.toArray from pt) hi (by unfold scanBound; omega) fun h' tk c R1 hcn k => ?_
  exact ⟨.ref s.heap.objs.size, upd H s.heap.objs.size (SetO X.w s.heap.objs.size (fun j => decide (j ∈ ns)) c), I.laid (t' := tk) k (Nat.le_refl _) (setO_new R1), rfl, q _ c hcn (I.hok.fresh (Nat.le_refl _))⟩
theorem pe_srs {e : Expr} {te : TE} {p1 p2 p3 pos : Pos} (hc : X.calm = true) (hg1 : Gl X "sorted") (hm1 : X.mg "sorted" = none) (hg2 : Gl X "set") (hm2 : X.mg "set" = none) (he : PE X e te) (hs : starEach [e] X.env = (false, eval e X.env) :: starEach [] X.env) :
    PE X (.Call (.Name "sorted" p1) [.Call (.Name "set" p2) [e] [] p3] [] pos) (tSrs X.K te) := by
  have h1 : PE X (.Call (.Name "set" p2) [e] [] p3) _ := pe_callTy (T := "set") (cr_setT hc) hg2 hm2 PyProof.Rows.boot_set (pa_cons (PE.clos he) pa_nil hs) (by decide) (by decide) hs rfl
  have h2 := pe_callB (id := "sorted") (p := p1) (pos := pos) (cr_sortedSet hc) hg1 hm1 (by decide +kernel) (pa_cons h1 pa_nil rfl) (by decide) (by decide) rfl rfl
  refine PE.weaken h2 fun σ H Q q => ?_
  refine ⟨_, q, fun x H1 hx => ?_⟩
  obtain ⟨a, ns, rfl, hq, hl, hn⟩ := hx
  refine ⟨a, ns, rfl, hq, hl, fun p c hcl hp => ⟨p, _, c, rfl, upd_same, by omega, fun ns' q hs hm hl' hn' => ?_⟩⟩
  have e : ns' = srtU ns := asc_same hs (srtU_asc ns) fun k => by rw [hm k, srtU_mem, decide_eq_true_eq]
  subst e
  exact hn p _ q hp hn'
end
end Z
end
section
set_option Elab.async false
set_option linter.all false
set_option autoImplicit false
set_option maxHeartbeats 4000000
/-! code that passes the check asks what the text asks: all expressions -/
namespace Z
open PySem L2

section
variable {cc : Cc} {k : Nat} {φ : Phi}

theorem units65 {X : Cx} {sc : Scope} (hc : Ctx X cc sc k φ) : X.A.units + 65 < cLine := by
  have := hc.room.un
  omega
theorem not_ck {P : Prop} (h : false = true) : P := (Bool.false_ne_true h).elim
abbrev Ok (X : Cx) (φ : Phi) (c : Ex) (e : Expr) : Prop := PE X e (rdP X.K φ c).1 ∧ PT X e (rdP X.K φ c).2
theorem ok_comp {X : Cx} {sc : Scope} {own : List Nat} {g : Tg} {wi : TI} {tt : TT} {te : TE} {elt tg iter : Expr} {ifs : List Expr} {scope : Scope} {pos : Pos} (hc : Ctx X cc sc k φ) (ho : own = (ownOf cc.N scope).map (·.2)) (hb : blkC cc.N sc scope (ownOf cc.N scope) = true)
    (hg : ckTg cc scope sc g tg = true) (hi : PI X tg iter wi) (hs : ∀ x, foldedSetIterable iter X.env x = pure x)
    (ht : ∀ (Y : Cx), Y.K = X.K → Ctx Y cc (relS scope sc) k φ → PTs Y ifs tt) (he : ∀ (Y : Cx), Y.K = X.K → Ctx Y cc (relS scope sc) k φ → PE Y elt te) :
    PE X (.ListComp elt [⟨tg, iter, ifs, 0⟩] scope pos) (tLc wi (rdG X.K g) tt te own) := by
  subst ho
  refine pe_lc (own := ownOf cc.N scope) hc.calm (by rw [hc.nN]; exact hc.nd) hi (by rw [hc.nN, hc.sc]; exact blkOk_by hb) (fun s H C cl fp => ?_) (fun s H C cl fp => ht _ rfl (hc.blk s H scope C cl fp)) (fun s H C cl fp => he _ rfl (hc.blk s H scope C cl fp)) hs
  have hb' := hc.blk s H scope C cl fp
  cases g with
  | nm i =>
    cases tg with
    | Name x p => exact set_of (sc := sc) (scope := scope) hb'.nN hb'.nd hb'.sc rfl hg
    | _ => exact not_ck hg
  | tp is =>
    cases tg with
    | Tuple es n p =>
      obtain ⟨h1, h2⟩ := sets_of (Y := X.blk s H scope (compEnvC scope cl C X.env) fp) (sc := sc) (scope := scope) hb'.nN hb'.nd hb'.sc rfl is es hg
      exact pg_tup hc.calm h1 (asg_len es _ h2) (asg_star is es hg _)
    | _ => exact not_ck hg
mutual
theorem ckE_ok (X : Cx) (sc : Scope) (hc : Ctx X cc sc k φ) : ∀ (c : Ex) (e : Expr), ckE cc c sc e = true → Ok X φ c e
  | .var i, e, h => by
    cases e with
    | Name x p => exact pt_plain (slot_of hc h) fun _ => rfl
    | _ => exact not_ck h
  | .con i, e, h => by
    cases e with
    | Name x p =>
      obtain ⟨h1, h2, h3⟩ := and3 h
      obtain ⟨p1, _, _⟩ := plain_of h3
      obtain ⟨t, ht⟩ := hc.con x i (of_decide_eq_true h2)
      exact pt_plain (pe_glob (gl_of hc h1) ht ⟨t, rfl⟩ p1) fun _ => rfl
    | _ => exact not_ck h
  | .non, e, h => by
    cases e with
    | Constant v q p =>
      cases v with
      | none => exact pt_plain pe_non fun _ => rfl
      | _ => exact not_ck h
    | _ => exact not_ck h
  | .bl b, e, h => by
    cases e with
    | Constant v q p =>
      cases v with
      | bool c =>
        cases eq_of_beq (show (b == c) = true from h)
        exact pt_plain pe_bl fun _ => rfl
      | _ => exact not_ck h
    | _ => exact not_ck h
  | .int b, e, h => by
    cases e with
    | Constant v q p =>
      cases v with
      | int c =>
        cases of_decide_eq_true (show decide (b = c) = true from h)
        exact pt_plain pe_int fun _ => rfl
      | _ => exact not_ck h
    | _ => exact not_ck h
  | .str b, e, h => by
    cases e with
    | Constant v q p =>
      cases v with
      | str c =>
        cases of_decide_eq_true (show decide (b = c) = true from h)
        exact pt_plain pe_str fun _ => rfl
      | _ => exact not_ck h
    | _ => exact not_ck h
  | .bin op a b, e, h => by
    cases e with
    | BinOp ea o eb p =>
      obtain ⟨h1, h2, h3⟩ := and3 h
      cases of_decide_eq_true h1
      exact pt_plain (pe_op (op_bin op) (ckE_ok X sc hc a ea h2).1 (ckE_ok X sc hc b eb h3).1) fun _ => rfl
    | _ => exact not_ck h
  | .un op a, e, h => by
    cases e with
    | UnaryOp o ea p =>
      obtain ⟨h1, h2, h3⟩ := and3 h
      cases of_decide_eq_true h1
      have hp : PE X (.UnaryOp op ea p) (tUn (rUnF op) (rdP X.K φ a).1) := pe_un (un_op op) (ckE_ok X sc hc a ea h3).1
      refine pt_plain hp fun _ => ?_
      cases op with
      | Not => exact not_ck h2
      | _ => rfl
    | _ => exact not_ck h
  | .cmp op a b, e, h => by
    cases e with
    | Compare ea os es p =>
      rcases os with _ | ⟨o, _ | ⟨o2, os⟩⟩
      · exact not_ck h
      · rcases es with _ | ⟨eb, _ | ⟨e2, es⟩⟩
        · exact not_ck h
        · have h' : (decide (op = o) && !behindInMarks op eb && ckE cc a sc ea && ckE cc b sc eb) = true := h
          obtain ⟨h12, h3, h4⟩ := and3 h'
          obtain ⟨h1, h2⟩ := and2 h12
          cases of_decide_eq_true h1
          have hm : behindInMarks op eb = false := by simpa using h2
          have ha := (ckE_ok X sc hc a ea h3).1
          have hb := (ckE_ok X sc hc b eb h4).1
          exact ⟨pe_cmpR (op_cmp (units65 hc) op) ha hb hm, pt_cmpR (op_cmp (units65 hc) op) ha hb hm⟩
        · exact not_ck h
      · exact not_ck h
    | _ => exact not_ck h
  | .chn o1 o2 a b c, e, h => by
    cases e with
    | Compare ea os es p =>
      rcases os with _ | ⟨q1, _ | ⟨q2, _ | ⟨q3, os⟩⟩⟩
      · exact not_ck h
      · exact not_ck h
      · rcases es with _ | ⟨eb, _ | ⟨ec, _ | ⟨e3, es⟩⟩⟩
        · exact not_ck h
        · exact not_ck h
        · have h' : (decide (o1 = q1) && decide (o2 = q2) && !lastMarks [q1, q2] [eb, ec] && ckE cc a sc ea && ckE cc b sc eb && ckE cc c sc ec) = true := h
          obtain ⟨h14, h5, h6⟩ := and3 h'
          obtain ⟨h12, h3, h4⟩ := and3 h14
          obtain ⟨h1, h2⟩ := and2 h12
          cases of_decide_eq_true h1
          cases of_decide_eq_true h2
          have hm : lastMarks [o1, o2] [eb, ec] = false := by simpa using h3
          have ha := (ckE_ok X sc hc a ea h4).1
          have hb := (ckE_ok X sc hc b eb h5).1
          have hcc := (ckE_ok X sc hc c ec h6).1
          exact ⟨pe_chain (op_cmp (units65 hc) o1) (op_cmp (units65 hc) o2) ha hb hcc hm, pt_chain (op_cmp (units65 hc) o1) (op_cmp (units65 hc) o2) ha hb hcc hm⟩
        · exact not_ck h
      · exact not_ck h
    | _ => exact not_ck h
  | .and a b, e, h => by
    cases e with
    | BoolOp op vs p =>
      cases op with
      | And =>
        rcases vs with _ | ⟨ea, _ | ⟨eb, _ | ⟨z, zs⟩⟩⟩
        · exact not_ck h
        · exact not_ck h
        · obtain ⟨h1, h2⟩ := and2 (show (ckE cc a sc ea && ckE cc b sc eb) = true from h)
          have ha := ckE_ok X sc hc a ea h1
          have hb := ckE_ok X sc hc b eb h2
          exact ⟨pe_andT ha.1 (pe_one hb.1), (pw_and ha.2 (pw_and1 hb.2)).pt⟩
        · obtain ⟨h1, h2⟩ := and2 (show (ckE cc a sc ea && ckE cc b sc (.BoolOp .And (eb :: z :: zs) p)) = true from h)
          have ha := ckE_ok X sc hc a ea h1
          have hb := ckE_ok X sc hc b _ h2
          exact ⟨pe_andT ha.1 hb.1, (pw_and ha.2 (pw_bool hb.2)).pt⟩
      | Or => exact not_ck h
    | _ => exact not_ck h
  | .or a b, e, h => by
    cases e with
    | BoolOp op vs p =>
      cases op with
      | Or =>
        rcases vs with _ | ⟨ea, _ | ⟨eb, _ | ⟨z, zs⟩⟩⟩
        · exact not_ck h
        · exact not_ck h
        · obtain ⟨h1, h2⟩ := and2 (show (ckE cc a sc ea && ckE cc b sc eb) = true from h)
          have ha := ckE_ok X sc hc a ea h1
          have hb := ckE_ok X sc hc b eb h2
          exact ⟨pe_orT ha.1 (pe_one hb.1), (pw_or ha.2 (pw_or1 hb.2)).pt⟩
        · obtain ⟨h1, h2⟩ := and2 (show (ckE cc a sc ea && ckE cc b sc (.BoolOp .Or (eb :: z :: zs) p)) = true from h)
          have ha := ckE_ok X sc hc a ea h1
          have hb := ckE_ok X sc hc b _ h2
          exact ⟨pe_orT ha.1 hb.1, (pw_or ha.2 (pw_bool hb.2)).pt⟩
      | And => exact not_ck h
    | _ => exact not_ck h
  | .not a, e, h => by
    cases e with
    | UnaryOp o ea p =>
      cases o with
      | Not =>
        have ha := ckE_ok X sc hc a ea h
        exact ⟨pe_notT ha.1, pt_not ha.2⟩
      | _ => exact not_ck h
    | _ => exact not_ck h
  | .ite c a b, e, h => by
    cases e with
    | IfExp ec ea eb p =>
      obtain ⟨h1, h2, h3⟩ := and3 h
      have hcc := ckE_ok X sc hc c ec h1
      have ha := ckE_ok X sc hc a ea h2
      have hb := ckE_ok X sc hc b eb h3
      exact ⟨pe_ifExp hcc.2 ha.1 hb.1, pt_ite hcc.2 ha.2 hb.2⟩
    | _ => exact not_ck h
  | .tup es, e, h => by
    cases e with
    | Tuple xs q p => exact pt_plain (pe_tup (ckS_ok X sc hc es xs h)) fun _ => rfl
    | _ => exact not_ck h
  | .lst es, e, h => by
    cases e with
    | List xs p => exact pt_plain (pe_lst (ckS_ok X sc hc es xs h)) fun _ => rfl
    | _ => exact not_ck h
  | .ix a b, e, h => by
    cases e with
    | Subscript ea eb p =>
      have h' : (notSlB eb && ckE cc a sc ea && ckE cc b sc eb) = true := h
      obtain ⟨h1, h2, h3⟩ := and3 h'
      exact pt_plain (pe_ix (IxR.or ix_list ix_tup) (ckE_ok X sc hc a ea h2).1 (ckE_ok X sc hc b eb h3).1 (notSl_plain h1)) fun _ => rfl
    | _ => exact not_ck h
  | .dix a b, e, h => by
    cases e with
    | Subscript ea eb p =>
      have h' : (notSlB eb && ckE cc a sc ea && ckE cc b sc eb) = true := h
      obtain ⟨h1, h2, h3⟩ := and3 h'
      exact pt_plain (pe_dget (by have := units65 hc; omega) (ckE_ok X sc hc a ea h2).1 (ckE_ok X sc hc b eb h3).1 (notSl_plain h1)) fun _ => rfl
    | _ => exact not_ck h
  | .sl a lo hi, e, h => by
    cases e with
    | Subscript ea es p =>
      cases es with
      | Slice l u st q =>
        cases st with
        | none =>
          have h' : (ckE cc a sc ea && ckO cc lo sc l && ckO cc hi sc u) = true := h
          obtain ⟨h1, h2, h3⟩ := and3 h'
          exact pt_plain (pe_slice (SlR.or sl_list sl_tupA) (ckE_ok X sc hc a ea h1).1 (ckO_ok X sc hc lo l h2) (ckO_ok X sc hc hi u h3)) fun _ => rfl
        | some z => exact not_ck h
      | _ => exact not_ck h
    | _ => exact not_ck h
  | .rev a, e, h => by
    revert h
    show (match e with
      | .Subscript ea (.Slice none none (some (.UnaryOp .USub (.Constant (.int 1) _ _) _)) _) _ => ckE cc a sc ea
      | _ => false) = true → _
    split
    · intro h
      exact pt_plain (pe_revA (ckE_ok X sc hc a _ h).1) fun _ => rfl
    · exact fun h => not_ck h
  | .rg1 t a, e, h => by
    revert h
    show (match e with
      | .Call (.Name x _) [.Call (.Name y _) [ea] [] _] [] _ => decide (x = if t = true then ("tuple" : Str) else "list") && glB sc x && decide (y = ("range" : Str)) && glB sc y && ckE cc a sc ea
      | _ => false) = true → _
    split
    · intro h
      obtain ⟨h13, h4, h5⟩ := and3 h
      obtain ⟨h1, h2, h3⟩ := and3 h13
      cases of_decide_eq_true h3
      have g1 := gl_of hc h2
      have g2 := gl_of hc h4
      have st := ck_star a _ h5 [] X.env
      have rg := fun p pos => prg_1 (X := X) (pos := pos) (p := p) g2 (hc.blt _ (by decide +kernel)) (ckE_ok X sc hc a _ h5).1 st
      cases t with
      | true =>
        cases of_decide_eq_true h1
        exact pt_plain (pe_tupRg hc.calm g1 (hc.blt _ (by decide +kernel)) (rg _ _) rfl) fun _ => rfl
      | false =>
        cases of_decide_eq_true h1
        exact pt_plain (pe_listRg hc.calm g1 (hc.blt _ (by decide +kernel)) (rg _ _) rfl) fun _ => rfl
    · exact fun h => not_ck h
  | .rg2 t a b, e, h => by
    revert h
    show (match e with
      | .Call (.Name x _) [.Call (.Name y _) [ea, eb] [] _] [] _ => decide (x = if t = true then ("tuple" : Str) else "list") && glB sc x && decide (y = ("range" : Str)) && glB sc y && ckE cc a sc ea && ckE cc b sc eb
      | _ => false) = true → _
    split
    · intro h
      obtain ⟨h14, h5, h6⟩ := and3 h
      obtain ⟨h12, h3, h4⟩ := and3 h14
      obtain ⟨h1, h2⟩ := and2 h12
      rename_i x0 q1 y0 q2 ea eb q3 q4
      cases of_decide_eq_true h3
      have g1 := gl_of hc h2
      have g2 := gl_of hc h4
      have st := ck_star a ea h5 [eb] X.env
      have st2 := ck_star b _ h6 [] X.env
      have rg := fun p pos => prg_2 (X := X) (pos := pos) (p := p) g2 (hc.blt _ (by decide +kernel)) (ckE_ok X sc hc a _ h5).1 (ckE_ok X sc hc b _ h6).1 st st2 (by rw [st2]; rfl)
      cases t with
      | true =>
        cases of_decide_eq_true h1
        exact pt_plain (pe_tupRg hc.calm g1 (hc.blt _ (by decide +kernel)) (rg _ _) rfl) fun _ => rfl
      | false =>
        cases of_decide_eq_true h1
        exact pt_plain (pe_listRg hc.calm g1 (hc.blt _ (by decide +kernel)) (rg _ _) rfl) fun _ => rfl
    · exact fun h => not_ck h
  | .srs a, e, h => by
    revert h
    show (match e with
      | .Call (.Name x _) [.Call (.Name y _) [ea] [] _] [] _ => decide (x = ("sorted" : Str)) && glB sc x && decide (y = ("set" : Str)) && glB sc y && ckE cc a sc ea
      | _ => false) = true → _
    split
    · intro h
      obtain ⟨h13, h4, h5⟩ := and3 h
      obtain ⟨h1, h2, h3⟩ := and3 h13
      cases of_decide_eq_true h1
      cases of_decide_eq_true h3
      exact pt_plain (pe_srs hc.calm (gl_of hc h2) (hc.blt _ (by decide +kernel)) (gl_of hc h4) (hc.blt _ (by decide +kernel)) (ckE_ok X sc hc a _ h5).1 (ck_star a _ h5 [] X.env)) fun _ => rfl
    · exact fun h => not_ck h
  | .call f es, e, h => by
    cases e with
    | Call g args kws p =>
      cases g with
      | Name x q =>
        cases kws with
        | nil =>
          have h' : (decide (f = x) && glB sc x && plainB x && cc.fns.contains x && ckS cc es sc args) = true := h
          obtain ⟨h13, h4, h5⟩ := and3 h'
          obtain ⟨h1, h2, h3⟩ := and3 h13
          cases of_decide_eq_true h1
          obtain ⟨p1, _, _⟩ := plain_of h3
          obtain ⟨a, fd, ps, F, hm, hk, hb⟩ := (hc.fn f (by simpa using h4)).ex
          refine pt_plain ?_ fun _ => rfl
          cases es with
          | nil =>
            cases args with
            | nil => exact pe_call0 (dvs := []) (ds := []) F hc.room (gl_of hc h2) hm hk hb .nil pass0 p1
            | cons e1 r => exact not_ck h5
          | cons c cs =>
            cases args with
            | nil => exact not_ck h5
            | cons e1 r =>
              have h5' : (ckE cc c sc e1 && ckS cc cs sc r) = true := h5
              obtain ⟨h6, h7⟩ := and2 h5'
              exact pe_call (dvs := []) (ds := []) F hc.room (gl_of hc h2) hm hk hb .nil pass0 (ckS_ok X sc hc (.cons c cs) (e1 :: r) h5) p1 (ck_star c e1 h6 r X.env) (ck_any cs r h7 p X.env)
        | cons _ _ => exact not_ck h
      | _ => exact not_ck h
    | _ => exact not_ck h
  | .blt b es, e, h => by
    cases e with
    | Call g args kws p =>
      cases g with
      | Name x q =>
        cases kws with
        | nil =>
          cases args with
          | nil => exact not_ck h
          | cons e1 r =>
            have h' : (decide (x = b.nm) && glB sc x && ckS cc es sc (e1 :: r)) = true := h
            obtain ⟨h1, h2, h3⟩ := and3 h'
            cases es with
            | nil => exact not_ck h3
            | cons c cs =>
              have h5' : (ckE cc c sc e1 && ckS cc cs sc r) = true := h3
              obtain ⟨h6, h7⟩ := and2 h5'
              exact pt_plain (pe_blt hc (of_decide_eq_true h1) (gl_of hc h2) (ckS_ok X sc hc (.cons c cs) (e1 :: r) h3) (ck_star c e1 h6 r X.env) (ck_any cs r h7 p X.env)) fun _ => rfl
        | cons _ _ => cases args <;> exact not_ck h
      | _ => exact not_ck h
    | _ => exact not_ck h
  | .met m o es, e, h => by
    cases e with
    | Call g args kws p =>
      cases g with
      | Attribute eo x ap =>
        cases kws with
        | nil =>
          have h' : (decide (x = m.nm) && recB eo && (ap.endLine == p.line) && ckE cc o sc eo && ckS cc es sc args && metN m args) = true := h
          obtain ⟨h14, h5, h6⟩ := and3 h'
          obtain ⟨h12, h3, h4⟩ := and3 h14
          obtain ⟨h1, h2⟩ := and2 h12
          cases of_decide_eq_true h1
          have ho := (ckE_ok X sc hc o eo h4).1
          have hs := ckS_ok X sc hc es args h5
          have hbase : attributeBase eo m.nm X.env (eval eo X.env) = eval eo X.env := rec_base h2
          cases m with
          | append =>
            rcases args with _ | ⟨e1, _ | ⟨e2, r⟩⟩
            · exact not_ck h6
            · cases es with
              | nil => exact not_ck h5
              | cons c cs =>
                have h5' : (ckE cc c sc e1 && ckS cc cs sc []) = true := h5
                have st := ck_star c e1 (and2 h5').1 [] X.env
                exact pt_plain (pe_bm PySem.F.plainAttrs_list PySem.F.slot_list_append PySem.F.type_list_append mt_append ho hs hbase (few_one st) h3 st rfl) fun _ => rfl
            · exact not_ck h6
          | popAt =>
            rcases args with _ | ⟨e1, _ | ⟨e2, r⟩⟩
            · exact not_ck h6
            · cases es with
              | nil => exact not_ck h5
              | cons c cs =>
                have h5' : (ckE cc c sc e1 && ckS cc cs sc []) = true := h5
                have st := ck_star c e1 (and2 h5').1 [] X.env
                exact pt_plain (pe_bm PySem.F.plainAttrs_list PySem.F.slot_list_pop PySem.F.type_list_pop mt_popAt ho hs hbase (few_one st) h3 st rfl) fun _ => rfl
            · exact not_ck h6
          | pop =>
            rcases args with _ | ⟨e1, r⟩
            · exact pt_plain (pe_bm0 PySem.F.plainAttrs_list PySem.F.slot_list_pop PySem.F.type_list_pop mt_pop ho hbase h3) fun _ => rfl
            · exact not_ck h6
          | bits =>
            rcases args with _ | ⟨e1, r⟩
            · exact pt_plain (pe_bits ho hbase h3) fun _ => rfl
            · exact not_ck h6
        | cons _ _ => exact not_ck h
      | _ => exact not_ck h
    | _ => exact not_ck h
  | .isi a kk, e, h => by
    cases e with
    | Call g args kws p =>
      cases g with
      | Name x q =>
        cases kws with
        | nil =>
          rcases args with _ | ⟨ea, _ | ⟨et, _ | ⟨e3, r⟩⟩⟩
          · exact not_ck h
          · exact not_ck h
          · cases et with
            | Name t tp =>
              have h' : (decide (x = ("isinstance" : Str)) && glB sc x && decide (t = kk.nm) && glB sc t && ckE cc a sc ea) = true := h
              obtain ⟨h13, h4, h5⟩ := and3 h'
              obtain ⟨h1, h2, h3⟩ := and3 h13
              cases of_decide_eq_true h1
              cases of_decide_eq_true h3
              have st := ck_star a ea h5 [.Name kk.nm tp] X.env
              have hg2 := gl_of hc h4
              have hm2 : X.mg kk.nm = none := hc.blt _ (by cases kk <;> decide +kernel)
              have pt : PE X (.Name kk.nm tp) (tC (.ty kk.n)) := by
                cases kk with
                | int => exact pe_bltn hg2 hm2 (u := .type "int") (by decide +kernel) rfl (by decide) (by decide)
                | bool => exact pe_bltn hg2 hm2 (u := .type "bool") (by decide +kernel) rfl (by decide) (by decide)
                | tuple => exact pe_bltn hg2 hm2 (u := .type "tuple") (by decide +kernel) rfl (by decide) (by decide)
                | list => exact pe_bltn hg2 hm2 (u := .type "list") (by decide +kernel) rfl (by decide) (by decide)
                | str => exact pe_bltn hg2 hm2 (u := .type "str") (by decide +kernel) rfl (by decide) (by decide)
              exact pt_plain (pe_callB (id := "isinstance") call_isi (gl_of hc h2) (hc.blt _ (by decide +kernel)) (by decide +kernel) (pa_cons (ckE_ok X sc hc a ea h5).1 (pa_cons pt pa_nil rfl) st) (by decide) (by decide) st rfl) fun _ => rfl
            | _ => exact not_ck h
          · cases et <;> exact not_ck h
        | cons _ _ =>
          rcases args with _ | ⟨ea, _ | ⟨et, _ | ⟨e3, r⟩⟩⟩
          · exact not_ck h
          · exact not_ck h
          · cases et <;> exact not_ck h
          · cases et <;> exact not_ck h
      | _ => exact not_ck h
    | _ => exact not_ck h
  | .dic, e, h => by
    cases e with
    | Dict ks vs p =>
      rcases ks with _ | ⟨a, ks⟩
      · rcases vs with _ | ⟨b, vs⟩
        · exact pt_plain pe_dnewK fun _ => rfl
        · exact not_ck h
      · exact not_ck h
    | _ => exact not_ck h
  | .dgt o kx v, e, h => by
    cases e with
    | Call g args kws p =>
      cases g with
      | Attribute eo x ap =>
        rcases args with _ | ⟨e1, _ | ⟨e2, _ | ⟨e3, r⟩⟩⟩
        · exact not_ck h
        · exact not_ck h
        · cases kws with
          | nil =>
            have h' : (decide (x = ("get" : Str)) && recB eo && (ap.endLine == p.line) && ckE cc o sc eo && ckE cc kx sc e1 && ckE cc v sc e2) = true := h
            obtain ⟨h14, h5, h6⟩ := and3 h'
            obtain ⟨h12, h3, h4⟩ := and3 h14
            obtain ⟨h1, h2⟩ := and2 h12
            cases of_decide_eq_true h1
            have st1 := ck_star kx e1 h5 [e2] X.env
            have st2 := ck_star v e2 h6 [] X.env
            exact pt_plain (pe_dget2 (by have := units65 hc; omega) (ckE_ok X sc hc o eo h4).1 (ckE_ok X sc hc kx e1 h5).1 (ckE_ok X sc hc v e2 h6).1 ⟨rec_base h2, few_two st1 st2, h3, by rw [st1, st2]; rfl⟩) fun _ => rfl
          | cons _ _ => exact not_ck h
        · exact not_ck h
      | _ => exact not_ck h
    | _ => exact not_ck h
  | .lc own g it c e0, e, h => by
    revert h
    show (match e with
      | .ListComp elt [⟨tg, iter, ifs, 0⟩] scope _ => decide (own = (ownOf cc.N scope).map (·.2)) && blkC cc.N sc scope (ownOf cc.N scope) && ckTg cc scope sc g tg && ckI cc it sc iter && ckC cc c (relS scope sc) ifs && ckE cc e0 (relS scope sc) elt
      | _ => false) = true → _
    split
    · intro h
      rename_i elt tg iter ifs scope p
      obtain ⟨h14, h5, h6⟩ := and3 h
      obtain ⟨h12, h3, h4⟩ := and3 h14
      obtain ⟨h1, h2⟩ := and2 h12
      refine pt_plain (ok_comp hc (of_decide_eq_true h1) h2 h3 (ckI_ok X sc hc it tg iter h4) (ckI_set it iter h4 X.env) (fun Y eK hY => ?_) (fun Y eK hY => ?_)) fun _ => rfl
      · have := ckC_ok Y (relS scope sc) hY c ifs h5
        rw [eK] at this
        exact this
      · have := (ckE_ok Y (relS scope sc) hY e0 elt h6).1
        rw [eK] at this
        exact this
    · exact fun h => not_ck h
  | .lck own i o c e0, e, h => by
    revert h
    show (match e with
      | .ListComp elt [⟨.Name x _, .Name y _, ifs, 0⟩] scope _ => decide (own = (ownOf cc.N scope).map (·.2)) && blkC cc.N sc scope (ownOf cc.N scope) && setB cc scope sc i x && slotB cc sc o y && ckC cc c (relS scope sc) ifs && ckE cc e0 (relS scope sc) elt
      | _ => false) = true → _
    split
    · intro h
      rename_i elt x p1 y p2 ifs scope p
      obtain ⟨h14, h5, h6⟩ := and3 h
      obtain ⟨h12, h3, h4⟩ := and3 h14
      obtain ⟨h1, h2⟩ := and2 h12
      refine pt_plain (pe_lock (ok_comp (g := .nm i) hc (of_decide_eq_true h1) h2 h3 (pi_keys (slot_of hc h4)) (fun _ => rfl) (fun Y eK hY => ?_) (fun Y eK hY => ?_))) fun _ => rfl
      · have := ckC_ok Y (relS scope sc) hY c ifs h5
        rw [eK] at this
        exact this
      · have := (ckE_ok Y (relS scope sc) hY e0 elt h6).1
        rw [eK] at this
        exact this
    · exact fun h => not_ck h
theorem ckS_ok (X : Cx) (sc : Scope) (hc : Ctx X cc sc k φ) : ∀ (cs : Es) (es : List Expr), ckS cc cs sc es = true → PA X es (rdA X.K φ cs)
  | .nil, es, h => by
    cases es with
    | nil => exact pa_nil
    | cons e r => exact not_ck h
  | .cons c cs, es, h => by
    cases es with
    | nil => exact not_ck h
    | cons e r =>
      obtain ⟨h1, h2⟩ := and2 (show (ckE cc c sc e && ckS cc cs sc r) = true from h)
      exact pa_cons (ckE_ok X sc hc c e h1).1 (ckS_ok X sc hc cs r h2) (ck_star c e h1 r X.env)
theorem ckO_ok (X : Cx) (sc : Scope) (hc : Ctx X cc sc k φ) : ∀ (c : Ox) (o : Option Expr), ckO cc c sc o = true → PO X o (rdO X.K φ c).1
  | .no, o, h => by
    cases o with
    | none => exact po_none
    | some e => exact not_ck h
  | .yes c, o, h => by
    cases o with
    | none => exact not_ck h
    | some e => exact po_some (ckE_ok X sc hc c e h).1
theorem ckC_ok (X : Cx) (sc : Scope) (hc : Ctx X cc sc k φ) : ∀ (c : Ox) (o : List Expr), ckC cc c sc o = true → PTs X o (rdO X.K φ c).2
  | .no, o, h => by
    cases o with
    | nil => exact pts_nil
    | cons e r => exact not_ck h
  | .yes c, o, h => by
    rcases o with _ | ⟨e, _ | ⟨e2, r⟩⟩
    · exact not_ck h
    · exact pts_one (ckE_ok X sc hc c e h).2
    · exact not_ck h
theorem ckI_ok (X : Cx) (sc : Scope) (hc : Ctx X cc sc k φ) : ∀ (c : It) (tg e : Expr), ckI cc c sc e = true → PI X tg e (rdI X.K φ c)
  | .ex c, tg, e, h => by
    have he := (ckE_ok X sc hc c e h).1
    exact pi_or (pi_list he) (pi_tup he)
  | .rng1 a, tg, e, h => by
    cases e with
    | Call g args kws p =>
      cases g with
      | Name x q =>
        rcases args with _ | ⟨ea, _ | ⟨e2, r⟩⟩
        · exact not_ck h
        · cases kws with
          | nil =>
            obtain ⟨h1, h2, h3⟩ := and3 (show (decide (x = ("range" : Str)) && glB sc x && ckE cc a sc ea) = true from h)
            cases of_decide_eq_true h1
            have st := ck_star a ea h3 [] X.env
            exact pi_range1 (gl_of hc h2) (hc.blt _ (by decide +kernel)) (pa_cons (ckE_ok X sc hc a ea h3).1 pa_nil st) st
          | cons _ _ => exact not_ck h
        · exact not_ck h
      | _ => exact not_ck h
    | _ => exact not_ck h
  | .rng2 a b, tg, e, h => by
    cases e with
    | Call g args kws p =>
      cases g with
      | Name x q =>
        rcases args with _ | ⟨ea, _ | ⟨eb, _ | ⟨e3, r⟩⟩⟩
        · exact not_ck h
        · exact not_ck h
        · cases kws with
          | nil =>
            obtain ⟨h12, h3, h4⟩ := and3 (show (decide (x = ("range" : Str)) && glB sc x && ckE cc a sc ea && ckE cc b sc eb) = true from h)
            obtain ⟨h1, h2⟩ := and2 h12
            cases of_decide_eq_true h1
            have st := ck_star a ea h3 [eb] X.env
            have st2 := ck_star b eb h4 [] X.env
            exact pi_range2 (gl_of hc h2) (hc.blt _ (by decide +kernel)) (pa_cons (ckE_ok X sc hc a ea h3).1 (pa_cons (ckE_ok X sc hc b eb h4).1 pa_nil st2) st) (by rw [st, st2]; rfl) st2
          | cons _ _ => exact not_ck h
        · exact not_ck h
      | _ => exact not_ck h
    | _ => exact not_ck h
end
end
end Z
end
section
set_option Elab.async false
set_option linter.all false
set_option autoImplicit false
set_option maxHeartbeats 4000000
/-! statements: the check, and what it is good for -/
namespace Z
open PySem L2

def locB (sc : Scope) (x : Str) : Bool := match sc.names.lookup x with
  | some .local => true
  | _ => false
def setF (cc : Cc) (sc : Scope) (i : Nat) (x : Str) : Bool := decide (cc.N[i]? = some x) && (match sc.names.lookup x with
  | some .local => true
  | some .cell => true
  | _ => false)
def setFs (cc : Cc) (sc : Scope) : List Nat → List Expr → Bool
  | [], [] => true
  | i :: is, .Name x _ :: es => setF cc sc i x && setFs cc sc is es
  | _, _ => false
def setFT (cc : Cc) (sc : Scope) : Tg → Expr → Bool
  | .nm i, .Name x _ => setF cc sc i x
  | .tp is, .Tuple es _ _ => setFs cc sc is es
  | _, _ => false
def swB (sc : Scope) (t : Str) (p : Pos) : Expr → Bool
  | .ListComp _ _ scope q => locB sc t && (p.line == q.line) && !(scope.names.any fun (n, k) => n == t && (k == .local || k == .cell))
  | _ => false
def noComp : Expr → Bool
  | .ListComp _ _ _ _ => false
  | .SetComp _ _ _ _ => false
  | .DictComp _ _ _ _ _ => false
  | _ => true
def parB (sc : Scope) (x : Str) (px : Pos) (y : Str) (py : Pos) (a b : Expr) : Bool := locB sc x && locB sc y && (py.line == px.line) && !(decide (x = y)) && !([a, b].all (foldedForSure 8)) && !([a, b].all (constantsAlone 8))
def notLoc (sc : Scope) : Expr → Bool
  | .Name x _ => !locB sc x
  | _ => true
def unpB (sc : Scope) (ts : List Expr) : Expr → Bool
  | .Tuple vs _ _ => vs.all (foldedForSure 8) || ts.any (notLoc sc)
  | _ => true
mutual
def ck1 (cc : Cc) (sc : Scope) : Sm → Stmt → Bool
  | .set i e, st => (match st with
    | .Assign [.Name x _] ev _ => setF cc sc i x && ckE cc e sc ev
    | _ => false)
  | .par i j a b, st => (match st with
    | .Assign [.Tuple [.Name x px, .Name y py] _ _] (.Tuple [ea, eb] _ _) _ => decide (cc.N[i]? = some x) && decide (cc.N[j]? = some y) && parB sc x px y py ea eb && ckE cc a sc ea && ckE cc b sc eb
    | _ => false)
  | .unp is e, st => (match st with
    | .Assign [.Tuple es _ _] ev _ => setFs cc sc is es && unpB sc es ev && ckE cc e sc ev
    | _ => false)
  | .six o i e, st => (match st with
    | .Assign [.Subscript eo ei _] ev _ => notSlB ei && ckE cc o sc eo && ckE cc i sc ei && ckE cc e sc ev
    | _ => false)
  | .dst o i e, st => (match st with
    | .Assign [.Subscript eo ei _] ev _ => notSlB ei && ckE cc o sc eo && ckE cc i sc ei && ckE cc e sc ev
    | _ => false)
  | .aug i op e, st => (match st with
    | .AugAssign (.Name x _) o ev _ => decide (op = o) && setF cc sc i x && ckE cc e sc ev
    | _ => false)
  | .expr e, st => (match st with
    | .Expr ev _ => noComp ev && ckE cc e sc ev
    | _ => false)
  | .ifs c a b, st => (match st with
    | .If ec ea eb _ => ckE cc c sc ec && cks cc sc a ea && cks cc sc b eb
    | _ => false)
  | .for g it b, st => (match st with
    | .For tg iter eb [] _ => setFT cc sc g tg && ckI cc it sc iter && cks cc sc b eb
    | _ => false)
  | .while c b, st => (match st with
    | .While ec eb [] _ => ckE cc c sc ec && cks cc sc b eb
    | _ => false)
  | .ret e, st => (match st with
    | .Return (some ev) _ => ckE cc e sc ev
    | _ => false)
  | .retN, st => (match st with
    | .Return none _ => true
    | _ => false)
  | .brk, st => (match st with
    | .Break _ => true
    | _ => false)
  | .cnt, st => (match st with
    | .Continue _ => true
    | _ => false)
  | .pass, st => (match st with
    | .Pass _ => true
    | .Expr (.Constant (.str _) _ _) _ => true
    | _ => false)
  | .fail, st => true
termination_by structural x => x
def cks (cc : Cc) (sc : Scope) : Ss → List Stmt → Bool
  | .nil, sts => (match sts with
    | [] => true
    | _ => false)
  | .cons s ss, sts => (match sts with
    | st :: r => ck1 cc sc s st && cks cc sc ss r
    | [] => false)
termination_by structural x => x
end

structure FCtx (X : Cx) (cc : Cc) (sc0 : Scope) (k : Nat) (φ : Phi) : Prop extends Ctx X cc sc0 k φ where
  kind : sc0.kind = .function
  fnT : ∀ x, X.fn x = true
  own : PassesOwn (model X.prog X.w) X.A X.env X.xe

section
variable {X : Cx} {cc : Cc} {sc : Scope} {k : Nat} {φ : Phi}

theorem loc_of {x : Str} (h : locB sc x = true) : sc.names.lookup x = some .local := by
  unfold locB at h
  cases q : sc.names.lookup x with
  | none => rw [q] at h; cases h
  | some kd =>
    rw [q] at h
    cases kd with
    | «local» => rfl
    | cell => cases h
    | free => cases h
    | globalExplicit => cases h
    | globalImplicit => cases h
theorem setF_of {i : Nat} {x : Str} (h : setF cc sc i x = true) : cc.N[i]? = some x ∧ (sc.names.lookup x = some .local ∨ sc.names.lookup x = some .cell) := by
  unfold setF at h
  rw [Bool.and_eq_true] at h
  refine ⟨of_decide_eq_true h.1, ?_⟩
  have h2 := h.2
  cases q : sc.names.lookup x with
  | none => rw [q] at h2; cases h2
  | some kd =>
    rw [q] at h2
    cases kd with
    | «local» => exact .inl rfl
    | cell => exact .inr rfl
    | free => cases h2
    | globalExplicit => cases h2
    | globalImplicit => cases h2
theorem pg_setF {i : Nat} {x : Str} {pos : Pos} (hc : FCtx X cc sc k φ) (h : setF cc sc i x = true) : PG X (.Name x pos) (gName i) := by
  obtain ⟨h1, h2⟩ := setF_of h
  exact pg_name (by rw [hc.nN]; exact hc.nd) (by rw [hc.nN]; exact h1) (by rw [hc.sc]; exact h2) (.inl (hc.fnT x))
theorem pgs_setF (hc : FCtx X cc sc k φ) : ∀ (is : List Nat) (es : List Expr), setFs cc sc is es = true →
    PGs X es (is.foldr (fun i t => gCons (gName i) t) gNil) ∧ is.length = es.length ∧ (assignEach es X.env).findIdx? (·.1) = none
  | [], [], _ => ⟨pgs_nil, rfl, rfl⟩
  | [], _ :: _, h => (Bool.false_ne_true h).elim
  | _ :: _, [], h => (Bool.false_ne_true h).elim
  | i :: is, e :: es, h => by
    cases e with
    | Name x p =>
      obtain ⟨h1, h2⟩ := and2 (show (setF cc sc i x && setFs cc sc is es) = true from h)
      obtain ⟨q1, q2, q3⟩ := pgs_setF hc is es h2
      refine ⟨pgs_cons (pg_setF hc h1) q1, by rw [List.length_cons, List.length_cons, q2], ?_⟩
      show ((false, assign (.Name x p) X.env) :: assignEach es X.env).findIdx? (·.1) = none
      rw [List.findIdx?_cons]
      simp [q3]
    | _ => exact (Bool.false_ne_true h).elim
theorem pg_setFT (hc : FCtx X cc sc k φ) {g : Tg} {tg : Expr} (h : setFT cc sc g tg = true) : PG X tg (rdG X.K g) := by
  cases g with
  | nm i =>
    cases tg with
    | Name x p => exact pg_setF hc h
    | _ => exact not_ck h
  | tp is =>
    cases tg with
    | Tuple es n p =>
      obtain ⟨q1, q2, q3⟩ := pgs_setF hc is es h
      exact pg_tup hc.calm q1 (asg_len es _ q2) q3
    | _ => exact not_ck h
theorem sw_lc {elt : Expr} {gs : List Comprehension} {scope : Scope} {q p : Pos} {t : Str} {l : Nat} {env : Env} (hk : sc.kind = .function) (hs : env.scope = sc) :
    swapsWith (.ListComp elt gs scope q) (some (.Name t p)) l env = pure (swB sc t p (.ListComp elt gs scope q)) := by
  subst hs
  have hb : env.blockKind = .function := by unfold Env.blockKind; rw [hk]; rfl
  have e : (env.kindOf t == some .local) = locB env.scope t := by
    show (env.scope.names.lookup t == some .local) = _
    unfold locB
    cases env.scope.names.lookup t with
    | none => rfl
    | some kd => cases kd <;> rfl
  show (pure (env.blockKind == .function && env.kindOf t == some .local && p.line == q.line && !(scope.names.any fun (n, k) => n == t && (k == .local || k == .cell))) : Sem Bool) = _
  rw [hb, e]
  rfl
theorem ck_sw {c : Ex} {e : Expr} {t : Str} {p : Pos} {l : Nat} {env : Env} (hk : sc.kind = .function) (hs : env.scope = sc) (h : ckE cc c sc e = true) (hw : swB sc t p e = false) : swapsWith e (some (.Name t p)) l env = pure false := by
  cases e with
  | ListComp elt gs scope q => rw [sw_lc hk hs, hw]
  | SetComp _ _ _ _ => cases c <;> exact (Bool.false_ne_true h).elim
  | DictComp _ _ _ _ _ => cases c <;> exact (Bool.false_ne_true h).elim
  | _ => rfl
theorem sw_none {e : Expr} {l : Nat} {env : Env} (h : noComp e = true) : swapsWith e none l env = pure false := by
  cases e with
  | ListComp _ _ _ _ => cases h
  | SetComp _ _ _ _ => cases h
  | DictComp _ _ _ _ _ => cases h
  | _ => rfl
theorem sw_other {e tg : Expr} {l : Nat} {env : Env} (h : ∀ x p, tg ≠ .Name x p) : swapsWith e (some tg) l env = pure false := by
  cases e with
  | ListComp _ _ _ _ => cases tg with
    | Name x p => exact (h x p rfl).elim
    | _ => rfl
  | SetComp _ _ _ _ => cases tg with
    | Name x p => exact (h x p rfl).elim
    | _ => rfl
  | DictComp _ _ _ _ _ => cases tg with
    | Name x p => exact (h x p rfl).elim
    | _ => rfl
  | _ => rfl
theorem star_no {a b : Expr} (sa : ∀ v p, a ≠ .Starred v p) (sb : ∀ v p, b ≠ .Starred v p) : ([a, b].any fun | .Starred .. => true | _ => false) = false := by
  cases a with
  | Starred v p => exact (sa v p rfl).elim
  | _ => cases b with
    | Starred v p => exact (sb v p rfl).elim
    | _ => rfl
theorem par_sw {x y : Str} {px py pt pt2 : Pos} {kt k2} {a b : Expr} {env : Env} (hk : sc.kind = .function) (hs : env.scope = sc) (h : parB sc x px y py a b = true) (sa : ∀ v p, a ≠ .Starred v p) (sb : ∀ v p, b ≠ .Starred v p) :
    swappedStores [.Tuple [.Name x px, .Name y py] kt pt] (.Tuple [a, b] k2 pt2) env = pure (some [x, y]) := by
  subst hs
  have hb : env.blockKind = .function := by unfold Env.blockKind; rw [hk]; rfl
  unfold parB at h
  obtain ⟨h14, h5, h6⟩ := and3 h
  obtain ⟨h12, h3, h4⟩ := and3 h14
  obtain ⟨h1, h2⟩ := and2 h12
  have k1 : env.kindOf x = some .local := loc_of h1
  have k2' : env.kindOf y = some .local := loc_of h2
  have h3' : (py.line == px.line) = true := h3
  have hxy : x ≠ y := by simpa using h4
  have f1 : ([a, b].all (foldedForSure 8)) = false := by simpa only [Bool.not_eq_true'] using h5
  have f2 : ([a, b].all (constantsAlone 8)) = false := by simpa only [Bool.not_eq_true'] using h6
  have st := star_no sa sb
  have ed : [x, y].eraseDups = [x, y] := by
    simp [List.eraseDups_cons, hxy, Ne.symm hxy]
  unfold swappedStores
  simp only [hb, st, f1, f2, k1, k2', List.filterMap_cons, List.filterMap_nil, List.head?_cons, Option.map_some, Option.getD_some, Expr.pos, h3', ed, beq_self_eq_true, Bool.and_true, Bool.true_and, List.length_cons, List.length_nil, Bool.or_true, Bool.true_or, Bool.not_true, if_true]
  simp
theorem unp_fold {es vs : List Expr} {n m : Nat} {p q : Pos} {env : Env} (h : vs.all (foldedForSure 8) = true) : swappedStores [.Tuple es n p] (.Tuple vs m q) env = pure none := by
  unfold swappedStores
  simp only [h, if_true]
  split
  · rfl
  · split
    · rfl
    · split <;> rfl
theorem fm_lt {α β : Type} {f : α → Option β} : ∀ {l : List α}, (∃ x, x ∈ l ∧ f x = none) → (l.filterMap f).length < l.length
  | [], ⟨x, h, _⟩ => by cases h
  | y :: l, ⟨x, h, e⟩ => by
    have le := List.length_filterMap_le f l
    rw [List.filterMap_cons]
    rcases List.mem_cons.mp h with q | h
    · subst q
      rw [e]
      exact Nat.lt_succ_of_le le
    · have ih := fm_lt (l := l) ⟨x, h, e⟩
      cases f y with
      | none => exact Nat.lt_succ_of_lt ih
      | some z => exact Nat.succ_lt_succ ih
theorem kind_ne {x : Str} {env : Env} (h : locB env.scope x = false) : (env.kindOf x == some .local) = false := by
  show (env.scope.names.lookup x == some .local) = false
  unfold locB at h
  cases q : env.scope.names.lookup x with
  | none => rfl
  | some kd =>
    rw [q] at h
    cases kd with
    | «local» => cases h
    | _ => rfl
theorem unp_cell {es vs : List Expr} {n m : Nat} {p q : Pos} {env : Env} (h : es.any (notLoc env.scope) = true) : swappedStores [.Tuple es n p] (.Tuple vs m q) env = pure none := by
  obtain ⟨t, ht, hl⟩ := List.any_eq_true.mp h
  unfold swappedStores
  simp only
  split
  · rfl
  · split
    · rfl
    · have hn : ∀ line : Nat, (es.filterMap fun
          | .Name id pos => if env.kindOf id == some .local && pos.line == line then some id else none
          | _ => none).length < es.length := fun line => fm_lt ⟨t, ht, by
        cases t with
        | Name x p =>
          have hx : locB env.scope x = false := by simpa [notLoc] using hl
          show (if (env.kindOf x == some .local && p.line == line) = true then some x else none) = none
          rw [kind_ne hx]
          rfl
        | _ => rfl⟩
      rw [if_pos]
      rw [Bool.or_eq_true]
      refine .inl ?_
      rw [bne_iff_ne]
      exact Nat.ne_of_lt (hn _)
theorem unp_sw {es : List Expr} {n : Nat} {p : Pos} {e : Expr} {env : Env} (hs : env.scope = sc) (h : unpB sc es e = true) : swappedStores [.Tuple es n p] e env = pure none := by
  cases e with
  | Tuple vs m q =>
    subst hs
    rcases Bool.or_eq_true_iff.mp (show (vs.all (foldedForSure 8) || es.any (notLoc env.scope)) = true from h) with h | h
    · exact unp_fold h
    · exact unp_cell h
  | _ => rfl
theorem asg_sub {o i : Expr} {pos : Pos} {env : Env} (h : notSlB i = true) : ∀ v, assign (.Subscript o i pos) env v = (do
      let ov ← holding [v] (eval o env)
      let iv ← holding [v, ov] (eval i env)
      standAt pos
      holding [v, ov, iv] (setItem ov iv v)
      release [v, ov, iv] []) := by
  intro v
  cases i with
  | Slice _ _ _ _ => cases h
  | _ => rfl
theorem ck_nostar {c : Ex} {e : Expr} (h : ckE cc c sc e = true) : ∀ v p, e ≠ .Starred v p := by
  intro v p q
  subst q
  cases c <;> exact Bool.false_ne_true h
theorem ok_setLc {own : List Nat} {g : Tg} {wi : TI} {tt : TT} {te : TE} {elt tg iter : Expr} {ifs : List Expr} {scope : Scope} {pos spos py : Pos} {i : Nat} {y : Str} (hc : FCtx X cc sc k φ) (hy : cc.N[i]? = some y)
    (hw : swB sc y py (.ListComp elt [⟨tg, iter, ifs, 0⟩] scope pos) = true) (ho : own = (ownOf cc.N scope).map (·.2)) (hb : blkC cc.N sc scope (ownOf cc.N scope) = true)
    (hg : ckTg cc scope sc g tg = true) (hi : PI X tg iter wi) (hs : ∀ x, foldedSetIterable iter X.env x = pure x)
    (ht : ∀ (Y : Cx), Y.K = X.K → Ctx Y cc (relS scope sc) k φ → PTs Y ifs tt) (he : ∀ (Y : Cx), Y.K = X.K → Ctx Y cc (relS scope sc) k φ → PE Y elt te) :
    PS X (.Assign [.Name y py] (.ListComp elt [⟨tg, iter, ifs, 0⟩] scope pos) spos) (tAsg (tLc wi (rdG X.K g) tt te own) (gName i)) := by
  subst ho
  have hw' : (locB sc y && (py.line == pos.line) && !(scope.names.any fun (n, k) => n == y && (k == .local || k == .cell))) = true := hw
  have hsw := sw_lc (elt := elt) (gs := [⟨tg, iter, ifs, 0⟩]) (scope := scope) (q := pos) (p := py) (t := y) (l := spos.line) hc.kind hc.sc
  rw [hw] at hsw
  refine ps_setLc (own := ownOf cc.N scope) hc.calm (by rw [hc.nN]; exact hc.nd) (by rw [hc.nN]; exact hy) (by rw [hc.sc]; exact loc_of (and3 hw').1) hsw hi (by rw [hc.nN, hc.sc]; exact blkOk_by hb) (fun s H C cl fp => ?_) (fun s H C cl fp => ht _ rfl (hc.toCtx.blk s H scope C cl fp)) (fun s H C cl fp => he _ rfl (hc.toCtx.blk s H scope C cl fp)) hs
  have hb' := hc.toCtx.blk s H scope C cl fp
  cases g with
  | nm i =>
    cases tg with
    | Name x p => exact set_of (sc := sc) (scope := scope) hb'.nN hb'.nd hb'.sc rfl hg
    | _ => exact not_ck hg
  | tp is =>
    cases tg with
    | Tuple es n p =>
      obtain ⟨h1, h2⟩ := sets_of (Y := X.blk s H scope (compEnvC scope cl C X.env) fp) (sc := sc) (scope := scope) hb'.nN hb'.nd hb'.sc rfl is es hg
      exact pg_tup hc.calm h1 (asg_len es _ h2) (asg_star is es hg _)
    | _ => exact not_ck hg
theorem ok_set (hc : FCtx X cc sc k φ) {c : Ex} {e : Expr} {i : Nat} {y : Str} {py spos : Pos} (hs : setF cc sc i y = true) (h : ckE cc c sc e = true) : PS X (.Assign [.Name y py] e spos) (tAsg (rdP X.K φ c).1 (gName i)) := by
  obtain ⟨h1, h2⟩ := setF_of hs
  cases hw : swB sc y py e with
  | false => exact ps_set (by rw [hc.nN]; exact hc.nd) (by rw [hc.nN]; exact h1) (by rw [hc.sc]; exact h2) (ckE_ok X sc hc.toCtx c e h).1 (ck_sw hc.kind hc.sc h hw) (.inl (hc.fnT y))
  | true =>
    cases c with
    | lc own g it c e0 =>
      revert hw
      revert h
      show (match e with
        | .ListComp elt [⟨tg, iter, ifs, 0⟩] scope _ => decide (own = (ownOf cc.N scope).map (·.2)) && blkC cc.N sc scope (ownOf cc.N scope) && ckTg cc scope sc g tg && ckI cc it sc iter && ckC cc c (relS scope sc) ifs && ckE cc e0 (relS scope sc) elt
        | _ => false) = true → _
      split
      · intro h hw
        rename_i elt tg iter ifs scope p
        obtain ⟨h14, h5, h6⟩ := and3 h
        obtain ⟨h12, h3, h4⟩ := and3 h14
        obtain ⟨h1', h2'⟩ := and2 h12
        refine ok_setLc hc h1 hw (of_decide_eq_true h1') h2' h3 (ckI_ok X sc hc.toCtx it tg iter h4) (ckI_set it iter h4 X.env) (fun Y eK hY => ?_) (fun Y eK hY => ?_)
        · have := ckC_ok Y (relS scope sc) hY c ifs h5
          rw [eK] at this
          exact this
        · have := (ckE_ok Y (relS scope sc) hY e0 elt h6).1
          rw [eK] at this
          exact this
      · exact fun h => not_ck h
    | lck own i0 o c e0 =>
      revert hw
      revert h
      show (match e with
        | .ListComp elt [⟨.Name x _, .Name y _, ifs, 0⟩] scope _ => decide (own = (ownOf cc.N scope).map (·.2)) && blkC cc.N sc scope (ownOf cc.N scope) && setB cc scope sc i0 x && slotB cc sc o y && ckC cc c (relS scope sc) ifs && ckE cc e0 (relS scope sc) elt
        | _ => false) = true → _
      split
      · intro h hw
        rename_i elt x p1 z p2 ifs scope p
        obtain ⟨h14, h5, h6⟩ := and3 h
        obtain ⟨h12, h3, h4⟩ := and3 h14
        obtain ⟨h1', h2'⟩ := and2 h12
        refine ps_lock (ok_setLc (g := .nm i0) hc h1 hw (of_decide_eq_true h1') h2' h3 (pi_keys (slot_of hc.toCtx h4)) (fun _ => rfl) (fun Y eK hY => ?_) (fun Y eK hY => ?_))
        · have := ckC_ok Y (relS scope sc) hY c ifs h5
          rw [eK] at this
          exact this
        · have := (ckE_ok Y (relS scope sc) hY e0 elt h6).1
          rw [eK] at this
          exact this
      · exact fun h => not_ck h
    | _ =>
      cases e with
      | ListComp _ _ _ _ => exact not_ck h
      | _ => cases hw
theorem op_aug (op : Operator) : PIp X op (rAug op) := by
  cases op with
  | Add => exact OpR.pip iop_add
  | Sub => exact OpR.pip iop_sub
  | BitAnd => exact OpR.pip iop_and
  | BitOr => exact OpR.pip iop_or
  | BitXor => exact OpR.pip iop_xor
  | _ => exact fun pins s σ H x y v u Q I rx ry q => q.elim
mutual
theorem ck1_ok (hc : FCtx X cc sc k φ) : ∀ (c : Sm) (st : Stmt), ck1 cc sc c st = true → PS X st (rd1 X.K φ c)
  | .set i e, st, h => by
    revert h
    show (match st with
      | .Assign [.Name x _] ev _ => setF cc sc i x && ckE cc e sc ev
      | _ => false) = true → _
    split
    · intro h
      obtain ⟨h1, h2⟩ := and2 h
      exact ok_set hc h1 h2
    · exact fun h => not_ck h
  | .par i j a b, st, h => by
    revert h
    show (match st with
      | .Assign [.Tuple [.Name x px, .Name y py] _ _] (.Tuple [ea, eb] _ _) _ => decide (cc.N[i]? = some x) && decide (cc.N[j]? = some y) && parB sc x px y py ea eb && ckE cc a sc ea && ckE cc b sc eb
      | _ => false) = true → _
    split
    · intro h
      rename_i x px y py kt pt ea eb k2 pt2 pos
      obtain ⟨h13, h4, h5⟩ := and3 h
      obtain ⟨h1, h2, h3⟩ := and3 h13
      have h1 := of_decide_eq_true h1
      have h2 := of_decide_eq_true h2
      obtain ⟨p14, p5, p6⟩ := and3 (show (locB sc x && locB sc y && (py.line == px.line) && !(decide (x = y)) && !([ea, eb].all (foldedForSure 8)) && !([ea, eb].all (constantsAlone 8))) = true from h3)
      obtain ⟨p12, p3, p4⟩ := and3 p14
      obtain ⟨p1, p2⟩ := and2 p12
      have hxy : x ≠ y := by simpa using p4
      have hij : i ≠ j := fun q => by
        subst q
        rw [h1] at h2
        exact hxy (Option.some.inj h2)
      have st1 := ck_star a ea h4 [eb] X.env
      have st2 := ck_star b eb h5 [] X.env
      exact ps_par hc.calm (by rw [hc.nN]; exact hc.nd) (by rw [hc.nN]; exact h1) (by rw [hc.nN]; exact h2) hij (by rw [hc.sc]; exact loc_of p1) (by rw [hc.sc]; exact loc_of p2)
        (pa_cons (ckE_ok X sc hc.toCtx a ea h4).1 (pa_cons (ckE_ok X sc hc.toCtx b eb h5).1 pa_nil st2) st1) (par_sw hc.kind hc.sc h3 (ck_nostar h4) (ck_nostar h5))
    · exact fun h => not_ck h
  | .unp is e, st, h => by
    revert h
    show (match st with
      | .Assign [.Tuple es _ _] ev _ => setFs cc sc is es && unpB sc es ev && ckE cc e sc ev
      | _ => false) = true → _
    split
    · intro h
      rename_i es n p ev pos
      obtain ⟨h1, h2, h3⟩ := and3 h
      have hsw : swapsWith ev (some (.Tuple es n p)) pos.line X.env = pure false := sw_other fun _ _ q => by cases q
      exact ps_asg (ckE_ok X sc hc.toCtx e ev h3).1 (pg_setFT (g := .tp is) hc h1) hsw (unp_sw hc.sc h2)
    · exact fun h => not_ck h
  | .six o i e, st, h => by
    revert h
    show (match st with
      | .Assign [.Subscript eo ei _] ev _ => notSlB ei && ckE cc o sc eo && ckE cc i sc ei && ckE cc e sc ev
      | _ => false) = true → _
    split
    · intro h
      rename_i eo ei p ev pos
      obtain ⟨h12, h3, h4⟩ := and3 h
      obtain ⟨h1, h2⟩ := and2 h12
      have hsw : swapsWith ev (some (.Subscript eo ei p)) pos.line X.env = pure false := sw_other fun _ _ q => by cases q
      exact ps_asg (ckE_ok X sc hc.toCtx e ev h4).1 (pg_sub (ckE_ok X sc hc.toCtx o eo h2).1 (ckE_ok X sc hc.toCtx i ei h3).1 set_list (asg_sub h1)) hsw
    · exact fun h => not_ck h
  | .dst o i e, st, h => by
    revert h
    show (match st with
      | .Assign [.Subscript eo ei _] ev _ => notSlB ei && ckE cc o sc eo && ckE cc i sc ei && ckE cc e sc ev
      | _ => false) = true → _
    split
    · intro h
      rename_i eo ei p ev pos
      obtain ⟨h12, h3, h4⟩ := and3 h
      obtain ⟨h1, h2⟩ := and2 h12
      exact ps_dput (by have := units65 hc.toCtx; omega) (ckE_ok X sc hc.toCtx o eo h2).1 (ckE_ok X sc hc.toCtx i ei h3).1 (ckE_ok X sc hc.toCtx e ev h4).1 (sw_other fun _ _ q => by cases q)
    · exact fun h => not_ck h
  | .aug i op e, st, h => by
    revert h
    show (match st with
      | .AugAssign (.Name x _) o ev _ => decide (op = o) && setF cc sc i x && ckE cc e sc ev
      | _ => false) = true → _
    split
    · intro h
      obtain ⟨h1, h2, h3⟩ := and3 h
      cases of_decide_eq_true h1
      obtain ⟨q1, q2⟩ := setF_of h2
      exact ps_aug (by rw [hc.nN]; exact hc.nd) (by rw [hc.nN]; exact q1) (by rw [hc.sc]; exact q2) (ckE_ok X sc hc.toCtx e _ h3).1 (op_aug op) (.inl (hc.fnT _))
    · exact fun h => not_ck h
  | .expr e, st, h => by
    revert h
    show (match st with
      | .Expr ev _ => noComp ev && ckE cc e sc ev
      | _ => false) = true → _
    split
    · intro h
      obtain ⟨h1, h2⟩ := and2 h
      exact ps_expr (ckE_ok X sc hc.toCtx e _ h2).1 (sw_none h1)
    · exact fun h => not_ck h
  | .ifs c a b, st, h => by
    revert h
    show (match st with
      | .If ec ea eb _ => ckE cc c sc ec && cks cc sc a ea && cks cc sc b eb
      | _ => false) = true → _
    split
    · intro h
      obtain ⟨h1, h2, h3⟩ := and3 h
      exact ps_if (ckE_ok X sc hc.toCtx c _ h1).2 (cks_ok hc a _ h2) (cks_ok hc b _ h3)
    · exact fun h => not_ck h
  | .for g it b, st, h => by
    revert h
    show (match st with
      | .For tg iter eb [] _ => setFT cc sc g tg && ckI cc it sc iter && cks cc sc b eb
      | _ => false) = true → _
    split
    · intro h
      obtain ⟨h1, h2, h3⟩ := and3 h
      exact ps_for hc.own hc.calm (ckI_ok X sc hc.toCtx it _ _ h2) (pg_setFT hc h1) (cks_ok hc b _ h3) (ckI_set it _ h2 X.env)
    · exact fun h => not_ck h
  | .while c b, st, h => by
    revert h
    show (match st with
      | .While ec eb [] _ => ckE cc c sc ec && cks cc sc b eb
      | _ => false) = true → _
    split
    · intro h
      obtain ⟨h1, h2⟩ := and2 h
      exact ps_while hc.own (ckE_ok X sc hc.toCtx c _ h1).2 (cks_ok hc b _ h2)
    · exact fun h => not_ck h
  | .ret e, st, h => by
    revert h
    show (match st with
      | .Return (some ev) _ => ckE cc e sc ev
      | _ => false) = true → _
    split
    · intro h
      exact ps_ret (ckE_ok X sc hc.toCtx e _ h).1
    · exact fun h => not_ck h
  | .retN, st, h => by
    revert h
    show (match st with
      | .Return none _ => true
      | _ => false) = true → _
    split
    · exact fun _ => ps_retN
    · exact fun h => not_ck h
  | .brk, st, h => by
    cases st with
    | Break p => exact ps_break
    | _ => exact not_ck h
  | .cnt, st, h => by
    cases st with
    | Continue p => exact ps_continue
    | _ => exact not_ck h
  | .pass, st, h => by
    revert h
    show (match st with
      | .Pass _ => true
      | .Expr (.Constant (.str _) _ _) _ => true
      | _ => false) = true → _
    split
    · exact fun _ => ps_pass
    · exact fun _ => ps_doc
    · exact fun h => not_ck h
  | .fail, st, h => ps_never
theorem cks_ok (hc : FCtx X cc sc k φ) : ∀ (c : Ss) (sts : List Stmt), cks cc sc c sts = true → PSs X sts (rds X.K φ c)
  | .nil, sts, h => by
    cases sts with
    | nil => exact pss_nil
    | cons _ _ => exact not_ck h
  | .cons c cs, sts, h => by
    cases sts with
    | nil => exact not_ck h
    | cons st r =>
      obtain ⟨h1, h2⟩ := and2 (show (ck1 cc sc c st && cks cc sc cs r) = true from h)
      exact pss_cons (ck1_ok hc c st h1) (cks_ok hc cs r h2)
end
end
end Z
end
section
set_option Elab.async false
set_option linter.all false
set_option autoImplicit false
set_option maxHeartbeats 4000000
/-! defs: each does what its text's run does -/
namespace Z
open PySem L2

/-- a def of the program: its row, its names, its code -/
structure Dr where
  name : Str
  N : List Str
  np : Nat
  params : Arguments
  body : List Stmt
  scope : Scope
  cd : Ss
def Dr.ps (r : Dr) : List Str := r.N.take r.np
def Dr.df (r : Dr) : Df := ⟨r.np, r.N.length, r.cd⟩
def txt (rs : List Dr) : Txt := rs.map fun r => (r.name, r.df)
def parOkB (sc : Scope) (x : Str) : Bool := match sc.names.lookup x with
  | some .local => true
  | some .cell => true
  | _ => false
def kindFn : ScopeKind → Bool
  | .function => true
  | _ => false
def notFree : NameKind → Bool
  | .free => false
  | _ => true
def okR (fns : List Str) (cons : List (Str × Int)) (r : Dr) : Bool :=
  kindFn r.scope.kind && !r.scope.isCoroutine && !r.scope.isGenerator && decide r.N.Nodup && decide (r.np ≤ r.N.length) && r.ps.all (parOkB r.scope) && r.scope.names.all (fun y => notFree y.2) && cks ⟨r.N, fns, cons⟩ r.scope r.cd r.body
def BindP (r : Dr) : Prop := ∀ (kV doc pm : Value) (an : Option Addr) (cdv ct : Value) (us : List Value), us.length = r.ps.length → bindArgs (PySem.W.fnOf r.name r.name r.params r.body r.scope .none kV doc pm an cdv ct) ⟨us, []⟩ = pure (r.ps.zip us)
structure Facts (K : PySem.W.Frag) (mg : Str → Option Value) (cons : List (Str × Int)) (rs : List Dr) : Prop where
  fn : ∀ r ∈ rs, ∃ (f : Addr) (fd : FuncData), FunD K r.name r.name r.params r.body r.scope [] [] f fd ∧ mg r.name = some (.ref f)
  blt : ∀ x ∈ bltNames, mg x = none
  con : ∀ x i, cons.lookup x = some i → ∃ t, mg x = some (.int i t)

theorem if_some {c : Prop} [Decidable c] {α : Type} {x : Option α} {r : α} (e : (if c then x else none) = some r) : c ∧ x = some r := by
  by_cases h : c
  · rw [if_pos h] at e
    exact ⟨h, e⟩
  · rw [if_neg h] at e
    cases e
theorem lookup_txt : ∀ {rs : List Dr} {r : Dr}, r ∈ rs → (rs.map (·.name)).Nodup → (txt rs).lookup r.name = some r.df
  | [], _, h, _ => by cases h
  | q :: rs, r, h, nd => by
    rw [List.map_cons, List.nodup_cons] at nd
    rcases List.mem_cons.mp h with e | h
    · subst e
      show List.lookup r.name ((r.name, r.df) :: txt rs) = _
      rw [List.lookup_cons]
      simp
    · have ne : r.name ≠ q.name := fun z => nd.1 (by rw [← z]; exact List.mem_map_of_mem h)
      show List.lookup r.name ((q.name, q.df) :: txt rs) = _
      rw [List.lookup_cons]
      have : (r.name == q.name) = false := by simpa using ne
      rw [this]
      exact lookup_txt h nd.2
theorem env_start {K : PySem.W.Frag} {β : Nat → Addr} {H : Hp} {n : Nat} {N : List Str} {ds : List D} {vs : List V} (r : Reps K β H ds vs) (c : clL n ds = true) :
    EnvR K β H n (ds.map some ++ List.replicate (N.length - ds.length) none) (L2.start N vs) := by
  have el := r.length
  unfold L2.start
  refine ⟨by simp [el], fun i d h => ?_⟩
  by_cases hi : i < ds.length
  · rw [List.getElem?_append_left (by simpa using hi), List.getElem?_map] at h
    cases q : ds[i]? with
    | none => rw [q] at h; cases h
    | some x =>
      rw [q] at h
      cases h
      obtain ⟨v, e1, r1⟩ := r.get q
      refine ⟨clL_mem c _ (List.mem_of_getElem? q), v, ?_, r1⟩
      rw [List.getElem?_append_left (by simpa [← el] using hi), List.getElem?_map, e1]
      rfl
  · rw [List.getElem?_append_right (by simpa using Nat.le_of_not_lt hi), List.getElem?_replicate] at h
    split at h <;> cases h

section
variable {P : Program} {w : World} {K : PySem.W.Frag} {mg : Str → Option Value} {base : Heap} {cons : List (Str × Int)} {rs : List Dr}

theorem okR_sc {fns : List Str} {r : Dr} (h : okR fns cons r = true) : FnScope r.N r.ps r.scope ∧ cks ⟨r.N, fns, cons⟩ r.scope r.cd r.body = true ∧ r.ps.length = r.np := by
  unfold okR at h
  obtain ⟨h16, h7, h8⟩ := and3 h
  obtain ⟨h14, h5, h6⟩ := and3 h16
  obtain ⟨h12, h3, h4⟩ := and3 h14
  obtain ⟨h1, h2⟩ := and2 h12
  have hp := of_decide_eq_true h5
  have hl : r.ps.length = r.np := by
    unfold Dr.ps
    rw [List.length_take]
    omega
  refine ⟨⟨?_, by simpa using h2, by simpa using h3, of_decide_eq_true h4, by rw [hl]; rfl, fun x hx => ?_, fun y hy q => ?_⟩, h8, hl⟩
  · revert h1
    cases r.scope.kind <;> first | exact fun _ => rfl | exact fun h => not_ck h
  · have := List.all_eq_true.mp h6 x hx
    unfold parOkB at this
    cases q : r.scope.names.lookup x with
    | none => rw [q] at this; cases this
    | some kd =>
      rw [q] at this
      cases kd with
      | «local» => exact .inl rfl
      | cell => exact .inr rfl
      | free => cases this
      | globalExplicit => cases this
      | globalImplicit => cases this
  · have := List.all_eq_true.mp h7 y hy
    rw [q] at this
    cases this
theorem ok_all (hn : (rs.map (·.name)).Nodup) (hb : ∀ r ∈ rs, BindP r) (hck : rs.all (okR (rs.map (·.name)) cons) = true) (F : Facts K mg cons rs) : ∀ (n : Nat) (r : Dr), r ∈ rs → ∀ (f : Addr) (fd : FuncData), FunD K r.name r.name r.params r.body r.scope [] [] f fd →
    FnOk P w K mg base CX0 n f fd r.ps (spOf K (run (txt rs) n r.name))
  | 0, r, hr, f, fd, FD => ⟨fun vs H Q E ⟨_, _, _, _, _, h, _⟩ => (by cases h), fun A outer s H args us vs Q E _ _ _ _ ⟨_, _, _, _, _, h, _⟩ => (by cases h)⟩
  | n + 1, r, hr, f, fd, FD => by
    have ih := ok_all hn hb hck F n
    obtain ⟨S, hc, hl⟩ := okR_sc (List.all_eq_true.mp hck r hr)
    have e1 : ∀ ds St, run (txt rs) (n + 1) r.name ds St = runD (run (txt rs) n) r.df ds St := fun ds St => by
      show (match (txt rs).lookup r.name with
        | some c => runD (run (txt rs) n) c ds St
        | none => none) = _
      rw [lookup_txt hr hn]
    refine FD.ok S (fun vs H Q E h => ?_) (fun cdv A outer s H vs Q E hroom h => ?_)
    · obtain ⟨β, St, ds, d, S', ev, sim, reps, cl, k⟩ := h
      rw [e1] at ev
      unfold runD at ev
      obtain ⟨c, _⟩ := if_some ev
      rw [← reps.length, hl]
      exact c
    · obtain ⟨β, St, ds, d, S', ev, sim, reps, cl, k⟩ := h
      rw [e1] at ev
      unfold runD at ev
      obtain ⟨c, ev⟩ := if_some ev
      let X : Cx := (cxOf CX0 P w K mg base r.N r.name r.scope f cdv A outer s H E).nox
      have hX : FCtx X ⟨r.N, rs.map (·.name), cons⟩ r.scope n (run (txt rs) n) :=
        { nN := rfl, nd := S.nd, sc := rfl, calm := rfl, room := hroom, blt := F.blt, con := F.con,
          fn := fun g hg => by
            obtain ⟨q, hq, rfl⟩ := List.mem_map.mp hg
            obtain ⟨a, fd', FD', m'⟩ := F.fn q hq
            exact ⟨a, fd', q.ps, ih q hq a fd' FD', m', FD'.kp, FD'.bindsN (hb q hq)⟩
          kind := S.kind, fnT := fun _ => rfl, own := PassesOwn.never }
      refine ⟨rds K (run (txt rs) n) r.cd, PSs.nox (cks_ok hX r.cd r.body hc), ?_⟩
      have all := ssAll X (run (txt rs) n) r.cd
      rcases q : exs (run (txt rs) n) St.length r.cd (ds.map some ++ List.replicate (r.N.length - ds.length) none) St with _ | ⟨fl, env', S2⟩
      · have q' : exs (run (txt rs) n) St.length r.df.body (ds.map some ++ List.replicate (r.df.nn - ds.length) none) St = none := q
        rw [q'] at ev
        cases ev
      · have q' : exs (run (txt rs) n) St.length r.df.body (ds.map some ++ List.replicate (r.df.nn - ds.length) none) St = some (fl, env', S2) := q
        rw [q'] at ev
        refine all St.length β _ St _ H _ fl env' S2 q sim (env_start reps cl) fun β' σ' H' g' s' r' => ?_
        cases fl with
        | nx => exact (k.fin ev sim Gr.refl) β' _ H' g' s' rfl rfl
        | ret d1 => exact fun v rv cv => (k.fin ev sim Gr.refl) β' v H' g' s' rv cv
        | bk => cases ev
        | ct => cases ev
end
end Z
end
section
set_option Elab.async false
set_option linter.all false
set_option autoImplicit false
set_option maxHeartbeats 4000000
/-! the head's facts; the law's def -/
namespace Z
open PySem L2

/-! ### facts over a part of the heap without lists -/
def noLst (o : Obj) : Bool := match o.cls with
  | .type n => !(decide (n = "list"))
  | _ => true
def frL (g : Addr → Option Obj) (as : List Addr) : PySem.W.Frag := (He.frG g as).filter fun q => noLst q.2
theorem frL_in {as : List Addr} {h : Heap} : (frL h.get? as).In h := fun _ _ e => He.frG_mem (List.mem_filter.mp (He.lookup_mem e)).1
theorem frL_no {g : Addr → Option Obj} {as : List Addr} {a : Addr} {o : Obj} (e : (frL g as).lookup a = some o) : noLst o = true := (List.mem_filter.mp (He.lookup_mem e)).2
def obsL (n : Nat) (fa : List He.Fa) (fn : List He.DefD) (g : Addr → Option Obj) : He.AlD := He.obsD fa fn (frL g (He.asD g n))
def hookL (n : Nat) (fa : List He.Fa) (fn : List He.DefD) : PySem.W.Hook where
  α := He.AlD
  obs := fun s => obsL n fa fn s.heap.get?
  val := fun _ => He.valD fn
  says := fun _ h => ∃ K : PySem.W.Frag, K.In h ∧ He.SaysD fa fn K ∧ ∀ a o, K.lookup a = some o → noLst o = true
  of := fun _ _ e => ⟨_, frL_in, e, fun _ _ => frL_no⟩
  keeps := fun _ _ _ ⟨K, hK, c⟩ k => ⟨K, PySem.W.Frag.In.keeps hK k, c⟩
theorem obsL_eq {n : Nat} {fa : List He.Fa} {fn : List He.DefD} {g : Addr → Option Obj} {s : Shared} (h : ∀ a, g a = s.heap.get? a) : obsL n fa fn g = (hookL n fa fn).obs s := by
  have e : g = s.heap.get? := funext h
  rw [e] <;> rfl

def toD (r : Dr) : He.DefD := ⟨(r.name, none), r.name, r.name, r.params, r.body, r.scope, [], []⟩
def faOf (rs : List Dr) (cons : List (Str × Int)) : List He.Fa := rs.map (fun r => .glo r.name) ++ (bltNames.map .free ++ cons.map fun p => .int p.1 p.2)
section
variable {K : PySem.W.Frag} {h : Heap} {mg : Str → Option Value} {cons : List (Str × Int)} {rs : List Dr}
theorem fact_mem {fa : List He.Fa} {fn : List He.DefD} {f : He.Fa} (c : He.SaysD fa fn K) (hf : f ∈ fa) : f.ok K = true := by
  obtain ⟨i, hi, e⟩ := List.mem_iff_getElem.mp hf
  exact c.fact i (f := f) (by rw [List.getElem?_eq_getElem hi, e])
theorem lookup_in {α : Type} {x : Str} {i : α} : ∀ {l : List (Str × α)}, l.lookup x = some i → (x, i) ∈ l
  | [], h => by cases h
  | (b, u) :: r, h => by
    rw [List.lookup_cons] at h
    cases q : (x == b) with
    | true =>
      rw [q] at h
      rw [eq_of_beq q]
      cases h
      exact List.mem_cons_self
    | false =>
      rw [q] at h
      exact List.mem_cons_of_mem _ (lookup_in h)
theorem facts_of (c : He.SaysD (faOf rs cons) (rs.map toD) K) (X : K.In h) (G : h.Ns mainGlobals mg) : Facts K mg cons rs where
  fn := fun r hr => by
    obtain ⟨fd, F⟩ := c.defs (d := toD r) (List.mem_map_of_mem hr)
    exact ⟨_, fd, F, He.glo_ok X G (fact_mem c (List.mem_append_left _ (List.mem_map.mpr ⟨r, hr, rfl⟩)))⟩
  blt := fun x hx => He.free_ok X G (fact_mem c (List.mem_append_right _ (List.mem_append_left _ (List.mem_map_of_mem hx))))
  con := fun x i hx => He.int_ok X G (fact_mem c (List.mem_append_right _ (List.mem_append_right _ (List.mem_map.mpr ⟨(x, i), lookup_in hx, rfl⟩))))
/-- what is asked of a law's def: for every script the run's answer is true -/
theorem law_sp (hno : ∀ a o, K.lookup a = some o → noLst o = true) {F : List D → Sto → Option (D × Sto)} {n : Nat} (hlaw : ∀ ns : List Int, ns.length ≤ n → ∃ S', F [.ref 0] [.fro (ns.map .int)] = some (.bl true, S'))
    (H : Hp) (a : Addr) (ns : List Int) (hl : ns.length ≤ n) (hO : Only H) (hS : SqL K H a (ns.map V.int)) : spOf K F [.ref a] H (fun v _ => v = .bl true) fun _ _ _ => False := by
  obtain ⟨S', e⟩ := hlaw ns hl
  have hf : ∃ o, H a = some (.frz o (.lst (ns.map V.int))) := by
    rcases hS with (h | ⟨o, h⟩) | ⟨o, its, m, hk, hc, _⟩
    · rcases hO a with q | ⟨o, xs, q⟩
      · rw [q] at h; cases h
      · rw [q] at h; cases h
    · exact ⟨o, h⟩
    · have := hno a o hk
      unfold noLst at this
      rw [hc] at this
      simp at this
  obtain ⟨o, hf⟩ := hf
  refine ⟨fun _ => a, [.fro (ns.map .int)], [.ref 0], .bl true, S', e, ⟨fun i oi ei => ?_, fun i oi ei => ?_, fun i j hi hj _ => ?_⟩, ⟨.ref a, [], rfl, rfl, rfl⟩, rfl, fun β' v H' _ _ r _ => r⟩
  · match i, ei with
    | 0, ei =>
      cases ei
      exact ⟨o, ns.map V.int, hf, reps_of_ints ns⟩
    | i + 1, ei => simp at ei
  · match i, ei with
    | 0, ei =>
      cases ei
      exact cl_ints ns
    | i + 1, ei => simp at ei
  · simp at hi hj
    omega
theorem law_fin {P : Program} {w : World} {fa : Addr} {r : Dr} {k n : Nat} (hn : (rs.map (·.name)).Nodup) (hb : ∀ r ∈ rs, BindP r) (hck : rs.all (okR (rs.map (·.name)) cons) = true) (hr : r ∈ rs) (hps : r.ps = [("script" : Str)])
    (hlaw : ∀ ns : List Int, ns.length ≤ n → ∃ S', run (txt rs) k r.name [.ref 0] [.fro (ns.map .int)] = some (.bl true, S'))
    (X : K.In h) (c : He.SaysD (faOf rs cons) (rs.map toD) K) (hno : ∀ a o, K.lookup a = some o → noLst o = true) (G : h.Ns mainGlobals mg) (hm : mg r.name = some (.ref fa)) :
    ∃ (K : PySem.W.Frag) (fd : FuncData) (sp : Sp), K.In h ∧ (∀ (s : Shared) (u : Value), BindsTo s fd ⟨[u], []⟩ [("script", u)]) ∧
      (∀ (H : Hp) (a : Addr) (ns : List Int), ns.length ≤ n → Only H → SqL K H a (ns.map V.int) → sp [.ref a] H (fun v _ => v = .bl true) fun _ _ _ => False) ∧
      ∀ base : Heap, K.In base → base.Ns mainGlobals mg → FnOk P w K mg base CX0 k fa fd [("script" : Str)] sp := by
  have F := facts_of c X G
  obtain ⟨f, fd, FD, hm2⟩ := F.fn r hr
  have e : f = fa := by
    have := hm2.symm.trans hm
    cases this
    rfl
  subst e
  refine ⟨K, fd, spOf K (run (txt rs) k r.name), X, fun s u => ?_, law_sp hno hlaw, fun base XB GB => ?_⟩
  · have b := FunD.bindsA (ps := r.ps) FD (hb r hr) s [u] (by rw [hps]; rfl)
    rw [hps] at b
    exact b
  · have := ok_all (P := P) (w := w) (base := base) hn hb hck F k r hr f fd FD
    rw [hps] at this
    exact this
end
end Z
end
section
set_option Elab.async false
set_option linter.all false
set_option autoImplicit false
set_option maxHeartbeats 4000000
/-! running a text, by rules -/
namespace Z
open PySem L2

theorem run_r {rs : List Dr} {r : Dr} (hr : r ∈ rs) (hn : (rs.map (·.name)).Nodup) (n : Nat) (vs : List D) (S : Sto) : run (txt rs) (n + 1) r.name vs S = runD (run (txt rs) n) r.df vs S := by
  show (match (txt rs).lookup r.name with
    | some c => runD (run (txt rs) n) c vs S
    | none => none) = _
  rw [lookup_txt hr hn]

/-! ### temporaries are dropped -/
theorem gc_none {n : Nat} : gc n none = none := rfl
theorem gc_cl {n : Nat} {d : D} {S : Sto} (h : d.cl n = true) : gc n (some (d, S)) = some (d, S.take n) := by
  unfold gc
  simp only
  rw [if_pos h]
theorem gc_self {d : D} {S : Sto} (h : d.cl S.length = true) : gc S.length (some (d, S)) = some (d, S) := by
  rw [gc_cl h, List.take_length]
theorem gc_app {d : D} {S t : Sto} (h : d.cl S.length = true) : gc S.length (some (d, S ++ t)) = some (d, S) := by
  rw [gc_cl h, List.take_left']
  rfl
theorem gc_new {S t : Sto} {o : SO} {k : Nat} (hk : k = t.length) (ho : o.cl S.length = true) : gc S.length (some (.ref (S.length + k), S ++ (t ++ [o]))) = some (.ref S.length, S ++ [o]) := by
  subst hk
  unfold gc
  simp only
  have h : D.cl S.length (.ref (S.length + t.length)) = false := decide_eq_false (by omega)
  rw [h, if_neg (by decide)]
  have e : (S ++ (t ++ [o]))[S.length + t.length]? = some o := by
    rw [List.getElem?_append_right (by omega)]
    rw [show S.length + t.length - S.length = t.length by omega]
    simp
  rw [e]
  simp only
  rw [if_pos ho, List.take_left']
  rfl
theorem gc_new0 {S : Sto} {o : SO} (ho : o.cl S.length = true) : gc S.length (some (.ref S.length, S ++ [o])) = some (.ref S.length, S ++ [o]) := gc_new (t := []) (k := 0) rfl ho
theorem cl_int {n : Nat} {i : Int} : D.cl n (.int i) = true := rfl
theorem cl_bl {n : Nat} {i : Bool} : D.cl n (.bl i) = true := rfl
theorem cl_non {n : Nat} : D.cl n .non = true := rfl
theorem cl_str {n : Nat} {i : Str} : D.cl n (.str i) = true := rfl
theorem gc_intS {i : Int} {S : Sto} : gc S.length (some (.int i, S)) = some (.int i, S) := gc_self rfl
theorem gc_blS {i : Bool} {S : Sto} : gc S.length (some (.bl i, S)) = some (.bl i, S) := gc_self rfl
theorem gc_intA {i : Int} {S t : Sto} : gc S.length (some (.int i, S ++ t)) = some (.int i, S) := gc_app rfl
theorem gc_blA {i : Bool} {S t : Sto} : gc S.length (some (.bl i, S ++ t)) = some (.bl i, S) := gc_app rfl
theorem gc_ints {ns : List Int} {S : Sto} : gc S.length (some (.tup (ns.map .int), S)) = some (.tup (ns.map .int), S) := gc_self (cl_ints ns)
theorem gc_intsA {ns : List Int} {S t : Sto} : gc S.length (some (.tup (ns.map .int), S ++ t)) = some (.tup (ns.map .int), S) := gc_app (cl_ints ns)

/-! ### rules, one a construct -/
section
variable {φ : Phi} {base : Nat} {env : Ev} {S : Sto} {a b c e o i : Ex} {es : Es}
theorem e_var {i : Nat} : evE φ base env (.var i) S = (getV env i).map fun d => (d, S) := by rw [evE]
theorem e_non : evE φ base env .non S = some (.non, S) := by rw [evE]
theorem e_bl {b : Bool} : evE φ base env (.bl b) S = some (.bl b, S) := by rw [evE]
theorem e_int {i : Int} : evE φ base env (.int i) S = some (.int i, S) := by rw [evE]
theorem e_con {i : Int} : evE φ base env (.con i) S = some (.int i, S) := by rw [evE]
theorem e_str {s : Str} : evE φ base env (.str s) S = some (.str s, S) := by rw [evE]
theorem e_bin {op : Operator} {x y : D} {S1 S2 : Sto} (h1 : evE φ S.length env a S = some (x, S1)) (h2 : evE φ S.length env b S1 = some (y, S2)) : evE φ base env (.bin op a b) S = gc S.length (binF op x y S2) := by
  rw [evE, h1]
  simp only [h2]
theorem e_cmp {op : CmpOp} {x y : D} {S1 S2 : Sto} (h1 : evE φ S.length env a S = some (x, S1)) (h2 : evE φ S.length env b S1 = some (y, S2)) : evE φ base env (.cmp op a b) S = gc S.length ((cmpF op x y S2).map fun z => (.bl z, S2)) := by
  rw [evE, h1]
  simp only [h2]
theorem e_call {f : Str} {vs : List D} {S1 : Sto} (h : evS φ S.length env es S = some (vs, S1)) : evE φ base env (.call f es) S = gc S.length (φ f vs S1) := by
  rw [evE, h]
theorem e_blt {b : Bl} {vs : List D} {S1 : Sto} (h : evS φ S.length env es S = some (vs, S1)) : evE φ base env (.blt b es) S = gc S.length (bltF b vs S1) := by
  rw [evE, h]
/-- a comprehension's turn -/
def lcS (φ : Phi) (base : Nat) (env : Ev) (own : List Nat) (g : Tg) (c : Ox) (e : Ex) : D → Sto → Option (Option D × Sto) := fun d S2 => match tgF g (wipeE env own) d with
  | some env2 => (match evO φ base env2 c S2 with
    | some (t, S3) => (match t with
      | none => (match evE φ base env2 e S3 with
        | some (y, S4) => some (some y, S4)
        | none => none)
      | some t => (match truF S3 t with
        | some true => (match evE φ base env2 e S3 with
          | some (y, S4) => some (some y, S4)
          | none => none)
        | some false => some (none, S3)
        | none => none))
    | none => none)
  | none => none
theorem e_lc {own : List Nat} {g : Tg} {it : It} {c : Ox} {xs ys : List D} {h : Option Nat} {S1 S2 : Sto} (hg : tgIn own g = true) (h1 : evI φ S.length env it S = some (xs, h, S1))
    (h2 : lcF (lcS φ S.length env own g c e) (fun S2 => still S2 h xs) xs [] S1 = some (ys, S2)) : evE φ base env (.lc own g it c e) S = gc S.length (new S2 (.lst ys)) := by
  rw [evE, if_pos hg, h1]
  show gc S.length (match lcF (lcS φ S.length env own g c e) (fun S2 => still S2 h xs) xs [] S1 with
    | some (ys, S2) => new S2 (.lst ys)
    | none => none) = _
  rw [h2]
/-- a for's turn -/
def frS (φ : Phi) (base : Nat) (g : Tg) (b : Ss) : D → Ev → Sto → Rs := fun d env1 S2 => match tgF g env1 d with
  | some env2 => exs φ base b env2 S2
  | none => none
theorem x_for {g : Tg} {it : It} {b : Ss} {xs : List D} {h : Option Nat} {S1 : Sto} (h1 : evI φ base env it S = some (xs, h, S1)) : ex1 φ base (.for g it b) env S = forF (frS φ base g b) (fun S2 => still S2 h xs) xs env S1 := by
  rw [ex1, h1]
  rfl
end
section
variable {φ : Phi} {base n : Nat} {env env1 : Ev} {S S1 : Sto} {e : Ex} {es : Es} {s : Sm} {ss : Ss} {x v d : D} {c : Df} {vs : List D}
theorem xs_nil : exs φ base .nil env S = some (.nx, env, S) := by rw [exs]
theorem xs_nx (h : ex1 φ base s env S = some (.nx, env1, S1)) : exs φ base (.cons s ss) env S = exs φ base ss env1 S1 := by
  rw [exs, h]
theorem xs_ret (h : ex1 φ base s env S = some (.ret v, env1, S1)) : exs φ base (.cons s ss) env S = some (.ret v, env1, S1) := by
  rw [exs, h]
theorem x_ret (h : evE φ base env e S = some (x, S1)) : ex1 φ base (.ret e) env S = some (.ret x, env, S1) := by
  rw [ex1, h]
theorem x_set {i : Nat} (h : evE φ base env e S = some (x, S1)) : ex1 φ base (.set i e) env S = some (.nx, env.set i (some x), S1) := by
  rw [ex1, h]
theorem x_expr (h : evE φ base env e S = some (x, S1)) : ex1 φ base (.expr e) env S = some (.nx, env, S1) := by
  rw [ex1, h]
theorem x_if {a b : Ss} {k : Bool} (h : evT φ base env e S = some (k, S1)) : ex1 φ base (.ifs e a b) env S = exs φ base (if k = true then a else b) env S1 := by
  rw [ex1, h]
  cases k <;> rfl
/-- a def's call ends with a value -/
theorem run_ret (hn : vs.length = c.np) (h : exs φ S.length c.body (vs.map some ++ List.replicate (c.nn - vs.length) none) S = some (.ret d, env1, S1)) : runD φ c vs S = gc S.length (some (d, S1)) := by
  unfold runD
  rw [if_pos hn, h]
theorem run_end (hn : vs.length = c.np) (h : exs φ S.length c.body (vs.map some ++ List.replicate (c.nn - vs.length) none) S = some (.nx, env1, S1)) : runD φ c vs S = gc S.length (some (.non, S1)) := by
  unfold runD
  rw [if_pos hn, h]
end
/-! ### loops, turn by turn -/
section
variable {step : D → Ev → Sto → Rs} {ok : Sto → Bool} {d : D} {ds : List D} {env env1 : Ev} {S S1 : Sto} {v : D}
theorem for_nil (h : ok S = true) : forF step ok [] env S = some (.nx, env, S) := by
  unfold forF
  rw [if_pos h]
theorem for_nx (h : ok S = true) (e : step d env S = some (.nx, env1, S1)) : forF step ok (d :: ds) env S = forF step ok ds env1 S1 := by
  rw [forF, if_pos h, e]
theorem for_ct (h : ok S = true) (e : step d env S = some (.ct, env1, S1)) : forF step ok (d :: ds) env S = forF step ok ds env1 S1 := by
  rw [forF, if_pos h, e]
theorem for_bk (h : ok S = true) (e : step d env S = some (.bk, env1, S1)) : forF step ok (d :: ds) env S = some (.nx, env1, S1) := by
  rw [forF, if_pos h, e]
theorem for_ret (h : ok S = true) (e : step d env S = some (.ret v, env1, S1)) : forF step ok (d :: ds) env S = some (.ret v, env1, S1) := by
  rw [forF, if_pos h, e]
end
section
variable {step : D → Sto → Option (Option D × Sto)} {ok : Sto → Bool} {d y : D} {ds acc : List D} {S S1 : Sto}
theorem lc_nil (h : ok S = true) : lcF step ok [] acc S = some (acc, S) := by
  unfold lcF
  rw [if_pos h]
theorem lc_put (h : ok S = true) (hl : acc.length < lim) (e : step d S = some (some y, S1)) : lcF step ok (d :: ds) acc S = lcF step ok ds (acc ++ [y]) S1 := by
  rw [lcF, if_pos (by rw [h, decide_eq_true hl]; rfl), e]
theorem lc_skip (h : ok S = true) (hl : acc.length < lim) (e : step d S = some (none, S1)) : lcF step ok (d :: ds) acc S = lcF step ok ds acc S1 := by
  rw [lcF, if_pos (by rw [h, decide_eq_true hl]; rfl), e]
/-- turns that leave the store as it is: what each item becomes -/
theorem lc_pure (g : D → Option D) (hok : ok S = true) : ∀ (ds acc : List D), acc.length + ds.length ≤ lim → (∀ d, d ∈ ds → step d S = some (g d, S)) → lcF step ok ds acc S = some (acc ++ ds.filterMap g, S)
  | [], acc, _, _ => by rw [lc_nil hok, List.filterMap_nil, List.append_nil]
  | d :: ds, acc, hl, h => by
    have hd := h d List.mem_cons_self
    rw [List.length_cons] at hl
    cases q : g d with
    | none =>
      rw [q] at hd
      rw [lc_skip hok (by omega) hd, lc_pure g hok ds acc (by omega) fun x hx => h x (List.mem_cons_of_mem _ hx), List.filterMap_cons, q]
    | some y =>
      rw [q] at hd
      rw [lc_put hok (by omega) hd, lc_pure g hok ds (acc ++ [y]) (by rw [List.length_append, List.length_singleton]; omega) fun x hx => h x (List.mem_cons_of_mem _ hx), List.filterMap_cons, q, List.append_assoc]
      rfl
end
theorem lc_ints {step : D → Sto → Option (Option D × Sto)} {ok : Sto → Bool} {S : Sto} (g : Int → Option D) (hok : ok S = true) (ns : List Int) (hl : ns.length ≤ lim) (h : ∀ i, i ∈ ns → step (.int i) S = some (g i, S)) : lcF step ok (ns.map .int) [] S = some (ns.filterMap g, S) := by
  have e := lc_pure (step := step) (ok := ok) (S := S) (fun d => match d with
    | .int i => g i
    | _ => none) hok (ns.map .int) [] (by simpa using hl) fun d hd => by
      obtain ⟨i, hi, rfl⟩ := List.mem_map.mp hd
      exact h i hi
  rw [e, List.filterMap_map, List.nil_append]
  rfl
theorem lc_intsM {step : D → Sto → Option (Option D × Sto)} {ok : Sto → Bool} {S : Sto} (g : Int → D) (hok : ok S = true) (ns : List Int) (hl : ns.length ≤ lim) (h : ∀ i, i ∈ ns → step (.int i) S = some (some (g i), S)) : lcF step ok (ns.map .int) [] S = some (ns.map g, S) := by
  rw [lc_ints (fun i => some (g i)) hok ns hl h, List.filterMap_eq_map']
/-! ### lists just laid -/
theorem at_new {S : Sto} {o : SO} : (S ++ [o])[S.length]? = some o := by simp
theorem lst_new {S : Sto} {xs : List D} : lstOf (S ++ [.lst xs]) (.ref S.length) = some xs := by
  show ((S ++ [SO.lst xs])[S.length]?).bind SO.seq? = _
  rw [at_new]
  rfl
theorem items_new {S : Sto} {xs : List D} : itemsOf (S ++ [.lst xs]) (.ref S.length) = some xs := lst_new
theorem intsOf_ints : ∀ ns : List Int, intsOf (ns.map .int) = some ns
  | [] => rfl
  | n :: r => by
    show (intsOf (r.map .int)).map (n :: ·) = _
    rw [intsOf_ints r]
    rfl
/-- a value's kinds -/
def isInt : D → Bool
  | .int _ => true
  | _ => false
def wholeD : D → Bool := isInt
theorem cl_ref {n i : Nat} (h : D.cl n (.ref i) = true) : i < n := of_decide_eq_true h
theorem cl_at {S : Sto} {i : Nat} (h : D.cl S.length (.ref i) = true) : ∃ o, S[i]? = some o := ⟨_, List.getElem?_eq_getElem (cl_ref h)⟩
theorem isi_int {S : Sto} {v : D} (h : v.cl S.length = true) : ∃ b, isiF S v .int = some b ∧ ∃ c, isiF S v .bool = some c ∧ (b && !c) = wholeD v := by
  cases v with
  | ref i =>
    obtain ⟨o, e⟩ := cl_at h
    unfold isiF
    simp only [e]
    cases o <;> exact ⟨_, rfl, _, rfl, rfl⟩
  | non => exact ⟨_, rfl, _, rfl, rfl⟩
  | bl b => exact ⟨_, rfl, _, rfl, rfl⟩
  | int i => exact ⟨_, rfl, _, rfl, rfl⟩
  | str s => exact ⟨_, rfl, _, rfl, rfl⟩
  | tup ds => exact ⟨_, rfl, _, rfl, rfl⟩
theorem eqD_int {S : Sto} {a b : Int} : eqD S (.int a) (.int b) = some (decide (a = b)) := by
  unfold eqD py
  simp only [pyD]
  show (if (SeqAt.shaped (.int a) && SeqAt.shaped (.int b)) = true then some (PyData.eqv (.int a) (.int b)) else none) = _
  rw [if_pos (by rfl)]
  have : PyData.eqv (.int a) (.int b) = (a == b) := by rfl
  rw [this]
  by_cases h : a = b <;> simp [h]
theorem boolsOf_bls : ∀ bs : List Bool, boolsOf (bs.map .bl) = some bs
  | [] => rfl
  | b :: r => by
    show (boolsOf (r.map .bl)).map (b :: ·) = _
    rw [boolsOf_bls r]
    rfl
theorem cl_bls {n : Nat} : ∀ (bs : List Bool), clL n (bs.map D.bl) = true
  | [] => rfl
  | b :: r => cl_bls r
theorem lc_bls {step : D → Sto → Option (Option D × Sto)} {ok : Sto → Bool} {S : Sto} (g : D → Bool) (hok : ok S = true) (ds : List D) (hl : ds.length ≤ lim) (h : ∀ d, d ∈ ds → step d S = some (some (.bl (g d)), S)) : lcF step ok ds [] S = some ((ds.map g).map .bl, S) := by
  rw [lc_pure (fun d => some (.bl (g d))) hok ds [] (by simpa using hl) h, List.nil_append, List.filterMap_eq_map', List.map_map]
  rfl
def tupD : D → Option (List D)
  | .tup ds => some ds
  | _ => none
theorem isi_tup {S : Sto} {v : D} (h : v.cl S.length = true) : isiF S v .tuple = some (tupD v).isSome := by
  cases v with
  | ref i =>
    obtain ⟨o, e⟩ := cl_at h
    unfold isiF
    simp only [e]
    cases o <;> rfl
  | _ => rfl
/-- a whole number from a to b -/
def betD (v : D) (a b : Int) : Bool := match v with
  | .int i => decide (a ≤ i) && decide (i ≤ b)
  | _ => false
/-- ascending whole numbers from a to b -/
def ascL (b : Int) : Int → List D → Bool
  | _, [] => true
  | a, d :: r => betD d a b && (match d with
    | .int i => ascL b (i + 1) r
    | _ => false)
def ascD (v : D) (b : Int) : Bool := match v with
  | .tup ds => ascL (b - 1) 0 ds
  | _ => false
end Z
end
section
set_option Elab.async false
set_option linter.all false
set_option autoImplicit false
set_option maxHeartbeats 4000000
/-! lots as masks -/
namespace Z
open PySem L2 PyProof.Rows Bits

/-- the lot of a mask below 2 ^ 24 -/
def lotI (m : Nat) : List Int := ((List.range 24).filter fun k => m.testBit k).map fun k : Nat => (k : Int)
theorem cast_asc : ∀ {l : List Nat}, l.Pairwise (· < ·) → (l.map fun k : Nat => (k : Int)).Pairwise (· < ·) := fun h => List.pairwise_map.mpr (h.imp fun h => by omega)
theorem lotI_asc (m : Nat) : (lotI m).Pairwise (· < ·) := cast_asc (List.pairwise_lt_range.filter _)
theorem lotI_mem (m : Nat) (i : Int) : i ∈ lotI m ↔ 0 ≤ i ∧ i < 24 ∧ m.testBit i.toNat = true := by
  unfold lotI
  simp only [List.mem_map, List.mem_filter, List.mem_range]
  constructor
  · rintro ⟨k, ⟨h1, h2⟩, rfl⟩
    exact ⟨by omega, by omega, by simpa using h2⟩
  · rintro ⟨h1, h2, h3⟩
    exact ⟨i.toNat, ⟨by omega, h3⟩, by omega⟩
theorem filterMap_if {p : Int → Bool} : ∀ l : List Int, (l.filterMap fun i => if p i = true then some (D.int i) else none) = (l.filter p).map D.int
  | [] => rfl
  | i :: l => by
    rw [List.filterMap_cons, List.filter_cons, filterMap_if l]
    cases p i <;> rfl
theorem bit_at (m k : Nat) : (Builtin.bitAnd ((m : Int) / 2 ^ k) 1 = 0) ↔ m.testBit k = false := by
  rw [bitAnd_m1]
  have e : ((m : Int) / 2 ^ k) = ((m / 2 ^ k : Nat) : Int) := by
    rw [Int.natCast_ediv, Int.natCast_pow]
    rfl
  rw [e, Nat.testBit_eq_decide_div_mod_eq, decide_eq_false_iff_not]
  omega
theorem lot_bits (m : Nat) (hm : m < 2 ^ 24) : (((List.range (Builtin.Int.intBits (m : Int))).map fun k : Nat => (k : Int)).filterMap fun i => if Builtin.bitAnd ((m : Int) / 2 ^ i.toNat) 1 = 0 then none else some (D.int i)) = (lotI m).map D.int := by
  have e : (fun i : Int => if Builtin.bitAnd ((m : Int) / 2 ^ i.toNat) 1 = 0 then none else some (D.int i)) = fun i => if (!decide (Builtin.bitAnd ((m : Int) / 2 ^ i.toNat) 1 = 0)) = true then some (D.int i) else none := by
    funext i
    by_cases h : Builtin.bitAnd ((m : Int) / 2 ^ i.toNat) 1 = 0 <;> simp [h]
  rw [e, filterMap_if]
  congr 1
  have hK : Builtin.Int.intBits (m : Int) ≤ 24 := intBits_le_iff.mpr (show (m : Int).natAbs < 2 ^ 24 from by rw [Int.natAbs_natCast]; exact hm)
  have hB : m < 2 ^ Builtin.Int.intBits (m : Int) := by simpa using (intBits_le_iff (x := (m : Int))).mp (Nat.le_refl _)
  refine asc_same ((cast_asc List.pairwise_lt_range).filter _) (lotI_asc m) fun i => ?_
  rw [List.mem_filter, lotI_mem]
  simp only [List.mem_map, List.mem_range, Bool.not_eq_true', decide_eq_false_iff_not]
  constructor
  · rintro ⟨⟨k, h1, rfl⟩, h2⟩
    refine ⟨by omega, by omega, ?_⟩
    rw [Int.toNat_natCast] at h2 ⊢
    rw [bit_at] at h2
    simpa using h2
  · rintro ⟨h1, h2, h3⟩
    refine ⟨⟨i.toNat, ?_, by omega⟩, ?_⟩
    · apply Classical.byContradiction
      intro hc
      have : m.testBit i.toNat = false := Nat.testBit_lt_two_pow (Nat.lt_of_lt_of_le hB (Nat.pow_le_pow_right (by decide) (by omega)))
      rw [this] at h3
      cases h3
    · rw [bit_at, h3]
      decide
def maskI (ns : List Int) : Int := (ns.map fun i => (2 : Int) ^ i.toNat).sum
/-- a mask of 24 lines -/
def Low (m : Nat) : Prop := m < 2 ^ 24
theorem low_bits {m : Nat} (hm : Low m) : Builtin.Int.intBits (m : Int) ≤ 24 := intBits_le_iff.mpr (show (m : Int).natAbs < 2 ^ 24 from by rw [Int.natAbs_natCast]; exact hm)
theorem low_rg {m : Nat} (hm : Low m) : rgOk (Builtin.Int.intBits (m : Int) : Int) = true := by
  have hK := low_bits hm
  unfold rgOk
  rw [decide_eq_true (by omega), decide_eq_true (by omega)]
  rfl
theorem and_one (k : Nat) : Builtin.bitAnd (k : Int) 1 = ((k % 2 : Nat) : Int) := by
  rw [bitAnd_m1]
  omega
/-- an ascending lot of lines below 24 -/
structure Lot (ns : List Int) : Prop where
  asc : ns.Pairwise (· < ·)
  lo : ∀ i, i ∈ ns → 0 ≤ i ∧ i < 24
def maskN (ns : List Int) : Nat := (ns.map fun i => 2 ^ i.toNat).sum
theorem Lot.of (m : Nat) : Lot (lotI m) := ⟨lotI_asc m, fun i h => by
  have := (lotI_mem m i).mp h
  exact ⟨this.1, this.2.1⟩⟩
/-- a mask's bits are the lot's lines -/
theorem mask_bit : ∀ {ns : List Int}, ns.Pairwise (· < ·) → (∀ i, i ∈ ns → 0 ≤ i) → ∀ k : Nat, (maskN ns).testBit k = decide ((k : Int) ∈ ns)
  | [], _, _, k => by simp [maskN]
  | i :: r, h, h0, k => by
    obtain ⟨h1, h2⟩ := List.pairwise_cons.mp h
    have ih := mask_bit h2 fun j hj => h0 j (List.mem_cons_of_mem _ hj)
    have hi := h0 i List.mem_cons_self
    have hn : (maskN r).testBit i.toNat = false := by
      rw [ih, decide_eq_false_iff_not]
      intro hc
      have := h1 _ hc
      omega
    have e : maskN (i :: r) = 2 ^ i.toNat ^^^ maskN r := by
      have z : 2 ^ i.toNat &&& maskN r = 0 := by
        apply Nat.eq_of_testBit_eq
        intro j
        rw [Nat.testBit_and, Nat.testBit_two_pow, Nat.zero_testBit]
        by_cases hj : i.toNat = j
        · subst hj
          rw [hn, Bool.and_false]
        · simp [hj]
      have q := nat_xor_add_and (2 ^ i.toNat) (maskN r)
      rw [z] at q
      show 2 ^ i.toNat + maskN r = _
      omega
    rw [e, Nat.testBit_xor, ih, Nat.testBit_two_pow]
    by_cases hj : i.toNat = k
    · subst hj
      have : ((i.toNat : Nat) : Int) ∉ r := fun hc => by
        have := h1 _ hc
        omega
      have e2 : ((i.toNat : Nat) : Int) = i := by omega
      simp [this, e2]
      rw [e2] at this
      exact this
    · have : (k : Int) ≠ i := fun q => hj (by omega)
      simp [hj, this]
theorem maskI_nat {ns : List Int} : maskI ns = ((maskN ns : Nat) : Int) := by
  unfold maskI maskN
  induction ns with
  | nil => rfl
  | cons i r ih =>
    rw [List.map_cons, List.map_cons, List.sum_cons, List.sum_cons, ih, Int.natCast_add, Int.natCast_pow]
    rfl
theorem mask_lt {ns : List Int} (h : Lot ns) : maskN ns < 2 ^ 24 := by
  apply Nat.lt_pow_two_of_testBit
  intro k hk
  rw [mask_bit h.asc (fun i hi => (h.lo i hi).1), decide_eq_false_iff_not]
  intro hc
  have := (h.lo _ hc).2
  omega
theorem lot_mask {ns : List Int} (h : Lot ns) : lotI (maskN ns) = ns := asc_same (lotI_asc _) h.asc fun i => by
  rw [lotI_mem, mask_bit h.asc (fun i hi => (h.lo i hi).1), decide_eq_true_eq]
  constructor
  · rintro ⟨h1, h2, h3⟩
    rwa [Int.toNat_of_nonneg h1] at h3
  · intro hi
    have := h.lo i hi
    exact ⟨this.1, this.2, by rwa [Int.toNat_of_nonneg this.1]⟩
theorem lot_low {ns : List Int} (h : Lot ns) : Low (maskN ns) := mask_lt h
theorem low_xor {a b : Nat} (h1 : Low a) (h2 : Low b) : Low (a ^^^ b) := Nat.xor_lt_two_pow h1 h2
theorem low_and {a b : Nat} (h1 : Low a) : Low (a &&& b) := Nat.lt_of_le_of_lt Nat.and_le_left h1
end Z
end
section
set_option Elab.async false
set_option linter.all false
set_option autoImplicit false
set_option maxHeartbeats 4000000
/-! equality and membership of data -/
namespace Z
open PySem L2

theorem inD_ints {S : Sto} {i : Int} {ns : List Int} : inD S (.int i) (.tup (ns.map .int)) = some (decide (i ∈ ns)) := by
  unfold inD
  show (some (ns.map D.int)).bind _ = _
  rw [Option.bind_some]
  have h : (flatD (.int i) && (ns.map D.int).all flatD) = true := by
    rw [Bool.and_eq_true, List.all_eq_true]
    refine ⟨rfl, fun d hd => ?_⟩
    obtain ⟨j, _, rfl⟩ := List.mem_map.mp hd
    rfl
  rw [if_pos h, List.any_map]
  congr 1
  rw [Bool.eq_iff_iff, List.any_eq_true, decide_eq_true_eq]
  constructor
  · rintro ⟨j, hj, e⟩
    have : j = i := eq_of_beq (show (j == i) = true from e)
    rwa [← this]
  · intro h
    exact ⟨i, h, show (i == i) = true from beq_self_eq_true i⟩
theorem pyL_ints {f : Nat → Option PyData} : ∀ ns : List Int, pyL f (ns.map .int) = some (ns.map PyData.int)
  | [] => rfl
  | i :: r => by
    rw [List.map_cons, pyL, pyL_ints r]
    rfl
theorem eqvAll_ints : ∀ ns ms : List Int, PyData.eqvAll (ns.map PyData.int) (ms.map PyData.int) = decide (ns = ms)
  | [], [] => rfl
  | [], m :: ms => rfl
  | n :: ns, [] => rfl
  | n :: ns, m :: ms => by
    show (PyData.eqv (.int n) (.int m) && PyData.eqvAll (ns.map PyData.int) (ms.map PyData.int)) = _
    rw [eqvAll_ints ns ms]
    show (n == m && decide (ns = ms)) = _
    by_cases h : n = m <;> by_cases h2 : ns = ms <;> simp [h, h2]
theorem shaped_ints (ns : List Int) : SeqAt.shaped (.tuple (ns.map PyData.int)) = true := by
  simp [SeqAt.shaped, PyData.canLay0, PyData.depth, PySem.W.ke_canLayAll0, PySem.W.ke_depthAll]
theorem shaped_intsL (ns : List Int) : SeqAt.shaped (.list (ns.map PyData.int)) = true := PySem.W.ke_shaped_ints ns
theorem eqD_ints {S : Sto} {ns ms : List Int} : eqD S (.tup (ns.map .int)) (.tup (ms.map .int)) = some (decide (ns = ms)) := by
  unfold eqD py
  simp only [pyD, pyL_ints, Option.map_some]
  rw [shaped_ints, shaped_ints]
  show some (PyData.eqvAll (ns.map PyData.int) (ms.map PyData.int)) = _
  rw [eqvAll_ints]
theorem rdS_ints {S : Sto} {i : Nat} {ns : List Int} (h : (S[i]?).bind SO.seq? = some (ns.map .int)) : rdS S 8 i = some (.list (ns.map PyData.int)) := by
  rw [rdS, h, Option.bind_some, pyL_ints]
  rfl
/-- lists of ints -/
theorem eqD_intsL {S : Sto} {i j : Nat} {ns ms : List Int} (h1 : (S[i]?).bind SO.seq? = some (ns.map .int)) (h2 : (S[j]?).bind SO.seq? = some (ms.map .int)) : eqD S (.ref i) (.ref j) = some (decide (ns = ms)) := by
  unfold eqD py
  simp only [pyD, rdS_ints h1, rdS_ints h2]
  rw [shaped_intsL, shaped_intsL]
  show some (PyData.eqvAll (ns.map PyData.int) (ms.map PyData.int)) = _
  rw [eqvAll_ints]
theorem eqD_bl {S : Sto} {a b : Bool} : eqD S (.bl a) (.bl b) = some (decide (a = b)) := by
  cases a <;> cases b <;> rfl
end Z
end
section
set_option Elab.async false
set_option linter.all false
set_option maxRecDepth 100000
set_option maxHeartbeats 0
namespace K00
open PySem L2 Z
def top (i : Nat) : Stmt := PySem.Challenge.pw_ringtables_k00_whole_sums_of_lots.main.body.getD i (.Pass ⟨0, 0, 0, 0⟩)
def c1 : Ss := (.cons (.ret (.and (.isi (.var 0) .int) (.not (.isi (.var 0) .bool)))) .nil)
def r1 : Dr := ⟨"is_whole", ["value"], 1, defArgs (top 1), defBody (top 1), defScope (top 1), c1⟩
def c2 : Ss := (.cons (.ret (.and (.call "is_whole" (.cons (.var 0) .nil)) (.chn .LtE .LtE (.var 1) (.var 0) (.var 2)))) .nil)
def r2 : Dr := ⟨"is_between", ["value", "least", "most"], 3, defArgs (top 2), defBody (top 2), defScope (top 2), c2⟩
def c3_1 : Ss := (.cons (.ifs (.not (.call "is_between" (.cons (.var 3) (.cons (.var 2) (.cons (.bin .Sub (.var 1) (.int 1)) .nil))))) (.cons (.ret (.bl false)) .nil) .nil) (.cons (.set 2 (.bin .Add (.var 3) (.int 1))) .nil))
def c3 : Ss := (.cons (.ifs (.not (.isi (.var 0) .tuple)) (.cons (.ret (.bl false)) .nil) .nil) (.cons (.set 2 (.int 0)) (.cons (.for (.nm 3) (.ex (.var 0)) c3_1) (.cons (.ret (.bl true)) .nil))))
def r3 : Dr := ⟨"is_ascending", ["value", "bound", "least", "number"], 2, defArgs (top 3), defBody (top 3), defScope (top 3), c3⟩
def c4_1 : Ex := (.bin .LShift (.int 1) (.var 1))
def c4 : Ss := (.cons (.ret (.blt .sum (.cons (.lc [1] (.nm 1) (.ex (.var 0)) .no c4_1) .nil))) .nil)
def r4 : Dr := ⟨"mask_of", ["lot", "line"], 1, defArgs (top 4), defBody (top 4), defScope (top 4), c4⟩
def c5_1 : Ox := (.yes (.bin .BitAnd (.bin .RShift (.var 0) (.var 1)) (.int 1)))
def c5 : Ss := (.cons (.ret (.blt .tuple (.cons (.lc [1] (.nm 1) (.rng1 (.met .bits (.var 0) .nil)) c5_1 (.var 1)) .nil))) .nil)
def r5 : Dr := ⟨"lot_of", ["mask", "line"], 1, defArgs (top 5), defBody (top 5), defScope (top 5), c5⟩
def c6 : Ss := (.cons (.ret (.bin .BitAnd (.blt .len (.cons (.call "lot_of" (.cons (.var 0) .nil)) .nil)) (.int 1))) .nil)
def r6 : Dr := ⟨"parity", ["mask"], 1, defArgs (top 6), defBody (top 6), defScope (top 6), c6⟩
def c15 : Ss := (.cons (.expr (.call "_demand_many" (.cons (.var 0) .nil))) (.cons (.ret (.call "is_ascending" (.cons (.var 1) (.cons (.var 0) .nil)))) .nil))
def r15 : Dr := ⟨"is_lot_of", ["many", "value"], 2, defArgs (top 15), defBody (top 15), defScope (top 15), c15⟩
def c16_1 : Ex := (.call "is_ascending" (.cons (.var 1) (.cons (.con 24) .nil)))
def c16 : Ss := (.cons (.ifs (.or (.not (.isi (.var 0) .tuple)) (.cmp .Gt (.blt .len (.cons (.var 0) .nil)) (.con 64))) (.cons (.ret (.bl false)) .nil) .nil) (.cons (.ret (.blt .all (.cons (.lc [1] (.nm 1) (.ex (.var 0)) .no c16_1) .nil))) .nil))
def r16 : Dr := ⟨"are_lots", ["value", "lot"], 1, defArgs (top 16), defBody (top 16), defScope (top 16), c16⟩
def c17 : Ss := (.cons (.expr (.call "_demand_lot" (.cons (.var 0) .nil))) (.cons (.expr (.call "_demand_lot" (.cons (.var 1) .nil))) (.cons (.ret (.call "lot_of" (.cons (.bin .BitXor (.call "mask_of" (.cons (.var 0) .nil)) (.call "mask_of" (.cons (.var 1) .nil))) .nil))) .nil)))
def r17 : Dr := ⟨"lot_sum", ["one", "other"], 2, defArgs (top 17), defBody (top 17), defScope (top 17), c17⟩
def c18 : Ss := (.cons (.expr (.call "_demand_lot" (.cons (.var 0) .nil))) (.cons (.expr (.call "_demand_lot" (.cons (.var 1) .nil))) (.cons (.ret (.cmp .Eq (.call "parity" (.cons (.bin .BitAnd (.call "mask_of" (.cons (.var 0) .nil)) (.call "mask_of" (.cons (.var 1) .nil))) .nil)) (.int 1))) .nil)))
def r18 : Dr := ⟨"does_meet_oddly", ["one", "other"], 2, defArgs (top 18), defBody (top 18), defScope (top 18), c18⟩
def c19 : Ss := (.cons (.expr (.call "_demand_lots" (.cons (.var 0) .nil))) (.cons (.ifs (.not (.call "is_ascending" (.cons (.var 1) (.cons (.blt .len (.cons (.var 0) .nil)) .nil)))) (.cons .fail .nil) .nil) (.cons (.ret (.call "lot_of" (.cons (.call "_pick_sum" (.cons (.var 0) (.cons (.var 1) .nil))) .nil))) .nil)))
def r19 : Dr := ⟨"sum_of_pick", ["lots", "pick"], 2, defArgs (top 19), defBody (top 19), defScope (top 19), c19⟩
def c20 : Ss := (.cons (.ifs (.not (.call "is_between" (.cons (.var 0) (.cons (.int 1) (.cons (.con 24) .nil))))) (.cons .fail .nil) .nil) .nil)
def r20 : Dr := ⟨"_demand_many", ["many"], 1, defArgs (top 20), defBody (top 20), defScope (top 20), c20⟩
def c21 : Ss := (.cons (.ifs (.not (.call "is_ascending" (.cons (.var 0) (.cons (.con 24) .nil)))) (.cons .fail .nil) .nil) .nil)
def r21 : Dr := ⟨"_demand_lot", ["lot"], 1, defArgs (top 21), defBody (top 21), defScope (top 21), c21⟩
def c22 : Ss := (.cons (.ifs (.not (.call "are_lots" (.cons (.var 0) .nil))) (.cons .fail .nil) .nil) .nil)
def r22 : Dr := ⟨"_demand_lots", ["lots"], 1, defArgs (top 22), defBody (top 22), defScope (top 22), c22⟩
def c23_1 : Ss := (.cons (.aug 2 .BitXor (.call "mask_of" (.cons (.ix (.var 0) (.var 3)) .nil))) .nil)
def c23 : Ss := (.cons (.set 2 (.int 0)) (.cons (.for (.nm 3) (.ex (.var 1)) c23_1) (.cons (.ret (.var 2)) .nil)))
def r23 : Dr := ⟨"_pick_sum", ["lots", "pick", "found", "k"], 2, defArgs (top 23), defBody (top 23), defScope (top 23), c23⟩
def c25 : Ss := (.cons (.set 2 (.ite (.cmp .Lt (.var 1) (.blt .len (.cons (.var 0) .nil))) (.blt .int (.cons (.ix (.var 0) (.var 1)) .nil)) (.bin .Add (.bin .Mult (.int 127) (.var 1)) (.int 71)))) (.cons (.set 3 (.bin .Mod (.blt .max2 (.cons (.int 0) (.cons (.bin .Sub (.blt .abs (.cons (.var 2) .nil)) (.bin .Pow (.int 10) (.int 16))) .nil))) (.bin .Mult (.bin .Pow (.int 10) (.int 57)) (.bin .Pow (.int 10) (.int 60))))) (.cons (.ret (.lst (.cons (.var 3) (.cons (.bin .Add (.bin .Add (.bin .Add (.bin .Mult (.bin .Mod (.blt .abs (.cons (.var 2) .nil)) (.int 1152921504606846697)) (.int 109)) (.bin .Mult (.int 1031) (.var 1))) (.bin .Mult (.int 67) (.blt .int (.cons (.cmp .Lt (.var 2) (.int 0)) .nil)))) (.int 53)) (.cons (.int 0) .nil))))) .nil)))
def r25 : Dr := ⟨"_law_dice", ["script", "spot", "cell", "great"], 2, defArgs (top 25), defBody (top 25), defScope (top 25), c25⟩
def c26 : Ss := (.cons (.ifs (.cmp .Gt (.ix (.var 0) (.int 0)) (.int 0)) (.cons (.set 4 (.bin .Mod (.blt .int (.cons (.ix (.var 0) (.int 0)) .nil)) (.var 1))) (.cons (.six (.var 0) (.int 0) (.bin .FloorDiv (.ix (.var 0) (.int 0)) (.var 1))) (.cons (.ret (.var 4)) .nil))) .nil) (.cons (.six (.var 0) (.int 2) (.bin .Add (.ix (.var 0) (.int 2)) (.int 1))) (.cons (.set 2 (.bin .Mod (.blt .int (.cons (.bin .Add (.ix (.var 0) (.int 1)) (.bin .Mult (.int 49979687) (.ix (.var 0) (.int 2)))) .nil)) (.int 2305843009213693487))) (.cons (.set 3 (.bin .Add (.bin .Mult (.bin .Mod (.blt .int (.cons (.bin .Add (.bin .Mult (.var 2) (.var 2)) (.bin .Mult (.int 113) (.ix (.var 0) (.int 2)))) .nil)) (.int 2305843009213693669)) (.int 6700417)) (.var 2))) (.cons (.ret (.bin .Mod (.blt .int (.cons (.bin .FloorDiv (.var 3) (.int 65539)) .nil)) (.var 1))) .nil)))))
def r26 : Dr := ⟨"_law_roll", ["dice", "most", "one", "two", "found"], 2, defArgs (top 26), defBody (top 26), defScope (top 26), c26⟩
def c27_1 : Ex := (.cmp .NotEq (.var 2) (.lst .nil))
def c27_2 : Ss := (.cons (.expr (.met .append (.var 3) (.cons (.met .popAt (.var 2) (.cons (.call "_law_roll" (.cons (.var 0) (.cons (.blt .len (.cons (.var 2) .nil)) .nil))) .nil)) .nil))) .nil)
def c27 : Ss := (.cons (.par 2 3 (.blt .list (.cons (.var 1) .nil)) (.lst .nil)) (.cons (.while c27_1 c27_2) (.cons (.ret (.var 3)) .nil)))
def r27 : Dr := ⟨"_law_mixed", ["dice", "items", "waiting", "found"], 2, defArgs (top 27), defBody (top 27), defScope (top 27), c27⟩
def c28_1 : Ox := (.yes (.cmp .NotIn (.var 2) (.var 1)))
def c28_2 : Ox := (.yes (.cmp .NotIn (.var 2) (.var 0)))
def c28 : Ss := (.cons (.ret (.blt .tuple (.cons (.blt .sorted (.cons (.bin .Add (.lc [2] (.nm 2) (.ex (.var 0)) c28_1 (.var 2)) (.lc [2] (.nm 2) (.ex (.var 1)) c28_2 (.var 2))) .nil)) .nil))) .nil)
def r28 : Dr := ⟨"_law_lo_sum", ["one", "other", "line"], 2, defArgs (top 28), defBody (top 28), defScope (top 28), c28⟩
def c29_1 : Ox := (.yes (.cmp .Eq (.bin .Mod (.dix (.var 1) (.var 3)) (.int 2)) (.int 1)))
def c29_2 : Ss := (.cons (.dst (.var 1) (.var 3) (.bin .Add (.dgt (.var 1) (.var 3) (.int 0)) (.int 1))) .nil)
def c29_3 : Ss := (.cons (.for (.nm 3) (.ex (.var 2)) c29_2) .nil)
def c29 : Ss := (.cons (.set 1 .dic) (.cons (.for (.nm 2) (.ex (.var 0)) c29_3) (.cons (.ret (.blt .tuple (.cons (.blt .sorted (.cons (.lck [3] 3 1 c29_1 (.var 3)) .nil)) .nil))) .nil)))
def r29 : Dr := ⟨"_law_lo_total", ["lots", "counts", "lot", "line"], 1, defArgs (top 29), defBody (top 29), defScope (top 29), c29⟩
def c30_1 : Ox := (.yes (.cmp .In (.var 2) (.var 1)))
def c30 : Ss := (.cons (.ret (.cmp .Eq (.bin .Mod (.blt .len (.cons (.lc [2] (.nm 2) (.ex (.var 0)) c30_1 (.var 2)) .nil)) (.int 2)) (.int 1))) .nil)
def r30 : Dr := ⟨"_law_lo_is_odd", ["one", "other", "line"], 2, defArgs (top 30), defBody (top 30), defScope (top 30), c30⟩
def c31_1 : Ox := (.yes (.not (.chn .LtE .Lt (.int 0) (.var 2) (.var 1))))
def c31_2 : Ox := (.yes (.or (.isi (.var 2) .bool) (.not (.isi (.var 2) .int))))
def c31 : Ss := (.cons (.ifs (.or (.not (.isi (.var 0) .tuple)) (.cmp .NotEq (.lc [2] (.nm 2) (.ex (.var 0)) c31_2 (.int 1)) (.lst .nil))) (.cons (.ret (.bl false)) .nil) .nil) (.cons (.ret (.and (.cmp .Eq (.blt .list (.cons (.var 0) .nil)) (.srs (.var 0))) (.cmp .Eq (.lc [2] (.nm 2) (.ex (.var 0)) c31_1 (.var 2)) (.lst .nil)))) .nil))
def r31 : Dr := ⟨"_law_lo_is", ["value", "many", "one"], 2, defArgs (top 31), defBody (top 31), defScope (top 31), c31⟩
def c32_1 : Ox := (.yes (.cmp .Lt (.call "_law_roll" (.cons (.var 0) (.cons (.int 4) .nil))) (.var 2)))
def c32 : Ss := (.cons (.set 2 (.bin .Add (.int 1) (.call "_law_roll" (.cons (.var 0) (.cons (.int 3) .nil))))) (.cons (.ret (.blt .tuple (.cons (.lc [3] (.nm 3) (.rng1 (.var 1)) c32_1 (.var 3)) .nil))) .nil))
def r32 : Dr := ⟨"_law_lo_any", ["dice", "many", "our_share", "line"], 2, defArgs (top 32), defBody (top 32), defScope (top 32), c32⟩
def c33_1 : Ex := (.cmp .Eq (.var 4) (.int 1))
def c33 : Ss := (.cons (.set 3 (.lst (.cons (.var 2) (.cons (.blt .list (.cons (.var 2) .nil)) (.cons (.rev (.var 2)) (.cons (.bin .Add (.var 2) (.sl (.var 2) (.yes (.un .USub (.int 1))) .no)) (.cons (.bin .Add (.var 2) (.tup (.cons (.var 1) .nil))) (.cons (.bin .Add (.tup (.cons (.un .USub (.int 1)) .nil)) (.var 2)) (.cons .non (.cons (.tup .nil) (.cons (.int 0) (.cons (.str "0") (.cons .dic (.cons (.tup (.cons (.bl true) .nil)) (.cons (.tup (.cons .non .nil)) (.cons (.tup (.cons (.tup (.cons (.int 0) .nil)) .nil)) (.cons (.str "abc") .nil))))))))))))))))) (.cons (.ret (.bin .Add (.var 3) (.lst (.cons (.blt .tuple (.cons (.lc [4] (.nm 4) (.ex (.var 2)) .no c33_1) .nil)) (.cons (.sl (.var 2) (.yes (.int 1)) .no) (.cons (.rg1 true (.var 1)) (.cons (.tup (.cons (.bin .Pow (.int 10) (.int 40)) .nil)) (.cons (.tup (.cons (.str "0") .nil)) (.cons (.bin .Add (.var 2) (.tup (.cons (.int 23) .nil))) (.cons (.tup (.cons (.int 0) (.cons (.int 0) .nil))) (.cons (.tup (.cons (.int 1) (.cons (.int 0) .nil))) .nil))))))))))) .nil))
def r33 : Dr := ⟨"_law_near", ["dice", "many", "lot", "found", "one"], 3, defArgs (top 33), defBody (top 33), defScope (top 33), c33⟩
def c34_1 : Ox := (.yes (.not (.call "_law_lo_is" (.cons (.var 1) (.cons (.int 24) .nil)))))
def c34 : Ss := (.cons (.ifs (.or (.not (.isi (.var 0) .tuple)) (.cmp .Gt (.blt .len (.cons (.var 0) .nil)) (.int 64))) (.cons (.ret (.bl false)) .nil) .nil) (.cons (.ret (.cmp .Eq (.lc [1] (.nm 1) (.ex (.var 0)) c34_1 (.var 1)) (.lst .nil))) .nil))
def r34 : Dr := ⟨"_law_are_lots", ["value", "lot"], 1, defArgs (top 34), defBody (top 34), defScope (top 34), c34⟩
def c35_1 : Ox := (.yes (.cmp .NotEq (.call "are_lots" (.cons (.var 11) .nil)) (.call "_law_are_lots" (.cons (.var 11) .nil))))
def c35_2 : Ox := (.yes (.cmp .NotEq (.call "is_lot_of" (.cons (.var 1) (.cons (.var 11) .nil))) (.call "_law_lo_is" (.cons (.var 11) (.cons (.var 1) .nil)))))
def c35_3 : Ox := (.yes (.call "does_meet_oddly" (.cons (.ix (.var 2) (.var 9)) (.cons (.var 7) .nil))))
def c35_4 : Ex := (.ix (.var 2) (.var 9))
def c35_5 : Ex := (.call "_law_lo_any" (.cons (.var 0) (.cons (.bin .Add (.int 1) (.call "_law_roll" (.cons (.var 0) (.cons (.int 24) .nil)))) .nil)))
def c35 : Ss := (.cons (.set 1 (.bin .Add (.int 1) (.call "_law_roll" (.cons (.var 0) (.cons (.int 24) .nil))))) (.cons (.unp [7, 8] (.tup (.cons (.call "_law_lo_any" (.cons (.var 0) (.cons (.var 1) .nil))) (.cons (.call "_law_lo_any" (.cons (.var 0) (.cons (.int 24) .nil))) .nil)))) (.cons (.ifs (.or (.cmp .NotEq (.call "lot_sum" (.cons (.var 7) (.cons (.var 8) .nil))) (.call "_law_lo_sum" (.cons (.var 7) (.cons (.var 8) .nil)))) (.cmp .NotEq (.call "does_meet_oddly" (.cons (.var 7) (.cons (.var 8) .nil))) (.call "_law_lo_is_odd" (.cons (.var 7) (.cons (.var 8) .nil))))) (.cons (.ret (.bl false)) .nil) .nil) (.cons (.ifs (.or (.cmp .NotEq (.call "lot_sum" (.cons (.var 8) (.cons (.var 7) .nil))) (.call "lot_sum" (.cons (.var 7) (.cons (.var 8) .nil)))) (.or (.cmp .NotEq (.call "lot_sum" (.cons (.var 7) (.cons (.var 7) .nil))) (.tup .nil)) (.cmp .NotEq (.call "lot_sum" (.cons (.var 7) (.cons (.tup .nil) .nil))) (.var 7)))) (.cons (.ret (.bl false)) .nil) .nil) (.cons (.set 2 (.blt .tuple (.cons (.lc [10] (.nm 10) (.rng1 (.call "_law_roll" (.cons (.var 0) (.cons (.int 12) .nil)))) .no c35_5) .nil))) (.cons (.set 3 (.blt .tuple (.cons (.blt .sorted (.cons (.sl (.call "_law_mixed" (.cons (.var 0) (.cons (.rg1 false (.blt .len (.cons (.var 2) .nil))) .nil))) .no (.yes (.call "_law_roll" (.cons (.var 0) (.cons (.bin .Add (.blt .len (.cons (.var 2) .nil)) (.int 1)) .nil))))) .nil)) .nil))) (.cons (.set 4 (.call "sum_of_pick" (.cons (.var 2) (.cons (.var 3) .nil)))) (.cons (.ifs (.cmp .NotEq (.var 4) (.call "_law_lo_total" (.cons (.lc [9] (.nm 9) (.ex (.var 3)) .no c35_4) .nil))) (.cons (.ret (.bl false)) .nil) .nil) (.cons (.set 5 (.lc [9] (.nm 9) (.ex (.var 3)) c35_3 (.var 9))) (.cons (.ifs (.cmp .NotEq (.call "does_meet_oddly" (.cons (.var 4) (.cons (.var 7) .nil))) (.cmp .Eq (.bin .Mod (.blt .len (.cons (.var 5) .nil)) (.int 2)) (.int 1))) (.cons (.ret (.bl false)) .nil) .nil) (.cons (.ifs (.cmp .NotEq (.lc [11] (.nm 11) (.ex (.call "_law_near" (.cons (.var 0) (.cons (.var 1) (.cons (.var 7) .nil))))) c35_2 (.var 11)) (.lst .nil)) (.cons (.ret (.bl false)) .nil) .nil) (.cons (.set 6 (.lst (.cons (.var 2) (.cons (.blt .list (.cons (.var 2) .nil)) (.cons (.bin .Add (.var 2) (.var 2)) (.cons (.bin .Add (.var 2) (.tup (.cons .non .nil))) (.cons (.bin .Mult (.tup (.cons (.var 7) .nil)) (.int 64)) (.cons (.bin .Mult (.tup (.cons (.var 7) .nil)) (.int 65)) (.cons (.bin .Add (.var 2) (.tup (.cons (.tup (.cons (.int 24) .nil)) .nil))) (.cons (.bin .Add (.var 2) (.tup (.cons (.tup (.cons (.int 1) (.cons (.int 0) .nil))) .nil))) (.cons (.tup .nil) (.cons .non (.cons (.int 5) (.cons (.str "") (.cons .dic .nil))))))))))))))) (.cons (.set 6 (.bin .Add (.var 6) (.lst (.cons (.tup (.cons (.blt .list (.cons (.var 7) .nil)) .nil)) (.cons (.tup (.cons (.tup (.cons (.bl true) .nil)) .nil)) (.cons (.tup (.cons (.tup (.cons (.tup (.cons (.int 0) .nil)) .nil)) .nil)) (.cons (.var 7) .nil))))))) (.cons (.ret (.cmp .Eq (.lc [11] (.nm 11) (.ex (.var 6)) c35_1 (.var 11)) (.lst .nil))) .nil))))))))))))))
def r35 : Dr := ⟨"_law_right", ["dice", "many", "lots", "pick", "told", "met", "near", "one", "other", "at", "turn", "value"], 1, defArgs (top 35), defBody (top 35), defScope (top 35), c35⟩
def c36_1 : Ss := (.cons (.ifs (.not (.call "_law_right" (.cons (.var 4) .nil))) (.cons (.ret (.bl false)) .nil) .nil) .nil)
def c36_2 : Ss := (.cons (.set 4 (.call "_law_dice" (.cons (.var 0) (.cons (.var 1) .nil)))) (.cons (.for (.nm 5) (.rng1 (.int 6)) c36_1) .nil))
def c36 : Ss := (.cons (.for (.nm 1) (.rng1 (.blt .max2 (.cons (.int 1) (.cons (.blt .min2 (.cons (.int 3) (.cons (.blt .len (.cons (.var 0) .nil)) .nil))) .nil)))) c36_2) (.cons (.set 2 (.lst (.cons (.call "lot_sum" (.cons (.tup (.cons (.int 0) (.cons (.int 1) (.cons (.int 3) .nil)))) (.cons (.tup (.cons (.int 0) (.cons (.int 2) (.cons (.int 4) .nil)))) .nil))) (.cons (.call "lot_sum" (.cons (.tup .nil) (.cons (.tup .nil) .nil))) (.cons (.call "sum_of_pick" (.cons (.tup (.cons (.tup (.cons (.int 0) .nil)) (.cons (.tup (.cons (.int 0) (.cons (.int 1) .nil))) (.cons (.tup (.cons (.int 1) .nil)) .nil)))) (.cons (.tup (.cons (.int 0) (.cons (.int 1) (.cons (.int 2) .nil)))) .nil))) (.cons (.call "sum_of_pick" (.cons (.tup .nil) (.cons (.tup .nil) .nil))) .nil)))))) (.cons (.ifs (.or (.cmp .NotEq (.var 2) (.lst (.cons (.tup (.cons (.int 1) (.cons (.int 2) (.cons (.int 3) (.cons (.int 4) .nil))))) (.cons (.tup .nil) (.cons (.tup .nil) (.cons (.tup .nil) .nil)))))) (.or (.call "does_meet_oddly" (.cons (.tup (.cons (.int 0) (.cons (.int 1) (.cons (.int 2) .nil)))) (.cons (.tup (.cons (.int 1) (.cons (.int 2) (.cons (.int 5) .nil)))) .nil))) (.not (.call "does_meet_oddly" (.cons (.tup (.cons (.int 23) .nil)) (.cons (.tup (.cons (.int 0) (.cons (.int 23) .nil))) .nil)))))) (.cons (.ret (.bl false)) .nil) .nil) (.cons (.set 3 (.lst (.cons (.call "is_lot_of" (.cons (.int 3) (.cons (.tup (.cons (.int 0) (.cons (.int 2) .nil))) .nil))) (.cons (.call "is_lot_of" (.cons (.int 3) (.cons (.tup (.cons (.int 0) (.cons (.int 3) .nil))) .nil))) (.cons (.call "is_lot_of" (.cons (.int 24) (.cons (.tup (.cons (.int 23) .nil)) .nil))) (.cons (.call "are_lots" (.cons (.tup (.cons (.tup (.cons (.int 0) .nil)) (.cons (.tup (.cons (.int 0) .nil)) .nil))) .nil)) (.cons (.call "are_lots" (.cons (.tup (.cons (.int 0) (.cons (.int 1) .nil))) .nil)) .nil))))))) (.cons (.ret (.and (.cmp .Eq (.var 3) (.lst (.cons (.bl true) (.cons (.bl false) (.cons (.bl true) (.cons (.bl true) (.cons (.bl false) .nil))))))) (.cmp .Eq (.tup (.cons (.con 24) (.cons (.con 64) .nil))) (.tup (.cons (.int 24) (.cons (.int 64) .nil)))))) .nil)))))
def r36 : Dr := ⟨"law", ["script", "spot", "told", "judged", "dice", "turn"], 1, defArgs (top 36), defBody (top 36), defScope (top 36), c36⟩
def rs : List Dr := [r1, r2, r3, r4, r5, r6, r15, r16, r17, r18, r19, r20, r21, r22, r23, r25, r26, r27, r28, r29, r30, r31, r32, r33, r34, r35, r36]
def cons : List (Str × Int) := [("MOST_LINES", 24), ("MOST_LOTS", 64)]
theorem b1 : BindP r1 := fun kV doc pm an cdv ct us hl => match us, hl with
  | [_], _ => rfl
theorem b2 : BindP r2 := fun kV doc pm an cdv ct us hl => match us, hl with
  | [_, _, _], _ => rfl
theorem b3 : BindP r3 := fun kV doc pm an cdv ct us hl => match us, hl with
  | [_, _], _ => rfl
theorem b4 : BindP r4 := fun kV doc pm an cdv ct us hl => match us, hl with
  | [_], _ => rfl
theorem b5 : BindP r5 := fun kV doc pm an cdv ct us hl => match us, hl with
  | [_], _ => rfl
theorem b6 : BindP r6 := fun kV doc pm an cdv ct us hl => match us, hl with
  | [_], _ => rfl
theorem b15 : BindP r15 := fun kV doc pm an cdv ct us hl => match us, hl with
  | [_, _], _ => rfl
theorem b16 : BindP r16 := fun kV doc pm an cdv ct us hl => match us, hl with
  | [_], _ => rfl
theorem b17 : BindP r17 := fun kV doc pm an cdv ct us hl => match us, hl with
  | [_, _], _ => rfl
theorem b18 : BindP r18 := fun kV doc pm an cdv ct us hl => match us, hl with
  | [_, _], _ => rfl
theorem b19 : BindP r19 := fun kV doc pm an cdv ct us hl => match us, hl with
  | [_, _], _ => rfl
theorem b20 : BindP r20 := fun kV doc pm an cdv ct us hl => match us, hl with
  | [_], _ => rfl
theorem b21 : BindP r21 := fun kV doc pm an cdv ct us hl => match us, hl with
  | [_], _ => rfl
theorem b22 : BindP r22 := fun kV doc pm an cdv ct us hl => match us, hl with
  | [_], _ => rfl
theorem b23 : BindP r23 := fun kV doc pm an cdv ct us hl => match us, hl with
  | [_, _], _ => rfl
theorem b25 : BindP r25 := fun kV doc pm an cdv ct us hl => match us, hl with
  | [_, _], _ => rfl
theorem b26 : BindP r26 := fun kV doc pm an cdv ct us hl => match us, hl with
  | [_, _], _ => rfl
theorem b27 : BindP r27 := fun kV doc pm an cdv ct us hl => match us, hl with
  | [_, _], _ => rfl
theorem b28 : BindP r28 := fun kV doc pm an cdv ct us hl => match us, hl with
  | [_, _], _ => rfl
theorem b29 : BindP r29 := fun kV doc pm an cdv ct us hl => match us, hl with
  | [_], _ => rfl
theorem b30 : BindP r30 := fun kV doc pm an cdv ct us hl => match us, hl with
  | [_, _], _ => rfl
theorem b31 : BindP r31 := fun kV doc pm an cdv ct us hl => match us, hl with
  | [_, _], _ => rfl
theorem b32 : BindP r32 := fun kV doc pm an cdv ct us hl => match us, hl with
  | [_, _], _ => rfl
theorem b33 : BindP r33 := fun kV doc pm an cdv ct us hl => match us, hl with
  | [_, _, _], _ => rfl
theorem b34 : BindP r34 := fun kV doc pm an cdv ct us hl => match us, hl with
  | [_], _ => rfl
theorem b35 : BindP r35 := fun kV doc pm an cdv ct us hl => match us, hl with
  | [_], _ => rfl
theorem b36 : BindP r36 := fun kV doc pm an cdv ct us hl => match us, hl with
  | [_], _ => rfl
theorem binds : ∀ r ∈ rs, BindP r := fun r hr => by
  simp only [rs, List.mem_cons, List.not_mem_nil, or_false] at hr
  rcases hr with rfl | rfl | rfl | rfl | rfl | rfl | rfl | rfl | rfl | rfl | rfl | rfl | rfl | rfl | rfl | rfl | rfl | rfl | rfl | rfl | rfl | rfl | rfl | rfl | rfl | rfl | rfl
  · exact b1
  · exact b2
  · exact b3
  · exact b4
  · exact b5
  · exact b6
  · exact b15
  · exact b16
  · exact b17
  · exact b18
  · exact b19
  · exact b20
  · exact b21
  · exact b22
  · exact b23
  · exact b25
  · exact b26
  · exact b27
  · exact b28
  · exact b29
  · exact b30
  · exact b31
  · exact b32
  · exact b33
  · exact b34
  · exact b35
  · exact b36
theorem names : (rs.map (·.name)).Nodup := by decide +kernel
theorem checked : rs.all (okR (rs.map (·.name)) cons) = true := by decide +kernel
abbrev T : Txt := txt rs
theorem u1 (n : Nat) (vs : List D) (S : Sto) : run T (n + 1) "is_whole" vs S = runD (run T n) ⟨1, 1, c1⟩ vs S := run_r (r := r1) (by simp [rs]) names n vs S
theorem u2 (n : Nat) (vs : List D) (S : Sto) : run T (n + 1) "is_between" vs S = runD (run T n) ⟨3, 3, c2⟩ vs S := run_r (r := r2) (by simp [rs]) names n vs S
theorem u3 (n : Nat) (vs : List D) (S : Sto) : run T (n + 1) "is_ascending" vs S = runD (run T n) ⟨2, 4, c3⟩ vs S := run_r (r := r3) (by simp [rs]) names n vs S
theorem u4 (n : Nat) (vs : List D) (S : Sto) : run T (n + 1) "mask_of" vs S = runD (run T n) ⟨1, 2, c4⟩ vs S := run_r (r := r4) (by simp [rs]) names n vs S
theorem u5 (n : Nat) (vs : List D) (S : Sto) : run T (n + 1) "lot_of" vs S = runD (run T n) ⟨1, 2, c5⟩ vs S := run_r (r := r5) (by simp [rs]) names n vs S
theorem u6 (n : Nat) (vs : List D) (S : Sto) : run T (n + 1) "parity" vs S = runD (run T n) ⟨1, 1, c6⟩ vs S := run_r (r := r6) (by simp [rs]) names n vs S
theorem u15 (n : Nat) (vs : List D) (S : Sto) : run T (n + 1) "is_lot_of" vs S = runD (run T n) ⟨2, 2, c15⟩ vs S := run_r (r := r15) (by simp [rs]) names n vs S
theorem u16 (n : Nat) (vs : List D) (S : Sto) : run T (n + 1) "are_lots" vs S = runD (run T n) ⟨1, 2, c16⟩ vs S := run_r (r := r16) (by simp [rs]) names n vs S
theorem u17 (n : Nat) (vs : List D) (S : Sto) : run T (n + 1) "lot_sum" vs S = runD (run T n) ⟨2, 2, c17⟩ vs S := run_r (r := r17) (by simp [rs]) names n vs S
theorem u18 (n : Nat) (vs : List D) (S : Sto) : run T (n + 1) "does_meet_oddly" vs S = runD (run T n) ⟨2, 2, c18⟩ vs S := run_r (r := r18) (by simp [rs]) names n vs S
theorem u19 (n : Nat) (vs : List D) (S : Sto) : run T (n + 1) "sum_of_pick" vs S = runD (run T n) ⟨2, 2, c19⟩ vs S := run_r (r := r19) (by simp [rs]) names n vs S
theorem u20 (n : Nat) (vs : List D) (S : Sto) : run T (n + 1) "_demand_many" vs S = runD (run T n) ⟨1, 1, c20⟩ vs S := run_r (r := r20) (by simp [rs]) names n vs S
theorem u21 (n : Nat) (vs : List D) (S : Sto) : run T (n + 1) "_demand_lot" vs S = runD (run T n) ⟨1, 1, c21⟩ vs S := run_r (r := r21) (by simp [rs]) names n vs S
theorem u22 (n : Nat) (vs : List D) (S : Sto) : run T (n + 1) "_demand_lots" vs S = runD (run T n) ⟨1, 1, c22⟩ vs S := run_r (r := r22) (by simp [rs]) names n vs S
theorem u23 (n : Nat) (vs : List D) (S : Sto) : run T (n + 1) "_pick_sum" vs S = runD (run T n) ⟨2, 4, c23⟩ vs S := run_r (r := r23) (by simp [rs]) names n vs S
theorem u25 (n : Nat) (vs : List D) (S : Sto) : run T (n + 1) "_law_dice" vs S = runD (run T n) ⟨2, 4, c25⟩ vs S := run_r (r := r25) (by simp [rs]) names n vs S
theorem u26 (n : Nat) (vs : List D) (S : Sto) : run T (n + 1) "_law_roll" vs S = runD (run T n) ⟨2, 5, c26⟩ vs S := run_r (r := r26) (by simp [rs]) names n vs S
theorem u27 (n : Nat) (vs : List D) (S : Sto) : run T (n + 1) "_law_mixed" vs S = runD (run T n) ⟨2, 4, c27⟩ vs S := run_r (r := r27) (by simp [rs]) names n vs S
theorem u28 (n : Nat) (vs : List D) (S : Sto) : run T (n + 1) "_law_lo_sum" vs S = runD (run T n) ⟨2, 3, c28⟩ vs S := run_r (r := r28) (by simp [rs]) names n vs S
theorem u29 (n : Nat) (vs : List D) (S : Sto) : run T (n + 1) "_law_lo_total" vs S = runD (run T n) ⟨1, 4, c29⟩ vs S := run_r (r := r29) (by simp [rs]) names n vs S
theorem u30 (n : Nat) (vs : List D) (S : Sto) : run T (n + 1) "_law_lo_is_odd" vs S = runD (run T n) ⟨2, 3, c30⟩ vs S := run_r (r := r30) (by simp [rs]) names n vs S
theorem u31 (n : Nat) (vs : List D) (S : Sto) : run T (n + 1) "_law_lo_is" vs S = runD (run T n) ⟨2, 3, c31⟩ vs S := run_r (r := r31) (by simp [rs]) names n vs S
theorem u32 (n : Nat) (vs : List D) (S : Sto) : run T (n + 1) "_law_lo_any" vs S = runD (run T n) ⟨2, 4, c32⟩ vs S := run_r (r := r32) (by simp [rs]) names n vs S
theorem u33 (n : Nat) (vs : List D) (S : Sto) : run T (n + 1) "_law_near" vs S = runD (run T n) ⟨3, 5, c33⟩ vs S := run_r (r := r33) (by simp [rs]) names n vs S
theorem u34 (n : Nat) (vs : List D) (S : Sto) : run T (n + 1) "_law_are_lots" vs S = runD (run T n) ⟨1, 2, c34⟩ vs S := run_r (r := r34) (by simp [rs]) names n vs S
theorem u35 (n : Nat) (vs : List D) (S : Sto) : run T (n + 1) "_law_right" vs S = runD (run T n) ⟨1, 12, c35⟩ vs S := run_r (r := r35) (by simp [rs]) names n vs S
theorem u36 (n : Nat) (vs : List D) (S : Sto) : run T (n + 1) "law" vs S = runD (run T n) ⟨1, 6, c36⟩ vs S := run_r (r := r36) (by simp [rs]) names n vs S
end K00
end
section
set_option Elab.async false
set_option linter.all false
set_option autoImplicit false
set_option maxHeartbeats 4000000
namespace K00
open PySem L2 Z
theorem f1 (n : Nat) (v : D) (S : Sto) (h : v.cl S.length = true) : run T (n + 1) "is_whole" [v] S = some (.bl (wholeD v), S) := by
  rw [u1]
  obtain ⟨b, e1, c, e2, e3⟩ := isi_int h
  rw [← e3]
  unfold runD c1
  cases b <;> cases c <;> simp [exs, ex1, evE, getV, e1, e2, gc_blS, truF]
theorem f2 (n : Nat) (v : D) (a b : Int) (S : Sto) (h : v.cl S.length = true) : run T (n + 2) "is_between" [v, .int a, .int b] S = some (.bl (betD v a b), S) := by
  rw [u2]
  unfold runD c2
  simp [exs, ex1, evE, evS, getV, f1 n v S h, gc_blS, truF]
  cases v with
  | int i =>
    simp [wholeD, isInt, cmpF, gc_blS, betD]
    by_cases h1 : a ≤ i <;> simp [h1, gc_blS]
  | _ => simp [wholeD, isInt, betD, gc_blS]
theorem t3_no (n : Nat) (v : D) (b a : Int) (x : Option D) (S : Sto) (d : D) (h : d.cl S.length = true) (hb : betD d a (b - 1) = false) : frS (run T (n + 2)) S.length (.nm 3) c3_1 d [some v, some (.int b), some (.int a), x] S = some (.ret (.bl false), [some v, some (.int b), some (.int a), some d], S) := by
  unfold frS c3_1
  simp [tgF, exs, ex1, evT, evE, evS, getV, f2 n d a (b - 1) S h, gc_blS, gc_intS, truF, binF, hb]
theorem t3_yes (n : Nat) (v : D) (b a i : Int) (x : Option D) (S : Sto) (hb : betD (.int i) a (b - 1) = true) : frS (run T (n + 2)) S.length (.nm 3) c3_1 (.int i) [some v, some (.int b), some (.int a), x] S = some (.nx, [some v, some (.int b), some (.int (i + 1)), some (.int i)], S) := by
  unfold frS c3_1
  simp [tgF, exs, ex1, evT, evE, evS, getV, f2 n (.int i) a (b - 1) S rfl, gc_blS, gc_intS, truF, binF, hb]
theorem f3_loop (n : Nat) (v : D) (b : Int) (S : Sto) : ∀ (ds ds0 : List D) (a : Int) (x : Option D), clL S.length ds = true → ∃ e, forF (frS (run T (n + 2)) S.length (.nm 3) c3_1) (fun S2 => still S2 none ds0) ds [some v, some (.int b), some (.int a), x] S = some (if ascL (b - 1) a ds = true then .nx else .ret (.bl false), e, S)
  | [], ds0, a, x, h => ⟨_, for_nil rfl⟩
  | d :: r, ds0, a, x, h => by
    have h1 : d.cl S.length = true := clL_mem h d List.mem_cons_self
    have h2 : clL S.length r = true := clL_of fun z hz => clL_mem h z (List.mem_cons_of_mem _ hz)
    cases hb : betD d a (b - 1) with
    | false =>
      refine ⟨[some v, some (.int b), some (.int a), some d], (for_ret rfl (t3_no n v b a x S d h1 hb)).trans ?_⟩
      simp [ascL, hb]
    | true =>
      cases d with
      | int i =>
        rw [for_nx rfl (t3_yes n v b a i x S hb)]
        obtain ⟨e, q⟩ := f3_loop n v b S r ds0 (i + 1) _ h2
        exact ⟨e, by rw [q]; simp [ascL, hb]⟩
      | _ => cases hb
theorem f3 (n : Nat) (v : D) (b : Int) (S : Sto) (h : v.cl S.length = true) : run T (n + 3) "is_ascending" [v, .int b] S = some (.bl (ascD v b), S) := by
  rw [u3]
  unfold runD c3
  cases v with
  | tup ds =>
    obtain ⟨e, q⟩ := f3_loop n (.tup ds) b S ds ds 0 none h
    have hi : evI (run T (n + 2)) S.length [some (.tup ds), some (.int b), some (.int 0), none] (.ex (.var 0)) S = some (ds, none, S) := by
      simp [evI, evE, getV, itV]
    have hf := x_for (φ := run T (n + 2)) (base := S.length) (g := .nm 3) (b := c3_1) hi
    rw [q] at hf
    simp [exs, ex1.eq_1, ex1.eq_8, ex1.eq_9, ex1.eq_10, ex1.eq_11, ex1.eq_12, hf, evE, evT, getV, isi_tup h, gc_blS, truF, tupD]
    unfold ascD
    cases hh : ascL (b - 1) 0 ds <;> simp [gc_blS, hh]
  | _ => simp [exs, ex1, evE, evT, evI, getV, isi_tup h, gc_blS, truF, tupD, ascD]
/-! ### masks -/
theorem t4 (n : Nat) (v : D) (x : Option D) (i : Int) (S : Sto) (h0 : 0 ≤ i) (h1 : i ≤ 1000000) : lcS (run T n) S.length [some v, x] [1] (.nm 1) .no c4_1 (.int i) S = some (some (.int (2 ^ i.toNat)), S) := by
  unfold lcS c4_1
  simp [tgF, wipeE, evO, evE, getV, binF, h0, h1, gc_intS]
theorem f4 (n : Nat) (ns : List Int) (S : Sto) (h : ∀ i, i ∈ ns → 0 ≤ i ∧ i ≤ 1000000) (hl : ns.length ≤ 1000) : run T (n + 1) "mask_of" [.tup (ns.map .int)] S = some (.int (maskI ns), S) := by
  rw [u4]
  unfold runD c4
  have hi : evI (run T n) S.length [some (.tup (ns.map .int)), none] (.ex (.var 0)) S = some (ns.map .int, none, S) := by
    simp [evI, evE, getV, itV]
  have hc := e_lc (φ := run T n) (base := S.length) (own := [1]) (g := .nm 1) (c := .no) (e := c4_1) rfl hi (lc_intsM (fun i => .int (2 ^ i.toNat)) rfl ns (by show ns.length ≤ 100000; omega) fun i hi => t4 n _ _ i S (h i hi).1 (h i hi).2)
  obtain ⟨ms, hms⟩ : ∃ ms : List Int, ms = ns.map fun i => (2 : Int) ^ i.toNat := ⟨_, rfl⟩
  rw [show ns.map (fun i => D.int (2 ^ i.toNat)) = ms.map D.int by rw [hms, List.map_map]; rfl] at hc
  have hs := e_blt (φ := run T n) (base := S.length) (env := [some (.tup (ns.map .int)), none]) (S := S) (b := .sum) (es := .cons (.lc [1] (.nm 1) (.ex (.var 0)) .no c4_1) .nil) (vs := [.ref S.length]) (S1 := S ++ [.lst (ms.map D.int)]) (by simp [evS, hc, new, gc_new0 (o := .lst (ms.map D.int)) (cl_ints _)])
  have e : maskI ns = ms.sum := by rw [hms]; rfl
  simp [exs, ex1, hs, bltF, lst_new, intsOf_ints, gc_intA, gc_intS, e]
/-! ### bits -/
theorem t5 (n : Nat) (m : Int) (x : Option D) (i : Int) (S : Sto) (h0 : 0 ≤ i) : lcS (run T n) S.length [some (.int m), x] [1] (.nm 1) c5_1 (.var 1) (.int i) S = some (if Builtin.bitAnd (m / 2 ^ i.toNat) 1 = 0 then none else some (.int i), S) := by
  unfold lcS c5_1
  simp [tgF, wipeE, evO, evE, getV, binF, h0, gc_intS, truF]
  by_cases h : Builtin.bitAnd (m / 2 ^ i.toNat) 1 = 0
  · simp [h]
  · have h' : (Builtin.bitAnd (m / 2 ^ i.toNat) 1 != 0) = true := by simpa using h
    simp [h, h']
theorem hi5 (n : Nat) (m : Nat) (S : Sto) (hm : Low m) : evI (run T n) S.length [some (.int (m : Int)), none] (.rng1 (.met .bits (.var 0) .nil)) S = some (((List.range (Builtin.Int.intBits (m : Int))).map fun k : Nat => (k : Int)).map .int, none, S) := by
  have h1 : evE (run T n) S.length [some (.int (m : Int)), none] (.met .bits (.var 0) .nil) S = some (.int (Builtin.Int.intBits (m : Int) : Nat), S) := by
    simp [evE, getV, evS, metP, metF]
  rw [evI, h1]
  simp only [low_rg hm, if_true, rgI_map, Int.zero_add, Int.toNat_natCast]
theorem hc5 (n : Nat) (m : Nat) (S : Sto) (hm : Low m) : evE (run T n) S.length [some (.int (m : Int)), none] (.lc [1] (.nm 1) (.rng1 (.met .bits (.var 0) .nil)) c5_1 (.var 1)) S = gc S.length (new S (.lst ((lotI m).map .int))) := by
  have hK := low_bits hm
  rw [← lot_bits m hm]
  refine e_lc (φ := run T n) (base := S.length) (own := [1]) (g := .nm 1) (c := c5_1) (e := .var 1) rfl (hi5 n m S hm) (lc_ints (fun i => if Builtin.bitAnd ((m : Int) / 2 ^ i.toNat) 1 = 0 then none else some (.int i)) rfl _ ?_ fun i hi => t5 n m none i S ?_)
  · rw [List.length_map, List.length_range]
    show _ ≤ 100000
    omega
  · obtain ⟨k, _, rfl⟩ := List.mem_map.mp hi
    exact Int.natCast_nonneg k
theorem f5a (n : Nat) (x : D) (ms : List Int) (S : Sto) (hc : evE (run T n) S.length [some x, none] (.lc [1] (.nm 1) (.rng1 (.met .bits (.var 0) .nil)) c5_1 (.var 1)) S = gc S.length (new S (.lst (ms.map .int)))) : run T (n + 1) "lot_of" [x] S = some (.tup (ms.map .int), S) := by
  rw [u5]
  have hs := e_blt (φ := run T n) (base := S.length) (env := [some x, none]) (S := S) (b := .tuple) (es := .cons (.lc [1] (.nm 1) (.rng1 (.met .bits (.var 0) .nil)) c5_1 (.var 1)) .nil) (vs := [.ref S.length]) (S1 := S ++ [.lst (ms.map D.int)]) (by simp [evS, hc, new, gc_new0 (o := .lst (ms.map D.int)) (cl_ints _)])
  unfold runD c5
  simp [exs, ex1, hs, bltF, items_new, gc_intsA, gc_ints]
theorem f5 (n : Nat) (m : Nat) (S : Sto) (hm : Low m) : run T (n + 1) "lot_of" [.int (m : Int)] S = some (.tup ((lotI m).map .int), S) := f5a n _ _ S (hc5 n m S hm)
theorem f6a (n : Nat) (x : D) (ms : List Int) (S : Sto) (hl : run T (n + 1) "lot_of" [x] S = some (.tup (ms.map .int), S)) : run T (n + 2) "parity" [x] S = some (.int (Builtin.bitAnd (ms.length : Int) 1), S) := by
  rw [u6]
  unfold runD c6
  simp [exs, ex1, evE, evS, getV, hl, gc_ints, bltF, gc_intS, binF, itemsOf]
theorem f20 (n : Nat) (v : D) (S : Sto) (h : v.cl S.length = true) (hb : betD v 1 24 = true) : run T (n + 3) "_demand_many" [v] S = some (.non, S) := by
  rw [u20]
  unfold runD c20
  simp [exs, ex1, evT, evE, evS, getV, f2 n v 1 24 S h, gc_blS, truF, hb, gc_self cl_non]
theorem f21 (n : Nat) (v : D) (S : Sto) (h : v.cl S.length = true) (hb : ascD v 24 = true) : run T (n + 4) "_demand_lot" [v] S = some (.non, S) := by
  rw [u21]
  unfold runD c21
  simp [exs, ex1, evT, evE, evS, getV, f3 n v 24 S h, gc_blS, truF, hb, gc_self cl_non]
theorem f15 (n : Nat) (many : Int) (v : D) (S : Sto) (h : v.cl S.length = true) (hb : betD (.int many) 1 24 = true) : run T (n + 4) "is_lot_of" [.int many, v] S = some (.bl (ascD v many), S) := by
  rw [u15]
  unfold runD c15
  simp [exs, ex1, evT, evE, evS, getV, f20 n (.int many) S rfl hb, f3 n v many S h, gc_blS, gc_self cl_non]
theorem f4' (n : Nat) (x : D) (ns : List Int) (S : Sto) (hx : x = .tup (ns.map .int)) (h : Lot ns) (hl : ns.length ≤ 1000) : run T (n + 1) "mask_of" [x] S = some (.int (maskN ns : Nat), S) := by
  rw [hx, f4 n ns S (fun i hi => ⟨(h.lo i hi).1, by have := (h.lo i hi).2; omega⟩) hl, maskI_nat]
theorem f17a (n : Nat) (x y : D) (a b c : Int) (w : D) (S : Sto) (hx : run T (n + 4) "_demand_lot" [x] S = some (.non, S)) (hy : run T (n + 4) "_demand_lot" [y] S = some (.non, S)) (h1 : run T (n + 4) "mask_of" [x] S = some (.int a, S)) (h2 : run T (n + 4) "mask_of" [y] S = some (.int b, S))
    (h3 : Builtin.bitXor a b = c) (h4 : run T (n + 4) "lot_of" [.int c] S = some (w, S)) (hw : w.cl S.length = true) : run T (n + 5) "lot_sum" [x, y] S = some (w, S) := by
  rw [u17]
  unfold runD c17
  simp [exs, ex1, evE, evS, getV, hx, hy, h1, h2, gc_self cl_non, gc_intS, binF, h3, h4, gc_self hw]
theorem f18a (n : Nat) (x y : D) (a b c e : Int) (S : Sto) (hx : run T (n + 4) "_demand_lot" [x] S = some (.non, S)) (hy : run T (n + 4) "_demand_lot" [y] S = some (.non, S)) (h1 : run T (n + 4) "mask_of" [x] S = some (.int a, S)) (h2 : run T (n + 4) "mask_of" [y] S = some (.int b, S))
    (h3 : Builtin.bitAnd a b = c) (h4 : run T (n + 4) "parity" [.int c] S = some (.int e, S)) : run T (n + 5) "does_meet_oddly" [x, y] S = some (.bl (decide (e = 1)), S) := by
  rw [u18]
  unfold runD c18
  simp [exs, ex1, evE, evS, getV, hx, hy, h1, h2, gc_self cl_non, gc_intS, binF, h3, h4, cmpF, gc_blS, eqD_int]
/-- lots: a tuple of at most 64 of them -/
def areL (v : D) : Bool := match v with
  | .tup ds => decide (ds.length ≤ 64) && ds.all fun d => ascD d 24
  | _ => false
theorem t16 (n : Nat) (v : D) (x : Option D) (d : D) (S : Sto) (h : d.cl S.length = true) : lcS (run T (n + 3)) S.length [some v, x] [1] (.nm 1) .no c16_1 d S = some (some (.bl (ascD d 24)), S) := by
  unfold lcS c16_1
  simp [tgF, wipeE, evO, evE, evS, getV, f3 n d 24 S h, gc_blS]
theorem f16 (n : Nat) (v : D) (S : Sto) (h : v.cl S.length = true) : run T (n + 4) "are_lots" [v] S = some (.bl (areL v), S) := by
  rw [u16]
  cases v with
  | tup ds =>
    by_cases hl : ds.length ≤ 64
    · have hi : evI (run T (n + 3)) S.length [some (.tup ds), none] (.ex (.var 0)) S = some (ds, none, S) := by
        simp [evI, evE, getV, itV]
      have hc := e_lc (φ := run T (n + 3)) (base := S.length) (own := [1]) (g := .nm 1) (c := .no) (e := c16_1) rfl hi (lc_bls (fun d => ascD d 24) rfl ds (by show _ ≤ 100000; omega) fun d hd => t16 n _ none d S (clL_mem h d hd))
      obtain ⟨bs, hbs⟩ : ∃ bs : List Bool, bs = ds.map fun d => ascD d 24 := ⟨_, rfl⟩
      rw [← hbs] at hc
      have hs := e_blt (φ := run T (n + 3)) (base := S.length) (env := [some (.tup ds), none]) (S := S) (b := .all) (es := .cons (.lc [1] (.nm 1) (.ex (.var 0)) .no c16_1) .nil) (vs := [.ref S.length]) (S1 := S ++ [.lst (bs.map D.bl)]) (by simp [evS, hc, new, gc_new0 (o := .lst (bs.map D.bl)) (cl_bls _)])
      have hs2 : evE (run T (n + 3)) S.length [some (.tup ds), none] (.blt .all (.cons (.lc [1] (.nm 1) (.ex (.var 0)) .no c16_1) .nil)) S = some (.bl (bs.all id), S) := by
        rw [hs]
        simp [bltF, lst_new, boolsOf_bls, gc_blA]
      have hlt : ¬ ((64 : Int) < (ds.length : Int)) := by omega
      have h1 : evT (run T (n + 3)) S.length [some (.tup ds), none] (.or (.not (.isi (.var 0) .tuple)) (.cmp .Gt (.blt .len (.cons (.var 0) .nil)) (.con 64))) S = some (false, S) := by
        simp [evT, evE, evS, getV, isi_tup h, tupD, gc_blS, truF, bltF, itemsOf, gc_intS, cmpF, hlt]
      refine (run_ret (c := ⟨1, 2, c16⟩) rfl ((xs_nx ((x_if h1).trans xs_nil)).trans (xs_ret (x_ret hs2)))).trans ?_
      have e : ds.all (fun d => ascD d 24) = bs.all id := by rw [hbs, List.all_map]; rfl
      have ea : areL (.tup ds) = bs.all id := by
        show (decide (ds.length ≤ 64) && ds.all fun d => ascD d 24) = _
        rw [decide_eq_true hl, Bool.true_and, e]
      rw [gc_blS, ea]
    · have hlt : (64 : Int) < (ds.length : Int) := by omega
      have h1 : evT (run T (n + 3)) S.length [some (.tup ds), none] (.or (.not (.isi (.var 0) .tuple)) (.cmp .Gt (.blt .len (.cons (.var 0) .nil)) (.con 64))) S = some (true, S) := by
        simp [evT, evE, evS, getV, isi_tup h, tupD, gc_blS, truF, bltF, itemsOf, gc_intS, cmpF, hlt]
      refine (run_ret (c := ⟨1, 2, c16⟩) rfl (xs_ret ((x_if h1).trans (xs_ret (x_ret e_bl))))).trans ?_
      have ea : areL (.tup ds) = false := by
        show (decide (ds.length ≤ 64) && ds.all fun d => ascD d 24) = _
        rw [decide_eq_false hl, Bool.false_and]
      rw [gc_blS, ea]
  | _ =>
    unfold runD c16
    simp [exs, ex1, evT, evE, getV, isi_tup h, gc_blS, truF, tupD, areL]
theorem f22 (n : Nat) (v : D) (S : Sto) (h : v.cl S.length = true) (hb : areL v = true) : run T (n + 5) "_demand_lots" [v] S = some (.non, S) := by
  rw [u22]
  unfold runD c22
  simp [exs, ex1, evT, evE, evS, getV, f16 n v S h, gc_blS, truF, hb, gc_self cl_non]
/-! ### sums of picks -/
theorem t23 (n : Nat) (ls pk : D) (a : Int) (b : Nat) (x : Option D) (k : D) (l : D) (S : Sto) (c : Int) (h1 : ixF ls k S = some l) (hl : l.cl S.length = true) (h2 : run T (n + 1) "mask_of" [l] S = some (.int (b : Int), S)) (h3 : Builtin.bitXor a b = c) :
    frS (run T (n + 1)) S.length (.nm 3) c23_1 k [some ls, some pk, some (.int a), x] S = some (.nx, [some ls, some pk, some (.int c), some k], S) := by
  unfold frS c23_1
  simp [tgF, exs, ex1, evE, evS, getV, h1, gc_self hl, h2, gc_intS, augOk, binF, h3]
theorem f23_loop (n : Nat) (ls pk : D) (S : Sto) (at_ : D → D) (mk : D → Nat) : ∀ (ks ks0 : List D) (a : Nat) (x : Option D), (∀ k, k ∈ ks → ixF ls k S = some (at_ k) ∧ (at_ k).cl S.length = true ∧ run T (n + 1) "mask_of" [at_ k] S = some (.int (mk k : Int), S)) →
    ∃ y, forF (frS (run T (n + 1)) S.length (.nm 3) c23_1) (fun S2 => still S2 none ks0) ks [some ls, some pk, some (.int (a : Int)), x] S = some (.nx, [some ls, some pk, some (.int ((ks.foldl (fun a k => a ^^^ mk k) a : Nat) : Int)), y], S)
  | [], ks0, a, x, h => ⟨x, for_nil rfl⟩
  | k :: ks, ks0, a, x, h => by
    obtain ⟨h1, hl, h2⟩ := h k List.mem_cons_self
    rw [for_nx rfl (t23 n ls pk a (mk k) x k (at_ k) S ((a ^^^ mk k : Nat) : Int) h1 hl h2 (by rw [Bits.bitXor_pp (Int.natCast_nonneg a) (Int.natCast_nonneg _)]; rfl))]
    exact f23_loop n ls pk S at_ mk ks ks0 (a ^^^ mk k) _ fun j hj => h j (List.mem_cons_of_mem _ hj)
theorem f23 (n : Nat) (ls : D) (ks : List D) (S : Sto) (at_ : D → D) (mk : D → Nat) (h : ∀ k, k ∈ ks → ixF ls k S = some (at_ k) ∧ (at_ k).cl S.length = true ∧ run T (n + 1) "mask_of" [at_ k] S = some (.int (mk k : Int), S)) :
    run T (n + 2) "_pick_sum" [ls, .tup ks] S = some (.int ((ks.foldl (fun a k => a ^^^ mk k) 0 : Nat) : Int), S) := by
  rw [u23]
  obtain ⟨y, q⟩ := f23_loop n ls (.tup ks) S at_ mk ks ks 0 none h
  have hi : evI (run T (n + 1)) S.length [some ls, some (.tup ks), some (.int 0), none] (.ex (.var 1)) S = some (ks, none, S) := by
    simp [evI, evE, getV, itV]
  have hf := x_for (φ := run T (n + 1)) (base := S.length) (g := .nm 3) (b := c23_1) hi
  refine (run_ret (c := ⟨2, 4, c23⟩) rfl ((xs_nx (x_set e_int)).trans ((xs_nx (hf.trans q)).trans (xs_ret (x_ret (by rw [e_var]; rfl)))))).trans ?_
  rw [gc_intS]
theorem f19a (n : Nat) (ls : List D) (pk : D) (m : Int) (w : D) (S : Sto) (hc : pk.cl S.length = true) (h1 : run T (n + 5) "_demand_lots" [.tup ls] S = some (.non, S)) (h2 : ascD pk (ls.length : Int) = true) (h3 : run T (n + 5) "_pick_sum" [.tup ls, pk] S = some (.int m, S)) (h4 : run T (n + 5) "lot_of" [.int m] S = some (w, S)) (hw : w.cl S.length = true) :
    run T (n + 6) "sum_of_pick" [.tup ls, pk] S = some (w, S) := by
  rw [u19]
  have e1 : evE (run T (n + 5)) S.length [some (.tup ls), some pk] (.call "_demand_lots" (.cons (.var 0) .nil)) S = some (.non, S) := by
    simp [evE, evS, getV, h1, gc_self cl_non]
  have e2 : evT (run T (n + 5)) S.length [some (.tup ls), some pk] (.not (.call "is_ascending" (.cons (.var 1) (.cons (.blt .len (.cons (.var 0) .nil)) .nil)))) S = some (false, S) := by
    simp [evT, evE, evS, getV, bltF, itemsOf, gc_intS, f3 (n + 2) pk ls.length S hc, h2, gc_blS, truF]
  have e3 : evE (run T (n + 5)) S.length [some (.tup ls), some pk] (.call "lot_of" (.cons (.call "_pick_sum" (.cons (.var 0) (.cons (.var 1) .nil))) .nil)) S = some (w, S) := by
    simp [evE, evS, getV, h3, h4, gc_intS, gc_self hw]
  refine (run_ret (c := ⟨2, 2, c19⟩) rfl ((xs_nx (x_expr e1)).trans ((xs_nx ((x_if e2).trans xs_nil)).trans (xs_ret (x_ret e3))))).trans ?_
  rw [gc_self hw]
end K00
end
section
set_option Elab.async false
set_option linter.all false
set_option autoImplicit false
set_option maxHeartbeats 4000000
namespace K00
open PySem L2 Z
/-! ### dice -/
def Dice (S : Sto) (i : Nat) (g s k : Int) : Prop := S[i]? = some (.lst [.int g, .int s, .int k])
section
variable {S : Sto} {i : Nat} {g s k : Int}
theorem Dice.ix0 (h : Dice S i g s k) : ixF (.ref i) (.int 0) S = some (.int g) := by
  unfold Dice at h
  simp [ixF, itemsOf, h, SO.seq?, atI, ixN]
theorem Dice.ix1 (h : Dice S i g s k) : ixF (.ref i) (.int 1) S = some (.int s) := by
  unfold Dice at h
  simp [ixF, itemsOf, h, SO.seq?, atI, ixN]
theorem Dice.ix2 (h : Dice S i g s k) : ixF (.ref i) (.int 2) S = some (.int k) := by
  unfold Dice at h
  simp [ixF, itemsOf, h, SO.seq?, atI, ixN]
theorem Dice.lt (h : Dice S i g s k) : i < S.length := (List.getElem?_eq_some_iff.mp h).1
theorem Dice.put0 {b : Nat} (h : Dice S i g s k) (v : Int) : sixF b (.ref i) (.int 0) (.int v) S = some (S.set i (.lst [.int v, .int s, .int k])) := by
  unfold Dice at h
  simp [sixF, h, ixN, wr, D.cl]
theorem Dice.put2 {b : Nat} (h : Dice S i g s k) (v : Int) : sixF b (.ref i) (.int 2) (.int v) S = some (S.set i (.lst [.int g, .int s, .int v])) := by
  unfold Dice at h
  simp [sixF, h, ixN, wr, D.cl]
theorem Dice.set (h : Dice S i g s k) (g' s' k' : Int) : Dice (S.set i (.lst [.int g', .int s', .int k'])) i g' s' k' := by
  unfold Dice
  rw [List.getElem?_set_self h.lt]
end
theorem x_six {φ : Phi} {base : Nat} {env : Ev} {S S1 S2 S3 S4 : Sto} {o i e : Ex} {x y z : D} (h1 : evE φ base env e S = some (x, S1)) (h2 : evE φ base env o S1 = some (y, S2)) (h3 : evE φ base env i S2 = some (z, S3)) (h4 : sixF base y z x S3 = some S4) : ex1 φ base (.six o i e) env S = some (.nx, env, S4) := by
  rw [ex1, h1]
  simp only [h2, h3, h4]
  rfl
theorem f26_great (n i : Nat) (g s k most : Int) (S : Sto) (h : Dice S i g s k) (hm : 1 ≤ most) (hl : most.natAbs.log2 < 9000) (hg : 0 < g) : run T (n + 1) "_law_roll" [.ref i, .int most] S = some (.int (g % most), S.set i (.lst [.int (g / most), .int s, .int k])) := by
  rw [u26]
  have h0 := h.ix0
  have hm0 : 0 < most := by omega
  have e1 : evT (run T n) S.length [some (.ref i), some (.int most), none, none, none] (.cmp .Gt (.ix (.var 0) (.int 0)) (.int 0)) S = some (true, S) := by
    simp [evT, evE, getV, h0, gc_intS, gc_blS, cmpF, truF, hg]
  have e2 : evE (run T n) S.length [some (.ref i), some (.int most), none, none, none] (.bin .Mod (.blt .int (.cons (.ix (.var 0) (.int 0)) .nil)) (.var 1)) S = some (.int (g % most), S) := by
    simp [evE, evS, getV, h0, gc_intS, binF, bltF, hm0]
  have e3 : evE (run T n) S.length [some (.ref i), some (.int most), none, none, some (.int (g % most))] (.bin .FloorDiv (.ix (.var 0) (.int 0)) (.var 1)) S = some (.int (g / most), S) := by
    simp [evE, evS, getV, h0, gc_intS, binF, hm0, hl]
  have e4 := x_six (φ := run T n) (base := S.length) (env := [some (.ref i), some (.int most), none, none, some (.int (g % most))]) (o := .var 0) (i := .int 0) e3 (by rw [e_var]; rfl) e_int (h.put0 (b := S.length) (g / most))
  refine (run_ret (c := ⟨2, 5, c26⟩) rfl (xs_ret ((x_if e1).trans ((xs_nx (x_set e2)).trans ((xs_nx e4).trans (xs_ret (x_ret (by rw [e_var]; rfl)))))))).trans ?_
  have := gc_self (d := .int (g % most)) (S := S.set i (.lst [.int (g / most), .int s, .int k])) rfl
  rw [List.length_set] at this
  exact this
theorem log_lt {a : Nat} (h : a < 2 ^ 200) : a.log2 < 200 := by
  by_cases h0 : a = 0
  · subst h0
    decide
  · exact (Nat.log2_lt h0).mpr h
theorem logs {a b : Int} (ha : a.natAbs < 2 ^ 200) (hb : b.natAbs < 2 ^ 200) : a.natAbs.log2 + b.natAbs.log2 < 1000000 := by
  have := log_lt ha
  have := log_lt hb
  omega
def one (s k : Int) : Int := (s + 49979687 * k) % 2305843009213693487
def two (s k : Int) : Int := (one s k * one s k + 113 * k) % 2305843009213693669 * 6700417 + one s k
theorem one_lt (s k : Int) : 0 ≤ one s k ∧ one s k < 2305843009213693487 := ⟨Int.emod_nonneg _ (by decide), Int.emod_lt_of_pos _ (by decide)⟩
theorem f26_small (n i : Nat) (g s k most : Int) (S : Sto) (h : Dice S i g s k) (hm : 1 ≤ most) (hg : ¬ 0 < g) (hk : 0 ≤ k) (hk2 : k < 2 ^ 64) : run T (n + 1) "_law_roll" [.ref i, .int most] S = some (.int (two s (k + 1) / 65539 % most), S.set i (.lst [.int g, .int s, .int (k + 1)])) := by
  rw [u26]
  have hm0 : 0 < most := by omega
  have h' := h.set g s (k + 1)
  obtain ⟨S', hS'⟩ : ∃ S', S' = S.set i (.lst [.int g, .int s, .int (k + 1)]) := ⟨_, rfl⟩
  have hlen : S'.length = S.length := by rw [hS', List.length_set]
  rw [← hS'] at h' ⊢
  have g1 : ∀ j : Int, gc S'.length (some (.int j, S')) = some (.int j, S') := fun j => gc_intS
  have o1 := one_lt s (k + 1)
  have m1 := logs (a := 49979687) (b := k + 1) (by decide) (by omega)
  have m2 := logs (a := one s (k + 1)) (b := one s (k + 1)) (by omega) (by omega)
  have m3 := logs (a := 113) (b := k + 1) (by decide) (by omega)
  have m4 := logs (a := (one s (k + 1) * one s (k + 1) + 113 * (k + 1)) % 2305843009213693669) (b := 6700417) (by
    have := Int.emod_nonneg (one s (k + 1) * one s (k + 1) + 113 * (k + 1)) (show (2305843009213693669 : Int) ≠ 0 by decide)
    have := Int.emod_lt_of_pos (one s (k + 1) * one s (k + 1) + 113 * (k + 1)) (show (0 : Int) < 2305843009213693669 by decide)
    omega) (by decide)
  have e1 : evT (run T n) S.length [some (.ref i), some (.int most), none, none, none] (.cmp .Gt (.ix (.var 0) (.int 0)) (.int 0)) S = some (false, S) := by
    simp [evT, evE, getV, h.ix0, gc_intS, gc_blS, cmpF, truF, hg]
  have e2 : evE (run T n) S.length [some (.ref i), some (.int most), none, none, none] (.bin .Add (.ix (.var 0) (.int 2)) (.int 1)) S = some (.int (k + 1), S) := by
    simp [evE, evS, getV, h.ix2, gc_intS, binF]
  have e3 := x_six (φ := run T n) (base := S.length) (env := [some (.ref i), some (.int most), none, none, none]) (o := .var 0) (i := .int 2) e2 (by rw [e_var]; rfl) e_int (h.put2 (b := S.length) (k + 1))
  rw [← hS'] at e3
  have e4 : evE (run T n) S.length [some (.ref i), some (.int most), none, none, none] (.bin .Mod (.blt .int (.cons (.bin .Add (.ix (.var 0) (.int 1)) (.bin .Mult (.int 49979687) (.ix (.var 0) (.int 2)))) .nil)) (.int 2305843009213693487)) S' = some (.int (one s (k + 1)), S') := by
    simp only [evE, evS, getV, h'.ix1, h'.ix2, g1, binF, bltF, List.getElem?_cons_zero, Option.join_some, Option.map_some, if_pos m1]
    rw [if_pos (by decide), g1]
    rfl
  have e5 : evE (run T n) S.length [some (.ref i), some (.int most), some (.int (one s (k + 1))), none, none] (.bin .Add (.bin .Mult (.bin .Mod (.blt .int (.cons (.bin .Add (.bin .Mult (.var 2) (.var 2)) (.bin .Mult (.int 113) (.ix (.var 0) (.int 2)))) .nil)) (.int 2305843009213693669)) (.int 6700417)) (.var 2)) S' = some (.int (two s (k + 1)), S') := by
    simp only [evE, evS, getV, h'.ix2, g1, binF, bltF, List.getElem?_cons_zero, List.getElem?_cons_succ, Option.join_some, Option.map_some, if_pos m2, if_pos m3]
    rw [if_pos (by decide)]
    simp only [g1, if_pos m4]
    rfl
  have e6 : evE (run T n) S.length [some (.ref i), some (.int most), some (.int (one s (k + 1))), some (.int (two s (k + 1))), none] (.bin .Mod (.blt .int (.cons (.bin .FloorDiv (.var 3) (.int 65539)) .nil)) (.var 1)) S' = some (.int (two s (k + 1) / 65539 % most), S') := by
    have c : (0 : Int) < 65539 ∧ (65539 : Int).natAbs.log2 < 9000 := by decide
    simp only [evE, evS, getV, g1, binF, bltF, List.getElem?_cons_zero, List.getElem?_cons_succ, Option.join_some, Option.map_some, if_pos c, if_pos hm0]
  refine (run_ret (c := ⟨2, 5, c26⟩) rfl ((xs_nx ((x_if e1).trans xs_nil)).trans ((xs_nx e3).trans ((xs_nx (x_set (i := 2) e4)).trans ((xs_nx (x_set (i := 3) e5)).trans (xs_ret (x_ret e6))))))).trans ?_
  rw [← hlen]
  exact g1 _
/-- a roll, whatever it is -/
theorem f26 (n i : Nat) (g s k most : Int) (S : Sto) (h : Dice S i g s k) (hm : 1 ≤ most) (hl : most < 2 ^ 64) (hk : 0 ≤ k) (hk2 : k < 2 ^ 64) : ∃ r g' k', run T (n + 1) "_law_roll" [.ref i, .int most] S = some (.int r, S.set i (.lst [.int g', .int s, .int k'])) ∧ 0 ≤ r ∧ r < most ∧ k ≤ k' ∧ k' ≤ k + 1 := by
  by_cases hg : 0 < g
  · refine ⟨_, _, _, f26_great n i g s k most S h hm ?_ hg, Int.emod_nonneg _ (by omega), Int.emod_lt_of_pos _ (by omega), Int.le_refl _, by omega⟩
    have := log_lt (a := most.natAbs) (by omega)
    omega
  · exact ⟨_, _, _, f26_small n i g s k most S h hm hg hk hk2, Int.emod_nonneg _ (by omega), Int.emod_lt_of_pos _ (by omega), by omega, by omega⟩
end K00
end
section
set_option Elab.async false
set_option linter.all false
set_option autoImplicit false
set_option maxHeartbeats 4000000
namespace K00
open PySem L2 Z
/-! ### the law's own lots -/
theorem t30 (n : Nat) (x y : D) (ms : List Int) (z : Option D) (i : Int) (S : Sto) (hy : y = .tup (ms.map .int)) : lcS (run T n) S.length [some x, some y, z] [2] (.nm 2) c30_1 (.var 2) (.int i) S = some (if i ∈ ms then some (.int i) else none, S) := by
  unfold lcS c30_1
  subst hy
  simp [tgF, wipeE, evO, evE, getV, cmpF, inD_ints, gc_blS, truF]
  by_cases h : i ∈ ms <;> simp [h]
theorem fm_filter {p : Int → Bool} : ∀ l : List Int, (l.filterMap fun i => if p i = true then some (D.int i) else none) = (l.filter p).map D.int := filterMap_if
theorem f30 (n : Nat) (x y : D) (ns ms : List Int) (S : Sto) (hx : x = .tup (ns.map .int)) (hy : y = .tup (ms.map .int)) (hl : ns.length ≤ 1000) : run T (n + 1) "_law_lo_is_odd" [x, y] S = some (.bl (decide (((ns.filter fun i => decide (i ∈ ms)).length : Int) % 2 = 1)), S) := by
  rw [u30]
  have hi : evI (run T n) S.length [some x, some y, none] (.ex (.var 0)) S = some (ns.map .int, none, S) := by
    subst hx
    simp [evI, evE, getV, itV]
  have hc := e_lc (φ := run T n) (base := S.length) (own := [2]) (g := .nm 2) (c := c30_1) (e := .var 2) rfl hi (lc_ints (fun i => if i ∈ ms then some (.int i) else none) rfl ns (by show _ ≤ 100000; omega) fun i hi => t30 n x y ms none i S hy)
  obtain ⟨ps, hps⟩ : ∃ ps : List Int, ps = ns.filter fun i => decide (i ∈ ms) := ⟨_, rfl⟩
  have e : (ns.filterMap fun i => if i ∈ ms then some (D.int i) else none) = ps.map D.int := by
    rw [hps, ← filterMap_if]
    congr 1
    funext i
    by_cases h : i ∈ ms <;> simp [h]
  rw [e] at hc
  rw [← hps]
  have hs := e_blt (φ := run T n) (base := S.length) (env := [some x, some y, none]) (S := S) (b := .len) (es := .cons (.lc [2] (.nm 2) (.ex (.var 0)) c30_1 (.var 2)) .nil) (vs := [.ref S.length]) (S1 := S ++ [.lst (ps.map D.int)]) (by simp [evS, hc, new, gc_new0 (o := .lst (ps.map D.int)) (cl_ints _)])
  have hs2 : evE (run T n) S.length [some x, some y, none] (.blt .len (.cons (.lc [2] (.nm 2) (.ex (.var 0)) c30_1 (.var 2)) .nil)) S = some (.int (ps.length : Int), S) := by
    rw [hs]
    simp [bltF, items_new, gc_intA]
  have a1 : evE (run T n) S.length [some x, some y, none] (.bin .Mod (.blt .len (.cons (.lc [2] (.nm 2) (.ex (.var 0)) c30_1 (.var 2)) .nil)) (.int 2)) S = some (.int ((ps.length : Int) % 2), S) := by
    rw [e_bin hs2 e_int]
    simp [binF, gc_intS]
  have a2 : evE (run T n) S.length [some x, some y, none] (.cmp .Eq (.bin .Mod (.blt .len (.cons (.lc [2] (.nm 2) (.ex (.var 0)) c30_1 (.var 2)) .nil)) (.int 2)) (.int 1)) S = some (.bl (decide ((ps.length : Int) % 2 = 1)), S) := by
    rw [e_cmp a1 e_int]
    simp [cmpF, eqD_int, gc_blS]
  have hx : exs (run T n) S.length c30 [some x, some y, none] S = some (.ret (.bl (decide ((ps.length : Int) % 2 = 1))), [some x, some y, none], S) := xs_ret (x_ret a2)
  rw [run_ret (φ := run T n) (c := ⟨2, 3, c30⟩) (vs := [x, y]) (S := S) rfl hx, gc_blS]
/-- the sum of two lots -/
theorem t28_1 (n : Nat) (x y : D) (ms : List Int) (z : Option D) (i : Int) (S : Sto) (hy : y = .tup (ms.map .int)) : lcS (run T n) S.length [some x, some y, z] [2] (.nm 2) c28_1 (.var 2) (.int i) S = some (if i ∈ ms then none else some (.int i), S) := by
  unfold lcS c28_1
  subst hy
  simp [tgF, wipeE, evO, evE, getV, cmpF, inD_ints, gc_blS, truF]
  by_cases h : i ∈ ms <;> simp [h]
theorem t28_2 (n : Nat) (x y : D) (ns : List Int) (z : Option D) (i : Int) (S : Sto) (hx : x = .tup (ns.map .int)) : lcS (run T n) S.length [some x, some y, z] [2] (.nm 2) c28_2 (.var 2) (.int i) S = some (if i ∈ ns then none else some (.int i), S) := by
  unfold lcS c28_2
  subst hx
  simp [tgF, wipeE, evO, evE, getV, cmpF, inD_ints, gc_blS, truF]
  by_cases h : i ∈ ns <;> simp [h]
theorem fm_not (ns ms : List Int) : (ns.filterMap fun i => if i ∈ ms then none else some (D.int i)) = (ns.filter fun i => !decide (i ∈ ms)).map D.int := by
  rw [← filterMap_if]
  congr 1
  funext i
  by_cases h : i ∈ ms <;> simp [h]
theorem c28a (n base : Nat) (x y : D) (ns ms ps : List Int) (S : Sto) (hx : x = .tup (ns.map .int)) (hy : y = .tup (ms.map .int)) (hl : ns.length ≤ lim) (hps : ps = ns.filter fun i => !decide (i ∈ ms)) :
    evE (run T n) base [some x, some y, none] (.lc [2] (.nm 2) (.ex (.var 0)) c28_1 (.var 2)) S = some (.ref S.length, S ++ [.lst (ps.map .int)]) := by
  have hi : evI (run T n) S.length [some x, some y, none] (.ex (.var 0)) S = some (ns.map .int, none, S) := by
    subst hx
    simp [evI, evE, getV, itV]
  have h2 : lcF (lcS (run T n) S.length [some x, some y, none] [2] (.nm 2) c28_1 (.var 2)) (fun S2 => still S2 none (ns.map .int)) (ns.map .int) [] S = some (ps.map D.int, S) := by
    rw [lc_ints (fun i => if i ∈ ms then none else some (.int i)) rfl ns hl fun i hi => t28_1 n x y ms none i S hy, fm_not, hps]
  rw [e_lc rfl hi h2]
  exact gc_new0 (cl_ints _)
theorem c28b (n base : Nat) (x y : D) (ns ms ps : List Int) (S : Sto) (hx : x = .tup (ns.map .int)) (hy : y = .tup (ms.map .int)) (hl : ms.length ≤ lim) (hps : ps = ms.filter fun i => !decide (i ∈ ns)) :
    evE (run T n) base [some x, some y, none] (.lc [2] (.nm 2) (.ex (.var 1)) c28_2 (.var 2)) S = some (.ref S.length, S ++ [.lst (ps.map .int)]) := by
  have hi : evI (run T n) S.length [some x, some y, none] (.ex (.var 1)) S = some (ms.map .int, none, S) := by
    subst hy
    simp [evI, evE, getV, itV]
  have h2 : lcF (lcS (run T n) S.length [some x, some y, none] [2] (.nm 2) c28_2 (.var 2)) (fun S2 => still S2 none (ms.map .int)) (ms.map .int) [] S = some (ps.map D.int, S) := by
    rw [lc_ints (fun i => if i ∈ ns then none else some (.int i)) rfl ms hl fun i hi => t28_2 n x y ns none i S hx, fm_not, hps]
  rw [e_lc rfl hi h2]
  exact gc_new0 (cl_ints _)
theorem add_new {S : Sto} {a b : List D} (hl : a.length + b.length ≤ lim) : binF .Add (.ref S.length) (.ref (S ++ [SO.lst a]).length) (S ++ [SO.lst a] ++ [SO.lst b]) = some (.ref (S.length + 2), S ++ ([SO.lst a, SO.lst b] ++ [SO.lst (a ++ b)])) := by
  have e1 : (S ++ [SO.lst a] ++ [SO.lst b])[S.length]? = some (SO.lst a) := by simp
  have e2 : (S ++ [SO.lst a] ++ [SO.lst b])[(S ++ [SO.lst a]).length]? = some (SO.lst b) := by simp
  unfold binF
  simp only [e1, e2, if_pos hl]
  unfold new
  simp
theorem f28 (n : Nat) (x y : D) (ns ms ps qs : List Int) (S : Sto) (hx : x = .tup (ns.map .int)) (hy : y = .tup (ms.map .int)) (hl : ns.length ≤ lim) (hl2 : ms.length ≤ lim) (hps : ps = ns.filter fun i => !decide (i ∈ ms)) (hqs : qs = ms.filter fun i => !decide (i ∈ ns)) (hpq : ps.length + qs.length ≤ lim) :
    run T (n + 1) "_law_lo_sum" [x, y] S = some (.tup ((sortI (ps ++ qs)).map .int), S) := by
  rw [u28]
  have a1 : evE (run T n) S.length [some x, some y, none] (.bin .Add (.lc [2] (.nm 2) (.ex (.var 0)) c28_1 (.var 2)) (.lc [2] (.nm 2) (.ex (.var 1)) c28_2 (.var 2))) S = some (.ref S.length, S ++ [.lst ((ps ++ qs).map .int)]) := by
    rw [e_bin (c28a n _ x y ns ms ps S hx hy hl hps) (c28b n _ x y ns ms qs _ hx hy hl2 hqs), add_new (by simpa using hpq), List.map_append]
    exact gc_new (k := 2) rfl (by rw [← List.map_append]; exact cl_ints _)
  obtain ⟨rs, hrs⟩ : ∃ rs : List Int, rs = ps ++ qs := ⟨_, rfl⟩
  rw [← hrs] at a1 ⊢
  have a2 : evE (run T n) S.length [some x, some y, none] (.blt .sorted (.cons (.bin .Add (.lc [2] (.nm 2) (.ex (.var 0)) c28_1 (.var 2)) (.lc [2] (.nm 2) (.ex (.var 1)) c28_2 (.var 2))) .nil)) S = some (.ref S.length, S ++ [.lst ((sortI rs).map .int)]) := by
    rw [e_blt (vs := [.ref S.length]) (S1 := S ++ [.lst (rs.map .int)]) (by rw [evS, a1]; rfl)]
    show gc S.length (((lstOf (S ++ [.lst (rs.map .int)]) (.ref S.length)).bind intsOf).bind fun ns => new (S ++ [.lst (rs.map .int)]) (.lst ((sortI ns).map .int))) = _
    rw [lst_new, Option.bind_some, intsOf_ints, Option.bind_some]
    have := gc_new (S := S) (t := [.lst (rs.map .int)]) (o := .lst ((sortI rs).map .int)) (k := 1) rfl (cl_ints _)
    rw [← List.append_assoc] at this
    rw [← this]
    unfold new
    simp
  have a3 : evE (run T n) S.length [some x, some y, none] (.blt .tuple (.cons (.blt .sorted (.cons (.bin .Add (.lc [2] (.nm 2) (.ex (.var 0)) c28_1 (.var 2)) (.lc [2] (.nm 2) (.ex (.var 1)) c28_2 (.var 2))) .nil)) .nil)) S = some (.tup ((sortI rs).map .int), S) := by
    rw [e_blt (vs := [.ref S.length]) (S1 := S ++ [.lst ((sortI rs).map .int)]) (by rw [evS, a2]; rfl)]
    simp [bltF, items_new, gc_intsA]
  have hx : exs (run T n) S.length c28 [some x, some y, none] S = some (.ret (.tup ((sortI rs).map .int)), [some x, some y, none], S) := xs_ret (x_ret a3)
  rw [run_ret (φ := run T n) (c := ⟨2, 3, c28⟩) (vs := [x, y]) (S := S) rfl hx, gc_ints]
end K00
end
section
set_option Elab.async false
set_option linter.all false
set_option autoImplicit false
set_option maxHeartbeats 4000000
namespace K00
open PySem L2 Z
/-! ### the program's lots and the law's -/
theorem lot_len {ns : List Int} (h : Lot ns) : ns.length ≤ 24 := by
  rw [← lot_mask h]
  unfold lotI
  rw [List.length_map]
  refine Nat.le_trans (List.length_filter_le _ _) ?_
  rw [List.length_range]
  exact Nat.le_refl _
theorem asc_of_lot {b : Int} : ∀ {ns : List Int} {a : Int}, ns.Pairwise (· < ·) → (∀ i, i ∈ ns → a ≤ i ∧ i ≤ b) → ascL b a (ns.map .int) = true
  | [], a, _, _ => rfl
  | i :: r, a, h, h0 => by
    obtain ⟨h1, h2⟩ := List.pairwise_cons.mp h
    have hi := h0 i List.mem_cons_self
    show (betD (.int i) a b && ascL b (i + 1) (r.map .int)) = true
    rw [asc_of_lot h2 fun j hj => ⟨by have := h1 j hj; omega, (h0 j (List.mem_cons_of_mem _ hj)).2⟩]
    show (decide (a ≤ i) && decide (i ≤ b) && true) = true
    rw [decide_eq_true hi.1, decide_eq_true hi.2]
    rfl
theorem asc_lot {ns : List Int} (h : Lot ns) : ascD (.tup (ns.map .int)) 24 = true := asc_of_lot h.asc fun i hi => by
  have := h.lo i hi
  omega
theorem f21' (n : Nat) (x : D) (ns : List Int) (S : Sto) (hx : x = .tup (ns.map .int)) (h : Lot ns) : run T (n + 4) "_demand_lot" [x] S = some (.non, S) := by
  subst hx
  exact f21 n _ S (cl_ints ns) (asc_lot h)
theorem xor_cast (a b : Nat) : Builtin.bitXor (a : Int) (b : Int) = ((a ^^^ b : Nat) : Int) := by
  rw [Bits.bitXor_pp (Int.natCast_nonneg a) (Int.natCast_nonneg b)]
  rfl
theorem and_cast (a b : Nat) : Builtin.bitAnd (a : Int) (b : Int) = ((a &&& b : Nat) : Int) := rfl
theorem f17 (n : Nat) (x y : D) (ns ms : List Int) (S : Sto) (hx : x = .tup (ns.map .int)) (hy : y = .tup (ms.map .int)) (h1 : Lot ns) (h2 : Lot ms) : run T (n + 5) "lot_sum" [x, y] S = some (.tup ((lotI (maskN ns ^^^ maskN ms)).map .int), S) :=
  f17a n x y _ _ _ _ S (f21' n x ns S hx h1) (f21' n y ms S hy h2) (f4' (n + 3) x ns S hx h1 (Nat.le_trans (lot_len h1) (by decide))) (f4' (n + 3) y ms S hy h2 (Nat.le_trans (lot_len h2) (by decide))) (xor_cast _ _) (f5 (n + 3) _ S (low_xor (lot_low h1) (lot_low h2))) (cl_ints _)
theorem f18 (n : Nat) (x y : D) (ns ms : List Int) (S : Sto) (hx : x = .tup (ns.map .int)) (hy : y = .tup (ms.map .int)) (h1 : Lot ns) (h2 : Lot ms) : run T (n + 5) "does_meet_oddly" [x, y] S = some (.bl (decide (((lotI (maskN ns &&& maskN ms)).length : Int) % 2 = 1)), S) := by
  have e := f18a n x y _ _ _ _ S (f21' n x ns S hx h1) (f21' n y ms S hy h2) (f4' (n + 3) x ns S hx h1 (Nat.le_trans (lot_len h1) (by decide))) (f4' (n + 3) y ms S hy h2 (Nat.le_trans (lot_len h2) (by decide))) (and_cast _ _) (f6a (n + 2) _ _ S (f5 (n + 2) _ S (low_and (lot_low h1))))
  rw [e, and_one]
  congr 3
/-- both sums are one -/
theorem sum_same {ns ms : List Int} (h1 : Lot ns) (h2 : Lot ms) : sortI ((ns.filter fun i => !decide (i ∈ ms)) ++ (ms.filter fun i => !decide (i ∈ ns))) = lotI (maskN ns ^^^ maskN ms) := by
  have nd : ((ns.filter fun i => !decide (i ∈ ms)) ++ (ms.filter fun i => !decide (i ∈ ns))).Nodup := by
    refine List.nodup_append.mpr ⟨(h1.asc.imp fun h => by omega).filter _, (h2.asc.imp fun h => by omega).filter _, fun i hi j hj q => ?_⟩
    subst q
    simp at hi hj
    exact hj.2 hi.1
  refine asc_same (lt_of_le_nodup _ (sortI_sorted _) ((sortI_perm _).nodup_iff.mpr nd)) (lotI_asc _) fun i => ?_
  rw [(sortI_perm _).mem_iff, lotI_mem, Nat.testBit_xor, mask_bit h1.asc (fun i hi => (h1.lo i hi).1), mask_bit h2.asc (fun i hi => (h2.lo i hi).1)]
  simp only [List.mem_append, List.mem_filter, Bool.not_eq_true', decide_eq_false_iff_not]
  constructor
  · rintro (⟨a, b⟩ | ⟨a, b⟩)
    · have := h1.lo i a
      have e : ((i.toNat : Nat) : Int) = i := Int.toNat_of_nonneg this.1
      exact ⟨this.1, this.2, by rw [e]; simp [a, b]⟩
    · have := h2.lo i a
      have e : ((i.toNat : Nat) : Int) = i := Int.toNat_of_nonneg this.1
      exact ⟨this.1, this.2, by rw [e]; simp [a, b]⟩
  · rintro ⟨a, b, c⟩
    rw [Int.toNat_of_nonneg a] at c
    by_cases p : i ∈ ns <;> by_cases q : i ∈ ms <;> simp [p, q] at c ⊢
theorem met_same {ns ms : List Int} (h1 : Lot ns) (h2 : Lot ms) : lotI (maskN ns &&& maskN ms) = ns.filter fun i => decide (i ∈ ms) := asc_same (lotI_asc _) (h1.asc.filter _) fun i => by
  rw [lotI_mem, Nat.testBit_and, mask_bit h1.asc (fun i hi => (h1.lo i hi).1), mask_bit h2.asc (fun i hi => (h2.lo i hi).1), List.mem_filter]
  constructor
  · rintro ⟨a, b, c⟩
    rw [Int.toNat_of_nonneg a] at c
    simpa using c
  · rintro ⟨a, b⟩
    have := h1.lo i a
    exact ⟨this.1, this.2, by rw [Int.toNat_of_nonneg this.1]; simpa using ⟨a, of_decide_eq_true b⟩⟩
end K00
end
section
set_option Elab.async false
set_option linter.all false
set_option autoImplicit false
set_option maxHeartbeats 4000000
namespace K00
open PySem L2 Z
theorem gc_set {S : Sto} {i : Nat} {o : SO} {d : D} (h : d.cl S.length = true) : gc S.length (some (d, S.set i o)) = some (d, S.set i o) := by
  have := gc_self (d := d) (S := S.set i o) (by rw [List.length_set]; exact h)
  rwa [List.length_set] at this
theorem set_same {S : Sto} {i : Nat} {o : SO} (h : S[i]? = some o) : S.set i o = S := by
  apply List.ext_getElem?
  intro j
  by_cases hj : i = j
  · subst hj
    rw [List.getElem?_set_self (List.getElem?_eq_some_iff.mp h).1, h]
  · rw [List.getElem?_set_ne hj]
/-- a drawn line is taken or not -/
theorem t32 (n i : Nat) (g s k : Int) (m sh : Int) (z : Option D) (j : Int) (S : Sto) (h : Dice S i g s k) (hk : 0 ≤ k) (hk2 : k < 2 ^ 40) : ∃ (b : Bool) (g' k' : Int), lcS (run T (n + 1)) S.length [some (.ref i), some (.int m), some (.int sh), z] [3] (.nm 3) c32_1 (.var 3) (.int j) S = some (if b = true then some (.int j) else none, S.set i (.lst [.int g', .int s, .int k'])) ∧ k ≤ k' ∧ k' ≤ k + 1 := by
  obtain ⟨r, g', k', e, _, _, h1, h2⟩ := f26 n i g s k 4 S h (by decide) (by decide) hk (by omega)
  refine ⟨decide (r < sh), g', k', ?_, h1, h2⟩
  have a1 : evE (run T (n + 1)) S.length [some (.ref i), some (.int m), some (.int sh), some (.int j)] (.call "_law_roll" (.cons (.var 0) (.cons (.int 4) .nil))) S = some (.int r, S.set i (.lst [.int g', .int s, .int k'])) := by
    rw [e_call (vs := [.ref i, .int 4]) (S1 := S) (by simp [evS, evE, getV]), e]
    exact gc_set rfl
  have a2 : evE (run T (n + 1)) S.length [some (.ref i), some (.int m), some (.int sh), some (.int j)] (.cmp .Lt (.call "_law_roll" (.cons (.var 0) (.cons (.int 4) .nil))) (.var 2)) S = some (.bl (decide (r < sh)), S.set i (.lst [.int g', .int s, .int k'])) := by
    rw [e_cmp a1 (by rw [e_var]; rfl)]
    exact gc_set rfl
  unfold lcS c32_1
  simp [tgF, wipeE, evO, a2, truF, e_var, getV]
  by_cases hr : r < sh <;> simp [hr]
theorem any_loop (n i : Nat) (s m sh : Int) (z : Option D) (ok : Sto → Bool) (hok : ∀ S, ok S = true) (L : Nat) : ∀ (js : List Int) (acc : List D) (g k : Int) (S : Sto), S.length = L → Dice S i g s k → 0 ≤ k → k + js.length < 2 ^ 40 → acc.length + js.length ≤ lim →
    ∃ (ns : List Int) (g' k' : Int), lcF (lcS (run T (n + 1)) L [some (.ref i), some (.int m), some (.int sh), z] [3] (.nm 3) c32_1 (.var 3)) ok (js.map .int) acc S = some (acc ++ ns.map .int, S.set i (.lst [.int g', .int s, .int k'])) ∧ ns.Sublist js ∧ k ≤ k' ∧ k' ≤ k + js.length
  | [], acc, g, k, S, hL, h, hk, hb, hl => by
    refine ⟨[], g, k, ?_, List.Sublist.slnil, Int.le_refl _, by simp⟩
    have : S.set i (.lst [.int g, .int s, .int k]) = S := set_same h
    rw [this, List.map_nil, lc_nil (hok S), List.append_nil]
  | j :: js, acc, g, k, S, hL, h, hk, hb, hl => by
    rw [List.length_cons] at hb hl
    obtain ⟨b, g1, k1, e, h1, h2⟩ := t32 n i g s k m sh z j S h hk (by omega)
    rw [hL] at e
    have h' := h.set g1 s k1
    cases b with
    | true =>
      obtain ⟨ns, g2, k2, e2, sb, h3, h4⟩ := any_loop n i s m sh z ok hok L js (acc ++ [.int j]) g1 k1 _ (by rw [List.length_set]; exact hL) h' (by omega) (by omega) (by rw [List.length_append, List.length_singleton]; omega)
      refine ⟨j :: ns, g2, k2, ?_, sb.cons₂ j, by omega, by rw [List.length_cons]; omega⟩
      rw [List.map_cons, lc_put (hok S) (by omega) e, e2, List.set_set, List.append_assoc]
      rfl
    | false =>
      obtain ⟨ns, g2, k2, e2, sb, h3, h4⟩ := any_loop n i s m sh z ok hok L js acc g1 k1 _ (by rw [List.length_set]; exact hL) h' (by omega) (by omega) (by omega)
      refine ⟨ns, g2, k2, ?_, sb.cons j, by omega, by rw [List.length_cons]; omega⟩
      rw [List.map_cons, lc_skip (hok S) (by omega) e, e2, List.set_set]
theorem f32 (n i : Nat) (g s k : Int) (m : Nat) (S : Sto) (h : Dice S i g s k) (hk : 0 ≤ k) (hk2 : k < 2 ^ 36) (hm : m ≤ 24) : ∃ (ns : List Int) (g' k' : Int), run T (n + 2) "_law_lo_any" [.ref i, .int (m : Int)] S = some (.tup (ns.map .int), S.set i (.lst [.int g', .int s, .int k'])) ∧ ns.Pairwise (· < ·) ∧ (∀ j, j ∈ ns → 0 ≤ j ∧ j < m) ∧ k ≤ k' ∧ k' ≤ k + 25 := by
  obtain ⟨r, g1, k1, e, _, _, h1, h2⟩ := f26 n i g s k 3 S h (by decide) (by decide) hk (by omega)
  obtain ⟨S1, hS1⟩ : ∃ S1, S1 = S.set i (.lst [.int g1, .int s, .int k1]) := ⟨_, rfl⟩
  have hL : S1.length = S.length := by rw [hS1, List.length_set]
  have d1 : Dice S1 i g1 s k1 := by rw [hS1]; exact h.set g1 s k1
  rw [← hS1] at e
  have a1 : evE (run T (n + 1)) S.length [some (.ref i), some (.int (m : Int)), none, none] (.bin .Add (.int 1) (.call "_law_roll" (.cons (.var 0) (.cons (.int 3) .nil)))) S = some (.int (1 + r), S1) := by
    have c1 : evE (run T (n + 1)) S.length [some (.ref i), some (.int (m : Int)), none, none] (.call "_law_roll" (.cons (.var 0) (.cons (.int 3) .nil))) S = some (.int r, S1) := by
      rw [e_call (vs := [.ref i, .int 3]) (S1 := S) (by simp [evS, evE, getV]), e, hS1]
      exact gc_set rfl
    rw [e_bin e_int c1, hS1]
    exact gc_set rfl
  have hi : evI (run T (n + 1)) S1.length [some (.ref i), some (.int (m : Int)), some (.int (1 + r)), none] (.rng1 (.var 1)) S1 = some (((List.range m).map fun k : Nat => (k : Int)).map .int, none, S1) := by
    have hr : rgOk (m : Int) = true := by
      unfold rgOk
      rw [decide_eq_true (by omega), decide_eq_true (by omega)]
      rfl
    rw [evI, e_var]
    simp only [getV, List.getElem?_cons_zero, List.getElem?_cons_succ, Option.join_some, Option.map_some, hr, if_true, rgI_map, Int.zero_add, Int.toNat_natCast]
  obtain ⟨ns, g2, k2, e2, sb, h3, h4⟩ := any_loop n i s (m : Int) (1 + r) none (fun S2 => still S2 none (((List.range m).map fun k : Nat => (k : Int)).map .int)) (fun _ => rfl) S1.length ((List.range m).map fun k : Nat => (k : Int)) [] g1 k1 S1 rfl d1 (by omega) (by simp; omega) (by simp; show _ ≤ 100000; omega)
  obtain ⟨S2, hS2⟩ : ∃ S2, S2 = S1.set i (.lst [.int g2, .int s, .int k2]) := ⟨_, rfl⟩
  have hL2 : S2.length = S1.length := by rw [hS2, List.length_set]
  have hS : S2 = S.set i (.lst [.int g2, .int s, .int k2]) := by rw [hS2, hS1, List.set_set]
  rw [← hS2, List.nil_append] at e2
  have b1 : evE (run T (n + 1)) S1.length [some (.ref i), some (.int (m : Int)), some (.int (1 + r)), none] (.lc [3] (.nm 3) (.rng1 (.var 1)) c32_1 (.var 3)) S1 = some (.ref S2.length, S2 ++ [.lst (ns.map .int)]) := by
    rw [e_lc rfl hi e2, ← hL2]
    exact gc_new0 (cl_ints _)
  have b2 : evE (run T (n + 1)) S.length [some (.ref i), some (.int (m : Int)), some (.int (1 + r)), none] (.blt .tuple (.cons (.lc [3] (.nm 3) (.rng1 (.var 1)) c32_1 (.var 3)) .nil)) S1 = some (.tup (ns.map .int), S2) := by
    rw [e_blt (vs := [.ref S2.length]) (S1 := S2 ++ [.lst (ns.map .int)]) (by rw [evS, b1]; rfl)]
    show gc S1.length ((itemsOf (S2 ++ [.lst (ns.map .int)]) (.ref S2.length)).map fun xs => (.tup xs, S2 ++ [.lst (ns.map .int)])) = _
    rw [items_new, ← hL2]
    exact gc_intsA
  have hx : exs (run T (n + 1)) S.length c32 [some (.ref i), some (.int (m : Int)), none, none] S = some (.ret (.tup (ns.map .int)), [some (.ref i), some (.int (m : Int)), some (.int (1 + r)), none], S2) := (xs_nx (x_set (i := 2) a1)).trans (xs_ret (x_ret b2))
  have asc : ns.Pairwise (· < ·) := (cast_asc List.pairwise_lt_range).sublist sb
  refine ⟨ns, g2, k2, ?_, asc, fun j hj => ?_, by omega, by simp at h4; omega⟩
  · rw [u32, run_ret (φ := run T (n + 1)) (c := ⟨2, 4, c32⟩) (vs := [.ref i, .int (m : Int)]) (S := S) rfl hx, hS]
    exact gc_set (cl_ints _)
  · obtain ⟨q, hq, rfl⟩ := List.mem_map.mp (sb.subset hj)
    have := List.mem_range.mp hq
    omega
end K00
end
section
set_option Elab.async false
set_option linter.all false
set_option autoImplicit false
set_option maxHeartbeats 4000000
namespace K00
open PySem L2 Z
theorem cell25 (n p : Nat) (ns : List Int) (spot : Nat) (z1 z2 : Option D) (S : Sto) (h : itemsOf S (.ref p) = some (ns.map .int)) (hs : spot ≤ 100) : ∃ c : Int, evE (run T n) S.length [some (.ref p), some (.int (spot : Int)), z1, z2] (.ite (.cmp .Lt (.var 1) (.blt .len (.cons (.var 0) .nil))) (.blt .int (.cons (.ix (.var 0) (.var 1)) .nil)) (.bin .Add (.bin .Mult (.int 127) (.var 1)) (.int 71))) S = some (.int c, S) := by
  have a1 : evE (run T n) S.length [some (.ref p), some (.int (spot : Int)), z1, z2] (.cmp .Lt (.var 1) (.blt .len (.cons (.var 0) .nil))) S = some (.bl (decide ((spot : Int) < (ns.length : Int))), S) := by
    simp [evE, evS, getV, bltF, h, gc_intS, cmpF, gc_blS]
  by_cases c : spot < ns.length
  · refine ⟨ns[spot], ?_⟩
    have hat : atI (ns.map D.int) (spot : Int) = some (.int ns[spot]) := by
      simp [atI, ixN, c]
    have hix : ixF (.ref p) (.int (spot : Int)) S = some (.int ns[spot]) := by
      show (itemsOf S (.ref p)).bind _ = _
      rw [h]
      exact hat
    rw [evE, a1]
    simp [truF, c, evE, evS, getV, hix, gc_intS, bltF]
  · have hm : (127 : Int).natAbs.log2 + ((spot : Int)).natAbs.log2 < 1000000 := logs (by decide) (by omega)
    refine ⟨127 * (spot : Int) + 71, ?_⟩
    rw [evE, a1]
    have c' : ¬ ((spot : Int) < (ns.length : Int)) := by omega
    simp only [truF, c', decide_false, evE, evS, getV, List.getElem?_cons_zero, List.getElem?_cons_succ, Option.join_some, Option.map_some, binF, if_pos hm, gc_intS]
theorem pow25 (n : Nat) (base : Nat) (env : Ev) (S : Sto) (i : Int) (e : Nat) (hi : i = (e : Int)) (he : e ≤ 100) : evE (run T n) base env (.bin .Pow (.int 10) (.int i)) S = some (.int (10 ^ e), S) := by
  subst hi
  rw [e_bin e_int e_int]
  have c : (0 : Int) ≤ (e : Int) ∧ (e : Int) ≤ 1000000 ∧ (10 : Int).natAbs < 2 ^ 64 := ⟨by omega, by omega, by decide⟩
  show gc S.length (if (0 : Int) ≤ (e : Int) ∧ (e : Int) ≤ 1000000 ∧ (10 : Int).natAbs < 2 ^ 64 then some (D.int (10 ^ (e : Int).toNat), S) else none) = _
  rw [if_pos c, Int.toNat_natCast]
  exact gc_intS
theorem great25 (n : Nat) (x y : Option D) (z : Option D) (c : Int) (S : Sto) : ∃ g : Int, evE (run T n) S.length [x, y, some (.int c), z] (.bin .Mod (.blt .max2 (.cons (.int 0) (.cons (.bin .Sub (.blt .abs (.cons (.var 2) .nil)) (.bin .Pow (.int 10) (.int 16))) .nil))) (.bin .Mult (.bin .Pow (.int 10) (.int 57)) (.bin .Pow (.int 10) (.int 60)))) S = some (.int g, S) := by
  have a1 : evE (run T n) S.length [x, y, some (.int c), z] (.bin .Sub (.blt .abs (.cons (.var 2) .nil)) (.bin .Pow (.int 10) (.int 16))) S = some (.int ((if c < 0 then -c else c) - 10 ^ 16), S) := by
    rw [e_bin (x := .int (if c < 0 then -c else c)) (S1 := S) (by simp [evE, evS, getV, bltF, gc_intS]) (pow25 n _ _ S 16 16 rfl (by decide))]
    exact gc_intS
  have a2 : evE (run T n) S.length [x, y, some (.int c), z] (.bin .Mult (.bin .Pow (.int 10) (.int 57)) (.bin .Pow (.int 10) (.int 60))) S = some (.int (10 ^ 57 * 10 ^ 60), S) := by
    rw [e_bin (pow25 n _ _ S 57 57 rfl (by decide)) (pow25 n _ _ S 60 60 rfl (by decide))]
    have c : ((10 : Int) ^ 57).natAbs.log2 + ((10 : Int) ^ 60).natAbs.log2 < 1000000 := by decide +kernel
    show gc S.length (if ((10 : Int) ^ 57).natAbs.log2 + ((10 : Int) ^ 60).natAbs.log2 < 1000000 then some (D.int (10 ^ 57 * 10 ^ 60), S) else none) = _
    rw [if_pos c]
    exact gc_intS
  obtain ⟨m, hm⟩ : ∃ m : Int, evE (run T n) S.length [x, y, some (.int c), z] (.blt .max2 (.cons (.int 0) (.cons (.bin .Sub (.blt .abs (.cons (.var 2) .nil)) (.bin .Pow (.int 10) (.int 16))) .nil))) S = some (.int m, S) := by
    rw [e_blt (vs := [.int 0, .int ((if c < 0 then -c else c) - 10 ^ 16)]) (S1 := S) (by rw [evS, e_int]; simp only [evS, a1])]
    exact ⟨_, gc_intS⟩
  refine ⟨m % (10 ^ 57 * 10 ^ 60), ?_⟩
  rw [e_bin hm a2]
  have c : (0 : Int) < 10 ^ 57 * 10 ^ 60 := by decide +kernel
  show gc S.length (if (0 : Int) < 10 ^ 57 * 10 ^ 60 then some (D.int (m % (10 ^ 57 * 10 ^ 60)), S) else none) = _
  rw [if_pos c]
  exact gc_intS
theorem seed25 (n : Nat) (x z : Option D) (spot : Nat) (c : Int) (S : Sto) (hs : spot ≤ 100) : ∃ s : Int, evE (run T n) S.length [x, some (.int (spot : Int)), some (.int c), z] (.bin .Add (.bin .Add (.bin .Add (.bin .Mult (.bin .Mod (.blt .abs (.cons (.var 2) .nil)) (.int 1152921504606846697)) (.int 109)) (.bin .Mult (.int 1031) (.var 1))) (.bin .Mult (.int 67) (.blt .int (.cons (.cmp .Lt (.var 2) (.int 0)) .nil)))) (.int 53)) S = some (.int s, S) := by
  obtain ⟨A, hA⟩ : ∃ A : Int, A = if c < 0 then -c else c := ⟨_, rfl⟩
  have a1 : evE (run T n) S.length [x, some (.int (spot : Int)), some (.int c), z] (.bin .Mod (.blt .abs (.cons (.var 2) .nil)) (.int 1152921504606846697)) S = some (.int (A % 1152921504606846697), S) := by
    rw [e_bin (x := .int A) (S1 := S) (by simp [evE, evS, getV, bltF, gc_intS, hA]) e_int]
    exact gc_intS
  have b1 := Int.emod_nonneg A (show (1152921504606846697 : Int) ≠ 0 by decide)
  have b2 := Int.emod_lt_of_pos A (show (0 : Int) < 1152921504606846697 by decide)
  obtain ⟨B, hB⟩ : ∃ B : Int, B = A % 1152921504606846697 := ⟨_, rfl⟩
  rw [← hB] at a1 b1 b2
  have m1 := logs (a := B) (b := 109) (by omega) (by decide)
  have m2 := logs (a := 1031) (b := (spot : Int)) (by decide) (by omega)
  have a2 : evE (run T n) S.length [x, some (.int (spot : Int)), some (.int c), z] (.bin .Mult (.bin .Mod (.blt .abs (.cons (.var 2) .nil)) (.int 1152921504606846697)) (.int 109)) S = some (.int (B * 109), S) := by
    rw [e_bin a1 e_int]
    simp only [binF, if_pos m1]
    exact gc_intS
  have a3 : evE (run T n) S.length [x, some (.int (spot : Int)), some (.int c), z] (.bin .Mult (.int 1031) (.var 1)) S = some (.int (1031 * (spot : Int)), S) := by
    rw [e_bin (y := .int (spot : Int)) (S2 := S) e_int (by rw [e_var]; rfl)]
    simp only [binF, if_pos m2]
    exact gc_intS
  obtain ⟨q, hq, hq2⟩ : ∃ q : Int, evE (run T n) S.length [x, some (.int (spot : Int)), some (.int c), z] (.blt .int (.cons (.cmp .Lt (.var 2) (.int 0)) .nil)) S = some (.int q, S) ∧ (q = 0 ∨ q = 1) := by
    by_cases h : c < 0
    · exact ⟨1, by simp [evE, evS, getV, cmpF, h, gc_blS, bltF, gc_intS], .inr rfl⟩
    · exact ⟨0, by simp [evE, evS, getV, cmpF, h, gc_blS, bltF, gc_intS], .inl rfl⟩
  have m3 := logs (a := 67) (b := q) (by decide) (by rcases hq2 with e | e <;> rw [e] <;> decide)
  have a4 : evE (run T n) S.length [x, some (.int (spot : Int)), some (.int c), z] (.bin .Mult (.int 67) (.blt .int (.cons (.cmp .Lt (.var 2) (.int 0)) .nil))) S = some (.int (67 * q), S) := by
    rw [e_bin e_int hq]
    simp only [binF, if_pos m3]
    exact gc_intS
  have a5 : evE (run T n) S.length [x, some (.int (spot : Int)), some (.int c), z] (.bin .Add (.bin .Mult (.bin .Mod (.blt .abs (.cons (.var 2) .nil)) (.int 1152921504606846697)) (.int 109)) (.bin .Mult (.int 1031) (.var 1))) S = some (.int (B * 109 + 1031 * (spot : Int)), S) := by
    rw [e_bin a2 a3]
    exact gc_intS
  have a6 : evE (run T n) S.length [x, some (.int (spot : Int)), some (.int c), z] (.bin .Add (.bin .Add (.bin .Mult (.bin .Mod (.blt .abs (.cons (.var 2) .nil)) (.int 1152921504606846697)) (.int 109)) (.bin .Mult (.int 1031) (.var 1))) (.bin .Mult (.int 67) (.blt .int (.cons (.cmp .Lt (.var 2) (.int 0)) .nil)))) S = some (.int (B * 109 + 1031 * (spot : Int) + 67 * q), S) := by
    rw [e_bin a5 a4]
    exact gc_intS
  refine ⟨B * 109 + 1031 * (spot : Int) + 67 * q + 53, ?_⟩
  rw [e_bin a6 e_int]
  exact gc_intS
/-- the dice of a cell: three numbers, the last one 0 -/
theorem f25 (n p : Nat) (ns : List Int) (spot : Nat) (S : Sto) (h : itemsOf S (.ref p) = some (ns.map .int)) (hs : spot ≤ 100) : ∃ g s : Int, run T (n + 1) "_law_dice" [.ref p, .int (spot : Int)] S = some (.ref S.length, S ++ [.lst [.int g, .int s, .int 0]]) := by
  obtain ⟨c, hc⟩ := cell25 n p ns spot none none S h hs
  obtain ⟨g, hg⟩ := great25 n (some (.ref p)) (some (.int (spot : Int))) none c S
  obtain ⟨s, hs2⟩ := seed25 n (some (.ref p)) (some (.int g)) spot c S hs
  refine ⟨g, s, ?_⟩
  have a : evE (run T n) S.length [some (.ref p), some (.int (spot : Int)), some (.int c), some (.int g)] (.lst (.cons (.var 3) (.cons (.bin .Add (.bin .Add (.bin .Add (.bin .Mult (.bin .Mod (.blt .abs (.cons (.var 2) .nil)) (.int 1152921504606846697)) (.int 109)) (.bin .Mult (.int 1031) (.var 1))) (.bin .Mult (.int 67) (.blt .int (.cons (.cmp .Lt (.var 2) (.int 0)) .nil)))) (.int 53)) (.cons (.int 0) .nil)))) S = some (.ref S.length, S ++ [.lst [.int g, .int s, .int 0]]) := by
    rw [evE, evS, e_var]
    simp only [getV, List.getElem?_cons_zero, List.getElem?_cons_succ, Option.join_some, Option.map_some, evS, hs2, e_int]
    exact gc_new0 rfl
  have hx : exs (run T n) S.length c25 [some (.ref p), some (.int (spot : Int)), none, none] S = some (.ret (.ref S.length), [some (.ref p), some (.int (spot : Int)), some (.int c), some (.int g)], S ++ [.lst [.int g, .int s, .int 0]]) := (xs_nx (x_set (i := 2) hc)).trans ((xs_nx (x_set (i := 3) hg)).trans (xs_ret (x_ret a)))
  rw [u25, run_ret (φ := run T n) (c := ⟨2, 4, c25⟩) (vs := [.ref p, .int (spot : Int)]) (S := S) rfl hx]
  exact gc_new0 rfl
end K00
end
section
set_option Elab.async false
set_option linter.all false
set_option autoImplicit false
set_option maxHeartbeats 4000000
namespace K00
open PySem L2 Z
abbrev twoL (Sd : Sto) (w f : List Int) : Sto := Sd ++ [SO.lst (w.map D.int), SO.lst (f.map D.int)]
theorem two_w {Sd : Sto} {w f : List Int} {t : Sto} : (twoL Sd w f ++ t)[Sd.length]? = some (.lst (w.map .int)) := by simp [twoL]
theorem two_f {Sd : Sto} {w f : List Int} {t : Sto} : (twoL Sd w f ++ t)[Sd.length + 1]? = some (.lst (f.map .int)) := by
  rw [twoL, List.append_assoc, List.getElem?_append_right (by omega)]
  rw [show Sd.length + 1 - Sd.length = 1 by omega]
  rfl
theorem test27 (n base : Nat) (x y : Option D) (Sd : Sto) (w f : List Int) : evT (run T n) base [x, y, some (.ref Sd.length), some (.ref (Sd.length + 1))] c27_1 (twoL Sd w f) = some (!decide (w = []), twoL Sd w f) := by
  have h2 : evE (run T n) (twoL Sd w f).length [x, y, some (.ref Sd.length), some (.ref (Sd.length + 1))] (.lst .nil) (twoL Sd w f) = some (.ref (twoL Sd w f).length, twoL Sd w f ++ [.lst []]) := by
    rw [evE, evS]
    exact gc_new0 rfl
  have e : eqD (twoL Sd w f ++ [SO.lst []]) (.ref Sd.length) (.ref (twoL Sd w f).length) = some (decide (w = [])) := eqD_intsL (ns := w) (ms := []) (by rw [two_w]; rfl) (by rw [at_new]; rfl)
  have a : evE (run T n) base [x, y, some (.ref Sd.length), some (.ref (Sd.length + 1))] c27_1 (twoL Sd w f) = some (.bl (!decide (w = [])), twoL Sd w f) := by
    unfold c27_1
    rw [e_cmp (x := .ref Sd.length) (S1 := twoL Sd w f) (by rw [e_var]; rfl) h2]
    show gc _ (((eqD (twoL Sd w f ++ [SO.lst []]) (.ref Sd.length) (.ref (twoL Sd w f).length)).map (!·)).map fun z => (.bl z, twoL Sd w f ++ [SO.lst []])) = _
    rw [e]
    exact gc_blA
  unfold evT
  rw [a]
  rfl
theorem two_set {Sd : Sto} {w f : List Int} {i : Nat} {o : SO} (hi : i < Sd.length) : (twoL Sd w f).set i o = twoL (Sd.set i o) w f := by
  rw [twoL, List.set_append_left _ _ hi]
theorem two_setW {Sd : Sto} {w f w' : List Int} : (twoL Sd w f).set Sd.length (.lst (w'.map .int)) = twoL Sd w' f := by
  rw [twoL, List.set_append_right _ _ (Nat.le_refl _), Nat.sub_self]
  rfl
theorem two_setF {Sd : Sto} {w f f' : List Int} : (twoL Sd w f).set (Sd.length + 1) (.lst (f'.map .int)) = twoL Sd w f' := by
  rw [twoL, List.set_append_right _ _ (by omega), show Sd.length + 1 - Sd.length = 1 by omega]
  rfl
theorem two_w0 {Sd : Sto} {w f : List Int} : (twoL Sd w f)[Sd.length]? = some (.lst (w.map .int)) := by
  have := two_w (Sd := Sd) (w := w) (f := f) (t := [])
  rwa [List.append_nil] at this
theorem two_f0 {Sd : Sto} {w f : List Int} : (twoL Sd w f)[Sd.length + 1]? = some (.lst (f.map .int)) := by
  have := two_f (Sd := Sd) (w := w) (f := f) (t := [])
  rwa [List.append_nil] at this
theorem erase_map {α β : Type} {f : α → β} : ∀ (l : List α) (j : Nat), (l.map f).eraseIdx j = (l.eraseIdx j).map f
  | [], _ => rfl
  | a :: l, 0 => rfl
  | a :: l, j + 1 => by
    rw [List.map_cons, List.eraseIdx_cons_succ, List.eraseIdx_cons_succ, List.map_cons, erase_map l j]
theorem pop27 (base : Nat) (Sd : Sto) (w f : List Int) (j : Nat) (hj : j < w.length) (hl : w.length ≤ 1000) : metF base .popAt (.ref Sd.length) [.int (j : Int)] (twoL Sd w f) = some (.int w[j], twoL Sd (w.eraseIdx j) f) := by
  have h1 : ixN (w.map D.int).length (j : Int) = some j := by simp [ixN, hj]
  have h2 : (w.map D.int)[j]? = some (.int w[j]) := by simp [hj]
  have h3 : rgOk (j : Int) = true := by
    unfold rgOk
    rw [decide_eq_true (by omega), decide_eq_true (by omega)]
    rfl
  have h4 : (w.map D.int).eraseIdx j = (w.eraseIdx j).map D.int := by
    exact erase_map w j
  unfold metF
  simp only [two_w0, h1, h2, h3, if_true, h4, two_setW]
theorem app27 (base : Nat) (Sd : Sto) (w f : List Int) (y : Int) (hl : f.length ≤ 1000) : metF base .append (.ref (Sd.length + 1)) [.int y] (twoL Sd w f) = some (.non, twoL Sd w (f ++ [y])) := by
  have h1 : (wr base (Sd.length + 1) (.int y) && decide ((f.map D.int).length < lim)) = true := by
    rw [List.length_map, decide_eq_true (show f.length < 100000 by omega)]
    simp [wr, D.cl]
  have h2 : f.map D.int ++ [.int y] = (f ++ [y]).map D.int := by rw [List.map_append]; rfl
  unfold metF
  simp only [two_f0, h1, if_true, h2, two_setF]
theorem step27 (n base i : Nat) (g s k : Int) (y : Option D) (Sd : Sto) (w f : List Int) (h : Dice Sd i g s k) (hk : 0 ≤ k) (hk2 : k < 2 ^ 40) (hw : w ≠ []) (hl : w.length ≤ 1000) (hl2 : f.length ≤ 1000) : ∃ (j : Nat) (hj : j < w.length) (g' k' : Int),
    exs (run T (n + 1)) base c27_2 [some (.ref i), y, some (.ref Sd.length), some (.ref (Sd.length + 1))] (twoL Sd w f) = some (.nx, [some (.ref i), y, some (.ref Sd.length), some (.ref (Sd.length + 1))], twoL (Sd.set i (.lst [.int g', .int s, .int k'])) (w.eraseIdx j) (f ++ [w[j]])) ∧ k ≤ k' ∧ k' ≤ k + 1 := by
  have hd : Dice (twoL Sd w f) i g s k := by
    unfold Dice at h ⊢
    rw [twoL, List.getElem?_append_left (List.getElem?_eq_some_iff.mp h).1]
    exact h
  have hlen : 0 < w.length := List.length_pos_iff.mpr hw
  obtain ⟨r, g', k', e, hr0, hr1, h1, h2⟩ := f26 n i g s k (w.length : Int) (twoL Sd w f) hd (by omega) (by omega) hk (by omega)
  obtain ⟨j, rfl⟩ : ∃ j : Nat, r = (j : Int) := ⟨r.toNat, by omega⟩
  have hj : j < w.length := by omega
  obtain ⟨Sd', hSd'⟩ : ∃ Sd', Sd' = Sd.set i (.lst [.int g', .int s, .int k']) := ⟨_, rfl⟩
  have hL : Sd'.length = Sd.length := by rw [hSd', List.length_set]
  rw [two_set h.lt, ← hSd'] at e
  have c1 : ∀ b, evE (run T (n + 1)) b [some (.ref i), y, some (.ref Sd.length), some (.ref (Sd.length + 1))] (.blt .len (.cons (.var 2) .nil)) (twoL Sd w f) = some (.int (w.length : Int), twoL Sd w f) := fun b => by
    rw [e_blt (vs := [.ref Sd.length]) (S1 := twoL Sd w f) (by simp [evS, evE, getV])]
    show gc _ ((((twoL Sd w f)[Sd.length]?).bind SO.seq?).map fun xs => (.int (xs.length : Int), twoL Sd w f)) = _
    rw [two_w0]
    show gc _ (some (D.int ((w.map D.int).length : Int), twoL Sd w f)) = _
    rw [List.length_map]
    exact gc_intS
  have c2 : ∀ b, evE (run T (n + 1)) b [some (.ref i), y, some (.ref Sd.length), some (.ref (Sd.length + 1))] (.call "_law_roll" (.cons (.var 0) (.cons (.blt .len (.cons (.var 2) .nil)) .nil))) (twoL Sd w f) = some (.int (j : Int), twoL Sd' w f) := fun b => by
    rw [e_call (vs := [.ref i, .int (w.length : Int)]) (S1 := twoL Sd w f) (by simp only [evS, e_var, getV, List.getElem?_cons_zero, Option.join_some, Option.map_some, c1]), e]
    have : (twoL Sd w f).length = (twoL Sd' w f).length := by simp [twoL, hL]
    rw [this]
    exact gc_intS
  have c3 : evE (run T (n + 1)) base [some (.ref i), y, some (.ref Sd.length), some (.ref (Sd.length + 1))] (.met .popAt (.var 2) (.cons (.call "_law_roll" (.cons (.var 0) (.cons (.blt .len (.cons (.var 2) .nil)) .nil))) .nil)) (twoL Sd w f) = some (.int w[j], twoL Sd' (w.eraseIdx j) f) := by
    have hp : metP .popAt (.ref Sd.length) (twoL Sd w f) = true := by
      unfold metP
      simp only [two_w0]
    have := pop27 base Sd' w f j hj hl
    rw [hL] at this
    rw [evE, e_var]
    simp only [getV, List.getElem?_cons_zero, List.getElem?_cons_succ, Option.join_some, Option.map_some, hp, if_true, evS, c2, this]
  have c4 : evE (run T (n + 1)) base [some (.ref i), y, some (.ref Sd.length), some (.ref (Sd.length + 1))] (.met .append (.var 3) (.cons (.met .popAt (.var 2) (.cons (.call "_law_roll" (.cons (.var 0) (.cons (.blt .len (.cons (.var 2) .nil)) .nil))) .nil)) .nil)) (twoL Sd w f) = some (.non, twoL Sd' (w.eraseIdx j) (f ++ [w[j]])) := by
    have hp : metP .append (.ref (Sd.length + 1)) (twoL Sd w f) = true := by
      unfold metP
      simp only [two_f0]
    have := app27 base Sd' (w.eraseIdx j) f w[j] hl2
    rw [hL] at this
    rw [evE, e_var]
    simp only [getV, List.getElem?_cons_zero, List.getElem?_cons_succ, Option.join_some, Option.map_some, hp, if_true, evS, c3, this]
  refine ⟨j, hj, g', k', ?_, h1, h2⟩
  rw [← hSd']
  exact (xs_nx (x_expr c4)).trans xs_nil
theorem perm_erase : ∀ (l : List Int) (j : Nat) (hj : j < l.length), (l[j] :: l.eraseIdx j).Perm l
  | a :: l, 0, _ => List.Perm.refl _
  | a :: l, j + 1, h => by
    show (l[j]'(Nat.lt_of_succ_lt_succ h) :: a :: l.eraseIdx j).Perm (a :: l)
    exact (List.Perm.swap _ _ _).trans (List.Perm.cons a (perm_erase l j (Nat.lt_of_succ_lt_succ h)))
theorem loop27 (n base i : Nat) (s : Int) (y : Option D) (L : Nat) : ∀ (m fu : Nat) (w f : List Int) (g k : Int) (Sd : Sto), w.length = m → m < fu → Sd.length = L → Dice Sd i g s k → 0 ≤ k → k + m < 2 ^ 40 → f.length + m ≤ 1000 →
    ∃ (r : List Int) (g' k' : Int), whF (fun env1 S1 => evT (run T (n + 1)) base env1 c27_1 S1) (fun env1 S1 => exs (run T (n + 1)) base c27_2 env1 S1) fu [some (.ref i), y, some (.ref L), some (.ref (L + 1))] (twoL Sd w f) = some (.nx, [some (.ref i), y, some (.ref L), some (.ref (L + 1))], twoL (Sd.set i (.lst [.int g', .int s, .int k'])) [] r) ∧ r.Perm (f ++ w) ∧ k ≤ k' ∧ k' ≤ k + m
  | 0, fu + 1, w, f, g, k, Sd, hm, hfu, hL, h, hk, hb, hl => by
    have hw : w = [] := List.eq_nil_of_length_eq_zero hm
    subst hw
    subst hL
    refine ⟨f, g, k, ?_, by rw [List.append_nil], Int.le_refl _, by omega⟩
    rw [whF, test27, set_same h]
    rfl
  | m + 1, fu + 1, w, f, g, k, Sd, hm, hfu, hL, h, hk, hb, hl => by
    have hw : w ≠ [] := fun q => by rw [q] at hm; cases hm
    subst hL
    obtain ⟨j, hj, g1, k1, e, h1, h2⟩ := step27 n base i g s k y Sd w f h hk (by omega) hw (by omega) (by omega)
    have h' := h.set g1 s k1
    obtain ⟨r, g2, k2, e2, pm, h3, h4⟩ := loop27 n base i s y Sd.length m fu (w.eraseIdx j) (f ++ [w[j]]) g1 k1 _ (by rw [List.length_eraseIdx_of_lt hj]; omega) (by omega) (by rw [List.length_set]) h' (by omega) (by omega) (by rw [List.length_append, List.length_singleton]; omega)
    refine ⟨r, g2, k2, ?_, ?_, by omega, by omega⟩
    · rw [whF, test27]
      have hd : (!decide (w = [])) = true := by rw [decide_eq_false hw]; rfl
      rw [hd]
      simp only [e, e2, List.set_set]
    · refine pm.trans ?_
      rw [List.append_assoc]
      refine List.Perm.append_left f ?_
      exact perm_erase w j hj
/-- items, mixed by the dice: a new list, the same items in some sequence -/
theorem f27 (n i p : Nat) (g s k : Int) (ns : List Int) (S : Sto) (h : Dice S i g s k) (hp : itemsOf S (.ref p) = some (ns.map .int)) (hk : 0 ≤ k) (hb : k + ns.length < 2 ^ 40) (hl : ns.length ≤ 1000) :
    ∃ (r : List Int) (g' k' : Int), run T (n + 2) "_law_mixed" [.ref i, .ref p] S = some (.ref S.length, S.set i (.lst [.int g', .int s, .int k']) ++ [.lst (r.map .int)]) ∧ r.Perm ns ∧ k ≤ k' ∧ k' ≤ k + ns.length := by
  have a1 : evE (run T (n + 1)) S.length [some (.ref i), some (.ref p), none, none] (.blt .list (.cons (.var 1) .nil)) S = some (.ref S.length, S ++ [.lst (ns.map .int)]) := by
    rw [e_blt (vs := [.ref p]) (S1 := S) (by simp [evS, evE, getV])]
    show gc _ ((itemsOf S (.ref p)).bind fun xs => new S (.lst xs)) = _
    rw [hp]
    exact gc_new0 (cl_ints _)
  have a2 : evE (run T (n + 1)) S.length [some (.ref i), some (.ref p), none, none] (.lst .nil) (S ++ [.lst (ns.map .int)]) = some (.ref (S.length + 1), twoL S ns []) := by
    rw [evE, evS]
    refine (gc_new0 (S := S ++ [SO.lst (ns.map .int)]) (o := .lst []) rfl).trans ?_
    rw [List.length_append, List.length_singleton, List.append_assoc]
    rfl
  have x1 : ex1 (run T (n + 1)) S.length (.par 2 3 (.blt .list (.cons (.var 1) .nil)) (.lst .nil)) [some (.ref i), some (.ref p), none, none] S = some (.nx, [some (.ref i), some (.ref p), some (.ref S.length), some (.ref (S.length + 1))], twoL S ns []) := by
    rw [ex1, a1]
    simp only [a2]
    rfl
  obtain ⟨r, g', k', e, pm, h1, h2⟩ := loop27 n S.length i s (some (.ref p)) S.length ns.length fuel ns [] g k S rfl (by show ns.length < 1000000; omega) rfl h hk hb (by simp; omega)
  have x2 : ex1 (run T (n + 1)) S.length (.while c27_1 c27_2) [some (.ref i), some (.ref p), some (.ref S.length), some (.ref (S.length + 1))] (twoL S ns []) = some (.nx, [some (.ref i), some (.ref p), some (.ref S.length), some (.ref (S.length + 1))], twoL (S.set i (.lst [.int g', .int s, .int k'])) [] r) := by
    rw [ex1]
    exact e
  have hx : exs (run T (n + 1)) S.length c27 [some (.ref i), some (.ref p), none, none] S = some (.ret (.ref (S.length + 1)), [some (.ref i), some (.ref p), some (.ref S.length), some (.ref (S.length + 1))], twoL (S.set i (.lst [.int g', .int s, .int k'])) [] r) := (xs_nx x1).trans ((xs_nx x2).trans (xs_ret (x_ret (by rw [e_var]; rfl))))
  refine ⟨r, g', k', ?_, by simpa using pm, h1, h2⟩
  rw [u27, run_ret (φ := run T (n + 1)) (c := ⟨2, 4, c27⟩) (vs := [.ref i, .ref p]) (S := S) rfl hx]
  have := gc_new (S := S.set i (.lst [.int g', .int s, .int k'])) (t := [.lst []]) (o := .lst (r.map .int)) (k := 1) rfl (cl_ints _)
  rw [List.length_set] at this
  exact this
end K00
end
section
set_option Elab.async false
set_option linter.all false
set_option autoImplicit false
set_option maxHeartbeats 4000000
namespace K00
open PySem L2 Z
/-! ### the law's judge of lots -/
/-- no whole number -/
def oddB (d : D) : Bool := match d with
  | .int _ => false
  | _ => true
theorem t31 (n : Nat) (x y : D) (z : Option D) (d : D) (S : Sto) (h : d.cl S.length = true) : lcS (run T n) S.length [some x, some y, z] [2] (.nm 2) c31_2 (.int 1) d S = some (if oddB d = true then some (.int 1) else none, S) := by
  obtain ⟨b, e1, c, e2, e3⟩ := isi_int h
  have e : oddB d = (c || !b) := by
    have : oddB d = !wholeD d := by cases d <;> rfl
    rw [this, ← e3]
    cases b <;> cases c <;> rfl
  unfold lcS c31_2
  rw [e]
  cases b <;> cases c <;> simp [tgF, wipeE, evO, evE, getV, e1, e2, gc_blS, truF]
theorem asc_lo {b : Int} : ∀ {ds : List D} {a : Int}, ascL b a ds = true → ∃ ns : List Int, ds = ns.map .int ∧ ns.Pairwise (· < ·) ∧ ∀ i, i ∈ ns → a ≤ i ∧ i ≤ b
  | [], a, _ => ⟨[], rfl, List.Pairwise.nil, fun i hi => by cases hi⟩
  | d :: r, a, h => by
    cases d with
    | int i =>
      have h' : (betD (.int i) a b && ascL b (i + 1) r) = true := h
      obtain ⟨h1, h2⟩ := and2 h'
      obtain ⟨h3, h4⟩ := and2 (show (decide (a ≤ i) && decide (i ≤ b)) = true from h1)
      have h3 := of_decide_eq_true h3
      have h4 := of_decide_eq_true h4
      obtain ⟨ns, rfl, pw, hb⟩ := asc_lo h2
      refine ⟨i :: ns, rfl, List.pairwise_cons.mpr ⟨fun j hj => by have := (hb j hj).1; omega, pw⟩, fun j hj => ?_⟩
      rcases List.mem_cons.mp hj with e | hj
      · subst e; exact ⟨h3, h4⟩
      · have := hb j hj
        exact ⟨by omega, this.2⟩
    | _ => cases h
end K00
namespace K00
open PySem L2 Z
theorem fm_odd : ∀ ds : List D, (ds.filterMap fun d => if oddB d = true then some (D.int 1) else none) = (List.replicate (ds.filter oddB).length (1 : Int)).map D.int
  | [] => rfl
  | d :: r => by
    rw [List.filterMap_cons, List.filter_cons, fm_odd r]
    cases oddB d <;> rfl
theorem odd31 (n base : Nat) (y : D) (ds : List D) (S : Sto) (h : clL S.length ds = true) (hl : ds.length ≤ lim) : evE (run T n) base [some (.tup ds), some y, none] (.cmp .NotEq (.lc [2] (.nm 2) (.ex (.var 0)) c31_2 (.int 1)) (.lst .nil)) S = some (.bl (!decide (ds.filter oddB = [])), S) := by
  have hi : evI (run T n) S.length [some (.tup ds), some y, none] (.ex (.var 0)) S = some (ds, none, S) := by
    simp [evI, evE, getV, itV]
  obtain ⟨os, hos⟩ : ∃ os : List Int, os = List.replicate (ds.filter oddB).length (1 : Int) := ⟨_, rfl⟩
  have h2 : lcF (lcS (run T n) S.length [some (.tup ds), some y, none] [2] (.nm 2) c31_2 (.int 1)) (fun S2 => still S2 none ds) ds [] S = some (os.map D.int, S) := by
    rw [lc_pure (fun d => if oddB d = true then some (.int 1) else none) rfl ds [] (by simpa using hl) fun d hd => t31 n _ y none d S (clL_mem h d hd), fm_odd, hos]
    rfl
  have a1 : evE (run T n) S.length [some (.tup ds), some y, none] (.lc [2] (.nm 2) (.ex (.var 0)) c31_2 (.int 1)) S = some (.ref S.length, S ++ [.lst (os.map D.int)]) := by
    rw [e_lc rfl hi h2]
    exact gc_new0 (cl_ints _)
  have a2 : evE (run T n) S.length [some (.tup ds), some y, none] (.lst .nil) (S ++ [.lst (os.map D.int)]) = some (.ref (S ++ [SO.lst (os.map D.int)]).length, S ++ [SO.lst (os.map D.int)] ++ [.lst []]) := by
    rw [evE, evS]
    exact gc_new0 rfl
  rw [e_cmp a1 a2]
  have e : eqD (S ++ [SO.lst (os.map D.int)] ++ [SO.lst []]) (.ref S.length) (.ref (S ++ [SO.lst (os.map D.int)]).length) = some (decide (os = [])) := eqD_intsL (ns := os) (ms := []) (by simp [SO.seq?]) (by rw [at_new]; rfl)
  show gc _ (((eqD (S ++ [SO.lst (os.map D.int)] ++ [SO.lst []]) (.ref S.length) (.ref (S ++ [SO.lst (os.map D.int)]).length)).map (!·)).map fun z => (.bl z, S ++ [SO.lst (os.map D.int)] ++ [SO.lst []])) = _
  rw [e, List.append_assoc]
  have q : decide (os = []) = decide (ds.filter oddB = []) := by
    rw [hos]
    simp [List.replicate_eq_nil_iff]
  rw [← q]
  exact gc_blA
end K00
end
section
set_option Elab.async false
set_option linter.all false
set_option autoImplicit false
set_option maxHeartbeats 4000000
namespace K00
open PySem L2 Z
theorem same31 (n base : Nat) (y : D) (ns : List Int) (S : Sto) (hl : ns.length < 64) : evE (run T n) base [some (.tup (ns.map .int)), some y, none] (.cmp .Eq (.blt .list (.cons (.var 0) .nil)) (.srs (.var 0))) S = some (.bl (decide (ns = srtU ns)), S) := by
  have a1 : evE (run T n) S.length [some (.tup (ns.map .int)), some y, none] (.blt .list (.cons (.var 0) .nil)) S = some (.ref S.length, S ++ [.lst (ns.map .int)]) := by
    rw [e_blt (vs := [.tup (ns.map .int)]) (S1 := S) (by simp [evS, evE, getV])]
    exact gc_new0 (cl_ints _)
  have a2 : evE (run T n) S.length [some (.tup (ns.map .int)), some y, none] (.srs (.var 0)) (S ++ [.lst (ns.map .int)]) = some (.ref (S ++ [SO.lst (ns.map D.int)]).length, S ++ [SO.lst (ns.map D.int)] ++ [.lst ((srtU ns).map .int)]) := by
    rw [evE, e_var]
    show gc _ ((intsOf (ns.map .int)).bind fun ns => if ns.length < 64 then new (S ++ [SO.lst _]) (.lst ((srtU ns).map .int)) else none) = _
    rw [intsOf_ints, Option.bind_some, if_pos hl]
    exact gc_new0 (cl_ints _)
  rw [e_cmp a1 a2]
  have e : eqD (S ++ [SO.lst (ns.map D.int)] ++ [SO.lst ((srtU ns).map D.int)]) (.ref S.length) (.ref (S ++ [SO.lst (ns.map D.int)]).length) = some (decide (ns = srtU ns)) := eqD_intsL (ns := ns) (ms := srtU ns) (by simp [SO.seq?]) (by rw [at_new]; rfl)
  show gc _ ((eqD (S ++ [SO.lst (ns.map D.int)] ++ [SO.lst ((srtU ns).map D.int)]) (.ref S.length) (.ref (S ++ [SO.lst (ns.map D.int)]).length)).map fun z => (.bl z, S ++ [SO.lst (ns.map D.int)] ++ [SO.lst ((srtU ns).map D.int)])) = _
  rw [e, List.append_assoc]
  exact gc_blA
theorem t31b (n : Nat) (x : D) (many : Int) (z : Option D) (i : Int) (S : Sto) : lcS (run T n) S.length [some x, some (.int many), z] [2] (.nm 2) c31_1 (.var 2) (.int i) S = some (if (decide (0 ≤ i) && decide (i < many)) = true then none else some (.int i), S) := by
  unfold lcS c31_1
  by_cases h1 : 0 ≤ i <;> by_cases h2 : i < many <;> simp [tgF, wipeE, evO, evE, getV, cmpF, gc_blS, truF, h1, h2]
theorem rng31 (n base : Nat) (many : Int) (ns : List Int) (S : Sto) (hl : ns.length ≤ lim) : evE (run T n) base [some (.tup (ns.map .int)), some (.int many), none] (.cmp .Eq (.lc [2] (.nm 2) (.ex (.var 0)) c31_1 (.var 2)) (.lst .nil)) S = some (.bl (decide (∀ i, i ∈ ns → 0 ≤ i ∧ i < many)), S) := by
  have hi : evI (run T n) S.length [some (.tup (ns.map .int)), some (.int many), none] (.ex (.var 0)) S = some (ns.map .int, none, S) := by
    simp [evI, evE, getV, itV]
  obtain ⟨os, hos⟩ : ∃ os : List Int, os = ns.filter fun i => !(decide (0 ≤ i) && decide (i < many)) := ⟨_, rfl⟩
  have h2 : lcF (lcS (run T n) S.length [some (.tup (ns.map .int)), some (.int many), none] [2] (.nm 2) c31_1 (.var 2)) (fun S2 => still S2 none (ns.map .int)) (ns.map .int) [] S = some (os.map D.int, S) := by
    rw [lc_ints (fun i => if (decide (0 ≤ i) && decide (i < many)) = true then none else some (.int i)) rfl ns hl fun i hi => t31b n _ many none i S, hos, ← filterMap_if]
    congr 3
    funext i
    cases (decide (0 ≤ i) && decide (i < many)) <;> rfl
  have a1 : evE (run T n) S.length [some (.tup (ns.map .int)), some (.int many), none] (.lc [2] (.nm 2) (.ex (.var 0)) c31_1 (.var 2)) S = some (.ref S.length, S ++ [.lst (os.map D.int)]) := by
    rw [e_lc rfl hi h2]
    exact gc_new0 (cl_ints _)
  have a2 : evE (run T n) S.length [some (.tup (ns.map .int)), some (.int many), none] (.lst .nil) (S ++ [.lst (os.map D.int)]) = some (.ref (S ++ [SO.lst (os.map D.int)]).length, S ++ [SO.lst (os.map D.int)] ++ [.lst []]) := by
    rw [evE, evS]
    exact gc_new0 rfl
  rw [e_cmp a1 a2]
  have e : eqD (S ++ [SO.lst (os.map D.int)] ++ [SO.lst []]) (.ref S.length) (.ref (S ++ [SO.lst (os.map D.int)]).length) = some (decide (os = [])) := eqD_intsL (ns := os) (ms := []) (by simp [SO.seq?]) (by rw [at_new]; rfl)
  show gc _ ((eqD (S ++ [SO.lst (os.map D.int)] ++ [SO.lst []]) (.ref S.length) (.ref (S ++ [SO.lst (os.map D.int)]).length)).map fun z => (.bl z, S ++ [SO.lst (os.map D.int)] ++ [SO.lst []])) = _
  rw [e, List.append_assoc]
  have q : decide (os = []) = decide (∀ i, i ∈ ns → 0 ≤ i ∧ i < many) := by
    rw [hos]
    congr 1
    rw [List.filter_eq_nil_iff]
    simp
  rw [← q]
  exact gc_blA
theorem asc_srt {ns : List Int} : ns = srtU ns ↔ ns.Pairwise (· < ·) :=
  ⟨fun h => by rw [h]; exact srtU_asc ns, fun h => asc_same h (srtU_asc ns) fun k => (srtU_mem k ns).symm⟩
theorem asc_iff {many : Int} {ns : List Int} : ascD (.tup (ns.map .int)) many = (decide (ns = srtU ns) && decide (∀ i, i ∈ ns → 0 ≤ i ∧ i < many)) := by
  rw [Bool.eq_iff_iff, Bool.and_eq_true, decide_eq_true_eq, decide_eq_true_eq, asc_srt]
  constructor
  · intro h
    obtain ⟨ms, e, pw, hb⟩ := asc_lo (show ascL (many - 1) 0 (ns.map .int) = true from h)
    have e2 : ns = ms := by
      have q := congrArg intsOf e
      rw [intsOf_ints, intsOf_ints] at q
      exact Option.some.inj q
    subst e2
    exact ⟨pw, fun i hi => by have := hb i hi; omega⟩
  · rintro ⟨pw, hb⟩
    exact asc_of_lot pw fun i hi => by have := hb i hi; omega
theorem no_odd : ∀ {ds : List D}, ds.filter oddB = [] → ∃ ns : List Int, ds = ns.map .int
  | [], _ => ⟨[], rfl⟩
  | d :: r, h => by
    rw [List.filter_cons] at h
    cases d with
    | int i =>
      obtain ⟨ns, rfl⟩ := no_odd (ds := r) h
      exact ⟨i :: ns, rfl⟩
    | _ => cases h
theorem f31_no (n : Nat) (many : Int) (v : D) (S : Sto) (t : evE (run T n) S.length [some v, some (.int many), none] (.not (.isi (.var 0) .tuple)) S = some (.bl true, S)) : run T (n + 1) "_law_lo_is" [v, .int many] S = some (.bl false, S) := by
  have e1 : evT (run T n) S.length [some v, some (.int many), none] (.or (.not (.isi (.var 0) .tuple)) (.cmp .NotEq (.lc [2] (.nm 2) (.ex (.var 0)) c31_2 (.int 1)) (.lst .nil))) S = some (true, S) := by
    unfold evT
    rw [evE, t]
    rfl
  have hx : exs (run T n) S.length c31 [some v, some (.int many), none] S = some (.ret (.bl false), [some v, some (.int many), none], S) := xs_ret ((x_if e1).trans (xs_ret (x_ret e_bl)))
  rw [u31, run_ret (φ := run T n) (c := ⟨2, 3, c31⟩) (vs := [v, .int many]) (S := S) rfl hx, gc_blS]
theorem f31 (n : Nat) (many : Int) (v : D) (S : Sto) (h : v.cl S.length = true) (hl : ∀ ds, v = .tup ds → ds.length ≤ lim) (hs : ∀ ns : List Int, v = .tup (ns.map .int) → ns.length < 64) : run T (n + 1) "_law_lo_is" [v, .int many] S = some (.bl (ascD v many), S) := by
  have t : evE (run T n) S.length [some v, some (.int many), none] (.not (.isi (.var 0) .tuple)) S = some (.bl (!(tupD v).isSome), S) := by
    simp [evE, getV, isi_tup h, gc_blS, truF]
  cases v with
  | tup ds =>
    have o := odd31 n S.length (.int many) ds S h (hl ds rfl)
    have e1 : evT (run T n) S.length [some (.tup ds), some (.int many), none] (.or (.not (.isi (.var 0) .tuple)) (.cmp .NotEq (.lc [2] (.nm 2) (.ex (.var 0)) c31_2 (.int 1)) (.lst .nil))) S = some (!decide (ds.filter oddB = []), S) := by
      unfold evT
      rw [evE, t]
      simp only [tupD, Option.isSome_some, Bool.not_true, truF, o, Option.map_some]
    by_cases hf : ds.filter oddB = []
    · obtain ⟨ns, rfl⟩ := no_odd hf
      have hlen : ns.length < 64 := hs ns rfl
      have b1 := same31 n S.length (.int many) ns S hlen
      have b2 := rng31 n S.length many ns S (by show ns.length ≤ 100000; omega)
      have e2 : evE (run T n) S.length [some (.tup (ns.map .int)), some (.int many), none] (.and (.cmp .Eq (.blt .list (.cons (.var 0) .nil)) (.srs (.var 0))) (.cmp .Eq (.lc [2] (.nm 2) (.ex (.var 0)) c31_1 (.var 2)) (.lst .nil))) S = some (.bl (ascD (.tup (ns.map .int)) many), S) := by
        rw [evE, b1, asc_iff]
        by_cases q : ns = srtU ns
        · rw [decide_eq_true q]
          simp only [truF, b2, Bool.true_and]
        · rw [decide_eq_false q]
          simp only [truF, Bool.false_and]
      rw [hf] at e1
      have hx : exs (run T n) S.length c31 [some (.tup (ns.map .int)), some (.int many), none] S = some (.ret (.bl (ascD (.tup (ns.map .int)) many)), [some (.tup (ns.map .int)), some (.int many), none], S) := (xs_nx ((x_if e1).trans xs_nil)).trans (xs_ret (x_ret e2))
      rw [u31, run_ret (φ := run T n) (c := ⟨2, 3, c31⟩) (vs := [.tup (ns.map .int), .int many]) (S := S) rfl hx, gc_blS]
    · have ea : ascD (.tup ds) many = false := by
        cases q : ascD (.tup ds) many with
        | false => rfl
        | true =>
          obtain ⟨ns, e, _, _⟩ := asc_lo (show ascL (many - 1) 0 ds = true from q)
          refine absurd ?_ hf
          rw [e, List.filter_eq_nil_iff]
          intro d hd
          obtain ⟨i, _, rfl⟩ := List.mem_map.mp hd
          simp [oddB]
      rw [decide_eq_false hf] at e1
      have hx : exs (run T n) S.length c31 [some (.tup ds), some (.int many), none] S = some (.ret (.bl false), [some (.tup ds), some (.int many), none], S) := xs_ret ((x_if e1).trans (xs_ret (x_ret e_bl)))
      rw [u31, run_ret (φ := run T n) (c := ⟨2, 3, c31⟩) (vs := [.tup ds, .int many]) (S := S) rfl hx, gc_blS, ea]
  | _ => exact f31_no n many _ S t
end K00
end
section
set_option Elab.async false
set_option linter.all false
set_option autoImplicit false
set_option maxHeartbeats 4000000
/-! data, dicts of counts, more rules -/
namespace Z
open PySem L2

/-- data that == takes -/
def ShD (f : Nat → Option PyData) (d : D) : Prop := ∃ p, pyD f d = some p ∧ p.canLay0 = true ∧ p.depth ≤ 20
theorem pyL_sh {f : Nat → Option PyData} : ∀ {xs : List D}, (∀ d, d ∈ xs → ShD f d) → ∃ ps, pyL f xs = some ps ∧ PyData.canLayAll0 ps = true ∧ PyData.depthAll ps ≤ 20 ∧ ps.length = xs.length
  | [], _ => ⟨[], rfl, by simp [PyData.canLayAll0], by simp [PyData.depthAll], rfl⟩
  | d :: r, h => by
    obtain ⟨p, e, hc, hd⟩ := h d List.mem_cons_self
    obtain ⟨ps, e2, hc2, hd2, hl⟩ := pyL_sh (xs := r) fun x hx => h x (List.mem_cons_of_mem _ hx)
    refine ⟨p :: ps, ?_, ?_, ?_, by rw [List.length_cons, hl, List.length_cons]⟩
    · rw [pyL, e, e2]
    · simp [PyData.canLayAll0, hc, hc2]
    · simp only [PyData.depthAll]
      exact Nat.max_le.mpr ⟨hd, hd2⟩
theorem rdS_seq {S : Sto} {i n : Nat} {xs : List D} (h : (S[i]?).bind SO.seq? = some xs) : rdS S (n + 1) i = (pyL (rdS S n) xs).map .list := by rw [rdS, h]; rfl
/-- a list of data is the empty one or not -/
theorem eqD_nil {S : Sto} {i j : Nat} {xs : List D} (h1 : (S[i]?).bind SO.seq? = some xs) (h2 : (S[j]?).bind SO.seq? = some []) (h : ∀ d, d ∈ xs → ShD (rdS S 7) d) : eqD S (.ref i) (.ref j) = some (decide (xs = [])) := by
  obtain ⟨ps, e, hc, hd, hl⟩ := pyL_sh h
  have e1 : rdS S 8 i = some (.list ps) := by rw [rdS_seq h1, e]; rfl
  have e2 : rdS S 8 j = some (.list []) := by rw [rdS_seq h2]; rfl
  have s1 : SeqAt.shaped (.list ps) = true := by
    unfold SeqAt.shaped
    rw [Bool.and_eq_true, decide_eq_true_eq]
    refine ⟨by simpa [PyData.canLay0] using hc, ?_⟩
    simp only [PyData.depth]
    omega
  unfold eqD py
  simp only [pyD, e1, e2]
  rw [s1]
  show (if (true && SeqAt.shaped (.list [])) = true then some (PyData.eqv (.list ps) (.list [])) else none) = _
  rw [if_pos (by rfl)]
  cases ps with
  | nil =>
    cases xs with
    | nil => rfl
    | cons => cases hl
  | cons p ps =>
    cases xs with
    | nil => cases hl
    | cons => rfl
theorem rdS_app {S t : Sto} : ∀ {n i : Nat} {p : PyData}, rdS S n i = some p → rdS (S ++ t) n i = some p
  | 0, i, p, h => by cases h
  | n + 1, i, p, h => by
    rw [rdS] at h ⊢
    cases hi : S[i]? with
    | none => rw [hi] at h; cases h
    | some o =>
      have hlt : i < S.length := (List.getElem?_eq_some_iff.mp hi).1
      rw [List.getElem?_append_left hlt, hi]
      rw [hi] at h
      cases ho : SO.seq? o with
      | none => rw [Option.bind_some, ho] at h; cases h
      | some xs =>
        rw [Option.bind_some, ho, Option.bind_some] at h ⊢
        cases hx : pyL (rdS S n) xs with
        | none => rw [hx] at h; cases h
        | some ps =>
          rw [hx] at h
          rw [pyL_mono (fun i p => rdS_app (n := n) (i := i) (p := p)) hx]
          exact h
where
  pyD_mono {f g : Nat → Option PyData} (hf : ∀ i p, f i = some p → g i = some p) : ∀ {d : D} {p : PyData}, pyD f d = some p → pyD g d = some p
    | .non, p, h => h
    | .bl _, p, h => h
    | .int _, p, h => h
    | .str _, p, h => h
    | .ref i, p, h => hf i p h
    | .tup ds, p, h => by
      rw [pyD] at h ⊢
      cases hx : pyL f ds with
      | none => rw [hx] at h; cases h
      | some ps =>
        rw [hx] at h
        rw [pyL_mono hf hx]
        exact h
  pyL_mono {f g : Nat → Option PyData} (hf : ∀ i p, f i = some p → g i = some p) : ∀ {ds : List D} {ps : List PyData}, pyL f ds = some ps → pyL g ds = some ps
    | [], ps, h => h
    | d :: r, ps, h => by
      rw [pyL] at h ⊢
      cases h1 : pyD f d with
      | none => rw [h1] at h; cases h
      | some p =>
        cases h2 : pyL f r with
        | none => rw [h1, h2] at h; cases h
        | some qs =>
          rw [h1, h2] at h
          rw [pyD_mono hf h1, pyL_mono hf h2]
          exact h
theorem ShD.app {S t : Sto} {n : Nat} {d : D} (h : ShD (rdS S n) d) : ShD (rdS (S ++ t) n) d := by
  obtain ⟨p, e, a, b⟩ := h
  exact ⟨p, rdS_app.pyD_mono (fun i p => rdS_app) e, a, b⟩
theorem ShD.int {f : Nat → Option PyData} {i : Int} : ShD f (.int i) := ⟨.int i, rfl, by simp [PyData.canLay0], by simp [PyData.depth]⟩
theorem ShD.bl {f : Nat → Option PyData} {i : Bool} : ShD f (.bl i) := ⟨.bool i, rfl, by simp [PyData.canLay0], by simp [PyData.depth]⟩
theorem ShD.non {f : Nat → Option PyData} : ShD f .non := ⟨.none, rfl, by simp [PyData.canLay0], by simp [PyData.depth]⟩
theorem ShD.ints {f : Nat → Option PyData} {ns : List Int} : ShD f (.tup (ns.map .int)) := by
  refine ⟨.tuple (ns.map .int), by rw [pyD, pyL_ints]; rfl, by simp [PyData.canLay0, PySem.W.ke_canLayAll0], by simp [PyData.depth, PySem.W.ke_depthAll]⟩
theorem ShD.intsL {S : Sto} {n i : Nat} {ns : List Int} (h : (S[i]?).bind SO.seq? = some (ns.map .int)) : ShD (rdS S (n + 1)) (.ref i) := by
  refine ⟨.list (ns.map .int), by rw [pyD, rdS_seq h, pyL_ints]; rfl, by simp [PyData.canLay0, PySem.W.ke_canLayAll0], by simp [PyData.depth, PySem.W.ke_depthAll]⟩
/-! ### dicts of numbers -/
def kvOf (ms : List Int) (c : Int → Int) : List (Key × D) := ms.map fun i => (.inl i, .int (c i))
theorem kv_keys {ms : List Int} {c : Int → Int} : (kvOf ms c).map (fun p => kD p.1) = ms.map .int := by
  unfold kvOf
  rw [List.map_map]
  rfl
theorem look_kv {c : Int → Int} {i : Int} : ∀ {ms : List Int}, dLook (kvOf ms c) (.inl i) = if i ∈ ms then some (.int (c i)) else none
  | [] => rfl
  | m :: ms => by
    have ih := look_kv (c := c) (i := i) (ms := ms)
    unfold dLook kvOf at ih ⊢
    rw [List.map_cons, List.find?_cons]
    by_cases h : m = i
    · subst h
      simp
    · have h' : ¬ ((Sum.inl m : Key) = Sum.inl i) := fun q => h (Sum.inl.inj q)
      have h2 : i ≠ m := fun q => h q.symm
      simp only [decide_eq_false h', ih, List.mem_cons, h2, false_or]
theorem any_kv {c : Int → Int} {i : Int} : ∀ {ms : List Int}, ((kvOf ms c).any fun kv => decide (kv.1 = (.inl i : Key))) = decide (i ∈ ms)
  | [] => rfl
  | m :: ms => by
    have ih := any_kv (c := c) (i := i) (ms := ms)
    unfold kvOf at ih ⊢
    rw [List.map_cons, List.any_cons, ih]
    by_cases h : m = i
    · subst h
      simp
    · have h' : ¬ ((Sum.inl m : Key) = Sum.inl i) := fun q => h (Sum.inl.inj q)
      have h2 : i ≠ m := fun q => h q.symm
      simp [h2, h]
theorem put_kv {c : Int → Int} {ms : List Int} {i v : Int} : dPut (kvOf ms c) (.inl i) (.int v) = kvOf (if i ∈ ms then ms else ms ++ [i]) (fun j => if j = i then v else c j) := by
  unfold dPut
  rw [any_kv]
  by_cases h : i ∈ ms
  · rw [if_pos (decide_eq_true h), if_pos h]
    unfold kvOf
    rw [List.map_map]
    refine List.map_congr_left fun j hj => ?_
    show (if (Sum.inl j : Key) = Sum.inl i then ((Sum.inl j : Key), D.int v) else ((Sum.inl j : Key), D.int (c j))) = ((Sum.inl j : Key), D.int (if j = i then v else c j))
    by_cases q : j = i
    · subst q
      rw [if_pos rfl, if_pos rfl]
    · rw [if_neg fun z => q (Sum.inl.inj z), if_neg q]
  · rw [decide_eq_false h, if_neg (by decide), if_neg h]
    unfold kvOf
    rw [List.map_append]
    congr 1
    · refine List.map_congr_left fun j hj => ?_
      have q : j ≠ i := fun z => h (z ▸ hj)
      show ((Sum.inl j : Key), D.int (c j)) = ((Sum.inl j : Key), D.int (if j = i then v else c j))
      rw [if_neg q]
    · simp
end Z
end
section
set_option Elab.async false
set_option linter.all false
set_option autoImplicit false
set_option maxHeartbeats 4000000
namespace K00
open PySem L2 Z
/-! ### counts of lines -/
abbrev cnt (all : List Int) : Int → Int := fun i => (all.count i : Int)
abbrev dS (Sd : Sto) (ms all : List Int) : Sto := Sd ++ [SO.dct (kvOf ms (cnt all))]
theorem x_dst {φ : Phi} {base : Nat} {env : Ev} {S S1 S2 S3 S4 : Sto} {o i e : Ex} {x y z : D} (h1 : evE φ base env e S = some (x, S1)) (h2 : evE φ base env o S1 = some (y, S2)) (h3 : evE φ base env i S2 = some (z, S3)) (h4 : dstF base y z x S3 = some S4) : ex1 φ base (.dst o i e) env S = some (.nx, env, S4) := by
  rw [ex1, h1]
  simp only [h2, h3, h4]
  rfl
theorem d_at {Sd : Sto} {o : SO} : (Sd ++ [o])[Sd.length]? = some o := at_new
theorem d_set {Sd : Sto} {o o' : SO} : (Sd ++ [o]).set Sd.length o' = Sd ++ [o'] := by
  rw [List.set_append_right _ _ (Nat.le_refl _), Nat.sub_self]
  rfl
theorem cnt_step (all : List Int) (i : Int) : (fun j => if j = i then cnt all i + 1 else cnt all j) = cnt (all ++ [i]) := by
  funext j
  unfold cnt
  rw [List.count_append, List.count_singleton]
  by_cases h : j = i
  · subst h
    simp
  · have : ¬ (i = j) := fun q => h q.symm
    simp [h, this]
theorem not_mem_cnt {all : List Int} {i : Int} (h : i ∉ all) : cnt all i = 0 := by
  unfold cnt
  rw [List.count_eq_zero.mpr h]
  rfl
/-- the lines that were met -/
structure Met (ms all : List Int) : Prop where
  nd : ms.Nodup
  mem : ∀ i, i ∈ ms ↔ i ∈ all
  len : ms.length ≤ all.length
theorem Met.step {ms all : List Int} (h : Met ms all) (i : Int) : Met (if i ∈ ms then ms else ms ++ [i]) (all ++ [i]) := by
  by_cases hi : i ∈ ms
  · rw [if_pos hi]
    refine ⟨h.nd, fun j => ?_, by rw [List.length_append]; have := h.len; omega⟩
    rw [List.mem_append, List.mem_singleton, ← h.mem]
    exact ⟨.inl, fun q => q.elim id fun q => q ▸ hi⟩
  · rw [if_neg hi]
    refine ⟨?_, fun j => ?_, by rw [List.length_append, List.length_append]; have := h.len; simpa using this⟩
    · refine List.nodup_append.mpr ⟨h.nd, by simp, fun a ha b hb q => ?_⟩
      rw [List.mem_singleton] at hb
      subst hb
      subst q
      exact hi ha
    · rw [List.mem_append, List.mem_append, h.mem]
theorem t29 (n L : Nat) (x l : D) (z : Option D) (Sd : Sto) (ms all : List Int) (i : Int) (hm : Met ms all) (hl : all.length < 100000) :
    frS (run T n) L (.nm 3) c29_2 (.int i) [some x, some (.ref Sd.length), some l, z] (dS Sd ms all) = some (.nx, [some x, some (.ref Sd.length), some l, some (.int i)], dS Sd (if i ∈ ms then ms else ms ++ [i]) (all ++ [i])) := by
  have hd : dicOf (dS Sd ms all) (.ref Sd.length) = some (kvOf ms (cnt all)) := by
    unfold dicOf
    simp only [dS, d_at]
    rfl
  have hg : dgtF (.ref Sd.length) (.int i) (.int 0) (dS Sd ms all) = some (.int (cnt all i)) := by
    unfold dgtF
    rw [hd]
    show some ((dLook (kvOf ms (cnt all)) (.inl i)).getD (.int 0)) = _
    rw [look_kv]
    by_cases h : i ∈ ms
    · rw [if_pos h]
      rfl
    · rw [if_neg h, not_mem_cnt fun q => h ((hm.mem i).mpr q)]
      rfl
  have a1 : evE (run T n) (dS Sd ms all).length [some x, some (.ref Sd.length), some l, some (.int i)] (.dgt (.var 1) (.var 3) (.int 0)) (dS Sd ms all) = some (.int (cnt all i), dS Sd ms all) := by
    rw [evE]
    simp only [e_var, e_int, getV, List.getElem?_cons_zero, List.getElem?_cons_succ, Option.join_some, Option.map_some, hd, Option.isSome_some, if_true, hg]
    exact gc_intS
  have a2 : evE (run T n) L [some x, some (.ref Sd.length), some l, some (.int i)] (.bin .Add (.dgt (.var 1) (.var 3) (.int 0)) (.int 1)) (dS Sd ms all) = some (.int (cnt all i + 1), dS Sd ms all) := by
    rw [e_bin a1 e_int]
    exact gc_intS
  have a3 : dstF L (.ref Sd.length) (.int i) (.int (cnt all i + 1)) (dS Sd ms all) = some (dS Sd (if i ∈ ms then ms else ms ++ [i]) (all ++ [i])) := by
    unfold dstF
    have hlen : (kvOf ms (cnt all)).length < lim := by
      have := hm.len
      unfold kvOf
      rw [List.length_map]
      show _ < 100000
      omega
    have hw : (wr L Sd.length (.int (cnt all i + 1)) && decide ((kvOf ms (cnt all)).length < lim)) = true := by
      rw [decide_eq_true hlen]
      simp [wr, D.cl]
    simp only [keyD, dS, d_at, hw, if_true, put_kv, d_set, cnt_step]
  have a4 := x_dst (φ := run T n) (base := L) (env := [some x, some (.ref Sd.length), some l, some (.int i)]) (o := .var 1) (i := .var 3) (e := .bin .Add (.dgt (.var 1) (.var 3) (.int 0)) (.int 1)) a2 (by rw [e_var]; rfl) (by rw [e_var]; rfl) a3
  show exs (run T n) L c29_2 [some x, some (.ref Sd.length), some l, some (.int i)] (dS Sd ms all) = _
  exact (xs_nx a4).trans xs_nil
theorem in29 (n L : Nat) (x l : D) (Sd : Sto) (ok : Sto → Bool) (hok : ∀ S, ok S = true) : ∀ (ns ms all : List Int) (z : Option D), Met ms all → all.length + ns.length ≤ 100000 →
    ∃ ms' z', forF (frS (run T n) L (.nm 3) c29_2) ok (ns.map .int) [some x, some (.ref Sd.length), some l, z] (dS Sd ms all) = some (.nx, [some x, some (.ref Sd.length), some l, z'], dS Sd ms' (all ++ ns)) ∧ Met ms' (all ++ ns)
  | [], ms, all, z, hm, hl => ⟨ms, z, by rw [List.map_nil, for_nil (hok _), List.append_nil], by rw [List.append_nil]; exact hm⟩
  | i :: ns, ms, all, z, hm, hl => by
    rw [List.length_cons] at hl
    have e := t29 n L x l z Sd ms all i hm (by omega)
    obtain ⟨ms', z', e2, h2⟩ := in29 n L x l Sd ok hok ns _ (all ++ [i]) (some (.int i)) (hm.step i) (by rw [List.length_append, List.length_singleton]; omega)
    rw [List.append_assoc] at e2 h2
    exact ⟨ms', z', by rw [List.map_cons, for_nx (hok _) e, e2]; rfl, h2⟩
theorem out29 (n L p : Nat) (Sd : Sto) (xs : List D) (hp : (Sd[p]?).bind SO.seq? = some xs) : ∀ (Ls : List (List Int)) (ms all : List Int) (z1 z2 : Option D), Met ms all → all.length + Ls.flatten.length ≤ 100000 →
    ∃ ms' z1' z2', forF (frS (run T n) L (.nm 2) c29_3) (fun S2 => still S2 (some p) xs) (Ls.map fun ns => .tup (ns.map .int)) [some (.ref p), some (.ref Sd.length), z1, z2] (dS Sd ms all) = some (.nx, [some (.ref p), some (.ref Sd.length), z1', z2'], dS Sd ms' (all ++ Ls.flatten)) ∧ Met ms' (all ++ Ls.flatten)
  | [], ms, all, z1, z2, hm, hl => by
    have hok : still (dS Sd ms all) (some p) xs = true := still29 hp
    exact ⟨ms, z1, z2, by rw [List.map_nil, for_nil hok, List.flatten_nil, List.append_nil], by rw [List.flatten_nil, List.append_nil]; exact hm⟩
  | ns :: Ls, ms, all, z1, z2, hm, hl => by
    rw [List.flatten_cons, List.length_append] at hl
    have hok : still (dS Sd ms all) (some p) xs = true := still29 hp
    obtain ⟨ms1, z3, e1, h1⟩ := in29 n L (.ref p) (.tup (ns.map .int)) Sd (fun S2 => still S2 none (ns.map .int)) (fun _ => rfl) ns ms all z2 hm (by omega)
    have hi : evI (run T n) L [some (.ref p), some (.ref Sd.length), some (.tup (ns.map .int)), z2] (.ex (.var 2)) (dS Sd ms all) = some (ns.map .int, none, dS Sd ms all) := by
      simp [evI, evE, getV, itV]
    have hf := (x_for (φ := run T n) (base := L) (g := .nm 3) (b := c29_2) hi).trans e1
    have hs : frS (run T n) L (.nm 2) c29_3 (.tup (ns.map .int)) [some (.ref p), some (.ref Sd.length), z1, z2] (dS Sd ms all) = some (.nx, [some (.ref p), some (.ref Sd.length), some (.tup (ns.map .int)), z3], dS Sd ms1 (all ++ ns)) := by
      show exs (run T n) L c29_3 [some (.ref p), some (.ref Sd.length), some (.tup (ns.map .int)), z2] (dS Sd ms all) = _
      exact (xs_nx hf).trans xs_nil
    obtain ⟨ms2, z4, z5, e2, h2⟩ := out29 n L p Sd xs hp Ls ms1 (all ++ ns) (some (.tup (ns.map .int))) z3 h1 (by rw [List.length_append]; omega)
    rw [List.append_assoc] at e2 h2
    exact ⟨ms2, z4, z5, by rw [List.map_cons, for_nx hok hs, e2, List.flatten_cons], by rw [List.flatten_cons]; exact h2⟩
where
  still29 {p : Nat} {Sd : Sto} {xs : List D} {ms all : List Int} (hp : (Sd[p]?).bind SO.seq? = some xs) : still (dS Sd ms all) (some p) xs = true := by
    have hlt : p < Sd.length := by
      apply Classical.byContradiction
      intro hc
      rw [List.getElem?_eq_none (by omega)] at hp
      cases hp
    unfold still
    simp only [dS]
    rw [List.getElem?_append_left hlt, hp]
    exact beqL_refl xs
/-- the lines that were met an odd number of times -/
abbrev oddL (ms all : List Int) : List Int := ms.filter fun i => decide (cnt all i % 2 = 1)
theorem lck29 (n L : Nat) (x : Option D) (z1 z2 : Option D) (Sd : Sto) (ms all : List Int) (hm : Met ms all) (hl : all.length ≤ 100000) :
    evE (run T n) L [x, some (.ref Sd.length), z1, z2] (.lck [3] 3 1 c29_1 (.var 3)) (dS Sd ms all) = some (.ref (dS Sd ms all).length, dS Sd ms all ++ [.lst ((oddL ms all).map .int)]) := by
  obtain ⟨kvs, hk⟩ : ∃ kvs, kvs = kvOf ms (cnt all) := ⟨_, rfl⟩
  have hkk : kvs.map (fun p => kD p.1) = ms.map .int := by rw [hk]; exact kv_keys
  have hS : (dS Sd ms all) = Sd ++ [.dct kvs] := by rw [hk]
  rw [hS]
  obtain ⟨SF, hSF⟩ : ∃ SF, SF = Sd ++ [SO.fdc kvs] := ⟨_, rfl⟩
  have hSFa : SF[Sd.length]? = some (.fdc kvs) := by rw [hSF, d_at]
  have hok : isFd SF Sd.length (kvs.map fun p => kD p.1) = true := by
    unfold isFd
    rw [hSFa]
    exact beqL_refl _
  have hlk : ∀ i, i ∈ ms → dixF (.ref Sd.length) (.int i) SF = some (.int (cnt all i)) := by
    intro i hi
    have hd : dicOf SF (.ref Sd.length) = some kvs := by
      show (SF[Sd.length]?).bind SO.dic? = _
      rw [hSFa]
      rfl
    unfold dixF
    rw [hd]
    show dLook kvs (.inl i) = _
    rw [hk, look_kv, if_pos hi]
  have step : ∀ i, i ∈ ms → (match evO (run T n) (Sd ++ [SO.dct kvs]).length ((wipeE [x, some (.ref Sd.length), z1, z2] [3]).set 3 (some (.int i))) c29_1 SF with
          | some (t, S3) => (match t with
            | none => (match evE (run T n) (Sd ++ [SO.dct kvs]).length ((wipeE [x, some (.ref Sd.length), z1, z2] [3]).set 3 (some (.int i))) (.var 3) S3 with
              | some (y, S4) => some (some y, S4)
              | none => none)
            | some t => (match truF S3 t with
              | some true => (match evE (run T n) (Sd ++ [SO.dct kvs]).length ((wipeE [x, some (.ref Sd.length), z1, z2] [3]).set 3 (some (.int i))) (.var 3) S3 with
                | some (y, S4) => some (some y, S4)
                | none => none)
              | some false => some (none, S3)
              | none => none))
          | none => none) = some (if cnt all i % 2 = 1 then some (D.int i) else none, SF) := by
    intro i hi
    have b1 : evE (run T n) SF.length [x, some (.ref Sd.length), z1, some (.int i)] (.dix (.var 1) (.var 3)) SF = some (.int (cnt all i), SF) := by
      rw [evE]
      simp only [e_var, getV, List.getElem?_cons_zero, List.getElem?_cons_succ, Option.join_some, Option.map_some, hlk i hi]
      exact gc_intS
    have b2 : evE (run T n) SF.length [x, some (.ref Sd.length), z1, some (.int i)] (.bin .Mod (.dix (.var 1) (.var 3)) (.int 2)) SF = some (.int (cnt all i % 2), SF) := by
      rw [e_bin b1 e_int]
      exact gc_intS
    have b3 : ∀ b, evE (run T n) b [x, some (.ref Sd.length), z1, some (.int i)] (.cmp .Eq (.bin .Mod (.dix (.var 1) (.var 3)) (.int 2)) (.int 1)) SF = some (.bl (decide (cnt all i % 2 = 1)), SF) := by
      intro b
      rw [e_cmp b2 e_int]
      show gc SF.length ((eqD SF (.int (cnt all i % 2)) (.int 1)).map fun z => (.bl z, SF)) = _
      rw [eqD_int]
      exact gc_blS
    show (match evO (run T n) (Sd ++ [SO.dct kvs]).length [x, some (.ref Sd.length), z1, some (.int i)] c29_1 SF with
          | some (t, S3) => (match t with
            | none => (match evE (run T n) (Sd ++ [SO.dct kvs]).length [x, some (.ref Sd.length), z1, some (.int i)] (.var 3) S3 with
              | some (y, S4) => some (some y, S4)
              | none => none)
            | some t => (match truF S3 t with
              | some true => (match evE (run T n) (Sd ++ [SO.dct kvs]).length [x, some (.ref Sd.length), z1, some (.int i)] (.var 3) S3 with
                | some (y, S4) => some (some y, S4)
                | none => none)
              | some false => some (none, S3)
              | none => none))
          | none => none) = _
    unfold c29_1
    rw [evO, b3]
    by_cases q : cnt all i % 2 = 1
    · simp only [decide_eq_true q, truF, e_var, if_pos q]
      rfl
    · simp only [decide_eq_false q, truF, if_neg q]
  have hlen : ms.length ≤ lim := by
    have := hm.len
    show _ ≤ 100000
    omega
  rw [evE, if_pos (by rfl)]
  have hv : getV [x, some (.ref Sd.length), z1, z2] 1 = some (.ref Sd.length) := rfl
  rw [hv]
  simp only [d_at]
  rw [d_set, ← hSF, hkk]
  rw [lc_ints (fun i => if cnt all i % 2 = 1 then some (.int i) else none) (by rw [← hkk]; exact hok) ms hlen step]
  have ef : (ms.filterMap fun i => if cnt all i % 2 = 1 then some (D.int i) else none) = (oddL ms all).map .int := by
    rw [← filterMap_if]
    congr 1
    funext i
    by_cases q : cnt all i % 2 = 1 <;> simp [q]
  rw [ef]
  show gc _ (unFd Sd.length _ SF) = _
  unfold unFd
  rw [hSFa]
  simp only
  rw [hSF, d_set]
  exact gc_new0 (cl_ints _)
/-- what the law counts -/
theorem f29a (n p : Nat) (S : Sto) (Ls : List (List Int)) (hp : (S[p]?).bind SO.seq? = some (Ls.map fun ns => .tup (ns.map .int))) (hl : Ls.flatten.length ≤ 100000) :
    ∃ ms, Met ms Ls.flatten ∧ run T (n + 1) "_law_lo_total" [.ref p] S = some (.tup ((sortI (oddL ms Ls.flatten)).map .int), S) := by
  have hlt : p < S.length := by
    apply Classical.byContradiction
    intro hc
    rw [List.getElem?_eq_none (by omega)] at hp
    cases hp
  have x1 : ex1 (run T n) S.length (.set 1 .dic) [some (.ref p), none, none, none] S = some (.nx, [some (.ref p), some (.ref S.length), none, none], dS S [] []) := by
    refine x_set (i := 1) (x := .ref S.length) ?_
    rw [evE]
    rfl
  have m0 : Met [] [] := ⟨List.nodup_nil, fun i => Iff.rfl, Nat.le_refl _⟩
  obtain ⟨ms, z1, z2, e2, hm⟩ := out29 n S.length p S _ hp Ls [] [] none none m0 (by simpa using hl)
  rw [List.nil_append] at e2 hm
  have hi : evI (run T n) S.length [some (.ref p), some (.ref S.length), none, none] (.ex (.var 0)) (dS S [] []) = some (Ls.map (fun ns => .tup (ns.map .int)), some p, dS S [] []) := by
    have hv : evE (run T n) S.length [some (.ref p), some (.ref S.length), none, none] (.var 0) (dS S [] []) = some (.ref p, dS S [] []) := by rw [e_var]; rfl
    rw [evI, hv]
    show (itV (dS S [] []) (.ref p)).map _ = _
    unfold itV
    simp only [dS]
    rw [List.getElem?_append_left hlt, hp]
    rfl
  have x2 := (x_for (φ := run T n) (base := S.length) (g := .nm 2) (b := c29_3) hi).trans e2
  obtain ⟨os, hos⟩ : ∃ os : List Int, os = oddL ms Ls.flatten := ⟨_, rfl⟩
  refine ⟨ms, hm, ?_⟩
  rw [← hos]
  obtain ⟨SD, hSD⟩ : ∃ SD, SD = dS S ms Ls.flatten := ⟨_, rfl⟩
  have a1 := lck29 n SD.length (some (.ref p)) z1 z2 S ms Ls.flatten hm hl
  rw [← hos, ← hSD] at a1
  rw [← hSD] at x2
  have a2 : evE (run T n) SD.length [some (.ref p), some (.ref S.length), z1, z2] (.blt .sorted (.cons (.lck [3] 3 1 c29_1 (.var 3)) .nil)) SD = some (.ref SD.length, SD ++ [.lst ((sortI os).map .int)]) := by
    rw [e_blt (vs := [.ref SD.length]) (S1 := SD ++ [.lst (os.map .int)]) (by rw [evS, a1]; rfl)]
    show gc SD.length (((lstOf (SD ++ [.lst (os.map .int)]) (.ref SD.length)).bind intsOf).bind fun ns => new (SD ++ [.lst (os.map .int)]) (.lst ((sortI ns).map .int))) = _
    rw [lst_new, Option.bind_some, intsOf_ints, Option.bind_some]
    have := gc_new (S := SD) (t := [.lst (os.map .int)]) (o := .lst ((sortI os).map .int)) (k := 1) rfl (cl_ints _)
    rw [← List.append_assoc] at this
    rw [← this]
    unfold new
    simp
  have a3 : evE (run T n) S.length [some (.ref p), some (.ref S.length), z1, z2] (.blt .tuple (.cons (.blt .sorted (.cons (.lck [3] 3 1 c29_1 (.var 3)) .nil)) .nil)) SD = some (.tup ((sortI os).map .int), SD) := by
    rw [e_blt (vs := [.ref SD.length]) (S1 := SD ++ [.lst ((sortI os).map .int)]) (by rw [evS, a2]; rfl)]
    simp [bltF, items_new, gc_intsA]
  have hx : exs (run T n) S.length c29 [some (.ref p), none, none, none] S = some (.ret (.tup ((sortI os).map .int)), [some (.ref p), some (.ref S.length), z1, z2], SD) := (xs_nx x1).trans ((xs_nx x2).trans (xs_ret (x_ret a3)))
  rw [u29, run_ret (φ := run T n) (c := ⟨1, 4, c29⟩) (vs := [.ref p]) (S := S) rfl hx, hSD]
  exact gc_intsA
end K00
end
section
set_option Elab.async false
set_option linter.all false
set_option autoImplicit false
set_option maxHeartbeats 4000000
namespace K00
open PySem L2 Z
/-! ### sums of many lots -/
abbrev xorF (a : Nat) (Ls : List (List Int)) : Nat := Ls.foldl (fun a ns => a ^^^ maskN ns) a
theorem xorF_bit {k : Nat} : ∀ {Ls : List (List Int)} {a : Nat}, (∀ ns, ns ∈ Ls → Lot ns) → (xorF a Ls).testBit k = (a.testBit k ^^ decide (Ls.flatten.count (k : Int) % 2 = 1))
  | [], a, _ => by simp [xorF]
  | ns :: Ls, a, h => by
    have h1 := h ns List.mem_cons_self
    have ih := xorF_bit (k := k) (Ls := Ls) (a := a ^^^ maskN ns) fun m hm => h m (List.mem_cons_of_mem _ hm)
    show (xorF (a ^^^ maskN ns) Ls).testBit k = _
    rw [ih, Nat.testBit_xor, mask_bit h1.asc (fun i hi => (h1.lo i hi).1), List.flatten_cons, List.count_append]
    have nd : ns.Nodup := h1.asc.imp fun h => by omega
    have e : (ns.count (k : Int)) = if (k : Int) ∈ ns then 1 else 0 := by
      by_cases q : (k : Int) ∈ ns
      · rw [if_pos q]
        have := List.nodup_iff_count.mp nd (k : Int)
        have := List.count_pos_iff.mpr q
        omega
      · rw [if_neg q]
        exact List.count_eq_zero.mpr q
    rw [e, Bool.xor_assoc]
    congr 1
    by_cases q : (k : Int) ∈ ns
    · rw [if_pos q, decide_eq_true q]
      by_cases z : List.count (k : Int) Ls.flatten % 2 = 1
      · have : ¬ ((1 + List.count (k : Int) Ls.flatten) % 2 = 1) := by omega
        rw [decide_eq_true z, decide_eq_false this]
        rfl
      · have : (1 + List.count (k : Int) Ls.flatten) % 2 = 1 := by omega
        rw [decide_eq_false z, decide_eq_true this]
        rfl
    · rw [if_neg q, decide_eq_false q, Nat.zero_add]
      cases decide (List.count (k : Int) Ls.flatten % 2 = 1) <;> rfl
theorem xorF_low : ∀ {Ls : List (List Int)} {a : Nat}, (∀ ns, ns ∈ Ls → Lot ns) → Low a → Low (xorF a Ls)
  | [], a, _, ha => ha
  | ns :: Ls, a, h, ha => xorF_low (Ls := Ls) (fun m hm => h m (List.mem_cons_of_mem _ hm)) (low_xor ha (lot_low (h ns List.mem_cons_self)))
theorem low_zero : Low 0 := by
  unfold Low
  decide
theorem total_same {Ls : List (List Int)} {ms : List Int} (h : ∀ ns, ns ∈ Ls → Lot ns) (hm : Met ms Ls.flatten) : sortI (oddL ms Ls.flatten) = lotI (xorF 0 Ls) := by
  refine asc_same (lt_of_le_nodup _ (sortI_sorted _) ((sortI_perm _).nodup_iff.mpr (hm.nd.filter _))) (lotI_asc _) fun i => ?_
  rw [(sortI_perm _).mem_iff, lotI_mem, xorF_bit h, Nat.zero_testBit, Bool.false_xor, decide_eq_true_eq]
  simp only [oddL, List.mem_filter, decide_eq_true_eq, cnt]
  constructor
  · rintro ⟨a, b⟩
    obtain ⟨ns, hn, hi⟩ := List.mem_flatten.mp ((hm.mem i).mp a)
    have := (h ns hn).lo i hi
    exact ⟨this.1, this.2, by rw [Int.toNat_of_nonneg this.1]; omega⟩
  · rintro ⟨a, b, c⟩
    rw [Int.toNat_of_nonneg a] at c
    refine ⟨(hm.mem i).mpr ?_, by omega⟩
    apply Classical.byContradiction
    intro hc
    rw [List.count_eq_zero.mpr hc] at c
    cases c
theorem filt_xor (p q : Nat → Bool) : ∀ l : List Nat, (l.filter fun k => p k ^^ q k).length % 2 = ((l.filter p).length + (l.filter q).length) % 2
  | [] => rfl
  | k :: l => by
    have ih := filt_xor p q l
    simp only [List.filter_cons]
    cases p k <;> cases q k <;> simp <;> omega
def parN (m : Nat) : Nat := (lotI m).length % 2
theorem parN_xor (a b : Nat) : parN (a ^^^ b) = (parN a + parN b) % 2 := by
  unfold parN lotI
  simp only [List.length_map, Nat.testBit_xor]
  have e := filt_xor (fun k => a.testBit k) (fun k => b.testBit k) (List.range 24)
  omega
theorem parN_zero : parN 0 = 0 := by
  unfold parN lotI
  simp only [List.length_map, Nat.zero_testBit]
  rw [List.filter_eq_nil_iff.mpr (by simp)]
  rfl
theorem parN_lt (a : Nat) : parN a < 2 := Nat.mod_lt _ (by decide)
theorem parN_fold (m : Nat) : ∀ (Ls : List (List Int)) (a : Nat), parN (xorF a Ls &&& m) = (parN (a &&& m) + (Ls.filter fun ns => decide (parN (maskN ns &&& m) = 1)).length) % 2
  | [], a => by
    show parN (a &&& m) = (parN (a &&& m) + 0) % 2
    have := parN_lt (a &&& m)
    omega
  | ns :: Ls, a => by
    show parN (xorF (a ^^^ maskN ns) Ls &&& m) = _
    rw [parN_fold m Ls, Nat.and_xor_distrib_right, parN_xor, List.filter_cons]
    have := parN_lt (maskN ns &&& m)
    by_cases q : parN (maskN ns &&& m) = 1
    · rw [decide_eq_true q, if_pos rfl, List.length_cons]
      omega
    · rw [decide_eq_false q, if_neg (by decide)]
      omega
end K00
end
section
set_option Elab.async false
set_option linter.all false
set_option autoImplicit false
set_option maxHeartbeats 4000000
namespace Z
open PySem L2
section
variable {φ : Phi} {base : Nat} {env : Ev} {S S1 S2 : Sto} {e : Ex} {es : Es} {x : D} {xs vs : List D}
theorem es0 : evS φ base env .nil S = some ([], S) := by rw [evS]
theorem esc (h1 : evE φ base env e S = some (x, S1)) (h2 : evS φ base env es S1 = some (xs, S2)) : evS φ base env (.cons e es) S = some (x :: xs, S2) := by
  rw [evS, h1]
  simp only [h2]
theorem e_tup (h : evS φ S.length env es S = some (vs, S1)) (hl : vs.length ≤ lim) : evE φ base env (.tup es) S = gc S.length (some (.tup vs, S1)) := by
  rw [evE, h]
  simp only [if_pos hl]
theorem e_tupP (h : evS φ S.length env es S = some (vs, S)) (hl : vs.length ≤ lim) (hc : clL S.length vs = true) : evE φ base env (.tup es) S = some (.tup vs, S) := by
  rw [e_tup h hl]
  exact gc_self (show D.cl S.length (.tup vs) = true from hc)
theorem e_lst (h : evS φ S.length env es S = some (vs, S1)) (hl : vs.length ≤ lim) : evE φ base env (.lst es) S = gc S.length (new S1 (.lst vs)) := by
  rw [evE, h]
  simp only [if_pos hl]
theorem e_vr {i : Nat} {d : D} (h : getV env i = some d) : evE φ base env (.var i) S = some (d, S) := by
  rw [e_var, h]
  rfl
theorem e_neg1 : evE φ base env (.un .USub (.int 1)) S = some (.int (-1), S) := by
  rw [evE, e_int]
  exact gc_intS
/-- a new thing that refers to things that stay -/
theorem gc_keep {n k : Nat} {S : Sto} {o : SO} (hk : n ≤ k) (hS : S[k]? = some o) (ho : o.cl n = false) : gc n (some (.ref k, S)) = some (.ref k, S) := by
  unfold gc
  have h : D.cl n (.ref k) = false := decide_eq_false (by omega)
  simp only [h, hS, ho]
  rfl
end
theorem clA {n : Nat} {xs ys : List D} (h1 : clL n xs = true) (h2 : clL n ys = true) : clL n (xs ++ ys) = true := clL_of fun d hd => (List.mem_append.mp hd).elim (fun q => clL_mem h1 d q) fun q => clL_mem h2 d q
theorem clL_sub {n : Nat} {xs ys : List D} (h : ∀ d, d ∈ ys → d ∈ xs) (h1 : clL n xs = true) : clL n ys = true := clL_of fun d hd => clL_mem h1 d (h d hd)
theorem cut_mem {α : Type} {xs : List α} {l h : Option Int} {d : α} (hd : d ∈ cutL xs l h) : d ∈ xs := List.mem_of_mem_drop (List.mem_of_mem_take hd)
theorem cut_len {α : Type} {xs : List α} {l h : Option Int} : (cutL xs l h).length ≤ xs.length := by
  unfold cutL
  rw [List.length_take, List.length_drop]
  omega
theorem cl_lift {n m : Nat} (h : n ≤ m) : ∀ d : D, d.cl n = true → d.cl m = true := fun d => d_lift d
where
  d_lift : ∀ d : D, d.cl n = true → d.cl m = true
    | .non, _ => rfl
    | .bl _, _ => rfl
    | .int _, _ => rfl
    | .str _, _ => rfl
    | .ref i, q => decide_eq_true (Nat.lt_of_lt_of_le (of_decide_eq_true q) h)
    | .tup ds, q => l_lift ds q
  l_lift : ∀ ds : List D, clL n ds = true → clL m ds = true
    | [], _ => rfl
    | d :: r, q => by
      have q' : (d.cl n && clL n r) = true := q
      rw [Bool.and_eq_true] at q'
      show (d.cl m && clL m r) = true
      rw [d_lift d q'.1, l_lift r q'.2]
      rfl
end Z
namespace K00
open PySem L2 Z
/-! ### the law's judge of tuples of lots -/
structure Nice (S : Sto) (d : D) : Prop where
  cl : d.cl S.length = true
  sm : ∀ es, d = .tup es → es.length ≤ 60
  sh : ShD (rdS S 7) d
theorem t34 (n : Nat) (x : D) (z : Option D) (d : D) (S : Sto) (h : Nice S d) : lcS (run T (n + 1)) S.length [some x, z] [1] (.nm 1) c34_1 (.var 1) d S = some (if ascD d 24 = true then none else some d, S) := by
  have e := f31 n 24 d S h.cl (fun ds q => by have := h.sm ds q; show _ ≤ 100000; omega) (fun ns q => by have := h.sm _ q; rw [List.length_map] at this; omega)
  unfold lcS c34_1
  cases q : ascD d 24 <;> simp [tgF, wipeE, evO, evE, evS, getV, e, q, gc_blS, truF]
theorem f34 (n : Nat) (v : D) (S : Sto) (h : v.cl S.length = true) (hn : ∀ ds, v = .tup ds → ∀ d, d ∈ ds → Nice S d) : run T (n + 2) "_law_are_lots" [v] S = some (.bl (areL v), S) := by
  rw [u34]
  cases v with
  | tup ds =>
    by_cases hl : ds.length ≤ 64
    · have hlt : ¬ ((64 : Int) < (ds.length : Int)) := by omega
      have h1 : evT (run T (n + 1)) S.length [some (.tup ds), none] (.or (.not (.isi (.var 0) .tuple)) (.cmp .Gt (.blt .len (.cons (.var 0) .nil)) (.int 64))) S = some (false, S) := by
        simp [evT, evE, evS, getV, isi_tup h, tupD, gc_blS, truF, bltF, itemsOf, gc_intS, cmpF, hlt]
      have hi : evI (run T (n + 1)) S.length [some (.tup ds), none] (.ex (.var 0)) S = some (ds, none, S) := by
        simp [evI, evE, getV, itV]
      obtain ⟨ys, hys⟩ : ∃ ys, ys = ds.filterMap fun d => if ascD d 24 = true then none else some d := ⟨_, rfl⟩
      have hy : ∀ d, d ∈ ys → d ∈ ds := by
        intro d hd
        rw [hys, List.mem_filterMap] at hd
        obtain ⟨e, he, q⟩ := hd
        by_cases z : ascD e 24 = true
        · rw [if_pos z] at q; cases q
        · rw [if_neg z] at q; cases q; exact he
      have hyl : ys.length ≤ ds.length := by rw [hys]; exact List.length_filterMap_le _ _
      have h2 : lcF (lcS (run T (n + 1)) S.length [some (.tup ds), none] [1] (.nm 1) c34_1 (.var 1)) (fun S2 => still S2 none ds) ds [] S = some (ys, S) := by
        rw [lc_pure (fun d => if ascD d 24 = true then none else some d) rfl ds [] (by show _ ≤ 100000; simp; omega) fun d hd => t34 n _ none d S (hn ds rfl d hd), hys]
        rfl
      have hc : clL S.length ys = true := clL_sub hy h
      have a1 : evE (run T (n + 1)) S.length [some (.tup ds), none] (.lc [1] (.nm 1) (.ex (.var 0)) c34_1 (.var 1)) S = some (.ref S.length, S ++ [.lst ys]) := by
        rw [e_lc rfl hi h2]
        exact gc_new0 hc
      have a2 : evE (run T (n + 1)) S.length [some (.tup ds), none] (.lst .nil) (S ++ [.lst ys]) = some (.ref (S ++ [SO.lst ys]).length, S ++ [SO.lst ys] ++ [.lst []]) := by
        rw [evE, evS]
        exact gc_new0 rfl
      have e : eqD (S ++ [SO.lst ys] ++ [SO.lst []]) (.ref S.length) (.ref (S ++ [SO.lst ys]).length) = some (decide (ys = [])) := eqD_nil (xs := ys) (by simp [SO.seq?]) (by rw [at_new]; rfl) fun d hd => by
        rw [List.append_assoc]
        exact ((hn ds rfl d (hy d hd)).sh).app
      have a3 : evE (run T (n + 1)) S.length [some (.tup ds), none] (.cmp .Eq (.lc [1] (.nm 1) (.ex (.var 0)) c34_1 (.var 1)) (.lst .nil)) S = some (.bl (decide (ys = [])), S) := by
        rw [e_cmp a1 a2]
        show gc _ ((eqD (S ++ [SO.lst ys] ++ [SO.lst []]) (.ref S.length) (.ref (S ++ [SO.lst ys]).length)).map fun z => (.bl z, S ++ [SO.lst ys] ++ [SO.lst []])) = _
        rw [e, List.append_assoc]
        exact gc_blA
      have ea : areL (.tup ds) = decide (ys = []) := by
        show (decide (ds.length ≤ 64) && ds.all fun d => ascD d 24) = _
        rw [decide_eq_true hl, Bool.true_and, Bool.eq_iff_iff, List.all_eq_true, decide_eq_true_eq, hys, List.filterMap_eq_nil_iff]
        constructor
        · intro q d hd
          rw [if_pos (q d hd)]
        · intro q d hd
          have := q d hd
          by_cases z : ascD d 24 = true
          · exact z
          · rw [if_neg z] at this; cases this
      have hx : exs (run T (n + 1)) S.length c34 [some (.tup ds), none] S = some (.ret (.bl (decide (ys = []))), [some (.tup ds), none], S) := (xs_nx ((x_if h1).trans xs_nil)).trans (xs_ret (x_ret a3))
      rw [run_ret (φ := run T (n + 1)) (c := ⟨1, 2, c34⟩) (vs := [.tup ds]) (S := S) rfl hx, gc_blS, ea]
    · have hlt : (64 : Int) < (ds.length : Int) := by omega
      have h1 : evT (run T (n + 1)) S.length [some (.tup ds), none] (.or (.not (.isi (.var 0) .tuple)) (.cmp .Gt (.blt .len (.cons (.var 0) .nil)) (.int 64))) S = some (true, S) := by
        simp [evT, evE, evS, getV, isi_tup h, tupD, gc_blS, truF, bltF, itemsOf, gc_intS, cmpF, hlt]
      have ea : areL (.tup ds) = false := by
        show (decide (ds.length ≤ 64) && ds.all fun d => ascD d 24) = _
        rw [decide_eq_false hl, Bool.false_and]
      have hx : exs (run T (n + 1)) S.length c34 [some (.tup ds), none] S = some (.ret (.bl false), [some (.tup ds), none], S) := xs_ret ((x_if h1).trans (xs_ret (x_ret e_bl)))
      rw [run_ret (φ := run T (n + 1)) (c := ⟨1, 2, c34⟩) (vs := [.tup ds]) (S := S) rfl hx, gc_blS, ea]
  | _ =>
    unfold runD c34
    simp [exs, ex1, evT, evE, getV, isi_tup h, gc_blS, truF, tupD, areL]
end K00
end
section
set_option Elab.async false
set_option linter.all false
set_option autoImplicit false
set_option maxHeartbeats 4000000
namespace K00
open PySem L2 Z
/-! ### values near a lot -/
structure Near (n : Nat) (d : D) : Prop where
  cl : d.cl n = true
  sm : ∀ es, d = .tup es → es.length ≤ 60
theorem Near.tup {n : Nat} {ds : List D} (h : clL n ds = true) (hl : ds.length ≤ 60) : Near n (.tup ds) := ⟨h, fun es q => by cases q; exact hl⟩
theorem Near.int {n : Nat} {i : Int} : Near n (.int i) := ⟨rfl, fun es q => by cases q⟩
theorem Near.str {n : Nat} {i : Str} : Near n (.str i) := ⟨rfl, fun es q => by cases q⟩
theorem Near.non {n : Nat} : Near n .non := ⟨rfl, fun es q => by cases q⟩
theorem Near.ref {n i : Nat} (h : i < n) : Near n (.ref i) := ⟨decide_eq_true h, fun es q => by cases q⟩
theorem Near.up {n m : Nat} (h : n ≤ m) {d : D} (x : Near n d) : Near m d := ⟨cl_lift h d x.cl, x.sm⟩
section
variable {φ : Phi} {base : Nat} {env : Ev} {S : Sto} {i : Nat} {xs : List D}
theorem e_addT {a b : Ex} {ys : List D} (h1 : evE φ S.length env a S = some (.tup xs, S)) (h2 : evE φ S.length env b S = some (.tup ys, S)) (hx : clL S.length xs = true) (hy : clL S.length ys = true) (hl : xs.length + ys.length ≤ lim) : evE φ base env (.bin .Add a b) S = some (.tup (xs ++ ys), S) := by
  rw [e_bin h1 h2]
  show gc S.length (if xs.length + ys.length ≤ lim then some (D.tup (xs ++ ys), S) else none) = _
  rw [if_pos hl]
  exact gc_self (show D.cl S.length (.tup (xs ++ ys)) = true from clA hx hy)
theorem e_slT {a : Ex} {lo hi : Ox} {l h : Option D} {l' h' : Option Int} (h1 : evE φ S.length env a S = some (.tup xs, S)) (h2 : evO φ S.length env lo S = some (l, S)) (h3 : evO φ S.length env hi S = some (h, S)) (e1 : optI l = some l') (e2 : optI h = some h') (hx : clL S.length xs = true) : evE φ base env (.sl a lo hi) S = some (.tup (cutL xs l' h'), S) := by
  rw [evE, h1]
  simp only [h2, h3]
  unfold slF
  simp only [e1, e2]
  exact gc_self (show D.cl S.length (.tup (cutL xs l' h')) = true from clL_sub (fun d hd => cut_mem hd) hx)
theorem e_revT {a : Ex} (h1 : evE φ S.length env a S = some (.tup xs, S)) (hx : clL S.length xs = true) : evE φ base env (.rev a) S = some (.tup xs.reverse, S) := by
  rw [evE, h1]
  exact gc_self (show D.cl S.length (.tup xs.reverse) = true from clL_sub (fun d hd => List.mem_reverse.mp hd) hx)
theorem e_listT {a : Ex} (h1 : evE φ S.length env a S = some (.tup xs, S)) (hx : clL S.length xs = true) : evE φ base env (.blt .list (.cons a .nil)) S = some (.ref S.length, S ++ [.lst xs]) := by
  rw [e_blt (esc h1 es0)]
  exact gc_new0 hx
theorem e_dic : evE φ base env .dic S = some (.ref S.length, S ++ [.dct []]) := by
  rw [evE]
  rfl
theorem e_i1 {j : Int} : evE φ base env (.tup (.cons (.int j) .nil)) S = some (.tup [.int j], S) := e_tupP (esc e_int es0) (by show 1 ≤ 100000; decide) rfl
theorem e_i2 {j k : Int} : evE φ base env (.tup (.cons (.int j) (.cons (.int k) .nil))) S = some (.tup [.int j, .int k], S) := e_tupP (esc e_int (esc e_int es0)) (by show 2 ≤ 100000; decide) rfl
theorem e_t0 : evE φ base env (.tup .nil) S = some (.tup [], S) := e_tupP es0 (by show 0 ≤ 100000; decide) rfl
theorem e_t1 {a : Ex} {d : D} (h : evE φ S.length env a S = some (d, S)) (hc : d.cl S.length = true) : evE φ base env (.tup (.cons a .nil)) S = some (.tup [d], S) := e_tupP (esc h es0) (by show 1 ≤ 100000; decide) (by show (d.cl S.length && true) = true; rw [hc]; rfl)
end
/-- what a first list of them holds -/
def near1 (l m : Nat) (xs : List D) : List D := [.tup xs, .ref l, .tup xs.reverse, .tup (xs ++ cutL xs (some (-1)) none), .tup (xs ++ [.int (m : Int)]), .tup ([.int (-1)] ++ xs), .non, .tup [], .int 0, .str "0", .ref (l + 1), .tup [.bl true], .tup [.non], .tup [.tup [.int 0]], .str "abc"]
theorem near1_ok {l m : Nat} {xs : List D} (hc : clL 0 xs = true) (hl : xs.length ≤ 24) : ∀ d, d ∈ near1 l m xs → Near (l + 2) d := by
  have hc' : ∀ {n : Nat}, clL n xs = true := fun {n} => cl_lift.l_lift (Nat.zero_le n) xs hc
  intro d hd
  simp only [near1, List.mem_cons, List.not_mem_nil, or_false] at hd
  have hcut := cut_len (xs := xs) (l := some (-1)) (h := none)
  rcases hd with rfl | rfl | rfl | rfl | rfl | rfl | rfl | rfl | rfl | rfl | rfl | rfl | rfl | rfl | rfl
  · exact Near.tup hc' (by omega)
  · exact Near.ref (by omega)
  · exact Near.tup (clL_sub (fun d hd => List.mem_reverse.mp hd) hc') (by rw [List.length_reverse]; omega)
  · exact Near.tup (clA hc' (clL_sub (fun d hd => cut_mem hd) hc')) (by rw [List.length_append]; omega)
  · exact Near.tup (clA hc' rfl) (by rw [List.length_append, List.length_singleton]; omega)
  · exact Near.tup (clA rfl hc') (by rw [List.length_append, List.length_singleton]; omega)
  · exact Near.non
  · exact Near.tup rfl (by decide)
  · exact Near.int
  · exact Near.str
  · exact Near.ref (by omega)
  · exact Near.tup rfl (by decide)
  · exact Near.tup rfl (by decide)
  · exact Near.tup rfl (by decide)
  · exact Near.str
abbrev nearS (S : Sto) (xs : List D) : Sto := S ++ [SO.lst xs] ++ [SO.dct []]
theorem nearS_len {S : Sto} {xs : List D} : (nearS S xs).length = S.length + 2 := by simp [nearS]
theorem set33 (n m : Nat) (y : D) (xs : List D) (z1 z2 : Option D) (S : Sto) (hc : clL 0 xs = true) (hl : xs.length ≤ 24) :
    ex1 (run T n) S.length (.set 3 (.lst (.cons (.var 2) (.cons (.blt .list (.cons (.var 2) .nil)) (.cons (.rev (.var 2)) (.cons (.bin .Add (.var 2) (.sl (.var 2) (.yes (.un .USub (.int 1))) .no)) (.cons (.bin .Add (.var 2) (.tup (.cons (.var 1) .nil))) (.cons (.bin .Add (.tup (.cons (.un .USub (.int 1)) .nil)) (.var 2)) (.cons .non (.cons (.tup .nil) (.cons (.int 0) (.cons (.str "0") (.cons .dic (.cons (.tup (.cons (.bl true) .nil)) (.cons (.tup (.cons .non .nil)) (.cons (.tup (.cons (.tup (.cons (.int 0) .nil)) .nil)) (.cons (.str "abc") .nil))))))))))))))))) [some y, some (.int (m : Int)), some (.tup xs), z1, z2] S
      = some (.nx, [some y, some (.int (m : Int)), some (.tup xs), some (.ref (S.length + 2)), z2], nearS S xs ++ [.lst (near1 S.length m xs)]) := by
  have hc' : ∀ {n : Nat}, clL n xs = true := fun {n} => cl_lift.l_lift (Nat.zero_le n) xs hc
  have hcut := cut_len (xs := xs) (l := some (-1)) (h := none)
  have v2 : ∀ {b : Nat} {S' : Sto}, evE (run T n) b [some y, some (.int (m : Int)), some (.tup xs), z1, z2] (.var 2) S' = some (.tup xs, S') := e_vr rfl
  have v1 : ∀ {b : Nat} {S' : Sto}, evE (run T n) b [some y, some (.int (m : Int)), some (.tup xs), z1, z2] (.var 1) S' = some (.int (m : Int), S') := e_vr rfl
  obtain ⟨S1, hS1⟩ : ∃ S1, S1 = S ++ [SO.lst xs] := ⟨_, rfl⟩
  obtain ⟨S2, hS2⟩ : ∃ S2, S2 = S1 ++ [SO.dct []] := ⟨_, rfl⟩
  have hL1 : S1.length = S.length + 1 := by rw [hS1]; simp
  have h2 : evE (run T n) S.length [some y, some (.int (m : Int)), some (.tup xs), z1, z2] (.blt .list (.cons (.var 2) .nil)) S = some (.ref S.length, S1) := by
    rw [hS1]
    exact e_listT v2 hc'
  have h3 : evE (run T n) S.length [some y, some (.int (m : Int)), some (.tup xs), z1, z2] (.rev (.var 2)) S1 = some (.tup xs.reverse, S1) := e_revT v2 hc'
  have h4 : evE (run T n) S.length [some y, some (.int (m : Int)), some (.tup xs), z1, z2] (.bin .Add (.var 2) (.sl (.var 2) (.yes (.un .USub (.int 1))) .no)) S1 = some (.tup (xs ++ cutL xs (some (-1)) none), S1) := by
    refine e_addT v2 (e_slT (l := some (.int (-1))) (h := none) v2 ?_ ?_ (by decide) rfl hc') hc' (clL_sub (fun d hd => cut_mem hd) hc') (by show _ ≤ 100000; omega)
    · rw [evO, e_neg1]
    · rw [evO]
  have h5 : evE (run T n) S.length [some y, some (.int (m : Int)), some (.tup xs), z1, z2] (.bin .Add (.var 2) (.tup (.cons (.var 1) .nil))) S1 = some (.tup (xs ++ [.int (m : Int)]), S1) :=
    e_addT v2 (e_t1 v1 rfl) hc' rfl (by show _ ≤ 100000; simp; omega)
  have h6 : evE (run T n) S.length [some y, some (.int (m : Int)), some (.tup xs), z1, z2] (.bin .Add (.tup (.cons (.un .USub (.int 1)) .nil)) (.var 2)) S1 = some (.tup ([.int (-1)] ++ xs), S1) :=
    e_addT (e_t1 e_neg1 rfl) v2 rfl hc' (by show _ ≤ 100000; simp; omega)
  have h11 : evE (run T n) S.length [some y, some (.int (m : Int)), some (.tup xs), z1, z2] .dic S1 = some (.ref (S.length + 1), S2) := by
    rw [e_dic, hL1, hS2]
  have es := esc (φ := run T n) (base := S.length) (env := [some y, some (.int (m : Int)), some (.tup xs), z1, z2]) (S := S) (e := .var 2) v2 (esc h2 (esc h3 (esc h4 (esc h5 (esc h6 (esc e_non (esc e_t0 (esc (e_int (i := 0)) (esc (e_str (s := "0")) (esc h11 (esc (e_t1 (e_bl (b := true)) rfl) (esc (e_t1 e_non rfl) (esc (e_t1 (e_i1 (j := 0)) rfl) (esc (e_str (s := "abc")) es0))))))))))))))
  refine x_set (i := 3) ?_
  rw [e_lst es (by show 15 ≤ 100000; decide)]
  have hk : gc S.length (some (.ref (S.length + 2), S2 ++ [SO.lst (near1 S.length m xs)])) = some (.ref (S.length + 2), S2 ++ [SO.lst (near1 S.length m xs)]) := by
    refine gc_keep (o := .lst (near1 S.length m xs)) (by omega) ?_ ?_
    · have : S2.length = S.length + 2 := by rw [hS2]; simp [hL1]
      rw [← this]
      exact at_new
    · show clL S.length (near1 S.length m xs) = false
      simp [near1, clL, D.cl]
  unfold new
  have hL2 : S2.length = S.length + 2 := by rw [hS2]; simp [hL1]
  rw [hL2]
  have hS : nearS S xs = S2 := by rw [hS2, hS1]
  rw [hS]
  exact hk
/-- what a second list of them holds -/
def near2 (m : Nat) (xs : List D) (bs : List Bool) : List D := [.tup (bs.map .bl), .tup (cutL xs (some 1) none), .tup (rgI 0 m), .tup [.int (10 ^ 40)], .tup [.str "0"], .tup (xs ++ [.int 23]), .tup [.int 0, .int 0], .tup [.int 1, .int 0]]
theorem rgI_cl {n : Nat} : ∀ (k : Nat) (lo : Int), clL n (rgI lo k) = true
  | 0, _ => rfl
  | k + 1, lo => rgI_cl k (lo + 1)
theorem rgI_len : ∀ (k : Nat) (lo : Int), (rgI lo k).length = k
  | 0, _ => rfl
  | k + 1, lo => by rw [rgI, List.length_cons, rgI_len k]
theorem near2_ok {n m : Nat} {xs : List D} {bs : List Bool} (hc : clL 0 xs = true) (hl : xs.length ≤ 24) (hm : m ≤ 24) (hb : bs.length ≤ 24) : ∀ d, d ∈ near2 m xs bs → Near n d := by
  have hc' : ∀ {n : Nat}, clL n xs = true := fun {n} => cl_lift.l_lift (Nat.zero_le n) xs hc
  intro d hd
  simp only [near2, List.mem_cons, List.not_mem_nil, or_false] at hd
  have hcut := cut_len (xs := xs) (l := some 1) (h := none)
  rcases hd with rfl | rfl | rfl | rfl | rfl | rfl | rfl | rfl
  · exact Near.tup (cl_bls bs) (by rw [List.length_map]; omega)
  · exact Near.tup (clL_sub (fun d hd => cut_mem hd) hc') (by omega)
  · exact Near.tup (rgI_cl _ _) (by rw [rgI_len]; omega)
  · exact Near.tup rfl (by decide)
  · exact Near.tup rfl (by decide)
  · exact Near.tup (clA hc' rfl) (by rw [List.length_append, List.length_singleton]; omega)
  · exact Near.tup rfl (by decide)
  · exact Near.tup rfl (by decide)
theorem bs33 (n b : Nat) (x y : Option D) (w : Option D) (ns : List Int) (z : Option D) (S : Sto) (hl : ns.length ≤ 24) : evE (run T n) b [x, y, some (.tup (ns.map .int)), w, z] (.blt .tuple (.cons (.lc [4] (.nm 4) (.ex (.var 2)) .no c33_1) .nil)) S = some (.tup ((ns.map fun i => decide (i = 1)).map .bl), S) := by
  have hi : evI (run T n) S.length [x, y, some (.tup (ns.map .int)), w, z] (.ex (.var 2)) S = some (ns.map .int, none, S) := by
    rw [evI, e_vr (d := .tup (ns.map .int)) rfl]
    rfl
  obtain ⟨bs, hbs⟩ : ∃ bs, bs = ns.map fun i => decide (i = 1) := ⟨_, rfl⟩
  have h2 : lcF (lcS (run T n) S.length [x, y, some (.tup (ns.map .int)), w, z] [4] (.nm 4) .no c33_1) (fun S2 => still S2 none (ns.map .int)) (ns.map .int) [] S = some (bs.map .bl, S) := by
    rw [lc_intsM (fun i => .bl (decide (i = 1))) rfl ns (by show _ ≤ 100000; omega) fun i hi => ?_]
    · rw [hbs, List.map_map]
      rfl
    · have hcmp : evE (run T n) S.length [x, y, some (.tup (ns.map .int)), w, some (.int i)] c33_1 S = some (.bl (decide (i = 1)), S) := by
        unfold c33_1
        rw [e_cmp (e_vr (d := .int i) rfl) e_int]
        show gc S.length ((eqD S (.int i) (.int 1)).map fun z => (.bl z, S)) = _
        rw [eqD_int]
        exact gc_blS
      unfold lcS
      show (match evO (run T n) S.length [x, y, some (.tup (ns.map .int)), w, some (.int i)] .no S with
        | some (t, S3) => _
        | none => none) = _
      rw [evO]
      simp only
      show (match evE (run T n) S.length [x, y, some (.tup (ns.map .int)), w, some (.int i)] c33_1 S with
        | some (y, S4) => some (some y, S4)
        | none => none) = _
      rw [hcmp]
  rw [← hbs]
  have a1 : evE (run T n) S.length [x, y, some (.tup (ns.map .int)), w, z] (.lc [4] (.nm 4) (.ex (.var 2)) .no c33_1) S = some (.ref S.length, S ++ [.lst (bs.map .bl)]) := by
    rw [e_lc rfl hi h2]
    exact gc_new0 (cl_bls bs)
  rw [e_blt (esc a1 es0)]
  show gc S.length ((itemsOf (S ++ [.lst (bs.map .bl)]) (.ref S.length)).map fun xs => (.tup xs, S ++ [.lst (bs.map .bl)])) = _
  rw [items_new]
  exact gc_app (show D.cl S.length (.tup (bs.map .bl)) = true from cl_bls bs)
theorem ret33 (n m : Nat) (y : D) (ns : List Int) (z : Option D) (v1 : List D) (r : Nat) (S : Sto) (hl : ns.length ≤ 24) (hm : m ≤ 24) (hr : S[r]? = some (.lst v1)) (hv : clL S.length v1 = true) (hvl : v1.length ≤ 100) :
    evE (run T n) S.length [some y, some (.int (m : Int)), some (.tup (ns.map .int)), some (.ref r), z] (.bin .Add (.var 3) (.lst (.cons (.blt .tuple (.cons (.lc [4] (.nm 4) (.ex (.var 2)) .no c33_1) .nil)) (.cons (.sl (.var 2) (.yes (.int 1)) .no) (.cons (.rg1 true (.var 1)) (.cons (.tup (.cons (.bin .Pow (.int 10) (.int 40)) .nil)) (.cons (.tup (.cons (.str "0") .nil)) (.cons (.bin .Add (.var 2) (.tup (.cons (.int 23) .nil))) (.cons (.tup (.cons (.int 0) (.cons (.int 0) .nil))) (.cons (.tup (.cons (.int 1) (.cons (.int 0) .nil))) .nil)))))))))) S
      = some (.ref S.length, S ++ [.lst (v1 ++ near2 m (ns.map .int) (ns.map fun i => decide (i = 1)))]) := by
  obtain ⟨xs, hxs⟩ : ∃ xs : List D, xs = ns.map .int := ⟨_, rfl⟩
  have hc0 : clL 0 xs = true := by rw [hxs]; exact cl_ints ns
  have hxl : xs.length ≤ 24 := by rw [hxs, List.length_map]; exact hl
  have hc' : ∀ {n : Nat}, clL n xs = true := fun {n} => cl_lift.l_lift (Nat.zero_le n) xs hc0
  have hcut := cut_len (xs := xs) (l := some 1) (h := none)
  have h1 := bs33 n S.length (some y) (some (.int (m : Int))) (some (.ref r)) ns z S hl
  obtain ⟨bs, hbs⟩ : ∃ bs, bs = ns.map fun i => decide (i = 1) := ⟨_, rfl⟩
  have hbl : bs.length ≤ 24 := by rw [hbs, List.length_map]; exact hl
  rw [← hbs] at h1 ⊢
  rw [← hxs] at h1 ⊢
  have v2 : ∀ {b : Nat} {S' : Sto}, evE (run T n) b [some y, some (.int (m : Int)), some (.tup xs), some (.ref r), z] (.var 2) S' = some (.tup xs, S') := e_vr rfl
  have v1' : ∀ {b : Nat} {S' : Sto}, evE (run T n) b [some y, some (.int (m : Int)), some (.tup xs), some (.ref r), z] (.var 1) S' = some (.int (m : Int), S') := e_vr rfl
  have h2 : evE (run T n) S.length [some y, some (.int (m : Int)), some (.tup xs), some (.ref r), z] (.sl (.var 2) (.yes (.int 1)) .no) S = some (.tup (cutL xs (some 1) none), S) := by
    refine e_slT (l := some (.int 1)) (h := none) v2 ?_ ?_ (by decide) rfl hc'
    · rw [evO, e_int]
    · rw [evO]
  have h3 : evE (run T n) S.length [some y, some (.int (m : Int)), some (.tup xs), some (.ref r), z] (.rg1 true (.var 1)) S = some (.tup (rgI 0 m), S) := by
    rw [evE, v1']
    show gc S.length (if (rgOk 0 && rgOk (m : Int) && decide (((m : Int) - 0).toNat ≤ lim)) = true then (if true = true then some (D.tup (rgI 0 ((m : Int) - 0).toNat), S) else new S (.lst (rgI 0 ((m : Int) - 0).toNat))) else none) = _
    have hr : (rgOk 0 && rgOk (m : Int) && decide (((m : Int) - 0).toNat ≤ lim)) = true := by
      have e1 : rgOk 0 = true := by decide
      have e2 : rgOk (m : Int) = true := by
        unfold rgOk
        rw [decide_eq_true (by omega), decide_eq_true (by omega)]
        rfl
      have e3 : ((m : Int) - 0).toNat ≤ lim := by show _ ≤ 100000; omega
      rw [e1, e2, decide_eq_true e3]
      rfl
    rw [if_pos hr, if_pos rfl, Int.sub_zero, Int.toNat_natCast]
    exact gc_self (show D.cl S.length (.tup (rgI 0 m)) = true from rgI_cl m 0)
  have h4 : evE (run T n) S.length [some y, some (.int (m : Int)), some (.tup xs), some (.ref r), z] (.tup (.cons (.bin .Pow (.int 10) (.int 40)) .nil)) S = some (.tup [.int (10 ^ 40)], S) := e_t1 (pow25 n _ _ S 40 40 rfl (by decide)) rfl
  have h6 : evE (run T n) S.length [some y, some (.int (m : Int)), some (.tup xs), some (.ref r), z] (.bin .Add (.var 2) (.tup (.cons (.int 23) .nil))) S = some (.tup (xs ++ [.int 23]), S) :=
    e_addT v2 e_i1 hc' rfl (by show _ ≤ 100000; simp; omega)
  have es := esc h1 (esc h2 (esc h3 (esc h4 (esc (e_t1 (e_str (s := "0")) rfl) (esc h6 (esc (e_i2 (j := 0) (k := 0)) (esc (e_i2 (j := 1) (k := 0)) es0)))))))
  have hn2 : clL S.length (near2 m xs bs) = true := clL_of fun d hd => (near2_ok hc0 hxl hm hbl d hd).cl
  have a2 := e_lst (base := S.length) es (by show 8 ≤ 100000; decide)
  have a3 : evE (run T n) S.length [some y, some (.int (m : Int)), some (.tup xs), some (.ref r), z] (.lst (.cons (.blt .tuple (.cons (.lc [4] (.nm 4) (.ex (.var 2)) .no c33_1) .nil)) (.cons (.sl (.var 2) (.yes (.int 1)) .no) (.cons (.rg1 true (.var 1)) (.cons (.tup (.cons (.bin .Pow (.int 10) (.int 40)) .nil)) (.cons (.tup (.cons (.str "0") .nil)) (.cons (.bin .Add (.var 2) (.tup (.cons (.int 23) .nil))) (.cons (.tup (.cons (.int 0) (.cons (.int 0) .nil))) (.cons (.tup (.cons (.int 1) (.cons (.int 0) .nil))) .nil))))))))) S = some (.ref S.length, S ++ [.lst (near2 m xs bs)]) := a2.trans (gc_new0 hn2)
  have hlt : r < S.length := (List.getElem?_eq_some_iff.mp hr).1
  rw [e_bin (x := .ref r) (S1 := S) (e_vr rfl) a3]
  have e1 : (S ++ [SO.lst (near2 m xs bs)])[r]? = some (.lst v1) := by rw [List.getElem?_append_left hlt, hr]
  have e2 : (S ++ [SO.lst (near2 m xs bs)])[S.length]? = some (.lst (near2 m xs bs)) := at_new
  have hll : v1.length + (near2 m xs bs).length ≤ lim := by
    show v1.length + 8 ≤ 100000
    omega
  unfold binF
  simp only [e1, e2, if_pos hll]
  unfold new
  have := gc_new (S := S) (t := [.lst (near2 m xs bs)]) (o := .lst (v1 ++ near2 m xs bs)) (k := 1) rfl (clA hv hn2)
  rw [← this]
  simp
theorem f33 (n m : Nat) (y : D) (ns : List Int) (S : Sto) (hl : ns.length ≤ 24) (hm : m ≤ 24) : ∃ vs, run T (n + 1) "_law_near" [y, .int (m : Int), .tup (ns.map .int)] S = some (.ref (S.length + 3), nearS S (ns.map .int) ++ [.lst (near1 S.length m (ns.map .int))] ++ [.lst vs]) ∧ clL S.length vs = false ∧ vs.length ≤ 100 ∧ ∀ d, d ∈ vs → Near (S.length + 2) d := by
  obtain ⟨xs, hxs⟩ : ∃ xs : List D, xs = ns.map .int := ⟨_, rfl⟩
  have hc0 : clL 0 xs = true := by rw [hxs]; exact cl_ints ns
  have hxl : xs.length ≤ 24 := by rw [hxs, List.length_map]; exact hl
  have x1 := set33 n m y xs none none S hc0 hxl
  obtain ⟨S3, hS3⟩ : ∃ S3, S3 = nearS S xs ++ [.lst (near1 S.length m xs)] := ⟨_, rfl⟩
  have hL3 : S3.length = S.length + 3 := by rw [hS3]; simp [nearS]
  have hr : S3[S.length + 2]? = some (.lst (near1 S.length m xs)) := by
    rw [hS3, ← nearS_len (S := S) (xs := xs)]
    exact at_new
  have hn1 := near1_ok (l := S.length) (m := m) hc0 hxl
  have hv : clL S3.length (near1 S.length m xs) = true := clL_of fun d hd => ((hn1 d hd).up (by omega)).cl
  have a := ret33 n m y ns none (near1 S.length m xs) (S.length + 2) S3 hl hm hr hv (by show 15 ≤ 100; decide)
  refine ⟨near1 S.length m xs ++ near2 m (ns.map .int) (ns.map fun i => decide (i = 1)), ?_, by simp [near1, clL, D.cl], by show 23 ≤ 100; decide, fun d hd => ?_⟩
  · rw [← hxs]
    rw [← hxs] at a
    rw [← hS3] at x1
    rw [← hS3]
    obtain ⟨vs, hvs⟩ : ∃ vs, vs = near1 S.length m xs ++ near2 m xs (ns.map fun i => decide (i = 1)) := ⟨_, rfl⟩
    rw [← hvs] at a ⊢
    have b : evE (run T n) S.length [some y, some (.int (m : Int)), some (.tup xs), some (.ref (S.length + 2)), none] (.bin .Add (.var 3) (.lst (.cons (.blt .tuple (.cons (.lc [4] (.nm 4) (.ex (.var 2)) .no c33_1) .nil)) (.cons (.sl (.var 2) (.yes (.int 1)) .no) (.cons (.rg1 true (.var 1)) (.cons (.tup (.cons (.bin .Pow (.int 10) (.int 40)) .nil)) (.cons (.tup (.cons (.str "0") .nil)) (.cons (.bin .Add (.var 2) (.tup (.cons (.int 23) .nil))) (.cons (.tup (.cons (.int 0) (.cons (.int 0) .nil))) (.cons (.tup (.cons (.int 1) (.cons (.int 0) .nil))) .nil)))))))))) S3 = some (.ref S3.length, S3 ++ [.lst vs]) := by
      rw [evE] at a ⊢
      exact a
    have hx : exs (run T n) S.length c33 [some y, some (.int (m : Int)), some (.tup xs), none, none] S = some (.ret (.ref S3.length), [some y, some (.int (m : Int)), some (.tup xs), some (.ref (S.length + 2)), none], S3 ++ [.lst vs]) := (xs_nx x1).trans (xs_ret (x_ret b))
    rw [u33, run_ret (φ := run T n) (c := ⟨3, 5, c33⟩) (vs := [y, .int (m : Int), .tup xs]) (S := S) rfl hx, hL3]
    refine gc_keep (o := .lst vs) (by omega) ?_ ?_
    · rw [← hL3]
      exact at_new
    · show clL S.length vs = false
      rw [hvs]
      simp [near1, clL, D.cl]
  · rcases List.mem_append.mp hd with q | q
    · exact hn1 d q
    · rw [← hxs] at q
      exact near2_ok hc0 hxl hm (by rw [List.length_map]; exact hl) d q
end K00
end
section
set_option Elab.async false
set_option linter.all false
set_option autoImplicit false
set_option maxHeartbeats 4000000
namespace Z
open PySem L2
theorem lcS_no {φ : Phi} {b i : Nat} {env : Ev} {own : List Nat} {e : Ex} {d y : D} {S S1 : Sto} (h : evE φ b ((wipeE env own).set i (some d)) e S = some (y, S1)) : lcS φ b env own (.nm i) .no e d S = some (some y, S1) := by
  unfold lcS
  simp only [tgF, evO, h]
theorem lcS_yes {φ : Phi} {b i : Nat} {env : Ev} {own : List Nat} {c e : Ex} {d y : D} {k : Bool} {S S1 : Sto} (hc : evE φ b ((wipeE env own).set i (some d)) c S = some (.bl k, S1)) (h : evE φ b ((wipeE env own).set i (some d)) e S1 = some (y, S1)) : lcS φ b env own (.nm i) (.yes c) e d S = some (if k = true then some y else none, S1) := by
  unfold lcS
  cases k <;> simp [tgF, evO, hc, truF, h]
end Z
namespace K00
open PySem L2 Z
/-! ### the dice go on -/
/-- the store is S0 but for the dice at i; their third number is at most B -/
structure At (S0 : Sto) (i : Nat) (s B : Int) (S : Sto) : Prop where
  ex : ∃ g k : Int, S = S0.set i (.lst [.int g, .int s, .int k]) ∧ 0 ≤ k ∧ k ≤ B
  lt : i < S0.length
section
variable {S0 S : Sto} {i : Nat} {s B : Int}
theorem At.len (h : At S0 i s B S) : S.length = S0.length := by
  obtain ⟨⟨g, k, e, _⟩, _⟩ := h
  rw [e, List.length_set]
theorem At.le {B' : Int} (h : At S0 i s B S) (hb : B ≤ B') : At S0 i s B' S := by
  obtain ⟨⟨g, k, e, h1, h2⟩, l⟩ := h
  exact ⟨⟨g, k, e, h1, by omega⟩, l⟩
theorem At.dice (h : At S0 i s B S) : ∃ g k, Dice S i g s k ∧ 0 ≤ k ∧ k ≤ B := by
  obtain ⟨⟨g, k, e, h1, h2⟩, l⟩ := h
  refine ⟨g, k, ?_, h1, h2⟩
  unfold Dice
  rw [e, List.getElem?_set_self l]
theorem At.set (h : At S0 i s B S) {g k : Int} {B' : Int} (h0 : 0 ≤ k) (hb : k ≤ B') : At S0 i s B' (S.set i (.lst [.int g, .int s, .int k])) := by
  obtain ⟨⟨g1, k1, e, h1, h2⟩, l⟩ := h
  exact ⟨⟨g, k, by rw [e, List.set_set], h0, hb⟩, l⟩
theorem At.ext (h : At S0 i s B S) (t : Sto) : At (S0 ++ t) i s B (S ++ t) := by
  obtain ⟨⟨g, k, e, h1, h2⟩, l⟩ := h
  exact ⟨⟨g, k, by rw [e, List.set_append_left _ _ l], h1, h2⟩, by rw [List.length_append]; omega⟩
theorem At.unext {t : Sto} (hl : i < S0.length) (h : At (S0 ++ t) i s B S) : ∃ S1, S = S1 ++ t ∧ At S0 i s B S1 := by
  obtain ⟨⟨g, k, e, h1, h2⟩, l⟩ := h
  exact ⟨S0.set i (.lst [.int g, .int s, .int k]), by rw [e, List.set_append_left _ _ hl], ⟨⟨g, k, rfl, h1, h2⟩, hl⟩⟩
theorem At.start {g k : Int} (h : Dice S i g s k) (h0 : 0 ≤ k) : At S i s k S := ⟨⟨g, k, (set_same h).symm, h0, Int.le_refl _⟩, h.lt⟩
theorem gc_eq {n : Nat} {d : D} {S : Sto} (hl : S.length = n) (h : d.cl n = true) : gc n (some (d, S)) = some (d, S) := by
  subst hl
  exact gc_self h
theorem At.roll (n : Nat) (h : At S0 i s B S) {most : Int} (hm : 1 ≤ most) (hl : most < 2 ^ 62) (hB : B < 2 ^ 36) : ∃ (r : Int) (S1 : Sto), run T (n + 1) "_law_roll" [.ref i, .int most] S = some (.int r, S1) ∧ 0 ≤ r ∧ r < most ∧ At S0 i s (B + 1) S1 := by
  obtain ⟨g, k, hd, h0, hb⟩ := h.dice
  obtain ⟨r, g', k', e, h1, h2, h3, h4⟩ := f26 n i g s k most S hd hm (by omega) h0 (by omega)
  exact ⟨r, _, e, h1, h2, h.set (by omega) (by omega)⟩
theorem At.any (n : Nat) (h : At S0 i s B S) {m : Nat} (hm : m ≤ 24) (hB : B < 2 ^ 36) : ∃ (ns : List Int) (S1 : Sto), run T (n + 2) "_law_lo_any" [.ref i, .int (m : Int)] S = some (.tup (ns.map .int), S1) ∧ Lot ns ∧ (∀ j, j ∈ ns → 0 ≤ j ∧ j < m) ∧ At S0 i s (B + 25) S1 := by
  obtain ⟨g, k, hd, h0, hb⟩ := h.dice
  obtain ⟨ns, g', k', e, pw, bd, h1, h2⟩ := f32 n i g s k m S hd h0 (by omega) hm
  exact ⟨ns, _, e, ⟨pw, fun j hj => ⟨(bd j hj).1, by have := (bd j hj).2; omega⟩⟩, bd, h.set (by omega) (by omega)⟩
theorem At.mixed (n : Nat) (h : At S0 i s B S) {p : Nat} {ns : List Int} (hp : itemsOf S (.ref p) = some (ns.map .int)) (hl : ns.length ≤ 100) (hB : B < 2 ^ 36) : ∃ (r : List Int) (S1 : Sto), run T (n + 2) "_law_mixed" [.ref i, .ref p] S = some (.ref S.length, S1 ++ [.lst (r.map .int)]) ∧ r.Perm ns ∧ At S0 i s (B + 100) S1 := by
  obtain ⟨g, k, hd, h0, hb⟩ := h.dice
  obtain ⟨r, g', k', e, pm, h1, h2⟩ := f27 n i p g s k ns S hd hp h0 (by omega) (by omega)
  exact ⟨r, _, e, pm, h.set (by omega) (by omega)⟩
end
section
variable {S0 S : Sto} {i : Nat} {s B : Int} {env : Ev} {b : Nat}
/-- a roll in an expression -/
theorem e_roll (n : Nat) (h : At S0 i s B S) (h0 : getV env 0 = some (.ref i)) {e : Ex} {most : Int} (he : ∀ b, evE (run T (n + 1)) b env e S = some (.int most, S)) (hm : 1 ≤ most) (hl : most < 2 ^ 62) (hB : B < 2 ^ 36) :
    ∃ (r : Int) (S1 : Sto), evE (run T (n + 1)) b env (.call "_law_roll" (.cons (.var 0) (.cons e .nil))) S = some (.int r, S1) ∧ 0 ≤ r ∧ r < most ∧ At S0 i s (B + 1) S1 := by
  obtain ⟨r, S1, e1, h1, h2, h3⟩ := h.roll n hm hl hB
  refine ⟨r, S1, ?_, h1, h2, h3⟩
  rw [e_call (esc (e_vr h0) (esc (he _) es0)), e1]
  exact gc_eq (by rw [h3.len, h.len]) rfl
/-- 1 + a roll -/
theorem e_roll1 (n : Nat) (h : At S0 i s B S) (h0 : getV env 0 = some (.ref i)) (hB : B < 2 ^ 36) :
    ∃ (m : Nat) (S1 : Sto), evE (run T (n + 1)) b env (.bin .Add (.int 1) (.call "_law_roll" (.cons (.var 0) (.cons (.int 24) .nil)))) S = some (.int (m : Int), S1) ∧ 1 ≤ m ∧ m ≤ 24 ∧ At S0 i s (B + 1) S1 := by
  obtain ⟨r, S1, e1, h1, h2, h3⟩ := e_roll (b := S.length) n h h0 (e := .int 24) (most := 24) (fun b => e_int) (by decide) (by decide) hB
  refine ⟨(1 + r).toNat, S1, ?_, by omega, by omega, h3⟩
  rw [e_bin e_int e1]
  show gc S.length (some (.int (1 + r), S1)) = _
  rw [Int.toNat_of_nonneg (by omega)]
  exact gc_eq (by rw [h3.len, h.len]) rfl
/-- a drawn lot -/
theorem e_any (n : Nat) (h : At S0 i s B S) (h0 : getV env 0 = some (.ref i)) {e : Ex} {m : Nat} {S1 : Sto} {B1 : Int} (he : evE (run T (n + 2)) S.length env e S = some (.int (m : Int), S1)) (h1 : At S0 i s B1 S1) (hm : m ≤ 24) (hB : B1 < 2 ^ 36) :
    ∃ (ns : List Int) (S2 : Sto), evE (run T (n + 2)) b env (.call "_law_lo_any" (.cons (.var 0) (.cons e .nil))) S = some (.tup (ns.map .int), S2) ∧ Lot ns ∧ (∀ j, j ∈ ns → 0 ≤ j ∧ j < m) ∧ At S0 i s (B1 + 25) S2 := by
  obtain ⟨ns, S2, e1, l1, l2, h3⟩ := h1.any n hm hB
  refine ⟨ns, S2, ?_, l1, l2, h3⟩
  rw [e_call (esc (e_vr h0) (esc he es0)), e1]
  exact gc_eq (by rw [h3.len, h.len]) (cl_ints ns)
end
theorem getV_set {env : Ev} {i j : Nat} {v : Option D} (h : i ≠ j) : getV (env.set j v) i = getV env i := by
  unfold getV
  rw [List.getElem?_set_ne (fun q => h q.symm)]
/-- the drawn lots -/
abbrev tupL (Ls : List (List Int)) : List D := Ls.map fun ns => D.tup (ns.map D.int)
theorem lots35 (n : Nat) {S0 : Sto} {i : Nat} {s : Int} {env : Ev} {L : Nat} {ok : Sto → Bool} (hok : ∀ S, ok S = true) (h0 : getV env 0 = some (.ref i)) : ∀ (js : List Int) (acc : List D) (B : Int) (S : Sto), At S0 i s B S → B + 26 * js.length < 2 ^ 36 → acc.length + js.length ≤ lim →
    ∃ (Ls : List (List Int)) (S1 : Sto), lcF (lcS (run T (n + 2)) L env [10] (.nm 10) .no c35_5) ok (js.map .int) acc S = some (acc ++ tupL Ls, S1) ∧ (∀ ns, ns ∈ Ls → Lot ns) ∧ Ls.length = js.length ∧ At S0 i s (B + 26 * js.length) S1
  | [], acc, B, S, h, hB, hl => ⟨[], S, by rw [List.map_nil, lc_nil (hok S), tupL, List.map_nil, List.append_nil], fun _ q => by simp at q, rfl, h.le (by simp)⟩
  | j :: js, acc, B, S, h, hB, hl => by
    rw [List.length_cons] at hB hl
    have hg : getV ((env.set 10 none).set 10 (some (.int j))) 0 = some (.ref i) := by rw [getV_set (by decide), getV_set (by decide), h0]
    obtain ⟨m, S1, e1, _, hm, h1⟩ := e_roll1 (b := S.length) (n + 1) h hg (by omega)
    obtain ⟨ns, S2, e2, l2, _, h2⟩ := e_any (b := L) n h hg e1 h1 hm (by omega)
    have st : lcS (run T (n + 2)) L env [10] (.nm 10) .no c35_5 (.int j) S = some (some (.tup (ns.map .int)), S2) := by
      exact lcS_no (by unfold c35_5; exact e2)
    obtain ⟨Ls, S3, e3, l3, l4, h3⟩ := lots35 n hok h0 js (acc ++ [.tup (ns.map .int)]) (B + 26) S2 (h2.le (by omega)) (by omega) (by rw [List.length_append, List.length_singleton]; omega)
    refine ⟨ns :: Ls, S3, ?_, fun q hq => ?_, by rw [List.length_cons, List.length_cons, l4], h3.le (by rw [List.length_cons]; omega)⟩
    · rw [List.map_cons, lc_put (hok S) (by omega) st, e3, List.append_assoc]
      rfl
    · rcases List.mem_cons.mp hq with rfl | hq
      · exact l2
      · exact l3 q hq
/-- lots = tuple([..]) -/
theorem e_lots35 (n : Nat) {S0 S : Sto} {i : Nat} {s B : Int} {env : Ev} {b : Nat} (h : At S0 i s B S) (h0 : getV env 0 = some (.ref i)) (hB : B < 2 ^ 30) :
    ∃ (Ls : List (List Int)) (S1 : Sto), evE (run T (n + 2)) b env (.blt .tuple (.cons (.lc [10] (.nm 10) (.rng1 (.call "_law_roll" (.cons (.var 0) (.cons (.int 12) .nil)))) .no c35_5) .nil)) S = some (.tup (tupL Ls), S1) ∧ (∀ ns, ns ∈ Ls → Lot ns) ∧ Ls.length ≤ 12 ∧ At S0 i s (B + 400) S1 := by
  obtain ⟨r, S1, e1, h1, h2, h3⟩ := e_roll (b := S.length) (n + 1) h h0 (e := .int 12) (most := 12) (fun b => e_int) (by decide) (by decide) (by omega)
  have hi : evI (run T (n + 2)) S.length env (.rng1 (.call "_law_roll" (.cons (.var 0) (.cons (.int 12) .nil)))) S = some (((List.range r.toNat).map fun k : Nat => (k : Int)).map .int, none, S1) := by
    have hr : rgOk r = true := by
      unfold rgOk
      rw [decide_eq_true (by omega), decide_eq_true (by omega)]
      rfl
    rw [evI, e1]
    simp only [hr, if_true, rgI_map, Int.zero_add]
  obtain ⟨Ls, S2, e2, l1, l2, h4⟩ := lots35 n (L := S.length) (ok := fun S2 => still S2 none (((List.range r.toNat).map fun k : Nat => (k : Int)).map .int)) (fun _ => rfl) h0 ((List.range r.toNat).map fun k : Nat => (k : Int)) [] (B + 1) S1 h3 (by simp; omega) (by simp; show _ ≤ 100000; omega)
  rw [List.nil_append] at e2
  have hlen : Ls.length ≤ 12 := by
    rw [l2]
    simp
    omega
  refine ⟨Ls, S2, ?_, l1, hlen, h4.le (by simp; omega)⟩
  have hc : ∀ {n : Nat}, clL n (tupL Ls) = true := fun {n} => clL_of fun d hd => by
    obtain ⟨ns, _, rfl⟩ := List.mem_map.mp hd
    exact cl_ints ns
  have a1 : evE (run T (n + 2)) S.length env (.lc [10] (.nm 10) (.rng1 (.call "_law_roll" (.cons (.var 0) (.cons (.int 12) .nil)))) .no c35_5) S = some (.ref S2.length, S2 ++ [.lst (tupL Ls)]) := by
    rw [e_lc rfl hi e2, show S.length = S2.length by rw [h.len, h4.len]]
    exact gc_new0 hc
  rw [e_blt (esc a1 es0)]
  show gc S.length ((itemsOf (S2 ++ [.lst (tupL Ls)]) (.ref S2.length)).map fun xs => (.tup xs, S2 ++ [.lst (tupL Ls)])) = _
  rw [items_new, show S.length = S2.length by rw [h.len, h4.len]]
  exact gc_app (show D.cl S2.length (.tup (tupL Ls)) = true from hc)
end K00
end
section
set_option Elab.async false
set_option linter.all false
set_option autoImplicit false
set_option maxHeartbeats 4000000
namespace Z
open PySem L2
section
variable {φ : Phi} {base : Nat} {env : Ev} {S S1 S2 : Sto} {a b : Ex}
theorem e_neI {ns ms : List Int} (h1 : evE φ S.length env a S = some (.tup (ns.map .int), S)) (h2 : evE φ S.length env b S = some (.tup (ms.map .int), S)) : evE φ base env (.cmp .NotEq a b) S = some (.bl (!decide (ns = ms)), S) := by
  rw [e_cmp h1 h2]
  show gc S.length (((eqD S (.tup (ns.map .int)) (.tup (ms.map .int))).map (!·)).map fun z => (.bl z, S)) = _
  rw [eqD_ints]
  exact gc_blS
theorem e_neB {p q : Bool} (h1 : evE φ S.length env a S = some (.bl p, S)) (h2 : evE φ S.length env b S = some (.bl q, S)) : evE φ base env (.cmp .NotEq a b) S = some (.bl (!decide (p = q)), S) := by
  rw [e_cmp h1 h2]
  show gc S.length (((eqD S (.bl p) (.bl q)).map (!·)).map fun z => (.bl z, S)) = _
  rw [eqD_bl]
  exact gc_blS
theorem e_call1 {f : Str} {x d : D} (h1 : evE φ S.length env a S = some (x, S)) (h : φ f [x] S = some (d, S)) (hc : d.cl S.length = true) : evE φ base env (.call f (.cons a .nil)) S = some (d, S) := by
  rw [e_call (esc h1 es0), h]
  exact gc_self hc
theorem e_call2 {f : Str} {x y d : D} (h1 : evE φ S.length env a S = some (x, S)) (h2 : evE φ S.length env b S = some (y, S)) (h : φ f [x, y] S = some (d, S)) (hc : d.cl S.length = true) : evE φ base env (.call f (.cons a (.cons b .nil))) S = some (d, S) := by
  rw [e_call (esc h1 (esc h2 es0)), h]
  exact gc_self hc
theorem e_or {p q : Bool} (h1 : evE φ base env a S = some (.bl p, S)) (h2 : p = false → evE φ base env b S = some (.bl q, S)) : evE φ base env (.or a b) S = some (.bl (p || q), S) := by
  rw [evE, h1]
  cases p
  · simp only [truF, h2 rfl, Bool.false_or]
  · simp only [truF, Bool.true_or]
theorem e_and {p q : Bool} (h1 : evE φ base env a S = some (.bl p, S)) (h2 : p = true → evE φ base env b S = some (.bl q, S)) : evE φ base env (.and a b) S = some (.bl (p && q), S) := by
  rw [evE, h1]
  cases p
  · simp only [truF, Bool.false_and]
  · simp only [truF, h2 rfl, Bool.true_and]
theorem e_not {p : Bool} (h1 : evE φ base env a S = some (.bl p, S)) : evE φ base env (.not a) S = some (.bl (!p), S) := by
  rw [evE, h1]
  rfl
theorem e_T {k : Bool} (h : evE φ base env a S = some (.bl k, S1)) : evT φ base env a S = some (k, S1) := by
  unfold evT
  rw [h]
  rfl
/-- a test that fails is passed by -/
theorem x_pass {c : Ss} (h : evE φ base env a S = some (.bl false, S)) : ex1 φ base (.ifs a c .nil) env S = some (.nx, env, S) := (x_if (e_T h)).trans xs_nil
end
end Z
namespace K00
open PySem L2 Z
theorem e_call1' {n : Nat} {base : Nat} {env : Ev} {S : Sto} {a : Ex} {f : Str} {x d : D} (h1 : evE (run T n) S.length env a S = some (x, S)) (h : run T n f [x] S = some (d, S)) (hc : d.cl S.length = true) : evE (run T n) base env (.call f (.cons a .nil)) S = some (d, S) := e_call1 h1 h hc
/-! ### picks -/
theorem cl_tupL {n : Nat} (Ls : List (List Int)) : clL n (tupL Ls) = true := clL_of fun d hd => by
  obtain ⟨ns, _, rfl⟩ := List.mem_map.mp hd
  exact cl_ints ns
theorem e_lenT {φ : Phi} {b : Nat} {env : Ev} {S : Sto} {a : Ex} {ds : List D} (h : ∀ b, evE φ b env a S = some (.tup ds, S)) : evE φ b env (.blt .len (.cons a .nil)) S = some (.int (ds.length : Int), S) := by
  rw [e_blt (esc (h _) es0)]
  exact gc_intS
theorem e_pick35 (n : Nat) {S0 S : Sto} {i : Nat} {s B : Int} {env : Ev} {b : Nat} {ds : List D} (h : At S0 i s B S) (h0 : getV env 0 = some (.ref i)) (h2 : getV env 2 = some (.tup ds)) (hl : ds.length ≤ 12) (hB : B < 2 ^ 30) :
    ∃ (ks : List Int) (S1 : Sto), evE (run T (n + 2)) b env (.blt .tuple (.cons (.blt .sorted (.cons (.sl (.call "_law_mixed" (.cons (.var 0) (.cons (.rg1 false (.blt .len (.cons (.var 2) .nil))) .nil))) .no (.yes (.call "_law_roll" (.cons (.var 0) (.cons (.bin .Add (.blt .len (.cons (.var 2) .nil)) (.int 1)) .nil))))) .nil)) .nil)) S = some (.tup (ks.map .int), S1) ∧ ks.Pairwise (· < ·) ∧ (∀ k, k ∈ ks → 0 ≤ k ∧ k < ds.length) ∧ ks.length ≤ ds.length ∧ At S0 i s (B + 200) S1 := by
  have hlen : ∀ {b : Nat} {S' : Sto}, evE (run T (n + 2)) b env (.blt .len (.cons (.var 2) .nil)) S' = some (.int (ds.length : Int), S') := fun {b S'} => e_lenT fun b => e_vr h2
  obtain ⟨js, hjs⟩ : ∃ js : List Int, js = (List.range ds.length).map fun k : Nat => (k : Int) := ⟨_, rfl⟩
  have hjl : js.length = ds.length := by rw [hjs]; simp
  have r1 : evE (run T (n + 2)) S.length env (.rg1 false (.blt .len (.cons (.var 2) .nil))) S = some (.ref S.length, S ++ [.lst (js.map .int)]) := by
    rw [evE, hlen]
    show gc S.length (if (rgOk 0 && rgOk (ds.length : Int) && decide (((ds.length : Int) - 0).toNat ≤ lim)) = true then (if false = true then some (D.tup (rgI 0 ((ds.length : Int) - 0).toNat), S) else new S (.lst (rgI 0 ((ds.length : Int) - 0).toNat))) else none) = _
    have hr : (rgOk 0 && rgOk (ds.length : Int) && decide (((ds.length : Int) - 0).toNat ≤ lim)) = true := by
      have e1 : rgOk 0 = true := by decide
      have e2 : rgOk (ds.length : Int) = true := by
        unfold rgOk
        rw [decide_eq_true (by omega), decide_eq_true (by omega)]
        rfl
      have e3 : ((ds.length : Int) - 0).toNat ≤ lim := by show _ ≤ 100000; omega
      rw [e1, e2, decide_eq_true e3]
      rfl
    rw [if_pos hr, if_neg (by decide), Int.sub_zero, Int.toNat_natCast]
    have e : rgI 0 ds.length = js.map .int := by
      rw [rgI_map, hjs]
      simp
    rw [e]
    exact gc_new0 (cl_ints js)
  obtain ⟨r, S1', e1, pm, a1⟩ := (h.ext [.lst (js.map .int)]).mixed n (p := S.length) (ns := js) items_new (by omega) (by omega)
  obtain ⟨S1, hS1, h1⟩ := a1.unext h.lt
  have hL1 : S1.length = S.length := by rw [h1.len, h.len]
  have m1 : evE (run T (n + 2)) S.length env (.call "_law_mixed" (.cons (.var 0) (.cons (.rg1 false (.blt .len (.cons (.var 2) .nil))) .nil))) S = some (.ref S.length, S1 ++ [.lst (r.map .int)]) := by
    rw [e_call (esc (e_vr h0) (esc r1 es0)), e1, hS1, ← hL1]
    have := gc_new (S := S1) (t := [.lst (js.map .int)]) (o := .lst (r.map .int)) (k := 1) rfl (cl_ints _)
    rw [← List.append_assoc] at this
    rw [← this]
    simp [hL1]
  have hx := h1.ext [.lst (r.map .int)]
  obtain ⟨q, S2', e2, q0, q1, a2⟩ := e_roll (b := S.length) (n + 1) hx h0 (e := .bin .Add (.blt .len (.cons (.var 2) .nil)) (.int 1)) (most := (ds.length : Int) + 1) (fun b => by
    rw [e_bin hlen e_int]
    exact gc_intS) (by omega) (by omega) (by omega)
  obtain ⟨S2, hS2, h3⟩ := a2.unext h.lt
  rw [hS2] at e2
  have hL2 : S2.length = S.length := by rw [h3.len, h.len]
  obtain ⟨cs, hcs⟩ : ∃ cs : List Int, cs = cutL r none (some q) := ⟨_, rfl⟩
  have hcut : cutL (r.map D.int) none (some q) = cs.map .int := by
    rw [hcs]
    unfold cutL
    rw [List.length_map, List.map_take, List.map_drop]
  have s1 : evE (run T (n + 2)) S.length env (.sl (.call "_law_mixed" (.cons (.var 0) (.cons (.rg1 false (.blt .len (.cons (.var 2) .nil))) .nil))) .no (.yes (.call "_law_roll" (.cons (.var 0) (.cons (.bin .Add (.blt .len (.cons (.var 2) .nil)) (.int 1)) .nil))))) S = some (.ref S.length, S2 ++ [.lst (cs.map .int)]) := by
    rw [evE, m1]
    simp only [evO, e2]
    have ho : optI (some (.int q)) = some (some q) := by
      show (if -(2 ^ 62) ≤ q ∧ q ≤ 2 ^ 62 then some (some q) else none) = _
      rw [if_pos ⟨by omega, by omega⟩]
    have hat : ((S2 ++ [SO.lst (r.map D.int)])[S.length]?).bind SO.seq? = some (r.map .int) := by
      rw [← hL2, at_new]
      rfl
    show gc S.length (match optI none, optI (some (.int q)), D.ref S.length with
      | some l, some h, .tup ds => some (.tup (cutL ds l h), S2 ++ [SO.lst (r.map D.int)])
      | some l, some h, .ref i => (((S2 ++ [SO.lst (r.map D.int)])[i]?).bind SO.seq?).bind fun xs => new (S2 ++ [SO.lst (r.map D.int)]) (.lst (cutL xs l h))
      | _, _, _ => none) = _
    rw [ho]
    show gc S.length ((((S2 ++ [SO.lst (r.map D.int)])[S.length]?).bind SO.seq?).bind fun xs => new (S2 ++ [SO.lst (r.map D.int)]) (.lst (cutL xs none (some q)))) = _
    rw [hat, Option.bind_some, hcut, ← hL2]
    have := gc_new (S := S2) (t := [.lst (r.map .int)]) (o := .lst (cs.map .int)) (k := 1) rfl (cl_ints _)
    rw [← this]
    unfold new
    simp
  have s2 : evE (run T (n + 2)) S.length env (.blt .sorted (.cons (.sl (.call "_law_mixed" (.cons (.var 0) (.cons (.rg1 false (.blt .len (.cons (.var 2) .nil))) .nil))) .no (.yes (.call "_law_roll" (.cons (.var 0) (.cons (.bin .Add (.blt .len (.cons (.var 2) .nil)) (.int 1)) .nil))))) .nil)) S = some (.ref S.length, S2 ++ [.lst ((sortI cs).map .int)]) := by
    rw [e_blt (esc s1 es0), ← hL2]
    show gc S2.length (((lstOf (S2 ++ [.lst (cs.map .int)]) (.ref S2.length)).bind intsOf).bind fun ns => new (S2 ++ [.lst (cs.map .int)]) (.lst ((sortI ns).map .int))) = _
    rw [lst_new, Option.bind_some, intsOf_ints, Option.bind_some]
    have := gc_new (S := S2) (t := [.lst (cs.map .int)]) (o := .lst ((sortI cs).map .int)) (k := 1) rfl (cl_ints _)
    rw [← this]
    unfold new
    simp
  have hpm : (sortI cs).Nodup := by
    rw [(sortI_perm cs).nodup_iff]
    have nd : r.Nodup := pm.nodup_iff.mpr (by rw [hjs]; exact (cast_asc List.pairwise_lt_range).imp fun h => by omega)
    rw [hcs]
    unfold cutL
    exact (nd.sublist (List.drop_sublist _ _)).sublist (List.take_sublist _ _)
  refine ⟨sortI cs, S2, ?_, lt_of_le_nodup _ (sortI_sorted _) hpm, fun k hk => ?_, ?_, h3.le (by omega)⟩
  · rw [e_blt (esc s2 es0), ← hL2]
    show gc S2.length ((itemsOf (S2 ++ [.lst ((sortI cs).map .int)]) (.ref S2.length)).map fun xs => (.tup xs, S2 ++ [.lst ((sortI cs).map .int)])) = _
    rw [items_new]
    exact gc_intsA
  · have hk1 : k ∈ cs := (sortI_perm cs).mem_iff.mp hk
    rw [hcs] at hk1
    have hk2 : k ∈ js := pm.mem_iff.mp (cut_mem hk1)
    rw [hjs] at hk2
    obtain ⟨z, hz, rfl⟩ := List.mem_map.mp hk2
    have := List.mem_range.mp hz
    omega
  · have e1 := (sortI_perm cs).length_eq
    have e2 := pm.length_eq
    have e3 := cut_len (xs := r) (l := none) (h := some q)
    rw [← hcs] at e3
    omega
/-! ### what the law asks of lots -/
section
variable {n : Nat} {S : Sto} {env : Ev} {b : Nat} {ns ms : List Int}
theorem xor_comm' (a c : Nat) : a ^^^ c = c ^^^ a := Nat.xor_comm a c
theorem e_sum {x y : Ex} (hx : ∀ b, evE (run T (n + 5)) b env x S = some (.tup (ns.map .int), S)) (hy : ∀ b, evE (run T (n + 5)) b env y S = some (.tup (ms.map .int), S)) (h1 : Lot ns) (h2 : Lot ms) : evE (run T (n + 5)) b env (.call "lot_sum" (.cons x (.cons y .nil))) S = some (.tup ((lotI (maskN ns ^^^ maskN ms)).map .int), S) :=
  e_call2 (hx _) (hy _) (f17 n _ _ ns ms S rfl rfl h1 h2) (cl_ints _)
theorem e_lsum {x y : Ex} (hx : ∀ b, evE (run T (n + 5)) b env x S = some (.tup (ns.map .int), S)) (hy : ∀ b, evE (run T (n + 5)) b env y S = some (.tup (ms.map .int), S)) (h1 : Lot ns) (h2 : Lot ms) : evE (run T (n + 5)) b env (.call "_law_lo_sum" (.cons x (.cons y .nil))) S = some (.tup ((lotI (maskN ns ^^^ maskN ms)).map .int), S) := by
  have l1 := lot_len h1
  have l2 := lot_len h2
  have f := f28 (n + 4) (.tup (ns.map .int)) (.tup (ms.map .int)) ns ms _ _ S rfl rfl (by show _ ≤ 100000; omega) (by show _ ≤ 100000; omega) rfl rfl (by
    have := List.length_filter_le (fun i => !decide (i ∈ ms)) ns
    have := List.length_filter_le (fun i => !decide (i ∈ ns)) ms
    show _ ≤ 100000
    omega)
  rw [sum_same h1 h2] at f
  exact e_call2 (hx _) (hy _) f (cl_ints _)
theorem e_met {x y : Ex} (hx : ∀ b, evE (run T (n + 5)) b env x S = some (.tup (ns.map .int), S)) (hy : ∀ b, evE (run T (n + 5)) b env y S = some (.tup (ms.map .int), S)) (h1 : Lot ns) (h2 : Lot ms) : evE (run T (n + 5)) b env (.call "does_meet_oddly" (.cons x (.cons y .nil))) S = some (.bl (decide (parN (maskN ns &&& maskN ms) = 1)), S) := by
  have f := f18 n (.tup (ns.map .int)) (.tup (ms.map .int)) ns ms S rfl rfl h1 h2
  have e : decide (((lotI (maskN ns &&& maskN ms)).length : Int) % 2 = 1) = decide (parN (maskN ns &&& maskN ms) = 1) := by
    unfold parN
    congr 1
    apply propext
    omega
  rw [e] at f
  exact e_call2 (hx _) (hy _) f rfl
theorem e_lmet {x y : Ex} (hx : ∀ b, evE (run T (n + 5)) b env x S = some (.tup (ns.map .int), S)) (hy : ∀ b, evE (run T (n + 5)) b env y S = some (.tup (ms.map .int), S)) (h1 : Lot ns) (h2 : Lot ms) : evE (run T (n + 5)) b env (.call "_law_lo_is_odd" (.cons x (.cons y .nil))) S = some (.bl (decide (parN (maskN ns &&& maskN ms) = 1)), S) := by
  have l1 := lot_len h1
  have f := f30 (n + 4) (.tup (ns.map .int)) (.tup (ms.map .int)) ns ms S rfl rfl (by omega)
  have e : decide (((ns.filter fun i => decide (i ∈ ms)).length : Int) % 2 = 1) = decide (parN (maskN ns &&& maskN ms) = 1) := by
    rw [← met_same h1 h2]
    unfold parN
    congr 1
    apply propext
    omega
  rw [e] at f
  exact e_call2 (hx _) (hy _) f rfl
theorem lot_nil : Lot [] := ⟨List.Pairwise.nil, fun i hi => by cases hi⟩
theorem lotI_zero : lotI 0 = [] := by
  unfold lotI
  rw [List.filter_eq_nil_iff.mpr (by simp)]
  rfl
/-- the first test of the law -/
theorem test1 (h7 : getV env 7 = some (.tup (ns.map .int))) (h8 : getV env 8 = some (.tup (ms.map .int))) (h1 : Lot ns) (h2 : Lot ms) : evE (run T (n + 5)) b env (.or (.cmp .NotEq (.call "lot_sum" (.cons (.var 7) (.cons (.var 8) .nil))) (.call "_law_lo_sum" (.cons (.var 7) (.cons (.var 8) .nil)))) (.cmp .NotEq (.call "does_meet_oddly" (.cons (.var 7) (.cons (.var 8) .nil))) (.call "_law_lo_is_odd" (.cons (.var 7) (.cons (.var 8) .nil))))) S = some (.bl false, S) := by
  have v7 : ∀ b, evE (run T (n + 5)) b env (.var 7) S = some (.tup (ns.map .int), S) := fun b => e_vr h7
  have v8 : ∀ b, evE (run T (n + 5)) b env (.var 8) S = some (.tup (ms.map .int), S) := fun b => e_vr h8
  rw [e_or (e_neI (e_sum v7 v8 h1 h2) (e_lsum v7 v8 h1 h2)) fun _ => e_neB (e_met v7 v8 h1 h2) (e_lmet v7 v8 h1 h2)]
  simp
/-- the second one -/
theorem test2 (h7 : getV env 7 = some (.tup (ns.map .int))) (h8 : getV env 8 = some (.tup (ms.map .int))) (h1 : Lot ns) (h2 : Lot ms) : evE (run T (n + 5)) b env (.or (.cmp .NotEq (.call "lot_sum" (.cons (.var 8) (.cons (.var 7) .nil))) (.call "lot_sum" (.cons (.var 7) (.cons (.var 8) .nil)))) (.or (.cmp .NotEq (.call "lot_sum" (.cons (.var 7) (.cons (.var 7) .nil))) (.tup .nil)) (.cmp .NotEq (.call "lot_sum" (.cons (.var 7) (.cons (.tup .nil) .nil))) (.var 7)))) S = some (.bl false, S) := by
  have v7 : ∀ b, evE (run T (n + 5)) b env (.var 7) S = some (.tup (ns.map .int), S) := fun b => e_vr h7
  have v8 : ∀ b, evE (run T (n + 5)) b env (.var 8) S = some (.tup (ms.map .int), S) := fun b => e_vr h8
  have v0 : ∀ b, evE (run T (n + 5)) b env (.tup .nil) S = some (.tup (([] : List Int).map .int), S) := fun b => e_t0
  have s0 : lotI (maskN ns ^^^ maskN []) = ns := by
    show lotI (maskN ns ^^^ 0) = ns
    rw [Nat.xor_zero]
    exact lot_mask h1
  have s1 : lotI (maskN ns ^^^ maskN ns) = [] := by rw [Nat.xor_self]; exact lotI_zero
  have a3 := e_sum (n := n) (b := S.length) v7 v0 h1 lot_nil
  have a2 := e_sum (n := n) (b := S.length) v7 v7 h1 h1
  rw [s0] at a3
  rw [s1] at a2
  rw [e_or (e_neI (e_sum v8 v7 h2 h1) (e_sum v7 v8 h1 h2)) fun _ => e_or (e_neI a2 (v0 _)) fun _ => e_neI a3 (v7 _)]
  rw [Nat.xor_comm (maskN ms) (maskN ns)]
  simp
end
end K00
end
section
set_option Elab.async false
set_option linter.all false
set_option autoImplicit false
set_option maxHeartbeats 4000000
namespace K00
open PySem L2 Z
/-- the lots of a pick -/
abbrev pkL (Ls : List (List Int)) (ks : List Int) : List (List Int) := ks.map fun k => Ls.getD k.toNat []
theorem ix_tupL {Ls : List (List Int)} {k : Int} {S : Sto} (h0 : 0 ≤ k) (h : k < Ls.length) : ixF (.tup (tupL Ls)) (.int k) S = some (.tup ((Ls.getD k.toNat []).map .int)) := by
  obtain ⟨j, rfl⟩ : ∃ j : Nat, k = (j : Int) := ⟨k.toNat, by omega⟩
  have hj : j < Ls.length := by omega
  have hat : atI (tupL Ls) (j : Int) = some (.tup ((Ls.getD j []).map .int)) := by
    simp [atI, ixN, hj, List.getD_eq_getElem?_getD]
  exact hat
theorem pk_lot {Ls : List (List Int)} {k : Int} (hL : ∀ ns, ns ∈ Ls → Lot ns) (h0 : 0 ≤ k) (h : k < Ls.length) : Lot (Ls.getD k.toNat []) := by
  have hj : k.toNat < Ls.length := by omega
  refine hL _ ?_
  rw [List.getD_eq_getElem?_getD, List.getElem?_eq_getElem hj]
  exact List.getElem_mem hj
theorem pk_lots {Ls : List (List Int)} {ks : List Int} (hL : ∀ ns, ns ∈ Ls → Lot ns) (hk : ∀ k, k ∈ ks → 0 ≤ k ∧ k < Ls.length) : ∀ ns, ns ∈ pkL Ls ks → Lot ns := fun ns h => by
  obtain ⟨k, h1, rfl⟩ := List.mem_map.mp h
  exact pk_lot hL (hk k h1).1 (hk k h1).2
theorem flat_len {Ls : List (List Int)} : (∀ ns, ns ∈ Ls → Lot ns) → Ls.flatten.length ≤ 24 * Ls.length := by
  induction Ls with
  | nil => intro _; exact Nat.le_refl _
  | cons ns r ih =>
    intro h
    have h1 := lot_len (h ns List.mem_cons_self)
    have h2 := ih fun m hm => h m (List.mem_cons_of_mem _ hm)
    rw [List.flatten_cons, List.length_append, List.length_cons]
    omega
theorem mask_lot {m : Nat} (h : Low m) : maskN (lotI m) = m := by
  apply Nat.eq_of_testBit_eq
  intro k
  rw [mask_bit (lotI_asc m) (fun i hi => ((lotI_mem m i).mp hi).1)]
  by_cases hb : m.testBit k = true
  · rw [hb, decide_eq_true_eq, lotI_mem]
    refine ⟨by omega, ?_, by rw [Int.toNat_natCast]; exact hb⟩
    apply Classical.byContradiction
    intro hc
    have : m.testBit k = false := Nat.testBit_lt_two_pow (Nat.lt_of_lt_of_le h (Nat.pow_le_pow_right (by decide) (by omega)))
    rw [this] at hb
    cases hb
  · rw [Bool.not_eq_true] at hb
    rw [hb, decide_eq_false_iff_not, lotI_mem]
    rintro ⟨_, _, q⟩
    rw [Int.toNat_natCast, hb] at q
    cases q
theorem own_at {env : Ev} {i m : Nat} {d : D} (he : env.length = m) (hi : i < m) : getV ((wipeE env [i]).set i (some d)) i = some d := by
  show getV ((env.set i none).set i (some d)) i = some d
  unfold getV
  rw [List.getElem?_set_self (by rw [List.length_set]; omega)]
  rfl
theorem own_ne {env : Ev} {i j : Nat} {d : D} (h : j ≠ i) : getV ((wipeE env [i]).set i (some d)) j = getV env j := by
  show getV ((env.set i none).set i (some d)) j = _
  rw [getV_set h, getV_set h]
section
variable {n : Nat} {S : Sto} {env : Ev} {b : Nat} {Ls : List (List Int)} {ks : List Int}
theorem areL_tupL (hL : ∀ ns, ns ∈ Ls → Lot ns) (hl : Ls.length ≤ 64) : areL (.tup (tupL Ls)) = true := by
  show (decide ((tupL Ls).length ≤ 64) && (tupL Ls).all fun d => ascD d 24) = true
  rw [decide_eq_true (by rw [tupL, List.length_map]; exact hl), Bool.true_and, List.all_eq_true]
  intro d hd
  obtain ⟨ns, h, rfl⟩ := List.mem_map.mp hd
  exact asc_lot (hL ns h)
theorem sop35 (hL : ∀ ns, ns ∈ Ls → Lot ns) (hl : Ls.length ≤ 12) (pw : ks.Pairwise (· < ·)) (hk : ∀ k, k ∈ ks → 0 ≤ k ∧ k < Ls.length) :
    run T (n + 6) "sum_of_pick" [.tup (tupL Ls), .tup (ks.map .int)] S = some (.tup ((lotI (xorF 0 (pkL Ls ks))).map .int), S) := by
  have hc : (D.tup (tupL Ls)).cl S.length = true := cl_tupL Ls
  have d1 := f22 n (.tup (tupL Ls)) S hc (areL_tupL hL (by omega))
  have hlen : ((tupL Ls).length : Int) = Ls.length := by rw [tupL, List.length_map]
  have d2 : ascD (.tup (ks.map .int)) ((tupL Ls).length : Int) = true := by
    rw [hlen]
    exact asc_of_lot pw fun i hi => by have := hk i hi; omega
  have d3 := f23 (n + 3) (.tup (tupL Ls)) (ks.map .int) S (fun d => match d with
    | .int k => .tup ((Ls.getD k.toNat []).map .int)
    | _ => .non) (fun d => match d with
    | .int k => maskN (Ls.getD k.toNat [])
    | _ => 0) fun d hd => by
      obtain ⟨k, h, rfl⟩ := List.mem_map.mp hd
      have hb := hk k h
      have lt := pk_lot hL hb.1 hb.2
      exact ⟨ix_tupL hb.1 hb.2, cl_ints _, f4' (n + 3) _ _ S rfl lt (by have := lot_len lt; omega)⟩
  have ef : (ks.map D.int).foldl (fun a k => a ^^^ (match k with
    | .int k => maskN (Ls.getD k.toNat [])
    | _ => 0)) 0 = xorF 0 (pkL Ls ks) := by
    unfold xorF pkL
    rw [List.foldl_map, List.foldl_map]
  rw [ef] at d3
  have hlow := xorF_low (pk_lots hL hk) low_zero
  have d4 := f5 (n + 4) (xorF 0 (pkL Ls ks)) S hlow
  exact f19a n (tupL Ls) (.tup (ks.map .int)) _ _ S (cl_ints ks) d1 d2 d3 d4 (cl_ints _)
/-- told = sum_of_pick(lots, pick) -/
theorem told35 (h2 : getV env 2 = some (.tup (tupL Ls))) (h3 : getV env 3 = some (.tup (ks.map .int))) (hL : ∀ ns, ns ∈ Ls → Lot ns) (hl : Ls.length ≤ 12) (pw : ks.Pairwise (· < ·)) (hk : ∀ k, k ∈ ks → 0 ≤ k ∧ k < Ls.length) :
    evE (run T (n + 6)) b env (.call "sum_of_pick" (.cons (.var 2) (.cons (.var 3) .nil))) S = some (.tup ((lotI (xorF 0 (pkL Ls ks))).map .int), S) :=
  e_call2 (e_vr h2) (e_vr h3) (sop35 hL hl pw hk) (cl_ints _)
/-- the law counts the same -/
theorem ltot35 (he : env.length = 12) (h2 : getV env 2 = some (.tup (tupL Ls))) (h3 : getV env 3 = some (.tup (ks.map .int))) (hL : ∀ ns, ns ∈ Ls → Lot ns) (hl : ks.length ≤ 12) (hk : ∀ k, k ∈ ks → 0 ≤ k ∧ k < Ls.length) :
    evE (run T (n + 1)) b env (.call "_law_lo_total" (.cons (.lc [9] (.nm 9) (.ex (.var 3)) .no c35_4) .nil)) S = some (.tup ((lotI (xorF 0 (pkL Ls ks))).map .int), S) := by
  have hi : evI (run T (n + 1)) S.length env (.ex (.var 3)) S = some (ks.map .int, none, S) := by
    rw [evI, e_vr h3]
    rfl
  have hl2 : lcF (lcS (run T (n + 1)) S.length env [9] (.nm 9) .no c35_4) (fun S2 => still S2 none (ks.map .int)) (ks.map .int) [] S = some (tupL (pkL Ls ks), S) := by
    rw [lc_intsM (fun k => .tup ((Ls.getD k.toNat []).map .int)) rfl ks (by show _ ≤ 100000; omega) fun k hk1 => ?_]
    · unfold tupL pkL
      rw [List.map_map]
      rfl
    · refine lcS_no ?_
      unfold c35_4
      have v2 : evE (run T (n + 1)) S.length ((wipeE env [9]).set 9 (some (.int k))) (.var 2) S = some (.tup (tupL Ls), S) := e_vr (by
        show getV ((env.set 9 none).set 9 (some (.int k))) 2 = _
        rw [getV_set (by decide), getV_set (by decide), h2])
      rw [evE, v2]
      simp only [e_vr (own_at he (show 9 < 12 by decide)), ix_tupL (hk k hk1).1 (hk k hk1).2, Option.map_some]
      exact gc_self (cl_ints _)
  have a1 : evE (run T (n + 1)) S.length env (.lc [9] (.nm 9) (.ex (.var 3)) .no c35_4) S = some (.ref S.length, S ++ [.lst (tupL (pkL Ls ks))]) := by
    rw [e_lc rfl hi hl2]
    exact gc_new0 (cl_tupL _)
  have hlots := pk_lots hL hk
  have hfl := flat_len hlots
  obtain ⟨ms, hm, e⟩ := f29a n S.length (S ++ [.lst (tupL (pkL Ls ks))]) (pkL Ls ks) (by rw [at_new]; rfl) (by
    have : (pkL Ls ks).length = ks.length := by rw [pkL, List.length_map]
    omega)
  rw [total_same hlots hm] at e
  rw [e_call (esc a1 es0), e]
  exact gc_intsA
/-- met = [at for at in pick if ..] -/
theorem mets35 (he : env.length = 12) {ns : List Int} (h2 : getV env 2 = some (.tup (tupL Ls))) (h3 : getV env 3 = some (.tup (ks.map .int))) (h7 : getV env 7 = some (.tup (ns.map .int))) (h1 : Lot ns) (hL : ∀ ns, ns ∈ Ls → Lot ns) (hl : ks.length ≤ 12) (hk : ∀ k, k ∈ ks → 0 ≤ k ∧ k < Ls.length) :
    evE (run T (n + 5)) b env (.lc [9] (.nm 9) (.ex (.var 3)) c35_3 (.var 9)) S = some (.ref S.length, S ++ [.lst ((ks.filter fun k => decide (parN (maskN (Ls.getD k.toNat []) &&& maskN ns) = 1)).map .int)]) := by
  have hi : evI (run T (n + 5)) S.length env (.ex (.var 3)) S = some (ks.map .int, none, S) := by
    rw [evI, e_vr h3]
    rfl
  have hl2 : lcF (lcS (run T (n + 5)) S.length env [9] (.nm 9) c35_3 (.var 9)) (fun S2 => still S2 none (ks.map .int)) (ks.map .int) [] S = some ((ks.filter fun k => decide (parN (maskN (Ls.getD k.toNat []) &&& maskN ns) = 1)).map .int, S) := by
    rw [lc_ints (fun k => if decide (parN (maskN (Ls.getD k.toNat []) &&& maskN ns) = 1) = true then some (.int k) else none) rfl ks (by show _ ≤ 100000; omega) fun k hk1 => ?_, filterMap_if]
    have hb := hk k hk1
    refine lcS_yes (e_met (fun b => ?_) (fun b => e_vr ((own_ne (by decide)).trans h7)) (pk_lot hL hb.1 hb.2) h1) (e_vr (own_at he (by decide)))
    rw [evE, e_vr ((own_ne (by decide)).trans h2)]
    simp only [e_vr (own_at he (show 9 < 12 by decide)), ix_tupL hb.1 hb.2, Option.map_some]
    exact gc_self (cl_ints _)
  rw [e_lc rfl hi hl2]
  exact gc_new0 (cl_ints _)
/-- the told sum meets a lot oddly just if it meets an odd number of the picked ones oddly -/
theorem test3 {ns : List Int} {r : Nat} (h4 : getV env 4 = some (.tup ((lotI (xorF 0 (pkL Ls ks))).map .int))) (h7 : getV env 7 = some (.tup (ns.map .int))) (h5 : getV env 5 = some (.ref r)) (hr : S[r]? = some (.lst ((ks.filter fun k => decide (parN (maskN (Ls.getD k.toNat []) &&& maskN ns) = 1)).map .int))) (h1 : Lot ns) (hL : ∀ ns, ns ∈ Ls → Lot ns) (hk : ∀ k, k ∈ ks → 0 ≤ k ∧ k < Ls.length) :
    evE (run T (n + 5)) b env (.cmp .NotEq (.call "does_meet_oddly" (.cons (.var 4) (.cons (.var 7) .nil))) (.cmp .Eq (.bin .Mod (.blt .len (.cons (.var 5) .nil)) (.int 2)) (.int 1))) S = some (.bl false, S) := by
  have hlow := xorF_low (pk_lots hL hk) low_zero
  have a1 := e_met (n := n) (S := S) (env := env) (b := S.length) (x := .var 4) (y := .var 7) (fun b => e_vr h4) (fun b => e_vr h7) (Lot.of _) h1
  rw [mask_lot hlow] at a1
  obtain ⟨mets, hm⟩ : ∃ mets, mets = ks.filter fun k => decide (parN (maskN (Ls.getD k.toNat []) &&& maskN ns) = 1) := ⟨_, rfl⟩
  rw [← hm] at hr
  have l1 : evE (run T (n + 5)) S.length env (.blt .len (.cons (.var 5) .nil)) S = some (.int (mets.length : Int), S) := by
    rw [e_blt (esc (e_vr h5) es0)]
    show gc S.length ((itemsOf S (.ref r)).map fun xs => (.int xs.length, S)) = _
    have : itemsOf S (.ref r) = some (mets.map .int) := by
      show (S[r]?).bind SO.seq? = _
      rw [hr]
      rfl
    rw [this, Option.map_some, List.length_map]
    exact gc_intS
  have l2 : evE (run T (n + 5)) S.length env (.bin .Mod (.blt .len (.cons (.var 5) .nil)) (.int 2)) S = some (.int ((mets.length : Int) % 2), S) := by
    rw [e_bin l1 e_int]
    exact gc_intS
  have l3 : evE (run T (n + 5)) S.length env (.cmp .Eq (.bin .Mod (.blt .len (.cons (.var 5) .nil)) (.int 2)) (.int 1)) S = some (.bl (decide ((mets.length : Int) % 2 = 1)), S) := by
    rw [e_cmp l2 e_int]
    show gc S.length ((eqD S (.int ((mets.length : Int) % 2)) (.int 1)).map fun z => (.bl z, S)) = _
    rw [eqD_int]
    exact gc_blS
  have e : decide (parN (xorF 0 (pkL Ls ks) &&& maskN ns) = 1) = decide ((mets.length : Int) % 2 = 1) := by
    have f := parN_fold (maskN ns) (pkL Ls ks) 0
    rw [Nat.zero_and, parN_zero, Nat.zero_add] at f
    have g : ((pkL Ls ks).filter fun ns' => decide (parN (maskN ns' &&& maskN ns) = 1)).length = mets.length := by
      unfold pkL
      rw [List.filter_map, List.length_map, hm]
      rfl
    rw [g] at f
    congr 1
    apply propext
    omega
  rw [e_neB a1 l3, e]
  simp
end
end K00
end
section
set_option Elab.async false
set_option linter.all false
set_option autoImplicit false
set_option maxHeartbeats 4000000
namespace Z
open PySem L2
theorem still_at {S : Sto} {i : Nat} {xs : List D} (h : (S[i]?).bind SO.seq? = some xs) : still S (some i) xs = true := by
  show (match (S[i]?).bind SO.seq? with
    | some ys => beqL ys xs
    | none => false) = true
  rw [h]
  exact beqL_refl xs
/-- a tuple that holds a new thing -/
theorem gc_tupK {n : Nat} {S : Sto} {ds : List D} (h : clL n ds = false) : gc n (some (.tup ds, S)) = some (.tup ds, S) := by
  unfold gc
  have : D.cl n (.tup ds) = false := h
  simp only [this]
  rfl
theorem gc_newK {n : Nat} {S : Sto} {xs : List D} (hk : n ≤ S.length) (h : clL n xs = false) : gc n (new S (.lst xs)) = some (.ref S.length, S ++ [.lst xs]) := gc_keep (o := .lst xs) hk at_new h
end Z
namespace K00
open PySem L2 Z
theorem eqD_nn {S : Sto} {i j : Nat} (h1 : (S[i]?).bind SO.seq? = some []) (h2 : (S[j]?).bind SO.seq? = some []) : eqD S (.ref i) (.ref j) = some true := by
  have := eqD_intsL (S := S) (i := i) (j := j) (ns := []) (ms := []) h1 h2
  simpa using this
section
variable {n : Nat} {S : Sto} {env : Ev} {b : Nat} {ns : List Int} {m : Nat} {y : D}
/-- every value near a lot is judged as the law judges it -/
theorem test4 (he : env.length = 12) (h0 : getV env 0 = some y) (h1 : getV env 1 = some (.int (m : Int))) (h7 : getV env 7 = some (.tup (ns.map .int))) (hl : ns.length ≤ 24) (hm1 : 1 ≤ m) (hm : m ≤ 24) :
    evE (run T (n + 5)) b env (.cmp .NotEq (.lc [11] (.nm 11) (.ex (.call "_law_near" (.cons (.var 0) (.cons (.var 1) (.cons (.var 7) .nil))))) c35_2 (.var 11)) (.lst .nil)) S = some (.bl false, S) := by
  obtain ⟨vs, e, hcl, hvl, hv⟩ := f33 (n + 4) m y ns S hl hm
  obtain ⟨t, ht⟩ : ∃ t : Sto, t = [SO.lst (ns.map .int), SO.dct [], SO.lst (near1 S.length m (ns.map .int)), SO.lst vs] := ⟨_, rfl⟩
  have hS : nearS S (ns.map .int) ++ [.lst (near1 S.length m (ns.map .int))] ++ [.lst vs] = S ++ t := by rw [ht]; simp [nearS]
  rw [hS] at e
  obtain ⟨S', hS'⟩ : ∃ S', S' = S ++ t := ⟨_, rfl⟩
  have hL : S'.length = S.length + 4 := by rw [hS', ht]; simp
  have hat : S'[S.length + 3]? = some (.lst vs) := by
    rw [hS', ht, List.getElem?_append_right (by omega)]
    rw [show S.length + 3 - S.length = 3 by omega]
    rfl
  rw [← hS'] at e
  have c1 : evE (run T (n + 5)) S.length env (.call "_law_near" (.cons (.var 0) (.cons (.var 1) (.cons (.var 7) .nil)))) S = some (.ref (S.length + 3), S') := by
    rw [e_call (esc (e_vr h0) (esc (e_vr h1) (esc (e_vr h7) es0))), e]
    exact gc_keep (o := .lst vs) (by omega) hat hcl
  have hi : evI (run T (n + 5)) S.length env (.ex (.call "_law_near" (.cons (.var 0) (.cons (.var 1) (.cons (.var 7) .nil))))) S = some (vs, some (S.length + 3), S') := by
    rw [evI, c1]
    show (((S'[S.length + 3]?).bind SO.seq?).map fun xs => (xs, some (S.length + 3))).map (fun p => (p.1, p.2, S')) = _
    rw [hat]
    rfl
  have hok : still S' (some (S.length + 3)) vs = true := still_at (by rw [hat]; rfl)
  have hb24 : betD (.int (m : Int)) 1 24 = true := by
    show (decide (1 ≤ (m : Int)) && decide ((m : Int) ≤ 24)) = true
    rw [decide_eq_true (by omega), decide_eq_true (by omega)]
    rfl
  have hstep : ∀ d, d ∈ vs → lcS (run T (n + 5)) S.length env [11] (.nm 11) c35_2 (.var 11) d S' = some (none, S') := by
    intro d hd
    have nd := (hv d hd).up (show S.length + 2 ≤ S'.length by omega)
    have g1 := f15 (n + 1) (m : Int) d S' nd.cl hb24
    have g2 := f31 (n + 4) (m : Int) d S' nd.cl (fun ds q => by have := nd.sm ds q; show _ ≤ 100000; omega) (fun ns q => by have := nd.sm _ q; rw [List.length_map] at this; omega)
    have v1 : ∀ b, evE (run T (n + 5)) b ((wipeE env [11]).set 11 (some d)) (.var 1) S' = some (.int (m : Int), S') := fun b => e_vr ((own_ne (by decide)).trans h1)
    have v11 : ∀ b, evE (run T (n + 5)) b ((wipeE env [11]).set 11 (some d)) (.var 11) S' = some (d, S') := fun b => e_vr (own_at he (by decide))
    have c : evE (run T (n + 5)) S.length ((wipeE env [11]).set 11 (some d)) (.cmp .NotEq (.call "is_lot_of" (.cons (.var 1) (.cons (.var 11) .nil))) (.call "_law_lo_is" (.cons (.var 11) (.cons (.var 1) .nil)))) S' = some (.bl false, S') := by
      rw [e_neB (e_call2 (v1 _) (v11 _) g1 rfl) (e_call2 (v11 _) (v1 _) g2 rfl)]
      simp
    exact lcS_yes c (v11 _)
  have hl2 : lcF (lcS (run T (n + 5)) S.length env [11] (.nm 11) c35_2 (.var 11)) (fun S2 => still S2 (some (S.length + 3)) vs) vs [] S' = some ([], S') := by
    rw [lc_pure (fun _ => none) hok vs [] (by show _ ≤ 100000; simp; omega) hstep]
    simp
  have a1 : evE (run T (n + 5)) S.length env (.lc [11] (.nm 11) (.ex (.call "_law_near" (.cons (.var 0) (.cons (.var 1) (.cons (.var 7) .nil))))) c35_2 (.var 11)) S = some (.ref S.length, S ++ [.lst []]) := by
    rw [e_lc rfl hi hl2]
    have := gc_new (S := S) (t := t) (o := .lst []) (k := 4) (by rw [ht]; rfl) rfl
    rw [← this, ← List.append_assoc, ← hS', ← hL]
    rfl
  have a2 : evE (run T (n + 5)) S.length env (.lst .nil) (S ++ [.lst []]) = some (.ref (S ++ [SO.lst []]).length, S ++ [SO.lst []] ++ [.lst []]) := by
    rw [evE, evS]
    exact gc_new0 rfl
  rw [e_cmp a1 a2]
  have e : eqD (S ++ [SO.lst []] ++ [SO.lst []]) (.ref S.length) (.ref (S ++ [SO.lst []]).length) = some true := eqD_nn (by simp [SO.seq?]) (by rw [at_new]; rfl)
  show gc _ (((eqD (S ++ [SO.lst []] ++ [SO.lst []]) (.ref S.length) (.ref (S ++ [SO.lst []]).length)).map (!·)).map fun z => (.bl z, S ++ [SO.lst []] ++ [SO.lst []])) = _
  rw [e, List.append_assoc]
  exact gc_blA
end
end K00
end
section
set_option Elab.async false
set_option linter.all false
set_option autoImplicit false
set_option maxHeartbeats 4000000
namespace K00
open PySem L2 Z
/-! ### values near tuples of lots -/
def near3 (l : Nat) (ds xs : List D) : List D := [.tup ds, .ref l, .tup (ds ++ ds), .tup (ds ++ [.non]), .tup (List.replicate 64 [D.tup xs]).flatten, .tup (List.replicate 65 [D.tup xs]).flatten, .tup (ds ++ [.tup [.int 24]]), .tup (ds ++ [.tup [.int 1, .int 0]]), .tup [], .non, .int 5, .str "", .ref (l + 1)]
def near4 (l : Nat) (xs : List D) : List D := [.tup [.ref (l + 3)], .tup [.tup [.bl true]], .tup [.tup [.tup [.int 0]]], .tup xs]
theorem cl_rep {n k : Nat} {a : List D} (h : clL n a = true) : clL n (List.replicate k a).flatten = true := clL_of fun d hd => by
  obtain ⟨l, hl, hd⟩ := List.mem_flatten.mp hd
  rw [(List.mem_replicate.mp hl).2] at hd
  exact clL_mem h d hd
section
variable {n : Nat} {S : Sto} {env : Ev} {b : Nat} {ds xs : List D}
theorem e_mulT {a : Ex} {d : D} {k : Int} (h : ∀ b, evE (run T n) b env a S = some (d, S)) (hc : d.cl S.length = true) (hk : 2 ≤ k) (hk2 : k ≤ 100) : evE (run T n) b env (.bin .Mult (.tup (.cons a .nil)) (.int k)) S = some (.tup (List.replicate k.toNat [d]).flatten, S) := by
  rw [e_bin (e_t1 (h _) hc) e_int]
  show gc S.length (if [d] ≠ [] ∧ 2 ≤ k ∧ k ≤ 1000 ∧ [d].length ≤ 1000 ∧ [d].length * k.toNat ≤ lim then some (.tup (List.replicate k.toNat [d]).flatten, S) else none) = _
  have c1 : [d].length * k.toNat ≤ lim := by
    show 1 * k.toNat ≤ 100000
    omega
  rw [if_pos ⟨by simp, hk, by omega, by show 1 ≤ 1000; decide, c1⟩]
  have c2 : clL S.length [d] = true := by
    show (d.cl S.length && true) = true
    rw [hc]
    rfl
  exact gc_self (show D.cl S.length (.tup (List.replicate k.toNat [d]).flatten) = true from cl_rep c2)
theorem set35a (h2 : getV env 2 = some (.tup ds)) (h7 : getV env 7 = some (.tup xs)) (hc : clL 0 ds = true) (hx : clL 0 xs = true) (hl : ds.length ≤ 12) :
    ex1 (run T n) b (.set 6 (.lst (.cons (.var 2) (.cons (.blt .list (.cons (.var 2) .nil)) (.cons (.bin .Add (.var 2) (.var 2)) (.cons (.bin .Add (.var 2) (.tup (.cons .non .nil))) (.cons (.bin .Mult (.tup (.cons (.var 7) .nil)) (.int 64)) (.cons (.bin .Mult (.tup (.cons (.var 7) .nil)) (.int 65)) (.cons (.bin .Add (.var 2) (.tup (.cons (.tup (.cons (.int 24) .nil)) .nil))) (.cons (.bin .Add (.var 2) (.tup (.cons (.tup (.cons (.int 1) (.cons (.int 0) .nil))) .nil))) (.cons (.tup .nil) (.cons .non (.cons (.int 5) (.cons (.str "") (.cons .dic .nil))))))))))))))) env S
      = some (.nx, env.set 6 (some (.ref (S.length + 2))), S ++ [.lst ds] ++ [.dct []] ++ [.lst (near3 S.length ds xs)]) := by
  have hc' : ∀ {n : Nat}, clL n ds = true := fun {n} => clL_mono (Nat.zero_le n) ds hc
  have hx' : ∀ {n : Nat}, clL n xs = true := fun {n} => clL_mono (Nat.zero_le n) xs hx
  have v2 : ∀ {b : Nat} {S' : Sto}, evE (run T n) b env (.var 2) S' = some (.tup ds, S') := e_vr h2
  have v7 : ∀ {b : Nat} {S' : Sto}, evE (run T n) b env (.var 7) S' = some (.tup xs, S') := e_vr h7
  obtain ⟨S1, hS1⟩ : ∃ S1, S1 = S ++ [SO.lst ds] := ⟨_, rfl⟩
  obtain ⟨S2, hS2⟩ : ∃ S2, S2 = S1 ++ [SO.dct []] := ⟨_, rfl⟩
  have hL1 : S1.length = S.length + 1 := by rw [hS1]; simp
  have hL2 : S2.length = S.length + 2 := by rw [hS2]; simp [hL1]
  have e2 : evE (run T n) S.length env (.blt .list (.cons (.var 2) .nil)) S = some (.ref S.length, S1) := by
    rw [hS1]
    exact e_listT v2 hc'
  have e3 : evE (run T n) S.length env (.bin .Add (.var 2) (.var 2)) S1 = some (.tup (ds ++ ds), S1) := e_addT v2 v2 hc' hc' (by show _ ≤ 100000; omega)
  have e4 : evE (run T n) S.length env (.bin .Add (.var 2) (.tup (.cons .non .nil))) S1 = some (.tup (ds ++ [.non]), S1) := e_addT v2 (e_t1 e_non rfl) hc' rfl (by show _ ≤ 100000; simp; omega)
  have e5 : evE (run T n) S.length env (.bin .Mult (.tup (.cons (.var 7) .nil)) (.int 64)) S1 = some (.tup (List.replicate 64 [D.tup xs]).flatten, S1) := e_mulT (fun b => v7) hx' (by decide) (by decide)
  have e6 : evE (run T n) S.length env (.bin .Mult (.tup (.cons (.var 7) .nil)) (.int 65)) S1 = some (.tup (List.replicate 65 [D.tup xs]).flatten, S1) := e_mulT (fun b => v7) hx' (by decide) (by decide)
  have e7 : evE (run T n) S.length env (.bin .Add (.var 2) (.tup (.cons (.tup (.cons (.int 24) .nil)) .nil))) S1 = some (.tup (ds ++ [.tup [.int 24]]), S1) := e_addT v2 (e_t1 e_i1 rfl) hc' rfl (by show _ ≤ 100000; simp; omega)
  have e8 : evE (run T n) S.length env (.bin .Add (.var 2) (.tup (.cons (.tup (.cons (.int 1) (.cons (.int 0) .nil))) .nil))) S1 = some (.tup (ds ++ [.tup [.int 1, .int 0]]), S1) := e_addT v2 (e_t1 e_i2 rfl) hc' rfl (by show _ ≤ 100000; simp; omega)
  have e13 : evE (run T n) S.length env .dic S1 = some (.ref (S.length + 1), S2) := by
    rw [e_dic, hL1, hS2]
  have es := esc (φ := run T n) (base := S.length) (env := env) (S := S) (e := .var 2) v2 (esc e2 (esc e3 (esc e4 (esc e5 (esc e6 (esc e7 (esc e8 (esc e_t0 (esc e_non (esc (e_int (i := 5)) (esc (e_str (s := "")) (esc e13 es0))))))))))))
  refine x_set (i := 6) ?_
  rw [e_lst es (by show 13 ≤ 100000; decide), ← hS1, ← hS2]
  have := gc_newK (n := S.length) (S := S2) (xs := near3 S.length ds xs) (by omega) (by simp [near3, clL, D.cl])
  rw [hL2] at this
  exact this
theorem set35b {r l : Nat} {v3 : List D} (h6 : getV env 6 = some (.ref r)) (h7 : getV env 7 = some (.tup xs)) (hx : clL 0 xs = true) (hr : S[r]? = some (.lst v3)) (hl : v3.length ≤ 100) (hL : S.length = l + 3) :
    ex1 (run T n) b (.set 6 (.bin .Add (.var 6) (.lst (.cons (.tup (.cons (.blt .list (.cons (.var 7) .nil)) .nil)) (.cons (.tup (.cons (.tup (.cons (.bl true) .nil)) .nil)) (.cons (.tup (.cons (.tup (.cons (.tup (.cons (.int 0) .nil)) .nil)) .nil)) (.cons (.var 7) .nil))))))) env S
      = some (.nx, env.set 6 (some (.ref (S.length + 2))), S ++ [.lst xs] ++ [.lst (near4 l xs)] ++ [.lst (v3 ++ near4 l xs)]) := by
  have hx' : ∀ {n : Nat}, clL n xs = true := fun {n} => clL_mono (Nat.zero_le n) xs hx
  have v7 : ∀ {b : Nat} {S' : Sto}, evE (run T n) b env (.var 7) S' = some (.tup xs, S') := e_vr h7
  obtain ⟨S1, hS1⟩ : ∃ S1, S1 = S ++ [SO.lst xs] := ⟨_, rfl⟩
  have hL1 : S1.length = S.length + 1 := by rw [hS1]; simp
  have e1 : evE (run T n) S.length env (.tup (.cons (.blt .list (.cons (.var 7) .nil)) .nil)) S = some (.tup [.ref S.length], S1) := by
    rw [e_tup (esc (e_listT v7 hx') es0) (by show 1 ≤ 100000; decide), ← hS1]
    exact gc_tupK (by simp [clL, D.cl])
  have e2 : evE (run T n) S.length env (.tup (.cons (.tup (.cons (.bl true) .nil)) .nil)) S1 = some (.tup [.tup [.bl true]], S1) := e_t1 (e_t1 e_bl rfl) rfl
  have e3 : evE (run T n) S.length env (.tup (.cons (.tup (.cons (.tup (.cons (.int 0) .nil)) .nil)) .nil)) S1 = some (.tup [.tup [.tup [.int 0]]], S1) := e_t1 (e_t1 e_i1 rfl) rfl
  have es := esc e1 (esc e2 (esc e3 (esc (e := .var 7) v7 es0)))
  rw [hL] at es
  obtain ⟨S2, hS2⟩ : ∃ S2, S2 = S1 ++ [SO.lst (near4 l xs)] := ⟨_, rfl⟩
  have hL2 : S2.length = S.length + 2 := by rw [hS2]; simp [hL1]
  have nk : clL S.length (near4 l xs) = false := by simp [near4, clL, D.cl, hL]
  have a2 : evE (run T n) S.length env (.lst (.cons (.tup (.cons (.blt .list (.cons (.var 7) .nil)) .nil)) (.cons (.tup (.cons (.tup (.cons (.bl true) .nil)) .nil)) (.cons (.tup (.cons (.tup (.cons (.tup (.cons (.int 0) .nil)) .nil)) .nil)) (.cons (.var 7) .nil))))) S = some (.ref (S.length + 1), S2) := by
    rw [← hL] at es
    rw [e_lst es (by show 4 ≤ 100000; decide), hS2, ← hL1]
    rw [hL]
    have := gc_newK (n := S.length) (S := S1) (xs := near4 l xs) (by omega) nk
    rw [hL] at this
    exact this
  have hlt : r < S.length := (List.getElem?_eq_some_iff.mp hr).1
  refine x_set (i := 6) ?_
  rw [e_bin (x := .ref r) (S1 := S) (e_vr h6) a2]
  have q1 : S2[r]? = some (.lst v3) := by
    rw [hS2, List.getElem?_append_left (by omega), hS1, List.getElem?_append_left hlt, hr]
  have q2 : S2[S.length + 1]? = some (.lst (near4 l xs)) := by
    rw [hS2, ← hL1]
    exact at_new
  have hll : v3.length + (near4 l xs).length ≤ lim := by
    show v3.length + 4 ≤ 100000
    omega
  unfold binF
  simp only [q1, q2, if_pos hll]
  have := gc_newK (n := S.length) (S := S2) (xs := v3 ++ near4 l xs) (by omega) (by
    cases q : clL S.length (v3 ++ near4 l xs) with
    | false => rfl
    | true =>
      have := clL_sub (fun d hd => List.mem_append.mpr (.inr hd)) q (ys := near4 l xs)
      rw [nk] at this
      cases this)
  rw [hL2] at this
  rw [this, hS2, hS1]
end
end K00
end
section
set_option Elab.async false
set_option linter.all false
set_option autoImplicit false
set_option maxHeartbeats 4000000
namespace K00
open PySem L2 Z
structure Fit (S : Sto) (v : D) : Prop where
  cl : v.cl S.length = true
  it : ∀ ds, v = .tup ds → ∀ d, d ∈ ds → Nice S d
theorem Fit.tup {S : Sto} {ds : List D} (h : ∀ d, d ∈ ds → Nice S d) : Fit S (.tup ds) := ⟨show D.cl S.length (.tup ds) = true from clL_of fun d hd => (h d hd).cl, fun es q => by cases q; exact h⟩
theorem Nice.int {S : Sto} {i : Int} : Nice S (.int i) := ⟨rfl, fun es q => (by cases q), ShD.int⟩
theorem Nice.non {S : Sto} : Nice S .non := ⟨rfl, fun es q => (by cases q), ShD.non⟩
theorem Nice.ints {S : Sto} {ns : List Int} (h : ns.length ≤ 24) : Nice S (.tup (ns.map .int)) := ⟨cl_ints ns, fun es q => (by cases q; rw [List.length_map]; omega), ShD.ints⟩
theorem Nice.ref {S : Sto} {i : Nat} {ns : List Int} (h : (S[i]?).bind SO.seq? = some (ns.map .int)) : Nice S (.ref i) := ⟨decide_eq_true (by
    apply Classical.byContradiction
    intro hc
    rw [List.getElem?_eq_none (by omega)] at h
    cases h), fun es q => (by cases q), ShD.intsL h⟩
theorem Nice.tbl {S : Sto} {k : Bool} : Nice S (.tup [.bl k]) := ⟨rfl, fun es q => by cases q; show 1 ≤ 60; decide, ⟨.tuple [.bool k], rfl, by simp [PyData.canLay0, PyData.canLayAll0], by simp [PyData.depth, PyData.depthAll]⟩⟩
theorem Nice.tti {S : Sto} {i : Int} : Nice S (.tup [.tup [.int i]]) := ⟨rfl, fun es q => by cases q; show 1 ≤ 60; decide, ⟨.tuple [.tuple [.int i]], rfl, by simp [PyData.canLay0, PyData.canLayAll0], by simp [PyData.depth, PyData.depthAll]⟩⟩
theorem Fit.ref {S : Sto} {i : Nat} (h : i < S.length) : Fit S (.ref i) := ⟨decide_eq_true h, fun es q => by cases q⟩
theorem Fit.non {S : Sto} : Fit S .non := ⟨rfl, fun es q => by cases q⟩
theorem Fit.int {S : Sto} {i : Int} : Fit S (.int i) := ⟨rfl, fun es q => by cases q⟩
theorem Fit.str {S : Sto} {i : Str} : Fit S (.str i) := ⟨rfl, fun es q => by cases q⟩
theorem near34_ok {S : Sto} {l : Nat} {Ls : List (List Int)} {ns : List Int} (hL : ∀ ns, ns ∈ Ls → Lot ns) (hn : Lot ns) (h3 : (S[l + 3]?).bind SO.seq? = some (ns.map .int)) : ∀ v, v ∈ near3 l (tupL Ls) (ns.map .int) ++ near4 l (ns.map .int) → Fit S v := by
  have hlt : l + 3 < S.length := by
    apply Classical.byContradiction
    intro hc
    rw [List.getElem?_eq_none (by omega)] at h3
    cases h3
  have hd : ∀ d, d ∈ tupL Ls → Nice S d := fun d hd => by
    obtain ⟨ms, hm, rfl⟩ := List.mem_map.mp hd
    exact Nice.ints (lot_len (hL ms hm))
  have hx : Nice S (.tup (ns.map .int)) := Nice.ints (lot_len hn)
  have hr : ∀ k, Fit S (.tup (List.replicate k [D.tup (ns.map .int)]).flatten) := fun k => Fit.tup fun d hd => by
    obtain ⟨z, hz, hd⟩ := List.mem_flatten.mp hd
    rw [(List.mem_replicate.mp hz).2, List.mem_singleton] at hd
    rw [hd]
    exact hx
  have ha : ∀ e, Nice S e → Fit S (.tup (tupL Ls ++ [e])) := fun e he => Fit.tup fun d q => by
    rcases List.mem_append.mp q with q | q
    · exact hd d q
    · rw [List.mem_singleton.mp q]; exact he
  have h1 : ∀ e, Nice S e → Fit S (.tup [e]) := fun e he => Fit.tup fun d q => by rw [List.mem_singleton.mp q]; exact he
  intro v hv
  simp only [near3, near4, List.mem_append, List.mem_cons, List.not_mem_nil, or_false] at hv
  rcases hv with (rfl | rfl | rfl | rfl | rfl | rfl | rfl | rfl | rfl | rfl | rfl | rfl | rfl) | rfl | rfl | rfl | rfl
  · exact Fit.tup hd
  · exact Fit.ref (by omega)
  · exact Fit.tup fun d q => (List.mem_append.mp q).elim (hd d) (hd d)
  · exact ha _ Nice.non
  · exact hr 64
  · exact hr 65
  · exact ha _ (Nice.ints (ns := [24]) (by decide))
  · exact ha _ (Nice.ints (ns := [1, 0]) (by decide))
  · exact Fit.tup fun d q => by cases q
  · exact Fit.non
  · exact Fit.int
  · exact Fit.str
  · exact Fit.ref (by omega)
  · exact h1 _ (Nice.ref h3)
  · exact h1 _ Nice.tbl
  · exact h1 _ Nice.tti
  · refine Fit.tup fun d q => ?_
    obtain ⟨i, _, rfl⟩ := List.mem_map.mp q
    exact Nice.int
section
variable {n : Nat} {S : Sto} {env : Ev} {b : Nat}
/-- every value near a tuple of lots is judged as the law judges it -/
theorem test5 (he : env.length = 12) {r : Nat} {vs : List D} (h6 : getV env 6 = some (.ref r)) (hr : S[r]? = some (.lst vs)) (hl : vs.length ≤ 100) (hf : ∀ v, v ∈ vs → Fit S v) :
    evE (run T (n + 5)) b env (.cmp .Eq (.lc [11] (.nm 11) (.ex (.var 6)) c35_1 (.var 11)) (.lst .nil)) S = some (.bl true, S) := by
  have hi : evI (run T (n + 5)) S.length env (.ex (.var 6)) S = some (vs, some r, S) := by
    rw [evI, e_vr h6]
    show (((S[r]?).bind SO.seq?).map fun xs => (xs, some r)).map (fun p => (p.1, p.2, S)) = _
    rw [hr]
    rfl
  have hok : still S (some r) vs = true := still_at (by rw [hr]; rfl)
  have hstep : ∀ d, d ∈ vs → lcS (run T (n + 5)) S.length env [11] (.nm 11) c35_1 (.var 11) d S = some (none, S) := by
    intro d hd
    have fd := hf d hd
    have g1 := f16 (n + 1) d S fd.cl
    have g2 := f34 (n + 3) d S fd.cl fd.it
    have v11 : ∀ b, evE (run T (n + 5)) b ((wipeE env [11]).set 11 (some d)) (.var 11) S = some (d, S) := fun b => e_vr (own_at he (by decide))
    have c : evE (run T (n + 5)) S.length ((wipeE env [11]).set 11 (some d)) (.cmp .NotEq (.call "are_lots" (.cons (.var 11) .nil)) (.call "_law_are_lots" (.cons (.var 11) .nil))) S = some (.bl false, S) := by
      rw [e_neB (e_call1 (v11 _) g1 rfl) (e_call1 (v11 _) g2 rfl)]
      simp
    exact lcS_yes c (v11 _)
  have hl2 : lcF (lcS (run T (n + 5)) S.length env [11] (.nm 11) c35_1 (.var 11)) (fun S2 => still S2 (some r) vs) vs [] S = some ([], S) := by
    rw [lc_pure (fun _ => none) hok vs [] (by show _ ≤ 100000; simp; omega) hstep]
    simp
  have a1 : evE (run T (n + 5)) S.length env (.lc [11] (.nm 11) (.ex (.var 6)) c35_1 (.var 11)) S = some (.ref S.length, S ++ [.lst []]) := by
    rw [e_lc rfl hi hl2]
    exact gc_new0 rfl
  have a2 : evE (run T (n + 5)) S.length env (.lst .nil) (S ++ [.lst []]) = some (.ref (S ++ [SO.lst []]).length, S ++ [SO.lst []] ++ [.lst []]) := by
    rw [evE, evS]
    exact gc_new0 rfl
  rw [e_cmp a1 a2]
  have e : eqD (S ++ [SO.lst []] ++ [SO.lst []]) (.ref S.length) (.ref (S ++ [SO.lst []]).length) = some true := eqD_nn (by simp [SO.seq?]) (by rw [at_new]; rfl)
  show gc _ ((eqD (S ++ [SO.lst []] ++ [SO.lst []]) (.ref S.length) (.ref (S ++ [SO.lst []]).length)).map fun z => (.bl z, S ++ [SO.lst []] ++ [SO.lst []])) = _
  rw [e, List.append_assoc]
  exact gc_blA
end
theorem x_unp {φ : Phi} {base : Nat} {env : Ev} {S S1 : Sto} {is : List Nat} {e : Ex} {ds : List D} (h : evE φ base env e S = some (.tup ds, S1)) : ex1 φ base (.unp is e) env S = (setAll env is ds).map fun env1 => (.nx, env1, S1) := by
  rw [ex1, h]
/-- all that the law asks of a draw holds -/
theorem f35 (n i : Nat) (s B : Int) (S0 S : Sto) (h : At S0 i s B S) (hB : B < 2 ^ 29) : ∃ S1 : Sto, run T (n + 7) "_law_right" [.ref i] S = some (.bl true, S1) ∧ At S0 i s (B + 1000) S1 := by
  -- many
  obtain ⟨m, Sa, e1, hm1, hm, ha⟩ := e_roll1 (b := S.length) (env := [some (.ref i), none, none, none, none, none, none, none, none, none, none, none]) (n + 5) h rfl (by omega)
  have x1 := x_set (i := 1) e1
  -- one, other
  obtain ⟨one, Sb, e2, lone, bone, hb⟩ := e_any (b := Sa.length) (env := [some (.ref i), some (.int (m : Int)), none, none, none, none, none, none, none, none, none, none]) (n + 4) ha rfl (e := .var 1) (m := m) (e_vr rfl) ha hm (by omega)
  obtain ⟨other, Sc, e3, loth, both, hc⟩ := e_any (b := Sa.length) (env := [some (.ref i), some (.int (m : Int)), none, none, none, none, none, none, none, none, none, none]) (n + 4) hb rfl (e := .int 24) (m := 24) e_int hb (by decide) (by omega)
  have e4 : evE (run T (n + 6)) S.length [some (.ref i), some (.int (m : Int)), none, none, none, none, none, none, none, none, none, none] (.tup (.cons (.call "_law_lo_any" (.cons (.var 0) (.cons (.var 1) .nil))) (.cons (.call "_law_lo_any" (.cons (.var 0) (.cons (.int 24) .nil))) .nil))) Sa = some (.tup [.tup (one.map .int), .tup (other.map .int)], Sc) := by
    rw [e_tup (esc e2 (esc e3 es0)) (by show 2 ≤ 100000; decide)]
    refine gc_eq (by rw [hc.len, ha.len]) ?_
    show clL Sa.length [D.tup (one.map .int), D.tup (other.map .int)] = true
    exact clL_of fun d hd => by
      rcases List.mem_cons.mp hd with rfl | hd
      · exact cl_ints _
      · rw [List.mem_singleton.mp hd]; exact cl_ints _
  have x2 : ex1 (run T (n + 6)) S.length (.unp [7, 8] (.tup (.cons (.call "_law_lo_any" (.cons (.var 0) (.cons (.var 1) .nil))) (.cons (.call "_law_lo_any" (.cons (.var 0) (.cons (.int 24) .nil))) .nil)))) [some (.ref i), some (.int (m : Int)), none, none, none, none, none, none, none, none, none, none] Sa = some (.nx, [some (.ref i), some (.int (m : Int)), none, none, none, none, none, some (.tup (one.map .int)), some (.tup (other.map .int)), none, none, none], Sc) := by
    rw [x_unp e4]
    rfl
  have x3 := x_pass (φ := run T (n + 6)) (base := S.length) (c := .cons (.ret (.bl false)) .nil) (test1 (n := n + 1) (b := S.length) (S := Sc) (env := [some (.ref i), some (.int (m : Int)), none, none, none, none, none, some (.tup (one.map .int)), some (.tup (other.map .int)), none, none, none]) rfl rfl lone loth)
  have x4 := x_pass (φ := run T (n + 6)) (base := S.length) (c := .cons (.ret (.bl false)) .nil) (test2 (n := n + 1) (b := S.length) (S := Sc) (env := [some (.ref i), some (.int (m : Int)), none, none, none, none, none, some (.tup (one.map .int)), some (.tup (other.map .int)), none, none, none]) rfl rfl lone loth)
  -- lots
  obtain ⟨Ls, Sd, e5, hL, hll, hd⟩ := e_lots35 (b := S.length) (env := [some (.ref i), some (.int (m : Int)), none, none, none, none, none, some (.tup (one.map .int)), some (.tup (other.map .int)), none, none, none]) (n + 4) hc rfl (by omega)
  have x5 := x_set (i := 2) e5
  have hlt : (tupL Ls).length = Ls.length := by rw [tupL, List.length_map]
  obtain ⟨ds, hds⟩ : ∃ ds, ds = tupL Ls := ⟨_, rfl⟩
  rw [← hds] at x5 hlt
  -- pick
  obtain ⟨ks, Se, e6, pw, hk, hkl, hee⟩ := e_pick35 (b := S.length) (ds := ds) (env := [some (.ref i), some (.int (m : Int)), some (.tup ds), none, none, none, none, some (.tup (one.map .int)), some (.tup (other.map .int)), none, none, none]) (n + 4) hd rfl rfl (by omega) (by omega)
  rw [hlt] at hk hkl
  have x6 := x_set (i := 3) e6
  -- told
  have e7 := told35 (n := n) (b := S.length) (S := Se) (Ls := Ls) (ks := ks) (env := [some (.ref i), some (.int (m : Int)), some (.tup ds), some (.tup (ks.map .int)), none, none, none, some (.tup (one.map .int)), some (.tup (other.map .int)), none, none, none]) (by rw [hds]; rfl) rfl hL hll pw hk
  obtain ⟨tl, htl⟩ : ∃ tl, tl = lotI (xorF 0 (pkL Ls ks)) := ⟨_, rfl⟩
  rw [← htl] at e7
  have x7 := x_set (i := 4) e7
  have e8 := ltot35 (n := n + 5) (b := Se.length) (S := Se) (Ls := Ls) (ks := ks) (env := [some (.ref i), some (.int (m : Int)), some (.tup ds), some (.tup (ks.map .int)), some (.tup (tl.map .int)), none, none, some (.tup (one.map .int)), some (.tup (other.map .int)), none, none, none]) rfl (by rw [hds]; rfl) rfl hL (by omega) hk
  rw [← htl] at e8
  have e8' := e_neI (φ := run T (n + 6)) (base := S.length) (S := Se) (a := .var 4) (e_vr (d := .tup (tl.map .int)) rfl) e8
  rw [show (!decide (tl = tl)) = false by simp] at e8'
  have x8 := x_pass (c := .cons (.ret (.bl false)) .nil) e8'
  -- met
  have e9 := mets35 (n := n + 1) (b := S.length) (S := Se) (Ls := Ls) (ks := ks) (ns := one) (env := [some (.ref i), some (.int (m : Int)), some (.tup ds), some (.tup (ks.map .int)), some (.tup (tl.map .int)), none, none, some (.tup (one.map .int)), some (.tup (other.map .int)), none, none, none]) rfl (by rw [hds]; rfl) rfl rfl lone hL (by omega) hk
  have x9 := x_set (i := 5) e9
  obtain ⟨Sf, hSf⟩ : ∃ Sf, Sf = Se ++ [SO.lst ((ks.filter fun k => decide (parN (maskN (Ls.getD k.toNat []) &&& maskN one) = 1)).map .int)] := ⟨_, rfl⟩
  rw [← hSf] at x9
  have hrf : Sf[Se.length]? = some (.lst ((ks.filter fun k => decide (parN (maskN (Ls.getD k.toNat []) &&& maskN one) = 1)).map .int)) := by rw [hSf]; exact at_new
  have e10 := test3 (n := n + 1) (b := S.length) (S := Sf) (Ls := Ls) (ks := ks) (ns := one) (r := Se.length) (env := [some (.ref i), some (.int (m : Int)), some (.tup ds), some (.tup (ks.map .int)), some (.tup (tl.map .int)), some (.ref Se.length), none, some (.tup (one.map .int)), some (.tup (other.map .int)), none, none, none]) (by rw [htl]; rfl) rfl rfl hrf lone hL hk
  have x10 := x_pass (c := .cons (.ret (.bl false)) .nil) e10
  -- near
  have lone' := lot_len lone
  have e11 := test4 (n := n + 1) (b := S.length) (S := Sf) (ns := one) (m := m) (y := .ref i) (env := [some (.ref i), some (.int (m : Int)), some (.tup ds), some (.tup (ks.map .int)), some (.tup (tl.map .int)), some (.ref Se.length), none, some (.tup (one.map .int)), some (.tup (other.map .int)), none, none, none]) rfl rfl rfl rfl lone' hm1 hm
  have x11 := x_pass (c := .cons (.ret (.bl false)) .nil) e11
  obtain ⟨xs, hxs⟩ : ∃ xs : List D, xs = one.map .int := ⟨_, rfl⟩
  have x12 := set35a (n := n + 6) (b := S.length) (S := Sf) (ds := ds) (xs := xs) (env := [some (.ref i), some (.int (m : Int)), some (.tup ds), some (.tup (ks.map .int)), some (.tup (tl.map .int)), some (.ref Se.length), none, some (.tup (one.map .int)), some (.tup (other.map .int)), none, none, none]) rfl (by rw [hxs]; rfl) (by rw [hds]; exact cl_tupL _) (by rw [hxs]; exact cl_ints _) (by omega)
  obtain ⟨l, hl⟩ : ∃ l, l = Sf.length := ⟨_, rfl⟩
  rw [← hl] at x12
  obtain ⟨Sg, hSg⟩ : ∃ Sg, Sg = Sf ++ [SO.lst ds] ++ [.dct []] ++ [.lst (near3 l ds xs)] := ⟨_, rfl⟩
  rw [← hSg] at x12
  have hLg : Sg.length = l + 3 := by rw [hSg, hl]; simp
  have hrg : Sg[l + 2]? = some (.lst (near3 l ds xs)) := by
    have : (Sf ++ [SO.lst ds] ++ [SO.dct []]).length = l + 2 := by rw [hl]; simp
    rw [hSg, ← this]
    exact at_new
  have x13 := set35b (n := n + 6) (b := S.length) (S := Sg) (l := l) (r := l + 2) (v3 := near3 l ds xs) (xs := xs) (env := [some (.ref i), some (.int (m : Int)), some (.tup ds), some (.tup (ks.map .int)), some (.tup (tl.map .int)), some (.ref Se.length), some (.ref (l + 2)), some (.tup (one.map .int)), some (.tup (other.map .int)), none, none, none]) rfl (by rw [hxs]; rfl) (by rw [hxs]; exact cl_ints _) hrg (by show 13 ≤ 100; decide) hLg
  obtain ⟨Sh, hSh⟩ : ∃ Sh, Sh = Sg ++ [SO.lst xs] ++ [.lst (near4 l xs)] ++ [.lst (near3 l ds xs ++ near4 l xs)] := ⟨_, rfl⟩
  rw [← hSh] at x13
  have hrh : Sh[Sg.length + 2]? = some (.lst (near3 l ds xs ++ near4 l xs)) := by
    have : (Sg ++ [SO.lst xs] ++ [SO.lst (near4 l xs)]).length = Sg.length + 2 := by simp
    rw [hSh, ← this]
    exact at_new
  have hr3 : (Sh[l + 3]?).bind SO.seq? = some (one.map .int) := by
    have : Sh[l + 3]? = some (.lst xs) := by
      rw [hSh, List.append_assoc, List.append_assoc, List.getElem?_append_right (by omega), ← hLg, Nat.sub_self]
      rfl
    rw [this, hxs]
    rfl
  have e14 := test5 (n := n + 1) (b := S.length) (S := Sh) (r := Sg.length + 2) (vs := near3 l ds xs ++ near4 l xs) (env := [some (.ref i), some (.int (m : Int)), some (.tup ds), some (.tup (ks.map .int)), some (.tup (tl.map .int)), some (.ref Se.length), some (.ref (Sg.length + 2)), some (.tup (one.map .int)), some (.tup (other.map .int)), none, none, none]) rfl rfl hrh (by show 17 ≤ 100; decide) (by
    rw [hds, hxs]
    exact near34_ok hL lone hr3)
  have hx := (xs_nx x1).trans ((xs_nx x2).trans ((xs_nx x3).trans ((xs_nx x4).trans ((xs_nx x5).trans ((xs_nx x6).trans ((xs_nx x7).trans ((xs_nx x8).trans ((xs_nx x9).trans ((xs_nx x10).trans ((xs_nx x11).trans ((xs_nx x12).trans ((xs_nx x13).trans (xs_ret (ss := .nil) (x_ret e14))))))))))))))
  have hx' : exs (run T (n + 6)) S.length c35 [some (.ref i), none, none, none, none, none, none, none, none, none, none, none] S = some (.ret (.bl true), _, Sh) := hx
  refine ⟨Se, ?_, hee.le (by omega)⟩
  rw [u35, run_ret (φ := run T (n + 6)) (c := ⟨1, 12, c35⟩) (vs := [.ref i]) (S := S) rfl hx']
  have hLS : S.length = Se.length := by rw [h.len, hee.len]
  rw [hLS, hSh, hSg, hSf]
  simp only [List.append_assoc]
  exact gc_blA
end K00
end
section
set_option Elab.async false
set_option linter.all false
set_option autoImplicit false
set_option maxHeartbeats 4000000
namespace K00
open PySem L2 Z
/-! ### the law -/
theorem eqD_conc {S : Sto} {i j : Nat} {xs ys : List D} {ps qs : List PyData} (h1 : (S[i]?).bind SO.seq? = some xs) (h2 : (S[j]?).bind SO.seq? = some ys) (e1 : ∀ f, pyL f xs = some ps) (e2 : ∀ f, pyL f ys = some qs) (s1 : SeqAt.shaped (.list ps) = true) (s2 : SeqAt.shaped (.list qs) = true) : eqD S (.ref i) (.ref j) = some (PyData.eqvAll ps qs) := by
  have f1 : rdS S 8 i = some (.list ps) := by rw [rdS_seq h1, e1]; rfl
  have f2 : rdS S 8 j = some (.list qs) := by rw [rdS_seq h2, e2]; rfl
  unfold eqD py
  simp only [pyD, f1, f2]
  rw [s1, s2]
  rfl
/-- six draws of one cell -/
theorem turns36 (n i : Nat) (s : Int) (x0 x1 x2 x3 : Option D) (ok : Sto → Bool) (hok : ∀ S, ok S = true) (S0 : Sto) (L : Nat) : ∀ (js : List Int) (B : Int) (S : Sto) (z : Option D), At S0 i s B S → B + 1000 * js.length < 2 ^ 29 →
    ∃ (S1 : Sto) (z' : Option D), forF (frS (run T (n + 7)) L (.nm 5) c36_1) ok (js.map .int) [x0, x1, x2, x3, some (.ref i), z] S = some (.nx, [x0, x1, x2, x3, some (.ref i), z'], S1) ∧ At S0 i s (B + 1000 * js.length) S1
  | [], B, S, z, h, hB => ⟨S, z, by rw [List.map_nil, for_nil (hok S)], h.le (by simp)⟩
  | j :: js, B, S, z, h, hB => by
    rw [List.length_cons] at hB
    obtain ⟨S1, e, h1⟩ := f35 n i s B S0 S h (by omega)
    have a1 : evE (run T (n + 7)) L [x0, x1, x2, x3, some (.ref i), some (.int j)] (.call "_law_right" (.cons (.var 4) .nil)) S = some (.bl true, S1) := by
      rw [e_call (esc (e_vr (d := .ref i) rfl) es0), e]
      exact gc_eq (by rw [h1.len, h.len]) rfl
    have a2 : evE (run T (n + 7)) L [x0, x1, x2, x3, some (.ref i), some (.int j)] (.not (.call "_law_right" (.cons (.var 4) .nil))) S = some (.bl false, S1) := by
      rw [evE, a1]
      rfl
    have st : frS (run T (n + 7)) L (.nm 5) c36_1 (.int j) [x0, x1, x2, x3, some (.ref i), z] S = some (.nx, [x0, x1, x2, x3, some (.ref i), some (.int j)], S1) := by
      show exs (run T (n + 7)) L c36_1 [x0, x1, x2, x3, some (.ref i), some (.int j)] S = _
      exact (xs_nx ((x_if (e_T a2)).trans xs_nil)).trans xs_nil
    obtain ⟨S2, z', e2, h2⟩ := turns36 n i s x0 x1 x2 x3 ok hok S0 L js (B + 1000) S1 (some (.int j)) h1 (by omega)
    exact ⟨S2, z', by rw [List.map_cons, for_nx (hok S) st, e2], h2.le (by rw [List.length_cons]; omega)⟩
/-- all cells -/
theorem cells36 (n : Nat) (ns : List Int) (ok : Sto → Bool) (hok : ∀ S, ok S = true) (L : Nat) : ∀ (ks : List Nat) (S : Sto) (z1 z4 z5 : Option D), (∀ k, k ∈ ks → k ≤ 100) → S[0]? = some (.fro (ns.map .int)) →
    ∃ (S1 : Sto) (z1' z4' z5' : Option D), forF (frS (run T (n + 7)) L (.nm 1) c36_2) ok ((ks.map fun k : Nat => (k : Int)).map .int) [some (.ref 0), z1, none, none, z4, z5] S = some (.nx, [some (.ref 0), z1', none, none, z4', z5'], S1) ∧ S1[0]? = some (.fro (ns.map .int))
  | [], S, z1, z4, z5, hk, h0 => ⟨S, z1, z4, z5, by rw [List.map_nil, List.map_nil, for_nil (hok S)], h0⟩
  | k :: ks, S, z1, z4, z5, hk, h0 => by
    have hi0 : itemsOf S (.ref 0) = some (ns.map .int) := by
      show (S[0]?).bind SO.seq? = _
      rw [h0]
      rfl
    have hpos : 0 < S.length := (List.getElem?_eq_some_iff.mp h0).1
    obtain ⟨g, s, e⟩ := f25 (n + 6) 0 ns k S hi0 (hk k List.mem_cons_self)
    have a1 : evE (run T (n + 7)) L [some (.ref 0), some (.int (k : Int)), none, none, z4, z5] (.call "_law_dice" (.cons (.var 0) (.cons (.var 1) .nil))) S = some (.ref S.length, S ++ [.lst [.int g, .int s, .int 0]]) := by
      rw [e_call (esc (e_vr (d := .ref 0) rfl) (esc (e_vr (d := .int (k : Int)) rfl) es0)), e]
      exact gc_new0 rfl
    obtain ⟨S1, hS1⟩ : ∃ S1, S1 = S ++ [SO.lst [.int g, .int s, .int 0]] := ⟨_, rfl⟩
    rw [← hS1] at a1
    have hd : Dice S1 S.length g s 0 := by
      unfold Dice
      rw [hS1]
      exact at_new
    obtain ⟨S2, z', e2, h2⟩ := turns36 n S.length s (some (.ref 0)) (some (.int (k : Int))) none none (fun S2 => still S2 none (((List.range 6).map fun k : Nat => (k : Int)).map .int)) (fun _ => rfl) S1 L ((List.range 6).map fun k : Nat => (k : Int)) 0 S1 z5 (At.start hd (Int.le_refl _)) (by decide)
    have hi : evI (run T (n + 7)) L [some (.ref 0), some (.int (k : Int)), none, none, some (.ref S.length), z5] (.rng1 (.int 6)) S1 = some (((List.range 6).map fun k : Nat => (k : Int)).map .int, none, S1) := by
      rw [evI, e_int]
      have hr : rgOk 6 = true := by decide
      simp only [hr, if_true]
      rfl
    have x2 := (x_for (φ := run T (n + 7)) (base := L) (g := .nm 5) (b := c36_1) hi).trans e2
    have st : frS (run T (n + 7)) L (.nm 1) c36_2 (.int (k : Int)) [some (.ref 0), z1, none, none, z4, z5] S = some (.nx, [some (.ref 0), some (.int (k : Int)), none, none, some (.ref S.length), z'], S2) := by
      show exs (run T (n + 7)) L c36_2 [some (.ref 0), some (.int (k : Int)), none, none, z4, z5] S = _
      exact (xs_nx (x_set (i := 4) a1)).trans ((xs_nx x2).trans xs_nil)
    have h02 : S2[0]? = some (.fro (ns.map .int)) := by
      obtain ⟨⟨g', k', e', _⟩, _⟩ := h2
      rw [e', List.getElem?_set_ne (by omega), hS1, List.getElem?_append_left hpos, h0]
    obtain ⟨S3, w1, w4, w5, e3, h3⟩ := cells36 n ns ok hok L ks S2 (some (.int (k : Int))) (some (.ref S.length)) z' (fun j hj => hk j (List.mem_cons_of_mem _ hj)) h02
    exact ⟨S3, w1, w4, w5, by rw [List.map_cons, List.map_cons, for_nx (hok S) st, e3], h3⟩
section
variable {φ : Phi} {b : Nat} {env : Ev} {S : Sto}
theorem e_iT3 {i j k : Int} : evE φ b env (.tup (.cons (.int i) (.cons (.int j) (.cons (.int k) .nil)))) S = some (.tup ([i, j, k].map .int), S) := e_tupP (esc e_int (esc e_int (esc e_int es0))) (by show 3 ≤ 100000; decide) rfl
theorem e_iT4 {i j k l : Int} : evE φ b env (.tup (.cons (.int i) (.cons (.int j) (.cons (.int k) (.cons (.int l) .nil))))) S = some (.tup ([i, j, k, l].map .int), S) := e_tupP (esc e_int (esc e_int (esc e_int (esc e_int es0)))) (by show 4 ≤ 100000; decide) rfl
theorem e_iT1 {i : Int} : evE φ b env (.tup (.cons (.int i) .nil)) S = some (.tup ([i].map .int), S) := e_i1
theorem e_iT2 {i j : Int} : evE φ b env (.tup (.cons (.int i) (.cons (.int j) .nil))) S = some (.tup ([i, j].map .int), S) := e_i2
theorem e_iT0 : evE φ b env (.tup .nil) S = some (.tup (([] : List Int).map .int), S) := e_t0
end
instance (ns : List Int) : Decidable (Lot ns) := decidable_of_iff (ns.Pairwise (· < ·) ∧ ∀ i, i ∈ ns → 0 ≤ i ∧ i < 24) ⟨fun h => ⟨h.1, h.2⟩, fun h => ⟨h.asc, h.lo⟩⟩
/-- the told sums -/
theorem told36 (n b : Nat) (env : Ev) (S : Sto) : evE (run T (n + 7)) b env (.lst (.cons (.call "lot_sum" (.cons (.tup (.cons (.int 0) (.cons (.int 1) (.cons (.int 3) .nil)))) (.cons (.tup (.cons (.int 0) (.cons (.int 2) (.cons (.int 4) .nil)))) .nil))) (.cons (.call "lot_sum" (.cons (.tup .nil) (.cons (.tup .nil) .nil))) (.cons (.call "sum_of_pick" (.cons (.tup (.cons (.tup (.cons (.int 0) .nil)) (.cons (.tup (.cons (.int 0) (.cons (.int 1) .nil))) (.cons (.tup (.cons (.int 1) .nil)) .nil)))) (.cons (.tup (.cons (.int 0) (.cons (.int 1) (.cons (.int 2) .nil)))) .nil))) (.cons (.call "sum_of_pick" (.cons (.tup .nil) (.cons (.tup .nil) .nil))) .nil))))) S
    = some (.ref S.length, S ++ [.lst [.tup [.int 1, .int 2, .int 3, .int 4], .tup [], .tup [], .tup []]]) := by
  have a1 := e_sum (n := n + 2) (S := S) (env := env) (b := S.length) (ns := [0, 1, 3]) (ms := [0, 2, 4]) (fun b => e_iT3) (fun b => e_iT3) (by decide) (by decide)
  have a2 := e_sum (n := n + 2) (S := S) (env := env) (b := S.length) (ns := []) (ms := []) (fun b => e_iT0) (fun b => e_iT0) lot_nil lot_nil
  have s3 := sop35 (n := n + 1) (S := S) (Ls := [[0], [0, 1], [1]]) (ks := [0, 1, 2]) (by decide) (by decide) (by decide) (by decide)
  have s4 := sop35 (n := n + 1) (S := S) (Ls := []) (ks := []) (by decide) (by decide) List.Pairwise.nil (by decide)
  have a3 : evE (run T (n + 7)) S.length env (.call "sum_of_pick" (.cons (.tup (.cons (.tup (.cons (.int 0) .nil)) (.cons (.tup (.cons (.int 0) (.cons (.int 1) .nil))) (.cons (.tup (.cons (.int 1) .nil)) .nil)))) (.cons (.tup (.cons (.int 0) (.cons (.int 1) (.cons (.int 2) .nil)))) .nil))) S = _ := e_call2 (e_tupP (esc e_iT1 (esc e_iT2 (esc e_iT1 es0))) (by show 3 ≤ 100000; decide) rfl) e_iT3 s3 (cl_ints _)
  have a4 : evE (run T (n + 7)) S.length env (.call "sum_of_pick" (.cons (.tup .nil) (.cons (.tup .nil) .nil))) S = _ := e_call2 e_t0 e_iT0 s4 (cl_ints _)
  have q1 : lotI (maskN [0, 1, 3] ^^^ maskN [0, 2, 4]) = [1, 2, 3, 4] := by decide +kernel
  have q2 : lotI (maskN [] ^^^ maskN []) = [] := by decide +kernel
  have q3 : lotI (xorF 0 (pkL [[0], [0, 1], [1]] [0, 1, 2])) = [] := by decide +kernel
  have q4 : lotI (xorF 0 (pkL [] [])) = [] := by decide +kernel
  rw [q1] at a1
  rw [q2] at a2
  rw [q3] at a3
  rw [q4] at a4
  rw [e_lst (esc a1 (esc a2 (esc a3 (esc a4 es0)))) (by show 4 ≤ 100000; decide)]
  exact gc_new0 rfl
theorem test36 (n b r : Nat) (env : Ev) (S : Sto) (h2 : getV env 2 = some (.ref r)) (hr : S[r]? = some (.lst [.tup [.int 1, .int 2, .int 3, .int 4], .tup [], .tup [], .tup []])) :
    evE (run T (n + 7)) b env (.or (.cmp .NotEq (.var 2) (.lst (.cons (.tup (.cons (.int 1) (.cons (.int 2) (.cons (.int 3) (.cons (.int 4) .nil))))) (.cons (.tup .nil) (.cons (.tup .nil) (.cons (.tup .nil) .nil)))))) (.or (.call "does_meet_oddly" (.cons (.tup (.cons (.int 0) (.cons (.int 1) (.cons (.int 2) .nil)))) (.cons (.tup (.cons (.int 1) (.cons (.int 2) (.cons (.int 5) .nil)))) .nil))) (.not (.call "does_meet_oddly" (.cons (.tup (.cons (.int 23) .nil)) (.cons (.tup (.cons (.int 0) (.cons (.int 23) .nil))) .nil)))))) S = some (.bl false, S) := by
  have hlt : r < S.length := (List.getElem?_eq_some_iff.mp hr).1
  have l1 : evE (run T (n + 7)) S.length env (.lst (.cons (.tup (.cons (.int 1) (.cons (.int 2) (.cons (.int 3) (.cons (.int 4) .nil))))) (.cons (.tup .nil) (.cons (.tup .nil) (.cons (.tup .nil) .nil))))) S = some (.ref S.length, S ++ [.lst [.tup [.int 1, .int 2, .int 3, .int 4], .tup [], .tup [], .tup []]]) := by
    rw [e_lst (esc e_iT4 (esc e_t0 (esc e_t0 (esc e_t0 es0)))) (by show 4 ≤ 100000; decide)]
    exact gc_new0 rfl
  have e : eqD (S ++ [SO.lst [.tup [.int 1, .int 2, .int 3, .int 4], .tup [], .tup [], .tup []]]) (.ref r) (.ref S.length) = some true :=
    eqD_conc (ps := [.tuple [.int 1, .int 2, .int 3, .int 4], .tuple [], .tuple [], .tuple []]) (qs := [.tuple [.int 1, .int 2, .int 3, .int 4], .tuple [], .tuple [], .tuple []]) (by rw [List.getElem?_append_left hlt, hr]; rfl) (by rw [at_new]; rfl) (fun f => rfl) (fun f => rfl) (by decide +kernel) (by decide +kernel)
  have a1 : evE (run T (n + 7)) b env (.cmp .NotEq (.var 2) (.lst (.cons (.tup (.cons (.int 1) (.cons (.int 2) (.cons (.int 3) (.cons (.int 4) .nil))))) (.cons (.tup .nil) (.cons (.tup .nil) (.cons (.tup .nil) .nil)))))) S = some (.bl false, S) := by
    rw [e_cmp (x := .ref r) (S1 := S) (e_vr h2) l1]
    show gc _ (((eqD (S ++ [SO.lst [.tup [.int 1, .int 2, .int 3, .int 4], .tup [], .tup [], .tup []]]) (.ref r) (.ref S.length)).map (!·)).map fun z => (.bl z, S ++ [SO.lst [.tup [.int 1, .int 2, .int 3, .int 4], .tup [], .tup [], .tup []]])) = _
    rw [e]
    exact gc_blA
  have a2 := e_met (n := n + 2) (S := S) (env := env) (b := b) (ns := [0, 1, 2]) (ms := [1, 2, 5]) (fun b => e_iT3) (fun b => e_iT3) (by decide) (by decide)
  have a3 := e_met (n := n + 2) (S := S) (env := env) (b := b) (ns := [23]) (ms := [0, 23]) (fun b => e_iT1) (fun b => e_iT2) (by decide) (by decide)
  have q2 : decide (parN (maskN [0, 1, 2] &&& maskN [1, 2, 5]) = 1) = false := by decide +kernel
  have q3 : decide (parN (maskN [23] &&& maskN [0, 23]) = 1) = true := by decide +kernel
  rw [q2] at a2
  rw [q3] at a3
  rw [e_or a1 fun _ => e_or a2 fun _ => e_not a3]
  rfl
theorem judged36 (n b : Nat) (env : Ev) (S : Sto) : evE (run T (n + 7)) b env (.lst (.cons (.call "is_lot_of" (.cons (.int 3) (.cons (.tup (.cons (.int 0) (.cons (.int 2) .nil))) .nil))) (.cons (.call "is_lot_of" (.cons (.int 3) (.cons (.tup (.cons (.int 0) (.cons (.int 3) .nil))) .nil))) (.cons (.call "is_lot_of" (.cons (.int 24) (.cons (.tup (.cons (.int 23) .nil)) .nil))) (.cons (.call "are_lots" (.cons (.tup (.cons (.tup (.cons (.int 0) .nil)) (.cons (.tup (.cons (.int 0) .nil)) .nil))) .nil)) (.cons (.call "are_lots" (.cons (.tup (.cons (.int 0) (.cons (.int 1) .nil))) .nil)) .nil)))))) S
    = some (.ref S.length, S ++ [.lst [.bl true, .bl false, .bl true, .bl true, .bl false]]) := by
  have j1 : evE (run T (n + 7)) S.length env (.call "is_lot_of" (.cons (.int 3) (.cons (.tup (.cons (.int 0) (.cons (.int 2) .nil))) .nil))) S = some (.bl true, S) := e_call2 e_int e_i2 (f15 (n + 3) 3 (.tup [.int 0, .int 2]) S rfl rfl) rfl
  have j2 : evE (run T (n + 7)) S.length env (.call "is_lot_of" (.cons (.int 3) (.cons (.tup (.cons (.int 0) (.cons (.int 3) .nil))) .nil))) S = some (.bl false, S) := e_call2 e_int e_i2 (f15 (n + 3) 3 (.tup [.int 0, .int 3]) S rfl rfl) rfl
  have j3 : evE (run T (n + 7)) S.length env (.call "is_lot_of" (.cons (.int 24) (.cons (.tup (.cons (.int 23) .nil)) .nil))) S = some (.bl true, S) := e_call2 e_int e_i1 (f15 (n + 3) 24 (.tup [.int 23]) S rfl rfl) rfl
  have j4 : evE (run T (n + 7)) S.length env (.call "are_lots" (.cons (.tup (.cons (.tup (.cons (.int 0) .nil)) (.cons (.tup (.cons (.int 0) .nil)) .nil))) .nil)) S = some (.bl true, S) := e_call1 (e_tupP (esc e_i1 (esc e_i1 es0)) (by show 2 ≤ 100000; decide) rfl) (f16 (n + 3) (.tup [.tup [.int 0], .tup [.int 0]]) S rfl) rfl
  have j5 : evE (run T (n + 7)) S.length env (.call "are_lots" (.cons (.tup (.cons (.int 0) (.cons (.int 1) .nil))) .nil)) S = some (.bl false, S) := e_call1 e_i2 (f16 (n + 3) (.tup [.int 0, .int 1]) S rfl) rfl
  rw [e_lst (esc j1 (esc j2 (esc j3 (esc j4 (esc j5 es0))))) (by show 5 ≤ 100000; decide)]
  exact gc_new0 rfl
theorem last36 (n b r : Nat) (env : Ev) (S : Sto) (h3 : getV env 3 = some (.ref r)) (hr : S[r]? = some (.lst [.bl true, .bl false, .bl true, .bl true, .bl false])) :
    evE (run T (n + 7)) b env (.and (.cmp .Eq (.var 3) (.lst (.cons (.bl true) (.cons (.bl false) (.cons (.bl true) (.cons (.bl true) (.cons (.bl false) .nil))))))) (.cmp .Eq (.tup (.cons (.con 24) (.cons (.con 64) .nil))) (.tup (.cons (.int 24) (.cons (.int 64) .nil))))) S = some (.bl true, S) := by
  have hlt : r < S.length := (List.getElem?_eq_some_iff.mp hr).1
  have l1 : evE (run T (n + 7)) S.length env (.lst (.cons (.bl true) (.cons (.bl false) (.cons (.bl true) (.cons (.bl true) (.cons (.bl false) .nil)))))) S = some (.ref S.length, S ++ [.lst [.bl true, .bl false, .bl true, .bl true, .bl false]]) := by
    rw [e_lst (esc e_bl (esc e_bl (esc e_bl (esc e_bl (esc e_bl es0))))) (by show 5 ≤ 100000; decide)]
    exact gc_new0 rfl
  have e : eqD (S ++ [SO.lst [.bl true, .bl false, .bl true, .bl true, .bl false]]) (.ref r) (.ref S.length) = some true :=
    eqD_conc (ps := [.bool true, .bool false, .bool true, .bool true, .bool false]) (qs := [.bool true, .bool false, .bool true, .bool true, .bool false]) (by rw [List.getElem?_append_left hlt, hr]; rfl) (by rw [at_new]; rfl) (fun f => rfl) (fun f => rfl) (by decide +kernel) (by decide +kernel)
  have a1 : evE (run T (n + 7)) b env (.cmp .Eq (.var 3) (.lst (.cons (.bl true) (.cons (.bl false) (.cons (.bl true) (.cons (.bl true) (.cons (.bl false) .nil))))))) S = some (.bl true, S) := by
    rw [e_cmp (x := .ref r) (S1 := S) (e_vr h3) l1]
    show gc _ ((eqD (S ++ [SO.lst [.bl true, .bl false, .bl true, .bl true, .bl false]]) (.ref r) (.ref S.length)).map fun z => (.bl z, S ++ [SO.lst [.bl true, .bl false, .bl true, .bl true, .bl false]])) = _
    rw [e]
    exact gc_blA
  have t1 : evE (run T (n + 7)) S.length env (.tup (.cons (.con 24) (.cons (.con 64) .nil))) S = some (.tup (([24, 64] : List Int).map .int), S) := e_tupP (esc e_con (esc e_con es0)) (by show 2 ≤ 100000; decide) rfl
  have a2 : evE (run T (n + 7)) b env (.cmp .Eq (.tup (.cons (.con 24) (.cons (.con 64) .nil))) (.tup (.cons (.int 24) (.cons (.int 64) .nil)))) S = some (.bl true, S) := by
    rw [e_cmp t1 e_iT2]
    show gc S.length ((eqD S (.tup (([24, 64] : List Int).map .int)) (.tup (([24, 64] : List Int).map .int))).map fun z => (.bl z, S)) = _
    rw [eqD_ints]
    exact gc_blS
  rw [e_and a1 fun _ => a2]
  rfl
/-- the law holds at every script -/
theorem f36 (n : Nat) (ns : List Int) : ∃ S', run T (n + 8) "law" [.ref 0] [.fro (ns.map .int)] = some (.bl true, S') := by
  obtain ⟨S, hS⟩ : ∃ S : Sto, S = [.fro (ns.map .int)] := ⟨_, rfl⟩
  have h0 : S[0]? = some (.fro (ns.map .int)) := by rw [hS]; rfl
  rw [← hS]
  have hi0 : itemsOf S (.ref 0) = some (ns.map .int) := by
    show (S[0]?).bind SO.seq? = _
    rw [h0]
    rfl
  obtain ⟨c, hc, hc3⟩ : ∃ c : Nat, evE (run T (n + 7)) S.length [some (.ref 0), none, none, none, none, none] (.blt .max2 (.cons (.int 1) (.cons (.blt .min2 (.cons (.int 3) (.cons (.blt .len (.cons (.var 0) .nil)) .nil))) .nil))) S = some (.int (c : Int), S) ∧ c ≤ 3 := by
    have l1 : evE (run T (n + 7)) S.length [some (.ref 0), none, none, none, none, none] (.blt .len (.cons (.var 0) .nil)) S = some (.int (ns.length : Int), S) := by
      rw [e_blt (esc (e_vr (d := .ref 0) rfl) es0)]
      show gc S.length ((itemsOf S (.ref 0)).map fun xs => (.int xs.length, S)) = _
      rw [hi0, Option.map_some, List.length_map]
      exact gc_intS
    have l2 : evE (run T (n + 7)) S.length [some (.ref 0), none, none, none, none, none] (.blt .min2 (.cons (.int 3) (.cons (.blt .len (.cons (.var 0) .nil)) .nil))) S = some (.int (if (ns.length : Int) < 3 then (ns.length : Int) else 3), S) := by
      rw [e_blt (esc e_int (esc l1 es0))]
      exact gc_intS
    have l3 : evE (run T (n + 7)) S.length [some (.ref 0), none, none, none, none, none] (.blt .max2 (.cons (.int 1) (.cons (.blt .min2 (.cons (.int 3) (.cons (.blt .len (.cons (.var 0) .nil)) .nil))) .nil))) S = some (.int (if (if (ns.length : Int) < 3 then (ns.length : Int) else 3) > 1 then (if (ns.length : Int) < 3 then (ns.length : Int) else 3) else 1), S) := by
      rw [e_blt (esc e_int (esc l2 es0))]
      exact gc_intS
    refine ⟨(if (if (ns.length : Int) < 3 then (ns.length : Int) else 3) > 1 then (if (ns.length : Int) < 3 then (ns.length : Int) else 3) else 1).toNat, ?_, ?_⟩
    · rw [l3, Int.toNat_of_nonneg (by split <;> split <;> omega)]
    · split <;> split <;> omega
  have hi : evI (run T (n + 7)) S.length [some (.ref 0), none, none, none, none, none] (.rng1 (.blt .max2 (.cons (.int 1) (.cons (.blt .min2 (.cons (.int 3) (.cons (.blt .len (.cons (.var 0) .nil)) .nil))) .nil)))) S = some (((List.range c).map fun k : Nat => (k : Int)).map .int, none, S) := by
    rw [evI, hc]
    have hr : rgOk (c : Int) = true := by
      unfold rgOk
      rw [decide_eq_true (by omega), decide_eq_true (by omega)]
      rfl
    simp only [hr, if_true, rgI_map, Int.zero_add, Int.toNat_natCast]
  obtain ⟨S1, z1, z4, z5, e1, h1⟩ := cells36 n ns (fun S2 => still S2 none (((List.range c).map fun k : Nat => (k : Int)).map .int)) (fun _ => rfl) S.length (List.range c) S none none none (fun k hk => by have := List.mem_range.mp hk; omega) h0
  have x1 := (x_for (φ := run T (n + 7)) (base := S.length) (g := .nm 1) (b := c36_2) hi).trans e1
  have x2 := x_set (i := 2) (told36 n S.length [some (.ref 0), z1, none, none, z4, z5] S1)
  obtain ⟨S2, hS2⟩ : ∃ S2, S2 = S1 ++ [SO.lst [.tup [.int 1, .int 2, .int 3, .int 4], .tup [], .tup [], .tup []]] := ⟨_, rfl⟩
  rw [← hS2] at x2
  have x3 := x_pass (c := .cons (.ret (.bl false)) .nil) (test36 n S.length S1.length [some (.ref 0), z1, some (.ref S1.length), none, z4, z5] S2 rfl (by rw [hS2]; exact at_new))
  have x4 := x_set (i := 3) (judged36 n S.length [some (.ref 0), z1, some (.ref S1.length), none, z4, z5] S2)
  obtain ⟨S3, hS3⟩ : ∃ S3, S3 = S2 ++ [SO.lst [.bl true, .bl false, .bl true, .bl true, .bl false]] := ⟨_, rfl⟩
  rw [← hS3] at x4
  have e5 := last36 n S.length S2.length [some (.ref 0), z1, some (.ref S1.length), some (.ref S2.length), z4, z5] S3 rfl (by rw [hS3]; exact at_new)
  have hx := (xs_nx x1).trans ((xs_nx x2).trans ((xs_nx x3).trans ((xs_nx x4).trans (xs_ret (ss := .nil) (x_ret e5)))))
  have hx' : exs (run T (n + 7)) S.length c36 [some (.ref 0), none, none, none, none, none] S = some (.ret (.bl true), _, S3) := hx
  refine ⟨S3.take S.length, ?_⟩
  rw [u36, run_ret (φ := run T (n + 7)) (c := ⟨1, 6, c36⟩) (vs := [.ref 0]) (S := S) rfl hx']
  exact gc_cl rfl
theorem k00_law : ∀ ns : List Int, ns.length ≤ 63 → ∃ S', Z.run (Z.txt K00.rs) 40 "law" [.ref 0] [.fro (ns.map .int)] = some (.bl true, S') := fun ns _ => f36 32 ns
end K00
end
section
set_option Elab.async false
set_option linter.all false
set_option maxRecDepth 100000
set_option maxHeartbeats 0
namespace K00
open PySem PySem.Spec PyProof.Rows L2 Z
abbrev R : PySem.W.OpenRow := PySem.W.OpenLaw.row PySem.Challenge.rw_ringtables_k00_whole_sums_of_lots
abbrev hk : PySem.W.Hook := hookL 4 (faOf rs cons) (rs.map toD)
def ob (s : PySem.W.SharedT) : He.AlD := obsL 4 (faOf rs cons) (rs.map toD) (HandSHeadRun.getT s)
theorem ob_eq (s : PySem.W.SharedT) : ob s = hk.obs s.abs := obsL_eq (HandSHeadRun.getT_eq s)
def loose : List PySem.Str := (["is_whole", "is_between", "is_ascending", "mask_of", "lot_of", "parity", "RingError", "InvalidLot", "InvalidOperation", "InvalidNumber", "MOST_LINES", "MOST_LOTS", "is_lot_of", "are_lots", "lot_sum", "does_meet_oddly", "sum_of_pick", "_demand_many", "_demand_lot", "_demand_lots", "_pick_sum", "_law_dice", "_law_roll", "_law_mixed", "_law_lo_sum", "_law_lo_total", "_law_lo_is_odd", "_law_lo_is", "_law_lo_any", "_law_near"] : List PySem.Str) ++ (["_law_are_lots", "_law_right"] : List PySem.Str)
theorem run_top (w : World) : HandSHeadRun.RunEq R (PySem.W.view R.prog [36]) hk ob 3000 loose w := by
  intro os
  kernel_rfl
end K00
open PySem PySem.W PySem.Calls PyProof.Rows
theorem K00.holds (hlaw : ∀ ns : List Int, ns.length ≤ 63 → ∃ S', Z.run (Z.txt K00.rs) 40 "law" [.ref 0] [.fro (ns.map .int)] = some (.bl true, S')) : PySem.Challenge.rw_ringtables_k00_whole_sums_of_lots.Holds := by
  w_on; o_law
  refine HandSHeadRun.head_any (r := OpenLaw.row PySem.Challenge.rw_ringtables_k00_whole_sums_of_lots) (q := view (OpenLaw.row PySem.Challenge.rw_ringtables_k00_whole_sums_of_lots).prog [36]) (H := K00.hk) (ob := K00.ob) (M := 3000) (loose := K00.loose) (d := HandSHeadRun.topDef (OpenLaw.row PySem.Challenge.rw_ringtables_k00_whole_sums_of_lots).prog 36) (kwd := []) K00.ob_eq
    (by kernel_rfl) (fun s => by kernel_rfl) K00.run_top (by kernel_rfl) (by kernel_rfl) (by kernel_rfl) (by rfl) (by first | assumption | decide +kernel) (by decide +kernel) ⟨rfl, rfl, rfl, rfl, rfl, by decide +kernel⟩ ?hw ?hc
  case hw => w_witness2
  case hc =>
    refine L2.walk_ofE (l := PySem.Challenge.rw_ringtables_k00_whole_sums_of_lots) (n := 63) (k := 40) (x := "script") (CX := L2.CX0) rfl (by decide) (by kernel_rfl) ⟨rfl, by decide, by decide⟩ ?F (fun _ _ _ _ z => z)
    intro w mg fa h Y G hmg0
    obtain ⟨K, KX, c, hno⟩ := Y
    have hmg : mg ("law" : PySem.Str) = some (.ref fa) := by
      have e : (HandSHeadRun.topDef (OpenLaw.row PySem.Challenge.rw_ringtables_k00_whole_sums_of_lots).prog 36).name = ("law" : PySem.Str) := by kernel_rfl
      rw [← e]
      exact hmg0
    exact Z.law_fin (r := K00.r36) K00.names K00.binds K00.checked (by simp [K00.rs]) rfl hlaw KX c hno G hmg
end
set_option maxRecDepth 100000 in
set_option maxHeartbeats 8000000 in
theorem PySem.Challenge.cw_ringtables_k00_whole_sums_of_lots_holds : PySem.Challenge.rw_ringtables_k00_whole_sums_of_lots.Holds :=
  K00.holds K00.k00_law
