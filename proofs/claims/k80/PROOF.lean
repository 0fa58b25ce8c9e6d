import PyProof.Rows.All
import Wide.All
import OpenK.AllK
import Wide.FinOn
import Lean
import PyProof.EqAt
import PyProof.EqKinds
import PyProof.TupleCall
import KE.KRevIter
import PyProof.ListRange
import PyProof.TupleOfGen
import PyProof.Draws
import PyProof.EnumMake
import PyProof.EnumFor
import PyProof.NeKinds
import KE.KDictList
import PyProof.Rows.TupDisplay
import PyProof.ZipIter
import PyProof.Rows.ZipGen
import KE.KItemsList
import PyProof.Rows.SumAny
import PyProof.StrWalks
import PyProof.StrCalls
import PyProof.StrCalls3
import PyProof.StrLawsFirst
import PyProof.StrLawsIn
import PyProof.SliceStr2
import PyProof.StrBlockI
import PyProof.Rows.StrWeight2
import PyProof.ListNew
import PyProof.DictRoadsH
import PyProof.WalkInts
import PyProof.Rows.MinMaxN
import KE.KDictLaws
import PyProof.StrCalls2
import PyProof.StrLawsChain
import KE.KIntText
import KE.KxText
import KE.KMinKey
import KE.KPairComp
import PyProof.MaxThree
import PyProof.DictValues
import OpenK.KCls
import PyProof.Rows.SortShellK
import KE.KSortTup
import KE.KLam
import KE.KNestM
import PyProof.AttrMissHeap
import KE.KDictOf
import PyProof.TupleKey
import PyProof.SetKind
import PyProof.IsRules
import PyProof.Rows.SetFrom
import PySem.Challenge.RW_guessroom_k80_whole_shortest_rows
set_option Elab.async false
set_option linter.all false
set_option maxRecDepth 100000
namespace L2
open PySem PySem.Spec PyProof.Rows
abbrev Key := Sum Int Str
def keyIs : Key -> Value -> Bool
  | .inl k, v => Value.isInt k v
  | .inr x, v => Value.isStrOf x v
def keyH (w : World) : Key -> Int
  | .inl k => hashInt k
  | .inr x => hashStr w x
theorem keyIs_shape : ∀ {k : Key} {v : Value}, keyIs k v = true -> (∃ i t, k = Sum.inl i /\ v = Value.int i t) \/ (∃ x t, k = Sum.inr x /\ v = Value.str x t)
  | .inl i, v, h => by
    obtain ⟨t, e⟩ := Value.isInt_shape (k := i) (v := v) h
    exact .inl ⟨i, t, rfl, e⟩
  | .inr x, v, h => by
    obtain ⟨t, e⟩ := Value.isStrOf_shape (x := x) (v := v) h
    exact .inr ⟨x, t, rfl, e⟩
theorem keyIs_int (i : Int) (t : Tok) : keyIs (.inl i) (.int i t) = true := by simp [keyIs, Value.isInt]
theorem keyIs_str (x : Str) (t : Tok) : keyIs (.inr x) (.str x t) = true := by simp [keyIs, Value.isStrOf]
theorem key_ll (a b : Int) : decide ((Sum.inl a : Key) = Sum.inl b) = (a == b) := by
  by_cases e : a = b
  . subst e; simp
  . have h : ¬ (Sum.inl a : Key) = Sum.inl b := fun q => e (Sum.inl.inj q)
    rw [decide_eq_false h]
    exact (beq_eq_false_iff_ne.mpr e).symm
theorem key_rr (a b : Str) : decide ((Sum.inr a : Key) = Sum.inr b) = decide (a = b) := by
  by_cases e : a = b
  . subst e; simp
  . have h : ¬ (Sum.inr a : Key) = Sum.inr b := fun q => e (Sum.inr.inj q)
    rw [decide_eq_false h, decide_eq_false e]
theorem key_lr (a : Int) (b : Str) : decide ((Sum.inl a : Key) = Sum.inr b) = false := decide_eq_false (fun q => nomatch q)
theorem key_rl (a : Str) (b : Int) : decide ((Sum.inr a : Key) = Sum.inl b) = false := decide_eq_false (fun q => nomatch q)
def mixKind (prog : Program) (w : World) : PySem.KeyKind prog w Key where
  is := keyIs
  hash := keyH w
  inj := fun v a b ha hb => by
    rcases keyIs_shape ha with ⟨i, t, rfl, rfl⟩ | ⟨x, t, rfl, rfl⟩
    . rcases keyIs_shape hb with ⟨j, u, rfl, e⟩ | ⟨y, u, rfl, e⟩
      . injection e with e1 _; rw [e1]
      . exact nomatch e
    . rcases keyIs_shape hb with ⟨j, u, rfl, e⟩ | ⟨y, u, rfl, e⟩
      . exact nomatch e
      . injection e with e1 _; rw [e1]
  byValue := fun k v h => by
    rcases keyIs_shape h with ⟨i, t, rfl, rfl⟩ | ⟨x, t, rfl, rfl⟩ <;> rfl
  pyHash := fun hv h => by
    rcases keyIs_shape hv with ⟨i, t, rfl, rfl⟩ | ⟨x, t, rfl, rfl⟩
    . exact wpAny_pyHash_int h
    . exact wpAny_pyHash_str h
  eqBool := fun hu hv h => by
    rcases keyIs_shape hu with ⟨i, t, rfl, rfl⟩ | ⟨x, t, rfl, rfl⟩
    . rcases keyIs_shape hv with ⟨j, u, rfl, rfl⟩ | ⟨y, u, rfl, rfl⟩
      . rw [key_ll] at h; exact wpAny_eqBool_int h
      . rw [key_lr] at h; exact SeqAt.EqAt.int_str i t y u _ _ _ _ h
    . rcases keyIs_shape hv with ⟨j, u, rfl, rfl⟩ | ⟨y, u, rfl, rfl⟩
      . rw [key_rl] at h; exact SeqAt.EqAt.str_int x t j u _ _ _ _ h
      . rw [key_rr] at h; exact wpAny_eqBool_str h
  «strs» := fun k x t v h => by
    rcases keyIs_shape h with ⟨i, u, rfl, e⟩ | ⟨y, u, rfl, e⟩
    . exact nomatch e
    . injection e with e1 _
      subst e1
      cases v <;> rfl
theorem mixKind_int (prog : Program) (w : World) (i : Int) (t : Tok) : (mixKind prog w).is (.inl i) (.int i t) = true := keyIs_int i t
theorem mixKind_str (prog : Program) (w : World) (x : Str) (t : Tok) : (mixKind prog w).is (.inr x) (.str x t) = true := keyIs_str x t
end L2
namespace L2
open PySem PySem.Spec PyProof.Rows
inductive V where
  | non | bl (b : Bool) | int (i : Int) | str (x : Str) | byt (b : Array UInt8) | flt (b : UInt64) | ref (a : Addr) | ty (n : String)
  deriving DecidableEq
def RelV : V -> Value -> Prop
  | .non, u => u = Value.none
  | .bl b, u => u = Value.bool b
  | .int i, u => ∃ t, u = Value.int i t
  | .str x, u => ∃ t, u = Value.str x t
  | .byt b, u => ∃ t, u = Value.bytes b t
  | .flt b, u => ∃ t, u = Value.float b t
  | .ref a, u => u = Value.ref a
  | .ty n, u => u = Value.type n
abbrev Vals : List V -> List Value -> Prop := Paired RelV
theorem Vals.length {xs : List V} {us : List Value} (r : Vals xs us) : xs.length = us.length := Paired.length r
theorem Vals.get : ∀ {xs : List V} {us : List Value} {i : Nat} {x : V}, Vals xs us -> xs[i]? = some x -> ∃ u, us[i]? = some u /\ RelV x u
  | _, _, _, _, .nil, e => by simp at e
  | _, _, 0, _, .cons r _, e => by simp at e; subst e; exact ⟨_, rfl, r⟩
  | _, _, i + 1, x, .cons _ t, e => by
    obtain ⟨u, h1, h2⟩ := Vals.get (i := i) (x := x) t (by simpa using e)
    exact ⟨u, by simpa using h1, h2⟩
theorem Vals.append : ∀ {xs ys : List V} {us ws : List Value}, Vals xs us -> Vals ys ws -> Vals (xs ++ ys) (us ++ ws)
  | _, _, _, _, .nil, s => s
  | _, _, _, _, .cons r t, s => .cons r (Vals.append t s)
theorem Vals.take : ∀ {xs : List V} {us : List Value} (n : Nat), Vals xs us -> Vals (xs.take n) (us.take n)
  | _, _, 0, _ => .nil
  | _, _, _ + 1, .nil => .nil
  | _, _, n + 1, .cons r t => .cons r (Vals.take n t)
theorem Vals.drop : ∀ {xs : List V} {us : List Value} (n : Nat), Vals xs us -> Vals (xs.drop n) (us.drop n)
  | _, _, 0, r => r
  | _, _, _ + 1, .nil => .nil
  | _, _, n + 1, .cons _ t => Vals.drop n t
def RelO : Option V -> Option Value -> Prop
  | some v, some u => RelV v u
  | none, none => True
  | _, _ => False
def KV {κ : Type} : List (κ × V) -> List (κ × Value) -> Prop := Paired fun (p : κ × V) (q : κ × Value) => p.1 = q.1 /\ RelV p.2 q.2
def kV : Key -> V
  | .inl i => .int i
  | .inr x => .str x
inductive HO where
  /-- a list -/
  | lst (xs : List V)
  /-- a tuple (never changes) -/
  | tup (xs : List V)
  /-- a dict whose keys are ints and texts; one whose keys are tuples of ints and texts (the empty one is both) -/
  | dK (kvs : List (Key × V)) | dT (kvs : List (List Key × V))
  /-- a set of ints: its members, its size -/
  | set (S : Int -> Bool) (n : Nat)
  /-- an instance of the class at C, its dict at dx, its attributes -/
  | ins (C dx : Addr) (fs : List (Str × V))
  /-- the dict of the instance at x -/
  | own (x : Addr)
  /-- the dict of an exception -/
  | xd (fs : List (Str × V))
  /-- a bound method, f of x -/
  | met (f x : Addr)
  /-- a range object lo, lo + 1, .. below hi -/
  | rng (lo hi : Int)
  /-- a thing that is known to the object (the script; a dict while a loop walks it): read, never written while it is so -/
  | frz (o : Obj) (u : HO)
  /-- a code object's table -/
  | tbl (ps : Array Value)
  /-- any other thing, by what is true of its one object (a def of one's own: SetO a S n := HO.ext fun h => ..) -/
  | ext (φ : Heap -> Prop)
abbrev Hp := Addr -> Option HO
def upd (H : Hp) (a : Addr) (o : HO) : Hp := fun b => if b = a then some o else H b
theorem upd_same {H : Hp} {a : Addr} {o : HO} : upd H a o a = some o := by unfold upd; rw [if_pos rfl]
theorem upd_ne {H : Hp} {a b : Addr} {o : HO} (h : b ≠ a) : upd H a o b = H b := by unfold upd; rw [if_neg h]
theorem ne_of {H : Hp} {a b : Addr} {o u : HO} (h : H a = some o) (h' : H b = some u) (d : o ≠ u) : a ≠ b := by
  intro e; subst e; rw [h] at h'; exact d (Option.some.inj h')
theorem ne_of_none {H : Hp} {a b : Addr} {o : HO} (h : H a = some o) (h' : H b = none) : a ≠ b := by
  intro e; subst e; rw [h] at h'; cases h'
section
variable (P : Program) (w : World)
def ObjOk (H : Hp) (h : Heap) (a : Addr) : HO -> Prop
  | .lst xs => xs.length <= sizeLine /\ ∃ (its : List Value) (n : Nat), Vals xs its /\ h.get? a = some { cls := .type "list", data := .seq its.toArray n }
  | .tup xs => xs.length <= sizeLine /\ ∃ its : List Value, Vals xs its /\ IsTup h a its.toArray
  | .dK kvs => kvs.length <= sizeLine /\ (a == sysModules) = false /\ ∃ vs, KV kvs vs /\ h.DictOf (mixKind P w) a vs
  | .dT kvs => kvs.length <= sizeLine /\ (a == sysModules) = false /\ ∃ xs : List (List Key × Addr × Value),
      Paired (fun (p : List Key × V) (q : List Key × Addr × Value) => p.1 = q.1 /\ H q.2.1 = some (.tup (p.1.map kV)) /\ RelV p.2 q.2.2) kvs xs /\
      ∃ o es ep, h.get? a = some o /\ o.ExactDict /\ o.data = .dict es ep /\ es.toList = xs.map (entryOfKey (tupleKind (mixKind P w))) /\ (xs.map (·.1)).Nodup
  | .set S n => h.SetOf (intKind P w) a S n
  | .ins C dx fs => H dx = some (.own a) /\ fs.length <= 1000 /\ dx ≠ a /\ h.get? a = some (PySem.W.instObj C dx) /\
      ∃ mA, h.Ns1 dx mA /\ (∀ f, RelO (fs.lookup f) (mA f)) /\ PySem.Within mA (fs.map (·.1))
  | .own _ => ∃ o, h.get? a = some o
  | .xd fs => ∃ mA, h.Ns1 a mA /\ ∀ f, RelO (fs.lookup f) (mA f)
  | .rng lo hi => ∃ t u v, h.get? a = some { cls := .type "range", data := .fields #[.int lo t, .int hi u, .int 1 v] }
  | .frz o u => h.get? a = some o /\ ObjOk H h a u
  | .tbl ps => h.get? a = some { cls := .none, data := .fields ps }
  | .met f x => h.get? a = some (PySem.W.methodObj (.ref f) (.ref x))
  | .ext φ => φ h /\ (∃ o, h.get? a = some o) /\ ∀ h1 h2 : Heap, φ h1 -> (∀ o, h1.get? a = some o -> h2.get? a = some o) -> φ h2
def HOk (H : Hp) (h : Heap) : Prop := ∀ a o, H a = some o -> ObjOk P w H h a o
end
section
variable {P : Program} {w : World} {H H' : Hp} {h h' : Heap} {a : Addr} {o : HO}
theorem ObjOk.lt (x : ObjOk P w H h a o) : a < h.objs.size := by
  cases o with
  | lst xs => obtain ⟨_, _, _, _, e⟩ := x; exact Heap.lt_size e
  | tup xs => obtain ⟨_, _, _, p⟩ := x; exact p.lt
  | dK kvs => obtain ⟨_, _, _, _, o, _, _, e, _⟩ := x; exact Heap.lt_size e
  | dT kvs => obtain ⟨_, _, _, _, o, _, _, e, _⟩ := x; exact Heap.lt_size e
  | set S n => obtain ⟨o, _, _, _, e, _⟩ := x; exact Heap.lt_size e
  | ins C dx fs => obtain ⟨_, _, _, e, _⟩ := x; exact Heap.lt_size e
  | own y => obtain ⟨_, e⟩ := x; exact Heap.lt_size e
  | xd fs => obtain ⟨_, ⟨_, _, _, e, _⟩, _⟩ := x; exact Heap.lt_size e
  | rng lo hi => obtain ⟨_, _, _, e⟩ := x; exact Heap.lt_size e
  | frz ob u => obtain ⟨e, _⟩ := x; exact Heap.lt_size e
  | tbl ps => exact Heap.lt_size (show h.get? a = some _ from x)
  | met f y => exact Heap.lt_size (show h.get? a = some _ from x)
  | ext φ => obtain ⟨_, ⟨_, e⟩, _⟩ := x; exact Heap.lt_size e
theorem Paired.mapP {α β : Type} {F G : α -> β -> Prop} : ∀ {l₁ : List α} {l₂ : List β}, Paired F l₁ l₂ -> (∀ a b, F a b -> G a b) -> Paired G l₁ l₂
  | _, _, .nil, _ => .nil
  | _, _, .cons r t, f => .cons (f _ _ r) (Paired.mapP t f)
theorem ObjOk.stay (x : ObjOk P w H h a o) (k : ∀ b u, (b = a \/ H b = some (.own a)) -> h.get? b = some u -> h'.get? b = some u)
    (ho : ∀ b, H b = some (.own a) -> H' b = some (.own a)) (ht : ∀ b xs, H b = some (.tup xs) -> H' b = some (.tup xs)) : ObjOk P w H' h' a o := by
  induction o with
  | lst xs => obtain ⟨z, its, n, r, e⟩ := x; exact ⟨z, its, n, r, k _ _ (.inl rfl) e⟩
  | tup xs => obtain ⟨z, its, r, ob, e, c⟩ := x; exact ⟨z, its, r, ob, k _ _ (.inl rfl) e, c⟩
  | dK kvs => obtain ⟨z, y, vs, r, ob, es, ep, e, c⟩ := x; exact ⟨z, y, vs, r, ob, es, ep, k _ _ (.inl rfl) e, c⟩
  | dT kvs =>
    obtain ⟨z, y, xs, r, ob, es, ep, e, c⟩ := x
    exact ⟨z, y, xs, Paired.mapP r fun p q z => ⟨z.1, ht _ _ z.2.1, z.2.2⟩, ob, es, ep, k _ _ (.inl rfl) e, c⟩
  | set S n => obtain ⟨ob, es, ep, t, e, c⟩ := x; exact ⟨ob, es, ep, t, k _ _ (.inl rfl) e, c⟩
  | ins C dx fs =>
    obtain ⟨d, z, ne, e, mA, ⟨od, es, ep, e2, c⟩, r⟩ := x
    exact ⟨ho _ d, z, ne, k _ _ (.inl rfl) e, mA, ⟨od, es, ep, k _ _ (.inr d) e2, c⟩, r⟩
  | own y => obtain ⟨ob, e⟩ := x; exact ⟨ob, k _ _ (.inl rfl) e⟩
  | xd fs => obtain ⟨mA, ⟨od, es, ep, e, c⟩, r⟩ := x; exact ⟨mA, ⟨od, es, ep, k _ _ (.inl rfl) e, c⟩, r⟩
  | rng lo hi => obtain ⟨t, u, v, e⟩ := x; exact ⟨t, u, v, k _ _ (.inl rfl) e⟩
  | frz ob u ih => obtain ⟨e, q⟩ := x; exact ⟨k _ _ (.inl rfl) e, ih q⟩
  | tbl ps =>
    have e : h.get? a = some { cls := .none, data := .fields ps } := x
    show h'.get? a = some { cls := .none, data := .fields ps }
    exact k a _ (.inl rfl) e
  | met f y =>
    have e : h.get? a = some (PySem.W.methodObj (.ref f) (.ref y)) := x
    show h'.get? a = some (PySem.W.methodObj (.ref f) (.ref y))
    exact k a _ (.inl rfl) e
  | ext φ => obtain ⟨p, ⟨o, e⟩, st⟩ := x; exact ⟨st _ _ p fun o q => k _ _ (.inl rfl) q, ⟨o, k _ _ (.inl rfl) e⟩, st⟩
theorem HOk.lt (x : HOk P w H h) (e : H a = some o) : a < h.objs.size := (x a o e).lt
theorem HOk.fresh (x : HOk P w H h) (e : h.objs.size <= a) : H a = none := by
  cases q : H a with
  | none => rfl
  | some u => exact absurd (Nat.lt_of_lt_of_le (x.lt q) e) (Nat.lt_irrefl _)
theorem HOk.kept (x : HOk P w H h) (k : ∀ b u, h.get? b = some u -> h'.get? b = some u) : HOk P w H h' := fun a o e =>
  (x a o e).stay (fun b u _ q => k b u q) (fun _ q => q) fun _ _ q => q
theorem HOk.laid (x : HOk P w H h) (k : ∀ b u, h.get? b = some u -> h'.get? b = some u) (hp : h.objs.size <= a) (new : ObjOk P w (upd H a o) h' a o) : HOk P w (upd H a o) h' := fun b u e => by
  have hn := x.fresh hp
  by_cases hb : b = a
  . subst hb; rw [upd_same] at e; cases e; exact new
  . rw [upd_ne hb] at e
    exact (x b u e).stay (fun c v _ q => k c v q) (fun c q => by rw [upd_ne (ne_of_none q hn)]; exact q) fun c xs q => by rw [upd_ne (ne_of_none q hn)]; exact q
end
def Rd (H : Hp) (a : Addr) (u : HO) : Prop := H a = some u \/ ∃ o, H a = some (.frz o u)
theorem Rd.ok {P : Program} {w : World} {H : Hp} {h : Heap} {a : Addr} {u : HO} (r : Rd H a u) (x : HOk P w H h) : ObjOk P w H h a u := by
  rcases r with r | ⟨o, r⟩
  . exact x a u r
  . obtain ⟨_, q⟩ := x a _ r
    exact q
def Mut : Option HO -> Prop
  | some (.lst _) => True
  | some (.dK _) => True
  | some (.dT _) => True
  | some (.set _ _) => True
  | some (.ins _ _ _) => True
  | some (.ext _) => True
  | _ => False
section
variable {P : Program} {w : World} {H : Hp} {h h' : Heap} {x e : Addr} {o' : HO}
theorem HOk.write (ok : HOk P w H h) (mu : Mut (H x)) (he : e = x \/ H e = some (.own x)) (k : ∀ b u, b ≠ e -> h.get? b = some u -> h'.get? b = some u) (heo : ∃ u, h'.get? e = some u)
    (new : ObjOk P w (upd H x o') h' x o') : HOk P w (upd H x o') h' := fun b u q => by
  have nown : ∀ c y, H c = some (.own y) -> c ≠ x := fun c y r z => by subst z; rw [r] at mu; exact mu
  have ntup : ∀ c xs, H c = some (.tup xs) -> c ≠ x := fun c xs r z => by subst z; rw [r] at mu; exact mu
  by_cases hb : b = x
  . subst hb; rw [upd_same] at q; cases q; exact new
  . rw [upd_ne hb] at q
    by_cases hbe : b = e
    . have q' : H b = some (.own x) := by
        rcases he with z | z
        . exact absurd (hbe.trans z) hb
        . rw [hbe]; exact z
      rw [q] at q'; cases q'
      obtain ⟨v, hv⟩ := heo
      exact ⟨v, by rw [hbe]; exact hv⟩
    . refine (ok b u q).stay (fun c v hc r => k c v ?_ r) (fun c r => by rw [upd_ne (nown c b r)]; exact r) fun c xs r => by rw [upd_ne (ntup c xs r)]; exact r
      rcases hc with rfl | hc
      . exact hbe
      . rintro rfl
        rcases he with z | z
        . exact nown c b hc z
        . rw [hc] at z; cases z; exact hb rfl
end
structure Un (fs ex : List Addr) (H H' : Hp) (h h' : Heap) : Prop where
  keep : ∀ b o, h.get? b = some o -> H b = none -> b ∉ fs -> b ∉ ex -> h'.get? b = some o
  slot : ∀ b o, h.get? b = some o -> H b = none -> b ∈ fs -> b ∉ ex -> ∃ sl, h'.get? b = some { o with slots := sl }
  free : ∀ b o, h.get? b = some o -> H b = none -> b ∉ ex -> H' b = none
  there : ∀ b o, h.get? b = some o -> b ∉ ex -> ∃ o', h'.get? b = some o'
  tups : ∀ b xs, H b = some (.tup xs) -> H' b = some (.tup xs)
  frzs : ∀ b o u, H b = some (.frz o u) -> H' b = some (.frz o u)
  tbls : ∀ b ps, H b = some (.tbl ps) -> ∃ more, H' b = some (.tbl (ps ++ more))
section
variable {fs fs' ex ex' : List Addr} {H H1 H2 : Hp} {h h1 h2 h' : Heap} {a x e : Addr} {o : HO}
theorem Un.any (u : Un fs ex H H1 h h1) {b : Addr} {ob : Obj} (q : h.get? b = some ob) (n : H b = none) (hx : b ∉ ex) : ∃ sl, h1.get? b = some { ob with slots := sl } := by
  by_cases hb : b ∈ fs
  . exact u.slot b ob q n hb hx
  . exact ⟨ob.slots, u.keep b ob q n hb hx⟩
theorem Un.kept (k : ∀ b u, h.get? b = some u -> h'.get? b = some u) : Un fs ex H H h h' :=
  ⟨fun b ob q _ _ _ => k b ob q, fun b ob q _ _ _ => ⟨ob.slots, k b ob q⟩, fun _ _ _ n _ => n, fun b ob q _ => ⟨ob, k b ob q⟩, fun _ _ q => q, fun _ _ _ q => q, fun _ ps q => ⟨#[], by rw [q]; simp⟩⟩
theorem Un.refl : Un fs ex H H h h := Un.kept fun _ _ q => q
theorem Un.laid (k : ∀ b u, h.get? b = some u -> h'.get? b = some u) (hp : h.objs.size <= a) (hn : H a = none) : Un fs ex H (upd H a o) h h' where
  keep := fun b u q _ _ _ => k b u q
  slot := fun b u q _ _ _ => ⟨u.slots, k b u q⟩
  free := fun b u q n _ => by rw [upd_ne (Nat.ne_of_lt (Nat.lt_of_lt_of_le (Heap.lt_size q) hp))]; exact n
  there := fun b u q _ => ⟨u, k b u q⟩
  tups := fun b xs q => by rw [upd_ne (ne_of_none q hn)]; exact q
  frzs := fun b u xs q => by rw [upd_ne (ne_of_none q hn)]; exact q
  tbls := fun b ps q => ⟨#[], by rw [upd_ne (ne_of_none q hn), q]; simp⟩
theorem Un.write (mu : Mut (H x)) (he : e = x \/ H e = some (.own x)) (k : ∀ b u, b ≠ e -> h.get? b = some u -> h'.get? b = some u) (heo : ∃ u, h'.get? e = some u) : Un fs ex H (upd H x o) h h' := by
  have hx : ∀ b, H b = none -> b ≠ x := fun b n z => by subst z; rw [n] at mu; exact mu
  have hb : ∀ b, H b = none -> b ≠ e := fun b n z => by
    subst z
    rcases he with r | r
    . exact hx b n r
    . rw [n] at r; cases r
  have hm : ∀ b u, H b = some u -> ¬ Mut (some u) -> b ≠ x := fun b u q nm z => by subst z; rw [q] at mu; exact nm mu
  refine ⟨fun b u q n _ _ => k b u (hb b n) q, fun b u q n _ _ => ⟨u.slots, k b u (hb b n) q⟩, fun b u q n _ => by rw [upd_ne (hx b n)]; exact n, fun b u q _ => ?_,
    fun b xs q => by rw [upd_ne (hm b _ q fun z => z)]; exact q, fun b u xs q => by rw [upd_ne (hm b _ q fun z => z)]; exact q, fun b ps q => ⟨#[], by rw [upd_ne (hm b _ q fun z => z), q]; simp⟩⟩
  by_cases hbe : b = e
  . subst hbe; exact heo
  . exact ⟨u, k b u hbe q⟩
end
def trk (h : Heap) (H : Hp) : List Addr := (List.range h.objs.size).filter fun a => (H a).isSome
def hidT (h : Heap) (H : Hp) : Heap := PySem.W.hideAll h (trk h H)
theorem hidT_size (h : Heap) (H : Hp) : (hidT h H).objs.size = h.objs.size := PySem.W.hideAll_size _ _
theorem hidT_get {h : Heap} {H : Hp} {b : Addr} {o : Obj} (e : h.get? b = some o) (n : H b = none) : (hidT h H).get? b = some o :=
  PySem.W.hideAll_get _ e fun hm => by
    have q : (H b).isSome = true := (List.mem_filter.mp hm).2
    rw [n] at q; simp at q
theorem of_hidT {h : Heap} {H : Hp} {b : Addr} {o : Obj} (e : (hidT h H).get? b = some o) : h.get? b = some o /\ H b = none := by
  have e' : h.get? b = some o := PySem.W.of_hideAll (trk h H) e
  refine ⟨e', ?_⟩
  cases q : H b with
  | none => rfl
  | some x =>
    have hm : b ∈ trk h H := List.mem_filter.mpr ⟨List.mem_range.mpr (Heap.lt_size e'), by simp [q]⟩
    have z : (hidT h H).get? b = none := PySem.W.hideAll_none (trk h H) hm
    rw [z] at e; cases e
def allNews (g h : Heap) (L : Addr) : List (Addr × Obj) := (List.range h.objs.size).filterMap fun a => if a = L \/ (g.get? a).isSome = true then none else (h.get? a).map fun o => (a, o)
def rest (g h : Heap) (L d : Addr) : List (Addr × Obj) := (allNews g h L).filter fun p => decide (p.1 ≠ d)
end L2
namespace L2
open PySem PySem.Spec PyProof.Rows
structure Mod (K : PySem.W.Frag) (mg : Str -> Option Value) (base : Heap) : Prop where
  kin : K.In base
  glob : base.Ns mainGlobals mg
  blt : ∃ mb, base.Ns builtinsNs mb /\ ∀ x : Str, x ≠ "__name__" -> mb x = bootBuiltins x
  nolimit : base.NoLimit
structure Cx where
  prog : Program
  w : World
  K : PySem.W.Frag
  mg : Str -> Option Value
  base : Heap
  A : Around
  N : List Str
  s₀ : Shared
  H₀ : Hp
  env : Env
  outer : List Env
  stack : List Env
  ex : List Addr
  fn : Str -> Bool
  calm : Bool
  pn : List (Addr × Obj)
  xe : Value -> Shared -> Prop
def frs (l : List Env) : List Addr := l.filterMap (·.frame)
abbrev Cx.fs (X : Cx) : List Addr := frs X.outer
def Vis (sc : Scope) (x : Str) : Prop := sc.names.lookup x = some .local \/ sc.names.lookup x = some .cell \/ sc.names.lookup x = some .free
def Loc (sc : Scope) (x : Str) : Prop := sc.names.lookup x = some .local \/ sc.names.lookup x = some .cell
def Look (env : Env) (h : Heap) (m : Str -> Option Value) (x : Str) (u : Value) : Prop :=
  (env.kindOf x = some .local /\ m x = some u) \/ ((env.kindOf x = some .cell \/ env.kindOf x = some .free) /\ ∃ c, env.cells.lookup x = some c /\ h.IsCell c (some u))
structure Cx.Ok (X : Cx) : Prop where
  mod : Mod X.K X.mg X.base
  kind : X.env.scope.kind = .function
  glob : X.env.globals = mainGlobals
  blt : X.env.builtins = builtinsNs
  above : X.s₀.heap.objs.size <= X.env.locals
  inj : ∀ x y c, X.env.cells.lookup x = some c -> X.env.cells.lookup y = some c -> x = y
  has : ∀ x, (X.env.kindOf x = some .cell \/ X.env.kindOf x = some .free) -> ∃ c, X.env.cells.lookup x = some c
  cab : ∀ x c, X.fn x = true -> X.env.cells.lookup x = some c -> X.s₀.heap.objs.size <= c
  hd : X.calm = true -> X.A.handled = none
  frames : X.A.frames = some X.stack
  stk : X.stack = X.outer \/ (X.stack = X.env :: X.outer /\ X.env.frame = some X.env.locals)
  exf : ∀ b ∈ X.ex, b ≠ X.env.locals /\ ∀ x c, X.env.cells.lookup x = some c -> c ≠ b
  bs : ∀ b o, X.base.get? b = some o -> X.s₀.heap.get? b = some o /\ X.H₀ b = none
  bsz : X.base.objs.size <= X.s₀.heap.objs.size
  noex : ∀ b o, X.base.get? b = some o -> b ∉ X.ex
  exfs : ∀ b ∈ X.ex, b ∉ X.fs
  funs : X.s₀.heap.FunFrames X.base X.outer
  frf : ∀ b ∈ X.fs, X.H₀ b = none
structure Inv (X : Cx) (pins : List (Addr × Obj)) (σ : List (Option V)) (H : Hp) (s : Shared) : Prop where
  ok : X.Ok
  os : s.os = X.s₀.os
  bare : AllBare s.gens
  base : Un X.fs X.ex X.H₀ H X.s₀.heap s.heap
  loc : ∃ m, s.heap.Ns X.env.locals m /\ ∀ (i : Nat) (x : Str) (v : V), X.N[i]? = some x -> σ[i]? = some (some v) -> Vis X.env.scope x -> ∃ u, RelV v u /\ Look X.env s.heap m x u
  cell : ∀ x c, X.env.cells.lookup x = some c -> ∃ v, s.heap.IsCell c v
  free : H X.env.locals = none
  freeC : ∀ x c, X.env.cells.lookup x = some c -> H c = none
  pin : ∀ p ∈ X.pn ++ pins, s.heap.get? p.1 = some p.2 /\ H p.1 = none /\ p.1 ≠ X.env.locals /\ p.1 ∉ X.fs /\ ∀ v, p.2.data ≠ .cell v
  hok : HOk X.prog X.w H s.heap
  len : σ.length = X.N.length
section
variable {X : Cx} {pins : List (Addr × Obj)} {σ : List (Option V)} {H H' : Hp} {s : Shared} {h' : Heap}
theorem Cx.Ok.nofr (ok : X.Ok) {b : Addr} {o : Obj} (e : X.base.get? b = some o) : b ∉ X.fs := fun hb => by
  have := (ok.funs.mem hb).1
  rw [e] at this; cases this
theorem Inv.bs (I : Inv X pins σ H s) : ∀ b o, X.base.get? b = some o -> s.heap.get? b = some o /\ H b = none := fun b o e =>
  ⟨I.base.keep b o (I.ok.bs b o e).1 (I.ok.bs b o e).2 (I.ok.nofr e) (I.ok.noex b o e), I.base.free b o (I.ok.bs b o e).1 (I.ok.bs b o e).2 (I.ok.noex b o e)⟩
theorem Inv.bk (I : Inv X pins σ H s) : ∀ b o, X.base.get? b = some o -> s.heap.get? b = some o := fun b o e => (I.bs b o e).1
theorem Inv.mod (I : Inv X pins σ H s) : Mod X.K X.mg X.base := I.ok.mod
theorem Inv.kIn (I : Inv X pins σ H s) : X.K.In s.heap := I.ok.mod.kin.keeps I.bk
theorem Inv.lt (I : Inv X pins σ H s) : X.env.locals < s.heap.objs.size := let ⟨_, hn, _⟩ := I.loc; hn.lt
theorem Inv.sz (I : Inv X pins σ H s) : X.s₀.heap.objs.size <= s.heap.objs.size := Nat.le_trans I.ok.above (Nat.le_of_lt I.lt)
theorem Inv.nofs (I : Inv X pins σ H s) {a : Addr} (h : s.heap.objs.size <= a) : a ∉ X.fs := fun hb => by
  obtain ⟨_, o, ho, _⟩ := I.ok.funs.mem hb
  exact absurd (Nat.lt_of_lt_of_le (Heap.lt_size ho) (Nat.le_trans I.sz h)) (Nat.lt_irrefl _)
theorem Inv.cne (I : Inv X pins σ H s) : ∀ x c, X.env.cells.lookup x = some c -> c ≠ X.env.locals := fun x c e z => by
  obtain ⟨v, o, ho, hd⟩ := I.cell x c e
  obtain ⟨m, ⟨o', es, ep, ho', hd', _⟩, _⟩ := I.loc
  rw [z, ho'] at ho; cases ho; rw [hd'] at hd; cases hd
theorem Inv.funs (I : Inv X pins σ H s) : s.heap.FunFrames X.base X.outer := by
  have all : ∀ (l : List Env), (∀ b ∈ frs l, b ∈ X.fs) -> X.s₀.heap.FunFrames X.base l -> s.heap.FunFrames X.base l := by
    intro l
    induction l with
    | nil => intro _ _; trivial
    | cons env r ih =>
      intro hs hl
      obtain ⟨hk, ⟨L, o, hf, hn, ho, hd⟩, hr⟩ := hl
      have hL : L ∈ X.fs := hs L (by unfold frs; rw [List.filterMap_cons, hf]; exact List.mem_cons_self)
      obtain ⟨sl, e⟩ := I.base.slot L o ho (I.ok.frf L hL) hL fun z => I.ok.exfs L z hL
      exact ⟨hk, ⟨L, _, hf, hn, e, hd⟩, ih (fun b hb => hs b (by unfold frs; rw [List.filterMap_cons, hf]; exact List.mem_cons_of_mem _ hb)) hr⟩
  exact all X.outer (fun _ hb => hb) I.ok.funs
theorem Inv.stack (I : Inv X pins σ H s) : s.heap.FunFrames X.base X.stack := by
  rcases I.ok.stk with e | ⟨e, hf⟩
  . rw [e]; exact I.funs
  . rw [e]
    obtain ⟨m, hn, _⟩ := I.loc
    refine .cons (by rw [I.ok.kind]; decide) hf hn ?_ I.funs
    exact Heap.get?_none_of_le (Nat.le_trans I.ok.bsz I.ok.above)
theorem Inv.stkSub (I : Inv X pins σ H s) : ∀ b ∈ frs X.stack, b ∈ X.env.locals :: X.fs := fun b hb => by
  rcases I.ok.stk with e | ⟨e, hf⟩
  . rw [e] at hb; exact List.mem_cons_of_mem _ hb
  . rw [e] at hb
    unfold frs at hb
    rw [List.filterMap_cons, hf] at hb
    exact hb
theorem Inv.stkFree (I : Inv X pins σ H s) : ∀ b ∈ frs X.stack, H b = none := fun b hb => by
  rcases List.mem_cons.mp (I.stkSub b hb) with e | hb
  . rw [e]; exact I.free
  . obtain ⟨_, o, ho, _⟩ := I.ok.funs.mem hb
    exact I.base.free b o ho (I.ok.frf b hb) fun z => I.ok.exfs b z hb
theorem Inv.step {g' : Array GenState} {t' : Nat} {d' : Drawn} {ch : List Addr} (I : Inv X pins σ H s)
    (hch : ∀ b ∈ ch, (b ∈ X.ex \/ X.s₀.heap.objs.size <= b) /\ b ≠ X.env.locals /\ (∀ x c, X.env.cells.lookup x = some c -> c ≠ b) /\ ∀ p ∈ X.pn ++ pins, p.1 ≠ b)
    (keep : ∀ b o, b ≠ X.env.locals -> b ∉ X.fs -> b ∉ ch -> s.heap.get? b = some o -> H b = none -> h'.get? b = some o)
    (slot : ∀ b o, b ≠ X.env.locals -> b ∈ X.fs -> b ∉ ch -> s.heap.get? b = some o -> H b = none -> ∃ sl, h'.get? b = some { o with slots := sl }) (free : ∀ b o, b ∉ ch -> s.heap.get? b = some o -> H b = none -> H' b = none)
    (there : ∀ b o, b ∉ ch -> s.heap.get? b = some o -> ∃ o', h'.get? b = some o')
    (tups : ∀ b xs, H b = some (.tup xs) -> H' b = some (.tup xs)) (frzs : ∀ b o u, H b = some (.frz o u) -> H' b = some (.frz o u)) (tbls : ∀ b ps, H b = some (.tbl ps) -> ∃ more, H' b = some (.tbl (ps ++ more)))
    (ns : ∀ m, s.heap.Ns X.env.locals m -> h'.Ns X.env.locals m) (hok : HOk X.prog X.w H' h') (hg : AllBare g') :
    Inv X pins σ H' { s with heap := h', gens := g', drawn := d', toks := t' } := by
  have neL : ∀ b o, X.s₀.heap.get? b = some o -> b ≠ X.env.locals := fun b o e => Nat.ne_of_lt (Nat.lt_of_lt_of_le (Heap.lt_size e) I.ok.above)
  have neC : ∀ b o, X.s₀.heap.get? b = some o -> b ∉ X.ex -> b ∉ ch := fun b o e hx hb => by
    rcases (hch b hb).1 with z | z
    . exact hx z
    . exact absurd (Nat.lt_of_lt_of_le (Heap.lt_size e) z) (Nat.lt_irrefl _)
  have cellK : ∀ x c, X.env.cells.lookup x = some c -> ∀ v, s.heap.IsCell c v -> h'.IsCell c v := fun x c e v ⟨o, ho, hd⟩ => by
    have nch : c ∉ ch := fun z => (hch c z).2.2.1 x c e rfl
    by_cases hc : c ∈ X.fs
    . obtain ⟨sl, q⟩ := slot c o (I.cne x c e) hc nch ho (I.freeC x c e)
      exact ⟨_, q, hd⟩
    . exact ⟨o, keep c o (I.cne x c e) hc nch ho (I.freeC x c e), hd⟩
  refine ⟨I.ok, I.os, hg, ⟨fun b o e n hb hx => ?_, fun b o e n hb hx => ?_, fun b o e n hx => ?_, fun b o e hx => ?_, fun b xs e => tups b xs (I.base.tups b xs e), fun b o xs e => frzs b o xs (I.base.frzs b o xs e), fun b ps e => ?_⟩, ?_, fun x c e => ?_, ?_, fun x c e => ?_, fun p hp => ?_, hok, I.len⟩
  . exact keep b o (neL b o e) hb (neC b o e hx) (I.base.keep b o e n hb hx) (I.base.free b o e n hx)
  . obtain ⟨sl, e1⟩ := I.base.slot b o e n hb hx
    obtain ⟨sl', e2⟩ := slot b _ (neL b o e) hb (neC b o e hx) e1 (I.base.free b o e n hx)
    exact ⟨sl', e2⟩
  . obtain ⟨o', e1⟩ := I.base.there b o e hx
    exact free b o' (neC b o e hx) e1 (I.base.free b o e n hx)
  . obtain ⟨o', e1⟩ := I.base.there b o e hx
    exact there b o' (neC b o e hx) e1
  . obtain ⟨m1, e1⟩ := I.base.tbls b ps e
    obtain ⟨m2, e2⟩ := tbls b _ e1
    exact ⟨m1 ++ m2, by rw [e2, Array.append_assoc]⟩
  . obtain ⟨m, hn, hl⟩ := I.loc
    refine ⟨m, ns m hn, fun i x v e1 e2 e3 => ?_⟩
    obtain ⟨u, r, l⟩ := hl i x v e1 e2 e3
    refine ⟨u, r, ?_⟩
    rcases l with l | ⟨k, c, e, z⟩
    . exact .inl l
    . exact .inr ⟨k, c, e, cellK x c e _ z⟩
  . obtain ⟨v, z⟩ := I.cell x c e
    exact ⟨v, cellK x c e v z⟩
  . obtain ⟨m, ⟨o, _, _, ho, _⟩, _⟩ := I.loc
    exact free _ o (fun z => (hch _ z).2.1 rfl) ho I.free
  . obtain ⟨v, o, ho, hd⟩ := I.cell x c e
    exact free c o (fun z => (hch c z).2.2.1 x c e rfl) ho (I.freeC x c e)
  . obtain ⟨e, n, ne, nf, d⟩ := I.pin p hp
    have nch : p.1 ∉ ch := fun z => (hch p.1 z).2.2.2 p hp rfl
    exact ⟨keep p.1 p.2 ne nf nch e n, free p.1 p.2 nch e n, ne, nf, d⟩
theorem Inv.un {t' : Nat} (I : Inv X pins σ H s) (u : Un X.fs [] H H' s.heap h') (hok : HOk X.prog X.w H' h') : Inv X pins σ H' { s with heap := h', toks := t' } := by
  obtain ⟨m, ⟨o, es, ep, ho, r⟩, _⟩ := id I.loc
  obtain ⟨sl, hL⟩ := u.any ho I.free (by simp)
  exact I.step (g' := s.gens) (d' := s.drawn) (ch := []) (fun _ z => nomatch z) (fun b o _ hb _ e n => u.keep b o e n hb (by simp)) (fun b o _ hb _ e n => u.slot b o e n hb (by simp)) (fun b o _ e n => u.free b o e n (by simp)) (fun b o _ e => u.there b o e (by simp)) u.tups u.frzs u.tbls (fun m' hm => by
    obtain ⟨o', es', ep', ho', r'⟩ := hm
    rw [ho] at ho'; cases ho'
    exact ⟨_, es', ep', hL, r'⟩) hok I.bare
theorem Inv.call {g' : Array GenState} {t' : Nat} {d' : Drawn} {ch : List Addr} (I : Inv X pins σ H s) (u : Un (frs X.stack) ch H H' s.heap h') (hok : HOk X.prog X.w H' h') (hg : AllBare g')
    (hch : ∀ b ∈ ch, (b ∈ X.ex \/ X.s₀.heap.objs.size <= b) /\ b ≠ X.env.locals /\ (∀ x c, X.env.cells.lookup x = some c -> c ≠ b) /\ ∀ p ∈ X.pn ++ pins, p.1 ≠ b) :
    Inv X pins σ H' { s with heap := h', gens := g', drawn := d', toks := t' } := by
  obtain ⟨m, ⟨o, es, ep, ho, r⟩, _⟩ := id I.loc
  obtain ⟨sl, hL⟩ := u.any ho I.free fun z => (hch _ z).2.1 rfl
  exact I.step (ch := ch) hch (fun b o hL hb hc e n => u.keep b o e n (fun z => (List.mem_cons.mp (I.stkSub b z)).elim hL hb) hc) (fun b o _ _ hc e n => u.any e n hc) (fun b o hc e n => u.free b o e n hc) (fun b o hc e => u.there b o e hc) u.tups u.frzs u.tbls (fun m' hm => by
    obtain ⟨o', es', ep', ho', r'⟩ := hm
    rw [ho] at ho'; cases ho'
    exact ⟨_, es', ep', hL, r'⟩) hok hg
theorem Inv.turned {t' : Nat} {it : Addr} (I : Inv X pins σ H s) (k : ∀ b o, b ≠ it -> s.heap.get? b = some o -> h'.get? b = some o) (hn : H it = none) (hL : it ≠ X.env.locals)
    (h1 : it ∈ X.ex \/ X.s₀.heap.objs.size <= it) (h2 : ∀ x c, X.env.cells.lookup x = some c -> c ≠ it) (h3 : ∀ p ∈ X.pn ++ pins, p.1 ≠ it) : Inv X pins σ H { s with heap := h', toks := t' } := by
  have nit : ∀ b u, H b = some u -> b ≠ it := fun b u e z => by rw [z, hn] at e; cases e
  refine I.step (g' := s.gens) (d' := s.drawn) (ch := [it]) (fun b hb => ?_) (fun b o _ _ hc e _ => k b o (fun z => hc (by simp [z])) e) (fun b o _ _ hc e _ => ⟨o.slots, k b o (fun z => hc (by simp [z])) e⟩) (fun _ _ _ _ n => n)
    (fun b o hc e => ⟨o, k b o (fun z => hc (by simp [z])) e⟩) (fun _ _ e => e) (fun _ _ _ e => e) (fun b ps e => ⟨#[], by rw [e]; simp⟩) (fun m hm => ?_) (fun b u e => ?_) I.bare
  . have e : b = it := by simpa using hb
    subst e
    exact ⟨h1, hL, h2, h3⟩
  . obtain ⟨o, es, ep, ho, r⟩ := hm
    exact ⟨o, es, ep, k _ o (Ne.symm hL) ho, r⟩
  . refine (I.hok b u e).stay (fun c v hc q => k c v ?_ q) (fun _ q => q) fun _ _ q => q
    rcases hc with z | z
    . rw [z]; exact nit b u e
    . exact nit c _ z
theorem Inv.tok (I : Inv X pins σ H s) (t : Nat) : Inv X pins σ H { s with toks := t } := I.un (h' := s.heap) (t' := t) Un.refl I.hok
theorem Inv.kept {t' : Nat} (I : Inv X pins σ H s) (k : ∀ b u, s.heap.get? b = some u -> h'.get? b = some u) : Inv X pins σ H { s with heap := h', toks := t' } := I.un (Un.kept k) (I.hok.kept k)
theorem Inv.laid {a : Addr} {o : HO} {t' : Nat} (I : Inv X pins σ H s) (k : ∀ b u, s.heap.get? b = some u -> h'.get? b = some u) (hp : s.heap.objs.size <= a) (new : ObjOk X.prog X.w (upd H a o) h' a o) :
    Inv X pins σ (upd H a o) { s with heap := h', toks := t' } := I.un (Un.laid k hp (I.hok.fresh hp)) (I.hok.laid k hp new)
theorem Inv.write {x e : Addr} {o : HO} {t' : Nat} (I : Inv X pins σ H s) (mu : Mut (H x)) (he : e = x \/ H e = some (.own x)) (k : ∀ b u, b ≠ e -> s.heap.get? b = some u -> h'.get? b = some u) (heo : ∃ u, h'.get? e = some u)
    (new : ObjOk X.prog X.w (upd H x o) h' x o) : Inv X pins σ (upd H x o) { s with heap := h', toks := t' } := I.un (Un.write mu he k heo) (I.hok.write mu he k heo new)
theorem Inv.pins_of {pins' : List (Addr × Obj)} (I : Inv X pins σ H s) (h : ∀ p ∈ pins', s.heap.get? p.1 = some p.2 /\ H p.1 = none /\ p.1 ≠ X.env.locals /\ p.1 ∉ X.fs /\ ∀ v, p.2.data ≠ .cell v) : Inv X pins' σ H s :=
  ⟨I.ok, I.os, I.bare, I.base, I.loc, I.cell, I.free, I.freeC, fun p hp => (List.mem_append.mp hp).elim (fun z => I.pin p (List.mem_append_left _ z)) (h p), I.hok, I.len⟩
theorem nodup_ix {N : List Str} (hN : N.Nodup) {i j : Nat} {x : Str} (a : N[i]? = some x) (b : N[j]? = some x) : i = j := by
  obtain ⟨h1, e1⟩ := List.getElem?_eq_some_iff.mp a
  obtain ⟨h2, e2⟩ := List.getElem?_eq_some_iff.mp b
  exact (List.getElem_inj hN).mp (e1.trans e2.symm)
theorem store_ok2 {M : Model} {A : Around} {E : Value -> Shared -> Prop} {i : Nat} {x : Str} {v : V} {u : Value} {Q : Unit -> Shared -> Prop} (I : Inv X pins σ H s) (hN : X.N.Nodup) (hi : X.N[i]? = some x) (hx : Loc X.env.scope x) (r : RelV v u)
    (h : ∀ s', Inv X pins (σ.set i (some v)) H s' -> (∃ a, Heap.SameBut a s.heap s'.heap /\ (a = X.env.locals \/ X.env.cells.lookup x = some a)) -> Q () s') (hf : X.fn x = true \/ X.env.scope.names.lookup x = some .local := by first | exact .inl rfl | exact .inr rfl | assumption) : wpAny M A (storeName X.env x u) Q E s := by
  obtain ⟨m, hn, hl⟩ := id I.loc
  have hcls : (X.env.scope.kind == .class || (X.env.scope.kind == .module && X.env.locals != X.env.globals)) = false := by rw [I.ok.kind]; rfl
  have hiσ : i < σ.length := by rw [I.len]; exact (List.getElem?_eq_some_iff.mp hi).1
  have cne := I.cne
  have tracked : ∀ {a : Addr} {h' : Heap}, (∃ o, s.heap.get? a = some o /\ H a = none) -> Heap.SameBut a s.heap h' -> HOk X.prog X.w H h' := fun {a h'} ha hs b ob e => by
    obtain ⟨_, _, hfree⟩ := ha
    refine (I.hok b ob e).stay (fun c w' hc q => (hs.2 c ?_).trans q) (fun _ q => q) fun _ _ q => q
    rintro rfl
    rcases hc with rfl | hc
    . rw [hfree] at e; cases e
    . rw [hfree] at hc; cases hc
  rcases hx with hk | hk
  . refine wpAny_storeName_local hk hn (fun h' hn' hs => ?_) hcls
    obtain ⟨oL, _, _, hoL, _⟩ := id hn
    refine h _ ⟨I.ok, I.os, I.bare, ⟨fun b o e n hb hx => ?_, fun b o e n hb hx => ?_, I.base.free, fun b o e hx => ?_, I.base.tups, I.base.frzs, I.base.tbls⟩, ⟨_, hn', fun j y v' e1 e2 e3 => ?_⟩, fun y c e => ?_, I.free, I.freeC, fun p hp => ?_, tracked ⟨oL, hoL, I.free⟩ hs, by simpa using I.len⟩ ⟨_, hs, .inl rfl⟩
    . exact (hs.2 b (Nat.ne_of_lt (Nat.lt_of_lt_of_le (Heap.lt_size e) I.ok.above))).trans (I.base.keep b o e n hb hx)
    . obtain ⟨sl, e1⟩ := I.base.slot b o e n hb hx
      exact ⟨sl, (hs.2 b (Nat.ne_of_lt (Nat.lt_of_lt_of_le (Heap.lt_size e) I.ok.above))).trans e1⟩
    . obtain ⟨o', e1⟩ := I.base.there b o e hx
      exact ⟨o', (hs.2 b (Nat.ne_of_lt (Nat.lt_of_lt_of_le (Heap.lt_size e) I.ok.above))).trans e1⟩
    . by_cases hj : j = i
      . subst hj
        rw [hi] at e1; cases e1
        rw [List.getElem?_set_self hiσ] at e2
        cases e2
        exact ⟨u, r, .inl ⟨hk, by simp⟩⟩
      . rw [List.getElem?_set_ne (Ne.symm hj)] at e2
        obtain ⟨u', r', q⟩ := hl j y v' e1 e2 e3
        refine ⟨u', r', ?_⟩
        rcases q with ⟨k, e⟩ | ⟨k, c, e, z⟩
        . refine .inl ⟨k, ?_⟩
          have : y ≠ x := fun e => hj (nodup_ix hN e1 (e ▸ hi))
          simp [this, e]
        . exact .inr ⟨k, c, e, z.sameBut hs (cne y c e)⟩
    . obtain ⟨w', z⟩ := I.cell y c e
      exact ⟨w', z.sameBut hs (cne y c e)⟩
    . obtain ⟨e, n, ne, nf, d⟩ := I.pin p hp
      exact ⟨(hs.2 p.1 ne).trans e, n, ne, nf, d⟩
  . have hfn : X.fn x = true := by
      rcases hf with z | z
      . exact z
      . rw [z] at hk; cases hk
    obtain ⟨c, hc⟩ := I.ok.has x (.inl hk)
    obtain ⟨w', z⟩ := I.cell x c hc
    refine wpAny_storeName_cell I.ok.kind hk hc z (fun h' hc' hs => ?_)
    obtain ⟨oc, hoc, hocd⟩ := id z
    refine h { s with heap := h' } ⟨I.ok, I.os, I.bare, ⟨fun b o e n hb hx => ?_, fun b o e n hb hx => ?_, I.base.free, fun b o e hx => ?_, I.base.tups, I.base.frzs, I.base.tbls⟩, ⟨m, hn.sameBut hs (Ne.symm (cne x c hc)), fun j y v' e1 e2 e3 => ?_⟩, fun y c' e => ?_, I.free, I.freeC, fun p hp => ?_, tracked ⟨oc, hoc, I.freeC x c hc⟩ hs, by simpa using I.len⟩ ⟨c, hs, .inr hc⟩
    . exact (hs.2 b (Nat.ne_of_lt (Nat.lt_of_lt_of_le (Heap.lt_size e) (I.ok.cab x c hfn hc)))).trans (I.base.keep b o e n hb hx)
    . obtain ⟨sl, e1⟩ := I.base.slot b o e n hb hx
      exact ⟨sl, (hs.2 b (Nat.ne_of_lt (Nat.lt_of_lt_of_le (Heap.lt_size e) (I.ok.cab x c hfn hc)))).trans e1⟩
    . obtain ⟨o', e1⟩ := I.base.there b o e hx
      exact ⟨o', (hs.2 b (Nat.ne_of_lt (Nat.lt_of_lt_of_le (Heap.lt_size e) (I.ok.cab x c hfn hc)))).trans e1⟩
    . by_cases hj : j = i
      . subst hj
        rw [hi] at e1; cases e1
        rw [List.getElem?_set_self hiσ] at e2
        cases e2
        exact ⟨u, r, .inr ⟨.inl hk, c, hc, hc'⟩⟩
      . rw [List.getElem?_set_ne (Ne.symm hj)] at e2
        obtain ⟨u', r', q⟩ := hl j y v' e1 e2 e3
        refine ⟨u', r', ?_⟩
        rcases q with q | ⟨k, c', e, z'⟩
        . exact .inl q
        . refine .inr ⟨k, c', e, z'.sameBut hs ?_⟩
          rintro rfl
          exact hj (nodup_ix hN e1 (I.ok.inj _ _ _ e hc ▸ hi))
    . by_cases hcc : c' = c
      . subst hcc; exact ⟨_, hc'⟩
      . obtain ⟨w2, z2⟩ := I.cell y c' e
        exact ⟨w2, z2.sameBut hs hcc⟩
    . obtain ⟨e, n, ne, nf, d⟩ := I.pin p hp
      refine ⟨(hs.2 p.1 ?_).trans e, n, ne, nf, d⟩
      intro q
      rw [q, hoc] at e
      have q' : oc = p.2 := Option.some.inj e
      exact d w' (by rw [<- q']; exact hocd)
theorem store_ok {M : Model} {A : Around} {E : Value -> Shared -> Prop} {i : Nat} {x : Str} {v : V} {u : Value} {Q : Unit -> Shared -> Prop} (I : Inv X pins σ H s) (hN : X.N.Nodup) (hi : X.N[i]? = some x) (hx : Loc X.env.scope x) (r : RelV v u)
    (h : ∀ s', Inv X pins (σ.set i (some v)) H s' -> Q () s') (hf : X.fn x = true \/ X.env.scope.names.lookup x = some .local := by first | exact .inl rfl | exact .inr rfl | assumption) : wpAny M A (storeName X.env x u) Q E s :=
  store_ok2 I hN hi hx r (fun s' I' _ => h s' I') hf
theorem Inv.call' {s' : Shared} {ch : List Addr} (I : Inv X pins σ H s) (ho : s'.os = s.os) (u : Un (frs X.stack) ch H H' s.heap s'.heap) (hok : HOk X.prog X.w H' s'.heap) (hg : AllBare s'.gens)
    (hch : ∀ b ∈ ch, (b ∈ X.ex \/ X.s₀.heap.objs.size <= b) /\ b ≠ X.env.locals /\ (∀ x c, X.env.cells.lookup x = some c -> c ≠ b) /\ ∀ p ∈ X.pn ++ pins, p.1 ≠ b) : Inv X pins σ H' s' := by
  obtain ⟨h', g', d', t', o'⟩ := s'
  have e : o' = s.os := ho
  subst e
  exact I.call (g' := g') (t' := t') (d' := d') u hok hg hch
end
abbrev XK := Value -> Option Addr -> Hp -> Prop
abbrev St := List (Option V)
abbrev VK := V -> Hp -> Prop
abbrev TE := St -> Hp -> VK -> Prop
abbrev TT := St -> Hp -> (Bool -> Hp -> Prop) -> Prop
abbrev TA := St -> Hp -> (List V -> Hp -> Prop) -> Prop
structure Ends where
  nx : St -> Hp -> Prop
  rt : VK
  bk : St -> Hp -> Prop := fun _ _ => False
  ct : St -> Hp -> Prop := fun _ _ => False
abbrev TS := Ends -> St -> Hp -> Prop
def EP (X : Cx) (pins : List (Addr × Obj)) (σ : St) (Q : VK) (u : Value) (s' : Shared) : Prop := ∃ v H', Inv X pins σ H' s' /\ RelV v u /\ Q v H'
def TP (X : Cx) (pins : List (Addr × Obj)) (σ : St) (Q : Bool -> Hp -> Prop) (b : Bool) (s' : Shared) : Prop := ∃ H', Inv X pins σ H' s' /\ Q b H'
def AP (X : Cx) (pins : List (Addr × Obj)) (σ : St) (Q : List V -> Hp -> Prop) (us : List Value) (s' : Shared) : Prop := ∃ vs H', Inv X pins σ H' s' /\ Vals vs us /\ Q vs H'
def SP (X : Cx) (pins : List (Addr × Obj)) (D : Ends) (f : Flow) (s' : Shared) : Prop :=
  match f with
  | .next => ∃ σ' H', Inv X pins σ' H' s' /\ D.nx σ' H'
  | .brk => ∃ σ' H', Inv X pins σ' H' s' /\ D.bk σ' H'
  | .cont => ∃ σ' H', Inv X pins σ' H' s' /\ D.ct σ' H'
  | .ret u => ∃ v σ' H', Inv X pins σ' H' s' /\ RelV v u /\ D.rt v H'
def PE (X : Cx) (e : Expr) (t : TE) : Prop :=
  ∀ (pins : List (Addr × Obj)) (s : Shared) (σ : St) (H : Hp) (Q : VK), Inv X pins σ H s -> t σ H Q -> wpAny (model X.prog X.w) X.A (eval e X.env) (EP X pins σ Q) X.xe s
def PT (X : Cx) (e : Expr) (t : TT) : Prop :=
  ∀ (pins : List (Addr × Obj)) (s : Shared) (σ : St) (H : Hp) (Q : Bool -> Hp -> Prop), Inv X pins σ H s -> t σ H Q -> wpAny (model X.prog X.w) X.A (isTrue e X.env (eval e X.env)) (TP X pins σ Q) X.xe s
def PW (X : Cx) (e : Expr) (t : TT) : Prop :=
  ∀ (whole : Sem Value) (pins : List (Addr × Obj)) (s : Shared) (σ : St) (H : Hp) (Q : Bool -> Hp -> Prop), Inv X pins σ H s -> t σ H Q -> wpAny (model X.prog X.w) X.A (isTrue e X.env whole) (TP X pins σ Q) X.xe s
theorem PW.pt {X : Cx} {e : Expr} {t : TT} (h : PW X e t) : PT X e t := h _
def PA (X : Cx) (es : List Expr) (t : TA) : Prop :=
  ∀ (pos : Pos) (pins : List (Addr × Obj)) (s : Shared) (σ : St) (H : Hp) (Q : List V -> Hp -> Prop), Inv X pins σ H s -> t σ H Q -> wpAny (model X.prog X.w) X.A (spliced (backTo pos (starEach es X.env))) (AP X pins σ Q) X.xe s
def PS (X : Cx) (st : Stmt) (t : TS) : Prop :=
  ∀ (pins : List (Addr × Obj)) (s : Shared) (σ : St) (H : Hp) (D : Ends), Inv X pins σ H s -> t D σ H -> wpAny (model X.prog X.w) X.A (exec st X.env) (SP X pins D) X.xe s
def PSs (X : Cx) (st : List Stmt) (t : TS) : Prop :=
  ∀ (pins : List (Addr × Obj)) (s : Shared) (σ : St) (H : Hp) (D : Ends), Inv X pins σ H s -> t D σ H -> wpAny (model X.prog X.w) X.A (execs st X.env) (SP X pins D) X.xe s
theorem thn {α : Type} {t : Sem α} {Q Q' : α -> Shared -> Prop} {M : Model} {A : Around} {E : Value -> Shared -> Prop} {s : Shared} (h : wpAny M A t Q E s) (hQ : ∀ a s, Q a s -> Q' a s) : wpAny M A t Q' E s := wpAny_mono h hQ fun _ _ x => x
end L2
namespace L2
open PySem PySem.Spec PyProof.Rows
section
variable {X : Cx}
def tVar (i : Nat) : TE := fun σ H Q => ∃ v, σ[i]? = some (some v) /\ Q v H
def tC (v : V) : TE := fun _ H Q => Q v H
theorem pe_var {i : Nat} {x : Str} {pos : Pos} (hN : X.N[i]? = some x) (hv : Vis X.env.scope x) (hd : (x == ("__debug__" : Str)) = false := by decide) (hcd : (x == ("__classdict__" : Str)) = false := by decide) : PE X (.Name x pos) (tVar i) := by
  intro pins s σ H Q I h
  obtain ⟨v, e, h⟩ := h
  obtain ⟨m, hn, hl⟩ := I.loc
  obtain ⟨u, r, l⟩ := hl i x v hN e hv
  have fin : EP X pins σ Q u s := ⟨v, H, I, r, h⟩
  rcases l with ⟨hk, hm⟩ | ⟨hk, c, hc, hcell⟩
  . exact wpAny_Name (wpAny_loadName_local I.ok.kind hk hn hm fin) hd
  . rcases hk with hk | hk
    . exact wpAny_Name (wpAny_loadName_cell I.ok.kind hk hc hcell fin) hd
    . exact wpAny_Name (wpAny_loadName_free I.ok.kind hk hc hcell fin hcd) hd
theorem pe_int {i j pos} : PE X (.Constant (.int i) j pos) (tC (.int i)) := fun _ _ _ H _ I h => wpAny_Constant_int ⟨.int i, H, I.tok _, ⟨_, rfl⟩, h⟩
theorem pe_bl {b j pos} : PE X (.Constant (.bool b) j pos) (tC (.bl b)) := fun _ _ _ H _ I h => Constant_bool ⟨.bl b, H, I, rfl, h⟩
theorem pe_non {j pos} : PE X (.Constant .none j pos) (tC .non) := fun _ _ _ H _ I h => Constant_none ⟨.non, H, I, rfl, h⟩
def Gl (X : Cx) (x : Str) : Prop := X.env.kindOf x = some .globalImplicit
theorem ld_glob {E : Value -> Shared -> Prop} {pins : List (Addr × Obj)} {s : Shared} {σ : St} {H : Hp} {x : Str} {u : Value} {pos : Pos} {Q : Value -> Shared -> Prop} (I : Inv X pins σ H s) (hg : Gl X x) (hm : X.mg x = some u) (h : Q u s)
    (hd : (x == ("__debug__" : Str)) = false := by decide) : wpAny (model X.prog X.w) X.A (eval (.Name x pos) X.env) Q E s :=
  Calls.Name_function_global I.ok.kind hg (Calls.loadGlobal_global (by rw [I.ok.glob]; exact I.mod.glob.keeps I.bk) hm h) hd
theorem ld_blt {E : Value -> Shared -> Prop} {pins : List (Addr × Obj)} {s : Shared} {σ : St} {H : Hp} {x : Str} {u : Value} {pos : Pos} {Q : Value -> Shared -> Prop} (I : Inv X pins σ H s) (hg : Gl X x) (hm : X.mg x = none) (hv : bootBuiltins x = some u) (h : Q u s)
    (hn : x ≠ "__name__" := by decide) (hd : (x == ("__debug__" : Str)) = false := by decide) : wpAny (model X.prog X.w) X.A (eval (.Name x pos) X.env) Q E s := by
  obtain ⟨mb, h1, h2⟩ := I.mod.blt
  exact Calls.Name_function_global I.ok.kind hg (Calls.loadGlobal_builtin (by rw [I.ok.glob]; exact I.mod.glob.keeps I.bk) hm (by rw [I.ok.blt]; exact h1.keeps I.bk) ((h2 x hn).trans hv) h) hd
theorem pe_bltn {x : Str} {v : V} {u : Value} {pos : Pos} (hg : Gl X x) (hm : X.mg x = none) (hv : bootBuiltins x = some u) (r : RelV v u) (hn : x ≠ "__name__" := by decide) (hd : (x == ("__debug__" : Str)) = false := by decide) : PE X (.Name x pos) (tC v) :=
  fun _ _ _ H _ I h => ld_blt I hg hm hv ⟨v, H, I, r, h⟩ hn hd
variable {a b : Expr} {ta tb : TE} {pos : Pos}
def PC (X : Cx) (op : CmpOp) (a b : Expr) (t : TE) : Prop :=
  ∀ (pins : List (Addr × Obj)) (s : Shared) (σ : St) (H : Hp) (Q : VK), Inv X pins σ H s -> t σ H Q ->
    wpAny (model X.prog X.w) X.A (eval a X.env) (fun v s₁ => wpAny (model X.prog X.w) X.A (eval b X.env) (fun u s₂ => wpAny (model X.prog X.w) X.A (compareOp op v u) (EP X pins σ Q) X.xe s₂) X.xe s₁) X.xe s
theorem nobehind (b : Expr) {op : CmpOp} (h : op ≠ .In) (h2 : op ≠ .NotIn) : behindInMarks op b = false := by
  have e1 : (op == CmpOp.In) = false := by cases op <;> first | rfl | exact absurd rfl h
  have e2 : (op == CmpOp.NotIn) = false := by cases op <;> first | rfl | exact absurd rfl h2
  cases b <;> simp [behindInMarks, e1, e2]
def tB (t : TE) : TT := fun σ H Q => t σ H fun x H1 => ∃ c, x = .bl c /\ Q c H1
theorem pt_cmp {op : CmpOp} {t : TE} (h : PC X op a b t) (h1 : behindInMarks op b = false := by first | exact nobehind _ (by decide) (by decide) | rfl) : PT X (.Compare a [op] [b] pos) (tB t) := by
  intro pins s σ H Q I hw
  refine wpAny_isTrue_Compare1 (thn (h pins s σ H _ I hw) fun v s1 h1 => thn h1 fun u s2 h2 => thn h2 fun c s3 ⟨x, H1, I1, r1, q1⟩ => ?_) h1
  obtain ⟨d, rfl, q⟩ := q1
  cases r1
  exact wpAny_truthy_bool ⟨H1, I1, q⟩
theorem pt_val {e : Expr} {t : TE} (h : PE X e t) (he : ∀ whole, isTrue e X.env whole = (do let v <- whole; standAt e.pos; holding [v] (truthy v)) := by intro _; rfl) : PT X e (tB t) := by
  intro pins s σ H Q I hw
  refine isTrue_plain (thn (h pins s σ H _ I hw) fun v s1 ⟨x, H1, I1, r1, q1⟩ => ?_) (he _)
  obtain ⟨d, rfl, q⟩ := q1
  cases r1
  exact wpAny_truthy_bool ⟨H1, I1, q⟩
variable {tA tB' : TT} {rest : List Expr}
def tAnd (t u : TT) : TT := fun σ H Q => t σ H fun c H1 => if c = true then u σ H1 Q else Q false H1
def tOr (t u : TT) : TT := fun σ H Q => t σ H fun c H1 => if c = true then Q true H1 else u σ H1 Q
def tNot (t : TT) : TT := fun σ H Q => t σ H fun c H1 => Q (!c) H1
theorem pw_and1 (ha : PT X a tA) : PW X (.BoolOp .And [a] pos) tA := by
  intro wh pins s σ H Q I h
  refine isTrue_and (thn (ha pins s σ H Q I h) fun c s1 e => ?_)
  cases c with
  | true => exact isTrue_and_nil e
  | false => exact e
theorem pw_or1 (ha : PT X a tA) : PW X (.BoolOp .Or [a] pos) tA := by
  intro wh pins s σ H Q I h
  refine isTrue_or (thn (ha pins s σ H Q I h) fun c s1 e => ?_)
  cases c with
  | false => exact isTrue_or_nil e
  | true => exact e
theorem pw_and (ha : PT X a tA) (hb : PW X (.BoolOp .And (b :: rest) pos) tB') : PW X (.BoolOp .And (a :: b :: rest) pos) (tAnd tA tB') := by
  intro wh pins s σ H Q I h
  refine isTrue_and (thn (ha pins s σ H _ I h) fun c s1 ⟨H1, I1, q1⟩ => ?_)
  cases c with
  | true => exact hb wh pins s1 σ H1 Q I1 q1
  | false => exact ⟨H1, I1, q1⟩
theorem pw_or (ha : PT X a tA) (hb : PW X (.BoolOp .Or (b :: rest) pos) tB') : PW X (.BoolOp .Or (a :: b :: rest) pos) (tOr tA tB') := by
  intro wh pins s σ H Q I h
  refine isTrue_or (thn (ha pins s σ H _ I h) fun c s1 ⟨H1, I1, q1⟩ => ?_)
  cases c with
  | true => exact ⟨H1, I1, q1⟩
  | false => exact hb wh pins s1 σ H1 Q I1 q1
theorem pt_not (ha : PT X a tA) : PT X (.UnaryOp .Not a pos) (tNot tA) := by
  intro pins s σ H Q I h
  exact isTrue_not (ha pins s σ H (fun c H1 => Q (!c) H1) I h)
def tAndV (ta tb : TE) : TE := fun σ H Q => ta σ H fun x H1 => ∃ c, x = .bl c /\ if c = true then tb σ H1 Q else Q (.bl false) H1
def tNotV (ta : TE) : TE := fun σ H Q => ta σ H fun x H1 => ∃ c, x = .bl c /\ Q (.bl (!c)) H1
theorem pe_one {op} {t : TE} (h : PE X a t) : PE X (.BoolOp op [a] pos) t := fun pins s σ H Q I hw => BoolOp_one (h pins s σ H Q I hw)
theorem pe_and (ha : PE X a ta) (hb : PE X (.BoolOp .And (b :: rest) pos) tb) : PE X (.BoolOp .And (a :: b :: rest) pos) (tAndV ta tb) := by
  intro pins s σ H Q I h
  refine BoolOp_and (thn (ha pins s σ H _ I h) fun v s1 ⟨x, H1, I1, r1, q1⟩ => ?_)
  obtain ⟨c, rfl, q1⟩ := q1
  cases r1
  refine wpAny_truthy_bool ?_
  cases c with
  | true => exact hb pins s1 σ H1 Q I1 q1
  | false => exact ⟨.bl false, H1, I1, rfl, q1⟩
theorem pe_not (ha : PE X a ta) : PE X (.UnaryOp .Not a pos) (tNotV ta) := by
  intro pins s σ H Q I h
  refine UnaryOp_ (thn (ha pins s σ H _ I h) fun v s1 ⟨x, H1, I1, r1, q1⟩ => ?_)
  obtain ⟨c, rfl, q1⟩ := q1
  cases r1
  exact not_of (wpAny_truthy_bool ⟨.bl (!c), H1, I1, rfl, q1⟩)
end
end L2
namespace L2
open PySem PySem.Spec PyProof.Rows
def SqL (K : PySem.W.Frag) (H : Hp) (a : Addr) (xs : List V) : Prop :=
  Rd H a (.lst xs) \/
    ∃ (o : Obj) (its : Array Value) (n : Nat), K.lookup a = some o /\ o.cls = .type "list" /\ o.dict = none /\ o.data = .seq its n /\ its.size <= sizeLine /\ Vals xs its.toList
def SqT (K : PySem.W.Frag) (H : Hp) (a : Addr) (xs : List V) : Prop :=
  Rd H a (.tup xs) \/
    ∃ (o : Obj) (its : Array Value) (n : Nat), K.lookup a = some o /\ o.cls = .type "tuple" /\ o.data = .seq its n /\ its.size <= sizeLine /\ Vals xs its.toList
def absV : Value -> Option V
  | .none => some .non
  | .bool b => some (.bl b)
  | .int i _ => some (.int i)
  | .str x _ => some (.str x)
  | .bytes b _ => some (.byt b)
  | .float b _ => some (.flt b)
  | .ref a => some (.ref a)
  | .type n => some (.ty n)
  | _ => none
theorem RelV.abs {x : V} {u : Value} (r : RelV x u) : absV u = some x := by
  cases x with
  | non => cases r; rfl
  | bl _ => cases r; rfl
  | int _ => obtain ⟨t, rfl⟩ := r; rfl
  | str _ => obtain ⟨t, rfl⟩ := r; rfl
  | byt _ => obtain ⟨t, rfl⟩ := r; rfl
  | flt _ => obtain ⟨t, rfl⟩ := r; rfl
  | ref _ => cases r; rfl
  | ty _ => cases r; rfl
theorem RelV.inj {x y : V} {u : Value} (r : RelV x u) (q : RelV y u) : x = y := Option.some.inj (r.abs.symm.trans q.abs)
theorem Vals.inj : ∀ {xs ys : List V} {us : List Value}, Vals xs us -> Vals ys us -> xs = ys
  | _, _, _, .nil, .nil => rfl
  | _, _, _, .cons r t, .cons r' t' => by rw [r.inj r', Vals.inj t t']
section
variable {X : Cx} {pins : List (Addr × Obj)} {σ : St} {H : Hp} {s : Shared} {a : Addr} {xs ys : List V}
theorem SqL.of {K : PySem.W.Frag} (h : H a = some (.lst xs)) : SqL K H a xs := .inl (.inl h)
theorem SqT.of {K : PySem.W.Frag} (h : H a = some (.tup xs)) : SqT K H a xs := .inl (.inl h)
theorem Inv.list (I : Inv X pins σ H s) (h : SqL X.K H a xs) : ∃ its : List Value, Vals xs its /\ PlainL s.heap a its.toArray /\ xs.length <= sizeLine := by
  rcases h with h | ⟨o, its, n, hk, hc, hd, hs, hz, r⟩
  . obtain ⟨z, its, n, r, e⟩ := h.ok I.hok
    exact ⟨its, r, ⟨_, n, e, rfl, rfl, rfl⟩, z⟩
  . refine ⟨its.toList, r, ⟨o, n, I.kIn a o hk, hc, hd, by simpa using hs⟩, ?_⟩
    have e := r.length
    simp only [Array.length_toList] at e
    omega
theorem Inv.tuple (I : Inv X pins σ H s) (h : SqT X.K H a xs) : ∃ its : List Value, Vals xs its /\ IsTup s.heap a its.toArray /\ xs.length <= sizeLine := by
  rcases h with h | ⟨o, its, n, hk, hc, hs, hz, r⟩
  . obtain ⟨z, its, r, p⟩ := h.ok I.hok
    exact ⟨its, r, p, z⟩
  . refine ⟨its.toList, r, ⟨o, I.kIn a o hk, hc, n, by simpa using hs⟩, ?_⟩
    have e := r.length
    simp only [Array.length_toList] at e
    omega
theorem Inv.list_inj (I : Inv X pins σ H s) (h : SqL X.K H a xs) (h' : SqL X.K H a ys) : xs = ys := by
  obtain ⟨its, r, ⟨o, n, e, _, _, d⟩, _⟩ := I.list h
  obtain ⟨its', r', ⟨o', n', e', _, _, d'⟩, _⟩ := I.list h'
  rw [e] at e'; cases e'
  rw [d] at d'
  injection d' with d1 _
  have : its = its' := by simpa using congrArg Array.toList d1
  subst this
  exact r.inj r'
theorem Inv.tuple_inj (I : Inv X pins σ H s) (h : SqT X.K H a xs) (h' : SqT X.K H a ys) : xs = ys := by
  obtain ⟨its, r, ⟨o, e, _, n, d⟩, _⟩ := I.tuple h
  obtain ⟨its', r', ⟨o', e', _, n', d'⟩, _⟩ := I.tuple h'
  rw [e] at e'; cases e'
  rw [d] at d'
  injection d' with d1 _
  have : its = its' := by simpa using congrArg Array.toList d1
  subst this
  exact r.inj r'
end
abbrev Cx.wish (X : Cx) (E : Value -> Shared -> Prop) : Cx := { X with xe := E }
abbrev Cx.nox (X : Cx) : Cx := X.wish fun _ _ => False
theorem Cx.Ok.wish {X : Cx} (ok : X.Ok) (E : Value -> Shared -> Prop) : (X.wish E).Ok :=
  ⟨ok.mod, ok.kind, ok.glob, ok.blt, ok.above, ok.inj, ok.has, ok.cab, ok.hd, ok.frames, ok.stk, ok.exf, ok.bs, ok.bsz, ok.noex, ok.exfs, ok.funs, ok.frf⟩
theorem Cx.Ok.unwish {X : Cx} {E : Value -> Shared -> Prop} (ok : (X.wish E).Ok) : X.Ok :=
  ⟨ok.mod, ok.kind, ok.glob, ok.blt, ok.above, ok.inj, ok.has, ok.cab, ok.hd, ok.frames, ok.stk, ok.exf, ok.bs, ok.bsz, ok.noex, ok.exfs, ok.funs, ok.frf⟩
section
variable {X : Cx} {pins : List (Addr × Obj)} {σ : St} {H : Hp} {s : Shared} {E : Value -> Shared -> Prop}
theorem Inv.wish (I : Inv X pins σ H s) (E : Value -> Shared -> Prop) : Inv (X.wish E) pins σ H s := ⟨I.ok.wish E, I.os, I.bare, I.base, I.loc, I.cell, I.free, I.freeC, I.pin, I.hok, I.len⟩
theorem Inv.unwish (I : Inv (X.wish E) pins σ H s) : Inv X pins σ H s := ⟨I.ok.unwish, I.os, I.bare, I.base, I.loc, I.cell, I.free, I.freeC, I.pin, I.hok, I.len⟩
theorem SP.unwish {D : Ends} {f : Flow} {s' : Shared} (h : SP (X.wish E) pins D f s') : SP X pins D f s' := by
  cases f with
  | next => obtain ⟨σ', H', I, q⟩ := h; exact ⟨σ', H', I.unwish, q⟩
  | brk => obtain ⟨σ', H', I, q⟩ := h; exact ⟨σ', H', I.unwish, q⟩
  | cont => obtain ⟨σ', H', I, q⟩ := h; exact ⟨σ', H', I.unwish, q⟩
  | ret u => obtain ⟨v, σ', H', I, r, q⟩ := h; exact ⟨v, σ', H', I.unwish, r, q⟩
theorem PSs.nox {st : List Stmt} {t : TS} (h : PSs X.nox st t) : PSs X st t := fun pins s σ H D I hw =>
  wpAny_mono (h pins s σ H D (I.wish _) hw) (fun _ _ q => q.unwish) fun _ _ z => False.elim z
end
section
variable {X : Cx} {st : Stmt} {rest : List Stmt} {t u : TS} {e : Expr} {te : TE} {pos : Pos}
def tNext : TS := fun D σ H => D.nx σ H
def tSeq (t u : TS) : TS := fun D σ H => t { D with nx := u D } σ H
theorem pss_nil : PSs X [] tNext := fun _ _ σ H _ I h => wpAny_execs_nil ⟨σ, H, I, h⟩
theorem pss_cons (h1 : PS X st t) (h2 : PSs X rest u) : PSs X (st :: rest) (tSeq t u) := by
  intro pins s σ H D I h
  refine wpAny_execs_cons (thn (h1 pins s σ H { D with nx := u D } I h) fun f s1 q => ?_)
  cases f with
  | next =>
    obtain ⟨σ', H', I', q⟩ := q
    exact h2 pins s1 σ' H' D I' q
  | ret v => exact q
  | brk => exact q
  | cont => exact q
theorem pss_one (h1 : PS X st t) : PSs X [st] t := by
  intro pins s σ H D I h
  refine wpAny_execs_cons (thn (h1 pins s σ H D I h) fun f s1 q => ?_)
  cases f with
  | next => exact wpAny_execs_nil q
  | ret v => exact q
  | brk => exact q
  | cont => exact q
theorem Inv.quiet {pins : List (Addr × Obj)} {σ : St} {H : Hp} {s : Shared} (I : Inv X pins σ H s) : interactive X.env = false := by simp [interactive, I.ok.kind]
def tDrop (te : TE) : TS := fun D σ H => te σ H fun _ H1 => D.nx σ H1
theorem ps_expr (he : PE X e te) (hs : swapsWith e none pos.line X.env = pure false := by rfl) : PS X (.Expr e pos) (tDrop te) := by
  intro pins s σ H D I h
  exact wpAny_Expr_any (thn (he pins s σ H _ I h) fun v s1 ⟨x, H1, I1, r1, q1⟩ => ⟨σ, H1, I1, q1⟩) I.quiet hs
def tRet (te : TE) : TS := fun D σ H => te σ H D.rt
theorem ps_ret (he : PE X e te) : PS X (.Return (some e) pos) (tRet te) := by
  intro pins s σ H D I h
  exact wpAny_Return_some (thn (he pins s σ H _ I h) fun v s1 ⟨x, H1, I1, r1, q1⟩ => ⟨x, σ, H1, I1, r1, q1⟩)
def tIfS (c : TT) (t u : TS) : TS := fun D σ H => c σ H fun b H1 => if b = true then t D σ H1 else u D σ H1
theorem ps_if {c : Expr} {a b : List Stmt} {tc : TT} (hc : PT X c tc) (ha : PSs X a t) (hb : PSs X b u) : PS X (.If c a b pos) (tIfS tc t u) := by
  intro pins s σ H D I h
  refine wpAny_If (thn (hc pins s σ H _ I h) fun d s1 ⟨H1, I1, q1⟩ => ?_)
  cases d with
  | true => exact ha pins s1 σ H1 D I1 q1
  | false => exact hb pins s1 σ H1 D I1 q1
end
abbrev TG := V -> St -> Hp -> (St -> Hp -> Prop) -> Prop
abbrev TGs := List V -> St -> Hp -> (St -> Hp -> Prop) -> Prop
def PG (X : Cx) (target : Expr) (t : TG) : Prop :=
  ∀ (pins : List (Addr × Obj)) (s : Shared) (σ : St) (H : Hp) (v : V) (u : Value) (Q : St -> Hp -> Prop), Inv X pins σ H s -> RelV v u -> t v σ H Q ->
    wpAny (model X.prog X.w) X.A (assign target X.env u) (fun _ s' => ∃ σ' H', Inv X pins σ' H' s' /\ Q σ' H') X.xe s
def PGs (X : Cx) (ts : List Expr) (t : TGs) : Prop :=
  ∀ (pins : List (Addr × Obj)) (s : Shared) (σ : St) (H : Hp) (vs : List V) (us : List Value) (Q : St -> Hp -> Prop), Inv X pins σ H s -> Vals vs us -> t vs σ H Q ->
    wpAny (model X.prog X.w) X.A (assignInOrder ((assignEach ts X.env).map (·.2)) us) (fun _ s' => ∃ σ' H', Inv X pins σ' H' s' /\ Q σ' H') X.xe s
section
variable {X : Cx} {pos : Pos}
def gName (i : Nat) : TG := fun v σ H Q => Q (σ.set i (some v)) H
theorem pg_name {i : Nat} {x : Str} (hN : X.N.Nodup) (hi : X.N[i]? = some x) (hx : Loc X.env.scope x) (hf : X.fn x = true \/ X.env.scope.names.lookup x = some .local := by first | exact .inl rfl | exact .inr rfl | assumption) : PG X (.Name x pos) (gName i) := by
  intro pins s σ H v u Q I r h
  exact wpAny_assign_Name (store_ok I hN hi hx r (fun s' I' => ⟨_, H, I', h⟩) hf)
def gNil : TGs := fun vs σ H Q => vs = [] /\ Q σ H
def gCons (t : TG) (u : TGs) : TGs := fun vs σ H Q => ∃ v r, vs = v :: r /\ t v σ H fun σ' H' => u r σ' H' Q
theorem pgs_nil : PGs X [] gNil := by
  intro pins s σ H vs us Q I r h
  obtain ⟨e, h⟩ := h
  subst e
  cases r
  exact assignInOrder_nil ⟨σ, H, I, h⟩
theorem pgs_cons {e : Expr} {es : List Expr} {t : TG} {u : TGs} (h1 : PG X e t) (h2 : PGs X es u)
    (hs : (assignEach (e :: es) X.env).map (·.2) = assign e X.env :: (assignEach es X.env).map (·.2) := by rfl) : PGs X (e :: es) (gCons t u) := by
  intro pins s σ H vs us Q I r h
  obtain ⟨v, vr, e1, h⟩ := h
  subst e1
  cases r with
  | cons r rr =>
    rw [hs]
    refine assignInOrder_cons (thn (h1 pins s σ H _ _ _ I r h) fun _ s1 ⟨σ1, H1, I1, q1⟩ => ?_)
    exact h2 pins s1 σ1 H1 _ _ Q I1 rr q1
def gTup (K : PySem.W.Frag) (n : Nat) (t : TGs) : TG := fun v σ H Q => ∃ a xs, v = .ref a /\ SqT K H a xs /\ xs.length = n /\ t xs σ H Q
theorem pg_tup {es : List Expr} {k : Nat} {t : TGs} {n : Nat} (hc : X.calm = true) (h : PGs X es t)
    (hn : (assignEach es X.env).length = n := by rfl) (hst : (assignEach es X.env).findIdx? (·.1) = none := by rfl) : PG X (.Tuple es k pos) (gTup X.K n t) := by
  intro pins s σ H v u Q I r hw
  obtain ⟨a, xs, e1, hq, hl, hw⟩ := hw
  subst e1
  cases r
  obtain ⟨its, rv, ht, hz⟩ := I.tuple hq
  refine assign_Tuple_tuple (I.ok.hd hc) ht (by simp [hn, <- hl, rv.length]) hst fun h' hx => ?_
  have I1 : Inv X pins σ H { s with heap := h' } := I.kept (t' := s.toks) fun b o e => hx b o (Nat.ne_of_lt (Heap.lt_size e)) e
  exact h pins _ σ H xs _ Q I1 (by simpa using rv) hw
def tAsg (te : TE) (g : TG) : TS := fun D σ H => te σ H fun x H1 => g x σ H1 D.nx
theorem ps_set {i : Nat} {x : Str} {e : Expr} {te : TE} {pos' : Pos} (hN : X.N.Nodup) (hi : X.N[i]? = some x) (hx : Loc X.env.scope x) (he : PE X e te) (hs : swapsWith e (some (.Name x pos')) pos.line X.env = pure false := by rfl) (hf : X.fn x = true \/ X.env.scope.names.lookup x = some .local := by first | exact .inl rfl | exact .inr rfl | assumption) :
    PS X (.Assign [.Name x pos'] e pos) (tAsg te (gName i)) := by
  intro pins s σ H D I h
  refine wpAny_Assign_Name (thn (he pins s σ H _ I h) fun v s1 ⟨y, H1, I1, r1, q1⟩ => ?_) hs
  exact store_ok I1 hN hi hx r1 (fun s2 I2 => ⟨_, H1, I2, q1⟩) hf
end
section
variable {X : Cx} {pos : Pos}
def tWhile (c : TT) (tb : TS) : TS := fun D σ H => ∃ W : Nat -> St -> Hp -> Prop, (∃ m, W m σ H) /\ ∀ m σ H, W m σ H ->
  c σ H fun b H1 => if b = true then ∃ N : St -> Hp -> Prop, (∀ σ' H', N σ' H' -> ∃ m', m' < m /\ W m' σ' H') /\ tb { D with nx := N, ct := N, bk := D.nx } σ H1 else D.nx σ H1
theorem ps_while {c : Expr} {body : List Stmt} {tc : TT} {tb : TS} (hp : PassesOwn (model X.prog X.w) X.A X.env X.xe) (hc : PT X c tc) (hb : PSs X body tb) : PS X (.While c body [] pos) (tWhile tc tb) := by
  intro pins s σ H D I h
  obtain ⟨W, ⟨m0, w0⟩, turn⟩ := h
  refine wpAny_While (codeAny_whileLoop (fun n s' => ∃ σ' H', Inv X pins σ' H' s' /\ W n σ' H') ?_ m0 ⟨σ, H, I, w0⟩)
  rintro n s1 ⟨σ1, H1, I1, w1⟩
  refine wpAny_passesOwn hp (thn (hc pins s1 σ1 H1 _ I1 (turn n σ1 H1 w1)) fun b s2 ⟨H2, I2, q2⟩ => ?_)
  cases b with
  | true =>
    obtain ⟨N, hN, q2⟩ := q2
    rw [if_pos rfl]
    refine wpAny_passesOwn hp (thn (hb pins s2 σ1 H2 _ I2 q2) fun f s3 q3 => ?_)
    cases f with
    | next =>
      obtain ⟨σ3, H3, I3, n3⟩ := q3
      obtain ⟨m', hm, w3⟩ := hN σ3 H3 n3
      exact ⟨m', hm, σ3, H3, I3, w3⟩
    | cont =>
      obtain ⟨σ3, H3, I3, n3⟩ := q3
      obtain ⟨m', hm, w3⟩ := hN σ3 H3 n3
      exact ⟨m', hm, σ3, H3, I3, w3⟩
    | brk => exact q3
    | ret v => exact q3
  | false =>
    rw [if_neg Bool.false_ne_true]
    exact wpAny_execs_nil ⟨σ1, H2, I2, q2⟩
end
structure It where
  go : Nat -> Hp -> Prop
  yld : Nat -> Hp -> V -> Hp -> Prop
  stop : Nat -> Hp -> Prop
def FpOk (X : Cx) (pins : List (Addr × Obj)) (H : Hp) (b : Addr) : Prop :=
  H b = none /\ b ≠ X.env.locals /\ b ∉ X.fs /\ (b ∈ X.ex \/ X.s₀.heap.objs.size <= b) /\ (∀ x c, X.env.cells.lookup x = some c -> c ≠ b) /\ ∀ p ∈ X.pn ++ pins, p.1 ≠ b
theorem Inv.fpOk {X : Cx} {pins : List (Addr × Obj)} {σ : St} {H H' : Hp} {s : Shared} {b : Addr} (I : Inv X pins σ H s) (hb : s.heap.objs.size <= b) (hn : H' b = none) : FpOk X pins H' b := by
  refine ⟨hn, Nat.ne_of_gt (Nat.lt_of_lt_of_le I.lt hb), I.nofs hb, .inr (Nat.le_trans I.sz hb), fun x c e z => ?_, fun p hp z => ?_⟩
  . obtain ⟨v, q⟩ := I.cell x c e
    exact absurd (Nat.lt_of_lt_of_le q.lt (by rw [z]; exact hb)) (Nat.lt_irrefl _)
  . exact absurd (Nat.lt_of_lt_of_le (Heap.lt_size (I.pin p hp).1) (by rw [z]; exact hb)) (Nat.lt_irrefl _)
structure Turn (P : Program) (w : World) (K : PySem.W.Frag) (tg : Expr) (J : It) (fp : List Addr) (it : Addr) (tn : Nat -> Heap -> Prop) : Prop where
  mem : it ∈ fp
  obj : ∀ i h, tn i h -> ∀ b ∈ fp, ∃ o, h.get? b = some o /\ ∀ v, o.data ≠ .cell v
  keep : ∀ i h h', tn i h -> (∀ b ∈ fp, ∀ o, h.get? b = some o -> h'.get? b = some o) -> tn i h'
  item : ∀ (X : Cx), X.prog = P -> X.w = w -> X.K = K -> X.calm = true -> ∀ (i : Nat) (pins : List (Addr × Obj)) (s : Shared) (σ : St) (H : Hp) (E : Value -> Shared -> Prop), Inv X pins σ H s -> (∀ b ∈ fp, FpOk X pins H b) -> tn i s.heap -> J.go i H ->
    wpAny (model P w) X.A (pyNext (.ref it)) (fun r s1 => ∃ u, r = some u /\
      wpAny (model P w) X.A (letOwnedTupleGo tg (.ref it) u) (fun _ s2 => ∃ x H', Inv X pins σ H' s2 /\ RelV x u /\ J.yld i H x H' /\ tn (i + 1) s2.heap /\ ∀ b ∈ fp, H' b = none) E s1) E s
  done : ∀ (X : Cx), X.prog = P -> X.w = w -> X.K = K -> X.calm = true -> ∀ (i : Nat) (pins : List (Addr × Obj)) (s : Shared) (σ : St) (H : Hp) (E : Value -> Shared -> Prop), Inv X pins σ H s -> (∀ b ∈ fp, FpOk X pins H b) -> tn i s.heap -> J.stop i H ->
    wpAny (model P w) X.A (pyNext (.ref it)) (fun r s1 => r = none /\ Inv X pins σ H s1) E s
  self : ∀ (A : Around) (i : Nat) (s : Shared) (Q : Value -> Shared -> Prop) (E : Value -> Shared -> Prop), tn i s.heap -> Q (.ref it) s -> wpAny (model P w) A (pyIter (.ref it)) Q E s
abbrev TI := St -> Hp -> (It -> Hp -> Prop) -> Prop
def PIE (X : Cx) (pins : List (Addr × Obj)) (σ : St) (tg : Expr) (R : It -> Hp -> Prop) (itv : Value) (s2 : Shared) : Prop :=
  ∃ (it : Addr) (fp : List Addr) (tn : Nat -> Heap -> Prop) (J : It) (H' : Hp), itv = .ref it /\ Inv X pins σ H' s2 /\ Turn X.prog X.w X.K tg J fp it tn /\ tn 0 s2.heap /\ (∀ b ∈ fp, FpOk X pins H' b) /\ R J H'
def PI (X : Cx) (tg iter : Expr) (wi : TI) : Prop :=
  ∀ (pins : List (Addr × Obj)) (s : Shared) (σ : St) (H : Hp) (R : It -> Hp -> Prop), Inv X pins σ H s -> wi σ H R ->
    wpAny (model X.prog X.w) X.A (eval iter X.env) (fun v s1 => wpAny (model X.prog X.w) X.A (pyIter v) (PIE X pins σ tg R) X.xe s1) X.xe s
theorem go_of {M : Model} {A : Around} {E : Value -> Shared -> Prop} {s : Shared} {tg : Expr} {it : Addr} {u : Value} {o : Obj} {n : String} {vs : Array Value} {Q : Unit -> Shared -> Prop} (ho : s.heap.get? it = some o) (hc : o.cls = .type n) (hd : o.data = .fields vs)
    (hn : ["enumerate", "zip", "dict_itemiterator", "dict_reverseitemiterator", "odict_iterator", "itertools.zip_longest", "itertools.pairwise"].contains n = false) (hQ : Q () s) : wpAny M A (letOwnedTupleGo tg (.ref it) u) Q E s := by
  unfold letOwnedTupleGo
  cases tg <;> first
    | exact wpAny_pure hQ
    | (cases u <;> first
        | exact wpAny_pure hQ
        | (refine wpAny_bind (wpAny_load ho ?_)
           rw [hc, hd]
           show wpAny M A (if (["enumerate", "zip", "dict_itemiterator", "dict_reverseitemiterator", "odict_iterator", "itertools.zip_longest", "itertools.pairwise"].contains n && vs[0]? == some (rawInt _)) = true then _ else _) Q E s
           rw [if_neg (by intro h; rw [hn, Bool.false_and] at h; cases h)]
           exact wpAny_pure hQ))
def Itl (K : PySem.W.Frag) (a : Addr) : It :=
  ⟨fun i H => ∃ xs x, SqL K H a xs /\ xs[i]? = some x, fun i H x H' => H' = H /\ ∀ xs, SqL K H a xs -> xs[i]? = some x, fun i H => ∃ xs, SqL K H a xs /\ xs.length <= i⟩
def Itt (K : PySem.W.Frag) (a : Addr) : It :=
  ⟨fun i H => ∃ xs x, SqT K H a xs /\ xs[i]? = some x, fun i H x H' => H' = H /\ ∀ xs, SqT K H a xs -> xs[i]? = some x, fun i H => ∃ xs, SqT K H a xs /\ xs.length <= i⟩
def Itr (lo : Int) (n : Nat) : It := ⟨fun i _ => i < n, fun i H x H' => H' = H /\ x = .int (lo + i), fun i _ => n <= i⟩
theorem turn_list {P : Program} {w : World} {K : PySem.W.Frag} {tg : Expr} (a it : Addr) : Turn P w K tg (Itl K a) [it] it (fun i h => h.IsListIter it a i) where
  mem := by simp
  obj := fun i h st b hb => by
    have e : b = it := by simpa using hb
    subst e
    obtain ⟨o, e, c, d⟩ := st
    exact ⟨o, e, fun v z => by rw [d] at z; cases z⟩
  keep := fun i h h' st k => st.at fun o e => k it (by simp) o e
  item := by
    intro X hP hw hK hc i pins s σ H E I hf st hg
    subst hP hw hK
    obtain ⟨xs, x, hq, hx⟩ := hg
    obtain ⟨its, rv, p, hz⟩ := I.list hq
    obtain ⟨u, hu, ru⟩ := rv.get hx
    obtain ⟨f0, f1, f2, f3, f4, f5⟩ := hf it (by simp)
    refine wpAny_pyNext_list_item st p.isList (x := u) (by simpa using hu) fun h' st' sb => ?_
    have I1 : Inv X pins σ H { s with heap := h' } := I.turned (t' := s.toks) (fun b o hb e => (sb.2 b hb).trans e) f0 f1 f3 f4 f5
    obtain ⟨o, e, c, d⟩ := id st'
    exact ⟨u, rfl, go_of (s := { s with heap := h' }) e c d (by decide) ⟨x, H, I1, ru, ⟨rfl, fun ys hy => by rw [I.list_inj hy hq]; exact hx⟩, st', fun b hb => (hf b hb).1⟩⟩
  done := by
    intro X hP hw hK hc i pins s σ H E I hf st hg
    subst hP hw hK
    obtain ⟨xs, hq, hx⟩ := hg
    obtain ⟨its, rv, p, hz⟩ := I.list hq
    obtain ⟨f0, f1, f2, f3, f4, f5⟩ := hf it (by simp)
    have hl := rv.length
    exact wpAny_pyNext_list_end (I.ok.hd hc) st p.isList (by simp; omega) fun h' eb => ⟨rfl, I.turned (t' := s.toks) (fun b o hb e => eb b o hb e) f0 f1 f3 f4 f5⟩
  self := fun _ _ _ _ _ st h => wpAny_pyIter_listiter st h
theorem turn_tuple {P : Program} {w : World} {K : PySem.W.Frag} {tg : Expr} (a it : Addr) : Turn P w K tg (Itt K a) [it] it (fun i h => h.IsTupleIter it a i) where
  mem := by simp
  obj := fun i h st b hb => by
    have e : b = it := by simpa using hb
    subst e
    obtain ⟨o, e, c, d⟩ := st
    exact ⟨o, e, fun v z => by rw [d] at z; cases z⟩
  keep := fun i h h' st k => st.at fun o e => k it (by simp) o e
  item := by
    intro X hP hw hK hc i pins s σ H E I hf st hg
    subst hP hw hK
    obtain ⟨xs, x, hq, hx⟩ := hg
    obtain ⟨its, rv, p, hz⟩ := I.tuple hq
    obtain ⟨u, hu, ru⟩ := rv.get hx
    obtain ⟨f0, f1, f2, f3, f4, f5⟩ := hf it (by simp)
    refine wpAny_pyNext_tuple_item st (show s.heap.IsTuple a its.toArray from p) (x := u) (by simpa using hu) fun h' st' sb => ?_
    have I1 : Inv X pins σ H { s with heap := h' } := I.turned (t' := s.toks) (fun b o hb e => (sb.2 b hb).trans e) f0 f1 f3 f4 f5
    obtain ⟨o, e, c, d⟩ := id st'
    exact ⟨u, rfl, go_of (s := { s with heap := h' }) e c d (by decide) ⟨x, H, I1, ru, ⟨rfl, fun ys hy => by rw [I.tuple_inj hy hq]; exact hx⟩, st', fun b hb => (hf b hb).1⟩⟩
  done := by
    intro X hP hw hK hc i pins s σ H E I hf st hg
    subst hP hw hK
    obtain ⟨xs, hq, hx⟩ := hg
    obtain ⟨its, rv, p, hz⟩ := I.tuple hq
    obtain ⟨f0, f1, f2, f3, f4, f5⟩ := hf it (by simp)
    have hl := rv.length
    exact wpAny_pyNext_tuple_end (I.ok.hd hc) st (show s.heap.IsTuple a its.toArray from p) (by simp; omega) fun h' eb => ⟨rfl, I.turned (t' := s.toks) (fun b o hb e => eb b o hb e) f0 f1 f3 f4 f5⟩
  self := fun _ _ _ _ _ st h => wpAny_pyIter_tupleiter st h
theorem turn_range {P : Program} {w : World} {K : PySem.W.Frag} {tg : Expr} (it : Addr) (lo : Int) (n : Nat) : Turn P w K tg (Itr lo n) [it] it (fun i h => IsRangeIter h it (lo + (i : Nat) * 1) ((n : Int) - (i : Nat)) 1) where
  mem := by simp
  obj := fun i h st b hb => by
    have e : b = it := by simpa using hb
    subst e
    exact ⟨_, st, fun v z => by
      have z' : Data.fields _ = Data.cell v := z
      cases z'⟩
  keep := fun i h h' st k => k it (by simp) _ st
  item := by
    intro X hP hw hK hc i pins s σ H E I hf st hg
    subst hP hw hK
    obtain ⟨f0, f1, f2, f3, f4, f5⟩ := hf it (by simp)
    have W := Walks.range (prog := X.prog) (w := X.w) (I.ok.hd hc) it lo 1 n
    refine W.item i s _ _ hg st fun v h' tk hv st' kk => ?_
    obtain ⟨t, rfl⟩ := hv
    have I1 : Inv X pins σ H { s with heap := h', toks := tk } := I.turned (fun b o hb e => kk b o (by simpa using hb) e) f0 f1 f3 f4 f5
    refine ⟨_, rfl, go_of (s := { s with heap := h', toks := tk }) (n := "range_iterator") st' rfl rfl (by decide) ⟨.int (lo + i), H, I1, ⟨t, ?_⟩, ⟨rfl, rfl⟩, st', fun b hb => (hf b hb).1⟩⟩
    rw [Int.mul_one]
  done := by
    intro X hP hw hK hc i pins s σ H E I hf st hg
    subst hP hw hK
    obtain ⟨f0, f1, f2, f3, f4, f5⟩ := hf it (by simp)
    exact wpAny_pyNext_range_end (I.ok.hd hc) st (by have : n <= i := hg; omega) fun h' eb => ⟨rfl, I.turned (t' := s.toks) (fun b o hb e => eb b o hb e) f0 f1 f3 f4 f5⟩
  self := fun _ _ _ _ _ st h => wpAny_pyIter_rangeiter st h
end L2
namespace L2
open PySem PySem.Spec PyProof.Rows
section
variable {X : Cx} {tg : Expr}
def iList (K : PySem.W.Frag) (tl : TE) : TI := fun σ H R => tl σ H fun x H1 => ∃ a, x = .ref a /\ (∃ xs, SqL K H1 a xs) /\ R (Itl K a) H1
def iTup (K : PySem.W.Frag) (tl : TE) : TI := fun σ H R => tl σ H fun x H1 => ∃ a, x = .ref a /\ (∃ xs, SqT K H1 a xs) /\ R (Itt K a) H1
theorem pi_list {l : Expr} {tl : TE} (hl : PE X l tl) : PI X tg l (iList X.K tl) := by
  intro pins s σ H R I h
  refine thn (hl pins s σ H _ I h) fun v s1 ⟨x, H1, I1, r1, q1⟩ => ?_
  obtain ⟨a, e, ⟨xs, hq⟩, q⟩ := q1
  subst e
  cases r1
  obtain ⟨its, rv, p, hz⟩ := I1.list hq
  refine wpAny_pyIter_list p.isList ?_
  refine ⟨s1.heap.objs.size, [s1.heap.objs.size], _, _, H1, rfl, I1.kept (t' := s1.toks) fun b o e => Heap.get?_push_of_some _ e, turn_list a _, ⟨_, Heap.get?_push_size _ rfl, rfl, rfl⟩, fun b hb => ?_, q⟩
  have e : b = s1.heap.objs.size := by simpa using hb
  subst e
  exact I1.fpOk (Nat.le_refl _) (I1.hok.fresh (Nat.le_refl _))
theorem pi_tup {l : Expr} {tl : TE} (hl : PE X l tl) : PI X tg l (iTup X.K tl) := by
  intro pins s σ H R I h
  refine thn (hl pins s σ H _ I h) fun v s1 ⟨x, H1, I1, r1, q1⟩ => ?_
  obtain ⟨a, e, ⟨xs, hq⟩, q⟩ := q1
  subst e
  cases r1
  obtain ⟨its, rv, p, hz⟩ := I1.tuple hq
  refine wpAny_pyIter_tuple (show s1.heap.IsTuple a its.toArray from p) ?_
  refine ⟨s1.heap.objs.size, [s1.heap.objs.size], _, _, H1, rfl, I1.kept (t' := s1.toks) fun b o e => Heap.get?_push_of_some _ e, turn_tuple a _, ⟨_, Heap.get?_push_size _ rfl, rfl, rfl⟩, fun b hb => ?_, q⟩
  have e : b = s1.heap.objs.size := by simpa using hb
  subst e
  exact I1.fpOk (Nat.le_refl _) (I1.hok.fresh (Nat.le_refl _))
theorem range_it {pins : List (Addr × Obj)} {σ : St} {H : Hp} {s : Shared} {R : It -> Hp -> Prop} {E : Value -> Shared -> Prop} {lo hi : Int} {t u v : Tok} {tk : Nat} (I : Inv X pins σ H s) (h1 : -(2 ^ 62) <= lo) (h2 : lo < 2 ^ 62) (h3 : -(2 ^ 62) <= hi) (h4 : hi < 2 ^ 62)
    (q : R (Itr lo (hi - lo).toNat) H) : wpAny (model X.prog X.w) X.A (pyIter (.ref s.heap.objs.size)) (PIE X pins σ tg R) E { s with heap := s.heap.push { cls := .type "range", data := .fields #[.int lo t, .int hi u, .int 1 v] }, toks := tk } := by
  refine wpAny_pyIter_range (IsRange.new ..) (small_one h1 h2 h3 h4) ?_
  have I1 : Inv X pins σ H { s with heap := s.heap.push { cls := .type "range", data := .fields #[.int lo t, .int hi u, .int 1 v] }, toks := tk } := I.kept fun b o e => Heap.get?_push_of_some _ e
  refine ⟨(s.heap.push { cls := .type "range", data := .fields #[.int lo t, .int hi u, .int 1 v] }).objs.size, [(s.heap.push { cls := .type "range", data := .fields #[.int lo t, .int hi u, .int 1 v] }).objs.size], _, _, H, rfl,
    I1.kept (t' := tk) fun b o e => Heap.get?_push_of_some _ e, turn_range _ lo (hi - lo).toNat, ?_, fun b hb => ?_, q⟩
  . have e1 : lo + ((0 : Nat) : Int) * 1 = lo := by simp
    have e2 : (((hi - lo).toNat : Nat) : Int) - ((0 : Nat) : Int) = Builtin.Range.rangeSize lo hi 1 := by rw [rangeSize_one]; split <;> omega
    show IsRangeIter _ _ (lo + ((0 : Nat) : Int) * 1) ((((hi - lo).toNat : Nat) : Int) - ((0 : Nat) : Int)) 1
    rw [e1, e2]
    exact Heap.get?_push_size _ rfl
  . have e : b = (s.heap.push { cls := .type "range", data := .fields #[.int lo t, .int hi u, .int 1 v] }).objs.size := by simpa using hb
    subst e
    exact I1.fpOk (Nat.le_refl _) (I1.hok.fresh (Nat.le_refl _))
def iRng1 (ta : TA) : TI := fun σ H R => ta σ H fun vs H1 => ∃ j : Int, vs = [.int j] /\ -(2 ^ 62) <= j /\ j < 2 ^ 62 /\ R (Itr 0 j.toNat) H1
theorem pi_range1 {a : Expr} {ta : TA} {p pos : Pos} (hg : Gl X "range") (hm : X.mg "range" = none) (ha : PA X [a] ta) (hs : starEach [a] X.env = [(false, eval a X.env)] := by rfl) : PI X tg (.Call (.Name "range" p) [a] [] pos) (iRng1 ta) := by
  intro pins s σ H R I h
  refine Call_ (ld_blt I hg hm boot_range (PyProof.Rows.callWith_type1 (thn (ha pos pins s σ H _ I h) fun us s1 ⟨vs, H1, I1, r1, q1⟩ => ?_) hs rfl))
  obtain ⟨j, e, q1, q2, q⟩ := q1
  subst e
  cases r1 with
  | cons r rr =>
    cases rr
    obtain ⟨t, rfl⟩ := r
    exact call_range_1 (range_it I1 (by omega) (by omega) q1 q2 (by simpa using q))
def tFor (wi : TI) (g : TG) (tb : TS) : TS := fun D σ H => wi σ H fun J H1 => ∃ W : Nat -> Nat -> St -> Hp -> Prop, (∃ m, W 0 m σ H1) /\ ∀ i m σ H, W i m σ H ->
  (J.stop i H /\ D.nx σ H) \/ (J.go i H /\ ∃ N : St -> Hp -> Prop, (∀ σ' H', N σ' H' -> ∃ m', m' < m /\ W (i + 1) m' σ' H') /\ ∀ x H', J.yld i H x H' -> g x σ H' fun σ2 H2 => tb { D with nx := N, ct := N, bk := D.nx } σ2 H2)
def pinsAt (fp : List Addr) (h : Heap) : List (Addr × Obj) := fp.filterMap fun b => (h.get? b).map fun o => (b, o)
theorem mem_pinsAt {fp : List Addr} {h : Heap} {b : Addr} {o : Obj} (hb : b ∈ fp) (e : h.get? b = some o) : (b, o) ∈ pinsAt fp h := List.mem_filterMap.mpr ⟨b, hb, by rw [e]; rfl⟩
theorem of_pinsAt {fp : List Addr} {h : Heap} {p : Addr × Obj} (hp : p ∈ pinsAt fp h) : p.1 ∈ fp /\ h.get? p.1 = some p.2 := by
  obtain ⟨b, hb, e⟩ := List.mem_filterMap.mp hp
  cases q : h.get? b with
  | none => rw [q] at e; cases e
  | some o =>
    rw [q] at e
    have e' : (b, o) = p := Option.some.inj e
    subst e'
    exact ⟨hb, q⟩
theorem Inv.pinned {pins : List (Addr × Obj)} {σ : St} {H : Hp} {s : Shared} {fp : List Addr} (I : Inv X pins σ H s) (hf : ∀ b ∈ fp, FpOk X pins H b) (ho : ∀ b ∈ fp, ∃ o, s.heap.get? b = some o /\ ∀ v, o.data ≠ .cell v) : Inv X (pins ++ pinsAt fp s.heap) σ H s :=
  I.pins_of fun p hp => (List.mem_append.mp hp).elim (fun z => I.pin p (List.mem_append_right _ z)) fun z => by
    obtain ⟨hb, e⟩ := of_pinsAt z
    obtain ⟨f0, f1, f2, _⟩ := hf p.1 hb
    obtain ⟨o, e', d⟩ := ho p.1 hb
    rw [e] at e'; cases e'
    exact ⟨e, f0, f1, f2, d⟩
theorem Inv.unpinned {pins pl : List (Addr × Obj)} {σ : St} {H : Hp} {s : Shared} (I : Inv X (pins ++ pl) σ H s) : Inv X pins σ H s := I.pins_of fun p hp => I.pin p (List.mem_append_right _ (List.mem_append_left _ hp))
theorem ps_for {iter : Expr} {body : List Stmt} {wi : TI} {g : TG} {tb : TS} {pos : Pos} (hp : PassesOwn (model X.prog X.w) X.A X.env X.xe) (hc : X.calm = true) (hi : PI X tg iter wi) (hg : PG X tg g) (hb : PSs X body tb)
    (hs : ∀ x, foldedSetIterable iter X.env x = pure x := by intro _; rfl) : PS X (.For tg iter body [] pos) (tFor wi g tb) := by
  intro pins s σ H D I h
  refine wpAny_For (thn (hi pins s σ H _ I h) fun v s1 h1 => thn h1 fun itv s2 h2 => ?_) hs
  obtain ⟨it, fp, tn, J, H2, e, I2, T, st2, f2, W, ⟨m0, w0⟩, turn⟩ := h2
  subst e
  -- what stays true of the iterator's objects through the loop
  have stat : ∀ {H' : Hp}, (∀ b ∈ fp, H' b = none) -> ∀ b ∈ fp, FpOk X pins H' b := fun hn b hb => ⟨hn b hb, (f2 b hb).2⟩
  refine codeAny_forLoop_any (fun n s' => ∃ i σ' H', Inv X pins σ' H' s' /\ tn i s'.heap /\ (∀ b ∈ fp, H' b = none) /\ W i n σ' H') ?_ m0 ⟨0, σ, H2, I2, st2, fun b hb => (f2 b hb).1, w0⟩
  rintro n s3 ⟨i, σ3, H3, I3, st3, fr3, w3⟩
  rcases turn i n σ3 H3 w3 with ⟨stop, qn⟩ | ⟨go, N, hN, step⟩
  . refine wpAny_passesOwn hp (thn (T.done X rfl rfl rfl hc i pins s3 σ3 H3 X.xe I3 (stat fr3) st3 stop) fun r s4 ⟨hr, I4⟩ => ?_)
    subst hr
    exact wpAny_execs_nil ⟨σ3, H3, I4, qn⟩
  . refine wpAny_passesOwn hp (thn (T.item X rfl rfl rfl hc i pins s3 σ3 H3 X.xe I3 (stat fr3) st3 go) fun r s4 ⟨u, hr, h4⟩ => ?_)
    subst hr
    refine wpAny_passesOwn hp (thn h4 fun _ s5 ⟨x, H5, I5, r5, y5, st5, fr5⟩ => ?_)
    have I5' := I5.pinned (stat fr5) (T.obj _ _ st5)
    refine wpAny_passesOwn hp (thn (hg _ s5 σ3 H5 x u _ I5' r5 (step x H5 y5)) fun _ s6 ⟨σ6, H6, I6, q6⟩ => ?_)
    refine wpAny_passesOwn hp (thn (hb _ s6 σ6 H6 _ I6 q6) fun f s7 q7 => ?_)
    have again : ∀ {σ7 : St} {H7 : Hp}, Inv X (pins ++ pinsAt fp s5.heap) σ7 H7 s7 -> N σ7 H7 -> ∃ m, m < n /\ ∃ i σ' H', Inv X pins σ' H' s7 /\ tn i s7.heap /\ (∀ b ∈ fp, H' b = none) /\ W i m σ' H' := fun {σ7 H7} I7 n7 => by
      obtain ⟨m', hm, w7⟩ := hN σ7 H7 n7
      refine ⟨m', hm, i + 1, σ7, H7, I7.unpinned, T.keep _ _ _ st5 fun b hb o e => (I7.pin (b, o) (List.mem_append_right _ (List.mem_append_right _ (mem_pinsAt hb e)))).1, fun b hb => ?_, w7⟩
      obtain ⟨o, e, d⟩ := T.obj _ _ st5 b hb
      exact (I7.pin (b, o) (List.mem_append_right _ (List.mem_append_right _ (mem_pinsAt hb e)))).2.1
    cases f with
    | next => obtain ⟨σ7, H7, I7, n7⟩ := q7; exact again I7 n7
    | cont => obtain ⟨σ7, H7, I7, n7⟩ := q7; exact again I7 n7
    | brk => obtain ⟨σ7, H7, I7, q7⟩ := q7; exact ⟨σ7, H7, I7.unpinned, q7⟩
    | ret v => obtain ⟨x7, σ7, H7, I7, r7, q7⟩ := q7; exact ⟨x7, σ7, H7, I7.unpinned, r7, q7⟩
end
theorem for_list {K : PySem.W.Frag} {a : Addr} {xs : List V} {g : TG} {tb : TS} {D : Ends} {σ : St} {H : Hp} (Pv : Nat -> St -> Hp -> Prop) (h0 : Pv 0 σ H) (hl : ∀ i σ H, i <= xs.length -> Pv i σ H -> SqL K H a xs)
    (hs : ∀ i x σ H, xs[i]? = some x -> Pv i σ H -> g x σ H fun σ2 H2 => tb { D with nx := Pv (i + 1), ct := Pv (i + 1), bk := D.nx } σ2 H2) (hd : ∀ σ H, Pv xs.length σ H -> D.nx σ H) :
    ∃ W : Nat -> Nat -> St -> Hp -> Prop, (∃ m, W 0 m σ H) /\ ∀ i m σ H, W i m σ H ->
      ((Itl K a).stop i H /\ D.nx σ H) \/ ((Itl K a).go i H /\ ∃ N : St -> Hp -> Prop, (∀ σ' H', N σ' H' -> ∃ m', m' < m /\ W (i + 1) m' σ' H') /\ ∀ x H', (Itl K a).yld i H x H' -> g x σ H' fun σ2 H2 => tb { D with nx := N, ct := N, bk := D.nx } σ2 H2) := by
  refine ⟨fun i m σ H => m = xs.length - i /\ i <= xs.length /\ Pv i σ H, ⟨xs.length, by simp, Nat.zero_le _, h0⟩, ?_⟩
  rintro i m σ H ⟨rfl, hi, p⟩
  have q := hl i σ H hi p
  by_cases hlt : i < xs.length
  . refine .inr ⟨⟨xs, xs[i], q, by simp [hlt]⟩, Pv (i + 1), fun σ' H' p' => ⟨xs.length - (i + 1), by omega, rfl, hlt, p'⟩, fun x H' y => ?_⟩
    obtain ⟨e, y⟩ := y
    subst e
    exact hs i x σ _ (y xs q) p
  . have e : i = xs.length := by omega
    subst e
    exact .inl ⟨⟨xs, q, Nat.le_refl _⟩, hd σ H p⟩
theorem for_tup {K : PySem.W.Frag} {a : Addr} {xs : List V} {g : TG} {tb : TS} {D : Ends} {σ : St} {H : Hp} (Pv : Nat -> St -> Hp -> Prop) (h0 : Pv 0 σ H) (hl : ∀ i σ H, i <= xs.length -> Pv i σ H -> SqT K H a xs)
    (hs : ∀ i x σ H, xs[i]? = some x -> Pv i σ H -> g x σ H fun σ2 H2 => tb { D with nx := Pv (i + 1), ct := Pv (i + 1), bk := D.nx } σ2 H2) (hd : ∀ σ H, Pv xs.length σ H -> D.nx σ H) :
    ∃ W : Nat -> Nat -> St -> Hp -> Prop, (∃ m, W 0 m σ H) /\ ∀ i m σ H, W i m σ H ->
      ((Itt K a).stop i H /\ D.nx σ H) \/ ((Itt K a).go i H /\ ∃ N : St -> Hp -> Prop, (∀ σ' H', N σ' H' -> ∃ m', m' < m /\ W (i + 1) m' σ' H') /\ ∀ x H', (Itt K a).yld i H x H' -> g x σ H' fun σ2 H2 => tb { D with nx := N, ct := N, bk := D.nx } σ2 H2) := by
  refine ⟨fun i m σ H => m = xs.length - i /\ i <= xs.length /\ Pv i σ H, ⟨xs.length, by simp, Nat.zero_le _, h0⟩, ?_⟩
  rintro i m σ H ⟨rfl, hi, p⟩
  have q := hl i σ H hi p
  by_cases hlt : i < xs.length
  . refine .inr ⟨⟨xs, xs[i], q, by simp [hlt]⟩, Pv (i + 1), fun σ' H' p' => ⟨xs.length - (i + 1), by omega, rfl, hlt, p'⟩, fun x H' y => ?_⟩
    obtain ⟨e, y⟩ := y
    subst e
    exact hs i x σ _ (y xs q) p
  . have e : i = xs.length := by omega
    subst e
    exact .inl ⟨⟨xs, q, Nat.le_refl _⟩, hd σ H p⟩
theorem for_range {lo : Int} {n : Nat} {g : TG} {tb : TS} {D : Ends} {σ : St} {H : Hp} (Pv : Nat -> St -> Hp -> Prop) (h0 : Pv 0 σ H)
    (hs : ∀ i σ H, i < n -> Pv i σ H -> g (.int (lo + i)) σ H fun σ2 H2 => tb { D with nx := Pv (i + 1), ct := Pv (i + 1), bk := D.nx } σ2 H2) (hd : ∀ σ H, Pv n σ H -> D.nx σ H) :
    ∃ W : Nat -> Nat -> St -> Hp -> Prop, (∃ m, W 0 m σ H) /\ ∀ i m σ H, W i m σ H ->
      ((Itr lo n).stop i H /\ D.nx σ H) \/ ((Itr lo n).go i H /\ ∃ N : St -> Hp -> Prop, (∀ σ' H', N σ' H' -> ∃ m', m' < m /\ W (i + 1) m' σ' H') /\ ∀ x H', (Itr lo n).yld i H x H' -> g x σ H' fun σ2 H2 => tb { D with nx := N, ct := N, bk := D.nx } σ2 H2) := by
  refine ⟨fun i m σ H => m = n - i /\ i <= n /\ Pv i σ H, ⟨n, by simp, Nat.zero_le _, h0⟩, ?_⟩
  rintro i m σ H ⟨rfl, hi, p⟩
  by_cases hlt : i < n
  . refine .inr ⟨hlt, Pv (i + 1), fun σ' H' p' => ⟨n - (i + 1), by omega, rfl, hlt, p'⟩, fun x H' y => ?_⟩
    obtain ⟨e, y⟩ := y
    subst e y
    exact hs i σ _ hlt p
  . have e : i = n := by omega
    subst e
    exact .inl ⟨Nat.le_refl _, hd σ H p⟩
end L2
namespace L2
open PySem PySem.Spec PyProof.Rows
abbrev R2 := V -> V -> Hp -> VK -> Prop
def OpR (X : Cx) (f : Value -> Value -> Sem Value) (r : R2) : Prop :=
  ∀ (pins : List (Addr × Obj)) (s : Shared) (σ : St) (H : Hp) (x y : V) (v u : Value) (Q : VK), Inv X pins σ H s -> RelV x v -> RelV y u -> r x y H Q ->
    wpAny (model X.prog X.w) X.A (f v u) (EP X pins σ Q) X.xe s
def UnR (X : Cx) (f : Value -> Sem Value) (r : V -> Hp -> VK -> Prop) : Prop :=
  ∀ (pins : List (Addr × Obj)) (s : Shared) (σ : St) (H : Hp) (x : V) (v : Value) (Q : VK), Inv X pins σ H s -> RelV x v -> r x H Q ->
    wpAny (model X.prog X.w) X.A (f v) (EP X pins σ Q) X.xe s
def CallR (X : Cx) (f : Value) (r : List V -> Hp -> VK -> Prop) : Prop :=
  ∀ (pins : List (Addr × Obj)) (s : Shared) (σ : St) (H : Hp) (xs : List V) (us : List Value) (Q : VK), Inv X pins σ H s -> Vals xs us -> r xs H Q ->
    wpAny (model X.prog X.w) X.A (call f us) (EP X pins σ Q) X.xe s
def tOp (r : R2) (ta tb : TE) : TE := fun σ H Q => ta σ H fun x H1 => tb σ H1 fun y H2 => r x y H2 Q
def tUn (r : V -> Hp -> VK -> Prop) (ta : TE) : TE := fun σ H Q => ta σ H fun x H1 => r x H1 Q
def rI (C : Int -> Int -> Prop) (g : Int -> Int -> V) : R2 := fun x y H Q => ∃ i j, x = .int i /\ y = .int j /\ C i j /\ Q (g i j) H
def rI0 (g : Int -> Int -> V) : R2 := fun x y H Q => ∃ i j, x = .int i /\ y = .int j /\ Q (g i j) H
def rU (g : Int -> V) : V -> Hp -> VK -> Prop := fun x H Q => ∃ i, x = .int i /\ Q (g i) H
section
variable {X : Cx} {a b c : Expr} {ta tb tc : TE} {pos : Pos}
theorem binT (ha : PE X a ta) (hb : PE X b tb) {pins : List (Addr × Obj)} {s : Shared} {σ : St} {H : Hp} {R : V -> V -> Hp -> Prop} (I : Inv X pins σ H s)
    (h : ta σ H fun x H1 => tb σ H1 fun y H2 => R x y H2) {Q : Value -> Shared -> Prop} {f : Value -> Value -> Sem Value}
    (hf : ∀ v u s2 x y H2, Inv X pins σ H2 s2 -> RelV x v -> RelV y u -> R x y H2 -> wpAny (model X.prog X.w) X.A (f v u) Q X.xe s2) :
    wpAny (model X.prog X.w) X.A (eval a X.env) (fun v s₁ => wpAny (model X.prog X.w) X.A (eval b X.env) (fun u s₂ => wpAny (model X.prog X.w) X.A (f v u) Q X.xe s₂) X.xe s₁) X.xe s := by
  refine thn (ha pins s σ H _ I h) fun v s1 ⟨x, H1, I1, r1, q1⟩ => ?_
  refine thn (hb pins s1 σ H1 _ I1 q1) fun u s2 ⟨y, H2, I2, r2, q2⟩ => ?_
  exact hf v u s2 x y H2 I2 r1 r2 q2
theorem pe_op {op : Operator} {r : R2} (ho : OpR X (binaryOp op) r) (ha : PE X a ta) (hb : PE X b tb) : PE X (.BinOp a op b pos) (tOp r ta tb) := by
  intro pins s σ H Q I h
  exact wpAny_BinOp (binT ha hb I h fun v u s2 x y H2 I2 rx ry q => ho pins s2 σ H2 x y v u Q I2 rx ry q)
theorem pe_un {op : UnaryOp} {r : V -> Hp -> VK -> Prop} (ho : UnR X (unaryOp op) r) (ha : PE X a ta) : PE X (.UnaryOp op a pos) (tUn r ta) := by
  intro pins s σ H Q I h
  exact UnaryOp_ (thn (ha pins s σ H _ I h) fun v s1 ⟨x, H1, I1, r1, q1⟩ => ho pins s1 σ H1 x v Q I1 r1 q1)
theorem opI {f : Value -> Value -> Sem Value} {C : Int -> Int -> Prop} {g : Int -> Int -> Int}
    (rule : ∀ (i j : Int) (t u : Tok) (s : Shared) (Q : Value -> Shared -> Prop) (E : Value -> Shared -> Prop), C i j -> Q (.int (g i j) s.toks) { s with toks := s.toks + 1 } -> wpAny (model X.prog X.w) X.A (f (.int i t) (.int j u)) Q E s) :
    OpR X f (rI C fun i j => .int (g i j)) := by
  intro pins s σ H x y v u Q I rx ry h
  obtain ⟨i, j, rfl, rfl, hc, q⟩ := h
  obtain ⟨t, rfl⟩ := rx
  obtain ⟨t', rfl⟩ := ry
  exact rule i j t t' s _ _ hc ⟨.int (g i j), H, I.tok _, ⟨_, rfl⟩, q⟩
theorem opI0 {f : Value -> Value -> Sem Value} {g : Int -> Int -> Int}
    (rule : ∀ (i j : Int) (t u : Tok) (s : Shared) (Q : Value -> Shared -> Prop) (E : Value -> Shared -> Prop), Q (.int (g i j) s.toks) { s with toks := s.toks + 1 } -> wpAny (model X.prog X.w) X.A (f (.int i t) (.int j u)) Q E s) :
    OpR X f (rI0 fun i j => .int (g i j)) := by
  intro pins s σ H x y v u Q I rx ry h
  obtain ⟨i, j, rfl, rfl, q⟩ := h
  obtain ⟨t, rfl⟩ := rx
  obtain ⟨t', rfl⟩ := ry
  exact rule i j t t' s _ _ ⟨.int (g i j), H, I.tok _, ⟨_, rfl⟩, q⟩
theorem opB0 {f : Value -> Value -> Sem Value} {g : Int -> Int -> Bool}
    (rule : ∀ (i j : Int) (t u : Tok) (s : Shared) (Q : Value -> Shared -> Prop) (E : Value -> Shared -> Prop), Q (.bool (g i j)) s -> wpAny (model X.prog X.w) X.A (f (.int i t) (.int j u)) Q E s) :
    OpR X f (rI0 fun i j => .bl (g i j)) := by
  intro pins s σ H x y v u Q I rx ry h
  obtain ⟨i, j, rfl, rfl, q⟩ := h
  obtain ⟨t, rfl⟩ := rx
  obtain ⟨t', rfl⟩ := ry
  exact rule i j t t' s _ _ ⟨.bl (g i j), H, I, rfl, q⟩
def CDiv (i j : Int) : Prop := 0 < j /\ j < 1073741824
def CMul (i j : Int) : Prop := (-(2 ^ 64) < i /\ i < 2 ^ 64) \/ (-(2 ^ 64) < j /\ j < 2 ^ 64)
theorem CMul.ok {i j : Int} (h : CMul i j) : IntMulOk i j := by
  rcases h with ⟨h1, h2⟩ | ⟨h1, h2⟩
  . exact .of_left (intBits_le_64 h1 h2)
  . exact .of_right (intBits_le_64 h1 h2)
theorem op_add : OpR X (binaryOp .Add) (rI0 fun i j => .int (i + j)) := opI0 fun _ _ _ _ _ _ _ q => add_int q
theorem op_sub : OpR X (binaryOp .Sub) (rI0 fun i j => .int (i - j)) := opI0 fun _ _ _ _ _ _ _ q => sub_int q
theorem op_mul : OpR X (binaryOp .Mult) (rI CMul fun i j => .int (i * j)) := opI fun _ _ _ _ _ _ _ hc q => mul_int q hc.ok
theorem op_fdiv : OpR X (binaryOp .FloorDiv) (rI CDiv fun i j => .int (i / j)) := opI fun i j _ _ _ _ _ hc q => by
  have h1 : (0 : Int) < j := hc.1
  have h2 : j < 1073741824 := hc.2
  exact floordiv_int (by omega) (by rw [Int.fdiv_eq_ediv_of_nonneg i (by omega)]; exact q) (.inl (PyProof.noPylong_small (by omega)))
theorem op_mod : OpR X (binaryOp .Mod) (rI (fun _ j => 0 < j) fun i j => .int (i % j)) := opI fun i j _ _ _ _ _ hc q => by
  have h1 : (0 : Int) < j := hc
  exact mod_int' (by omega) (by rw [Int.fmod_eq_emod_of_nonneg i (by omega)]; exact q)
theorem unI {f : Value -> Sem Value} {g : Int -> Int}
    (rule : ∀ (i : Int) (t : Tok) (s : Shared) (Q : Value -> Shared -> Prop) (E : Value -> Shared -> Prop), Q (.int (g i) s.toks) { s with toks := s.toks + 1 } -> wpAny (model X.prog X.w) X.A (f (.int i t)) Q E s) :
    UnR X f (rU fun i => .int (g i)) := by
  intro pins s σ H x v Q I rx h
  obtain ⟨i, rfl, q⟩ := h
  obtain ⟨t, rfl⟩ := rx
  exact rule i t s _ _ ⟨.int (g i), H, I.tok _, ⟨_, rfl⟩, q⟩
theorem un_neg : UnR X (unaryOp .USub) (rU fun i => .int (-i)) := unI fun _ _ _ _ _ q => neg_int q
end
def scal : V -> V -> Bool
  | .non, .non => true | .non, .int _ => true | .int _, .non => true | .non, .bl _ => true | .bl _, .non => true | .non, .str _ => true | .str _, .non => true
  | .int _, .int _ => true | .bl _, .bl _ => true | .str _, .str _ => true | .byt _, .byt _ => true
  | .int _, .str _ => true | .str _, .int _ => true | .bl _, .str _ => true | .str _, .bl _ => true
  | _, _ => false
def rEq : R2 := fun x y H Q => scal x y = true /\ Q (.bl (decide (x = y))) H
def rNe : R2 := fun x y H Q => scal x y = true /\ Q (.bl (!decide (x = y))) H
theorem dec_int {i j : Int} : decide (V.int i = V.int j) = (i == j) := by
  rw [Bool.eq_iff_iff]
  simp
theorem dec_bl {i j : Bool} : decide (V.bl i = V.bl j) = (i == j) := by
  rw [Bool.eq_iff_iff]
  simp
theorem dec_str {i j : Str} : decide (V.str i = V.str j) = (i == j) := by
  rw [Bool.eq_iff_iff]
  simp
theorem dec_byt {i j : Array UInt8} : decide (V.byt i = V.byt j) = (i.toList == j.toList) := by
  rw [Bool.eq_iff_iff]
  cases i
  cases j
  simp
section
variable {X : Cx} {a b c : Expr} {ta tb tc : TE} {pos : Pos}
theorem fin_bl {pins : List (Addr × Obj)} {σ : St} {H : Hp} {s : Shared} {Q : VK} {k k' : Bool} (I : Inv X pins σ H s) (q : Q (.bl k) H) (e : k = k') : EP X pins σ Q (.bool k') s := by
  subst e
  exact ⟨.bl k, H, I, rfl, q⟩
theorem op_eq : OpR X (compareOp .Eq) rEq := by
  intro pins s σ H x y v u Q I rx ry h
  obtain ⟨hs, q⟩ := h
  cases x with
  | non =>
    cases rx
    cases y with
    | non => cases ry; exact PySem.EqNone.eq_none_none (fin_bl I q (by simp))
    | bl j => cases ry; exact PySem.EqNone.eq_none_bool (fin_bl I q (by simp))
    | int j => obtain ⟨t', rfl⟩ := ry; exact PySem.EqNone.eq_none_int (fin_bl I q (by simp))
    | str j => obtain ⟨t', rfl⟩ := ry; exact PySem.EqNone.eq_none_str (fin_bl I q (by simp))
    | _ => exact absurd (show false = true from hs) Bool.false_ne_true
  | bl i =>
    cases rx
    cases y with
    | non => cases ry; exact PySem.EqNone.eq_bool_none (fin_bl I q (by simp))
    | bl j => cases ry; exact eq_bool (fin_bl I q dec_bl)
    | str j => obtain ⟨t', rfl⟩ := ry; exact PySem.EqMixed.eq_bool_str (fin_bl I q (by simp))
    | _ => exact absurd (show false = true from hs) Bool.false_ne_true
  | int i =>
    obtain ⟨t, rfl⟩ := rx
    cases y with
    | non => cases ry; exact PySem.EqNone.eq_int_none (fin_bl I q (by simp))
    | int j => obtain ⟨t', rfl⟩ := ry; exact eq_int (fin_bl I q dec_int)
    | str j => obtain ⟨t', rfl⟩ := ry; exact PySem.EqMixed.eq_int_str (fin_bl I q (by simp))
    | _ => exact absurd (show false = true from hs) Bool.false_ne_true
  | str i =>
    obtain ⟨t, rfl⟩ := rx
    cases y with
    | non => cases ry; exact PySem.EqNone.eq_str_none (fin_bl I q (by simp))
    | bl j => cases ry; exact PySem.EqMixed.eq_str_bool (fin_bl I q (by simp))
    | int j => obtain ⟨t', rfl⟩ := ry; exact PySem.EqMixed.eq_str_int (fin_bl I q (by simp))
    | str j => obtain ⟨t', rfl⟩ := ry; exact eq_str (fin_bl I q dec_str)
    | _ => exact absurd (show false = true from hs) Bool.false_ne_true
  | byt i =>
    obtain ⟨t, rfl⟩ := rx
    cases y with
    | byt j => obtain ⟨t', rfl⟩ := ry; exact PySem.W.eq_bytes (fin_bl I q dec_byt)
    | _ => exact absurd (show false = true from hs) Bool.false_ne_true
  | _ => cases y <;> exact absurd (show false = true from hs) Bool.false_ne_true
theorem op_ne : OpR X (compareOp .NotEq) rNe := by
  intro pins s σ H x y v u Q I rx ry h
  obtain ⟨hs, q⟩ := h
  cases x with
  | non =>
    cases rx
    cases y with
    | non => cases ry; exact PySem.EqNone.ne_none_none (fin_bl I q (by simp))
    | bl j => cases ry; exact PySem.EqNone.ne_none_bool (fin_bl I q (by simp))
    | int j => obtain ⟨t', rfl⟩ := ry; exact PySem.EqNone.ne_none_int (fin_bl I q (by simp))
    | str j => obtain ⟨t', rfl⟩ := ry; exact PySem.EqNone.ne_none_str (fin_bl I q (by simp))
    | _ => exact absurd (show false = true from hs) Bool.false_ne_true
  | bl i =>
    cases rx
    cases y with
    | non => cases ry; exact PySem.EqNone.ne_bool_none (fin_bl I q (by simp))
    | bl j => cases ry; exact ne_bool (fin_bl I q (congrArg not dec_bl))
    | str j => obtain ⟨t', rfl⟩ := ry; exact PySem.EqMixed.ne_bool_str (fin_bl I q (by simp))
    | _ => exact absurd (show false = true from hs) Bool.false_ne_true
  | int i =>
    obtain ⟨t, rfl⟩ := rx
    cases y with
    | non => cases ry; exact PySem.EqNone.ne_int_none (fin_bl I q (by simp))
    | int j => obtain ⟨t', rfl⟩ := ry; exact ne_int (fin_bl I q (congrArg not dec_int))
    | str j => obtain ⟨t', rfl⟩ := ry; exact PySem.EqMixed.ne_int_str (fin_bl I q (by simp))
    | _ => exact absurd (show false = true from hs) Bool.false_ne_true
  | str i =>
    obtain ⟨t, rfl⟩ := rx
    cases y with
    | non => cases ry; exact PySem.EqNone.ne_str_none (fin_bl I q (by simp))
    | bl j => cases ry; exact PySem.EqMixed.ne_str_bool (fin_bl I q (by simp))
    | int j => obtain ⟨t', rfl⟩ := ry; exact PySem.EqMixed.ne_str_int (fin_bl I q (by simp))
    | str j => obtain ⟨t', rfl⟩ := ry; exact ne_str (fin_bl I q (congrArg not dec_str))
    | _ => exact absurd (show false = true from hs) Bool.false_ne_true
  | byt i =>
    obtain ⟨t, rfl⟩ := rx
    cases y with
    | byt j => obtain ⟨t', rfl⟩ := ry; exact PySem.W.ne_bytes (fin_bl I q (congrArg not dec_byt))
    | _ => exact absurd (show false = true from hs) Bool.false_ne_true
  | _ => cases y <;> exact absurd (show false = true from hs) Bool.false_ne_true
theorem op_lt : OpR X (compareOp .Lt) (rI0 fun i j => .bl (decide (i < j))) := opB0 fun _ _ _ _ _ _ _ q => lt_int q
theorem op_gt : OpR X (compareOp .Gt) (rI0 fun i j => .bl (decide (j < i))) := opB0 fun _ _ _ _ _ _ _ q => gt_int q
theorem op_ge : OpR X (compareOp .GtE) (rI0 fun i j => .bl (decide (j <= i))) := opB0 fun _ _ _ _ _ _ _ q => ge_int q
theorem op_isN : OpR X (compareOp .Is) (fun x y H Q => y = .non /\ Q (.bl (decide (x = .non))) H) := by
  intro pins s σ H x y v u Q I rx ry h
  obtain ⟨rfl, q⟩ := h
  cases ry
  refine is_none_gen (fin_bl I q ?_)
  cases x <;> first
    | (cases rx; rfl)
    | (obtain ⟨t, rfl⟩ := rx; rfl)
theorem op_notN : OpR X (compareOp .IsNot) (fun x y H Q => y = .non /\ Q (.bl (!decide (x = .non))) H) := by
  intro pins s σ H x y v u Q I rx ry h
  obtain ⟨rfl, q⟩ := h
  cases ry
  refine isnot_none_gen (fin_bl I q ?_)
  cases x <;> first
    | (cases rx; rfl)
    | (obtain ⟨t, rfl⟩ := rx; rfl)
theorem nomark (b : Expr) {op : CmpOp} (h : op ≠ .In := by decide) (h2 : op ≠ .NotIn := by decide) : behindInMarks op b = false := by
  have e1 : (op == CmpOp.In) = false := by cases op <;> first | rfl | exact absurd rfl h
  have e2 : (op == CmpOp.NotIn) = false := by cases op <;> first | rfl | exact absurd rfl h2
  cases b <;> simp [behindInMarks, e1, e2]
theorem pe_cmpR {op : CmpOp} {r : R2} (ho : OpR X (compareOp op) r) (ha : PE X a ta) (hb : PE X b tb) (hm : behindInMarks op b = false) : PE X (.Compare a [op] [b] pos) (tOp r ta tb) := by
  intro pins s σ H Q I h
  exact wpAny_Compare1 (binT ha hb I h fun v u s2 x y H2 I2 rx ry q => ho pins s2 σ H2 x y v u Q I2 rx ry q) hm
def tTest (t : TE) : TT := fun σ H Q => t σ H fun x H' => ∃ k, x = .bl k /\ Q k H'
theorem pt_cmpR {op : CmpOp} {r : R2} (ho : OpR X (compareOp op) r) (ha : PE X a ta) (hb : PE X b tb) (hm : behindInMarks op b = false) : PT X (.Compare a [op] [b] pos) (tTest (tOp r ta tb)) := by
  intro pins s σ H Q I h
  refine wpAny_isTrue_Compare1 (thn (ha pins s σ H _ I h) fun v s1 ⟨x, H1, I1, r1, q1⟩ => thn (hb pins s1 σ H1 _ I1 q1) fun u s2 ⟨y, H2, I2, r2, q2⟩ =>
    thn (ho pins s2 σ H2 x y v u _ I2 r1 r2 q2) fun c s3 ⟨z, H3, I3, r3, k, e, q3⟩ => ?_) hm
  subst e
  cases r3
  exact wpAny_truthy_bool ⟨H3, I3, q3⟩
theorem line63 : (sizeLine : Nat) < 2 ^ 63 := by rw [sizeLine_eq]; decide
theorem vals1 {x : V} {us : List Value} (r : Vals [x] us) : ∃ u, us = [u] /\ RelV x u := by
  cases r with
  | cons r1 r2 => cases r2; exact ⟨_, rfl, r1⟩
theorem vals2 {x y : V} {us : List Value} (r : Vals [x, y] us) : ∃ u w', us = [u, w'] /\ RelV x u /\ RelV y w' := by
  cases r with
  | cons r1 r2 =>
    cases r2 with
    | cons r3 r4 => cases r4; exact ⟨_, _, rfl, r1, r3⟩
theorem call_max2 (hc : X.calm = true) : CallR X (.builtin "max") (fun xs H Q => ∃ i j, xs = [.int i, .int j] /\ Q (.int (if j > i then j else i)) H) := by
  intro pins s σ H xs us Q I r h
  obtain ⟨i, j, rfl, q⟩ := h
  obtain ⟨u, w', rfl, ⟨t, rfl⟩, ⟨t', rfl⟩⟩ := vals2 r
  refine max_two_ints (I.ok.hd hc) fun h' tk k => ⟨_, H, I.kept k, ?_, q⟩
  by_cases hj : j > i
  . rw [if_pos hj, if_pos hj]; exact ⟨_, rfl⟩
  . rw [if_neg hj, if_neg hj]; exact ⟨_, rfl⟩
theorem call_min2 (hc : X.calm = true) : CallR X (.builtin "min") (fun xs H Q => ∃ i j, xs = [.int i, .int j] /\ Q (.int (if j < i then j else i)) H) := by
  intro pins s σ H xs us Q I r h
  obtain ⟨i, j, rfl, q⟩ := h
  obtain ⟨u, w', rfl, ⟨t, rfl⟩, ⟨t', rfl⟩⟩ := vals2 r
  refine min_two_ints (I.ok.hd hc) fun h' tk k => ⟨_, H, I.kept k, ?_, q⟩
  by_cases hj : j < i
  . rw [if_pos hj, if_pos hj]; exact ⟨_, rfl⟩
  . rw [if_neg hj, if_neg hj]; exact ⟨_, rfl⟩
end
end L2
namespace L2
open PySem PySem.Spec PyProof.Rows
structure ObjM (h : Heap) (x dx C : Addr) (mA : Str -> Option Value) : Prop where
  obj : h.get? x = some (PySem.W.instObj C dx)
  ns : h.Ns1 dx mA
  ne : dx ≠ x
theorem lookIn_ns {h : Heap} {dx : Addr} {mA : Str -> Option Value} (n : h.Ns1 dx mA) : ∃ od, h.get? dx = some od /\ ∀ name, PySem.W.lookIn name od = some (mA name) := by
  obtain ⟨o, es, ep, ho, hd, hk, _, hm⟩ := n
  refine ⟨o, ho, fun name => ?_⟩
  have e := hm name
  unfold nsFind findBy at e
  rw [<- Array.find?_toList] at e
  unfold PySem.W.lookIn
  rw [hd]
  dsimp only
  split
  . rename_i y q
    rw [q] at e
    exact congrArg some e
  . rename_i q
    rw [q] at e
    have a : es.toList.any (·.refKey) = false := by
      rw [List.any_eq_false]
      intro y hy
      obtain ⟨z, t, hkey⟩ := hk y (Array.mem_toList_iff.mp hy)
      simp [DictEntry.refKey, hkey]
    have a' : ¬ es.toList.any (·.refKey) = true := by rw [a]; exact Bool.false_ne_true
    rw [if_neg a']
    exact congrArg some e
theorem ObjM.look {h : Heap} {x dx C : Addr} {mA : Str -> Option Value} (I : ObjM h x dx C mA) : ∃ od, PySem.W.InstAt h x (PySem.W.instObj C dx) C (some od) /\ ∀ name, PySem.W.lookIn name od = some (mA name) :=
  let ⟨od, ho, hl⟩ := lookIn_ns I.ns
  ⟨od, ⟨I.obj, rfl, rfl, ho⟩, hl⟩
section
variable {prog : Program} {w : World} {A : Around} {E : Value -> Shared -> Prop} {s : Shared} {K : PySem.W.Frag} {x dx C f : Addr} {mA : Str -> Option Value} {name : Str} {v : Value}
end
theorem RelO.some_of {v : V} {o : Option Value} (r : RelO (some v) o) : ∃ u, o = some u /\ RelV v u := by
  cases o with
  | none => exact (show False from r).elim
  | some u => exact ⟨u, rfl, r⟩
section
variable {P : Program} {w : World} {H H' : Hp} {h h' : Heap} {a C dx : Addr} {fs fs' : List (Str × V)}
theorem ins_get (hok : HOk P w H h) (e : H a = some (.ins C dx fs)) : ∃ mA, ObjM h a dx C mA /\ (∀ f, RelO (fs.lookup f) (mA f)) /\ PySem.Within mA (fs.map (·.1)) /\ fs.length <= 1000 /\ H dx = some (.own a) := by
  obtain ⟨d, z, ne, ob, mA, n, r, q⟩ := (show ObjOk P w H h a (.ins C dx fs) from hok a _ e)
  exact ⟨mA, ⟨ob, n, ne⟩, r, q, z, d⟩
end
structure Cls (K : PySem.W.Frag) (C : Addr) : Prop where
  pg : PySem.W.plainGet K C Str.empty = true
  hd : PySem.W.hasDictIn K C = true
  po : PySem.W.plainOver K C = true
  sa : PySem.W.findIn K (.ref C) "__setattr__" = some (some (.builtin "object.__setattr__"))
theorem Cls.get {K : PySem.W.Frag} {C : Addr} (c : Cls K C) (f : Str) : PySem.W.plainGet K C f = true := c.pg
section
variable {X : Cx} {pins : List (Addr × Obj)} {σ : St} {H : Hp} {s : Shared} {a C dx : Addr} {fs : List (Str × V)} {f : Str} {v : V} {A : Around} {E : Value -> Shared -> Prop}
end
section
variable {X : Cx} {o e value : Expr} {f : Str} {pos pos' tpos : Pos} {ta tv : TE}
end
section
variable {X : Cx} {pins : List (Addr × Obj)} {σ : St} {H : Hp} {s : Shared} {A : Around} {E : Value -> Shared -> Prop} {Q : Value -> Shared -> Prop} {c : Value} {b : Bool}
inductive TyOf (K : PySem.W.Frag) (H : Hp) : V -> Value -> Prop where
  | non : TyOf K H .non (.type "NoneType")
  | bl (x : Bool) : TyOf K H (.bl x) (.type "bool")
  | int (i : Int) : TyOf K H (.int i) (.type "int")
  | str (x : Str) : TyOf K H (.str x) (.type "str")
  | flt (x : UInt64) : TyOf K H (.flt x) (.type "float")
  | lst {a : Addr} {xs : List V} (e : H a = some (.lst xs)) : TyOf K H (.ref a) (.type "list")
  | frz {a : Addr} {o : Obj} {xs : List V} (e : H a = some (.frz o (.lst xs))) : TyOf K H (.ref a) (.type "list")
  | tup {a : Addr} {xs : List V} (e : H a = some (.tup xs)) : TyOf K H (.ref a) (.type "tuple")
  | dK {a : Addr} {kvs : List (Key × V)} (e : H a = some (.dK kvs)) : TyOf K H (.ref a) (.type "dict")
  | dT {a : Addr} {kvs : List (List Key × V)} (e : H a = some (.dT kvs)) : TyOf K H (.ref a) (.type "dict")
  | ins {a C dx : Addr} {fs : List (Str × V)} (e : H a = some (.ins C dx fs)) (cl : Cls K C) (ha : PySem.W.findIn K (.ref C) "__class__" = some (some (.builtin "object.__class__")))
      (hn : PySem.W.specialIn K (.builtin "object.__class__") "__get__" = some (some (.builtin "getset_descriptor.__get__"))) (htk : PySem.W.takesIn K (.builtin "object.__class__") = some true)
      (hm : PySem.W.mroIn K C (.type "object") = some true) : TyOf K H (.ref a) (.ref C)
theorem isinst_ok {x : V} {u t : Value} (I : Inv X pins σ H s) (rx : RelV x u) (ty : TyOf X.K H x t) (e : PySem.W.kitOne X.K t c = some b) (h : ∀ tk, Q (.bool b) { s with toks := tk }) :
    wpAny (model X.prog X.w) A (call (.builtin "isinstance") [u, c]) Q E s := by
  cases ty with
  | non => cases (show u = Value.none from rx); exact PySem.W.kia_one PySem.W.kitx_none I.kIn True.intro e (fun z => nomatch z) h
  | bl y => cases (show u = Value.bool y from rx); exact PySem.W.kia_one PySem.W.kitx_bool I.kIn True.intro e (fun z => nomatch z) h
  | int i => obtain ⟨t, q⟩ := (show ∃ t, u = Value.int i t from rx); cases q; exact PySem.W.kia_one PySem.W.kitx_int I.kIn True.intro e (fun z => nomatch z) h
  | str y => obtain ⟨t, q⟩ := (show ∃ t, u = Value.str y t from rx); cases q; exact PySem.W.kia_one PySem.W.kitx_str I.kIn True.intro e (fun z => nomatch z) h
  | flt y => obtain ⟨t, q⟩ := (show ∃ t, u = Value.float y t from rx); cases q; exact PySem.W.kia_one PySem.W.kitx_float I.kIn True.intro e (fun z => nomatch z) h
  | @lst a xs ea =>
    cases (show u = Value.ref a from rx)
    obtain ⟨_, _, n, _, h1⟩ := (show ObjOk X.prog X.w H s.heap a (.lst xs) from I.hok a _ ea)
    exact PySem.W.kia_one PySem.W.kitx_list I.kIn ⟨_, h1, rfl⟩ e (fun z => nomatch z) h
  | @frz a ob xs ea =>
    cases (show u = Value.ref a from rx)
    obtain ⟨_, _, _, n, _, h1⟩ := (show ObjOk X.prog X.w H s.heap a (.frz ob (.lst xs)) from I.hok a _ ea)
    exact PySem.W.kia_one PySem.W.kitx_list I.kIn ⟨_, h1, rfl⟩ e (fun z => nomatch z) h
  | @tup a xs ea =>
    cases (show u = Value.ref a from rx)
    obtain ⟨_, _, _, p⟩ := (show ObjOk X.prog X.w H s.heap a (.tup xs) from I.hok a _ ea)
    obtain ⟨o, h1, h2, _⟩ := p
    exact PySem.W.kia_one PySem.W.kitx_tuple I.kIn ⟨o, h1, h2⟩ e (fun z => nomatch z) h
  | @dK a kvs ea =>
    cases (show u = Value.ref a from rx)
    obtain ⟨_, _, vs, _, p⟩ := (show ObjOk X.prog X.w H s.heap a (.dK kvs) from I.hok a _ ea)
    obtain ⟨o, es, ep, h1, h2, _⟩ := p
    exact PySem.W.kia_one PySem.W.kitx_dict I.kIn ⟨o, h1, h2.1⟩ e (fun z => nomatch z) h
  | @dT a kvs ea =>
    cases (show u = Value.ref a from rx)
    obtain ⟨_, _, xs, _, o, es, ep, h1, h2, _⟩ := (show ObjOk X.prog X.w H s.heap a (.dT kvs) from I.hok a _ ea)
    exact PySem.W.kia_one PySem.W.kitx_dict I.kIn ⟨o, h1, h2.1⟩ e (fun z => nomatch z) h
  | @ins a C dx fs ea cl ha hn htk hm =>
    cases (show u = Value.ref a from rx)
    obtain ⟨mA, O, _⟩ := ins_get I.hok ea
    obtain ⟨od, J, _⟩ := O.look
    exact PySem.W.kia_one (PySem.W.kitx_own (cl.get _) cl.hd ha hn htk hm) I.kIn J e (fun z => nomatch z) h
end
end L2
namespace L2
open PySem PySem.Spec PyProof.Rows
structure Room (k : Nat) (A : Around) : Prop where
  hd : A.handled = none
  dp : A.depth + 3 * k + 5 < recursionLimit
  un : A.units + 16 * k + 200 < cLine
theorem Room.mono {j k : Nat} {A : Around} (r : Room k A) (h : j <= k) : Room j A := ⟨r.hd, by have := r.dp; omega, by have := r.un; omega⟩
theorem Room.deeper {k : Nat} {A : Around} (r : Room (k + 1) A) (env : Env) : Room k (A.deeper env) :=
  ⟨r.hd, by have := r.dp; show A.depth + 1 + 3 * k + 5 < _; omega, by have := r.un; show A.units + 3 + 16 * k + 200 < _; omega⟩
theorem Room.in1 {k : Nat} {A : Around} (r : Room (k + 1) A) : Room k A.in1 :=
  ⟨r.hd, by have := r.dp; show A.depth + 3 * k + 5 < _; omega, by have := r.un; show A.units + 1 + 16 * k + 200 < _; omega⟩
theorem Room.depth {k : Nat} {A : Around} (r : Room k A) : A.depth < recursionLimit := by have := r.dp; omega
theorem Room.units {k : Nat} {A : Around} (r : Room k A) : A.units + 64 < cLine := by have := r.un; omega
theorem Room.units0 {k : Nat} {A : Around} (r : Room k A) : A.units < cLine := by have := r.un; omega
def tNil : TA := fun _ H Q => Q [] H
def tCons (ta : TE) (tr : TA) : TA := fun σ H Q => ta σ H fun x H1 => tr σ H1 fun xs H2 => Q (x :: xs) H2
section
variable {X : Cx} {e : Expr} {es : List Expr} {te : TE} {t : TA} {pos : Pos}
theorem pa_nil : PA X [] tNil := fun _ _ _ _ H Q I h => Calls.spliced_nil ⟨[], H, I, .nil, h⟩
theorem pa_cons (ha : PE X e te) (hr : PA X es t) (hs : starEach (e :: es) X.env = (false, eval e X.env) :: starEach es X.env := by rfl) : PA X (e :: es) (tCons te t) := by
  intro pos pins s σ H Q I h
  rw [hs]
  show wpAny _ _ (spliced ((false, eval e X.env) :: backTo pos (starEach es X.env))) _ _ s
  refine Calls.spliced_cons (thn (ha pins s σ H _ I h) fun u s1 ⟨x, H1, I1, r1, q1⟩ => ?_)
  exact thn (hr pos pins s1 σ H1 _ I1 q1) fun us s2 ⟨xs, H2, I2, r2, q2⟩ => ⟨x :: xs, H2, I2, .cons r1 r2, q2⟩
def tTup (t : TA) : TE := fun σ H Q => t σ H fun xs H1 => xs.length <= sizeLine /\ ∀ p, H1 p = none -> Q (.ref p) (upd H1 p (.tup xs))
def tLst (t : TA) : TE := fun σ H Q => t σ H fun xs H1 => xs.length <= sizeLine /\ ∀ p, H1 p = none -> Q (.ref p) (upd H1 p (.lst xs))
theorem pe_tup {x1} (h : PA X es t) : PE X (.Tuple es x1 pos) (tTup t) := by
  intro pins s σ H Q I hq
  refine wpAny_Tuple_spliced (thn (h pos pins s σ H _ I hq) fun us s1 ⟨xs, H1, I1, r, z, q⟩ => ⟨by rw [<- r.length]; exact z, ?_⟩)
  have hf : H1 s1.heap.objs.size = none := I1.hok.fresh (Nat.le_refl _)
  refine ⟨.ref s1.heap.objs.size, upd H1 s1.heap.objs.size (.tup xs), I1.laid (t' := s1.toks) (fun b u e => Heap.get?_push_of_some _ e) (Nat.le_refl _) ?_, rfl, q _ hf⟩
  exact ⟨z, us, r, ⟨_, Heap.get?_push_size _ rfl, rfl, _, rfl⟩⟩
theorem pe_lst (h : PA X es t) : PE X (.List es pos) (tLst t) := by
  intro pins s σ H Q I hq
  refine wpAny_List_spliced (thn (h pos pins s σ H _ I hq) fun us s1 ⟨xs, H1, I1, r, z, q⟩ => ⟨by rw [<- r.length]; exact z, ?_⟩)
  have hf : H1 s1.heap.objs.size = none := I1.hok.fresh (Nat.le_refl _)
  refine ⟨.ref s1.heap.objs.size, upd H1 s1.heap.objs.size (.lst xs), I1.laid (t' := s1.toks) (fun b u e => Heap.get?_push_of_some _ e) (Nat.le_refl _) ?_, rfl, q _ hf⟩
  exact ⟨z, us, 0, r, Heap.get?_push_size _ rfl⟩
end
abbrev Sp := List V -> Hp -> VK -> XK -> Prop
abbrev CXT := List Env -> Hp -> Shared -> XK -> Value -> Shared -> Prop
structure Env0 (P : Program) (w : World) (K : PySem.W.Frag) (mg : Str -> Option Value) (base : Heap) (A : Around) (outer : List Env) (s : Shared) (H : Hp) : Prop where
  frames : A.frames = some outer
  mod : Mod K mg base
  bs : ∀ b o, base.get? b = some o -> s.heap.get? b = some o /\ H b = none
  bsz : base.objs.size <= s.heap.objs.size
  funs : s.heap.FunFrames base outer
  frf : ∀ b ∈ frs outer, H b = none
  hok : HOk P w H s.heap
  bare : AllBare s.gens
def CE (outer : List Env) (P : Program) (w : World) (H : Hp) (s : Shared) (Q : VK) (u : Value) (s' : Shared) : Prop :=
  ∃ v H', s'.os = s.os /\ AllBare s'.gens /\ Un (frs outer) [] H H' s.heap s'.heap /\ HOk P w H' s'.heap /\ RelV v u /\ Q v H'
def CR (CX : CXT) (outer : List Env) (P : Program) (w : World) (H : Hp) (s : Shared) (Q : VK) (E : XK) (r : Result) (s' : Shared) : Prop :=
  match r with
  | .ok (.ret u) => CE outer P w H s Q u s'
  | .ok _ => False
  | .error e => CX outer H s E e s'
structure FnOk (P : Program) (w : World) (K : PySem.W.Frag) (mg : Str -> Option Value) (base : Heap) (CX : CXT) (k : Nat) (f : Addr) (fd : FuncData) (ps : List Str) (sp : Sp) : Prop where
  len : ∀ vs H Q E, sp vs H Q E -> vs.length = ps.length
  run : ∀ (A : Around) (outer : List Env) (s : Shared) (H : Hp) (args : Args) (us : List Value) (vs : List V) (Q : VK) (E : XK), Room k A -> Env0 P w K mg base A outer s H -> BindsTo s fd args (ps.zip us) -> Vals vs us -> sp vs H Q E ->
    codeAny (model P w) A (.call (.ref f) args) (CR CX outer P w H s Q E) s
theorem Env0.in1 {P : Program} {w : World} {K : PySem.W.Frag} {mg : Str -> Option Value} {base : Heap} {A : Around} {outer : List Env} {s : Shared} {H : Hp} (e : Env0 P w K mg base A outer s H) :
    Env0 P w K mg base A.in1 outer s H := ⟨e.frames, e.mod, e.bs, e.bsz, e.funs, e.frf, e.hok, e.bare⟩
section
variable {X : Cx} {pins : List (Addr × Obj)} {σ : St} {H : Hp} {s s' : Shared}
theorem Inv.env0 (I : Inv X pins σ H s) : Env0 X.prog X.w X.K X.mg X.base X.A X.stack s H :=
  ⟨I.ok.frames, I.ok.mod, I.bs, Nat.le_trans I.ok.bsz I.sz, I.stack, I.stkFree, I.hok, I.bare⟩
theorem Inv.after {Q : VK} {u : Value} (I : Inv X pins σ H s) (h : CE X.stack X.prog X.w H s Q u s') : EP X pins σ Q u s' := by
  obtain ⟨v, H', os, bare, un, hok, r, q⟩ := h
  obtain ⟨hh, g, d, t, os'⟩ := s'
  obtain rfl : os' = s.os := os
  exact ⟨v, H', I.call (h' := hh) (g' := g) (d' := d) (t' := t) (ch := []) un hok bare (fun b z => absurd z (by simp)), r, q⟩
end
def tCall (sp : Sp) (dvs : List V) (E : XK) (t : TA) : TE := fun σ H Q => t σ H fun vs H1 => sp (vs ++ dvs) H1 Q E
def Binds (K : PySem.W.Frag) (fd : FuncData) (ps : List Str) (ds : List Value) : Prop :=
  ∀ (s : Shared) (us : List Value), K.In s.heap -> (us ++ ds).length = ps.length -> BindsTo s fd ⟨us, []⟩ (ps.zip (us ++ ds))
theorem Binds.all {K : PySem.W.Frag} {fd : FuncData} {ps : List Str} (h : ∀ us : List Value, us.length = ps.length -> bindArgs fd ⟨us, []⟩ = pure (ps.zip us)) : Binds K fd ps [] := fun s us _ hl => by
  rw [List.append_nil] at hl ⊢
  exact .of_eq (h us hl)
def Passes (CX : CXT) (X : Cx) (E : XK) : Prop := ∀ (pins : List (Addr × Obj)) (σ : St) (H : Hp) (s : Shared) (e : Value) (s' : Shared), Inv X pins σ H s -> CX X.stack H s E e s' -> X.xe e s'
section
variable {X : Cx} {CX : CXT} {k : Nat} {f C : Addr} {fd : FuncData} {ps : List Str} {sp : Sp} {dvs : List V} {ds : List Value} {E : XK} {x m : Str} {p pos apos : Pos} {e o : Expr} {es : List Expr} {ta : TE} {t : TA}
theorem run_fn {pins : List (Addr × Obj)} {σ : St} {H : Hp} {s : Shared} {Q : VK} {us : List Value} {vs : List V} (F : FnOk X.prog X.w X.K X.mg X.base CX k f fd ps sp) (hr : Room k X.A) (hb : Binds X.K fd ps ds) (hd : Vals dvs ds) (hx : Passes CX X E)
    (I : Inv X pins σ H s) (r : Vals vs us) (h : sp (vs ++ dvs) H Q E) : wpAny (model X.prog X.w) X.A (call (.ref f) us) (EP X pins σ Q) X.xe s := by
  have r2 : Vals (vs ++ dvs) (us ++ ds) := r.append hd
  have hl : (us ++ ds).length = ps.length := by rw [<- r2.length]; exact F.len _ _ _ _ h
  refine wpAny_call (codeAny_mono (F.run X.A X.stack s H ⟨us, []⟩ (us ++ ds) (vs ++ dvs) Q E hr I.env0 (hb s us I.kIn hl) r2 h) fun r s' hq => ?_)
  cases r with
  | error e => exact hx pins σ H s e s' I hq
  | ok fl =>
    cases fl with
    | ret u => exact I.after hq
    | next => exact False.elim hq
    | brk => exact False.elim hq
    | cont => exact False.elim hq
theorem pe_call (F : FnOk X.prog X.w X.K X.mg X.base CX k f fd ps sp) (hr : Room k X.A) (hg : Gl X x) (hm : X.mg x = some (.ref f)) (hk : PySem.W.keepIn X.K (.ref f) = true) (hb : Binds X.K fd ps ds) (hd : Vals dvs ds) (hx : Passes CX X E)
    (ha : PA X (e :: es) t) (hdb : (x == ("__debug__" : Str)) = false := by decide) (he : starEach (e :: es) X.env = (false, eval e X.env) :: starEach es X.env := by rfl) (hpl : (backTo pos (starEach es X.env)).any (·.1) = false := by rfl) :
    PE X (.Call (.Name x p) (e :: es) [] pos) (tCall sp dvs E t) := by
  intro pins s σ H Q I h
  refine wpAny_Call_Name_kw (ld_glob I hg hm ?_ hdb)
  refine PySem.W.callWith_K (h₀ := X.base) I.ok.mod.kin hk (thn (ha pos pins s σ H _ I h) fun us s1 ⟨vs, H1, I1, r, q⟩ => ⟨I1.kIn, ?_⟩) he hpl
  exact run_fn F hr hb hd hx I1 r q
end
section
variable {X : Cx} {CX : CXT} {k : Nat} {f C : Addr} {fd : FuncData} {ps ks : List Str} {sp : Sp} {E : XK} {x m : Str} {p pos apos kpos : Pos} {e o : Expr} {es : List Expr} {kws : List Keyword} {te ta : TE} {t tk : TA} {nm : Option Str}
variable {g : List Value -> List Value -> List Value} {gV : List V -> List V -> List V}
end
structure FnScope (N P : List Str) (sc : Scope) : Prop where
  kind : sc.kind = .function
  co : sc.isCoroutine = false
  gen : sc.isGenerator = false
  nd : N.Nodup
  pre : N.take P.length = P
  par : ∀ x ∈ P, sc.names.lookup x = some .local \/ sc.names.lookup x = some .cell
  nofree : ∀ y ∈ sc.names, y.2 ≠ .free
theorem bindL_out {kindOf : Str -> Option NameKind} {x : Str} : ∀ {binds : List (Str × Value)} {m : Str -> Option Value}, (∀ v, (x, v) ∉ binds) -> bindL kindOf binds m x = m x
  | [], _, _ => rfl
  | (n, v) :: r, m, h => by
    unfold bindL
    rw [bindL_out fun w hw => h w (List.mem_cons_of_mem _ hw)]
    split
    . have : x ≠ n := by rintro rfl; exact h v List.mem_cons_self
      simp [this]
    . rfl
theorem bindC_out {kindOf : Str -> Option NameKind} {x : Str} : ∀ {binds : List (Str × Value)} {m : Str -> Option Value}, (∀ v, (x, v) ∉ binds) -> bindC kindOf binds m x = m x
  | [], _, _ => rfl
  | (n, v) :: r, m, h => by
    unfold bindC
    rw [bindC_out fun w hw => h w (List.mem_cons_of_mem _ hw)]
    split
    . rfl
    . have : x ≠ n := by rintro rfl; exact h v List.mem_cons_self
      simp [this]
theorem bindL_get {kindOf : Str -> Option NameKind} {x : Str} {v : Value} : ∀ {P : List Str} {vs : List Value} {i : Nat} {m : Str -> Option Value}, P.Nodup -> P[i]? = some x -> vs[i]? = some v -> kindOf x = some .local ->
    bindL kindOf (P.zip vs) m x = some v
  | [], _, _, _, _, h, _, _ => by simp at h
  | _ :: _, [], _, _, _, _, h, _ => by simp at h
  | p :: P, w :: vs, 0, m, nd, h1, h2, hk => by
    simp at h1 h2; subst h1; subst h2
    show bindL kindOf ((p, w) :: P.zip vs) m p = _
    unfold bindL
    rw [bindL_out fun v hv => (List.nodup_cons.mp nd).1 (List.of_mem_zip hv).1, if_pos hk]
    simp
  | p :: P, w :: vs, i + 1, m, nd, h1, h2, hk => by
    show bindL kindOf ((p, w) :: P.zip vs) m x = _
    unfold bindL
    exact bindL_get (i := i) (List.nodup_cons.mp nd).2 (by simpa using h1) (by simpa using h2) hk
theorem bindC_get {kindOf : Str -> Option NameKind} {x : Str} {v : Value} : ∀ {P : List Str} {vs : List Value} {i : Nat} {m : Str -> Option Value}, P.Nodup -> P[i]? = some x -> vs[i]? = some v -> kindOf x ≠ some .local ->
    bindC kindOf (P.zip vs) m x = some v
  | [], _, _, _, _, h, _, _ => by simp at h
  | _ :: _, [], _, _, _, _, h, _ => by simp at h
  | p :: P, w :: vs, 0, m, nd, h1, h2, hk => by
    simp at h1 h2; subst h1; subst h2
    show bindC kindOf ((p, w) :: P.zip vs) m p = _
    unfold bindC
    rw [bindC_out fun v hv => (List.nodup_cons.mp nd).1 (List.of_mem_zip hv).1, if_neg hk]
    simp
  | p :: P, w :: vs, i + 1, m, nd, h1, h2, hk => by
    show bindC kindOf ((p, w) :: P.zip vs) m x = _
    unfold bindC
    exact bindC_get (i := i) (List.nodup_cons.mp nd).2 (by simpa using h1) (by simpa using h2) hk
def start (N : List Str) (vs : List V) : St := vs.map some ++ List.replicate (N.length - vs.length) none
def cxOf (CX : CXT) (P : Program) (w : World) (K : PySem.W.Frag) (mg : Str -> Option Value) (base : Heap) (N : List Str) (qual : Str) (scope : Scope) (f : Addr) (cd : Value) (A : Around) (outer : List Env) (s : Shared) (H : Hp) (E : XK) : Cx where
  prog := P
  w := w
  K := K
  mg := mg
  base := base
  A := A.deeper (envOfC qual scope s.heap.objs.size f cd)
  N := N
  s₀ := s
  H₀ := H
  env := envOfC qual scope s.heap.objs.size f cd
  outer := outer
  stack := envOfC qual scope s.heap.objs.size f cd :: outer
  ex := []
  calm := true
  fn := fun _ => true
  pn := []
  xe := fun e s' => wpAny (model P w) (A.deeper (envOfC qual scope s.heap.objs.size f cd)) (leaving (envOfC qual scope s.heap.objs.size f cd) e) (fun _ s'' => CX outer H s E e s'') (fun e' s'' => CX outer H s E e' s'') s'
theorem cell_has {sc : Scope} {n : Nat} {x : Str} (h : sc.names.lookup x = some .cell) : ∃ c, (cellsFrom n sc.names []).lookup x = some c := by
  have q := PySem.W.cellsFrom_some sc.names n [] (.inl h)
  exact Option.isSome_iff_exists.mp q
theorem inv_start {CX : CXT} {P : Program} {w : World} {K : PySem.W.Frag} {mg : Str -> Option Value} {base : Heap} {N ps : List Str} {qual : Str} {scope : Scope} {f : Addr} {cd : Value} {A : Around} {outer : List Env} {s s1 : Shared} {H : Hp} {E : XK} {us : List Value} {vs : List V}
    (S : FnScope N ps scope) (hd : A.handled = none) (e0 : Env0 P w K mg base A outer s H) (hl : vs.length = ps.length) (r : Vals vs us)
    (x : InCallC s s.heap.objs.size (bindL (envOfC qual scope s.heap.objs.size f cd).kindOf (ps.zip us) fun _ => none) (cellsFrom (s.heap.objs.size + 1) scope.names []) (bindC (envOfC qual scope s.heap.objs.size f cd).kindOf (ps.zip us) fun _ => none) s1) :
    Inv (cxOf CX P w K mg base N qual scope f cd A outer s H E) [] (start N vs) H s1 := by
  have hpl : ps.length <= N.length := by have := congrArg List.length S.pre; rw [List.length_take] at this; omega
  obtain ⟨h1, tk, rfl, hk⟩ := x.done
  have noA : ∀ b : Addr, b ∉ (cxOf CX P w K mg base N qual scope f cd A outer s H E).ex := fun b z => absurd (show b ∈ ([] : List Addr) from z) (by simp)
  refine ⟨⟨e0.mod, S.kind, rfl, rfl, Nat.le_refl _, fun y z c h1 h2 => ?_, fun y hy => ?_, fun y c _ h => ?_, fun _ => hd, Around.frames_deeper e0.frames, .inr ⟨rfl, rfl⟩, fun b z => absurd z (noA b), e0.bs, e0.bsz, fun b _ _ => noA b, fun b z => absurd z (noA b), e0.funs, e0.frf⟩,
    rfl, e0.bare, Un.kept hk, ⟨_, x.toInCall.ns, fun i y v h1 h2 h3 => ?_⟩, fun y c h => ⟨_, x.cell y c h⟩, e0.hok.fresh (Nat.le_refl _), fun y c h => ?_, fun p hp => absurd (show p ∈ ([] : List (Addr × Obj)) from hp) (by simp), e0.hok.kept hk, ?_⟩
  . exact name_of_addr x.apart (PySem.mem_of_lookup h1) (PySem.mem_of_lookup h2)
  . have hy : scope.names.lookup y = some .cell \/ scope.names.lookup y = some .free := hy
    rcases hy with hy | hy
    . exact cell_has hy
    . exact absurd rfl (S.nofree _ (PySem.mem_of_lookup hy))
  . exact Nat.le_of_lt (x.above y c (PySem.mem_of_lookup h))
  . have hi : i < vs.length := by
      unfold start at h2
      by_cases hi : i < vs.length
      . exact hi
      . rw [List.getElem?_append_right (by simpa using hi)] at h2
        rw [List.getElem?_replicate] at h2
        split at h2 <;> cases h2
    have ha : vs[i]? = some v := by
      unfold start at h2
      rw [List.getElem?_append_left (by simpa using hi), List.getElem?_map] at h2
      cases e : vs[i]? with
      | none => rw [e] at h2; cases h2
      | some a => rw [e] at h2; cases h2; rfl
    obtain ⟨u, hu, rv⟩ := r.get ha
    have hp : ps[i]? = some y := by
      rw [<- S.pre, List.getElem?_take_of_lt (by omega)]; exact h1
    have ndP : ps.Nodup := by rw [<- S.pre]; exact S.nd.sublist (List.take_sublist _ _)
    refine ⟨u, rv, ?_⟩
    rcases S.par y (List.mem_of_getElem? hp) with k | k
    . exact .inl ⟨k, bindL_get ndP hp hu k⟩
    . obtain ⟨c, e⟩ := cell_has (n := s.heap.objs.size + 1) k
      refine .inr ⟨.inl k, c, e, ?_⟩
      have q := x.cell y c e
      rw [bindC_get ndP hp hu (by show scope.names.lookup y ≠ _; rw [k]; decide)] at q
      exact q
  . exact e0.hok.fresh (Nat.le_of_lt (x.above y c (PySem.mem_of_lookup h)))
  . unfold start
    show _ = N.length
    rw [List.length_append, List.length_map, List.length_replicate]
    omega
theorem fn_of {CX : CXT} {P : Program} {w : World} {K : PySem.W.Frag} {mg : Str -> Option Value} {base : Heap} {k : Nat} {f : Addr} {name qual : Str} {params : Arguments} {body : List Stmt} {scope : Scope} {dV kV doc pm cdv ct oc : Value} {an od : Option Addr}
    {osl : Array (Option Value)} {N ps : List Str} {sp : Sp} (lk : K.lookup f = some ⟨oc, od, .func (PySem.W.fnOf name qual params body scope dV kV doc pm an cdv ct), osl⟩) (hcd : PySem.W.codeIn K cdv qual = true) (S : FnScope N ps scope)
    (len : ∀ vs H Q E, sp vs H Q E -> vs.length = ps.length)
    (hbody : ∀ (A : Around) (outer : List Env) (s : Shared) (H : Hp) (vs : List V) (Q : VK) (E : XK), Room k (A.deeper (envOfC qual scope s.heap.objs.size f cdv)) -> sp vs H Q E ->
      ∃ t, PSs (cxOf CX P w K mg base N qual scope f cdv A outer s H E) body t /\ t { nx := fun _ H' => Q .non H', rt := Q } (start N vs) H) :
    FnOk P w K mg base CX (k + 1) f (PySem.W.fnOf name qual params body scope dV kV doc pm an cdv ct) ps sp := by
  refine ⟨len, fun A outer s H args us vs Q E hr e0 hb r hsp => ?_⟩
  have hl := len _ _ _ _ hsp
  have KX : K.In s.heap := e0.mod.kin.keeps fun b o e => (e0.bs b o e).1
  have lim : s.heap.NoLimit := e0.mod.nolimit.keeps fun b o e => (e0.bs b o e).1
  have hkind : ∀ y ∈ ps.zip us, scope.names.lookup y.1 = some .local \/ (scope.names.lookup y.1 = some .cell /\ ((cellsFrom (s.heap.objs.size + 1) scope.names []).lookup y.1).isSome = true) := fun ⟨n, v⟩ hy => by
    rcases S.par n (List.of_mem_zip hy).1 with q | q
    . exact .inl q
    . exact .inr ⟨q, PySem.W.cellsFrom_some _ _ _ (.inl q)⟩
  refine codeAny_call_function hr.depth (KX _ _ lk) rfl S.co S.gen rfl (PySem.W.codeRec_of KX hcd) (hb _ _ _ _ ?_)
  refine wpAny_newFunctionEnv_cells S.kind hkind fun env he s1 x => ?_
  subst he
  refine ⟨lim.keeps x.toInCall.keep, codeAny_func ?_⟩
  obtain ⟨t, ht, hq⟩ := hbody A outer s H vs Q E (hr.deeper _) hsp
  have I : Inv (cxOf CX P w K mg base N qual scope f cdv A outer s H E) [] (start N vs) H s1 := inv_start S hr.hd e0 hl r x
  refine wpAny_mono (ht [] s1 (start N vs) H _ I hq) (fun fl s' hs => ?_) fun e s' hs => hs
  have fin : ∀ {σ' : St} {H' : Hp} {v : V} {u : Value}, Inv (cxOf CX P w K mg base N qual scope f cdv A outer s H E) [] σ' H' s' -> RelV v u -> Q v H' -> CE outer P w H s Q u s' :=
    fun {σ' H' v u} J rv q => ⟨v, H', J.os, J.bare, J.base, J.hok, rv, q⟩
  cases fl with
  | ret u =>
    obtain ⟨v, σ', H', J, rv, q⟩ := hs
    exact fin J rv q
  | next =>
    obtain ⟨σ', H', J, q⟩ := hs
    exact fin (v := V.non) (u := Value.none) J rfl q
  | brk =>
    obtain ⟨_, _, _, q⟩ := hs
    exact False.elim q
  | cont =>
    obtain ⟨_, _, _, q⟩ := hs
    exact False.elim q
end L2
namespace L2
open PySem PySem.Spec PyProof.Rows
section
variable {X : Cx} {x : Str} {p pos : Pos} {e : Expr} {es : List Expr} {t : TA} {id T : String} {r : List V -> Hp -> VK -> Prop}
def tCB (r : List V -> Hp -> VK -> Prop) (t : TA) : TE := fun σ H Q => t σ H fun vs H1 => r vs H1 Q
theorem pe_callB (hc : CallR X (.builtin id) r) (hg : Gl X x) (hm : X.mg x = none) (hv : bootBuiltins x = some (.builtin id)) (ha : PA X (e :: es) t) (hn : x ≠ "__name__" := by decide) (hdb : (x == ("__debug__" : Str)) = false := by decide)
    (he : starEach (e :: es) X.env = (false, eval e X.env) :: starEach es X.env := by rfl) (hpl : (backTo pos (starEach es X.env)).any (·.1) = false := by rfl) : PE X (.Call (.Name x p) (e :: es) [] pos) (tCB r t) := by
  intro pins s σ H Q I h
  refine wpAny_Call_Name_kw (ld_blt I hg hm hv ?_ hn hdb)
  exact PyProof.Rows.callWith_builtin1 (thn (ha pos pins s σ H _ I h) fun us s1 ⟨vs, H1, I1, r1, q1⟩ => hc pins s1 σ H1 vs us Q I1 r1 q1) he hpl
theorem pe_callTy (hc : CallR X (.type T) r) (hg : Gl X x) (hm : X.mg x = none) (hv : bootBuiltins x = some (.type T)) (ha : PA X (e :: es) t) (hn : x ≠ "__name__" := by decide) (hdb : (x == ("__debug__" : Str)) = false := by decide)
    (he : starEach (e :: es) X.env = (false, eval e X.env) :: starEach es X.env := by rfl) (hpl : (backTo pos (starEach es X.env)).any (·.1) = false := by rfl) : PE X (.Call (.Name x p) (e :: es) [] pos) (tCB r t) := by
  intro pins s σ H Q I h
  refine wpAny_Call_Name_kw (ld_blt I hg hm hv ?_ hn hdb)
  exact PyProof.Rows.callWith_type1 (thn (ha pos pins s σ H _ I h) fun us s1 ⟨vs, H1, I1, r1, q1⟩ => hc pins s1 σ H1 vs us Q I1 r1 q1) he hpl
end
end L2
namespace HT
open PySem PyProof.Rows
def lexLt : List Int -> List Int -> Bool
  | [], [] => false
  | [], _ :: _ => true
  | _ :: _, [] => false
  | x :: xs, y :: ys => if x = y then lexLt xs ys else decide (x < y)
theorem lexLt_cons (x y : Int) (xs ys : List Int) : lexLt (x :: xs) (y :: ys) = if x = y then lexLt xs ys else decide (x < y) := rfl
theorem lexLt_nil_nil : lexLt [] [] = false := rfl
theorem lexLt_nil_cons (y : Int) (ys : List Int) : lexLt [] (y :: ys) = true := rfl
theorem lexLt_cons_nil (x : Int) (xs : List Int) : lexLt (x :: xs) [] = false := rfl
theorem eqAt_int (A : Around) (s : Shared) (a : Int) (t : Tok) (c : Int) (u : Tok) : ∃ e, SeqAt.EqAt A s (.int a t) (.int c u) e /\ (e = true ↔ a = c) :=
  ⟨(a == c), SeqAt.EqAt.int_int a t c u, by simp⟩
theorem rcLt_int (A : Around) (s : Shared) (a : Int) (t : Tok) (c : Int) (u : Tok) (prog : Program) (w : World) (E : Value -> Shared -> Prop) (Q : Value -> Shared -> Prop) (h : Q (.bool (decide (a < c))) s) :
    wpAny (model prog w) A (richCompare .Lt (.int a t) (.int c u)) Q E s :=
  (PyProof.Rows.lt_int h : wpAny (model prog w) A (compareOp .Lt (.int a t) (.int c u)) Q E s)
section
open PySem.SeqAt
open PySem.AutoSeq1 (wpAny_loadPart')
open PySem.MeetsSeq PySem.MeetsSeq2 PySem.MeetsSeq3
theorem tuple_lt_ints (l b : Addr) (items items2 : Array Value) (n n2 : Nat) (dd dd2 : Option Addr) (sl sl2 : Array (Option Value)) (ns ms : List Int) (hi : IntsAre items.toList ns) (hj : IntsAre items2.toList ms) :
    Meets (Builtin.«tuple.__lt__» ⟨[.ref l, .ref b], []⟩)
      (fun _ R s => s.heap.get? l = some { cls := .type "tuple", dict := dd, data := .seq items n, slots := sl } /\ s.heap.get? b = some { cls := .type "tuple", dict := dd2, data := .seq items2 n2, slots := sl2 } /\
        R (.ok (.ret (.bool (lexLt ns ms)))) s) :=
  .of_wp fun prog w A R s h => by
    obtain ⟨hp, g, d, tk, os⟩ := s; obtain ⟨hl, hb, h⟩ := h
    have f2 := AutoSeq1.sub_tuple_tuple
    have z1 : items.size = ns.length := by rw [<- hi.length]; simp
    have z2 : items2.size = ms.length := by rw [<- hj.length]; simp
    wp_walk using wpAny_loadPart' hl, wpAny_loadPart' hb, wpAny_forIn_list _ (fun rest b s' => b.1 = none /\ s' = ⟨hp, g, d, tk, os⟩ /\ ∃ (vs ws : List Value) (ns' ms' : List Int), rest = vs.zip ws /\
      IntsAre vs ns' /\ IntsAre ws ms' /\ ns'.length + items2.size = ms'.length + items.size /\ R (.ok (.ret (.bool (lexLt ns' ms')))) ⟨hp, g, d, tk, os⟩) _
    case turn =>
      rintro ⟨y, x⟩ rest b s' ⟨hb', rfl, vs, ws, ns', ms', hz, hvi, hwi, hlen, hR⟩
      cases hvi with
      | nil => rw [List.zip_nil_left] at hz; cases hz
      | cons a t hvi' =>
        cases hwi with
        | nil => rw [List.zip_nil_right] at hz; cases hz
        | cons c u hwi' =>
          rw [List.zip_cons_cons] at hz
          injection hz with hyx hrest
          injection hyx with hy hx
          subst hy hx
          rw [lexLt_cons] at hR
          simp only [List.length_cons] at hlen
          obtain ⟨e, he, hiff⟩ := eqAt_int A.in1 ⟨hp, g, d, tk, os⟩ a t c u
          refine wpAny_bind (he prog w _ _ ?_)
          cases e with
          | true =>
            rw [if_pos (hiff.mp rfl)] at hR
            wp_walk
            exact ⟨rfl, rfl, _, _, _, _, hrest, hvi', hwi', by omega, hR⟩
          | false =>
            rw [if_neg (fun q => absurd (hiff.mpr q) Bool.false_ne_true)] at hR
            have hri := rcLt_int A.in1 ⟨hp, g, d, tk, os⟩ a t c u prog w
            wp_walk using hri
            exact ⟨_, rfl, by simpa using hR⟩
    case fin =>
      rintro ⟨b1, b2⟩ s' ⟨hb', rfl, vs, ws, ns', ms', hz, hvi, hwi, hlen, hR⟩
      simp only at hb'
      subst hb'
      have hv : lexLt ns' ms' = decide (items.size < items2.size) := by
        cases hvi with
        | nil =>
          cases hwi with
          | nil =>
            simp only [List.length_nil] at hlen
            rw [lexLt_nil_nil]
            exact (decide_eq_false (by omega)).symm
          | cons c u hw =>
            simp only [List.length_nil, List.length_cons] at hlen
            rw [lexLt_nil_cons]
            exact (decide_eq_true (by omega)).symm
        | cons a t hv =>
          cases hwi with
          | nil =>
            simp only [List.length_nil, List.length_cons] at hlen
            rw [lexLt_cons_nil]
            exact (decide_eq_false (by omega)).symm
          | cons c u hw =>
            rw [List.zip_cons_cons] at hz
            cases hz
      rw [hv] at hR
      wp_walk
      exact ⟨_, rfl, by simpa [Builtin.Tuple.tupleCompareSizes] using hR⟩
    case h =>
      exact ⟨rfl, rfl, items.toList, items2.toList, ns, ms, rfl, hi, hj, by omega, h⟩
end
section
variable {prog : Program} {w : World} {A : Around} {E : Value -> Shared -> Prop} {s : Shared}
theorem lt_tupInts {l b : Addr} {items items2 : Array Value} {ns ms : List Int} {Q : Value -> Shared -> Prop} (hl : IsTup s.heap l items) (hb : IsTup s.heap b items2) (hi : IntsAre items.toList ns) (hj : IntsAre items2.toList ms)
    (hu : A.units < cLine) (h : Q (.bool (lexLt ns ms)) s) : wpAny (model prog w) A (compareOp .Lt (.ref l) (.ref b)) Q E s := by
  obtain ⟨⟨cls, dd, data, sl⟩, ho, hc, n, hd⟩ := id hl
  obtain ⟨⟨cls2, dd2, data2, sl2⟩, ho2, hc2, n2, hd2⟩ := id hb
  simp only at hc hd hc2 hd2
  subst hc hd hc2 hd2
  exact richCompare_meets_room (op := .Lt) ⟨_, ho, rfl⟩ ⟨_, ho2, rfl⟩ PySem.F.slot_tuple_lt PySem.F.entry_tuple_lt (PySem.F.args_tuple_lt_2 _ _) (tuple_lt_ints l b items items2 n n2 dd dd2 sl sl2 ns ms hi hj)
    ⟨ho, ho2, show Value.bool (lexLt ns ms) ≠ Value.notImplemented /\ Q (.bool (lexLt ns ms)) s from ⟨(fun x => nomatch x), h⟩⟩ hu
theorem cat_tup {t b : Addr} {vs ws : List Value} {Q : Value -> Shared -> Prop} (ht : IsTup s.heap t vs.toArray) (hb : IsTup s.heap b ws.toArray) (hv : vs ≠ [])
    (h1 : ws = [] -> Q (.ref t) s) (h2 : ws ≠ [] -> Q (.ref s.heap.objs.size) { s with heap := s.heap.push { cls := .type "tuple", data := .seq (vs ++ ws).toArray } })
    (hsz : vs.length + ws.length <= sizeLine) : wpAny (model prog w) A (binaryOp .Add (.ref t) (.ref b)) Q E s := by
  obtain ⟨⟨cls, dd, data, sl⟩, ho, hc, n, hd⟩ := id ht
  obtain ⟨⟨cls2, dd2, data2, sl2⟩, ho2, hc2, n2, hd2⟩ := id hb
  simp only at hc hd hc2 hd2
  subst hc hd hc2 hd2
  have e : vs.toArray ++ ws.toArray = (vs ++ ws).toArray := by simp
  by_cases hw : ws = []
  . exact concat_meets ⟨_, ho, rfl⟩ ⟨_, ho2, rfl⟩ noFill_tuple_add seq_tuple_add PySem.F.slot_tuple_add PySem.F.entry_tuple_add (PySem.F.args_tuple_add_2 _ _)
      (tuple_addW1 t b vs.toArray ws.toArray n n2 dd dd2 sl sl2 (by simpa using hv) (by simp [hw])) ⟨ho, ho2, h1 hw⟩
  . refine concat_meets ⟨_, ho, rfl⟩ ⟨_, ho2, rfl⟩ noFill_tuple_add seq_tuple_add PySem.F.slot_tuple_add PySem.F.entry_tuple_add (PySem.F.args_tuple_add_2 _ _)
      (tuple_addW2 t b vs.toArray ws.toArray n n2 dd dd2 sl sl2 (by simpa using hv) (by simpa using hw) (by rw [List.size_toArray, List.size_toArray]; exact hsz)) ⟨ho, ho2, ?_⟩
    rw [e]
    exact h2 hw
def sIx (n d : Nat) : Option Int -> Nat
  | none => d
  | some v => if v < 0 then (v + (n : Int)).toNat else min v.toNat n
theorem sIx_nat (n d k : Nat) : sIx n d (some (k : Int)) = min k n := by
  show (if (k : Int) < 0 then ((k : Int) + (n : Int)).toNat else min (k : Int).toNat n) = min k n
  rw [if_neg (by omega), Int.toNat_natCast]
end
end HT
namespace L2
open PySem PySem.Spec PyProof.Rows
abbrev TO := St -> Hp -> (Option Int -> Hp -> Prop) -> Prop
def PO (X : Cx) (e : Option Expr) (t : TO) : Prop :=
  ∀ (pins : List (Addr × Obj)) (s : Shared) (σ : St) (H : Hp) (Q : Option Int -> Hp -> Prop), Inv X pins σ H s -> t σ H Q ->
    wpAny (model X.prog X.w) X.A (evalPart e X.env) (fun u s' => ∃ o H', Inv X pins σ H' s' /\ IsPart u o /\ Q o H') X.xe s
def tPart (t : TE) : TO := fun σ H Q => t σ H fun x H1 => ∃ i, x = .int i /\ Q (some i) H1
theorem intsAre_of {ns : List Int} : ∀ {us : List Value}, Vals (ns.map V.int) us -> IntsAre us ns := by
  induction ns with
  | nil => intro us r; rw [List.map_nil] at r; cases r; exact .nil
  | cons n ns ih =>
    intro us r
    rw [List.map_cons] at r
    cases r with
    | cons r1 r2 =>
      obtain ⟨t, e⟩ := r1
      subst e
      exact .cons n t (ih r2)
section
variable {X : Cx} {e : Expr} {te : TE} {lo hi : Option Expr} {tl th : TO} {pos p2 : Pos}
theorem po_some (h : PE X e te) : PO X (some e) (tPart te) := by
  intro pins s σ H Q I hw
  rw [evalPart_some]
  refine thn (h pins s σ H _ I hw) fun u s1 ⟨x, H1, I1, r1, q1⟩ => ?_
  obtain ⟨i, rfl, q⟩ := q1
  obtain ⟨t, rfl⟩ := r1
  exact ⟨some i, H1, I1, .int i t, q⟩
def SlR (X : Cx) (r : V -> Option Int -> Option Int -> Hp -> VK -> Prop) : Prop :=
  ∀ (pins : List (Addr × Obj)) (s : Shared) (σ : St) (H : Hp) (x : V) (v vl vu : Value) (lo hi : Option Int) (sl : Addr) (Q : VK), Inv X pins σ H s -> RelV x v -> s.heap.IsSliceOf sl vl vu .none -> IsPart vl lo -> IsPart vu hi -> r x lo hi H Q ->
    ∃ T id, typeLookup (.type T) "__getitem__" = pure (some (.builtin id)) /\ s.TypeIs v T /\ wpAny (model X.prog X.w) X.A (getItem v (.ref sl)) (EP X pins σ Q) X.xe s
def tSl (r : V -> Option Int -> Option Int -> Hp -> VK -> Prop) (te : TE) (tl th : TO) : TE := fun σ H Q => te σ H fun x H1 => tl σ H1 fun l H2 => th σ H2 fun u H3 => r x l u H3 Q
theorem pe_slice {r : V -> Option Int -> Option Int -> Hp -> VK -> Prop} (hr : SlR X r) (he : PE X e te) (hl : PO X lo tl) (hu : PO X hi th) : PE X (.Subscript e (.Slice lo hi none p2) pos) (tSl r te tl th) := by
  intro pins s σ H Q I h
  refine Subscript_ (thn (he pins s σ H _ I h) fun v s1 ⟨x, H1, I1, r1, q1⟩ => ?_)
  refine wpAny_Slice (thn (hl pins s1 σ H1 _ I1 q1) fun vl s2 ⟨l, H2, I2, pl, q2⟩ => thn (hu pins s2 σ H2 _ I2 q2) fun vu s3 ⟨u, H3, I3, pu, q3⟩ => ?_)
  rw [evalPart_none]
  refine wpAny_pure ?_
  have I4 : Inv X pins σ H3 { s3 with heap := s3.heap.push { cls := .type "slice", data := .fields #[vl, vu, .none] } } := I3.kept (t' := s3.toks) fun b ob q => Heap.get?_push_of_some _ q
  obtain ⟨T, id, hT, ht, hg⟩ := hr pins { s3 with heap := s3.heap.push { cls := .type "slice", data := .fields #[vl, vu, .none] } } σ H3 x v vl vu l u s3.heap.objs.size Q I4 r1 (Heap.IsSliceOf.new ..) pl pu q3
  show wpAny (model X.prog X.w) X.A (subscriptTail e (.Slice lo hi none p2) v (.ref s3.heap.objs.size)) (EP X pins σ Q) X.xe { s3 with heap := s3.heap.push { cls := .type "slice", data := .fields #[vl, vu, .none] } }
  exact tail_any (ops := [.ref s3.heap.objs.size, v]) ht hT hg (by with_unfolding_all rfl)
def cutV (xs : List V) (lo hi : Option Int) : List V := (xs.drop (HT.sIx xs.length 0 lo)).take (HT.sIx xs.length xs.length hi - HT.sIx xs.length 0 lo)
theorem cutV_length (xs : List V) (lo hi : Option Int) : (cutV xs lo hi).length <= xs.length := by
  unfold cutV
  rw [List.length_take, List.length_drop]
  omega
def rLtT (K : PySem.W.Frag) : R2 := fun x y H Q => ∃ a b ns ms, x = .ref a /\ y = .ref b /\ SqT K H a (ns.map V.int) /\ SqT K H b (ms.map V.int) /\ Q (.bl (HT.lexLt ns ms)) H
theorem op_ltT (hu : X.A.units < cLine) : OpR X (compareOp .Lt) (rLtT X.K) := by
  intro pins s σ H x y v u Q I rx ry h
  obtain ⟨a, b, ns, ms, rfl, rfl, ha, hb, q⟩ := h
  cases rx
  cases ry
  obtain ⟨its, r1, p1, _⟩ := I.tuple ha
  obtain ⟨its2, r2, p2, _⟩ := I.tuple hb
  have i1 : IntsAre its.toArray.toList ns := intsAre_of r1
  have i2 : IntsAre its2.toArray.toList ms := intsAre_of r2
  exact HT.lt_tupInts p1 p2 i1 i2 hu ⟨.bl (HT.lexLt ns ms), H, I, rfl, q⟩
def rCatT (K : PySem.W.Frag) : R2 := fun x y H Q => ∃ a b xs ys, x = .ref a /\ y = .ref b /\ SqT K H a xs /\ SqT K H b ys /\ xs ≠ [] /\ xs.length + ys.length <= sizeLine /\
  (ys = [] -> Q (.ref a) H) /\ (ys ≠ [] -> ∀ p, H p = none -> Q (.ref p) (upd H p (.tup (xs ++ ys))))
theorem Vals.nil_iff {xs : List V} {us : List Value} (r : Vals xs us) : us = [] ↔ xs = [] := by
  cases r with
  | nil => simp
  | cons _ _ => simp
theorem op_catT : OpR X (binaryOp .Add) (rCatT X.K) := by
  intro pins s σ H x y v u Q I rx ry h
  obtain ⟨a, b, xs, ys, rfl, rfl, ha, hb, hx, hz, q1, q2⟩ := h
  cases rx
  cases ry
  obtain ⟨its, r1, p1, _⟩ := I.tuple ha
  obtain ⟨its2, r2, p2, _⟩ := I.tuple hb
  refine HT.cat_tup p1 p2 (fun z => hx (r1.nil_iff.mp z)) (fun z => ⟨.ref a, H, I, rfl, q1 (r2.nil_iff.mp z)⟩) (fun z => ?_) (by rw [<- r1.length, <- r2.length]; exact hz)
  refine ⟨.ref s.heap.objs.size, _, I.laid (t' := s.toks) (o := .tup (xs ++ ys)) (fun b ob q => Heap.get?_push_of_some _ q) (Nat.le_refl _) ?_, rfl, q2 (fun w => z (r2.nil_iff.mpr w)) _ (I.hok.fresh (Nat.le_refl _))⟩
  exact ⟨by rw [List.length_append]; exact hz, _, r1.append r2, IsTup.new _ _⟩
end
end L2
namespace L2
open PySem PySem.Spec PyProof.Rows
def ixN (n : Nat) (i : Int) : Option Nat := if 0 <= i then (if i < n then some i.toNat else none) else if -(n : Int) <= i then some (i + n).toNat else none
def atI {α : Type} (xs : List α) (i : Int) : Option α := (ixN xs.length i).bind fun j => xs[j]?
theorem ixN_seq {n : Nat} {i : Int} {j : Nat} (h : ixN n i = some j) : seqIndex? i n = some j /\ j < n /\ -(n : Int) <= i /\ i < n := by
  unfold ixN at h
  by_cases h0 : 0 <= i
  . rw [if_pos h0] at h
    by_cases h1 : i < n
    . rw [if_pos h1] at h
      have e : i.toNat = j := Option.some.inj h
      exact ⟨by rw [seqIndex_of h0 h1, e], by omega, by omega, h1⟩
    . rw [if_neg h1] at h; cases h
  . rw [if_neg h0] at h
    by_cases h1 : -(n : Int) <= i
    . rw [if_pos h1] at h
      have e : (i + n).toNat = j := Option.some.inj h
      exact ⟨by rw [seqIndex_neg (by omega) h1, e], by omega, h1, by omega⟩
    . rw [if_neg h1] at h; cases h
theorem atI_get {α : Type} {xs : List α} {i : Int} {v : α} (h : atI xs i = some v) : ∃ j, seqIndex? i xs.length = some j /\ xs[j]? = some v /\ j < xs.length /\ -(xs.length : Int) <= i /\ i < xs.length := by
  unfold atI at h
  cases e : ixN xs.length i with
  | none => rw [e] at h; cases h
  | some j =>
    rw [e] at h
    obtain ⟨h1, h2, h3, h4⟩ := ixN_seq e
    exact ⟨j, h1, h, h2, h3, h4⟩
theorem atI_nat {α : Type} {xs : List α} {j : Nat} {v : α} (h : xs[j]? = some v) : atI xs (j : Int) = some v := by
  have hj : j < xs.length := (List.getElem?_eq_some_iff.mp h).1
  have e : ixN xs.length (j : Int) = some j := by
    unfold ixN
    rw [if_pos (by omega), if_pos (by omega)]; simp
  unfold atI; rw [e]; exact h
def PlainIx (b : Expr) : Prop := ∀ o i, subscripted b false o i = operate [o, i] (getItem o i)
def IxR (X : Cx) (r : R2) : Prop :=
  ∀ (value slice : Expr) (pins : List (Addr × Obj)) (s : Shared) (σ : St) (H : Hp) (x y : V) (v u : Value) (Q : VK), Inv X pins σ H s -> RelV x v -> RelV y u -> r x y H Q ->
    subscripted slice false v u = operate [v, u] (getItem v u) -> wpAny (model X.prog X.w) X.A (subscriptTail value slice v u) (EP X pins σ Q) X.xe s
def MtR (X : Cx) (id : String) (r : V -> List V -> Hp -> VK -> Prop) : Prop :=
  ∀ (pins : List (Addr × Obj)) (s : Shared) (σ : St) (H : Hp) (x : V) (xs : List V) (v : Value) (us : List Value) (Q : VK), Inv X pins σ H s -> RelV x v -> Vals xs us -> r x xs H Q ->
    wpAny (model X.prog X.w) X.A (call (.builtin id) (v :: us)) (EP X pins σ Q) X.xe s
section
variable {X : Cx} {a b : Expr} {ta tb : TE} {pos : Pos}
theorem pe_ix {r : R2} (hr : IxR X r) (ha : PE X a ta) (hb : PE X b tb) (hs : PlainIx b) : PE X (.Subscript a b pos) (tOp r ta tb) := by
  intro pins s σ H Q I h
  exact Subscript_ (binT ha hb I h fun v u s2 x y H2 I2 rx ry q => hr a b pins s2 σ H2 x y v u Q I2 rx ry q (hs _ _))
def rIxL (K : PySem.W.Frag) : R2 := fun x y H Q => ∃ p xs i v, x = .ref p /\ y = .int i /\ SqL K H p xs /\ atI xs i = some v /\ Q v H
def rIxT (K : PySem.W.Frag) : R2 := fun x y H Q => ∃ p xs i v, x = .ref p /\ y = .int i /\ SqT K H p xs /\ atI xs i = some v /\ Q v H
theorem ix_list : IxR X (rIxL X.K) := by
  intro value slice pins s σ H x y v u Q I rx ry h hs
  obtain ⟨p, xs, i, z, rfl, rfl, hq, he, q⟩ := h
  cases rx
  obtain ⟨t, rfl⟩ := ry
  obtain ⟨its, r, pl, hz⟩ := I.list hq
  obtain ⟨j, h1, h2, h3, h4, h5⟩ := atI_get he
  obtain ⟨w, ew, rw'⟩ := r.get h2
  have hl := r.length
  have hn := line63
  have fin : EP X pins σ Q w s := ⟨z, H, I, rw', q⟩
  by_cases h0 : 0 <= i
  . have hj : i.toNat = j := by
      rw [seqIndex_of h0 h5] at h1
      exact Option.some.inj h1
    exact item_listR pl.isList h0 (by omega) (by rw [hj]; simpa using ew) fin hs
  . have hj : (i + (its.toArray.size : Int)).toNat = j := by
      rw [seqIndex_neg (by omega) h4] at h1
      rw [List.size_toArray, <- hl]
      exact Option.some.inj h1
    exact subscriptTail_builtinR (x := w) pl.isList.typeIs slot_list_getitem.lookup
      (wpAny_getItem_list_neg (Q := fun r s' => r = w /\ EP X pins σ Q r s') pl.isList (by omega) (by rw [List.size_toArray] <;> omega) (by omega) (by rw [hj]; simpa using ew) ⟨rfl, fin⟩) hs
theorem ix_tup : IxR X (rIxT X.K) := by
  intro value slice pins s σ H x y v u Q I rx ry h hs
  obtain ⟨p, xs, i, z, rfl, rfl, hq, he, q⟩ := h
  cases rx
  obtain ⟨t, rfl⟩ := ry
  obtain ⟨its, r, pl, hz⟩ := I.tuple hq
  obtain ⟨j, h1, h2, h3, h4, h5⟩ := atI_get he
  obtain ⟨w, ew, rw'⟩ := r.get h2
  have hl := r.length
  have hn := line63
  have fin : EP X pins σ Q w s := ⟨z, H, I, rw', q⟩
  exact subscriptTail_builtinR (x := w) pl.typeIs slot_tuple_getitem.lookup
    (getItem_tuple (j := j) (Q := fun r s' => r = w /\ EP X pins σ Q r s') pl (by omega) (by omega) (by rw [List.size_toArray, <- hl]; exact h1) (by simpa using ew) ⟨rfl, fin⟩) hs
theorem slice_bounds (lo hi : Option Int) (n : Nat) : (sliceBounds lo hi none n).1 = ((HT.sIx n 0 lo : Nat) : Int) /\ (sliceBounds lo hi none n).2.1 = ((HT.sIx n n hi : Nat) : Int) /\ (sliceBounds lo hi none n).2.2 = 1 := by
  refine ⟨?_, ?_, rfl⟩
  . cases lo with
    | none => simp [sliceBounds, HT.sIx]
    | some i =>
      simp only [sliceBounds, HT.sIx, Option.getD_none, show (1 : Int) > 0 by decide, if_true]
      by_cases h : i < 0
      . simp only [h, if_true] <;> omega
      . simp only [h, if_false] <;> omega
  . cases hi with
    | none => simp [sliceBounds, HT.sIx]
    | some i =>
      simp only [sliceBounds, HT.sIx, Option.getD_none, show (1 : Int) > 0 by decide, if_true]
      by_cases h : i < 0
      . simp only [h, if_true] <;> omega
      . simp only [h, if_false] <;> omega
theorem slicePick_cut (its : List Value) (lo hi : Option Int) : slicePick its.toArray lo hi none = ((its.drop (HT.sIx its.length 0 lo)).take (HT.sIx its.length its.length hi - HT.sIx its.length 0 lo)).toArray := by
  obtain ⟨h1, h2, h3⟩ := slice_bounds lo hi its.toArray.size
  unfold slicePick
  rw [h1, h2, h3]
  simp only [sliceRange_one, pick_run, List.size_toArray] <;> rfl
def rSlL (K : PySem.W.Frag) : V -> Option Int -> Option Int -> Hp -> VK -> Prop := fun x lo hi H Q => ∃ a xs, x = .ref a /\ SqL K H a xs /\ ∀ p, H p = none -> Q (.ref p) (upd H p (.lst (cutV xs lo hi)))
theorem sl_list : SlR X (rSlL X.K) := by
  intro pins s σ H x v vl vu lo hi sl Q I rx hs pl pu h
  obtain ⟨a, xs, rfl, hx, q⟩ := h
  cases rx
  obtain ⟨its, r, ht, hz⟩ := I.list hx
  have hlen := r.length
  refine ⟨"list", _, slot_list_getitem.lookup, ht.isList.typeIs, ?_⟩
  refine wpAny_getItem_list_slice ht.isList hs pl pu .none (by simp) ?_ (by rw [List.size_toArray] <;> omega)
  rw [slicePick_cut, <- hlen]
  refine ⟨.ref s.heap.objs.size, _, I.laid (t' := s.toks) (o := .lst (cutV xs lo hi)) (fun b ob q => Heap.get?_push_of_some _ q) (Nat.le_refl _) ?_, rfl, q _ (I.hok.fresh (Nat.le_refl _))⟩
  exact ⟨Nat.le_trans (cutV_length xs lo hi) hz, _, 0, (r.drop (HT.sIx xs.length 0 lo)).take (HT.sIx xs.length xs.length hi - HT.sIx xs.length 0 lo), Heap.get?_push_size _ rfl⟩
def flatV : V -> Bool
  | .non => true
  | .bl _ => true
  | .int _ => true
  | .str _ => true
  | _ => false
def eqV : V -> V -> Bool
  | .non, .non => true
  | .bl a, .bl b => a == b
  | .bl a, .int b => (if a then 1 else 0) == b
  | .int a, .bl b => a == (if b then 1 else 0)
  | .int a, .int b => a == b
  | .str a, .str b => a == b
  | _, _ => false
theorem eqAt_V {A : Around} {s : Shared} {y x : V} {u v : Value} (ry : RelV y u) (rx : RelV x v) (fy : flatV y = true) (fx : flatV x = true) : SeqAt.EqAt A s u v (eqV y x) := by
  cases y with
  | non =>
    cases ry
    cases x with
    | non => cases rx; exact SeqAt.EqAt.same _
    | bl b => cases rx; exact SeqAt.EqAt.none_bool b
    | int b => obtain ⟨t, rfl⟩ := rx; exact SeqAt.EqAt.none_int b t
    | str b => obtain ⟨t, rfl⟩ := rx; exact SeqAt.EqAt.none_str b t
    | _ => exact absurd (show false = true from fx) Bool.false_ne_true
  | bl a =>
    cases ry
    cases x with
    | non => cases rx; exact SeqAt.EqAt.bool_none a
    | bl b => cases rx; exact SeqAt.EqAt.bool_bool a b
    | int b => obtain ⟨t, rfl⟩ := rx; exact SeqAt.EqAt.bool_int a b t
    | str b => obtain ⟨t, rfl⟩ := rx; exact SeqAt.EqAt.bool_str a b t
    | _ => exact absurd (show false = true from fx) Bool.false_ne_true
  | int a =>
    obtain ⟨t', rfl⟩ := ry
    cases x with
    | non => cases rx; exact SeqAt.EqAt.int_none a t'
    | bl b => cases rx; exact SeqAt.EqAt.int_bool a t' b
    | int b => obtain ⟨t, rfl⟩ := rx; exact SeqAt.EqAt.int_int a t' b t
    | str b => obtain ⟨t, rfl⟩ := rx; exact SeqAt.EqAt.int_str a t' b t
    | _ => exact absurd (show false = true from fx) Bool.false_ne_true
  | str a =>
    obtain ⟨t', rfl⟩ := ry
    cases x with
    | non => cases rx; exact SeqAt.EqAt.str_none a t'
    | bl b => cases rx; exact SeqAt.EqAt.str_bool a t' b
    | int b => obtain ⟨t, rfl⟩ := rx; exact SeqAt.EqAt.str_int a t' b t
    | str b => obtain ⟨t, rfl⟩ := rx; exact SeqAt.EqAt.str_str a t' b t
    | _ => exact absurd (show false = true from fx) Bool.false_ne_true
  | _ => exact absurd (show false = true from fy) Bool.false_ne_true
def eqU (x : V) (u : Value) : Bool := match u with
  | .none => eqV .non x
  | .bool b => eqV (.bl b) x
  | .int i _ => eqV (.int i) x
  | .str z _ => eqV (.str z) x
  | _ => false
theorem eqU_of {x y : V} {u : Value} (r : RelV y u) (f : flatV y = true) : eqU x u = eqV y x := by
  cases y with
  | non => cases r; rfl
  | bl b => cases r; rfl
  | int i => obtain ⟨t, rfl⟩ := r; rfl
  | str z => obtain ⟨t, rfl⟩ := r; rfl
  | _ => exact absurd (show false = true from f) Bool.false_ne_true
theorem any_eqU {x : V} : ∀ {xs : List V} {us : List Value}, Vals xs us -> xs.all flatV = true -> us.any (eqU x) = xs.any fun y => eqV y x
  | _, _, .nil, _ => rfl
  | y :: xs, u :: us, .cons r t, f => by
    rw [List.all_cons, Bool.and_eq_true] at f
    rw [List.any_cons, List.any_cons, eqU_of r f.1, any_eqU t f.2]
theorem mem_eqAt {A : Around} {s : Shared} {x : V} {v : Value} (rx : RelV x v) (fx : flatV x = true) : ∀ {xs : List V} {us : List Value}, Vals xs us -> xs.all flatV = true -> ∀ u ∈ us, SeqAt.EqAt A s u v (eqU x u)
  | _, _, .nil, _ => fun u hu => by cases hu
  | y :: xs, u :: us, .cons r t, f => fun u' hu => by
    rw [List.all_cons, Bool.and_eq_true] at f
    rcases List.mem_cons.mp hu with rfl | hu
    . rw [eqU_of r f.1]; exact eqAt_V r rx f.1 fx
    . exact mem_eqAt rx fx t f.2 u' hu
def inV (x : V) (xs : List V) : Bool := xs.any fun y => eqV y x
def rIn (K : PySem.W.Frag) (neg : Bool) : R2 := fun x y H Q => ∃ p xs, y = .ref p /\ (SqL K H p xs \/ SqT K H p xs) /\ flatV x = true /\ xs.all flatV = true /\ Q (.bl (if neg then !inV x xs else inV x xs)) H
theorem op_in_seq : OpR X (compareOp .In) (rIn X.K false) := by
  intro pins s σ H x y v u Q I rx ry h
  obtain ⟨p, xs, rfl, hq, fx, fs, q⟩ := h
  cases ry
  rcases hq with hq | hq
  . obtain ⟨its, r, pl, hz⟩ := I.list hq
    refine SeqAt.in_listAt (eqU x) pl.isList (fun w hw => mem_eqAt rx fx r fs w (by simpa using hw)) ⟨.bl _, H, I, rfl, ?_⟩
    rw [show its.toArray.any (eqU x) = its.any (eqU x) by simp, any_eqU r fs]
    exact q
  . obtain ⟨its, r, pl, hz⟩ := I.tuple hq
    refine SeqAt.in_tupleAt (eqU x) pl (fun w hw => mem_eqAt rx fx r fs w (by simpa using hw)) ⟨.bl _, H, I, rfl, ?_⟩
    rw [show its.toArray.any (eqU x) = its.any (eqU x) by simp, any_eqU r fs]
    exact q
theorem op_notIn_seq : OpR X (compareOp .NotIn) (rIn X.K true) := by
  intro pins s σ H x y v u Q I rx ry h
  obtain ⟨p, xs, rfl, hq, fx, fs, q⟩ := h
  cases ry
  rcases hq with hq | hq
  . obtain ⟨its, r, pl, hz⟩ := I.list hq
    refine SeqAt.notIn_listAt (eqU x) pl.isList (fun w hw => mem_eqAt rx fx r fs w (by simpa using hw)) ⟨.bl _, H, I, rfl, ?_⟩
    rw [show its.toArray.any (eqU x) = its.any (eqU x) by simp, any_eqU r fs]
    exact q
  . obtain ⟨its, r, pl, hz⟩ := I.tuple hq
    refine SeqAt.notIn_tupleAt (eqU x) pl (fun w hw => mem_eqAt rx fx r fs w (by simpa using hw)) ⟨.bl _, H, I, rfl, ?_⟩
    rw [show its.toArray.any (eqU x) = its.any (eqU x) by simp, any_eqU r fs]
    exact q
theorem call_len_seq : CallR X (.builtin "len") (fun xs H Q => ∃ p ys, xs = [.ref p] /\ (SqL X.K H p ys \/ SqT X.K H p ys) /\ Q (.int ys.length) H) := by
  intro pins s σ H xs us Q I r h
  obtain ⟨p, ys, rfl, hq, q⟩ := h
  obtain ⟨u, rfl, rx⟩ := vals1 r
  cases rx
  have hn := line63
  rcases hq with hq | hq
  . obtain ⟨its, r', pl, hz⟩ := I.list hq
    have hlen := r'.length
    exact Calls.call_len_list pl.isList (by simp only [List.size_toArray] <;> omega) ⟨.int ys.length, H, I.tok _, ⟨s.toks + 1, by rw [List.size_toArray, hlen]⟩, q⟩
  . obtain ⟨its, r', pl, hz⟩ := I.tuple hq
    have hlen := r'.length
    exact len_tuple pl (by simp only [List.size_toArray] <;> omega) ⟨.int ys.length, H, I.tok _, ⟨s.toks + 1, by rw [List.size_toArray, hlen]⟩, q⟩
theorem call_list_of : CallR X (.type "list") (fun xs H Q => ∃ p ys, xs = [.ref p] /\ (SqL X.K H p ys \/ SqT X.K H p ys) /\ ∀ l, H l = none -> Q (.ref l) (upd H l (.lst ys))) := by
  intro pins s σ H xs us Q I r h
  obtain ⟨p, ys, rfl, hq, q⟩ := h
  obtain ⟨u, rfl, rx⟩ := vals1 r
  cases rx
  have fin : ∀ (its : List Value), Vals ys its -> ys.length <= sizeLine -> ∀ (h' : Heap) (c' : Nat), (∀ b o', s.heap.get? b = some o' -> h'.get? b = some o') ->
      h'.get? s.heap.objs.size = some { cls := .type "list", dict := none, data := .seq its.toArray c', slots := #[] } -> EP X pins σ Q (.ref s.heap.objs.size) { s with heap := h' } := fun its r' hz h' c' kp e =>
    ⟨.ref s.heap.objs.size, _, I.laid (t' := s.toks) kp (Nat.le_refl _) (show ObjOk X.prog X.w _ h' _ (.lst ys) from ⟨hz, its, c', r', e⟩), rfl, q _ (I.hok.fresh (Nat.le_refl _))⟩
  rcases hq with hq | hq
  . obtain ⟨its, r', pl, hz⟩ := I.list hq
    have hlen := r'.length
    obtain ⟨o, ho, hc, n, hd⟩ := pl.isList
    exact call_list_seq p (.inl rfl) ho hc hd (fun h' c' kp e => fin its r' hz h' c' kp e) (by simp only [List.size_toArray] <;> omega)
  . obtain ⟨its, r', pl, hz⟩ := I.tuple hq
    have hlen := r'.length
    obtain ⟨o, ho, hc, n, hd⟩ := pl
    exact call_list_seq p (.inr rfl) ho hc hd (fun h' c' kp e => fin its r' hz h' c' kp e) (by simp only [List.size_toArray] <;> omega)
theorem call_tuple_of : CallR X (.type "tuple") (fun xs H Q => ∃ p ys, xs = [.ref p] /\ ((SqL X.K H p ys /\ ∀ l, H l = none -> Q (.ref l) (upd H l (.tup ys))) \/ (SqT X.K H p ys /\ Q (.ref p) H))) := by
  intro pins s σ H xs us Q I r h
  obtain ⟨p, ys, rfl, h⟩ := h
  obtain ⟨u, rfl, rx⟩ := vals1 r
  cases rx
  rcases h with ⟨hq, q⟩ | ⟨hq, q⟩
  . obtain ⟨its, r', pl, hz⟩ := I.list hq
    have hlen := r'.length
    refine call_tuple_list pl.isList (fun h' kp => ?_) (by simp only [List.size_toArray] <;> omega)
    have I1 : Inv X pins σ H { s with heap := h' } := I.kept (t' := s.toks) kp
    have I2 : Inv X pins σ (upd H h'.objs.size (.tup ys)) { s with heap := h'.push { cls := .type "tuple", data := .seq its.toArray } } :=
      I1.laid (t' := s.toks) (fun b o e => Heap.get?_push_of_some _ e) (Nat.le_refl _) (show ObjOk X.prog X.w _ _ _ (.tup ys) from ⟨hz, its, r', IsTup.new _ _⟩)
    exact ⟨.ref h'.objs.size, _, I2, rfl, q _ (I1.hok.fresh (Nat.le_refl _))⟩
  . obtain ⟨its, r', pl, hz⟩ := I.tuple hq
    exact call_tuple_same pl ⟨.ref p, H, I, rfl, q⟩
def tyV (K : PySem.W.Frag) (T : String) (x : V) (H : Hp) : Prop := match x with
  | .str _ => T = "str"
  | .int _ => T = "int"
  | .ref p => (T = "list" /\ ∃ xs, SqL K H p xs) \/ (T = "tuple" /\ ∃ o, K.lookup p = some o /\ o.cls = .type "tuple" /\ o.dict = none) \/
      (T = "dict" /\ ((∃ kvs, H p = some (.dK kvs)) \/ ∃ kvs, H p = some (.dT kvs))) \/ (T = "set" /\ ∃ S n, H p = some (.set S n))
  | _ => False
theorem tyV_is {pins : List (Addr × Obj)} {σ : St} {H : Hp} {s : Shared} {T : String} {x : V} {v : Value} (I : Inv X pins σ H s) (r : RelV x v) (ty : tyV X.K T x H) :
    s.TypeIs v T /\ ∀ a, v = .ref a -> ∃ ob, s.heap.get? a = some ob /\ ob.dict = none := by
  cases x with
  | str z =>
    obtain ⟨t, rfl⟩ := r
    cases (show T = "str" from ty)
    exact ⟨typeIs_str s z t, fun _ e => nomatch e⟩
  | int i =>
    obtain ⟨t, rfl⟩ := r
    cases (show T = "int" from ty)
    exact ⟨typeIs_int s i t, fun _ e => nomatch e⟩
  | ref p =>
    cases r
    rcases ty with ⟨rfl, xs, hq⟩ | ⟨rfl, o, hk, hc, hd⟩ | ⟨rfl, hk⟩ | ⟨rfl, S, n, hk⟩
    . obtain ⟨its, _, pl, _⟩ := I.list hq
      refine ⟨pl.isList.typeIs, fun a e => ?_⟩
      cases e
      obtain ⟨o, n, e, c, hd, _⟩ := pl
      exact ⟨o, e, hd⟩
    . refine ⟨⟨o, I.kIn p o hk, hc⟩, fun a e => ?_⟩
      cases e
      exact ⟨o, I.kIn _ o hk, hd⟩
    . have z : ∃ o, s.heap.get? p = some o /\ o.ExactDict := by
        rcases hk with ⟨kvs, hk⟩ | ⟨kvs, hk⟩
        . obtain ⟨_, _, _, _, o, _, _, e, ex, _⟩ := I.hok p _ hk
          exact ⟨o, e, ex⟩
        . obtain ⟨_, _, _, _, o, _, _, e, ex, _⟩ := I.hok p _ hk
          exact ⟨o, e, ex⟩
      obtain ⟨o, e, ex⟩ := z
      refine ⟨⟨o, e, ex.1⟩, fun a e2 => ?_⟩
      cases e2
      exact ⟨o, e, ex.2.1⟩
    . obtain ⟨o, _, _, _, e, ex, _⟩ := I.hok p _ hk
      refine ⟨⟨o, e, ex.1⟩, fun a e2 => ?_⟩
      cases e2
      exact ⟨o, e, ex.2.1⟩
  | _ => exact False.elim ty
def tBM0 (K : PySem.W.Frag) (T : String) (r : V -> List V -> Hp -> VK -> Prop) (to : TE) : TE := fun σ H Q => to σ H fun x H1 => tyV K T x H1 /\ r x [] H1 Q
def tBM (K : PySem.W.Frag) (T : String) (r : V -> List V -> Hp -> VK -> Prop) (to : TE) (t : TA) : TE := fun σ H Q => to σ H fun x H1 => tyV K T x H1 /\ t σ H1 fun xs H2 => r x xs H2 Q
variable {o e : Expr} {es : List Expr} {to : TE} {t : TA} {name : Str} {apos cpos : Pos} {T id : String} {r : V -> List V -> Hp -> VK -> Prop}
theorem pe_bm0 (pa : PlainAttrs T) (slot : Slot T name id) (hty : typeOf (.builtin id) = pure (.type "method_descriptor")) (hm : MtR X id r) (ho : PE X o to)
    (hbase : attributeBase o name X.env (eval o X.env) = eval o X.env := by rfl) (hline : (apos.endLine == cpos.line) = true := by rfl) : PE X (.Call (.Attribute o name apos) [] [] cpos) (tBM0 X.K T r to) := by
  intro pins s σ H Q I h
  refine wpAny_Call_method0_late hbase hline (thn (ho pins s σ H _ I h) fun v s1 ⟨x, H1, I1, r1, ty, q1⟩ => ?_)
  obtain ⟨h1, h2⟩ := tyV_is I1 r1 ty
  exact ⟨T, id, pa, slot, hty, h1, h2, Calls.callWith_builtin rfl (PySem.evalArgs_none (hm pins s1 σ H1 x [] v [] Q I1 r1 .nil q1))⟩
theorem pe_bm (pa : PlainAttrs T) (slot : Slot T name id) (hty : typeOf (.builtin id) = pure (.type "method_descriptor")) (hm : MtR X id r) (ho : PE X o to) (ha : PA X (e :: es) t)
    (hbase : attributeBase o name X.env (eval o X.env) = eval o X.env := by rfl)
    (hfew : ((backTo cpos (starEach (e :: es) X.env)).all (fun x => !x.1) && (backToKw cpos (keywordEach [] X.env)).all (fun x => x.1.isSome)
      && decide ((e :: es).length + ([] : List Keyword).length + (if ([] : List Keyword).isEmpty then 0 else 1) < 30)) = true := by rfl)
    (hline : (apos.endLine == cpos.line) = true := by rfl) (hs : starEach (e :: es) X.env = (false, eval e X.env) :: starEach es X.env := by rfl) (hplain : (backTo cpos (starEach es X.env)).any (·.1) = false := by rfl) :
    PE X (.Call (.Attribute o name apos) (e :: es) [] cpos) (tBM X.K T r to t) := by
  intro pins s σ H Q I h
  refine wpAny_Call_method_late hbase hfew hline rfl (thn (ho pins s σ H _ I h) fun v s1 ⟨x, H1, I1, r1, ty, q1⟩ => ?_)
  obtain ⟨h1, h2⟩ := tyV_is I1 r1 ty
  refine ⟨T, id, pa, slot, hty, h1, h2, ?_⟩
  have hA := ha cpos pins s1 σ H1 _ I1 q1
  rw [hs] at hA ⊢
  refine Calls.callWith_builtin (by show (false || (backTo cpos (starEach es X.env)).any (·.1)) = false; rw [hplain] <;> rfl) (Calls.evalArgs_plain ?_)
  exact thn hA fun us s2 ⟨vs, H2, I2, r2, q2⟩ => hm pins s2 σ H2 x vs v us Q I2 r1 r2 q2
/- xs.append(e), list.index on a module's tuple .. are MtR facts of 06m -/
end
end L2
namespace L2
open PySem PySem.Spec PyProof.Rows
def MtM (X : Cx) (id : String) (r : V -> List V -> Hp -> VK -> Prop) : Prop :=
  ∀ (pins : List (Addr × Obj)) (s : Shared) (σ : St) (H : Hp) (x : V) (xs : List V) (v : Value) (us : List Value) (Q : VK), Inv X pins σ H s -> RelV x v -> Vals xs us -> r x xs H Q ->
    wpAny (model X.prog X.w) X.A (call (.builtin id) (v :: us)) (EP X pins σ Q) X.xe s
theorem Vals.one : ∀ {x : V} {us : List Value}, Vals [x] us -> ∃ u, us = [u] /\ RelV x u
  | _, _, .cons r .nil => ⟨_, rfl, r⟩
theorem Vals.zero : ∀ {us : List Value}, Vals [] us -> us = []
  | _, .nil => rfl
theorem Vals.dropLast {xs : List V} {us : List Value} (h : Vals xs us) : Vals xs.dropLast us.dropLast := by
  induction h with
  | nil => exact .nil
  | cons r t ih =>
    cases t with
    | nil => exact .nil
    | cons q t' => exact .cons r ih
theorem Vals.rep {xs : List V} {us : List Value} (h : Vals xs us) : ∀ k : Nat, Vals (List.replicate k xs).flatten (List.replicate k us).flatten
  | 0 => .nil
  | k + 1 => by
    rw [List.replicate_succ, List.replicate_succ, List.flatten_cons, List.flatten_cons]
    exact Vals.append h (Vals.rep h k)
theorem erase_last {α : Type} (l : List α) : l.eraseIdx (l.length - 1) = l.dropLast := by
  induction l with
  | nil => rfl
  | cons a r ih =>
    cases r with
    | nil => rfl
    | cons b r =>
      have e : (a :: b :: r).length - 1 = ((b :: r).length - 1) + 1 := by
        have h1 : (a :: b :: r).length = r.length + 2 := rfl
        have h2 : (b :: r).length = r.length + 1 := rfl
        omega
      rw [e, List.eraseIdx_cons_succ, ih]
      all_goals rfl
theorem foldl_rep (its : List Value) : ∀ (k : Nat) (acc : List Value),
    List.foldl (fun x1 x2 => x1 ++ x2) acc.toArray (List.replicate k its.toArray) = (acc ++ (List.replicate k its).flatten).toArray
  | 0, acc => by simp
  | k + 1, acc => by
    have e : acc.toArray ++ its.toArray = (acc ++ its).toArray := by simp
    have e2 : (acc ++ its) ++ (List.replicate k its).flatten = acc ++ (List.replicate (k + 1) its).flatten := by
      rw [List.replicate_succ, List.flatten_cons, List.append_assoc]
    rw [<- e2, <- foldl_rep its k (acc ++ its), <- e, List.replicate_succ, List.foldl_cons]
section
variable {X : Cx} {pins : List (Addr × Obj)} {σ : St} {H : Hp} {s : Shared} {l b : Addr} {xs ys zs : List V}
theorem Inv.lset {its its' : List Value} {n : Nat} {f : Array Value -> Array Value} {t' : Nat} (I : Inv X pins σ H s) (hH : H l = some (.lst xs))
    (e : s.heap.get? l = some { cls := .type "list", data := .seq its.toArray n }) (hf : f its.toArray = its'.toArray) (hv : Vals ys its') (hz : ys.length <= sizeLine) :
    Inv X pins σ (upd H l (.lst ys)) { s with heap := s.heap.update l (Obj.mapSeq f), toks := t' } := by
  have q := PySem.IsL.update e f
  rw [hf] at q
  refine I.write (x := l) (e := l) (by rw [hH]; exact trivial) (.inl rfl) (fun b' u hb hu => (Heap.get?_update_other s.heap (Obj.mapSeq f) (Ne.symm hb)).trans hu) ⟨_, q⟩ ?_
  exact ⟨hz, its', _, hv, q⟩
theorem Inv.lnew {its : List Value} {t' : Nat} (I : Inv X pins σ H s) (hv : Vals ys its) (hz : ys.length <= sizeLine) :
    Inv X pins σ (upd H s.heap.objs.size (.lst ys)) { s with heap := s.heap.push { cls := .type "list", data := .seq its.toArray }, toks := t' } :=
  I.laid (fun _ _ q => Heap.get?_push_of_some _ q) (Nat.le_refl _) ⟨hz, its, 0, hv, Heap.get?_push_size _ rfl⟩
theorem Inv.fresh (I : Inv X pins σ H s) : H s.heap.objs.size = none := I.hok.fresh (Nat.le_refl _)
theorem Inv.lstM (I : Inv X pins σ H s) (hH : H l = some (.lst xs)) : xs.length <= sizeLine /\ ∃ (its : List Value) (n : Nat), Vals xs its /\ xs.length = its.length /\ s.heap.get? l = some { cls := .type "list", data := .seq its.toArray n } := by
  obtain ⟨z, its, n, r, e⟩ := I.hok l _ hH
  exact ⟨z, its, n, r, r.length, e⟩
theorem notLongL {n : Nat} (h : n <= sizeLine) : Builtin.List.listTooLong n = false := by
  unfold Builtin.List.listTooLong
  exact decide_eq_false (by omega)
end
section
variable {X : Cx}
def rAppend : V -> List V -> Hp -> VK -> Prop := fun x vs H Q => ∃ l xs y, x = .ref l /\ vs = [y] /\ H l = some (.lst xs) /\ xs.length < sizeLine /\ Q .non (upd H l (.lst (xs ++ [y])))
theorem mt_append : MtM X "list.append" rAppend := by
  intro pins s σ H x vs v us Q I rx rv h
  obtain ⟨l, xs, y, rfl, rfl, hH, hz, q⟩ := h
  cases rx
  obtain ⟨u, rfl, ru⟩ := rv.one
  obtain ⟨z, its, n, r, hl, e⟩ := I.lstM hH
  refine call_meets F.slot_list_append ⟨_, e, rfl⟩ F.entry_list_append (F.args_list_append_2 _ _) (PySem.list_append l its.toArray n u (by rw [List.size_toArray]; omega)) ⟨e, ?_⟩
  refine ⟨.non, _, I.lset (its' := its ++ [u]) hH e (by simp) (r.append (.cons ru .nil)) ?_, rfl, q⟩
  rw [List.length_append, List.length_singleton]
  omega
def rPop : V -> List V -> Hp -> VK -> Prop := fun x vs H Q => ∃ l xs y, x = .ref l /\ vs = [] /\ H l = some (.lst xs) /\ xs[xs.length - 1]? = some y /\ Q y (upd H l (.lst xs.dropLast))
theorem mt_pop : MtM X "list.pop" rPop := by
  intro pins s σ H x vs v us Q I rx rv h
  obtain ⟨l, xs, y, rfl, rfl, hH, hy, q⟩ := h
  cases rx
  have hus := rv.zero
  subst hus
  obtain ⟨z, its, n, r, hl, e⟩ := I.lstM hH
  obtain ⟨u, hu, ru⟩ := r.get hy
  have hy' : its.toArray[its.toArray.size - 1]? = some u := by
    show its.toArray[its.length - 1]? = some u
    rw [<- Array.getElem?_toList, <- hl]
    exact hu
  refine call_meets F.slot_list_pop ⟨_, e, rfl⟩ F.entry_list_pop (F.args_list_pop_1 _) (MeetsSeq.list_pop_last l its.toArray n u hy' (by rw [List.size_toArray]; omega)) ⟨e, ?_⟩
  refine ⟨y, _, I.lset (its' := its.dropLast) hH e ?_ r.dropLast ?_, ru, q⟩
  . show its.toArray.eraseIdxIfInBounds (its.toArray.size - 1) = its.dropLast.toArray
    rw [List.size_toArray, List.eraseIdxIfInBounds_toArray, erase_last]
  . rw [List.length_dropLast]
    omega
def rCat : R2 := fun x y H Q => ∃ l b xs zs, x = .ref l /\ y = .ref b /\ H l = some (.lst xs) /\ H b = some (.lst zs) /\ xs.length + zs.length <= sizeLine /\ ∀ p, H p = none -> Q (.ref p) (upd H p (.lst (xs ++ zs)))
theorem op_cat : OpR X (binaryOp .Add) rCat := by
  intro pins s σ H x y v u Q I rx ry h
  obtain ⟨l, b, xs, zs, rfl, rfl, hH, hB, hz, q⟩ := h
  cases rx
  cases ry
  obtain ⟨z, its, n, r, hl, e⟩ := I.lstM hH
  obtain ⟨z2, its2, n2, r2, hl2, e2⟩ := I.lstM hB
  refine PySem.P.add_list e e2 ?_ (by rw [List.size_toArray, List.size_toArray]; omega)
  have ea : its.toArray ++ its2.toArray = (its ++ its2).toArray := by simp
  rw [ea]
  exact ⟨.ref _, _, I.lnew (t' := s.toks) (r.append r2) (by rw [List.length_append]; omega), rfl, q _ I.fresh⟩
def rRep : R2 := fun x y H Q => ∃ l k xs, x = .ref l /\ y = .int k /\ H l = some (.lst xs) /\ -(2 ^ 63) <= k /\ k < 2 ^ 63 /\ xs.length * k.toNat <= sizeLine /\
  ∀ p, H p = none -> Q (.ref p) (upd H p (.lst (List.replicate k.toNat xs).flatten))
theorem len_rep {α : Type} (xs : List α) (k : Nat) : (List.replicate k xs).flatten.length = k * xs.length := by
  induction k with
  | zero => simp
  | succ k ih => rw [List.replicate_succ, List.flatten_cons, List.length_append, ih, Nat.succ_mul, Nat.add_comm]
theorem op_rep : OpR X (binaryOp .Mult) rRep := by
  intro pins s σ H x y v u Q I rx ry h
  obtain ⟨l, k, xs, rfl, rfl, hH, h1, h2, hz, q⟩ := h
  cases rx
  obtain ⟨t, rfl⟩ := ry
  obtain ⟨z, its, n, r, hl, e⟩ := I.lstM hH
  have hlen : its.toArray.size * k.toNat <= sizeLine := by rw [List.size_toArray, <- hl]; exact hz
  have hcap : ¬ its.toArray.size * k.toNat > (2 ^ 63 - 1) / 8 := by
    have : (sizeLine : Nat) <= (2 ^ 63 - 1) / 8 := by decide
    omega
  have hfit : ¬ (!Builtin.List.listFitsIndex k) = true := by
    rw [fitsIndex_both h1 h2]
    exact Bool.false_ne_true
  have hlong : ¬ Builtin.List.listTooLong (its.toArray.size * k.toNat) = true := by
    rw [notLongL hlen]
    exact Bool.false_ne_true
  have hnew : List.foldl (fun x1 x2 => x1 ++ x2) #[] (List.replicate (if its.toArray.isEmpty = true then 0 else k.toNat) its.toArray) = (List.replicate k.toNat its).flatten.toArray := by
    have f0 : ∀ m : Nat, List.foldl (fun x1 x2 => x1 ++ x2) #[] (List.replicate m its.toArray) = (List.replicate m its).flatten.toArray := fun m => by
      have := foldl_rep its m []
      rw [List.nil_append] at this
      exact this
    rw [f0]
    cases its with
    | nil => simp
    | cons a r' => rw [if_neg (by simp)]
  refine wpAny_binaryOp_repeat_ref (T := "list") (U := "int") (by decide) ⟨_, e, rfl⟩ (fun s' => typeIs_int s' k t) noFill_list_mul F.fills_int_mul F.slot_int_rmul repeat_list F.slot_int_index.lookup
    (call_meets F.slot_int_rmul (typeIs_int s k t) F.entry_int_rmul (F.args_int_rmul_2 _ _) (int___rmul___int_list k t l its.toArray n)
      ⟨e, rfl, ⟨_, e, rfl⟩, call_meets F.slot_list_mul ⟨_, e, rfl⟩ F.entry_list_mul (F.args_list_mul_2 _ _) (AutoListH.list___mul___list_int_3 l its.toArray n k t hfit hcap hlong) ⟨e, ?_⟩⟩)
  rw [hnew]
  exact ⟨.ref _, _, I.lnew (t' := s.toks) (r.rep k.toNat) (by rw [len_rep, Nat.mul_comm]; exact hz), rfl, q _ I.fresh⟩
end
section
variable {prog : Program} {w : World} {A : Around} {E : Value -> Shared -> Prop} {s : Shared}
end
section
variable {X : Cx}
end
end L2
namespace Att
open PySem PySem.W PySem.Calls PyProof.Rows
theorem ints_of_wellAll {P : Params} {h : Heap} : ∀ (ns : List Int) (vs : List Value), WellAll P h vs (ns.map WData.int) -> IntsAre vs ns := by
  intro ns
  induction ns with
  | nil =>
    intro vs w
    rw [List.map_nil] at w
    cases w
    exact .nil
  | cons n ns ih =>
    intro vs w
    rw [List.map_cons] at w
    cases w with
    | cons a b =>
      cases a
      exact .cons _ _ (ih _ b)
theorem script_of {l : OpenLaw} {n : Nat} (hn : l.most = some n) {P : Params} {h : Heap} {args : List WData} {vals : List Value}
    (hpre : l.row.toRowW.claim.pre args = true) (hwl : WellAll P h vals args) :
    ∃ a vs ns, vals = [Value.ref a] /\ args = [WData.list (ns.map WData.int)] /\ h.get? a = some { cls := .type "list", data := .seq vs.toArray } /\ IntsAre vs ns /\ ns.length <= n := by
  have hsh : WShape.hasAll [] args [.list .int] = true := (pre_splitW hpre).1
  have hc : l.pre.holds [] { args := args } = true := (pre_splitW hpre).2
  obtain ⟨d, r, rfl, h1, h2⟩ := hasAllW_cons hsh
  obtain rfl := hasAllW_nil h2
  obtain ⟨xs, rfl, h3⟩ := hasW_list h1
  obtain ⟨ns, rfl⟩ := items_int h3
  have hlen : ns.length <= n := by
    unfold OpenLaw.pre at hc
    have h4 : (WTm.not (.lt (.lit (.int (n : Int))) (.len (.arg 0)))).holds [] { args := [.list (ns.map .int)] } = true := by
      have h4 := (holds_andW hc).1
      rw [hn] at h4
      exact h4
    have h5 := condW_of h4 (w_not (w_lt w_lit (w_len_list (w_arg rfl))))
    rw [List.length_map] at h5
    refine Nat.le_of_not_lt fun q => ?_
    have q' : (n : Int) < ((ns.length : Nat) : Int) := by omega
    first
      | (rw [decide_eq_true q'] at h5; exact absurd h5 (by decide))
      | (simp at h5; omega)
  cases hwl with
  | cons w1 w2 =>
    cases w2
    cases w1 with
    | list ho hall => exact ⟨_, _, ns, rfl, rfl, ho, ints_of_wellAll ns _ hall, hlen⟩
theorem post_true (l : OpenLaw) (args : List WData) : l.row.toRowW.claim.post args (.bool true) args = true :=
  postW_of (r := l.row.toRowW) (X := (true == true))
    (show WShape.has [] (.bool true) .bool = true by first | rfl | decide | simp [WShape.has, WShape.arms, WShape.armsAll])
    (show (WTm.eq .res (.lit (.bool true))).value [] { args := args, res := some (.bool true), after := args } = some (.bool (true == true)) from w_eq_bool (w_res rfl) w_lit) rfl
theorem attach_call {l : OpenLaw} {n : Nat} {q : Program} {loose : List Str} {XP : (Str -> Option Value) -> Heap -> Prop} {YP : World -> Heap -> Prop} {d : DefRec}
    (hn : l.most = some n) (hdf : d.params.defaults = [])
    (call : ∀ (w : World) (s₀ s₁ : Shared) (mg mb : Str -> Option Value) (fa : Addr) (o : Obj) (pm cd doc : Value) (a : Addr) (vs : List Value) (ns : List Int),
      Ground q loose [] XP w s₀ mg mb s₁.heap -> YP w s₁.heap ->
      s₁.heap.get? fa = some o -> o.data = .func (docDef d.name d.params d.body d.scope pm cd doc) -> s₁.heap.CodeRec cd d.name -> mg d.name = some (.ref fa) ->
      s₁.heap.get? a = some { cls := .type "list", data := .seq vs.toArray } -> IntsAre vs ns -> ns.length <= n -> s₁.gens = #[] ->
      codeAny (model l.prog w) callerA (.call (.ref fa) ⟨[.ref a], []⟩) (fun r s' => r = .ok (.ret (.bool true)) /\ OldK s₁.heap s'.heap /\ s'.os = s₁.os /\ AllBare s'.gens) s₁) :
    WalkO q loose XP YP l.row.toRowW d [] (fun f vs => PySem.call f vs) := by
  intro w s₀ s₁ mg mb G Y fa o pm cd doc dV kV ho hd hcd hD hmg hg args vals as hpre hlay hrd hwl hlo
  obtain rfl : dV = .none := Dflts.none hD hdf
  obtain rfl : kV = .none := Dflts.noKw hD
  obtain ⟨a, vs, ns, rfl, rfl, hobj, hints, hlen⟩ := script_of hn hpre hwl
  refine enter_call (codeAny_mono (call w s₀ s₁ mg mb fa o pm cd doc a vs ns G Y ho (fd_plain hd) hcd hmg hobj hints hlen hg) fun r s' hq => ?_)
  obtain ⟨rfl, h2, h3, h4⟩ := hq
  exact ⟨.inl ⟨.bool true, .bool true, [], rfl, fun _ => rfl, .bool true, post_true l _, fun _ => ⟨List.Pairwise.nil, fun _ hm => (nomatch hm)⟩⟩, h2, h3, h4⟩
section
variable {prog : Program} {w : World} {A : Around} {E : Value -> Shared -> Prop} {s : Shared} {K : Frag}
end
end Att
namespace L2
open PySem PySem.Spec PyProof.Rows
theorem vals_ints : ∀ {vs : List Value} {ns : List Int}, IntsAre vs ns -> Vals (ns.map V.int) vs
  | _, _, .nil => .nil
  | _, _, .cons n t h => .cons ⟨t, rfl⟩ (vals_ints h)
end L2
namespace L2
open PySem PySem.Spec PyProof.Rows
end L2
namespace L2
open PySem PySem.Spec PyProof.Rows
def defArgs (s : Stmt) : Arguments := match s with
  | .FunctionDef _ a _ _ _ _ _ _ _ _ => a
  | _ => { posonlyargs := [], args := [], vararg := none, kwonlyargs := [], kw_defaults := [], kwarg := none, defaults := [] }
def defBody (s : Stmt) : List Stmt := match s with
  | .FunctionDef _ _ b _ _ _ _ _ _ _ => b
  | _ => []
def defScope (s : Stmt) : Scope := match s with
  | .FunctionDef _ _ _ _ _ _ sc _ _ _ => sc
  | _ => { kind := .function, names := [], isGenerator := false, isCoroutine := false }
abbrev CX0 : CXT := fun _ _ _ _ _ _ => False
abbrev E0 : XK := fun _ _ _ => False
theorem pass0 {X : Cx} : Passes CX0 X E0 := fun _ _ _ _ _ _ _ h => h.elim
structure Fun (K : PySem.W.Frag) (x qual : Str) (st : Stmt) (f : Addr) (fd : FuncData) : Prop where
  ex : ∃ (oc : Value) (od : Option Addr) (kV doc pm : Value) (an : Option Addr) (cdv ct : Value) (osl : Array (Option Value)),
    fd = PySem.W.fnOf x qual (defArgs st) (defBody st) (defScope st) .none kV doc pm an cdv ct /\ K.lookup f = some ⟨oc, od, .func fd, osl⟩ /\ PySem.W.codeIn K cdv qual = true
  kp : PySem.W.keepIn K (.ref f) = true
section
variable {P : Program} {w : World} {K : PySem.W.Frag} {mg : Str -> Option Value} {base : Heap}
theorem Fun.ok {x qual : Str} {st : Stmt} {f : Addr} {fd : FuncData} {N ps : List Str} {k : Nat} {sp : Sp} (F : Fun K x qual st f fd) (S : FnScope N ps (defScope st)) (len : ∀ vs H Q E, sp vs H Q E -> vs.length = ps.length)
    (hbody : ∀ (cdv : Value) (A : Around) (outer : List Env) (s : Shared) (H : Hp) (vs : List V) (Q : VK) (E : XK), Room k (A.deeper (envOfC qual (defScope st) s.heap.objs.size f cdv)) -> sp vs H Q E ->
      ∃ t, PSs (cxOf CX0 P w K mg base N qual (defScope st) f cdv A outer s H E).nox (defBody st) t /\ t { nx := fun _ H' => Q .non H', rt := Q } (start N vs) H) : FnOk P w K mg base CX0 (k + 1) f fd ps sp := by
  obtain ⟨oc, od, kV, doc, pm, an, cdv, ct, osl, rfl, lk, hcd⟩ := F.ex
  refine fn_of lk hcd S len fun A outer s H vs Q E hr hsp => ?_
  obtain ⟨t, h, q⟩ := hbody cdv A outer s H vs Q E hr hsp
  exact ⟨t, h.nox, q⟩
theorem Fun.binds {x qual : Str} {st : Stmt} {f : Addr} {fd : FuncData} {ps : List Str} (F : Fun K x qual st f fd)
    (h : ∀ (kV doc pm : Value) (an : Option Addr) (cdv ct : Value) (us : List Value), us.length = ps.length -> bindArgs (PySem.W.fnOf x qual (defArgs st) (defBody st) (defScope st) .none kV doc pm an cdv ct) ⟨us, []⟩ = pure (ps.zip us)) : Binds K fd ps [] := by
  obtain ⟨oc, od, kV, doc, pm, an, cdv, ct, osl, rfl, lk, hcd⟩ := F.ex
  exact .all (h kV doc pm an cdv ct)
theorem fun_mk {x qual : Str} {st : Stmt} {f : Addr} {oc : Value} {od an : Option Addr} {osl : Array (Option Value)} {kV doc pm cdv ct : Value} (l : K.lookup f = some ⟨oc, od, .func (PySem.W.fnOf x qual (defArgs st) (defBody st) (defScope st) .none kV doc pm an cdv ct), osl⟩)
    (c : PySem.W.codeIn K cdv qual = true) (k : PySem.W.keepIn K (.ref f) = true) : Fun K x qual st f (PySem.W.fnOf x qual (defArgs st) (defBody st) (defScope st) .none kV doc pm an cdv ct) := ⟨⟨oc, od, kV, doc, pm, an, cdv, ct, osl, rfl, l, c⟩, k⟩
end
theorem hu_of {A : Around} {k : Nat} (hr : Room k A) : A.units + 1 < cLine := Nat.lt_of_le_of_lt (Nat.add_le_add_left (by decide : 1 <= 64) _) hr.units
section
variable {X : Cx}
theorem pv (i : Nat) {x : Str} {pos : Pos} (hN : X.N[i]? = some x := by rfl) (hv : Vis X.env.scope x := by first | exact Or.inl rfl | exact Or.inr (Or.inl rfl) | exact Or.inr (Or.inr rfl)) (hd : (x == ("__debug__" : Str)) = false := by decide)
    (hcd : (x == ("__classdict__" : Str)) = false := by decide) : PE X (.Name x pos) (tVar i) := pe_var hN hv hd hcd
end
theorem ite2 {c A B : Prop} [Decidable c] (h1 : c -> A) (h2 : ¬ c -> B) : if c then A else B := by
  by_cases h : c
  . rw [if_pos h]
    exact h1 h
  . rw [if_neg h]
    exact h2 h
def Same (H H' : Hp) : Prop := ∀ b o, H b = some o -> H' b = some o
theorem Same.refl (H : Hp) : Same H H := fun _ _ h => h
theorem Same.trans {H H1 H2 : Hp} (a : Same H H1) (b : Same H1 H2) : Same H H2 := fun c o h => b c o (a c o h)
theorem Same.seq {K : PySem.W.Frag} {H H' : Hp} {a : Addr} {xs : List V} (e : Same H H') (h : SqL K H a xs) : SqL K H' a xs := by
  rcases h with (h | ⟨o, h⟩) | h
  . exact .inl (.inl (e _ _ h))
  . exact .inl (.inr ⟨o, e _ _ h⟩)
  . exact .inr h
end L2
set_option Elab.async false
set_option linter.all false
set_option maxRecDepth 100000
set_option maxHeartbeats 4000000
namespace L2
open PySem PySem.Spec PyProof.Rows
section
variable {κ : Type} [DecidableEq κ]
def valV (kvs : List (κ × V)) (k : κ) : Option V := (kvs.find? fun kv => decide (kv.1 = k)).map (·.2)
def putK (kvs : List (κ × V)) (k : κ) (v : V) : List (κ × V) :=
  if (kvs.any fun kv => decide (kv.1 = k)) = true then kvs.map (fun kv => if kv.1 = k then (kv.1, v) else kv) else kvs ++ [(k, v)]
theorem valV_pos {p : κ × V} {r : List (κ × V)} {k : κ} (e : p.1 = k) : valV (p :: r) k = some p.2 := by simp [valV, List.find?_cons, e]
theorem valV_neg {p : κ × V} {r : List (κ × V)} {k : κ} (e : ¬ p.1 = k) : valV (p :: r) k = valV r k := by simp [valV, List.find?_cons, e]
theorem valV_any (k : κ) : ∀ kvs : List (κ × V), (kvs.any fun kv => decide (kv.1 = k)) = (valV kvs k).isSome
  | [] => rfl
  | p :: r => by
    rw [List.any_cons]
    by_cases e : p.1 = k
    . simp only [valV_pos e, decide_eq_true e, Bool.true_or, Option.isSome_some]
    . rw [valV_neg e, decide_eq_false e, Bool.false_or]; exact valV_any k r
theorem valV_map (k j : κ) (y : V) : ∀ kvs : List (κ × V), valV (kvs.map fun kv => if kv.1 = k then (kv.1, y) else kv) j = (valV kvs j).map fun x => if j = k then y else x
  | [] => rfl
  | p :: r => by
    have ih := valV_map k j y r
    rw [List.map_cons]
    by_cases h : p.1 = k
    . rw [if_pos h]
      by_cases e : p.1 = j
      . rw [valV_pos (p := (p.1, y)) e, valV_pos e, Option.map_some, if_pos (e.symm.trans h)]
      . rw [valV_neg (p := (p.1, y)) e, valV_neg e, ih]
    . rw [if_neg h]
      by_cases e : p.1 = j
      . rw [valV_pos (p := p) e, valV_pos e, Option.map_some, if_neg (fun z => h (e.trans z))]
      . rw [valV_neg (p := p) e, valV_neg e, ih]
theorem valV_snoc (k j : κ) (y : V) : ∀ kvs : List (κ × V), valV kvs k = none -> valV (kvs ++ [(k, y)]) j = if j = k then some y else valV kvs j
  | [], _ => by
    by_cases e : k = j
    . rw [if_pos e.symm]; exact valV_pos (p := (k, y)) e
    . rw [if_neg (fun z => e z.symm)]; exact valV_neg (p := (k, y)) e
  | p :: r, hn => by
    rw [List.cons_append]
    have hk : ¬ p.1 = k := fun z => by rw [valV_pos z] at hn; cases hn
    rw [valV_neg hk] at hn
    have ih := valV_snoc k j y r hn
    by_cases e : p.1 = j
    . rw [valV_pos e, valV_pos e, if_neg (fun z => hk (e.trans z))]
    . rw [valV_neg e, valV_neg e, ih]
theorem valV_put (kvs : List (κ × V)) (k j : κ) (y : V) : valV (putK kvs k y) j = if j = k then some y else valV kvs j := by
  unfold putK
  by_cases a : (kvs.any fun kv => decide (kv.1 = k)) = true
  . rw [if_pos a, valV_map]
    rw [valV_any] at a
    by_cases e : j = k
    . obtain ⟨x, hx⟩ := Option.isSome_iff_exists.mp a
      rw [if_pos e, e, hx, Option.map_some, if_pos rfl]
    . rw [if_neg e]
      cases valV kvs j with
      | none => rfl
      | some x => rw [Option.map_some, if_neg e]
  . rw [if_neg a]
    refine valV_snoc k j y kvs ?_
    rw [valV_any] at a
    cases q : valV kvs k with
    | none => rfl
    | some x => rw [q] at a; exact (a rfl).elim
theorem length_putK (kvs : List (κ × V)) (k : κ) (v : V) : (putK kvs k v).length <= kvs.length + 1 := by
  unfold putK
  split
  . rw [List.length_map]; omega
  . rw [List.length_append, List.length_cons, List.length_nil]; omega
theorem RelO.isSome_eq {o : Option V} {u : Option Value} (r : RelO o u) : o.isSome = u.isSome := by
  cases o with
  | none => cases u with
    | none => rfl
    | some _ => exact (show False from r).elim
  | some _ => cases u with
    | none => exact (show False from r).elim
    | some _ => rfl
theorem KV.val {kvs : List (κ × V)} {vs : List (κ × Value)} (r : KV kvs vs) (k : κ) : RelO (valV kvs k) (valueAt vs k) := by
  unfold KV at r
  induction r with
  | nil => exact True.intro
  | @cons p q ps qs h t ih =>
    obtain ⟨h1, h2⟩ := h
    by_cases e : p.1 = k
    . have e' : q.1 = k := h1.symm.trans e
      have b : valueAt (q :: qs) k = some q.2 := by simp [valueAt, List.find?_cons, e']
      rw [valV_pos e, b]; exact h2
    . have e' : ¬ q.1 = k := fun z => e (h1.trans z)
      have b : valueAt (q :: qs) k = valueAt qs k := by simp [valueAt, List.find?_cons, e']
      rw [valV_neg e, b]; exact ih
theorem KV.any {kvs : List (κ × V)} {vs : List (κ × Value)} (r : KV kvs vs) (k : κ) : (kvs.any fun kv => decide (kv.1 = k)) = vs.any fun kv => decide (kv.1 = k) := by
  unfold KV at r
  induction r with
  | nil => rfl
  | cons h t ih => rw [List.any_cons, List.any_cons, ih, h.1]
theorem KV.repl {kvs : List (κ × V)} {vs : List (κ × Value)} (r : KV kvs vs) (k : κ) {y : V} {u : Value} (ry : RelV y u) :
    KV (kvs.map fun kv => if kv.1 = k then (kv.1, y) else kv) (vs.map fun kv => if kv.1 = k then (kv.1, u) else kv) := by
  unfold KV at r ⊢
  induction r with
  | nil => exact .nil
  | @cons p q ps qs h t ih =>
    rw [List.map_cons, List.map_cons]
    refine .cons ?_ ih
    obtain ⟨h1, h2⟩ := h
    by_cases e : p.1 = k
    . rw [if_pos e, if_pos (h1.symm.trans e)]; exact ⟨h1, ry⟩
    . rw [if_neg e, if_neg (fun z => e (h1.trans z))]; exact ⟨h1, h2⟩
theorem KV.put {kvs : List (κ × V)} {vs : List (κ × Value)} (r : KV kvs vs) (k : κ) {y : V} {u : Value} (ry : RelV y u) : KV (putK kvs k y) (stored vs k u) := by
  unfold putK stored
  rw [r.any k]
  by_cases e : (vs.any fun kv => decide (kv.1 = k)) = true
  . rw [if_pos e, if_pos e]; exact r.repl k ry
  . rw [if_neg e, if_neg e]; exact Paired.snoc r ⟨rfl, ry⟩
theorem KV.keys {kvs : List (κ × V)} {vs : List (κ × Value)} (r : KV kvs vs) : kvs.map (·.1) = vs.map (·.1) := by
  unfold KV at r
  induction r with
  | nil => rfl
  | cons h t ih => rw [List.map_cons, List.map_cons, ih, h.1]
theorem KV.length {kvs : List (κ × V)} {vs : List (κ × Value)} (r : KV kvs vs) : kvs.length = vs.length := Paired.length r
end
theorem kV_is {P : Program} {w : World} {k : Key} {u : Value} (r : RelV (kV k) u) : (mixKind P w).is k u = true := by
  cases k with
  | inl i => obtain ⟨t, e⟩ := (show ∃ t, u = Value.int i t from r); subst e; exact mixKind_int P w i t
  | inr x => obtain ⟨t, e⟩ := (show ∃ t, u = Value.str x t from r); subst e; exact mixKind_str P w x t
theorem items_are {P : Program} {w : World} : ∀ {ks : List Key} {us : List Value}, Vals (ks.map kV) us -> ItemsAre (mixKind P w) ks us
  | [], _, r => by rw [List.map_nil] at r; cases r; exact .nil
  | k :: ks, _, r => by
    rw [List.map_cons] at r
    cases r with
    | cons h t => exact .cons (kV_is h) (items_are t)
abbrev KT (H : Hp) : List (List Key × V) -> List (List Key × Addr × Value) -> Prop := Paired fun p q => p.1 = q.1 /\ H q.2.1 = some (.tup (p.1.map kV)) /\ RelV p.2 q.2.2
theorem KT.val {H : Hp} {kvs : List (List Key × V)} {xs : List (List Key × Addr × Value)} (r : KT H kvs xs) (k : List Key) : RelO (valV kvs k) ((atKey xs k).map (·.2)) := by
  induction r with
  | nil => exact True.intro
  | @cons p q ps qs h t ih =>
    obtain ⟨h1, _, h2⟩ := h
    by_cases e : p.1 = k
    . have e' : q.1 = k := h1.symm.trans e
      have b : atKey (q :: qs) k = some q.2 := by simp [atKey, List.find?_cons, e']
      rw [valV_pos e, b]; exact h2
    . have e' : ¬ q.1 = k := fun z => e (h1.trans z)
      have b : atKey (q :: qs) k = atKey qs k := by simp [atKey, List.find?_cons, e']
      rw [valV_neg e, b]; exact ih
theorem KT.repl {H : Hp} {kvs : List (List Key × V)} {xs : List (List Key × Addr × Value)} (r : KT H kvs xs) (k : List Key) {y : V} {u : Value} (ry : RelV y u) :
    KT H (kvs.map fun kv => if kv.1 = k then (kv.1, y) else kv) (xs.map (putAt k u)) := by
  induction r with
  | nil => exact .nil
  | @cons p q ps qs h t ih =>
    rw [List.map_cons, List.map_cons]
    refine .cons ?_ ih
    obtain ⟨h1, h2, h3⟩ := h
    unfold putAt
    by_cases e : p.1 = k
    . rw [if_pos e, if_pos (h1.symm.trans e)]; exact ⟨h1, h2, ry⟩
    . rw [if_neg e, if_neg (fun z => e (h1.trans z))]; exact ⟨h1, h2, h3⟩
theorem KT.put {H : Hp} {kvs : List (List Key × V)} {xs : List (List Key × Addr × Value)} (r : KT H kvs xs) (k : List Key) {b : Addr} {y : V} {u : Value} (hb : H b = some (.tup (k.map kV))) (ry : RelV y u) :
    KT H (putK kvs k y) (storedH xs k b u) := by
  have e : (kvs.any fun kv => decide (kv.1 = k)) = (atKey xs k).isSome := by
    rw [valV_any, (r.val k).isSome_eq, Option.isSome_map]
  unfold putK storedH
  rw [e]
  by_cases q : (atKey xs k).isSome = true
  . rw [if_pos q, if_pos q]; exact r.repl k ry
  . rw [if_neg q, if_neg q]; exact Paired.snoc r ⟨rfl, hb, ry⟩
theorem KT.keeps {H H' : Hp} {kvs : List (List Key × V)} {xs : List (List Key × Addr × Value)} (r : KT H kvs xs) (ht : ∀ b ys, H b = some (.tup ys) -> H' b = some (.tup ys)) : KT H' kvs xs :=
  Paired.mapP r fun _ _ z => ⟨z.1, ht _ _ z.2.1, z.2.2⟩
section
variable {P : Program} {w : World} {H : Hp} {h : Heap} {a : Addr}
theorem rd_of {u : HO} (ok : HOk P w H h) (e : Rd H a u) : ObjOk P w H h a u := e.ok ok
theorem dk_rd {kvs : List (Key × V)} (ok : HOk P w H h) (e : Rd H a (.dK kvs)) : kvs.length <= sizeLine /\ (a == sysModules) = false /\ ∃ vs, KV kvs vs /\ h.DictOf (mixKind P w) a vs :=
  show ObjOk P w H h a (.dK kvs) from rd_of ok e
theorem dk_of {kvs : List (Key × V)} (ok : HOk P w H h) (e : H a = some (.dK kvs)) : kvs.length <= sizeLine /\ (a == sysModules) = false /\ ∃ vs, KV kvs vs /\ h.DictOf (mixKind P w) a vs := dk_rd ok (.inl e)
theorem key_of {ks : List Key} (ok : HOk P w H h) (e : H a = some (.tup (ks.map kV))) : (tupleKind (mixKind P w)).is h ks a := by
  obtain ⟨_, its, r, o, h1, h2, n, h3⟩ := (show ObjOk P w H h a (.tup (ks.map kV)) from ok a _ e)
  exact ⟨o, its.toArray, n, h1, h2, h3, by simpa using items_are r⟩
theorem dt_rd {kvs : List (List Key × V)} (ok : HOk P w H h) (e : Rd H a (.dT kvs)) : kvs.length <= sizeLine /\ (a == sysModules) = false /\
    ∃ xs, KT H kvs xs /\ h.DictOfH (tupleKind (mixKind P w)) a xs := by
  obtain ⟨z, y, xs, r, o, es, ep, h1, h2, h3, h4, h5⟩ := (show ObjOk P w H h a (.dT kvs) from rd_of ok e)
  refine ⟨z, y, xs, r, o, es, ep, h1, h2, h3, h4, fun x hx => ?_, h5⟩
  have all : ∀ {l : List (List Key × V)} {m : List (List Key × Addr × Value)}, KT H l m -> ∀ x ∈ m, (tupleKind (mixKind P w)).is h x.1 x.2.1 := by
    intro l m q
    induction q with
    | nil => intro x hx; exact nomatch hx
    | @cons p q ps qs hq t ih =>
      intro x hx
      rcases List.mem_cons.mp hx with e | hx
      . subst e
        exact key_of ok (by rw [<- hq.1]; exact hq.2.1)
      . exact ih x hx
  exact all r x hx
theorem dt_of {kvs : List (List Key × V)} (ok : HOk P w H h) (e : H a = some (.dT kvs)) : kvs.length <= sizeLine /\ (a == sysModules) = false /\
    ∃ xs, KT H kvs xs /\ h.DictOfH (tupleKind (mixKind P w)) a xs := dt_rd ok (.inl e)
end
def DGet (H : Hp) (a : Addr) (y : V) (r : Option V) : Prop :=
  (∃ kvs k, Rd H a (.dK kvs) /\ y = kV k /\ r = valV kvs k) \/ ∃ kvs k b, Rd H a (.dT kvs) /\ y = .ref b /\ H b = some (.tup (k.map kV)) /\ r = valV kvs k
def DPut (H : Hp) (a : Addr) (y v : V) (H' : Hp) : Prop :=
  (∃ kvs k, H a = some (.dK kvs) /\ y = kV k /\ kvs.length < sizeLine /\ H' = upd H a (.dK (putK kvs k v))) \/
  ∃ kvs k b, H a = some (.dT kvs) /\ y = .ref b /\ H b = some (.tup (k.map kV)) /\ kvs.length < sizeLine /\ H' = upd H a (.dT (putK kvs k v))
theorem DGet.k {H : Hp} {a : Addr} {kvs : List (Key × V)} {k : Key} (e : H a = some (.dK kvs)) : DGet H a (kV k) (valV kvs k) := .inl ⟨kvs, k, .inl e, rfl, rfl⟩
theorem DPut.k {H : Hp} {a : Addr} {kvs : List (Key × V)} {k : Key} {v : V} (e : H a = some (.dK kvs)) (hl : kvs.length < sizeLine) : DPut H a (kV k) v (upd H a (.dK (putK kvs k v))) := .inl ⟨kvs, k, e, rfl, hl, rfl⟩
section
variable {X : Cx} {pins : List (Addr × Obj)} {σ : St} {H : Hp} {s : Shared} {a : Addr} {y v : V} {u r : Value} {o : Option V} {A : Around} {E : Value -> Shared -> Prop}
theorem Inv.big (I : Inv X pins σ H s) : sysModules < s.heap.objs.size := by
  have h : mainGlobals < s.heap.objs.size := (I.mod.glob.keeps I.bk).lt
  exact Nat.lt_trans (by decide) h
theorem d_getItem {Q : Value -> Shared -> Prop} (hu : A.units + 1 < cLine) (I : Inv X pins σ H s) (g : DGet H a y (some v)) (ry : RelV y u) (h : ∀ w' s', Inv X pins σ H s' -> RelV v w' -> Q w' s') :
    wpAny (model X.prog X.w) A (getItem (.ref a) u) Q E s := by
  rcases g with ⟨kvs, k, e, ey, l⟩ | ⟨kvs, k, b, e, ey, eb, l⟩
  . subst ey
    obtain ⟨z, hd, vs, rel, dd⟩ := dk_rd I.hok e
    obtain ⟨w', hw, rw'⟩ := RelO.some_of (v := v) (o := valueAt vs k) (by rw [l]; exact rel.val k)
    exact wpAny_getItem_of (kV_is ry) dd.mapOf hw (h w' _ (I.tok _) rw')
  . subst ey
    cases (show u = Value.ref b from ry)
    obtain ⟨z, hd, xs, rel, dd⟩ := dt_rd I.hok e
    obtain ⟨w', hw, rw'⟩ := RelO.some_of (v := v) (o := (atKey xs k).map (·.2)) (by rw [l]; exact rel.val k)
    obtain ⟨p, hp, hp2⟩ := Option.map_eq_some_iff.mp hw
    refine wpAny_getItem_heap (tupleKind_room_in1 hu) (key_of I.hok eb) dd hp ?_
    rw [hp2]
    exact h w' _ (I.tok _) rw'
theorem d_notIn {Q : Value -> Shared -> Prop} (hu : A.units + 1 < cLine) (I : Inv X pins σ H s) (g : DGet H a y o) (ry : RelV y u) (h : ∀ s', Inv X pins σ H s' -> Q (.bool (!o.isSome)) s') :
    wpAny (model X.prog X.w) A (compareOp .NotIn u (.ref a)) Q E s := by
  rcases g with ⟨kvs, k, e, ey, l⟩ | ⟨kvs, k, b, e, ey, eb, l⟩
  . subst ey
    obtain ⟨z, hd, vs, rel, dd⟩ := dk_rd I.hok e
    refine wpAny_notIn_of (kV_is ry) hd dd.mapOf ?_
    rw [<- (rel.val k).isSome_eq, <- l]
    exact h _ (I.tok _)
  . subst ey
    cases (show u = Value.ref b from ry)
    obtain ⟨z, hd, xs, rel, dd⟩ := dt_rd I.hok e
    refine wpAny_notIn_heap (tupleKind_room_in1 hu) (key_of I.hok eb) hd dd ?_
    have q := (rel.val k).isSome_eq
    rw [Option.isSome_map] at q
    rw [<- q, <- l]
    exact h _ (I.tok _)
theorem d_write {h' : Heap} {t' : Nat} {ob : HO} (I : Inv X pins σ H s) (mu : Mut (H a)) (hs : Heap.SameBut a s.heap h') (he : ∃ q, h'.get? a = some q) (new : ObjOk X.prog X.w (upd H a ob) h' a ob) :
    Inv X pins σ (upd H a ob) { s with heap := h', toks := t' } :=
  I.write (x := a) (e := a) mu (.inl rfl) (fun b q hb z => (hs.2 b hb).trans z) he new
theorem dk_new {P : Program} {w : World} {H' : Hp} {h' : Heap} {kvs : List (Key × V)} {vs : List (Key × Value)} (z : kvs.length <= sizeLine) (hd : (a == sysModules) = false) (rel : KV kvs vs) (dd : h'.DictOf (mixKind P w) a vs) :
    ObjOk P w H' h' a (.dK kvs) := ⟨z, hd, vs, rel, dd⟩
theorem d_setItem {H' : Hp} {Q : Unit -> Shared -> Prop} (hu : A.units + 1 < cLine) (I : Inv X pins σ H s) (g : DPut H a y v H') (ry : RelV y u) (rv : RelV v r) (h : ∀ s', Inv X pins σ H' s' -> Q () s') :
    wpAny (model X.prog X.w) A (setItem (.ref a) u r) Q E s := by
  rcases g with ⟨kvs, k, e, ey, l, eH⟩ | ⟨kvs, k, b, e, ey, eb, l, eH⟩
  . subst ey eH
    obtain ⟨z, hd, vs, rel, dd⟩ := dk_of I.hok e
    have hz : vs.length <= sizeLine := by rw [<- rel.length]; exact z
    have hl : (putK kvs k v).length <= sizeLine := by have := length_putK kvs k v; omega
    refine wpAny_setItem_pairs (hsz := hz) (kV_is ry) dd fun h' dd' hs => h _ ?_
    have he : ∃ q, h'.get? a = some q := let ⟨q, _, _, hq, _⟩ := dd'; ⟨q, hq⟩
    exact d_write I (by rw [e]; exact True.intro) hs he (dk_new hl hd (rel.put k rv) dd')
  . subst ey eH
    cases (show u = Value.ref b from ry)
    obtain ⟨z, hd, xs, rel, dd⟩ := dt_of I.hok e
    have hz : xs.length <= sizeLine := by rw [<- Paired.length rel]; exact z
    have hl : (putK kvs k v).length <= sizeLine := by have := length_putK kvs k v; omega
    refine wpAny_setItem_heap (hsz := hz) (tupleKind_room_in1 hu) (key_of I.hok eb) dd fun h' dd' hs => h _ ?_
    obtain ⟨q, es, ep, hq, h2, h3, h4, _, h5⟩ := dd'
    refine d_write I (by rw [e]; exact True.intro) hs ⟨q, hq⟩ ⟨hl, hd, _, (rel.put k eb rv).keeps fun c ys ec => ?_, q, es, ep, hq, h2, h3, h4, h5⟩
    rw [upd_ne (ne_of ec e (fun z => nomatch z))]
    exact ec
end
section
variable {X : Cx} {pins : List (Addr × Obj)} {σ : St} {H : Hp} {s : Shared} {a : Addr} {kvs : List (Key × V)} {k : Key} {u : Value} {A : Around} {E : Value -> Shared -> Prop}
end
def NoSl (i : Expr) : Prop := ∀ ov iv, subscripted i false ov iv = operate [ov, iv] (getItem ov iv)
theorem subD_of {prog : Program} {w : World} {A : Around} {E : Value -> Shared -> Prop} {s : Shared} {env : Env} {value slice : Expr} {pos : Pos} {T id : String} {Q : Value -> Shared -> Prop}
    (hl : typeLookup (.type T) "__getitem__" = pure (some (.builtin id))) (hs : NoSl slice)
    (h : wpAny (model prog w) A (eval value env) (fun o s₁ => wpAny (model prog w) A (eval slice env) (fun i s₂ => s₂.TypeIs o T /\ wpAny (model prog w) A (getItem o i) Q E s₂) E s₁) E s) :
    wpAny (model prog w) A (eval (.Subscript value slice pos) env) Q E s := by
  refine Subscript_ (wpAny_mono h (fun o s₁ h₁ => wpAny_mono h₁ (fun i s₂ h₂ => ?_) fun _ _ x => x) fun _ _ x => x)
  obtain ⟨hT, h₂⟩ := h₂
  unfold subscriptTail
  refine wpAny_bind ?_
  rw [getitemInPython_of_ne hT.not_modules]
  refine wpAny_bind (wpAny_specialOf hT hl ?_)
  have fin : wpAny (model prog w) A (subscripted slice false o i) (fun r s₃ => wpAny (model prog w) A (letTemporaryGo value o r >>= fun _ => pure r) Q E s₃) E s₂ := by
    rw [hs o i]
    exact wpAny_operating (wpAny_mono h₂ (fun r s₃ h₃ => wpAny_bind (wpAny_letTemporaryGo (wpAny_pure h₃))) fun _ _ x => x)
  first
    | exact wpAny_pure (wpAny_bind fin)
    | exact wpAny_bind (wpAny_pure (wpAny_bind fin))
    | exact wpAny_bind fin
theorem dict_typeIs {X : Cx} {pins : List (Addr × Obj)} {σ : St} {H : Hp} {s : Shared} {a : Addr} {y : V} {o : Option V} (I : Inv X pins σ H s) (g : DGet H a y o) : s.TypeIs (.ref a) "dict" := by
  rcases g with ⟨kvs, k, e, _, _⟩ | ⟨kvs, k, b, e, _, _, _⟩
  . obtain ⟨_, _, vs, _, dd⟩ := dk_rd I.hok e
    exact dd.typeIs
  . obtain ⟨_, _, xs, _, dd⟩ := dt_rd I.hok e
    exact dd.typeIs
def tDGet (td ty : TE) : TE := fun σ H Q => td σ H fun x H1 => ty σ H1 fun y H2 => ∃ a v, x = .ref a /\ DGet H2 a y (some v) /\ Q v H2
def tDNotIn (ty td : TE) : TE := fun σ H Q => ty σ H fun y H1 => td σ H1 fun x H2 => ∃ a o, x = .ref a /\ DGet H2 a y o /\ Q (.bl (!o.isSome)) H2
def sDPut (td ty tv : TE) : TS := fun D σ H => tv σ H fun v H1 => td σ H1 fun x H2 => ty σ H2 fun y H3 => ∃ a H4, x = .ref a /\ DPut H3 a y v H4 /\ D.nx σ H4
section
variable {X : Cx} {o i e value : Expr} {pos pos' tpos : Pos} {td ty tv : TE}
theorem pe_dget (hu : X.A.units + 1 < cLine) (ho : PE X o td) (hi : PE X i ty) (hs : NoSl i) : PE X (.Subscript o i pos) (tDGet td ty) := by
  intro pins s σ H Q I h
  refine subD_of PySem.F.slot_dict_getitem.lookup hs (thn (ho pins s σ H _ I h) fun u s1 ⟨x, H1, I1, rx, q1⟩ => thn (hi pins s1 σ H1 _ I1 q1) fun iv s2 ⟨y, H2, I2, ry, a, v, ex, g, q2⟩ => ?_)
  subst ex
  obtain rfl : u = Value.ref a := rx
  exact ⟨dict_typeIs I2 g, d_getItem hu I2 g ry fun w' s3 I3 rw' => ⟨v, H2, I3, rw', q2⟩⟩
theorem pc_dnotin (hu : X.A.units + 1 < cLine) (hi : PE X i ty) (ho : PE X o td) : PC X .NotIn i o (tDNotIn ty td) := by
  intro pins s σ H Q I h
  refine thn (hi pins s σ H _ I h) fun iv s1 ⟨y, H1, I1, ry, q1⟩ => thn (ho pins s1 σ H1 _ I1 q1) fun u s2 ⟨x, H2, I2, rx, a, ov, ex, g, q2⟩ => ?_
  subst ex
  obtain rfl : u = Value.ref a := rx
  exact d_notIn hu I2 g ry fun s3 I3 => ⟨.bl (!ov.isSome), H2, I3, rfl, q2⟩
theorem ps_dput (hu : X.A.units + 1 < cLine) (ho : PE X o td) (hi : PE X i ty) (hv : PE X value tv) (hs : swapsWith value (some (.Subscript o i pos')) pos.line X.env = pure false) :
    PS X (.Assign [.Subscript o i pos'] value pos) (sDPut td ty tv) := by
  intro pins s σ H D I h
  refine wpAny_Assign_Subscript (thn (hv pins s σ H _ I h) fun r s1 ⟨v, H1, I1, rv, q1⟩ => thn (ho pins s1 σ H1 _ I1 q1) fun u s2 ⟨x, H2, I2, rx, q2⟩ => thn (hi pins s2 σ H2 _ I2 q2) fun iv s3 ⟨y, H3, I3, ry, a, H4, ex, g, q3⟩ => ?_) hs
  subst ex
  obtain rfl : u = Value.ref a := rx
  exact d_setItem hu I3 g ry rv fun s4 I4 => ⟨σ, H4, I4, q3⟩
end
theorem dk_empty {P : Program} {w : World} {H : Hp} (h : Heap) (hb : sysModules < h.objs.size) : ObjOk P w H (h.push { cls := .type "dict", data := .dict #[] }) h.objs.size (.dK []) :=
  ⟨Nat.zero_le _, beq_eq_false_iff_ne.mpr (Ne.symm (Nat.ne_of_lt hb)), [], .nil, Heap.DictOf.new h⟩
section
variable {X : Cx} {pos : Pos}
end
def tPairs : List (TE × TE) -> St -> Hp -> (List (V × V) -> Hp -> Prop) -> Prop
  | [], _, H, Q => Q [] H
  | (tk, tv) :: r, σ, H, Q => tk σ H fun x H1 => tv σ H1 fun y H2 => tPairs r σ H2 fun ps H3 => Q ((x, y) :: ps) H3
abbrev VV : List (V × V) -> List (Value × Value) -> Prop := Paired fun p q => RelV p.1 q.1 /\ RelV p.2 q.2
def PPs (X : Cx) (pos : Pos) (keys : List (Option Expr)) (values : List Expr) (trs : List (TE × TE)) : Prop :=
  ∀ (pins : List (Addr × Obj)) (s : Shared) (σ : St) (H : Hp) (Q : List (V × V) -> Hp -> Prop), Inv X pins σ H s -> tPairs trs σ H Q ->
    wpAny (model X.prog X.w) X.A (evalPairs (pairTrees keys values X.env pos)) (fun vs s' => ∃ ps H', Inv X pins σ H' s' /\ VV ps vs /\ Q ps H') X.xe s
theorem pps_nil {X : Cx} {pos : Pos} : PPs X pos [] [] [] := fun pins s σ H Q I h => pairTrees_nil_walk ⟨[], H, I, .nil, h⟩
theorem pps_cons {X : Cx} {pos : Pos} {k v : Expr} {ks : List (Option Expr)} {vs : List Expr} {tk tv : TE} {trs : List (TE × TE)} (hk : PE X k tk) (hv : PE X v tv) (hr : PPs X pos ks vs trs) :
    PPs X pos (some k :: ks) (v :: vs) ((tk, tv) :: trs) := fun pins s σ H Q I h =>
  pairTrees_cons_walk (thn (hk pins s σ H _ I h) fun u s1 ⟨x, H1, I1, rx, q1⟩ => thn (hv pins s1 σ H1 _ I1 q1) fun w2 s2 ⟨y, H2, I2, ry, q2⟩ =>
    thn (hr pins s2 σ H2 _ I2 q2) fun ws s3 ⟨ps, H3, I3, rel, q3⟩ => ⟨(x, y) :: ps, H3, I3, .cons ⟨rx, ry⟩ rel, q3⟩)
def mergeK (kvs more : List (Key × V)) : List (Key × V) := more.foldl (fun acc kv => putK acc kv.1 kv.2) kvs
theorem KV.merge : ∀ {more : List (Key × V)} {rs : List (Key × Value)} {kvs : List (Key × V)} {vs : List (Key × Value)}, KV more rs -> KV kvs vs -> KV (mergeK kvs more) (merged vs rs) := by
  intro more rs kvs vs r
  unfold KV at r
  induction r generalizing kvs vs with
  | nil => intro q; exact q
  | @cons p q ps qs h t ih =>
    intro r0
    have e : KV (putK kvs p.1 p.2) (stored vs q.1 q.2) := by
      have := r0.put p.1 h.2
      rw [<- h.1]; exact this
    exact ih e
theorem length_mergeK : ∀ (more kvs : List (Key × V)), (mergeK kvs more).length <= kvs.length + more.length
  | [], kvs => by show kvs.length <= kvs.length + 0; omega
  | p :: r, kvs => by
    have h1 := length_mergeK r (putK kvs p.1 p.2)
    have h2 := length_putK kvs p.1 p.2
    show (mergeK (putK kvs p.1 p.2) r).length <= _
    rw [List.length_cons]; omega
theorem carries_of {P : Program} {w : World} : ∀ {kvs : List (Key × V)} {ws : List (Value × Value)}, VV (kvs.map fun kv => (kV kv.1, kv.2)) ws -> ∃ rs, Carries (mixKind P w) ws rs /\ KV kvs rs
  | [], _, r => by rw [List.map_nil] at r; cases r; exact ⟨[], True.intro, .nil⟩
  | p :: kvs, _, r => by
    rw [List.map_cons] at r
    cases r with
    | @cons a b as bs h t =>
      obtain ⟨rs, c, q⟩ := carries_of (P := P) (w := w) t
      obtain ⟨b1, b2⟩ := b
      exact ⟨(p.1, b2) :: rs, ⟨kV_is h.1, rfl, c⟩, .cons ⟨rfl, h.2⟩ q⟩
def tDisp (trs : List (TE × TE)) : TE := fun σ H Q => ∀ p, H p = none -> tPairs trs σ (upd H p (.dK [])) fun ps H2 => H2 p = some (.dK []) /\ ∃ kvs : List (Key × V), ps = kvs.map (fun kv => (kV kv.1, kv.2)) /\ kvs.length <= 15 /\ Q (.ref p) (upd H2 p (.dK (mergeK [] kvs)))
theorem pe_disp {X : Cx} {pos : Pos} {keys : List (Option Expr)} {values : List Expr} {trs : List (TE × TE)} (h : PPs X pos keys values trs) (hall : keys.all (·.isSome) = true) (hl : keys.length = values.length) (h0 : keys ≠ [])
    (h15 : keys.length <= 15) : PE X (.Dict keys values pos) (tDisp trs) := by
  intro pins s σ H Q I q
  have hn := I.hok.fresh (Nat.le_refl s.heap.objs.size)
  have I1 := I.laid (a := s.heap.objs.size) (o := .dK []) (h' := s.heap.push { cls := .type "dict", data := .dict #[] }) (t' := s.toks) (fun _ _ q => Heap.get?_push_of_some _ q) (Nat.le_refl _) (dk_empty s.heap I.big)
  refine wpAny_Dict_walk (knd := mixKind X.prog X.w) hall hl h0 h15 (thn (h pins _ σ _ _ I1 (q _ hn)) fun ws s2 ⟨ps, H2, I2, rel, e, kvs, ep, lk, q2⟩ => ?_)
  subst ep
  obtain ⟨rs, c, rk⟩ := carries_of (P := X.prog) (w := X.w) rel
  obtain ⟨z, hd, vs0, r0, dd⟩ := dk_of I2.hok e
  cases r0
  refine ⟨rs, c, dd, fun h' dd' hs => ⟨.ref s.heap.objs.size, _, ?_, rfl, q2⟩⟩
  have hz : (mergeK [] kvs).length <= sizeLine := by
    have h1 := length_mergeK kvs []
    rw [List.length_nil] at h1
    rw [sizeLine_eq]; omega
  have he : ∃ q, h'.get? s.heap.objs.size = some q := let ⟨q, _, _, hq, _⟩ := dd'; ⟨q, hq⟩
  exact d_write I2 (by rw [e]; exact True.intro) hs he (dk_new hz hd (rk.merge .nil) dd')
section
variable {X : Cx} {pins : List (Addr × Obj)} {σ : St} {H : Hp} {s : Shared} {a : Addr} {y d : V} {u r : Value} {o : Option V} {A : Around} {E : Value -> Shared -> Prop}
end
section
variable {X : Cx} {o e f : Expr} {apos cpos : Pos} {td ty tx : TE}
end
section
variable {X : Cx} {pins : List (Addr × Obj)} {σ : St} {H : Hp} {s : Shared} {a : Addr} {kvs : List (Key × V)} {A : Around} {E : Value -> Shared -> Prop}
end
section
variable {X : Cx} {pins : List (Addr × Obj)} {σ : St} {H : Hp} {s : Shared} {a : Addr} {y : V} {u : Value} {A : Around} {E : Value -> Shared -> Prop}
end
end L2
set_option Elab.async false
set_option linter.all false
set_option maxRecDepth 100000
set_option maxHeartbeats 4000000
namespace L2
open PySem PySem.Spec PyProof.Rows
def clOf (env : Env) : List (Str × NameKind) -> List (Str × Addr) -> List (Str × Addr)
  | [], acc => acc
  | (n, k) :: r, acc => if (k == .free) = true then clOf env r ((n, (env.cells.lookup n).getD 0) :: acc) else clOf env r acc
theorem closure_eq {env : Env} {scope : Scope} (h : ∀ p ∈ scope.names, p.2 = .free -> ∃ c, env.cells.lookup p.1 = some c) : closureFor scope env = pure (clOf env scope.names []) := by
  have go : ∀ (l : List (Str × NameKind)) (acc : List (Str × Addr)), (∀ p ∈ l, p.2 = .free -> ∃ c, env.cells.lookup p.1 = some c) ->
      (forIn l acc fun (x : Str × NameKind) (cs : List (Str × Addr)) => (if (x.2 == .free) = true then do let c <- cellOf env x.1; pure (ForInStep.yield ((x.1, c) :: cs)) else pure (ForInStep.yield cs) : Sem (ForInStep (List (Str × Addr))))) = (pure (clOf env l acc) : Sem (List (Str × Addr))) := by
    intro l
    induction l with
    | nil => intro acc _; rfl
    | cons p r ih =>
      intro acc hl
      obtain ⟨n, k⟩ := p
      rw [List.forIn_cons]
      by_cases hk : (k == .free) = true
      . obtain ⟨c, hc⟩ := hl (n, k) List.mem_cons_self (by simpa using hk)
        have e1 : cellOf env n = pure c := by unfold cellOf; rw [hc]
        have ih' := ih ((n, c) :: acc) fun q hq => hl q (List.mem_cons_of_mem _ hq)
        show ((if (k == .free) = true then do let c <- cellOf env n; pure (ForInStep.yield ((n, c) :: acc)) else pure (ForInStep.yield acc) : Sem _) >>= _) = _
        rw [if_pos hk, e1]
        show (forIn r ((n, c) :: acc) _ : Sem _) = _
        rw [clOf, if_pos hk, hc]
        exact ih'
      . have ih' := ih acc fun q hq => hl q (List.mem_cons_of_mem _ hq)
        show ((if (k == .free) = true then do let c <- cellOf env n; pure (ForInStep.yield ((n, c) :: acc)) else pure (ForInStep.yield acc) : Sem _) >>= _) = _
        rw [if_neg hk]
        show (forIn r acc _ : Sem _) = _
        rw [clOf, if_neg hk]
        exact ih'
  have e := go scope.names [] h
  unfold closureFor
  show (forIn scope.names [] _ >>= fun cs => pure cs : Sem _) = _
  have e2 : (forIn scope.names [] (fun (x : Str × NameKind) (r : List (Str × Addr)) => (match x with
      | (name, kind) => if (kind == .free) = true then do let c <- cellOf env name; pure (ForInStep.yield ((name, c) :: r)) else do pure PUnit.unit; pure (ForInStep.yield r) : Sem (ForInStep (List (Str × Addr)))))) = (pure (clOf env scope.names []) : Sem (List (Str × Addr))) := e
  exact congrArg (fun z => z >>= fun cs => pure cs) e2
theorem clOf_mem {env : Env} : ∀ (l : List (Str × NameKind)) (acc : List (Str × Addr)), (∀ p ∈ l, p.2 = .free -> ∃ c, env.cells.lookup p.1 = some c) -> (∀ q ∈ acc, env.cells.lookup q.1 = some q.2) -> ∀ q ∈ clOf env l acc, env.cells.lookup q.1 = some q.2
  | [], _, _, ha, q, hq => ha q hq
  | (n, k) :: r, acc, hl, ha, q, hq => by
    unfold clOf at hq
    by_cases hk : (k == .free) = true
    . rw [if_pos hk] at hq
      obtain ⟨c, hc⟩ := hl (n, k) List.mem_cons_self (by simpa using hk)
      refine clOf_mem r _ (fun p hp => hl p (List.mem_cons_of_mem _ hp)) (fun p hp => ?_) q hq
      rcases List.mem_cons.mp hp with rfl | hp
      . show env.cells.lookup n = some ((env.cells.lookup n).getD 0)
        rw [hc]; rfl
      . exact ha p hp
    . rw [if_neg hk] at hq
      exact clOf_mem r _ (fun p hp => hl p (List.mem_cons_of_mem _ hp)) ha q hq
theorem clOf_has {env : Env} : ∀ (l : List (Str × NameKind)) (acc : List (Str × Addr)) (x : Str), ((x, NameKind.free) ∈ l \/ ∃ c, (x, c) ∈ acc) -> ∃ c, (x, c) ∈ clOf env l acc
  | [], _, _, h => by
    rcases h with h | h
    . cases h
    . exact h
  | (n, k) :: r, acc, x, h => by
    unfold clOf
    by_cases hk : (k == .free) = true
    . rw [if_pos hk]
      refine clOf_has r _ x ?_
      rcases h with h | ⟨c, h⟩
      . rcases List.mem_cons.mp h with h | h
        . cases h
          exact .inr ⟨_, List.mem_cons_self⟩
        . exact .inl h
      . exact .inr ⟨c, List.mem_cons_of_mem _ h⟩
    . rw [if_neg hk]
      refine clOf_has r _ x ?_
      rcases h with h | h
      . rcases List.mem_cons.mp h with h | h
        . cases h
          exact absurd rfl hk
        . exact .inl h
      . exact .inr h
theorem lookup_some_of_mem {β : Type} : ∀ {l : List (Str × β)} {x : Str} {c : β}, (x, c) ∈ l -> ∃ c', l.lookup x = some c'
  | [], _, _, h => by cases h
  | (n, d) :: r, x, c, h => by
    by_cases hx : (x == n) = true
    . exact ⟨d, by rw [List.lookup_cons, hx]⟩
    . rcases List.mem_cons.mp h with h | h
      . cases h; exact absurd (beq_self_eq_true _) hx
      . obtain ⟨c', e⟩ := lookup_some_of_mem h
        exact ⟨c', by rw [List.lookup_cons]; simp only [Bool.not_eq_true] at hx; rw [hx]; exact e⟩
def relF (env : Env) : Str × NameKind -> Str × NameKind := fun (n, k) => if (k == NameKind.free && env.scope.kind == .function && env.kindOf n == some .cell) then (n, NameKind.cell) else (n, k)
theorem relF_yes {env : Env} {n : Str} {k : NameKind} (h : (k == NameKind.free && env.scope.kind == .function && env.kindOf n == some .cell) = true) : relF env (n, k) = (n, .cell) := if_pos h
theorem relF_no {env : Env} {n : Str} {k : NameKind} (h : ¬ (k == NameKind.free && env.scope.kind == .function && env.kindOf n == some .cell) = true) : relF env (n, k) = (n, k) := if_neg h
theorem relabel_kind {env : Env} : ∀ {names : List (Str × NameKind)} {x : Str} {k : NameKind}, (∀ y ∈ names, y.2 ≠ .cell) ->
    (names.map (relF env)).lookup x = some k -> (k = .cell \/ k = .free) -> (x, NameKind.free) ∈ names
  | [], _, _, _, h, _ => by simp at h
  | (n, k') :: r, x, k, hc, h, hk => by
    have ih := @relabel_kind env r x k (fun y hy => hc y (List.mem_cons_of_mem _ hy))
    rw [List.map_cons] at h
    by_cases hb : (k' == NameKind.free && env.scope.kind == .function && env.kindOf n == some .cell) = true
    . rw [relF_yes hb, List.lookup_cons] at h
      cases hx : x == n with
      | true =>
        have e : x = n := by simpa using hx
        subst e
        have e2 : k' = .free := by
          simp only [Bool.and_eq_true] at hb
          simpa using hb.1.1
        subst e2
        exact List.mem_cons_self
      | false =>
        rw [hx] at h
        exact List.mem_cons_of_mem _ (ih h hk)
    . rw [relF_no hb, List.lookup_cons] at h
      cases hx : x == n with
      | true =>
        rw [hx] at h
        have e : x = n := by simpa using hx
        subst e
        have e2 : k' = k := Option.some.inj h
        subst e2
        rcases hk with rfl | rfl
        . exact absurd rfl (hc _ List.mem_cons_self)
        . exact List.mem_cons_self
      | false =>
        rw [hx] at h
        exact List.mem_cons_of_mem _ (ih h hk)
theorem relabel_free {env : Env} : ∀ {names : List (Str × NameKind)} {x : Str}, names.lookup x = some .free ->
    ∃ k, (k = NameKind.cell \/ k = NameKind.free) /\ (names.map (relF env)).lookup x = some k
  | [], _, h => by simp at h
  | (n, k') :: r, x, h => by
    have ih := @relabel_free env r x
    rw [List.lookup_cons] at h
    rw [List.map_cons]
    cases hx : x == n with
    | true =>
      rw [hx] at h
      have e2 : k' = .free := Option.some.inj h
      subst e2
      by_cases hb : ((NameKind.free : NameKind) == NameKind.free && env.scope.kind == .function && env.kindOf n == some .cell) = true
      . exact ⟨.cell, .inl rfl, by rw [relF_yes hb, List.lookup_cons, hx]⟩
      . exact ⟨.free, .inr rfl, by rw [relF_no hb, List.lookup_cons, hx]⟩
    | false =>
      rw [hx] at h
      obtain ⟨k, hk, e⟩ := ih h
      refine ⟨k, hk, ?_⟩
      by_cases hb : (k' == NameKind.free && env.scope.kind == .function && env.kindOf n == some .cell) = true
      . rw [relF_yes hb, List.lookup_cons, hx]; exact e
      . rw [relF_no hb, List.lookup_cons, hx]; exact e
end L2
set_option Elab.async false
set_option linter.all false
set_option maxRecDepth 100000
set_option maxHeartbeats 4000000
namespace L2
open PySem PySem.Spec PyProof.Rows
section
variable {prog : Program} {w : World} {A : Around} {R : Result -> Shared -> Prop} {s : Shared}
abbrev cpW (prog : Program) (w : World) (A : Around) (R : Result -> Shared -> Prop) (env : Env) {α : Type} (m : Sem α) (Q : α -> Shared -> Prop) : Shared -> Prop := wpAny (model prog w) A m Q (notedBy (model prog w) A env fun e t => R (.error e) t)
theorem compLoop_gen {elt target iter : Expr} {ifs : List Expr} {scope : Scope} {pos : Pos} {it acc : Value} {env : Env} (I : Nat -> Shared -> Prop)
    (turn : ∀ n s, I n s -> cpW prog w A R env (pyNext it) (fun r s => match r with
      | none => R (.ok .next) s
      | some v => cpW prog w A R env (letOwnedTupleGo target it v) (fun _ => cpW prog w A R env (assign target env v) fun _ => cpW prog w A R env (forIn ifs true fun c r => if r = true then do let ok <- isTrue c env (eval c env); pure (ForInStep.yield ok) else pure (ForInStep.yield r)) fun ok s =>
          if ok = true then cpW prog w A R env (eval elt env) (fun x => cpW prog w A R env (call (.builtin "list.append") [acc, x]) fun _ t => ∃ m, m < n /\ I m t) s else ∃ m, m < n /\ I m s) s) s)
    (n : Nat) (h : I n s) : codeAny (model prog w) A (.compLoop (.ListComp elt [⟨target, iter, ifs, 0⟩] scope pos) 0 it acc env) R s := by
  have mono : ∀ {α β : Type} {m : Sem α} {f : α -> Sem β} {Q : α -> Shared -> Prop} {Q' : β -> Shared -> Prop} {s : Shared}, cpW prog w A R env m Q s -> (∀ a t, Q a t -> cpW prog w A R env (f a) Q' t) -> cpW prog w A R env (m >>= f) Q' s := fun h k => wpAny_bind (wpAny_mono h k fun _ _ e => e)
  refine codeAny_loop rfl I (fun n s hI => wpAny_noted ?_) n h
  rw [compTurn_list]
  refine wpAny_bind (wpAny_standAt (mono (turn n s hI) fun r s1 h1 => ?_))
  cases r with
  | none => exact wpAny_pure h1
  | some v =>
    refine mono h1 fun _ _ h2 => mono h2 fun _ _ h3 => mono h3 fun ok s4 h4 => ?_
    cases ok with
    | false => exact wpAny_pure ⟨rfl, h4⟩
    | true => exact wpAny_bind (mono h4 fun _ _ h5 => mono h5 fun _ _ h6 => wpAny_pure (wpAny_pure ⟨rfl, h6⟩))
end
abbrev Cx.blk (X : Cx) (N : List Str) (sc : Scope) (C : Addr) (s₀ : Shared) (H₀ : Hp) (ex : List Addr) : Cx :=
  { X with N := N, env := compEnvC sc (clOf X.env sc.names []) C X.env, outer := X.stack, s₀ := s₀, H₀ := H₀, ex := ex, fn := fun _ => false, pn := [], xe := fun _ _ => False }
structure BlkSc (X : Cx) (sc : Scope) : Prop where
  kind : sc.kind = .function
  nocell : ∀ y ∈ sc.names, y.2 ≠ .cell
  loc : ∀ y ∈ sc.names, y.2 = .local -> sc.names.lookup y.1 = some .local
  free : ∀ y ∈ sc.names, y.2 = .free -> X.env.kindOf y.1 = some .cell \/ X.env.kindOf y.1 = some .free
abbrev Caps := List (Str × Option Nat)
def Caps.names (c : Caps) : List Str := c.map (·.1)
def Caps.st (c : Caps) (σ : St) : St := c.map fun p => p.2.bind fun j => (σ[j]?).join
def CapsOk (N : List Str) (sc : Scope) : Caps -> Prop
  | [] => True
  | (_, none) :: r => CapsOk N sc r
  | (x, some j) :: r => (N[j]? = some x /\ sc.names.lookup x = some .free) /\ CapsOk N sc r
theorem CapsOk.get {N : List Str} {sc : Scope} : ∀ {c : Caps} {i : Nat} {x : Str} {j : Nat}, CapsOk N sc c -> c[i]? = some (x, some j) -> N[j]? = some x /\ sc.names.lookup x = some .free
  | [], _, _, _, _, h => by simp at h
  | (y, none) :: r, 0, x, j, _, h => by simp at h
  | (y, none) :: r, i + 1, x, j, ok, h => CapsOk.get (c := r) (i := i) ok (by simpa using h)
  | (y, some k) :: r, 0, x, j, ok, h => by
    simp only [List.getElem?_cons_zero, Option.some.injEq, Prod.mk.injEq] at h
    obtain ⟨rfl, rfl⟩ := h
    exact ok.1
  | (y, some k) :: r, i + 1, x, j, ok, h => CapsOk.get (c := r) (i := i) ok.2 (by simpa using h)
section
variable {X : Cx} {pins : List (Addr × Obj)} {σ : St} {H : Hp} {s : Shared} {sc : Scope} {fp : List Addr}
theorem blk_cells (I : Inv X pins σ H s) (S : BlkSc X sc) : ∀ p ∈ sc.names, p.2 = .free -> ∃ c, X.env.cells.lookup p.1 = some c := fun p hp e => I.ok.has p.1 (S.free p hp e)
theorem blk_lookup (I : Inv X pins σ H s) (S : BlkSc X sc) {x : Str} {c : Addr} (h : (clOf X.env sc.names []).lookup x = some c) : X.env.cells.lookup x = some c :=
  clOf_mem sc.names [] (blk_cells I S) (fun q hq => by cases hq) (x, c) (PySem.mem_of_lookup h)
theorem blk_ok {N : List Str} {C : Addr} (I : Inv X pins σ H s) (S : BlkSc X sc) (hC : s.heap.objs.size <= C) (hf : ∀ b ∈ fp, FpOk X pins H b) (ho : ∀ b ∈ fp, ∃ o, s.heap.get? b = some o) : (X.blk N sc C s H fp).Ok where
  mod := I.ok.mod
  kind := S.kind
  glob := I.ok.glob
  blt := I.ok.blt
  above := hC
  inj := fun x y c h1 h2 => I.ok.inj x y c (blk_lookup I S h1) (blk_lookup I S h2)
  has := fun x hx => by
    have hx' : (x, NameKind.free) ∈ sc.names := by
      rcases hx with hx | hx
      . exact relabel_kind (env := X.env) S.nocell hx (.inl rfl)
      . exact relabel_kind (env := X.env) S.nocell hx (.inr rfl)
    obtain ⟨c, hc⟩ := clOf_has (env := X.env) sc.names [] x (.inl hx')
    exact lookup_some_of_mem hc
  cab := fun x c h => absurd (show false = true from h) Bool.false_ne_true
  hd := I.ok.hd
  frames := I.ok.frames
  stk := .inl rfl
  exf := fun b hb => by
    obtain ⟨o, ho⟩ := ho b hb
    refine ⟨Nat.ne_of_lt (Nat.lt_of_lt_of_le (Heap.lt_size ho) hC), fun x c h => (hf b hb).2.2.2.2.1 x c (blk_lookup I S h)⟩
  bs := I.bs
  bsz := Nat.le_trans I.ok.bsz I.sz
  noex := fun b o e hb => by
    rcases (hf b hb).2.2.2.1 with z | z
    . exact I.ok.noex b o e z
    . exact absurd (Nat.lt_of_lt_of_le (Heap.lt_size (I.ok.bs b o e).1) z) (Nat.lt_irrefl _)
  exfs := fun b hb z => by
    rcases List.mem_cons.mp (I.stkSub b z) with e | e
    . exact (hf b hb).2.1 e
    . exact (hf b hb).2.2.1 e
  funs := I.stack
  frf := I.stkFree
theorem blk_start {c : Caps} {C : Addr} {s4 : Shared} {m : Str -> Option Value} (I : Inv X pins σ H s) (S : BlkSc X sc) (hc : CapsOk X.N sc c) (hC : s.heap.objs.size <= C) (hf : ∀ b ∈ fp, FpOk X pins H b) (ho : ∀ b ∈ fp, ∃ o, s.heap.get? b = some o)
    (hos : s4.os = s.os) (hb : s4.gens = s.gens) (hk : ∀ b o, s.heap.get? b = some o -> s4.heap.get? b = some o) (hn : s4.heap.Ns C m) : Inv (X.blk c.names sc C s H fp) [] (c.st σ) H s4 where
  ok := blk_ok I S hC hf ho
  os := hos
  bare := by rw [hb]; exact I.bare
  base := Un.kept hk
  loc := by
    refine ⟨m, hn, fun i x v h1 h2 hv => ?_⟩
    have h1' : (c.map (·.1))[i]? = some x := h1
    have h2' : (c.map fun p => p.2.bind fun j => (σ[j]?).join)[i]? = some (some v) := h2
    rw [List.getElem?_map] at h1' h2'
    cases e : c[i]? with
    | none => rw [e] at h1'; cases h1'
    | some p =>
      obtain ⟨y, oj⟩ := p
      rw [e] at h1' h2'
      have e1 : y = x := Option.some.inj h1'
      subst e1
      have e2 : (oj.bind fun j => (σ[j]?).join) = some v := Option.some.inj h2'
      cases oj with
      | none => cases e2
      | some j =>
        have e3 : (σ[j]?).join = some v := e2
        have e4 : σ[j]? = some (some v) := by
          cases q : σ[j]? with
          | none => rw [q] at e3; cases e3
          | some z => rw [q] at e3; exact congrArg some e3
        obtain ⟨k1, k2⟩ := CapsOk.get hc e
        have k3 : X.env.kindOf y = some .cell \/ X.env.kindOf y = some .free := S.free (y, .free) (PySem.mem_of_lookup k2) rfl
        have vis : Vis X.env.scope y := by
          rcases k3 with k | k
          . exact .inr (.inl k)
          . exact .inr (.inr k)
        obtain ⟨mX, hnX, hl⟩ := I.loc
        obtain ⟨u, r, l⟩ := hl j y v k1 e4 vis
        refine ⟨u, r, ?_⟩
        rcases l with ⟨k, _⟩ | ⟨_, ca, hca, z⟩
        . rcases k3 with k' | k' <;> (rw [k] at k'; cases k')
        . obtain ⟨kd, hkd, ek⟩ := relabel_free (env := X.env) k2
          have hk2 : (compEnvC sc (clOf X.env sc.names []) C X.env).kindOf y = some kd := ek
          obtain ⟨c', hc'⟩ := clOf_has (env := X.env) sc.names [] y (.inl (PySem.mem_of_lookup k2))
          obtain ⟨c2, hc2⟩ := lookup_some_of_mem hc'
          have e5 := blk_lookup I S hc2
          rw [hca] at e5
          have e6 : ca = c2 := Option.some.inj e5
          subst e6
          refine .inr ⟨?_, ca, hc2, ?_⟩
          . rcases hkd with rfl | rfl
            . exact .inl hk2
            . exact .inr hk2
          . obtain ⟨oc, hoc, hd⟩ := z
            exact ⟨oc, hk _ _ hoc, hd⟩
  cell := fun x ca h => by
    obtain ⟨v, oc, hoc, hd⟩ := I.cell x ca (blk_lookup I S h)
    exact ⟨v, oc, hk _ _ hoc, hd⟩
  free := I.hok.fresh hC
  freeC := fun x ca h => I.freeC x ca (blk_lookup I S h)
  pin := fun p hp => absurd (show p ∈ ([] : List (Addr × Obj)) from hp) (by simp)
  hok := I.hok.kept hk
  len := by show (c.map _).length = (c.map _).length; rw [List.length_map, List.length_map]
theorem HOk.track {P : Program} {w : World} {H : Hp} {h : Heap} {a : Addr} {o : HO} (x : HOk P w H h) (hn : H a = none) (new : ObjOk P w (upd H a o) h a o) : HOk P w (upd H a o) h := fun b u e => by
  by_cases hb : b = a
  . subst hb; rw [upd_same] at e; cases e; exact new
  . rw [upd_ne hb] at e
    exact (x b u e).stay (fun c v _ q => q) (fun c q => by rw [upd_ne (ne_of_none q hn)]; exact q) fun c xs q => by rw [upd_ne (ne_of_none q hn)]; exact q
theorem Un.track {fs ex : List Addr} {H H' : Hp} {h h' : Heap} {a : Addr} {o : HO} (u : Un fs ex H H' h h') (ha : h.objs.size <= a) (hn : H' a = none) : Un fs ex H (upd H' a o) h h' where
  keep := u.keep
  slot := u.slot
  free := fun b ob q n hx => by rw [upd_ne (Nat.ne_of_lt (Nat.lt_of_lt_of_le (Heap.lt_size q) ha))]; exact u.free b ob q n hx
  there := u.there
  tups := fun b xs q => by rw [upd_ne (ne_of_none (u.tups b xs q) hn)]; exact u.tups b xs q
  frzs := fun b ob xs q => by rw [upd_ne (ne_of_none (u.frzs b ob xs q) hn)]; exact u.frzs b ob xs q
  tbls := fun b ps q => by
    obtain ⟨more, e⟩ := u.tbls b ps q
    exact ⟨more, by rw [upd_ne (ne_of_none e hn)]; exact e⟩
theorem blk_end {c : Caps} {C D : Addr} {s' : Shared} {σ' : St} {H' : Hp} {o : HO} (I : Inv X pins σ H s) (J : Inv (X.blk c.names sc C s H fp) [] σ' H' s') (hf : ∀ b ∈ fp, FpOk X pins H b) (hD : s.heap.objs.size <= D) (hn : H' D = none)
    (new : ObjOk X.prog X.w (upd H' D o) s'.heap D o) : Inv X pins σ (upd H' D o) s' := by
  have u : Un (frs X.stack) fp H H' s.heap s'.heap := J.base
  exact I.call' J.os (u.track hD hn) (J.hok.track hn new) J.bare fun b hb => ⟨(hf b hb).2.2.2.1, (hf b hb).2.1, (hf b hb).2.2.2.2.1, (hf b hb).2.2.2.2.2⟩
end
def PF (X : Cx) (ifs : List Expr) (t : TT) : Prop :=
  ∀ (pins : List (Addr × Obj)) (s : Shared) (σ : St) (H : Hp) (Q : Bool -> Hp -> Prop), Inv X pins σ H s -> t σ H Q ->
    wpAny (model X.prog X.w) X.A (forIn ifs true fun c r => if r = true then do let ok <- isTrue c X.env (eval c X.env); pure (ForInStep.yield ok) else pure (ForInStep.yield r)) (TP X pins σ Q) X.xe s
def tTrue : TT := fun _ H Q => Q true H
theorem pf_nil {X : Cx} : PF X [] tTrue := fun _ _ _ H _ I h => wpAny_tests_nil ⟨H, I, h⟩
theorem pf_one {X : Cx} {c : Expr} {t : TT} (h : PT X c t) : PF X [c] t := fun pins s σ H Q I hw => wpAny_tests_one (h pins s σ H Q I hw)
def tComp (wi : TI) (cp : Caps) (g : TG) (tc : TT) (te : TE) : TE := fun σ H Q => wi σ H fun J H1 => ∃ W : Nat -> Nat -> List V -> St -> Hp -> Prop, (∃ m, W 0 m [] (cp.st σ) H1) /\ ∀ i m ys σ' H', W i m ys σ' H' ->
  ys.length < sizeLine /\ ((J.stop i H' /\ ∀ D, H' D = none -> Q (.ref D) (upd H' D (.lst ys))) \/ (J.go i H' /\ ∃ N : List V -> St -> Hp -> Prop, (∀ zs σ2 H2, N zs σ2 H2 -> ∃ m', m' < m /\ W (i + 1) m' zs σ2 H2) /\ ∀ x H2, J.yld i H' x H2 -> g x σ' H2 fun σ2 H3 => tc σ2 H3 fun b H4 =>
    if b = true then te σ2 H4 fun v H5 => N (ys ++ [v]) σ2 H5 else N ys σ2 H4))
section
variable {X : Cx} {tg iter elt : Expr} {ifs : List Expr} {sc : Scope} {pos : Pos} {wi : TI} {cp : Caps} {g : TG} {tc : TT} {te : TE}
theorem comp_core (hc : X.calm = true) (S : BlkSc X sc) (hcp : CapsOk X.N sc cp)
    (hg : ∀ C s₀ H₀ ex, PG (X.blk cp.names sc C s₀ H₀ ex) tg g) (hf : ∀ C s₀ H₀ ex, PF (X.blk cp.names sc C s₀ H₀ ex) ifs tc) (he : ∀ C s₀ H₀ ex, PE (X.blk cp.names sc C s₀ H₀ ex) elt te)
    {pins : List (Addr × Obj)} {σ : St} {H : Hp} {s : Shared} {J : It} {it : Addr} {fp : List Addr} {tn : Nat -> Heap -> Prop} {Q : VK} {RR : Value -> Addr -> Result -> Shared -> Prop} {E : Value -> Shared -> Prop}
    (I : Inv X pins σ H s) (T : Turn X.prog X.w X.K tg J fp it tn) (st : tn 0 s.heap) (fpo : ∀ b ∈ fp, FpOk X pins H b)
    (hw : ∃ W : Nat -> Nat -> List V -> St -> Hp -> Prop, (∃ m, W 0 m [] (cp.st σ) H) /\ ∀ i m ys σ' H', W i m ys σ' H' ->
      ys.length < sizeLine /\ ((J.stop i H' /\ ∀ D, H' D = none -> Q (.ref D) (upd H' D (.lst ys))) \/ (J.go i H' /\ ∃ N : List V -> St -> Hp -> Prop, (∀ zs σ2 H2, N zs σ2 H2 -> ∃ m', m' < m /\ W (i + 1) m' zs σ2 H2) /\ ∀ x H2, J.yld i H' x H2 -> g x σ' H2 fun σ2 H3 => tc σ2 H3 fun b H4 =>
        if b = true then te σ2 H4 fun v H5 => N (ys ++ [v]) σ2 H5 else N ys σ2 H4)))
    (hR : ∀ D C s' H' (m : Str -> Option Value), Inv X pins σ H' s' -> Q (.ref D) H' -> s'.heap.Ns C m -> H' C = none -> C ≠ X.env.locals -> X.s₀.heap.objs.size <= C -> (∀ x c, X.env.cells.lookup x = some c -> c ≠ C) -> (∀ p ∈ X.pn ++ pins, p.1 ≠ C) -> RR (.ref D) C (.ok .next) s') :
    wpAny (model X.prog X.w) X.A (newList []) (fun acc s₃ => wpAny (model X.prog X.w) X.A (newFunctionEnv sc X.env.globals (clOf X.env sc.names []) [] X.env.qual none .none (some X.env)) (fun cenv s₄ =>
      codeAny (model X.prog X.w) X.A (.compStart (.ListComp elt [⟨tg, iter, ifs, 0⟩] sc pos) 0 (.ref it) acc { cenv with scope := relabel sc X.env }) (RR acc cenv.locals) s₄) E s₃) E s := by
  obtain ⟨W, ⟨m0, w0⟩, turn⟩ := hw
  refine wpAny_newObj_type (wpAny_newFunctionEnv S.nocell (by intro y hy; simp at hy) (fun h₁ hns₁ hsb₁ => ?_) S.kind)
  dsimp only at hns₁ hsb₁ ⊢
  generalize hH2 : s.heap.push { cls := .type "list", dict := none, data := .seq ([] : List Value).toArray } = H2 at hns₁ hsb₁ ⊢
  have hC : H2.objs.size = s.heap.objs.size + 1 := by rw [<- hH2, Heap.size_push]
  have hDC : s.heap.objs.size ≠ H2.objs.size := by rw [hC]; exact Nat.ne_of_lt (Nat.lt_succ_self _)
  have hCle : s.heap.objs.size <= H2.objs.size := by rw [hC]; exact Nat.le_succ _
  have below : ∀ b, b < s.heap.objs.size -> b ≠ H2.objs.size := fun b hb => by rw [hC]; exact Nat.ne_of_lt (Nat.lt_succ_of_lt hb)
  have old : ∀ b o, s.heap.get? b = some o -> h₁.get? b = some o := fun b o e => hsb₁.extBut b o (below b (Heap.lt_size e)) (Heap.get?_push_of_some _ (hH2 ▸ Heap.get?_push_of_some _ e))
  have hacc : h₁.get? s.heap.objs.size = some { cls := .type "list", data := .seq ([] : List Value).toArray 0 } := hsb₁.extBut _ _ hDC (Heap.get?_push_of_some _ (hH2 ▸ Heap.get?_push_size _ rfl))
  have hst₁ : tn 0 h₁ := T.keep 0 _ _ st fun b _ o e => old b o e
  have hobj : ∀ b ∈ fp, ∃ o, s.heap.get? b = some o := fun b hb => let ⟨o, e, _⟩ := T.obj 0 _ st b hb; ⟨o, e⟩
  have J0 : Inv (X.blk cp.names sc H2.objs.size s H fp) [] (cp.st σ) H { s with heap := h₁, toks := s.toks + ([] : List (Str × Value)).length } := blk_start I S hcp hCle fpo hobj rfl rfl old hns₁
  have nfs : ∀ b, s.heap.objs.size <= b -> b ∉ frs X.stack := fun b hb z => by
    rcases List.mem_cons.mp (I.stkSub b z) with e | e
    . exact absurd (Nat.lt_of_lt_of_le I.lt (by rw [<- e]; exact hb)) (Nat.lt_irrefl _)
    . exact I.nofs hb e
  have ncell : ∀ b, s.heap.objs.size <= b -> ∀ x c, X.env.cells.lookup x = some c -> c ≠ b := fun b hb x c e z => by
    obtain ⟨v, q⟩ := I.cell x c e
    exact absurd (Nat.lt_of_lt_of_le q.lt (by rw [z]; exact hb)) (Nat.lt_irrefl _)
  have fpb : ∀ {pins' : List (Addr × Obj)} {H' : Hp}, (∀ b ∈ fp, H' b = none) -> (∀ p ∈ pins', p.1 ∉ fp) -> ∀ b ∈ fp, FpOk (X.blk cp.names sc H2.objs.size s H fp) pins' H' b := fun {pins' H'} hn hp b hb => by
    obtain ⟨o, e⟩ := hobj b hb
    refine ⟨hn b hb, below b (Heap.lt_size e), fun z => ?_, .inl hb, fun x c h => (fpo b hb).2.2.2.2.1 x c (blk_lookup I S h), fun p hp' z => ?_⟩
    . rcases List.mem_cons.mp (I.stkSub b z) with e | e
      . exact (fpo b hb).2.1 e
      . exact (fpo b hb).2.2.1 e
    . have hp'' : p ∈ pins' := by simpa using hp'
      exact hp p hp'' (by rw [z]; exact hb)
  have loop : ∀ s₃ : Shared, s₃ = { s with heap := h₁, toks := s.toks + ([] : List (Str × Value)).length } ->
      codeAny (model X.prog X.w) X.A (.compLoop (.ListComp elt [⟨tg, iter, ifs, 0⟩] sc pos) 0 (.ref it) (.ref s.heap.objs.size) (compEnvC sc (clOf X.env sc.names []) H2.objs.size X.env))
        (RR (.ref s.heap.objs.size) H2.objs.size) s₃ := by
    rintro s₃ rfl
    refine compLoop_gen (fun n s' => ∃ i σ' H' ys its k, Inv (X.blk cp.names sc H2.objs.size s H fp) [] σ' H' s' /\ tn i s'.heap /\ (∀ b ∈ fp, H' b = none) /\ H' s.heap.objs.size = none /\
      s'.heap.get? s.heap.objs.size = some { cls := .type "list", data := .seq its.toArray k } /\ Vals ys its /\ W i n ys σ' H') ?_ m0
      ⟨0, _, H, [], [], 0, J0, hst₁, fun b hb => (fpo b hb).1, I.hok.fresh (Nat.le_refl _), hacc, .nil, w0⟩
    rintro n s3 ⟨i, σ3, H3, ys, its, k, I3, st3, fr3, hD3, e3, rv, w3⟩
    obtain ⟨hz, tr⟩ := turn i n ys σ3 H3 w3
    have hlen := rv.length
    -- the accumulator stands still while anything else runs
    have dpin : ∀ p ∈ [(s.heap.objs.size, ({ cls := .type "list", data := .seq its.toArray k } : Obj))], p.1 ∉ fp := fun p hp z => by
      have e : p = _ := List.mem_singleton.mp hp
      subst e
      obtain ⟨o, e⟩ := hobj _ z
      exact absurd (Heap.lt_size e) (Nat.lt_irrefl _)
    have I3' : Inv (X.blk cp.names sc H2.objs.size s H fp) [(s.heap.objs.size, ({ cls := .type "list", data := .seq its.toArray k } : Obj))] σ3 H3 s3 := I3.pins_of fun p hp => by
      have e : p = _ := List.mem_singleton.mp hp
      subst e
      exact ⟨e3, hD3, hDC, nfs _ (Nat.le_refl _), fun v z => by cases z⟩
    have stat : ∀ b ∈ fp, FpOk (X.blk cp.names sc H2.objs.size s H fp) [(s.heap.objs.size, ({ cls := .type "list", data := .seq its.toArray k } : Obj))] H3 b := fpb fr3 dpin
    rcases tr with ⟨stop, qn⟩ | ⟨go, N, hN, step⟩
    . refine thn (T.done (X.blk cp.names sc H2.objs.size s H fp) rfl rfl rfl hc i _ s3 σ3 H3 _ I3' stat st3 stop) fun r s4 ⟨hr, I4⟩ => ?_
      subst hr
      obtain ⟨e4, n4, _⟩ := I4.pin (s.heap.objs.size, ({ cls := .type "list", data := .seq its.toArray k } : Obj)) (by simp)
      have new : ObjOk X.prog X.w (upd H3 s.heap.objs.size (.lst ys)) s4.heap s.heap.objs.size (.lst ys) := ⟨Nat.le_of_lt hz, its, k, rv, e4⟩
      obtain ⟨mC, hnC, _⟩ := I4.loc
      have I4' : Inv (X.blk cp.names sc H2.objs.size s H fp) [] σ3 H3 s4 := I4.pins_of fun p hp => by cases hp
      have I5 := blk_end I I4' fpo (Nat.le_refl _) n4 new
      refine hR _ _ s4 _ mC I5 (qn _ n4) hnC ?_ (Nat.ne_of_gt (Nat.lt_of_lt_of_le I.lt hCle)) (Nat.le_trans I.sz hCle) (ncell _ hCle) fun p hp z => ?_
      . rw [upd_ne (Ne.symm hDC)]; exact I4.free
      . exact absurd (Nat.lt_of_lt_of_le (Heap.lt_size (I.pin p hp).1) (by rw [z]; exact hCle)) (Nat.lt_irrefl _)
    . refine thn (T.item (X.blk cp.names sc H2.objs.size s H fp) rfl rfl rfl hc i _ s3 σ3 H3 _ I3' stat st3 go) fun r s4 ⟨u, hr, h4⟩ => ?_
      subst hr
      refine thn h4 fun _ s5 ⟨x, H5, I5, r5, y5, st5, fr5⟩ => ?_
      have I5' := I5.pinned (fpb fr5 dpin) (T.obj _ _ st5)
      have fin : ∀ {σ7 : St} {H7 : Hp} {s7 : Shared}, Inv (X.blk cp.names sc H2.objs.size s H fp) ([(s.heap.objs.size, ({ cls := .type "list", data := .seq its.toArray k } : Obj))] ++ pinsAt fp s5.heap) σ7 H7 s7 ->
          s7.heap.get? s.heap.objs.size = some { cls := .type "list", data := .seq its.toArray k } /\ H7 s.heap.objs.size = none /\ (∀ b ∈ fp, H7 b = none) /\ ∀ b ∈ fp, ∀ o, s5.heap.get? b = some o -> s7.heap.get? b = some o := fun {σ7 H7 s7} I7 => by
        obtain ⟨e7, n7, _⟩ := I7.pin (s.heap.objs.size, ({ cls := .type "list", data := .seq its.toArray k } : Obj)) (by simp)
        refine ⟨e7, n7, fun b hb => ?_, fun b hb o e => ?_⟩
        . obtain ⟨o, e, _⟩ := T.obj _ _ st5 b hb
          exact (I7.pin (b, o) (List.mem_append_right _ (List.mem_append_right _ (mem_pinsAt hb e)))).2.1
        . exact (I7.pin (b, o) (List.mem_append_right _ (List.mem_append_right _ (mem_pinsAt hb e)))).1
      refine wpAny_mono (hg _ _ _ _ _ s5 σ3 H5 x u _ I5' r5 (step x H5 y5)) (fun _ s6 ⟨σ6, H6, I6, q6⟩ => ?_) fun _ _ z => False.elim z
      refine wpAny_mono (hf _ _ _ _ _ s6 σ6 H6 _ I6 q6) (fun ok s7 ⟨H7, I7, q7⟩ => ?_) fun _ _ z => False.elim z
      cases ok with
      | false =>
        rw [if_neg Bool.false_ne_true]
        rw [if_neg Bool.false_ne_true] at q7
        obtain ⟨m', hm, w7⟩ := hN _ _ _ q7
        obtain ⟨e7, n7, fr7, k7⟩ := fin I7
        exact ⟨m', hm, i + 1, σ6, H7, ys, its, k, I7.pins_of (fun p hp => by cases hp), T.keep _ _ _ st5 k7, fr7, n7, e7, rv, w7⟩
      | true =>
        rw [if_pos rfl]
        rw [if_pos rfl] at q7
        refine wpAny_mono (he _ _ _ _ _ s7 σ6 H7 _ I7 q7) (fun v s8 ⟨y, H8, I8, r8, q8⟩ => ?_) fun _ _ z => False.elim z
        obtain ⟨m', hm, w8⟩ := hN _ _ _ q8
        obtain ⟨e8, n8, fr8, k8⟩ := fin I8
        refine call_meets F.slot_list_append ⟨_, e8, rfl⟩ F.entry_list_append (F.args_list_append_2 _ _) (PySem.list_append s.heap.objs.size its.toArray k v (by rw [List.size_toArray]; omega)) ⟨e8, ?_⟩
        obtain ⟨k', q⟩ : ∃ k', (s8.heap.update s.heap.objs.size (Obj.mapSeq fun x => x.push v)).get? s.heap.objs.size = some { cls := .type "list", data := .seq (its ++ [v]).toArray k' } := ⟨_, by
          have q := PySem.IsL.update e8 fun x => x.push v
          have e : (its ++ [v]).toArray = its.toArray.push v := by simp
          rw [e]
          exact q⟩
        have I8' : Inv (X.blk cp.names sc H2.objs.size s H fp) [] σ6 H8 s8 := I8.pins_of fun p hp => by cases hp
        have I9 : Inv (X.blk cp.names sc H2.objs.size s H fp) [] σ6 H8 { s8 with heap := s8.heap.update s.heap.objs.size (Obj.mapSeq fun x => x.push v), toks := s8.toks } :=
          I8'.turned (it := s.heap.objs.size) (fun b o hb e => (Heap.get?_update_other _ _ (Ne.symm hb)).trans e) n8 hDC (.inr (Nat.le_refl _)) (fun x c e => ncell _ (Nat.le_refl _) x c (blk_lookup I S e)) (fun p hp => by cases hp)
        refine ⟨m', hm, i + 1, σ6, H8, ys ++ [y], its ++ [v], k', I9, T.keep (i + 1) s5.heap _ st5 (fun b hb o e => ?_), fr8, n8, q, rv.append (.cons r8 .nil), w8⟩
        . refine (Heap.get?_update_other _ _ ?_).trans (k8 b hb o e)
          intro z
          obtain ⟨ob, eb⟩ := hobj b hb
          exact absurd (Heap.lt_size eb) (by rw [<- z]; exact Nat.lt_irrefl _)
  exact codeAny_compStart_list (loop _ rfl) (T.self _ 0 _ _ _ hst₁ (loop _ rfl))
theorem pe_comp (hc : X.calm = true) (S : BlkSc X sc) (hcp : CapsOk X.N sc cp) (hi : PI X tg iter wi)
    (hg : ∀ C s₀ H₀ ex, PG (X.blk cp.names sc C s₀ H₀ ex) tg g) (hf : ∀ C s₀ H₀ ex, PF (X.blk cp.names sc C s₀ H₀ ex) ifs tc) (he : ∀ C s₀ H₀ ex, PE (X.blk cp.names sc C s₀ H₀ ex) elt te)
    (hs : ∀ x, foldedSetIterable iter X.env x = pure x := by intro _; rfl) : PE X (.ListComp elt [⟨tg, iter, ifs, 0⟩] sc pos) (tComp wi cp g tc te) := by
  intro pins s σ H Q I h
  rw [eval_ListComp]
  refine wpAny_comprehension_free (use := none) rfl hs (closure_eq (blk_cells I S)) S.kind S.loc (thn (hi pins s σ H _ I h) fun xv s₁ h₁ => thn h₁ fun itv s₂ h₂ => ?_)
  obtain ⟨it, fp, tn, J, H2, e, I2, T, st2, f2, hw⟩ := h₂
  subst e
  refine comp_core (RR := fun acc C => compPost (model X.prog X.w) X.A X.xe none (EP X pins σ Q) acc C) hc S hcp hg hf he I2 T st2 f2 hw ?_
  intro D C s' H' m I' q hn hC hL hz hcl hp
  exact ⟨m, hn, fun h' hs' => ⟨.ref D, H', I'.turned (t' := s'.toks) (it := C) (fun b o hb e => hs'.extBut b o hb e) hC hL (.inr hz) hcl hp, rfl, q⟩⟩
theorem ps_setC {i : Nat} {x : Str} {px spos : Pos} (hN : X.N.Nodup) (hi : X.N[i]? = some x) (hx : X.env.scope.names.lookup x = some .local) (hc : X.calm = true) (S : BlkSc X sc) (hcp : CapsOk X.N sc cp) (hit : PI X tg iter wi)
    (hg : ∀ C s₀ H₀ ex, PG (X.blk cp.names sc C s₀ H₀ ex) tg g) (hf : ∀ C s₀ H₀ ex, PF (X.blk cp.names sc C s₀ H₀ ex) ifs tc) (he : ∀ C s₀ H₀ ex, PE (X.blk cp.names sc C s₀ H₀ ex) elt te)
    (hsw : swapsWith (.ListComp elt [⟨tg, iter, ifs, 0⟩] sc pos) (some (.Name x px)) spos.line X.env = pure true := by rfl)
    (hs : ∀ x, foldedSetIterable iter X.env x = pure x := by intro _; rfl) : PS X (.Assign [.Name x px] (.ListComp elt [⟨tg, iter, ifs, 0⟩] sc pos) spos) (tAsg (tComp wi cp g tc te) (gName i)) := by
  intro pins s σ H D I h
  rw [exec_Assign_Name_used _ _ _ _ hsw]
  refine wpAny_bind (wpAny_standAt (wpAny_bind ?_))
  show wpAny _ X.A (do let _ <- comprehension (.ListComp elt [⟨tg, iter, ifs, 0⟩] sc pos) sc X.env _ (newList []) false (eval iter X.env) (some (assign (.Name x px) X.env))) _ _ s
  refine wpAny_bind (wpAny_mono (wpAny_comprehension_free (use := some (assign (.Name x px) X.env)) (Q := fun _ s' => SP X pins D .next s') rfl hs (closure_eq (blk_cells I S)) S.kind S.loc
    (thn (hit pins s σ H _ I h) fun xv s₁ h₁ => thn h₁ fun itv s₂ h₂ => ?_)) (fun _ s' hq => wpAny_pure (wpAny_pure hq)) fun _ _ e => e)
  obtain ⟨it, fp, tn, J, H2, e, I2, T, st2, f2, hw⟩ := h₂
  subst e
  refine comp_core (RR := fun acc C => compPost (model X.prog X.w) X.A X.xe (some (assign (.Name x px) X.env)) (fun _ s' => SP X pins D .next s') acc C) (Q := fun v H1 => gName i v σ H1 D.nx) hc S hcp hg hf he I2 T st2 f2 hw ?_
  intro Dl C s' H' m I' q hn hC hL hz hcl hp
  show wpAny _ X.A (assign (.Name x px) X.env (.ref Dl)) _ _ _
  refine wpAny_assign_Name (store_ok2 I' hN hi (.inl hx) (v := .ref Dl) rfl (fun s'' I'' ⟨a, hsb, ha⟩ => ?_) (.inr hx))
  have hne : C ≠ a := by
    rcases ha with rfl | ha
    . exact hL
    . exact fun z => hcl _ _ ha z.symm
  refine ⟨m, hn.sameBut hsb hne, fun h' hs' => ⟨_, H', I''.turned (t' := s''.toks) (it := C) (fun b o hb e => hs'.extBut b o hb e) hC hL (.inr hz) hcl hp, q⟩⟩
end
theorem comp_tup {K : PySem.W.Frag} {a : Addr} {xs : List V} {g : TG} {tc : TT} {te : TE} {Q : VK} {σ : St} {H : Hp} (Pv : Nat -> List V -> St -> Hp -> Prop) (h0 : Pv 0 [] σ H) (hz : xs.length < sizeLine)
    (hl : ∀ i ys σ H, i <= xs.length -> Pv i ys σ H -> SqT K H a xs /\ ys.length <= i)
    (hs : ∀ i x ys σ H, xs[i]? = some x -> Pv i ys σ H -> g x σ H fun σ2 H2 => tc σ2 H2 fun b H3 => if b = true then te σ2 H3 fun v H4 => Pv (i + 1) (ys ++ [v]) σ2 H4 else Pv (i + 1) ys σ2 H3)
    (hd : ∀ ys σ H, Pv xs.length ys σ H -> ∀ D, H D = none -> Q (.ref D) (upd H D (.lst ys))) :
    ∃ W : Nat -> Nat -> List V -> St -> Hp -> Prop, (∃ m, W 0 m [] σ H) /\ ∀ i m ys σ' H', W i m ys σ' H' ->
      ys.length < sizeLine /\ (((Itt K a).stop i H' /\ ∀ D, H' D = none -> Q (.ref D) (upd H' D (.lst ys))) \/ ((Itt K a).go i H' /\ ∃ N : List V -> St -> Hp -> Prop, (∀ zs σ2 H2, N zs σ2 H2 -> ∃ m', m' < m /\ W (i + 1) m' zs σ2 H2) /\ ∀ x H2, (Itt K a).yld i H' x H2 -> g x σ' H2 fun σ2 H3 => tc σ2 H3 fun b H4 =>
        if b = true then te σ2 H4 fun v H5 => N (ys ++ [v]) σ2 H5 else N ys σ2 H4)) := by
  refine ⟨fun i m ys σ H => m = xs.length - i /\ i <= xs.length /\ Pv i ys σ H, ⟨xs.length, by simp, Nat.zero_le _, h0⟩, ?_⟩
  rintro i m ys σ H ⟨rfl, hi, p⟩
  obtain ⟨q, ly⟩ := hl i ys σ H hi p
  refine ⟨by omega, ?_⟩
  by_cases hlt : i < xs.length
  . refine .inr ⟨⟨xs, xs[i], q, by simp [hlt]⟩, Pv (i + 1), fun zs σ' H' p' => ⟨xs.length - (i + 1), by omega, rfl, hlt, p'⟩, fun x H' y => ?_⟩
    obtain ⟨e, y⟩ := y
    subst e
    exact hs i x ys σ _ (y xs q) p
  . have e : i = xs.length := by omega
    subst e
    exact .inl ⟨⟨xs, q, Nat.le_refl _⟩, hd ys σ H p⟩
theorem comp_range {lo : Int} {n : Nat} {g : TG} {tc : TT} {te : TE} {Q : VK} {σ : St} {H : Hp} (Pv : Nat -> List V -> St -> Hp -> Prop) (h0 : Pv 0 [] σ H) (hz : n < sizeLine)
    (hl : ∀ i ys σ H, i <= n -> Pv i ys σ H -> ys.length <= i)
    (hs : ∀ i ys σ H, i < n -> Pv i ys σ H -> g (.int (lo + i)) σ H fun σ2 H2 => tc σ2 H2 fun b H3 => if b = true then te σ2 H3 fun v H4 => Pv (i + 1) (ys ++ [v]) σ2 H4 else Pv (i + 1) ys σ2 H3)
    (hd : ∀ ys σ H, Pv n ys σ H -> ∀ D, H D = none -> Q (.ref D) (upd H D (.lst ys))) :
    ∃ W : Nat -> Nat -> List V -> St -> Hp -> Prop, (∃ m, W 0 m [] σ H) /\ ∀ i m ys σ' H', W i m ys σ' H' ->
      ys.length < sizeLine /\ (((Itr lo n).stop i H' /\ ∀ D, H' D = none -> Q (.ref D) (upd H' D (.lst ys))) \/ ((Itr lo n).go i H' /\ ∃ N : List V -> St -> Hp -> Prop, (∀ zs σ2 H2, N zs σ2 H2 -> ∃ m', m' < m /\ W (i + 1) m' zs σ2 H2) /\ ∀ x H2, (Itr lo n).yld i H' x H2 -> g x σ' H2 fun σ2 H3 => tc σ2 H3 fun b H4 =>
        if b = true then te σ2 H4 fun v H5 => N (ys ++ [v]) σ2 H5 else N ys σ2 H4)) := by
  refine ⟨fun i m ys σ H => m = n - i /\ i <= n /\ Pv i ys σ H, ⟨n, by simp, Nat.zero_le _, h0⟩, ?_⟩
  rintro i m ys σ H ⟨rfl, hi, p⟩
  have ly := hl i ys σ H hi p
  refine ⟨by omega, ?_⟩
  by_cases hlt : i < n
  . refine .inr ⟨hlt, Pv (i + 1), fun zs σ' H' p' => ⟨n - (i + 1), by omega, rfl, hlt, p'⟩, fun x H' y => ?_⟩
    obtain ⟨e, y⟩ := y
    subst e y
    exact hs i ys σ _ hlt p
  . have e : i = n := by omega
    subst e
    exact .inl ⟨Nat.le_refl _, hd ys σ H p⟩
end L2
set_option Elab.async false
set_option linter.all false
set_option maxRecDepth 100000
set_option maxHeartbeats 4000000
namespace L2
open PySem PySem.Spec PyProof.Rows
section
variable {X : Cx}
theorem call_isinst : CallR X (.builtin "isinstance") (fun xs H Q => ∃ x c cv t b, xs = [x, c] /\ TyOf X.K H x t /\ (∀ u, RelV c u -> u = cv) /\ PySem.W.kitOne X.K t cv = some b /\ Q (.bl b) H) := by
  intro pins s σ H xs us Q I r h
  obtain ⟨x, c, cv, t, b, rfl, ty, hc, hk, q⟩ := h
  obtain ⟨u, w', rfl, rx, rc⟩ := vals2 r
  rw [hc _ rc]
  exact isinst_ok I rx ty hk fun tk => ⟨.bl b, H, I.tok tk, rfl, q⟩
def EqD (K : PySem.W.Frag) (H : Hp) : Nat -> V -> V -> Bool -> Prop
  | 0, x, y, b => flatV x = true /\ flatV y = true /\ b = eqV x y
  | n + 1, x, y, b => (flatV x = true /\ flatV y = true /\ b = eqV x y) \/ ∃ a c xs ys, x = .ref a /\ y = .ref c /\ ((SqL K H a xs /\ SqL K H c ys) \/ (SqT K H a xs /\ SqT K H c ys)) /\ 
      ∃ e : Nat -> Bool, (∀ i x y, xs[i]? = some x -> ys[i]? = some y -> EqD K H n x y (e i)) /\ b = (decide (xs.length = ys.length) && (List.range (min xs.length ys.length)).all e)
theorem in1_units (A : Around) : A.in1.units = A.units + 1 := rfl
theorem eqV_self {x : V} (h : flatV x = true) : eqV x x = true := by
  cases x <;> first | rfl | (simp [eqV]; done) | exact absurd (show false = true from h) Bool.false_ne_true
theorem EqD.self {pins : List (Addr × Obj)} {s : Shared} {σ : St} {H : Hp} (I : Inv X pins σ H s) : ∀ (n : Nat) {x : V} {b : Bool}, EqD X.K H n x x b -> b = true := by
  intro n
  induction n with
  | zero =>
    rintro x b ⟨fx, _, rfl⟩
    exact eqV_self fx
  | succ n ih =>
    rintro x b (⟨fx, _, rfl⟩ | ⟨a, c, xs, ys, rfl, e2, hq, e, he, rfl⟩)
    . exact eqV_self fx
    . cases e2
      have exy : xs = ys := by
        rcases hq with ⟨h1, h2⟩ | ⟨h1, h2⟩
        . exact I.list_inj h1 h2
        . exact I.tuple_inj h1 h2
      subst exy
      simp only [decide_true, Bool.true_and, Nat.min_self, List.all_eq_true, List.mem_range]
      intro i hi
      exact ih (he i xs[i] xs[i] (by simp [hi]) (by simp [hi]))
theorem all_and {n m : Nat} {e : Nat -> Bool} : ((List.range (min n m)).all e && n == m) = (decide (n = m) && (List.range (min n m)).all e) := by
  rw [Bool.and_comm]
  congr 1
theorem EqD.at {pins : List (Addr × Obj)} {s : Shared} {σ : St} {H : Hp} (I : Inv X pins σ H s) : ∀ (n : Nat) (A : Around) {x y : V} {u v : Value} {b : Bool}, A.units + n < cLine -> RelV x u -> RelV y v -> EqD X.K H n x y b ->
    SeqAt.EqAt A s u v b /\ ∀ a c, x = .ref a -> y = .ref c -> SeqAt.RcAt A s u v b := by
  intro n
  induction n with
  | zero =>
    intro A x y u v b hu rx ry h
    obtain ⟨fx, fy, rfl⟩ := h
    refine ⟨eqAt_V rx ry fx fy, ?_⟩
    rintro a c rfl rfl
    exact absurd (show false = true from fx) Bool.false_ne_true
  | succ n ih =>
    intro A x y u v b hu rx ry h
    have hself := h
    rcases h with ⟨fx, fy, rfl⟩ | ⟨a, c, xs, ys, rfl, rfl, hq, e, he, rfl⟩
    . refine ⟨eqAt_V rx ry fx fy, ?_⟩
      rintro a c rfl rfl
      exact absurd (show false = true from fx) Bool.false_ne_true
    . cases rx
      cases ry
      have key : ∀ (its its2 : List Value), Vals xs its -> Vals ys its2 -> ∀ j (h1 : j < its.toArray.size) (h2 : j < its2.toArray.size), SeqAt.EqAt A.in1 s its.toArray[j] its2.toArray[j] (e j) := fun its its2 r1 r2 j h1 h2 => by
        have l1 := r1.length
        have l2 := r2.length
        rw [List.size_toArray] at h1 h2
        obtain ⟨u1, g1, q1⟩ := r1.get (i := j) (x := xs[j]'(by omega)) (by simp [show j < xs.length by omega])
        obtain ⟨u2, g2, q2⟩ := r2.get (i := j) (x := ys[j]'(by omega)) (by simp [show j < ys.length by omega])
        have k1 : its.toArray[j]'(by rw [List.size_toArray]; exact h1) = u1 := by
          have := (List.getElem?_eq_some_iff.mp g1).2
          simpa using this
        have k2 : its2.toArray[j]'(by rw [List.size_toArray]; exact h2) = u2 := by
          have := (List.getElem?_eq_some_iff.mp g2).2
          simpa using this
        rw [k1, k2]
        exact (ih A.in1 (by rw [in1_units]; omega) q1 q2 (he j _ _ (by simp [show j < xs.length by omega]) (by simp [show j < ys.length by omega]))).1
      have rc : SeqAt.RcAt A s (.ref a) (.ref c) (decide (xs.length = ys.length) && (List.range (min xs.length ys.length)).all e) := by
        rcases hq with ⟨h1, h2⟩ | ⟨h1, h2⟩
        . obtain ⟨its, r1, p1, _⟩ := I.list h1
          obtain ⟨its2, r2, p2, _⟩ := I.list h2
          have l1 := r1.length
          have l2 := r2.length
          by_cases hl : xs.length = ys.length
          . have := SeqAt.RcAt.lists (e := e) p1.isList p2.isList (by rw [List.size_toArray, List.size_toArray]; omega) (by omega) (key its its2 r1 r2)
            rw [List.size_toArray, <- l1] at this
            rw [decide_eq_true hl, Bool.true_and, <- hl, Nat.min_self]
            exact this
          . rw [decide_eq_false hl, Bool.false_and]
            exact SeqAt.RcAt.lists_lengths p1.isList p2.isList (by rw [List.size_toArray, List.size_toArray]; simp; omega) (by omega)
        . obtain ⟨its, r1, p1, _⟩ := I.tuple h1
          obtain ⟨its2, r2, p2, _⟩ := I.tuple h2
          have l1 := r1.length
          have l2 := r2.length
          have := SeqAt.RcAt.tuples (e := e) (show s.heap.IsTuple a its.toArray from p1) (show s.heap.IsTuple c its2.toArray from p2) (by omega) (key its its2 r1 r2)
          rw [List.size_toArray, List.size_toArray, <- l1, <- l2, all_and] at this
          exact this
      refine ⟨?_, fun a' c' _ _ => rc⟩
      by_cases hac : a = c
      . subst hac
        rw [EqD.self I (n + 1) hself]
        exact SeqAt.EqAt.same _
      . exact SeqAt.EqAt.of_refs hac rc
theorem EqD.flat {K : PySem.W.Frag} {H : Hp} {a c : Addr} {xs ys : List V} (hq : (SqL K H a xs /\ SqL K H c ys) \/ (SqT K H a xs /\ SqT K H c ys)) (fx : ∀ x ∈ xs, flatV x = true) (fy : ∀ y ∈ ys, flatV y = true) (hi : ∀ x ∈ xs, ∀ y ∈ ys, eqV x y = decide (x = y)) (n : Nat) :
    EqD K H (n + 1) (.ref a) (.ref c) (decide (xs = ys)) := by
  have base : ∀ m i x y, xs[i]? = some x -> ys[i]? = some y -> EqD K H m x y (decide (x = y)) := fun m i x y h1 h2 => by
    have m1 := List.mem_of_getElem? h1
    have m2 := List.mem_of_getElem? h2
    cases m with
    | zero => exact ⟨fx _ m1, fy _ m2, (hi _ m1 _ m2).symm⟩
    | succ m => exact .inl ⟨fx _ m1, fy _ m2, (hi _ m1 _ m2).symm⟩
  refine .inr ⟨a, c, xs, ys, rfl, rfl, hq, fun i => match xs[i]?, ys[i]? with | some x, some y => decide (x = y) | _, _ => true, fun i x y h1 h2 => ?_, ?_⟩
  . simp only [h1, h2]
    exact base n i x y h1 h2
  . rw [Bool.eq_iff_iff]
    simp only [decide_eq_true_eq, Bool.and_eq_true, List.all_eq_true, List.mem_range]
    constructor
    . rintro rfl
      refine ⟨rfl, fun i hi => ?_⟩
      have hi : i < xs.length := by omega
      simp [hi]
    . rintro ⟨hl, h⟩
      refine List.ext_getElem? fun i => ?_
      by_cases hi : i < xs.length
      . have := h i (by omega)
        simp [hi, show i < ys.length by omega] at this
        simp [hi, show i < ys.length by omega, this]
      . rw [List.getElem?_eq_none (by omega), List.getElem?_eq_none (by omega)]
end
end L2
namespace L2
open PySem PySem.Spec PyProof.Rows
def blkOk (outer : List (Str × NameKind)) (sc : Scope) : Bool :=
  sc.kind == .function && sc.names.all (fun y => y.2 != .cell && (y.2 != .local || sc.names.lookup y.1 == some .local) && (y.2 != .free || outer.lookup y.1 == some .cell || outer.lookup y.1 == some .free))
theorem blk_mk {X : Cx} {sc : Scope} (h : blkOk X.env.scope.names sc = true) : BlkSc X sc := by
  unfold blkOk at h
  rw [Bool.and_eq_true, List.all_eq_true] at h
  obtain ⟨h1, h2⟩ := h
  refine ⟨by simpa using h1, fun y hy z => ?_, fun y hy z => ?_, fun y hy z => ?_⟩
  . have := h2 y hy
    simp only [Bool.and_eq_true] at this
    have := this.1.1
    rw [z] at this
    exact absurd this (by decide)
  . have := h2 y hy
    simp only [Bool.and_eq_true] at this
    have := this.1.2
    rw [z] at this
    simpa using this
  . have := h2 y hy
    simp only [Bool.and_eq_true] at this
    have := this.2
    rw [z] at this
    have t : (X.env.scope.names.lookup y.1 == some .cell || X.env.scope.names.lookup y.1 == some .free) = true := by simpa using this
    rw [Bool.or_eq_true] at t
    rcases t with t | t
    . exact .inl (by show X.env.scope.names.lookup y.1 = some .cell; simpa using t)
    . exact .inr (by show X.env.scope.names.lookup y.1 = some .free; simpa using t)
end L2
set_option Elab.async false
set_option linter.all false
set_option maxRecDepth 100000
set_option maxHeartbeats 4000000
namespace L2
open PySem PySem.Spec PyProof.Rows
section
variable {t u : TS} {te ta tb tc' : TE} {tt tu : TT} {A B : TA} {D : Ends} {σ : St} {H : Hp} {Q : VK} {R : Bool -> Hp -> Prop} {S : List V -> Hp -> Prop} {i : Nat} {v : V} {g : TG} {r r' : R2} {K : PySem.W.Frag} {wi : TI} {cp : Caps}
theorem r_seq : tSeq t u D σ H = t { D with nx := u D } σ H := rfl
theorem r_next : tNext D σ H = D.nx σ H := rfl
theorem r_asg : tAsg te g D σ H = te σ H fun x H1 => g x σ H1 D.nx := rfl
theorem r_gname {N : St -> Hp -> Prop} : gName i v σ H N = N (σ.set i (some v)) H := rfl
theorem r_var : tVar i σ H Q = ∃ v, σ[i]? = some (some v) /\ Q v H := rfl
theorem r_c : tC v σ H Q = Q v H := rfl
theorem r_op : tOp r ta tb σ H Q = ta σ H fun x H1 => tb σ H1 fun y H2 => r x y H2 Q := rfl
theorem r_un {f : V -> Hp -> VK -> Prop} : tUn f ta σ H Q = ta σ H fun x H1 => f x H1 Q := rfl
theorem r_I {C : Int -> Int -> Prop} {f : Int -> Int -> V} {x y : V} : rI C f x y H Q = ∃ i j, x = .int i /\ y = .int j /\ C i j /\ Q (f i j) H := rfl
theorem r_I0 {f : Int -> Int -> V} {x y : V} : rI0 f x y H Q = ∃ i j, x = .int i /\ y = .int j /\ Q (f i j) H := rfl
theorem r_U {f : Int -> V} {x : V} : rU f x H Q = ∃ i, x = .int i /\ Q (f i) H := rfl
theorem r_call {sp : Sp} {dvs : List V} {E : XK} : tCall sp dvs E A σ H Q = A σ H fun vs H1 => sp (vs ++ dvs) H1 Q E := rfl
theorem r_cons : tCons te A σ H S = te σ H fun x H1 => A σ H1 fun xs H2 => S (x :: xs) H2 := rfl
theorem r_nil : tNil σ H S = S [] H := rfl
theorem r_ret : tRet te D σ H = te σ H D.rt := rfl
theorem r_drop : tDrop te D σ H = te σ H fun _ H1 => D.nx σ H1 := rfl
theorem r_if : tIfS tt t u D σ H = tt σ H fun b H1 => if b = true then t D σ H1 else u D σ H1 := rfl
theorem r_B : tB te σ H R = te σ H fun x H1 => ∃ c, x = .bl c /\ R c H1 := rfl
theorem r_test : tTest te σ H R = te σ H fun x H1 => ∃ c, x = .bl c /\ R c H1 := rfl
theorem r_and : tAnd tt tu σ H R = tt σ H fun c H1 => if c = true then tu σ H1 R else R false H1 := rfl
theorem r_or : tOr tt tu σ H R = tt σ H fun c H1 => if c = true then R true H1 else tu σ H1 R := rfl
theorem r_not : tNot tt σ H R = tt σ H fun c H1 => R (!c) H1 := rfl
theorem r_andV : tAndV ta tb σ H Q = ta σ H fun x H1 => ∃ c, x = .bl c /\ if c = true then tb σ H1 Q else Q (.bl false) H1 := rfl
theorem r_notV : tNotV ta σ H Q = ta σ H fun x H1 => ∃ c, x = .bl c /\ Q (.bl (!c)) H1 := rfl
theorem r_CB {f : List V -> Hp -> VK -> Prop} : tCB f A σ H Q = A σ H fun vs H1 => f vs H1 Q := rfl
theorem r_lst : tLst A σ H Q = A σ H fun xs H1 => xs.length <= sizeLine /\ ∀ p, H1 p = none -> Q (.ref p) (upd H1 p (.lst xs)) := rfl
theorem r_tup : tTup A σ H Q = A σ H fun xs H1 => xs.length <= sizeLine /\ ∀ p, H1 p = none -> Q (.ref p) (upd H1 p (.tup xs)) := rfl
theorem r_ixL {x y : V} : rIxL K x y H Q = ∃ p xs i v, x = .ref p /\ y = .int i /\ SqL K H p xs /\ atI xs i = some v /\ Q v H := rfl
theorem r_ixT {x y : V} : rIxT K x y H Q = ∃ p xs i v, x = .ref p /\ y = .int i /\ SqT K H p xs /\ atI xs i = some v /\ Q v H := rfl
theorem r_sl {f : V -> Option Int -> Option Int -> Hp -> VK -> Prop} {tl th : TO} : tSl f te tl th σ H Q = te σ H fun x H1 => tl σ H1 fun l H2 => th σ H2 fun u H3 => f x l u H3 Q := rfl
theorem r_part {U : Option Int -> Hp -> Prop} : tPart te σ H U = te σ H fun x H1 => ∃ i, x = .int i /\ U (some i) H1 := rfl
theorem r_slL {x : V} {lo hi : Option Int} : rSlL K x lo hi H Q = ∃ a xs, x = .ref a /\ SqL K H a xs /\ ∀ p, H p = none -> Q (.ref p) (upd H p (.lst (cutV xs lo hi))) := rfl
theorem r_BM {T : String} {f : V -> List V -> Hp -> VK -> Prop} : tBM K T f te A σ H Q = te σ H fun x H1 => tyV K T x H1 /\ A σ H1 fun xs H2 => f x xs H2 Q := rfl
theorem r_BM0 {T : String} {f : V -> List V -> Hp -> VK -> Prop} : tBM0 K T f te σ H Q = te σ H fun x H1 => tyV K T x H1 /\ f x [] H1 Q := rfl
theorem r_append {x : V} {vs : List V} : rAppend x vs H Q = ∃ l xs y, x = .ref l /\ vs = [y] /\ H l = some (.lst xs) /\ xs.length < sizeLine /\ Q .non (upd H l (.lst (xs ++ [y]))) := rfl
theorem r_Eq {x y : V} : rEq x y H Q = (scal x y = true /\ Q (.bl (decide (x = y))) H) := rfl
theorem r_Ne {x y : V} : rNe x y H Q = (scal x y = true /\ Q (.bl (!decide (x = y))) H) := rfl
theorem r_ltT {x y : V} : rLtT K x y H Q = ∃ a b ns ms, x = .ref a /\ y = .ref b /\ SqT K H a (ns.map V.int) /\ SqT K H b (ms.map V.int) /\ Q (.bl (HT.lexLt ns ms)) H := rfl
theorem r_iList {Z : It -> Hp -> Prop} : iList K te σ H Z = te σ H fun x H1 => ∃ a, x = .ref a /\ (∃ xs, SqL K H1 a xs) /\ Z (Itl K a) H1 := rfl
theorem r_iTup {Z : It -> Hp -> Prop} : iTup K te σ H Z = te σ H fun x H1 => ∃ a, x = .ref a /\ (∃ xs, SqT K H1 a xs) /\ Z (Itt K a) H1 := rfl
theorem r_iRng1 {Z : It -> Hp -> Prop} : iRng1 A σ H Z = A σ H fun vs H1 => ∃ j : Int, vs = [.int j] /\ -(2 ^ 62) <= j /\ j < 2 ^ 62 /\ Z (Itr 0 j.toNat) H1 := rfl
theorem r_true : tTrue σ H R = R true H := rfl
end
theorem Same.new {H : Hp} {p : Addr} {o : HO} (h : H p = none) : Same H (upd H p o) := fun b u e => by rw [upd_ne (ne_of_none e h)]; exact e
theorem Same.newT {H H' : Hp} {p : Addr} {o : HO} (s : Same H H') (h : H' p = none) : Same H (upd H' p o) := s.trans (Same.new h)
theorem Same.over {H H' : Hp} {p : Addr} {o : HO} (s : Same H H') (h : H p = none) : Same H (upd H' p o) := fun b u e => by rw [upd_ne (ne_of_none e h)]; exact s b u e
theorem none_of_upd {H : Hp} {p D : Addr} {o : HO} (h : upd H p o D = none) : H D = none /\ D ≠ p := by
  by_cases e : D = p
  . subst e; rw [upd_same] at h; cases h
  . rw [upd_ne e] at h; exact ⟨h, e⟩
theorem Same.seqT {K : PySem.W.Frag} {H H' : Hp} {a : Addr} {xs : List V} (e : Same H H') (h : SqT K H a xs) : SqT K H' a xs := by
  rcases h with (h | ⟨o, h⟩) | h
  . exact .inl (.inl (e _ _ h))
  . exact .inl (.inr ⟨o, e _ _ h⟩)
  . exact .inr h
section
variable {K : PySem.W.Frag} {wi : TI} {cp : Caps} {g : TG} {tc : TT} {te : TE} {σ : St} {H : Hp} {Q : VK}
theorem r_cxK {CX : CXT} {P : Program} {w : World} {mg : Str -> Option Value} {base : Heap} {N : List Str} {qual : Str} {scope : Scope} {f : Addr} {cd : Value} {A : Around} {outer : List Env} {s : Shared} {E : XK} : (cxOf CX P w K mg base N qual scope f cd A outer s H E).K = K := rfl
def CompW (J : It) (cp : Caps) (g : TG) (tc : TT) (te : TE) (σ : St) (H1 : Hp) (Q : VK) : Prop := ∃ W : Nat -> Nat -> List V -> St -> Hp -> Prop, (∃ m, W 0 m [] (cp.st σ) H1) /\ ∀ i m ys σ' H', W i m ys σ' H' ->
  ys.length < sizeLine /\ ((J.stop i H' /\ ∀ D, H' D = none -> Q (.ref D) (upd H' D (.lst ys))) \/ (J.go i H' /\ ∃ N : List V -> St -> Hp -> Prop, (∀ zs σ2 H2, N zs σ2 H2 -> ∃ m', m' < m /\ W (i + 1) m' zs σ2 H2) /\ ∀ x H2, J.yld i H' x H2 -> g x σ' H2 fun σ2 H3 => tc σ2 H3 fun b H4 =>
    if b = true then te σ2 H4 fun v H5 => N (ys ++ [v]) σ2 H5 else N ys σ2 H4))
theorem r_comp : tComp wi cp g tc te σ H Q = wi σ H fun J H1 => CompW J cp g tc te σ H1 Q := rfl
def ForW (J : It) (g : TG) (tb : TS) (D : Ends) (σ : St) (H1 : Hp) : Prop := ∃ W : Nat -> Nat -> St -> Hp -> Prop, (∃ m, W 0 m σ H1) /\ ∀ i m σ H, W i m σ H ->
  (J.stop i H /\ D.nx σ H) \/ (J.go i H /\ ∃ N : St -> Hp -> Prop, (∀ σ' H', N σ' H' -> ∃ m', m' < m /\ W (i + 1) m' σ' H') /\ ∀ x H', J.yld i H x H' -> g x σ H' fun σ2 H2 => tb { D with nx := N, ct := N, bk := D.nx } σ2 H2)
theorem r_for {tb : TS} {D : Ends} : tFor wi g tb D σ H = wi σ H fun J H1 => ForW J g tb D σ H1 := rfl
theorem forL {a : Addr} {xs : List V} {g : TG} {tb : TS} {D : Ends} {σ : St} {H : Hp} (Pv : Nat -> St -> Hp -> Prop) (h0 : Pv 0 σ H) (hl : ∀ i σ H, i <= xs.length -> Pv i σ H -> SqL K H a xs)
    (hs : ∀ i x σ H, xs[i]? = some x -> Pv i σ H -> g x σ H fun σ2 H2 => tb { D with nx := Pv (i + 1), ct := Pv (i + 1), bk := D.nx } σ2 H2) (hd : ∀ σ H, Pv xs.length σ H -> D.nx σ H) : ForW (Itl K a) g tb D σ H := for_list Pv h0 hl hs hd
theorem forT {a : Addr} {xs : List V} {g : TG} {tb : TS} {D : Ends} {σ : St} {H : Hp} (Pv : Nat -> St -> Hp -> Prop) (h0 : Pv 0 σ H) (hl : ∀ i σ H, i <= xs.length -> Pv i σ H -> SqT K H a xs)
    (hs : ∀ i x σ H, xs[i]? = some x -> Pv i σ H -> g x σ H fun σ2 H2 => tb { D with nx := Pv (i + 1), ct := Pv (i + 1), bk := D.nx } σ2 H2) (hd : ∀ σ H, Pv xs.length σ H -> D.nx σ H) : ForW (Itt K a) g tb D σ H := for_tup Pv h0 hl hs hd
theorem forR {lo : Int} {n : Nat} {g : TG} {tb : TS} {D : Ends} {σ : St} {H : Hp} (Pv : Nat -> St -> Hp -> Prop) (h0 : Pv 0 σ H)
    (hs : ∀ i σ H, i < n -> Pv i σ H -> g (.int (lo + i)) σ H fun σ2 H2 => tb { D with nx := Pv (i + 1), ct := Pv (i + 1), bk := D.nx } σ2 H2) (hd : ∀ σ H, Pv n σ H -> D.nx σ H) : ForW (Itr lo n) g tb D σ H := for_range Pv h0 hs hd
theorem compT {a : Addr} {xs : List V} (Pv : Nat -> List V -> St -> Hp -> Prop) (h0 : Pv 0 [] (cp.st σ) H) (hz : xs.length < sizeLine)
    (hl : ∀ i ys σ H, i <= xs.length -> Pv i ys σ H -> SqT K H a xs /\ ys.length <= i)
    (hs : ∀ i x ys σ H, xs[i]? = some x -> Pv i ys σ H -> g x σ H fun σ2 H2 => tc σ2 H2 fun b H3 => if b = true then te σ2 H3 fun v H4 => Pv (i + 1) (ys ++ [v]) σ2 H4 else Pv (i + 1) ys σ2 H3)
    (hd : ∀ ys σ H, Pv xs.length ys σ H -> ∀ D, H D = none -> Q (.ref D) (upd H D (.lst ys))) : CompW (Itt K a) cp g tc te σ H Q := comp_tup Pv h0 hz hl hs hd
theorem compR {lo : Int} {n : Nat} (Pv : Nat -> List V -> St -> Hp -> Prop) (h0 : Pv 0 [] (cp.st σ) H) (hz : n < sizeLine)
    (hl : ∀ i ys σ H, i <= n -> Pv i ys σ H -> ys.length <= i)
    (hs : ∀ i ys σ H, i < n -> Pv i ys σ H -> g (.int (lo + i)) σ H fun σ2 H2 => tc σ2 H2 fun b H3 => if b = true then te σ2 H3 fun v H4 => Pv (i + 1) (ys ++ [v]) σ2 H4 else Pv (i + 1) ys σ2 H3)
    (hd : ∀ ys σ H, Pv n ys σ H -> ∀ D, H D = none -> Q (.ref D) (upd H D (.lst ys))) : CompW (Itr lo n) cp g tc te σ H Q := comp_range Pv h0 hz hl hs hd
end
def tCut (t u : TS) : TS := fun D σ H => ∃ R : St -> Hp -> Prop, t { D with nx := R } σ H /\ ∀ σ' H', R σ' H' -> u D σ' H'
theorem pss_cut {X : Cx} {st : Stmt} {rest : List Stmt} {t u : TS} (h1 : PS X st t) (h2 : PSs X rest u) : PSs X (st :: rest) (tCut t u) := by
  intro pins s σ H D I h
  obtain ⟨R, ha, hb⟩ := h
  refine wpAny_execs_cons (thn (h1 pins s σ H { D with nx := R } I ha) fun f s1 q => ?_)
  cases f with
  | next =>
    obtain ⟨σ', H', I', q⟩ := q
    exact h2 pins s1 σ' H' D I' (hb σ' H' q)
  | ret v => exact q
  | brk => exact q
  | cont => exact q
theorem line1000 : 1000000 < sizeLine := by rw [sizeLine_eq]; decide
theorem mem_mapI {ns : List Int} {x : V} (h : x ∈ ns.map V.int) : ∃ n, n ∈ ns /\ x = .int n := by
  obtain ⟨n, hn, e⟩ := List.mem_map.mp h
  exact ⟨n, hn, e.symm⟩
theorem get_mapI {ns : List Int} {i : Nat} {x : V} (h : (ns.map V.int)[i]? = some x) : ∃ n, ns[i]? = some n /\ x = .int n := by
  rw [List.getElem?_map] at h
  cases e : ns[i]? with
  | none => rw [e] at h; cases h
  | some n => rw [e] at h; exact ⟨n, rfl, (Option.some.inj h).symm⟩
def cutI (ns : List Int) (lo hi : Option Int) : List Int := (ns.drop (HT.sIx ns.length 0 lo)).take (HT.sIx ns.length ns.length hi - HT.sIx ns.length 0 lo)
theorem cut_ints (ns : List Int) (lo hi : Option Int) : cutV (ns.map V.int) lo hi = (cutI ns lo hi).map V.int := by
  unfold cutV cutI
  rw [List.length_map, <- List.map_drop, <- List.map_take]
theorem atI_of {α : Type} {xs : List α} {i : Int} {v : α} (h0 : 0 <= i) (h : xs[i.toNat]? = some v) : atI xs i = some v := by
  have := atI_nat h
  rwa [show ((i.toNat : Nat) : Int) = i by omega] at this
theorem kit_self {K : PySem.W.Frag} {t : Value} : PySem.W.kitOne K t t = some true := by unfold PySem.W.kitOne; rw [if_pos (by simp)]
theorem kit_int_bool {K : PySem.W.Frag} : PySem.W.kitOne K (.type "int") (.type "bool") = some false := by
  first | rfl | decide +kernel | (unfold PySem.W.kitOne; kernel_rfl)
theorem rel_ty {n : String} : ∀ u, RelV (V.ty n) u -> u = .type n := fun _ h => h
end L2
set_option Elab.async false
set_option linter.all false
set_option maxRecDepth 100000
set_option maxHeartbeats 4000000
namespace L2
open PySem PySem.W PySem.Spec PySem.Calls PyProof.Rows
section
variable {prog : Program} {w : World} {A : Around} {E : Value -> Shared -> Prop} {s : Shared} {K : Frag} {x D : Addr} {ox : Obj}
structure ExcCls (K : Frag) (D : Addr) : Prop where
  ga : findIn K (.ref D) "__getattribute__" = some (some (.builtin "BaseException.__getattribute__"))
  hk : findIn K (.ref D) "__getattr__" = some none
  cl : (clsIn K D).isSome = true
  ca : findIn K (.ref D) "__class__" = some (some (.builtin "object.__class__"))
  gs : specialIn K (.builtin "object.__class__") "__get__" = some (some (.builtin "getset_descriptor.__get__"))
  tk : takesIn K (.builtin "object.__class__") = some true
  mo : mroIn K D (.type "object") = some true
  mb : mroIn K D (.type "BaseException") = some true
def ExcAt (x D : Addr) (h : Heap) : Prop := ∃ ox, h.get? x = some ox /\ ox.cls = .ref D
theorem ExcAt.type {M : Model} {h : Heap} (I : ExcAt x D h) : Looks M h (typeOf (.ref x)) (.ref D) := by
  obtain ⟨ox, h1, h2⟩ := I
  exact h2 ▸ (Looks.ld h1).andThen .now
theorem exc_find {M : Model} {h : Heap} (X : K.In h) (C : ExcCls K D) : Looks M h (Builtin.ObjectAttr.find (.ref x) (.ref D) "__class__") (.bind (.builtin "getset_descriptor.__get__") (.builtin "object.__class__")) :=
  (looks_findIn X C.ca).andThen ((show Looks M h (Builtin.ObjectAttr.getOf (some (.builtin "object.__class__"))) _ from looks_specialIn X C.gs).andThen
    ((show Looks M h (Builtin.ObjectAttr.dataDescriptor? (some (.builtin "object.__class__")) (some (.builtin "getset_descriptor.__get__"))) (some (.builtin "getset_descriptor.__get__", .builtin "object.__class__")) from (looks_takesIn X C.tk).andThen .now).andThen (Looks.tag .now)))
open Builtin Builtin.ObjectAttr Builtin.Getset_descriptor in
theorem exc_get {R : Result -> Shared -> Prop} {tp : Value} (X : K.In s.heap) (I : ExcAt x D s.heap) (hm : mroIn K D (.type "object") = some true) (h : R (.ok (.ret (.ref D))) s) : codeAny (model prog w) A (.call (.builtin "getset_descriptor.__get__") ⟨[.builtin "object.__class__", .ref x, tp], []⟩) R s := by
  have l0 := I.type (M := model prog w)
  have l1 := looks_mroIn (M := model prog w) X hm
  obtain ⟨_, _, _, _, _⟩ := s
  have sg := KF.slot_gs
  refine codeAny_call_builtin sg.plain KF.entry_gs (sg.check _ _ _ _ _ _ _ _ KF.type_class (KF.args_gs _ _ _) ?_)
  unfold Builtin.«getset_descriptor.__get__» descrGet
  rw [dga_obj]
  unfold descrGetter descrCheckInstance isInstance descrNameAndClass
  refine wpAny_bind (wpAny_pure ?_)
  simp only [KF.owner_class]
  repeat lk
  refine ⟨Code.quiet_builtin _ (by decide +kernel), codeAny_builtin KF.entry_class ?_⟩
  unfold Builtin.«object.__class__» shownTypeOf
  repeat lk
  exact h
theorem exc_check {M : Model} {nameV : Value} {Q : Unit -> Shared -> Prop} (X : K.In s.heap) (I : ExcAt x D s.heap) (C : ExcCls K D) (hq : Q () s) : wpAny M A (checkBuiltinCall "BaseException.__getattribute__" ⟨[.ref x, nameV], []⟩) Q E s := by
  have a1 := F.args_bexc_ga (.ref x) nameV
  have l0 := I.type (M := M)
  have l1 := looks_mroIn (M := M) X C.mb
  obtain ⟨_, _, _, _, _⟩ := s
  simp only [checkBuiltinCall, show builtinKind "BaseException.__getattribute__" = some .slot by decide +kernel, show splitId "BaseException.__getattribute__" = some ("BaseException", "__getattribute__") by decide +kernel, isInstance]
  repeat (first | lk | wp_step)
  exact hq
theorem exc_entry {tk : Tok} {Q : Fin -> Shared -> Prop} (X : K.In s.heap) (I : ExcAt x D s.heap) (C : ExcCls K D) (hq : Q (.done (.ret (.ref D))) s) : wpAny (model prog w) A (Builtin.«object.__getattribute__» ⟨[.ref x, .str "__class__" tk], []⟩) Q E s := by
  obtain ⟨hh, g, d, t, os⟩ := s
  have L0 := I.type (M := model prog w)
  have L1 := exc_find (M := model prog w) (x := x) X C
  unfold Builtin.«object.__getattribute__»
  refine wpAny_bind (wpAny_pure ?_)
  refine wpAny_bind (wpAny_pure ?_)
  refine wpAny_bind (L0.at ?_)
  refine wpAny_bind (L1.at ?_)
  show wpAny _ _ (Builtin.ObjectAttr.bindTo _ _ _ _) _ _ _
  unfold Builtin.ObjectAttr.bindTo
  dsimp only
  refine wpAny_bind (wpAny_holding (wpAny_call (exc_get (K := K) (s := ⟨hh, g, d, t, os⟩) X I C.mo ?_)))
  exact wpAny_pure hq
theorem exc_class {Q : Option Value -> Shared -> Prop} (X : K.In s.heap) (I : ExcAt x D s.heap) (C : ExcCls K D) (h : Q (some (.ref D)) { s with toks := s.toks + 1 }) : wpAny (model prog w) A (getAttr? (.ref x) "__class__") Q E s := by
  obtain ⟨hh, g, d, t, os⟩ := s
  have L0 := I.type (M := model prog w)
  have L1 := looks_findIn (M := model prog w) X C.ga
  have L2 := looks_findIn (M := model prog w) X C.hk
  unfold getAttr? getAttrBy? getAttrBy
  refine wpAny_bind (wpAny_mkText (wpAny_bind (wpAny_attempt (wpAny_holding (wpAny_bind (L0.at (wpAny_bind (L1.at ?_))))))))
  show wpAny _ _ (getAttrByItsOwn _ _ _ _ _ _) _ _ _
  unfold getAttrByItsOwn hookBefore
  refine wpAny_bind ?_
  rw [if_pos (by rfl)]
  refine L2.at (wpAny_bind (wpAny_attempt (wpAny_holding ?_)))
  unfold callGetattribute
  rw [if_neg (by decide)]
  unfold boundAndCalled
  have f3 := PySem.F.attr_ValueError.ga.bind (.ref x)
  refine wpAny_bind (wpAny_of_eq f3 ?_)
  refine wpAny_call (codeAny_call_builtin PySem.F.attr_ValueError.ga.plain F.entry_bexc_ga (exc_check (K := K) (s := ⟨hh, g, d, t + 1, os⟩) X I C (exc_entry (K := K) (s := ⟨hh, g, d, t + 1, os⟩) X I C ?_)))
  exact wpAny_pure (wpAny_pure h)
theorem kitx_exc (C : ExcCls K D) : KitX K (.ref x) (.ref D) (ExcAt x D) := by
  have cl := C.cl
  unfold clsIn at cl
  refine ⟨fun _ _ _ I => I.type, fun _ _ X _ => ?_, fun h tp dd its n sl X htp => ?_, fun X I k => exc_class X I C k⟩
  . split at cl
    . rename_i ho
      intro A' Q' E' s' k q
      exact wpAny_bind (wpAny_loadPart (k _ _ (X _ _ ho)) (wpAny_pure q))
    . cases cl
  . split at cl
    . rename_i ho
      cases hb : (Value.ref D == Value.ref tp) with
      | false => rfl
      | true =>
        obtain rfl : D = tp := Value.ref.inj (beq_iff_eq.mp hb)
        cases (X _ _ ho).symm.trans htp
    . cases cl
end
section
variable {P : Program} {w : World}
end
section
variable {P : Program} {w : World} {K : PySem.W.Frag} {mg : Str -> Option Value} {base : Heap} {N : List Str} {qual : Str} {scope : Scope} {f : Addr} {cd : Value} {A : Around} {outer : List Env} {s : Shared} {H : Hp} {E : XK}
end
end L2
set_option Elab.async false
set_option linter.all false
set_option maxRecDepth 100000
set_option maxHeartbeats 4000000
namespace L2
open PySem PySem.Spec PyProof.Rows
section
variable {X : Cx} {pins pins' : List (Addr × Obj)} {σ : St} {H : Hp} {s : Shared} {xe xe' : Value -> Shared -> Prop} {ea : Addr}
end
section
variable {X : Cx} {CX : CXT} {k : Nat} {f C : Addr} {fd : FuncData} {ps : List Str} {sp : Sp} {dvs : List V} {ds : List Value} {E : St -> XK} {x : Str} {p pos : Pos} {e : Expr} {es : List Expr} {t : TA}
end
def excO (ea C : Addr) : HO := .ext (ExcAt ea C)
theorem call_isinstE {X : Cx} : CallR X (.builtin "isinstance") (fun xs H Q => ∃ ea C c cv b, xs = [.ref ea, c] /\ H ea = some (excO ea C) /\ ExcCls X.K C /\ (∀ u, RelV c u -> u = cv) /\ PySem.W.kitOne X.K (.ref C) cv = some b /\ Q (.bl b) H) := by
  intro pins s σ H xs us Q I r h
  obtain ⟨ea, C, c, cv, b, rfl, hea, hC, hc, hk, q⟩ := h
  obtain ⟨u, w', rfl, rx, rc⟩ := vals2 r
  rw [hc _ rc]
  cases rx
  obtain ⟨p, _, _⟩ := (show ObjOk X.prog X.w H s.heap ea (.ext (ExcAt ea C)) from I.hok ea _ hea)
  exact PySem.W.kia_one (kitx_exc hC) I.kIn p hk (fun z => nomatch z) fun tk => ⟨.bl b, H, I.tok tk, rfl, q⟩
end L2
set_option Elab.async false
set_option linter.all false
set_option maxRecDepth 100000
set_option maxHeartbeats 4000000
namespace HT
open PySem PySem.Spec PyProof.Rows
open PySem.AutoSeq1 (wpAny_loadPart')
section
open PySem.SeqAt PySem.MeetsSeq PySem.MeetsSeq2 PySem.MeetsSeq3
end
end HT
namespace L2
open PySem PySem.Spec PyProof.Rows
section
variable {X : Cx}
def rCatT2 (K : PySem.W.Frag) : R2 := fun x y H Q => ∃ a b xs ys, x = .ref a /\ y = .ref b /\ SqT K H a xs /\ SqT K H b ys /\ xs.length + ys.length <= sizeLine /\
  (xs = [] -> Q (.ref b) H) /\ (xs ≠ [] -> ys = [] -> Q (.ref a) H) /\ (xs ≠ [] -> ys ≠ [] -> ∀ p, H p = none -> Q (.ref p) (upd H p (.tup (xs ++ ys))))
theorem op_catT2 : OpR X (binaryOp .Add) (rCatT2 X.K) := by
  intro pins s σ H x y v u Q I rx ry h
  obtain ⟨a, b, xs, ys, rfl, rfl, ha, hb, hz, q0, q1, q2⟩ := h
  by_cases hx : xs = []
  . subst hx
    cases rx
    cases ry
    obtain ⟨its, r1, p1, _⟩ := I.tuple ha
    obtain ⟨its2, r2, p2, _⟩ := I.tuple hb
    have : its = [] := r1.nil_iff.mpr rfl
    subst this
    obtain ⟨⟨cls, dd, data, sl⟩, ho, hc, n, hd⟩ := id p1
    obtain ⟨⟨cls2, dd2, data2, sl2⟩, ho2, hc2, n2, hd2⟩ := id p2
    simp only at hc hd hc2 hd2
    subst hc hd hc2 hd2
    exact concat_meets ⟨_, ho, rfl⟩ ⟨_, ho2, rfl⟩ noFill_tuple_add seq_tuple_add PySem.F.slot_tuple_add PySem.F.entry_tuple_add (PySem.F.args_tuple_add_2 _ _)
      (PyProof.Rows.tuple_addW0 a b _ _ n n2 dd dd2 sl sl2 rfl) ⟨ho, ho2, ⟨.ref b, H, I, rfl, q0 rfl⟩⟩
  . exact op_catT pins s σ H _ _ v u Q I rx ry ⟨a, b, xs, ys, rfl, rfl, ha, hb, hx, hz, q1 hx, q2 hx⟩
end
theorem whileW {c : TT} {tb : TS} {D : Ends} {σ : St} {H : Hp} (Pv : Nat -> St -> Hp -> Prop) (h0 : ∃ m, Pv m σ H)
    (hs : ∀ m σ H, Pv m σ H -> c σ H fun b H1 => if b = true then ∃ N : St -> Hp -> Prop, (∀ σ' H', N σ' H' -> ∃ m', m' < m /\ Pv m' σ' H') /\ tb { D with nx := N, ct := N, bk := D.nx } σ H1 else D.nx σ H1) : tWhile c tb D σ H := ⟨Pv, h0, hs⟩
section
variable {K : PySem.W.Frag} {H : Hp} {Q : VK}
end
inductive TyW (K : PySem.W.Frag) (H : Hp) : V -> Value -> Prop where
  | non : TyW K H .non (.type "NoneType")
  | bl (x : Bool) : TyW K H (.bl x) (.type "bool")
  | int (i : Int) : TyW K H (.int i) (.type "int")
  | str (x : Str) : TyW K H (.str x) (.type "str")
  | lst {a : Addr} {xs : List V} (e : SqL K H a xs) : TyW K H (.ref a) (.type "list")
  | tup {a : Addr} {xs : List V} (e : SqT K H a xs) : TyW K H (.ref a) (.type "tuple")
  | exc {a C : Addr} (e : H a = some (excO a C)) (c : ExcCls K C) : TyW K H (.ref a) (.ref C)
theorem call_isinstW {X : Cx} : CallR X (.builtin "isinstance") (fun xs H Q => ∃ x c cv t b, xs = [x, c] /\ TyW X.K H x t /\ (∀ u, RelV c u -> u = cv) /\ PySem.W.kitOne X.K t cv = some b /\ Q (.bl b) H) := by
  intro pins s σ H xs us Q I r h
  obtain ⟨x, c, cv, t, b, rfl, ty, hc, hk, q⟩ := h
  cases ty with
  | non => exact call_isinst pins s σ H _ us Q I r ⟨_, c, cv, _, b, rfl, .non, hc, hk, q⟩
  | bl y => exact call_isinst pins s σ H _ us Q I r ⟨_, c, cv, _, b, rfl, .bl y, hc, hk, q⟩
  | int y => exact call_isinst pins s σ H _ us Q I r ⟨_, c, cv, _, b, rfl, .int y, hc, hk, q⟩
  | str y => exact call_isinst pins s σ H _ us Q I r ⟨_, c, cv, _, b, rfl, .str y, hc, hk, q⟩
  | exc e hC => exact call_isinstE pins s σ H _ us Q I r ⟨_, _, c, cv, b, rfl, e, hC, hc, hk, q⟩
  | @lst a xs e =>
    obtain ⟨u, w', rfl, rx, rc⟩ := vals2 r
    rw [hc _ rc]
    cases rx
    obtain ⟨its, _, pl, _⟩ := I.list e
    obtain ⟨o, ho, hcl, _⟩ := pl.isList
    exact PySem.W.kia_one PySem.W.kitx_list I.kIn ⟨o, ho, hcl⟩ hk (fun z => nomatch z) fun tk => ⟨.bl b, H, I.tok tk, rfl, q⟩
  | @tup a xs e =>
    obtain ⟨u, w', rfl, rx, rc⟩ := vals2 r
    rw [hc _ rc]
    cases rx
    obtain ⟨its, _, ⟨o, ho, hcl, _⟩, _⟩ := I.tuple e
    exact PySem.W.kia_one PySem.W.kitx_tuple I.kIn ⟨o, ho, hcl⟩ hk (fun z => nomatch z) fun tk => ⟨.bl b, H, I.tok tk, rfl, q⟩
end L2
set_option Elab.async false
set_option linter.all false
set_option maxRecDepth 100000
set_option maxHeartbeats 4000000
namespace GW
def placeR (L : Int) : List Int -> Int
  | [] => 0
  | x :: r => placeR L r * L + x + 1
def place (L : Int) (w : List Int) : Int := placeR L w.reverse
def inW (L x : Int) : Bool := decide (0 <= x) && decide (x < L)
def isW (L : Int) (ws : List Int) : Bool := ws.all (inW L)
theorem inW_iff {L x : Int} : inW L x = true ↔ 0 <= x /\ x < L := by simp [inW]
theorem isW_iff {L : Int} {ws : List Int} : isW L ws = true ↔ ∀ x ∈ ws, 0 <= x /\ x < L := by simp [isW, inW_iff]
def many (L : Int) : Nat -> Int
  | 0 => 0
  | k + 1 => many L k * L + 1
def val (L : Int) : List Int -> Int
  | [] => 0
  | x :: r => val L r * L + x
end GW
set_option Elab.async false
set_option linter.all false
set_option maxRecDepth 100000
set_option maxHeartbeats 4000000
namespace PySem
section
variable {prog : Program} {w : World} {A : Around} {E : Value -> Shared -> Prop} {s : Shared}
variable {I r : Addr} {T : String} {n : Nat} {wr : Addr -> Prop} {J : Nat -> List Value -> Heap -> Prop} {Fn : List Value -> Heap -> Prop} {R : Result -> Shared -> Prop} {res : Value}
end
end PySem
set_option Elab.async false
set_option linter.all false
set_option maxRecDepth 100000
set_option maxHeartbeats 4000000
namespace PySem
open Sem (wp)
open AutoSeq1 (wpAny_loadPart')
namespace F
end F
section
variable {prog : Program} {w : World} {A : Around} {E : Value -> Shared -> Prop} {s : Shared}
end
end PySem
namespace L2
open PySem PySem.Spec PyProof.Rows
section
variable {P : Program} {w : World} {K : PySem.W.Frag} {mg : Str -> Option Value} {base : Heap}
end
section
variable {te ta tb : TE} {A : TA} {D : Ends} {σ : St} {H : Hp} {Q : VK} {K : PySem.W.Frag} {tbd ts : TS}
theorem r_cat {x y : V} : rCat x y H Q = ∃ l b xs zs, x = .ref l /\ y = .ref b /\ H l = some (.lst xs) /\ H b = some (.lst zs) /\ xs.length + zs.length <= sizeLine /\ ∀ p, H p = none -> Q (.ref p) (upd H p (.lst (xs ++ zs))) := rfl
theorem r_rep {x y : V} : rRep x y H Q = ∃ l k xs, x = .ref l /\ y = .int k /\ H l = some (.lst xs) /\ -(2 ^ 63) <= k /\ k < 2 ^ 63 /\ xs.length * k.toNat <= sizeLine /\ ∀ p, H p = none -> Q (.ref p) (upd H p (.lst (List.replicate k.toNat xs).flatten)) := rfl
end
section
variable {X : Cx} {tg : Expr}
end
end L2
namespace L2
open PySem PySem.Spec PyProof.Rows
theorem eqV_int (x y : Int) : eqV (.int x) (.int y) = decide (V.int x = V.int y) := by
  by_cases h : x = y
  . subst h; simp [eqV]
  . rw [decide_eq_false (fun z => h (by injection z))]; simp [eqV, h]
theorem EqD.ints {K : PySem.W.Frag} {H : Hp} {a c : Addr} {xs ys : List Int} (hq : (SqL K H a (xs.map V.int) /\ SqL K H c (ys.map V.int)) \/ (SqT K H a (xs.map V.int) /\ SqT K H c (ys.map V.int))) (n : Nat) : EqD K H (n + 1) (.ref a) (.ref c) (decide (xs = ys)) := by
  have := EqD.flat hq (fun x hx => by obtain ⟨_, _, rfl⟩ := mem_mapI hx; rfl) (fun x hx => by obtain ⟨_, _, rfl⟩ := mem_mapI hx; rfl) (fun x hx y hy => by obtain ⟨_, _, rfl⟩ := mem_mapI hx; obtain ⟨_, _, rfl⟩ := mem_mapI hy; exact eqV_int _ _) n
  have e : decide (xs.map V.int = ys.map V.int) = decide (xs = ys) := by
    rw [Bool.eq_iff_iff]
    simp only [decide_eq_true_eq]
    constructor
    . intro h
      exact (List.map_inj_right (fun a b h => by injection h)).mp h
    . intro h; rw [h]
  rw [e] at this
  exact this
end L2
namespace GW
end GW
namespace GW
end GW
namespace L2
open PySem PySem.Spec PyProof.Rows
def iSeq (K : PySem.W.Frag) (tl : TE) : TI := fun σ H R => tl σ H fun x H1 => ∃ a, x = .ref a /\ (((∃ xs, SqL K H1 a xs) /\ R (Itl K a) H1) \/ ((∃ xs, SqT K H1 a xs) /\ R (Itt K a) H1))
theorem r_iSeq {K : PySem.W.Frag} {te : TE} {σ : St} {H : Hp} {Z : It -> Hp -> Prop} : iSeq K te σ H Z = te σ H fun x H1 => ∃ a, x = .ref a /\ (((∃ xs, SqL K H1 a xs) /\ Z (Itl K a) H1) \/ ((∃ xs, SqT K H1 a xs) /\ Z (Itt K a) H1)) := rfl
theorem pi_seq {X : Cx} {tg l : Expr} {tl : TE} (hl : PE X l tl) : PI X tg l (iSeq X.K tl) := by
  intro pins s σ H R I h
  refine thn (hl pins s σ H _ I h) fun v s1 ⟨x, H1, I1, r1, q1⟩ => ?_
  obtain ⟨a, e, q⟩ := q1
  subst e
  cases r1
  rcases q with ⟨⟨xs, hq⟩, q⟩ | ⟨⟨xs, hq⟩, q⟩
  . obtain ⟨its, rv, p, hz⟩ := I1.list hq
    refine wpAny_pyIter_list p.isList ?_
    refine ⟨s1.heap.objs.size, [s1.heap.objs.size], _, _, H1, rfl, I1.kept (t' := s1.toks) fun b o e => Heap.get?_push_of_some _ e, turn_list a _, ⟨_, Heap.get?_push_size _ rfl, rfl, rfl⟩, fun b hb => ?_, q⟩
    have e : b = s1.heap.objs.size := by simpa using hb
    subst e
    exact I1.fpOk (Nat.le_refl _) (I1.hok.fresh (Nat.le_refl _))
  . obtain ⟨its, rv, p, hz⟩ := I1.tuple hq
    refine wpAny_pyIter_tuple (show s1.heap.IsTuple a its.toArray from p) ?_
    refine ⟨s1.heap.objs.size, [s1.heap.objs.size], _, _, H1, rfl, I1.kept (t' := s1.toks) fun b o e => Heap.get?_push_of_some _ e, turn_tuple a _, ⟨_, Heap.get?_push_size _ rfl, rfl, rfl⟩, fun b hb => ?_, q⟩
    have e : b = s1.heap.objs.size := by simpa using hb
    subst e
    exact I1.fpOk (Nat.le_refl _) (I1.hok.fresh (Nat.le_refl _))
end L2
namespace GW
def lessW (xs ys : List Int) : Bool := if xs.length = ys.length then HT.lexLt xs ys else decide (xs.length < ys.length)
end GW
namespace L2
open PySem PySem.Spec PyProof.Rows
end L2
namespace L2
open PySem PySem.Spec PyProof.Rows
end L2
namespace L2
open PySem PySem.Spec PyProof.Rows
section
variable {X : Cx} {K : PySem.W.Frag}
theorem ix_tupK (h : X.K = K) : IxR X (rIxT K) := by subst h; exact ix_tup
end
end L2
set_option Elab.async false
set_option linter.all false
set_option maxRecDepth 100000
set_option maxHeartbeats 4000000
namespace GW
def stepW (ways : List (List Int)) (r x : Int) : Int := (ways.getD r.toNat []).getD x.toNat 0
def walkW (ways : List (List Int)) (ws : List Int) : Int := ws.foldl (stepW ways) 0
structure Wf (L : Int) (marks : List Int) (ways : List (List Int)) : Prop where
  l1 : 1 <= L
  l6 : L <= 6
  n1 : 1 <= marks.length
  n40 : marks.length <= 40
  len : ways.length = marks.length
  rows : ∀ row ∈ ways, (row.length : Int) = L /\ ∀ x ∈ row, 0 <= x /\ x < marks.length
  mks : ∀ m ∈ marks, 0 <= m /\ m <= 1000000000
theorem stepW_of {ways : List (List Int)} {r x : Int} {row : List Int} {g : Int} (h1 : ways[r.toNat]? = some row) (h2 : row[x.toNat]? = some g) : stepW ways r x = g := by
  unfold stepW
  have e : ways.getD r.toNat [] = row := by rw [List.getD_eq_getElem?_getD, h1]; rfl
  rw [e, List.getD_eq_getElem?_getD, h2]; rfl
theorem Wf.row {L : Int} {marks : List Int} {ways : List (List Int)} (wf : Wf L marks ways) {r : Int} (h0 : 0 <= r) (h1 : r < marks.length) : ∃ row, ways[r.toNat]? = some row /\ row ∈ ways /\ (row.length : Int) = L := by
  have hlt : r.toNat < ways.length := by rw [wf.len]; omega
  exact ⟨ways[r.toNat], by simp [hlt], List.getElem_mem hlt, (wf.rows _ (List.getElem_mem hlt)).1⟩
theorem Wf.step {L : Int} {marks : List Int} {ways : List (List Int)} (wf : Wf L marks ways) {r x : Int} (h0 : 0 <= r) (h1 : r < marks.length) (x0 : 0 <= x) (x1 : x < L) : ∃ row g, ways[r.toNat]? = some row /\ row[x.toNat]? = some g /\ stepW ways r x = g /\ 0 <= g /\ g < marks.length := by
  obtain ⟨row, hr, hm, hl⟩ := wf.row h0 h1
  have hlt : x.toNat < row.length := by omega
  have hg : row[x.toNat]? = some row[x.toNat] := by simp [hlt]
  exact ⟨row, row[x.toNat], hr, hg, stepW_of hr hg, (wf.rows row hm).2 _ (List.getElem_mem hlt)⟩
end GW
namespace L2
open PySem PySem.Spec PyProof.Rows GW
def Rows (K : PySem.W.Frag) (H : Hp) (w : Addr) (ways : List (List Int)) : Prop := ∃ ts : List Addr, SqT K H w (ts.map V.ref) /\ ts.length = ways.length /\ ∀ (i : Nat) (t : Addr) (row : List Int), ts[i]? = some t -> ways[i]? = some row -> SqT K H t (row.map V.int)
def House (K : PySem.W.Frag) (H : Hp) (h : Addr) (L : Int) (marks : List Int) (ways : List (List Int)) : Prop := ∃ m w : Addr, SqT K H h [.int L, .ref m, .ref w] /\ SqT K H m (marks.map V.int) /\ Rows K H w ways
theorem Rows.mono {K : PySem.W.Frag} {H H' : Hp} {w : Addr} {ways : List (List Int)} (h : Rows K H w ways) (e : Same H H') : Rows K H' w ways := by
  obtain ⟨ts, h1, h2, h3⟩ := h
  exact ⟨ts, e.seqT h1, h2, fun i t r a b => e.seqT (h3 i t r a b)⟩
theorem House.mono {K : PySem.W.Frag} {H H' : Hp} {h : Addr} {L : Int} {marks : List Int} {ways : List (List Int)} (x : House K H h L marks ways) (e : Same H H') : House K H' h L marks ways := by
  obtain ⟨m, w, h1, h2, h3⟩ := x
  exact ⟨m, w, e.seqT h1, e.seqT h2, h3.mono e⟩
theorem Rows.at {K : PySem.W.Frag} {H : Hp} {w : Addr} {ways : List (List Int)} (h : Rows K H w ways) {i : Nat} {row : List Int} (hr : ways[i]? = some row) : ∃ xs t, SqT K H w xs /\ atI xs (i : Int) = some (V.ref t) /\ SqT K H t (row.map V.int) := by
  obtain ⟨ts, h1, h2, h3⟩ := h
  have hlt : i < ts.length := by rw [h2]; exact (List.getElem?_eq_some_iff.mp hr).1
  have ht : ts[i]? = some ts[i] := by simp [hlt]
  exact ⟨_, ts[i], h1, atI_nat (by rw [List.getElem?_map, ht]; rfl), h3 i _ _ ht hr⟩
theorem Rows.atZ {K : PySem.W.Frag} {H : Hp} {w : Addr} {ways : List (List Int)} (h : Rows K H w ways) {r : Int} {row : List Int} (h0 : 0 <= r) (hr : ways[r.toNat]? = some row) : ∃ xs t, SqT K H w xs /\ atI xs r = some (V.ref t) /\ SqT K H t (row.map V.int) := by
  obtain ⟨xs, t, a, b, c⟩ := h.at hr
  exact ⟨xs, t, a, by rw [<- b]; congr 1; omega, c⟩
theorem atI_end {α : Type} {xs : List α} {v : α} (h : xs[xs.length - 1]? = some v) : atI xs (-1) = some v := by
  have hlt := (List.getElem?_eq_some_iff.mp h).1
  unfold atI ixN
  rw [if_neg (by omega), if_pos (by omega)]
  show xs[(-1 + (xs.length : Int)).toNat]? = some v
  rw [show (-1 + (xs.length : Int)).toNat = xs.length - 1 by omega]
  exact h
theorem atI_int {ns : List Int} {i : Int} {v : Int} (h0 : 0 <= i) (h : ns[i.toNat]? = some v) : atI (ns.map V.int) i = some (V.int v) := atI_of h0 (by rw [List.getElem?_map, h]; rfl)
end L2
namespace L2
open PySem PySem.Spec PyProof.Rows GW
theorem seqT_off {K : PySem.W.Frag} {H : Hp} {p t : Addr} {xs ys zs : List V} (hp : H p = some (.lst zs)) (h : SqT K H t xs) : SqT K (upd H p (.lst ys)) t xs := by
  rcases h with (q | ⟨o, q⟩) | q
  . refine .inl (.inl ?_)
    rw [upd_ne (fun z => by rw [z, hp] at q; cases q)]; exact q
  . refine .inl (.inr ⟨o, ?_⟩)
    rw [upd_ne (fun z => by rw [z, hp] at q; cases q)]; exact q
  . exact .inr q
def TupsL (K : PySem.W.Frag) (H : Hp) (l : Addr) (ws : List (List Int)) : Prop := ∃ ts : List Addr, H l = some (.lst (ts.map V.ref)) /\ ts.length = ws.length /\ ∀ (i : Nat) (t : Addr) (w : List Int), ts[i]? = some t -> ws[i]? = some w -> SqT K H t (w.map V.int)
theorem TupsL.mono {K : PySem.W.Frag} {H H' : Hp} {l : Addr} {ws : List (List Int)} (h : TupsL K H l ws) (e : Same H H') : TupsL K H' l ws := by
  obtain ⟨ts, h1, h2, h3⟩ := h
  exact ⟨ts, e _ _ h1, h2, fun i t w a b => e.seqT (h3 i t w a b)⟩
theorem TupsL.off {K : PySem.W.Frag} {H : Hp} {l p : Addr} {ws : List (List Int)} {zs ys : List V} (h : TupsL K H l ws) (hp : H p = some (.lst zs)) (ne : l ≠ p) : TupsL K (upd H p (.lst ys)) l ws := by
  obtain ⟨ts, h1, h2, h3⟩ := h
  exact ⟨ts, by rw [upd_ne ne]; exact h1, h2, fun i t w a b => seqT_off hp (h3 i t w a b)⟩
theorem TupsL.push {K : PySem.W.Frag} {H : Hp} {l t : Addr} {ws : List (List Int)} {w : List Int} (h : TupsL K H l ws) (hw : SqT K H t (w.map V.int)) : ∃ xs, H l = some (.lst xs) /\ xs.length = ws.length /\ TupsL K (upd H l (.lst (xs ++ [V.ref t]))) l (ws ++ [w]) := by
  obtain ⟨ts, h1, h2, h3⟩ := h
  refine ⟨ts.map V.ref, h1, by rw [List.length_map, h2], ts ++ [t], by rw [upd_same, List.map_append]; rfl, by simp [h2], fun i t' w' a b => seqT_off h1 ?_⟩
  by_cases hi : i < ts.length
  . rw [List.getElem?_append_left hi] at a
    rw [List.getElem?_append_left (by omega)] at b
    exact h3 i t' w' a b
  . have ht := (List.getElem?_eq_some_iff.mp a).1
    rw [List.length_append, List.length_singleton] at ht
    have e : i = ts.length := by omega
    subst e
    rw [List.getElem?_append_right (Nat.le_refl _), Nat.sub_self] at a
    rw [List.getElem?_append_right (by omega), h2, Nat.sub_self] at b
    simp at a b
    subst a b
    exact hw
theorem TupsL.nil {K : PySem.W.Frag} {H : Hp} {l : Addr} (h : H l = some (.lst [])) : TupsL K H l [] := ⟨[], h, rfl, fun i t w a _ => by simp at a⟩
theorem TupsL.rows {K : PySem.W.Frag} {H : Hp} {l : Addr} {ws : List (List Int)} (h : TupsL K H l ws) : ∃ xs, H l = some (.lst xs) /\ ∀ t, H t = none -> Rows K (upd H t (.tup xs)) t ws := by
  obtain ⟨ts, h1, h2, h3⟩ := h
  exact ⟨_, h1, fun t ht => ⟨ts, SqT.of upd_same, h2, fun i t' w a b => (Same.new ht).seqT (h3 i t' w a b)⟩⟩
end L2
set_option Elab.async false
set_option linter.all false
set_option maxRecDepth 100000
set_option maxHeartbeats 4000000
namespace PySem
open Sem (wp)
open AutoSeq1 (wpAny_loadPart')
section
variable {prog : Program} {w : World} {A : Around} {E : Value -> Shared -> Prop} {s : Shared}
theorem newT {l : List Value} {Q : Value -> Shared -> Prop} (hl : l.length <= sizeLine) (h : ∀ h', s.heap.push { cls := .type "tuple", data := .seq l.toArray } = h' -> Q (.ref s.heap.objs.size) { s with heap := h' }) : wpAny (model prog w) A (newTuple l) Q E s := wpAny_newTuple (h _ rfl)
theorem psh {h h' : Heap} {o : Obj} (q : h.push o = h') (ho : o.isFreed = false) : (∀ c u, h.get? c = some u -> h'.get? c = some u) /\ h'.get? h.objs.size = some o /\ h'.objs.size = h.objs.size + 1 := by
  subst q
  exact ⟨fun c u x => Heap.get?_push_of_some _ x, Heap.get?_push_size _ ho, Heap.size_push ..⟩
theorem nextOf_tup {it l : Addr} {i : Nat} {items : Array Value} {Q : Value -> Shared -> Prop} (hit : s.heap.IsTupleIter it l i) (hl : s.heap.IsTuple l items)
    (hQ : ∀ x h', items[i]? = some x -> h'.IsTupleIter it l (i + 1) -> Heap.SameBut it s.heap h' -> Q x { s with heap := h' })
    (hE : items[i]? = none -> A.handled = none /\ ∀ h' e, Heap.ExtBut it s.heap h' -> (∃ o, h'.get? e = some o /\ o.cls = .type "StopIteration") -> E (.ref e) { s with heap := h' }) : wpAny (model prog w) A (Builtin.SmallTypes.nextOf (.ref it)) Q E s := by
  obtain ⟨⟨c, dc, da, sl⟩, ho, hc, hd⟩ := id hit
  obtain ⟨⟨c', dc', da', sl'⟩, hol, hc', nl, hdl⟩ := hl
  replace hc : c = _ := hc; replace hd : da = _ := hd; replace hc' : c' = _ := hc'; replace hdl : da' = _ := hdl
  subst hc hd hc' hdl
  have e1 := F.slot_tuple_iterator_next
  unfold Builtin.SmallTypes.nextOf
  refine wpAny_bind (wpAny_callSpecial?_slot hit.typeIs e1 (wpAny_call_entry e1 hit.typeIs F.entry_tuple_iterator_next ?_ (F.args_tuple_iterator_next_1 _)))
  wp_walk
  cases hx : items[i]? with
  | some x =>
    simp only [Int.toNat_natCast, hx]
    wp_walk
    exact ⟨x, rfl, wpAny_pure (hQ x _ hx ⟨_, Heap.get?_update_self _ ho (by simp [Obj.mapFields, Obj.isFreed]), rfl, by simp [Obj.mapFields, rawInt]⟩ (Heap.SameBut.update ..))⟩
  | none =>
    obtain ⟨hh, hE⟩ := hE hx
    have h1 : A.in1.handled = none := hh
    simp only [Int.toNat_natCast, hx]
    wp_walk
    unfold raiseNew
    wp_walk
    exact hE _ _ (((Heap.SameBut.update ..).extBut.push _).push _) ⟨_, Heap.get?_push_size _ rfl, rfl⟩
end
end PySem
namespace L2
open PySem PySem.Spec PyProof.Rows
section
variable {X : Cx} {pins : List (Addr × Obj)} {σ : St} {H : Hp} {s : Shared}
theorem Inv.un2 {h' : Heap} {e it : Addr} (I : Inv X pins σ H s) (k : ∀ b o, b ≠ e -> b ≠ it -> s.heap.get? b = some o -> h'.get? b = some o) (f1 : FpOk X pins H e) (f2 : FpOk X pins H it) : Un (frs X.stack) [e, it] H H s.heap h' /\ HOk X.prog X.w H h' := by
  have ne : ∀ b u, H b = some u -> b ≠ e /\ b ≠ it := fun b u q => ⟨(fun z => by rw [z, f1.1] at q; cases q), (fun z => by rw [z, f2.1] at q; cases q)⟩
  have nch : ∀ {b : Addr}, b ∉ [e, it] -> b ≠ e /\ b ≠ it := fun hb => by simpa using hb
  refine ⟨⟨fun b o q _ _ hb => k b o (nch hb).1 (nch hb).2 q, fun b o q _ _ hb => ⟨o.slots, k b o (nch hb).1 (nch hb).2 q⟩, fun _ _ _ n _ => n, fun b o q hb => ⟨o, k b o (nch hb).1 (nch hb).2 q⟩, fun _ _ q => q, fun _ _ _ q => q, fun b ps q => ⟨#[], by rw [q]; simp⟩⟩, fun b u q => ?_⟩
  refine (I.hok b u q).stay (fun c v hc qv => ?_) (fun _ q => q) fun _ _ q => q
  have hne : c ≠ e /\ c ≠ it := by
    rcases hc with rfl | hc
    . exact ne _ _ q
    . exact ne _ _ hc
  exact k c v hne.1 hne.2 qv
theorem FpOk.ch {b : Addr} (f : FpOk X pins H b) : (b ∈ X.ex \/ X.s₀.heap.objs.size <= b) /\ b ≠ X.env.locals /\ (∀ x c, X.env.cells.lookup x = some c -> c ≠ b) /\ ∀ p ∈ X.pn ++ pins, p.1 ≠ b := ⟨f.2.2.2.1, f.2.1, f.2.2.2.2.1, f.2.2.2.2.2⟩
end
theorem r_gTup {K : PySem.W.Frag} {n : Nat} {t : TGs} {v : V} {σ : St} {H : Hp} {N : St -> Hp -> Prop} : gTup K n t v σ H N = ∃ a xs, v = .ref a /\ SqT K H a xs /\ xs.length = n /\ t xs σ H N := rfl
theorem r_gCons {t : TG} {u : TGs} {vs : List V} {σ : St} {H : Hp} {N : St -> Hp -> Prop} : gCons t u vs σ H N = ∃ v r, vs = v :: r /\ t v σ H fun σ' H' => u r σ' H' N := rfl
theorem r_gNil {vs : List V} {σ : St} {H : Hp} {N : St -> Hp -> Prop} : gNil vs σ H N = (vs = [] /\ N σ H) := rfl
section
variable {td ty tv tx : TE} {D : Ends} {σ : St} {H : Hp} {Q : VK}
theorem r_dget : tDGet td ty σ H Q = td σ H fun x H1 => ty σ H1 fun y H2 => ∃ a v, x = .ref a /\ DGet H2 a y (some v) /\ Q v H2 := rfl
theorem r_dnotin : tDNotIn ty td σ H Q = ty σ H fun y H1 => td σ H1 fun x H2 => ∃ a o, x = .ref a /\ DGet H2 a y o /\ Q (.bl (!o.isSome)) H2 := rfl
theorem r_dput : sDPut td ty tv D σ H = tv σ H fun v H1 => td σ H1 fun x H2 => ty σ H2 fun y H3 => ∃ a H4, x = .ref a /\ DPut H3 a y v H4 /\ D.nx σ H4 := rfl
theorem r_disp {trs : List (TE × TE)} : tDisp trs σ H Q = ∀ p, H p = none -> tPairs trs σ (upd H p (.dK [])) fun ps H2 => H2 p = some (.dK []) /\ ∃ kvs : List (Key × V), ps = kvs.map (fun kv => (kV kv.1, kv.2)) /\ kvs.length <= 15 /\ Q (.ref p) (upd H2 p (.dK (mergeK [] kvs))) := rfl
theorem r_pairs0 {R : List (V × V) -> Hp -> Prop} : tPairs [] σ H R = R [] H := rfl
theorem r_pairs1 {r : List (TE × TE)} {R : List (V × V) -> Hp -> Prop} : tPairs ((td, tv) :: r) σ H R = td σ H fun x H1 => tv σ H1 fun y H2 => tPairs r σ H2 fun ps H3 => R ((x, y) :: ps) H3 := rfl
end
end L2
namespace HT
open PySem PySem.Spec PyProof.Rows
section
open PySem.SeqAt PySem.MeetsSeq PySem.MeetsSeq2 PySem.MeetsSeq3
open PySem.AutoSeq1 (wpAny_loadPart')
end
end HT
namespace L2
open PySem PySem.Spec PyProof.Rows
end L2
set_option Elab.async false
set_option linter.all false
set_option maxRecDepth 100000
set_option maxHeartbeats 4000000
namespace GW
def addRow (w : List Int) : List (Int × List Int) -> Nat -> List Int -> List (Int × List Int)
  | ents, _, [] => ents
  | ents, x, g :: r => addRow w (if g ∈ ents.map (·.1) then ents else ents ++ [(g, w ++ [(x : Int)])]) (x + 1) r
def bfs (ways : List (List Int)) : Nat -> List (Int × List Int) -> Nat -> List (Int × List Int)
  | 0, ents, _ => ents
  | f + 1, ents, i => match ents[i]? with
    | none => ents
    | some e => bfs ways f (addRow e.2 ents 0 (ways.getD e.1.toNat [])) (i + 1)
def wordsIn (ways : List (List Int)) : List (Int × List Int) := bfs ways (ways.length + 1) [(0, [])] 0
theorem nodup_len : ∀ (n : Nat) {l : List Int}, l.Nodup -> (∀ x ∈ l, 0 <= x /\ x < (n : Int)) -> l.length <= n
  | 0, l, _, h => by
    cases l with
    | nil => simp
    | cons x r => have := h x List.mem_cons_self; omega
  | n + 1, l, hn, h => by
    by_cases hm : (n : Int) ∈ l
    . have e := List.length_erase_of_mem hm
      have := nodup_len n (l := l.erase (n : Int)) (hn.erase _) (fun x hx => by
        have h1 := (hn.mem_erase_iff).mp hx
        have h2 := h x h1.2
        have h3 := h1.1
        omega)
      omega
    . have := nodup_len n hn (fun x hx => by
        have h2 := h x hx
        have : x ≠ n := fun z => hm (z ▸ hx)
        omega)
      omega
end GW
namespace L2
open PySem PySem.Spec PyProof.Rows GW
end L2
namespace L2
end L2
namespace L2
open PySem PySem.Spec PyProof.Rows
def ups (n : Nat) : List Int := (List.range n).map fun i : Nat => (i : Int)
def tListRng (te : TE) : TE := fun σ H Q => te σ H fun x H1 => ∃ j : Int, x = .int j /\ 0 <= j /\ j <= 100000 /\ ∀ p, H1 p = none -> Q (.ref p) (upd H1 p (.lst ((ups j.toNat).map V.int)))
theorem r_listRng {te : TE} {σ : St} {H : Hp} {Q : VK} : tListRng te σ H Q = te σ H fun x H1 => ∃ j : Int, x = .int j /\ 0 <= j /\ j <= 100000 /\ ∀ p, H1 p = none -> Q (.ref p) (upd H1 p (.lst ((ups j.toNat).map V.int))) := rfl
theorem items_ups {n : Nat} {acc : Array Value} (h : ItemsOf (fun i v => ∃ t, v = .int ((0 : Int) + (i : Nat) * 1) t) acc n) : Vals ((ups n).map V.int) acc.toList := by
  have hs := h.1
  have key : ∀ (l : List Value) (k : Nat), (∀ i v, l[i]? = some v -> ∃ t, v = Value.int ((k + i : Nat) : Int) t) -> Vals (((List.range l.length).map fun i => ((k + i : Nat) : Int)).map V.int) l := by
    intro l
    induction l with
    | nil => intro k _; exact .nil
    | cons u r ih =>
      intro k hk
      rw [List.length_cons, List.range_succ_eq_map, List.map_cons, List.map_cons]
      refine .cons ?_ ?_
      . obtain ⟨t, e⟩ := hk 0 u (by simp)
        exact ⟨t, by simpa using e⟩
      . have := ih (k + 1) (fun i v hv => by
          obtain ⟨t, e⟩ := hk (i + 1) v (by simpa using hv)
          exact ⟨t, by rw [e]; congr 1; push_cast; omega⟩)
        have e : ((List.map Nat.succ (List.range r.length)).map fun i => ((k + i : Nat) : Int)) = ((List.range r.length).map fun i => ((k + 1 + i : Nat) : Int)) := by
          rw [List.map_map]
          apply List.map_congr_left
          intro i _
          show ((k + (i + 1) : Nat) : Int) = _
          congr 1; omega
        rw [e]
        exact this
  have := key acc.toList 0 (fun i v hv => by
    obtain ⟨t, e⟩ := h.2 i v (by simpa using hv)
    exact ⟨t, by rw [e]; congr 1; push_cast; omega⟩)
  have hl : acc.toList.length = n := by simpa using hs
  rw [hl] at this
  have e2 : ((List.range n).map fun i => ((0 + i : Nat) : Int)) = ups n := by
    unfold ups
    apply List.map_congr_left
    intro i _
    congr 1; omega
  rw [e2] at this
  exact this
theorem pe_listRng {X : Cx} {e : Expr} {te : TE} {p p2 pos pos2 : Pos} (hc : X.calm = true) (hg : Gl X "list") (hm : X.mg "list" = none) (hg2 : Gl X "range") (hm2 : X.mg "range" = none) (he : PE X e te)
    (hs1 : starEach [.Call (.Name "range" p2) [e] [] pos2] X.env = [(false, eval (.Call (.Name "range" p2) [e] [] pos2) X.env)] := by rfl) (hs : starEach [e] X.env = [(false, eval e X.env)] := by rfl) :
    PE X (.Call (.Name "list" p) [.Call (.Name "range" p2) [e] [] pos2] [] pos) (tListRng te) := by
  intro pins s σ H Q I h
  refine wpAny_Call_Name_kw (ld_blt I hg hm boot_list ?_)
  refine PyProof.Rows.callWith_type1 ?_ hs1 rfl
  rw [hs1]
  refine Calls.spliced_cons ?_
  refine Call_ (ld_blt I hg2 hm2 boot_range (PyProof.Rows.callWith_type1 (thn (pa_cons he pa_nil hs pos2 pins s σ H (fun vs H1 => ∃ j : Int, vs = [.int j] /\ 0 <= j /\ j <= 100000 /\ ∀ p, H1 p = none -> Q (.ref p) (upd H1 p (.lst ((ups j.toNat).map V.int)))) I ?_) fun us s1 ⟨vs, H1, I1, r1, q1⟩ => ?_) hs rfl))
  . show te σ H _
    have : (fun x H1 => ∃ j : Int, x = V.int j /\ 0 <= j /\ j <= 100000 /\ ∀ p, H1 p = none -> Q (.ref p) (upd H1 p (.lst ((ups j.toNat).map V.int)))) = (fun x H1 => tNil σ H1 fun xs H2 => ∃ j : Int, x :: xs = [V.int j] /\ 0 <= j /\ j <= 100000 /\ ∀ p, H2 p = none -> Q (.ref p) (upd H2 p (.lst ((ups j.toNat).map V.int)))) := by
      funext x H1
      simp [tNil]
    rw [<- this]
    exact h
  . obtain ⟨j, rfl, h0, h1, q⟩ := q1
    cases r1 with
    | cons r rr =>
      cases rr
      obtain ⟨t, rfl⟩ := r
      refine call_range_1 ?_
      refine Calls.spliced_nil ?_
      refine call_list_range (n := j.toNat) (I.ok.hd hc) (IsRange.new ..) (small_one (by omega) (by omega) (by omega) (by omega)) ?_ (by omega) fun h' tk acc' c' hk hS hacc => ?_
      . rw [rangeSize_one]; split <;> omega
      . have kp : ∀ b o, s1.heap.get? b = some o -> h'.get? b = some o := fun b o e => hk b o (Heap.get?_push_of_some _ e)
        have hz : (ups j.toNat).length = j.toNat := by simp [ups]
        have hl := line1000
        refine ⟨.ref _, _, I1.laid (t' := tk) kp (by rw [Heap.size_push]; exact Nat.le_succ _) (show ObjOk X.prog X.w _ h' _ (.lst ((ups j.toNat).map V.int)) from ⟨by rw [List.length_map, hz]; omega, acc'.toList, c', items_ups hacc, by simpa using hS⟩), rfl, q _ (I1.hok.fresh (by rw [Heap.size_push]; exact Nat.le_succ _))⟩
end L2
namespace L2
open PySem PySem.Spec PyProof.Rows
end L2
namespace L2
open PySem PySem.Spec PyProof.Rows
def tDisp1 (tk tv : TE) : TE := tDisp [(tk, tv)]
theorem pe_disp1 {X : Cx} {pos : Pos} {k v : Expr} {tk tv : TE} (hk : PE X k tk) (hv : PE X v tv) : PE X (.Dict [some k] [v] pos) (tDisp1 tk tv) := pe_disp (pps_cons hk hv pps_nil) rfl rfl (by intro z; cases z) (by show 1 <= 15; decide)
theorem r_disp1 {tk tv : TE} {σ : St} {H : Hp} {Q : VK} : tDisp1 tk tv σ H Q = ∀ p, H p = none -> tk σ (upd H p (.dK [])) fun x H1 => tv σ H1 fun y H2 => H2 p = some (.dK []) /\ ∃ kvs : List (Key × V), [(x, y)] = kvs.map (fun kv => (kV kv.1, kv.2)) /\ kvs.length <= 15 /\ Q (.ref p) (upd H2 p (.dK (mergeK [] kvs))) := rfl
end L2
namespace L2
open PySem PySem.Spec PyProof.Rows
theorem ps_setD {X : Cx} {i : Nat} {x : Str} {k v : Expr} {tk tv : TE} {pos pos' dpos : Pos} (hN : X.N.Nodup) (hi : X.N[i]? = some x) (hx : Loc X.env.scope x) (hk : PE X k tk) (hv : PE X v tv) (hs : swapsWith (.Dict [some k] [v] dpos) (some (.Name x pos')) pos.line X.env = pure false)
    (hf : X.fn x = true \/ X.env.scope.names.lookup x = some .local) : PS X (.Assign [.Name x pos'] (.Dict [some k] [v] dpos) pos) (tAsg (tDisp1 tk tv) (gName i)) := ps_set hN hi hx (pe_disp1 hk hv) hs hf
end L2
namespace GW
end GW
namespace L2
end L2
namespace L2
open PySem GW
end L2
namespace GW
end GW
namespace L2
open PySem GW
end L2
namespace GW
end GW
set_option Elab.async false
set_option linter.all false
set_option maxRecDepth 100000
set_option maxHeartbeats 4000000
namespace L2
open PySem PySem.Spec PyProof.Rows
theorem Vals.ofIx : ∀ {xs : List V} {us : List Value}, us.length = xs.length -> (∀ (i : Nat) (v : Value), us[i]? = some v -> ∃ x, xs[i]? = some x /\ RelV x v) -> Vals xs us
  | [], [], _, _ => .nil
  | [], _ :: _, h, _ => by simp at h
  | _ :: _, [], h, _ => by simp at h
  | x :: xs, u :: us, h, k => by
    refine .cons ?_ (Vals.ofIx (by simpa using h) fun i v hv => ?_)
    . obtain ⟨y, e, r⟩ := k 0 u rfl
      cases e
      exact r
    . obtain ⟨y, e, r⟩ := k (i + 1) v (by simpa using hv)
      exact ⟨y, by simpa using e, r⟩
theorem keyIs_rel {k : Key} {v : Value} (h : keyIs k v = true) : RelV (kV k) v := by
  rcases keyIs_shape h with ⟨i, t, rfl, e⟩ | ⟨x, t, rfl, e⟩
  . exact ⟨t, e⟩
  . exact ⟨t, e⟩
theorem call_list_dict {X : Cx} (hc : X.calm = true) : CallR X (.type "list") (fun xs H Q => ∃ p kvs, xs = [.ref p] /\ H p = some (.dK kvs) /\ ∀ l, H l = none -> Q (.ref l) (upd H l (.lst (kvs.map fun kv => kV kv.1)))) := by
  intro pins s σ H xs us Q I r h
  obtain ⟨p, kvs, rfl, hp, q⟩ := h
  obtain ⟨u, rfl, rx⟩ := vals1 r
  cases rx
  obtain ⟨hz, hS, vs, rr, m⟩ := dk_of I.hok hp
  obtain ⟨ep, hat⟩ := m.dictAt
  have hlen := rr.length
  have hks := rr.keys
  refine PySem.W.kdl_call (PySem.W.kdl_dict (knd := mixKind X.prog X.w) (kvs := vs) (ep := ep) hS) (I.ok.hd hc) hat (by omega) fun h' tk acc' c' hk hD hacc => ?_
  have hv : Vals (kvs.map fun kv => kV kv.1) acc'.toList := by
    refine Vals.ofIx (by rw [List.length_map, hlen]; simpa using hacc.1) fun i v hv => ?_
    obtain ⟨k, x, hx, hki⟩ := hacc.2 i v (by simpa using hv)
    refine ⟨kV k, ?_, keyIs_rel hki⟩
    have e1 : (kvs.map (·.1))[i]? = some k := by rw [hks, List.getElem?_map, hx]; rfl
    rw [List.getElem?_map] at e1 ⊢
    cases hq : kvs[i]? with
    | none => rw [hq] at e1; cases e1
    | some kv => rw [hq] at e1; cases e1; rfl
  exact ⟨.ref _, _, I.laid (t' := tk) hk (Nat.le_refl _) (show ObjOk X.prog X.w _ h' _ (.lst (kvs.map fun kv => kV kv.1)) from ⟨by rw [List.length_map]; exact hz, acc'.toList, c', hv, by simpa using hD⟩), rfl, q _ (I.hok.fresh (Nat.le_refl _))⟩
end L2
namespace HT
open PySem PyProof.Rows
section
open PySem.SeqAt
open PySem.AutoSeq1 (wpAny_loadPart')
open PySem.MeetsSeq PySem.MeetsSeq2 PySem.MeetsSeq3
end
end HT
namespace L2
open PySem PySem.Spec PyProof.Rows
theorem lexLt_irr : ∀ {xs : List Int}, HT.lexLt xs xs = false
  | [] => rfl
  | x :: xs => by rw [HT.lexLt_cons, if_pos rfl]; exact lexLt_irr
end L2
namespace L2
theorem r_in {K : PySem.W.Frag} {neg : Bool} {x y : V} {H : Hp} {Q : VK} : rIn K neg x y H Q = ∃ p xs, y = .ref p /\ (SqL K H p xs \/ SqT K H p xs) /\ flatV x = true /\ xs.all flatV = true /\ Q (.bl (if neg then !inV x xs else inV x xs)) H := rfl
theorem inV_ints (g : Int) (ns : List Int) : inV (.int g) (ns.map V.int) = decide (g ∈ ns) := by
  unfold inV
  rw [List.any_map, Bool.eq_iff_iff, List.any_eq_true, decide_eq_true_eq]
  constructor
  . rintro ⟨n, hn, e⟩
    have e : decide (n = g) = true := by simpa [eqV] using e
    rw [<- of_decide_eq_true e]; exact hn
  . exact fun h => ⟨g, h, by simp [eqV]⟩
end L2
namespace GW
def cnt (keys : List Int) (j : Nat) : Nat := ((List.range j).filter fun r : Nat => decide ((r : Int) ∈ keys)).length
end GW
set_option Elab.async false
set_option linter.all false
set_option maxRecDepth 100000
set_option maxHeartbeats 4000000
namespace L2
open PySem PySem.Spec PyProof.Rows
def Itm (K : PySem.W.Frag) (a : Addr) (xs : List V) : It := ⟨fun i H => i < xs.length /\ SqL K H a xs, fun i H x H' => ∃ t v, H t = none /\ xs[i]? = some v /\ x = .ref t /\ H' = upd H t (.tup [.int i, v]), fun i H => i = xs.length /\ SqL K H a xs⟩
theorem turn_enumL {P : Program} {w : World} {K : PySem.W.Frag} {elts : List Expr} {x1} {tpos : Pos} (a e it : Addr) (hei : e ≠ it) (hai : a ≠ it) (hae : a ≠ e) (xs : List V) : Turn P w K (.Tuple elts x1 tpos) (Itm K a xs) [e, it] e (fun i h => ∃ old, IsEnum h e it (i : Nat) old /\ h.IsListIter it a i) where
  mem := by simp
  obj := fun i h st b hb => by
    obtain ⟨old, h1, o, h2, c, d⟩ := st
    rcases List.mem_cons.mp hb with rfl | hb
    . exact ⟨_, h1, fun v z => by cases z⟩
    . rw [List.mem_singleton.mp hb]
      exact ⟨o, h2, fun v z => by rw [d] at z; cases z⟩
  keep := fun i h h' st k => by
    obtain ⟨old, h1, h2⟩ := st
    exact ⟨old, k e (by simp) _ h1, h2.at fun o q => k it (by simp) o q⟩
  item := by
    intro X hP hw hK hc i pins s σ H E I hf st hg
    subst hP hw hK
    obtain ⟨hi, hq⟩ := hg
    obtain ⟨old, he, hit⟩ := st
    obtain ⟨its, rv, p, hz⟩ := I.list hq
    have hl := rv.length
    have pt : s.heap.IsList a its.toArray := p.isList
    have f1 := hf e (by simp)
    have f2 := hf it (by simp)
    have Dw := Draws.list (prog := X.prog) (w := X.w) (A := X.A.in1) (I.ok.hd hc) it a hai its.toArray
    refine wpAny_pyNext_enum_itemD Dw he ⟨hit, pt⟩ (by simp; omega) hei (by simp [hei, Ne.symm hae]) fun u h' tk hu heo hst' hget hsz hk => ?_
    have hT : s.heap.objs.size ≠ e := Nat.ne_of_gt (Heap.lt_size he)
    refine ⟨_, rfl, wpAny_letOwnedTupleGo_enum heo fun h2 he2 hs2 => ?_⟩
    have hk2 : ∀ b o, b ≠ e -> b ≠ it -> s.heap.get? b = some o -> h2.get? b = some o := fun b o h1 h3 q => (hs2.2 b h1).trans (hk b o h1 h3 q)
    obtain ⟨un, hok⟩ := I.un2 hk2 f1 f2
    have hn : H s.heap.objs.size = none := I.hok.fresh (Nat.le_refl _)
    have hv : xs[i]? = some xs[i] := by simp [hi]
    obtain ⟨u', hu', ru⟩ := rv.get hv
    have eu : u' = u := by
      have hu2 : its[i]? = some u := by simpa using hu
      rw [hu'] at hu2
      exact Option.some.inj hu2
    subst eu
    have hget2 : h2.get? s.heap.objs.size = some { cls := .type "tuple", data := .seq #[.int i tk, u'] } := (hs2.2 _ hT).trans hget
    have new : ObjOk X.prog X.w (upd H s.heap.objs.size (.tup [.int i, xs[i]])) h2 s.heap.objs.size (.tup [.int i, xs[i]]) := ⟨by have := line1000; simp; omega, [.int i tk, u'], .cons ⟨tk, rfl⟩ (.cons ru .nil), _, hget2, rfl, _, rfl⟩
    refine ⟨.ref s.heap.objs.size, upd H s.heap.objs.size (.tup [.int i, xs[i]]), I.call' (s' := { s with heap := h2, toks := tk + 1 }) (ch := [e, it]) rfl (un.track (Nat.le_refl _) hn) (hok.track hn new) I.bare (fun b hb => ?_), rfl, ⟨_, _, hn, hv, rfl, rfl⟩, ?_, fun b hb => ?_⟩
    . exact (hf b hb).ch
    . refine ⟨u', by simpa using he2, ?_⟩
      exact hst'.1.at fun o q => (hs2.2 it (Ne.symm hei)).trans q
    . have hb' := hf b hb
      have : ∃ o, s.heap.get? b = some o := by
        rcases List.mem_cons.mp hb with rfl | hb
        . exact ⟨_, he⟩
        . rw [List.mem_singleton.mp hb]
          obtain ⟨o, ho, _⟩ := hit
          exact ⟨o, ho⟩
      obtain ⟨o, ho⟩ := this
      rw [upd_ne (Nat.ne_of_lt (Heap.lt_size ho))]
      exact hb'.1
  done := by
    intro X hP hw hK hc i pins s σ H E I hf st hg
    subst hP hw hK
    obtain ⟨hi, hq⟩ := hg
    subst hi
    obtain ⟨old, he, hit⟩ := st
    obtain ⟨its, rv, p, hz⟩ := I.list hq
    have hl := rv.length
    have pt : s.heap.IsList a its.toArray := p.isList
    have Dw := Draws.list (prog := X.prog) (w := X.w) (A := X.A.in1) (I.ok.hd hc) it a hai its.toArray
    obtain ⟨f0, f1, f2, f3, f4, f5⟩ := hf it (by simp)
    refine wpAny_pyNext_enum_endD Dw he ⟨by rw [List.size_toArray, <- hl]; exact hit, pt⟩ fun h' eb => ⟨rfl, I.turned (t' := s.toks) (fun b o hb e => eb b o hb e) f0 f1 f3 f4 f5⟩
  self := fun A i s Q E st h => by
    obtain ⟨old, he, _⟩ := st
    exact wpAny_pyIter_enum he h
def iEnumL (K : PySem.W.Frag) (tl : TE) : TI := fun σ H R => tl σ H fun x H1 => ∃ a xs, x = .ref a /\ SqL K H1 a xs /\ R (Itm K a xs) H1
theorem r_iEnumL {K : PySem.W.Frag} {te : TE} {σ : St} {H : Hp} {Z : It -> Hp -> Prop} : iEnumL K te σ H Z = te σ H fun x H1 => ∃ a xs, x = .ref a /\ SqL K H1 a xs /\ Z (Itm K a xs) H1 := rfl
theorem pi_enumL {X : Cx} {elts : List Expr} {x1} {tpos : Pos} {e : Expr} {te : TE} {p pos : Pos} (hg : Gl X "enumerate") (hm : X.mg "enumerate" = none) (he : PE X e te) (hs : starEach [e] X.env = [(false, eval e X.env)] := by rfl) : PI X (.Tuple elts x1 tpos) (.Call (.Name "enumerate" p) [e] [] pos) (iEnumL X.K te) := by
  intro pins s σ H R I h
  refine Call_ (ld_blt I hg hm boot_enumerate (PyProof.Rows.callWith_type1 (thn (pa_cons he pa_nil hs pos pins s σ H (fun vs H1 => ∃ a xs, vs = [.ref a] /\ SqL X.K H1 a xs /\ R (Itm X.K a xs) H1) I ?_) fun us s1 ⟨vs, H1, I1, r1, q1⟩ => ?_) hs rfl))
  . show te σ H _
    have : (fun x H1 => ∃ a xs, x = V.ref a /\ SqL X.K H1 a xs /\ R (Itm X.K a xs) H1) = (fun x H1 => tNil σ H1 fun xs H2 => ∃ a ys, x :: xs = [V.ref a] /\ SqL X.K H2 a ys /\ R (Itm X.K a ys) H2) := by
      funext x H1
      simp [tNil]
    rw [<- this]
    exact h
  . obtain ⟨a, xs, rfl, hq, q⟩ := q1
    cases r1 with
    | cons r rr =>
      cases rr
      cases r
      obtain ⟨its, rv, p, hz⟩ := I1.list hq
      have pt : s1.heap.IsList a its.toArray := p.isList
      obtain ⟨oa, hoa, _⟩ := id pt
      have ha := Heap.lt_size hoa
      refine call_enumerate_list pt fun h' he' hit' hsz hk => ?_
      refine wpAny_pyIter_enum (s := { s1 with heap := h' }) he' ?_
      have I2 : Inv X pins σ H1 { s1 with heap := h' } := I1.kept (t' := s1.toks) hk
      refine ⟨s1.heap.objs.size + 1, [s1.heap.objs.size + 1, s1.heap.objs.size], _, _, H1, rfl, I2, turn_enumL a (s1.heap.objs.size + 1) s1.heap.objs.size (Nat.succ_ne_self _) (Nat.ne_of_lt ha) (Nat.ne_of_lt (Nat.lt_succ_of_lt ha)) xs, ⟨_, he', hit'⟩, fun b hb => ?_, q⟩
      have hle : s1.heap.objs.size <= b := by
        rcases List.mem_cons.mp hb with rfl | hb
        . omega
        . rw [List.mem_singleton.mp hb]; exact Nat.le_refl _
      exact I1.fpOk hle (I1.hok.fresh hle)
theorem forM {K : PySem.W.Frag} {a : Addr} {xs : List V} {g : TG} {tb : TS} {D : Ends} {σ : St} {H : Hp} (Pv : Nat -> St -> Hp -> Prop) (h0 : Pv 0 σ H) (hl : ∀ i σ H, i <= xs.length -> Pv i σ H -> SqL K H a xs)
    (hs : ∀ i v σ H t, xs[i]? = some v -> Pv i σ H -> H t = none -> g (.ref t) σ (upd H t (.tup [.int i, v])) fun σ2 H2 => tb { D with nx := Pv (i + 1), ct := Pv (i + 1), bk := D.nx } σ2 H2) (hd : ∀ σ H, Pv xs.length σ H -> D.nx σ H) : ForW (Itm K a xs) g tb D σ H := by
  refine ⟨fun i m σ H => m = xs.length - i /\ i <= xs.length /\ Pv i σ H, ⟨xs.length, by simp, Nat.zero_le _, h0⟩, ?_⟩
  rintro i m σ H ⟨rfl, hi, p⟩
  by_cases hlt : i < xs.length
  . refine .inr ⟨⟨hlt, hl i σ H hi p⟩, Pv (i + 1), fun σ' H' p' => ⟨xs.length - (i + 1), by omega, rfl, hlt, p'⟩, fun x H' y => ?_⟩
    obtain ⟨t, v, hn, hv, rfl, rfl⟩ := y
    exact hs i v σ H t hv p hn
  . have e : i = xs.length := by omega
    subst e
    exact .inl ⟨⟨rfl, hl _ σ H hi p⟩, hd σ H p⟩
end L2
namespace L2
open PySem PySem.Spec PyProof.Rows
theorem r_pop {x : V} {vs : List V} {H : Hp} {Q : VK} : rPop x vs H Q = ∃ l xs y, x = .ref l /\ vs = [] /\ H l = some (.lst xs) /\ xs[xs.length - 1]? = some y /\ Q y (upd H l (.lst xs.dropLast)) := rfl
def rng (i j : Int) : List Int := (List.range (j - i).toNat).map fun k : Nat => i + (k : Int)
end L2
namespace GW
open L2
theorem ups_nodup (n : Nat) : (ups n).Nodup := by
  unfold ups
  exact List.Pairwise.map (R := (· ≠ ·)) _ (fun a b hab z => hab (by omega)) List.nodup_range
theorem ups_mem {n : Nat} {x : Int} : x ∈ ups n ↔ 0 <= x /\ x < (n : Int) := by
  unfold ups
  rw [List.mem_map]
  constructor
  . rintro ⟨r, hr, rfl⟩
    have := List.mem_range.mp hr
    omega
  . exact fun h => ⟨x.toNat, List.mem_range.mpr (by omega), by omega⟩
theorem ups_len (n : Nat) : (ups n).length = n := by simp [ups]
end GW
namespace GW
end GW
namespace GW
open L2
end GW
namespace L2
open PySem PySem.Spec PyProof.Rows GW
end L2
namespace L2
end L2
namespace L2
end L2
namespace L2
open PySem PySem.Spec PyProof.Rows GW
end L2
namespace GW
end GW
namespace GW
open L2
end GW
set_option Elab.async false
set_option linter.all false
set_option maxRecDepth 100000
set_option maxHeartbeats 4000000
namespace GW
open L2
end GW
set_option Elab.async false
set_option linter.all false
set_option maxRecDepth 100000
set_option maxHeartbeats 4000000
namespace PySem
open Sem (wp)
section
variable {prog : Program} {w : World} {A : Around} {E : Value -> Shared -> Prop} {s : Shared} {d it : Addr} {es : Array DictEntry} {i ep : Nat}
end
end PySem
namespace L2
open PySem PySem.Spec PyProof.Rows
theorem paired_get {α β : Type} {F : α -> β -> Prop} : ∀ {l : List α} {m : List β} {i : Nat} {a : α}, Paired F l m -> l[i]? = some a -> ∃ b, m[i]? = some b /\ F a b
  | _, _, _, _, .nil, e => by simp at e
  | _, _, 0, _, .cons r _, e => by simp at e; subst e; exact ⟨_, rfl, r⟩
  | _, _, i + 1, a, .cons _ t, e => by
    obtain ⟨b, h1, h2⟩ := paired_get (i := i) (a := a) t (by simpa using e)
    exact ⟨b, by simpa using h1, h2⟩
section
variable {X : Cx} {pins : List (Addr × Obj)} {σ : St} {H : Hp} {s : Shared} {a : Addr}
end
end L2
namespace HT
open PySem PyProof.Rows
inductive LtD (A : Around) (s : Shared) : List Value -> List Value -> Bool -> Prop
  | eq {v w : Value} {vs ws : List Value} {b : Bool} : SeqAt.EqAt A s v w true -> LtD A s vs ws b -> LtD A s (v :: vs) (w :: ws) b
  | ne {v w : Value} {vs ws : List Value} {b : Bool} : SeqAt.EqAt A s v w false -> (∀ (prog : Program) (wd : World) (E : Value -> Shared -> Prop) (Q : Value -> Shared -> Prop), Q (.bool b) s -> wpAny (model prog wd) A (richCompare .Lt v w) Q E s) -> LtD A s (v :: vs) (w :: ws) b
section
open PySem.SeqAt
open PySem.AutoSeq1 (wpAny_loadPart')
open PySem.MeetsSeq PySem.MeetsSeq2 PySem.MeetsSeq3
theorem tuple_lt_d (l b : Addr) (items items2 : Array Value) (n n2 : Nat) (dd dd2 : Option Addr) (sl sl2 : Array (Option Value)) (r : Bool) :
    Meets (Builtin.«tuple.__lt__» ⟨[.ref l, .ref b], []⟩)
      (fun A R s => s.heap.get? l = some { cls := .type "tuple", dict := dd, data := .seq items n, slots := sl } /\ s.heap.get? b = some { cls := .type "tuple", dict := dd2, data := .seq items2 n2, slots := sl2 } /\
        LtD A.in1 s items.toList items2.toList r /\ R (.ok (.ret (.bool r))) s) :=
  .of_wp fun prog w A R s h => by
    obtain ⟨hp, g, d, tk, os⟩ := s; obtain ⟨hl, hb, hg, h⟩ := h
    have f2 := AutoSeq1.sub_tuple_tuple
    wp_walk using wpAny_loadPart' hl, wpAny_loadPart' hb, wpAny_forIn_list _ (fun rest b s' => b.1 = none /\ s' = ⟨hp, g, d, tk, os⟩ /\ ∃ (vs ws : List Value), rest = vs.zip ws /\ LtD A.in1 ⟨hp, g, d, tk, os⟩ vs ws r) _
    case turn =>
      rintro ⟨y, x⟩ rest b s' ⟨hb', rfl, vs, ws, hz, hgd⟩
      cases hgd with
      | eq he hgd' =>
        rw [List.zip_cons_cons] at hz
        injection hz with hyx hrest
        injection hyx with hy hx
        subst hy hx
        refine wpAny_bind (he prog w _ _ ?_)
        wp_walk
        exact ⟨rfl, rfl, _, _, hrest, hgd'⟩
      | ne he hrc =>
        rw [List.zip_cons_cons] at hz
        injection hz with hyx hrest
        injection hyx with hy hx
        subst hy hx
        refine wpAny_bind (he prog w _ _ ?_)
        have hri := hrc prog w
        wp_walk using hri
        exact ⟨_, rfl, h⟩
    case fin =>
      rintro ⟨b1, b2⟩ s' ⟨hb', rfl, vs, ws, hz, hgd⟩
      cases hgd with
      | eq he hgd' => rw [List.zip_cons_cons] at hz; cases hz
      | ne he hrc => rw [List.zip_cons_cons] at hz; cases hz
    case h =>
      exact ⟨rfl, rfl, items.toList, items2.toList, rfl, hg⟩
end
theorem lt_tupD {A : Around} {s : Shared} {l b : Addr} {items items2 : Array Value} {r : Bool} (hl : IsTup s.heap l items) (hb : IsTup s.heap b items2) (hg : LtD A.in1 s items.toList items2.toList r) (hu : A.units < cLine)
    (prog : Program) (w : World) (E Q : Value -> Shared -> Prop) (h : Q (.bool r) s) : wpAny (model prog w) A (richCompare .Lt (.ref l) (.ref b)) Q E s := by
  obtain ⟨⟨cls, dd, data, sl⟩, ho, hc, n, hd⟩ := id hl
  obtain ⟨⟨cls2, dd2, data2, sl2⟩, ho2, hc2, n2, hd2⟩ := id hb
  simp only at hc hd hc2 hd2
  subst hc hd hc2 hd2
  exact richCompare_meets_room (op := .Lt) ⟨_, ho, rfl⟩ ⟨_, ho2, rfl⟩ PySem.F.slot_tuple_lt PySem.F.entry_tuple_lt (PySem.F.args_tuple_lt_2 _ _) (tuple_lt_d l b items items2 n n2 dd dd2 sl sl2 r)
    ⟨ho, ho2, hg, show Value.bool r ≠ Value.notImplemented /\ Q (.bool r) s from ⟨(fun x => nomatch x), h⟩⟩ hu
theorem rcLt_intD (A : Around) (s : Shared) (a : Int) (t : Tok) (c : Int) (u : Tok) (prog : Program) (w : World) (E : Value -> Shared -> Prop) (Q : Value -> Shared -> Prop) (h : Q (.bool (decide (a < c))) s) :
    wpAny (model prog w) A (richCompare .Lt (.int a t) (.int c u)) Q E s :=
  (PyProof.Rows.lt_int h : wpAny (model prog w) A (compareOp .Lt (.int a t) (.int c u)) Q E s)
theorem LtD.ints {A : Around} {s : Shared} : ∀ {vs ws : List Value} {ns ms : List Int}, IntsAre vs ns -> IntsAre ws ms -> ns.length = ms.length -> ns ≠ ms -> LtD A s vs ws (lexLt ns ms) := by
  intro vs ws ns ms h1
  induction h1 generalizing ws ms with
  | nil => intro h2 hl hx; cases h2 with
    | nil => exact absurd rfl hx
    | cons => cases hl
  | cons a t h1' ih => intro h2 hl hx; cases h2 with
    | nil => cases hl
    | cons c u h2' =>
      rw [lexLt_cons]
      obtain ⟨e, he, hiff⟩ := eqAt_int A s a t c u
      cases e with
      | true =>
        have hac := hiff.mp rfl
        rw [if_pos hac]
        exact .eq he (ih h2' (by simpa using hl) (fun z => hx (by rw [hac, z])))
      | false =>
        rw [if_neg (fun q => absurd (hiff.mpr q) Bool.false_ne_true)]
        exact .ne he fun prog w E Q hq => rcLt_intD A s a t c u prog w E Q hq
end HT
namespace L2
open PySem PySem.Spec PyProof.Rows
end L2
set_option Elab.async false
set_option linter.all false
set_option maxRecDepth 100000
set_option maxHeartbeats 4000000
namespace GB
open GW
variable {α : Type} [DecidableEq α]
def walkF (step : α -> Int -> α) (a : α) (ws : List Int) : α := ws.foldl step a
def put (step : α -> Int -> α) (r : α) (w : List Int) (ents : List (α × List Int)) (x : Nat) : List (α × List Int) := if step r x ∈ ents.map (·.1) then ents else ents ++ [(step r x, w ++ [(x : Int)])]
structure B (L : Int) (step : α -> Int -> α) (st : α) (ok : α -> Prop) (ents : List (α × List Int)) (i : Nat) (top : Int) : Prop where
  hd : ents[0]? = some (st, [])
  il : i <= ents.length
  sh : ∀ (j : Nat) (e : α × List Int), ents[j]? = some e -> e.2.length <= j
  nod : (ents.map (·.1)).Nodup
  rng : ∀ e ∈ ents, ok e.1
  wd : ∀ e ∈ ents, isW L e.2 = true /\ walkF step st e.2 = e.1
  inc : ∀ (j k : Nat) (a b : α × List Int), j < k -> ents[j]? = some a -> ents[k]? = some b -> place L a.2 < place L b.2
  bnd : ∀ e ∈ ents, place L e.2 < top
  don : ∀ j, j < i -> ∀ e, ents[j]? = some e -> ∀ x : Int, 0 <= x -> x < L -> ∃ e' ∈ ents, e'.1 = step e.1 x /\ place L e'.2 <= place L (e.2 ++ [x])
variable {L : Int} {step : α -> Int -> α} {st : α} {ok : α -> Prop} {ents : List (α × List Int)} {i : Nat} {top : Int}
def walkR (ways : List (List Int)) (r : Int) (ws : List Int) : Int := ws.foldl (stepW ways) r
theorem walkR_cons (ways : List (List Int)) (r x : Int) (ws : List Int) : walkR ways r (x :: ws) = walkR ways (stepW ways r x) ws := rfl
theorem walkR_snoc (ways : List (List Int)) (r x : Int) (ws : List Int) : walkR ways r (ws ++ [x]) = stepW ways (walkR ways r ws) x := by
  unfold walkR
  rw [List.foldl_append]; rfl
theorem walkR_take {ways : List (List Int)} {ws : List Int} {i : Nat} {x r : Int} (h : ws[i]? = some x) : walkR ways r (ws.take (i + 1)) = stepW ways (walkR ways r (ws.take i)) x := by
  rw [List.take_add_one, h]
  exact walkR_snoc _ _ _ _
theorem walkR_in {L : Int} {marks : List Int} {ways : List (List Int)} (wf : Wf L marks ways) : ∀ (ws : List Int) {r : Int}, isW L ws = true -> 0 <= r -> r < marks.length -> 0 <= walkR ways r ws /\ walkR ways r ws < marks.length
  | [], r, _, h0, h1 => ⟨h0, h1⟩
  | x :: ws, r, hv, h0, h1 => by
    have hx := isW_iff.mp hv x List.mem_cons_self
    obtain ⟨_, g, _, _, h, g0, g1⟩ := wf.step h0 h1 hx.1 hx.2
    rw [walkR_cons, h]
    exact walkR_in wf ws (isW_iff.mpr fun y hy => isW_iff.mp hv y (List.mem_cons_of_mem _ hy)) g0 g1
end GB
namespace L2
open PySem PySem.Spec PyProof.Rows GW GB
def TK (H H' : Hp) : Prop := ∀ b xs, H b = some (.tup xs) -> H' b = some (.tup xs)
theorem TK.of {H H' : Hp} (s : Same H H') : TK H H' := fun b xs h => s b _ h
theorem TK.new {H : Hp} {p : Addr} {o : HO} (h : H p = none) : TK H (upd H p o) := TK.of (Same.new h)
theorem TK.lst {H : Hp} {p : Addr} {o : HO} {xs : List V} (h : H p = some (.lst xs)) : TK H (upd H p o) := fun b ys e => by rw [upd_ne (fun z => by rw [z, h] at e; cases e)]; exact e
end L2
namespace L2
end L2
namespace GB
open GW
end GB
set_option Elab.async false
set_option linter.all false
set_option maxRecDepth 100000
set_option maxHeartbeats 4000000
namespace GB
open GW
theorem isW_take {L : Int} {w : List Int} (h : isW L w = true) (j : Nat) : isW L (w.take j) = true := isW_iff.mpr fun x hx => isW_iff.mp h x (List.mem_of_mem_take hx)
end GB
namespace L2
open GW
end L2
namespace L2
open PySem PySem.Spec PyProof.Rows GW
def LLs (H0 H : Hp) (xs : List V) (ws : List (List Int)) : Prop := ∃ ts : List Addr, xs = ts.map V.ref /\ ts.length = ws.length /\ ts.Nodup /\ (∀ (i : Nat) (t : Addr) (w : List Int), ts[i]? = some t -> ws[i]? = some w -> H t = some (.lst (w.map V.int))) /\ ∀ t ∈ ts, H0 t = none
theorem LLs.nil (H0 H : Hp) : LLs H0 H [] [] := ⟨[], rfl, rfl, List.nodup_nil, fun i t w h => by simp at h, fun t h => by simp at h⟩
theorem LLs.mono {H0 H H' : Hp} {xs : List V} {ws : List (List Int)} (h : LLs H0 H xs ws) (s : Same H H') : LLs H0 H' xs ws := by
  obtain ⟨ts, a, b, c, d, e⟩ := h
  exact ⟨ts, a, b, c, fun i t w h1 h2 => s _ _ (d i t w h1 h2), e⟩
theorem LLs.len {H0 H : Hp} {xs : List V} {ws : List (List Int)} (h : LLs H0 H xs ws) : xs.length = ws.length := by
  obtain ⟨ts, a, b, _⟩ := h
  rw [a, List.length_map, b]
theorem LLs.snoc {H0 H : Hp} {xs : List V} {ws : List (List Int)} {p : Addr} {w : List Int} (h : LLs H0 H xs ws) (h0 : H0 p = none) (hp : H p = none) : LLs H0 (upd H p (.lst (w.map V.int))) (xs ++ [.ref p]) (ws ++ [w]) := by
  obtain ⟨ts, a, b, c, d, e⟩ := h
  have hts : ∀ t ∈ ts, t ≠ p := fun t ht z => by
    obtain ⟨i, hi, ei⟩ := List.getElem_of_mem ht
    have := d i t ws[i] (by rw [List.getElem?_eq_getElem hi, ei]) (by simp [show i < ws.length by omega])
    rw [z, hp] at this; cases this
  refine ⟨ts ++ [p], by rw [a]; simp, by simp [b], ?_, fun i t v h1 h2 => ?_, fun t ht => ?_⟩
  . rw [List.nodup_append]
    refine ⟨c, by simp, fun x hx y hy => ?_⟩
    simp at hy; subst hy; exact hts x hx
  . by_cases hi : i < ts.length
    . rw [List.getElem?_append_left hi] at h1
      rw [List.getElem?_append_left (by omega)] at h2
      rw [upd_ne (hts t (List.mem_of_getElem? h1))]
      exact d i t v h1 h2
    . have := (List.getElem?_eq_some_iff.mp h1).1
      rw [List.length_append, List.length_singleton] at this
      have ei : i = ts.length := by omega
      subst ei
      rw [List.getElem?_append_right (Nat.le_refl _), Nat.sub_self] at h1
      rw [b, List.getElem?_append_right (Nat.le_refl _), Nat.sub_self] at h2
      simp at h1 h2
      subst h1 h2
      exact upd_same
  . rcases List.mem_append.mp ht with ht | ht
    . exact e t ht
    . rw [List.mem_singleton.mp ht]; exact h0
theorem LLs.at {H0 H : Hp} {xs : List V} {ws : List (List Int)} (h : LLs H0 H xs ws) {i : Nat} {w : List Int} (hw : ws[i]? = some w) : ∃ t, xs[i]? = some (.ref t) /\ H t = some (.lst (w.map V.int)) /\ H0 t = none /\ ∀ j x, LLs H0 (upd H t (.lst ((w.set j x).map V.int))) xs (ws.set i (w.set j x)) := by
  obtain ⟨ts, a, b, c, d, e⟩ := h
  have hi : i < ts.length := by rw [b]; exact (List.getElem?_eq_some_iff.mp hw).1
  have ht : ts[i]? = some ts[i] := by simp [hi]
  refine ⟨ts[i], by rw [a, List.getElem?_map, ht]; rfl, d i _ w ht hw, e _ (List.getElem_mem hi), fun j x => ⟨ts, a, by rw [List.length_set]; exact b, c, fun k t v h1 h2 => ?_, e⟩⟩
  by_cases hk : k = i
  . subst hk
    rw [ht] at h1; cases h1
    rw [List.getElem?_set_self (by omega)] at h2; cases h2
    exact upd_same
  . have hne : t ≠ ts[i] := fun z => hk (by
      have hk' := (List.getElem?_eq_some_iff.mp h1).1
      refine (List.getElem_inj (h₀ := hk') (h₁ := hi) c).mp ?_
      rw [<- z]
      exact (List.getElem?_eq_some_iff.mp h1).2)
    rw [List.getElem?_set_ne (Ne.symm hk)] at h2
    rw [upd_ne hne]
    exact d k t v h1 h2
theorem Same.none {H H' : Hp} (s : Same H H') {p : Addr} (h : H' p = none) : H p = none := by
  cases e : H p with
  | none => rfl
  | some u => rw [s _ _ e] at h; cases h
end L2
namespace GW
end GW
namespace L2
open PySem GW
theorem LLs.off {H0 H : Hp} {xs : List V} {ws : List (List Int)} {p : Addr} {o u : HO} (h : LLs H0 H xs ws) (hp : H0 p = some u) : LLs H0 (upd H p o) xs ws := by
  obtain ⟨ts, a, b, c, d, e⟩ := h
  refine ⟨ts, a, b, c, fun i t w h1 h2 => ?_, e⟩
  rw [upd_ne (fun z => by have := e t (List.mem_of_getElem? h1); rw [z, hp] at this; cases this)]
  exact d i t w h1 h2
end L2
set_option Elab.async false
set_option linter.all false
set_option maxRecDepth 100000
set_option maxHeartbeats 4000000
namespace L2
open PySem PySem.Spec PyProof.Rows
section
variable {X : Cx} {pins : List (Addr × Obj)} {σ : St} {H : Hp} {s : Shared} {sc : Scope} {fp : List Addr}
end
section
variable {X : Cx} {tg iter elt : Expr} {ifs : List Expr} {sc : Scope} {pos : Pos} {wi : TI} {cp : Caps} {g : TG} {tc : TT} {te : TE}
end
end L2
namespace L2
open PySem PySem.Spec PyProof.Rows GW GB
end L2
namespace GB
open GW
end GB
set_option Elab.async false
set_option linter.all false
set_option maxRecDepth 100000
set_option maxHeartbeats 4000000
namespace L2
open PySem PySem.Spec PyProof.Rows GW
theorem rCatT2.ofS {K : PySem.W.Frag} {H : Hp} {Q : VK} {a b : Addr} {xs ys : List V} (ha : H a = some (.tup xs)) (hb : H b = some (.tup ys)) (hz : xs.length + ys.length <= sizeLine) (h : ∀ p H', Same H H' -> H' p = some (.tup (xs ++ ys)) -> Q (.ref p) H') : rCatT2 K (.ref a) (.ref b) H Q := by
  refine ⟨a, b, xs, ys, rfl, rfl, SqT.of ha, SqT.of hb, hz, fun e => ?_, fun _ e => ?_, fun _ _ p hp => h p _ (Same.new hp) upd_same⟩
  . subst e; exact h b H (Same.refl _) (by simpa using hb)
  . subst e; exact h a H (Same.refl _) (by simpa using ha)
end L2
namespace L2
open PySem PySem.Spec PyProof.Rows GW
theorem Inv.unL {X : Cx} {pins : List (Addr × Obj)} {σ : St} {H : Hp} {s : Shared} {h' : Heap} {fp : List Addr} (I : Inv X pins σ H s) (k : ∀ b o, b ∉ fp -> s.heap.get? b = some o -> h'.get? b = some o) (f : ∀ b ∈ fp, FpOk X pins H b) : Un (frs X.stack) fp H H s.heap h' /\ HOk X.prog X.w H h' := by
  have ne : ∀ b u, H b = some u -> b ∉ fp := fun b u q hb => by rw [(f b hb).1] at q; cases q
  refine ⟨⟨fun b o q _ _ hb => k b o hb q, fun b o q _ _ hb => ⟨o.slots, k b o hb q⟩, fun _ _ _ n _ => n, fun b o q hb => ⟨o, k b o hb q⟩, fun _ _ q => q, fun _ _ _ q => q, fun b ps q => ⟨#[], by rw [q]; simp⟩⟩, fun b u q => ?_⟩
  refine (I.hok b u q).stay (fun c v hc qv => ?_) (fun _ q => q) fun _ _ q => q
  have hne : c ∉ fp := by
    rcases hc with rfl | hc
    . exact ne _ _ q
    . exact ne _ _ hc
  exact k c v hne qv
end L2
namespace GW
def ins (s : List (List Int)) (w : List Int) : List (List Int) := if w ∈ s then s else s ++ [w]
end GW
namespace L2
open PySem PySem.Spec PyProof.Rows GW
def wkey (w : List Int) : List Key := w.map Sum.inl
end L2
set_option Elab.async false
set_option linter.all false
set_option maxRecDepth 100000
set_option maxHeartbeats 4000000
namespace L2
open PySem PySem.Spec PyProof.Rows
section
variable {M : Model} {A : Around} {E : Value -> Shared -> Prop} {s : Shared}
end
section
variable {X : Cx} {N : List Str} {sc : Scope} {C : Addr} {s₀ : Shared} {H₀ : Hp} {ex : List Addr} {xe : Value -> Shared -> Prop} {pins : List (Addr × Obj)} {σ : St} {H : Hp} {s : Shared}
end
section
variable {X : Cx} {tg iter elt : Expr} {ifs : List Expr} {sc : Scope} {pos : Pos} {wi : TI} {cp : Caps} {g : TG} {tc : TT} {te : TE}
end
end L2
set_option Elab.async false
set_option linter.all false
set_option maxRecDepth 100000
set_option maxHeartbeats 4000000
namespace PySem.W
open PySem PySem.Calls PyProof.Rows PyProof.V PySem.Spec
section
variable {prog : Program} {w : World} {A : Around} {E : Value -> Shared -> Prop} {s : Shared}
end
section
variable {prog : Program} {w : World} {A : Around} {E : Value -> Shared -> Prop} {s : Shared} {r d : Addr} {es : Array DictEntry} {ep : Nat} {od : Obj}
end
end PySem.W
set_option Elab.async false
set_option linter.all false
set_option maxRecDepth 100000
set_option maxHeartbeats 4000000
namespace L2
open PySem PySem.Spec PyProof.Rows
end L2
set_option Elab.async false
set_option linter.all false
set_option maxRecDepth 100000
set_option maxHeartbeats 4000000
namespace L2
open PySem PySem.Spec PyProof.Rows
section
variable {K : PySem.W.Frag} {ta tv td ty tx : TE} {t : TA} {f m : Str} {σ : St} {H : Hp} {Q : VK} {D : Ends} {C : Addr} {sp : Sp} {dvs : List V} {E : XK}
end
def ents (es : List (List Int × Int)) : List (List Key × V) := es.map fun e => (wkey e.1, V.int e.2)
end L2
set_option Elab.async false
set_option linter.all false
set_option maxRecDepth 100000
set_option maxHeartbeats 4000000
namespace L2
open PySem PySem.Spec PyProof.Rows
end L2
set_option Elab.async false
set_option linter.all false
set_option maxRecDepth 100000
set_option maxHeartbeats 4000000
namespace L2
open PySem PySem.W PySem.Spec PySem.Calls PyProof.Rows
end L2
set_option linter.all false
namespace PrimeO
def NoDiv (p : Nat) : Prop := ∀ d, 2 <= d -> d < p -> p % d ≠ 0
def Pr (p : Int) : Prop := 2 <= p /\ p < 1000000000000000000 /\ NoDiv p.toNat
end PrimeO
set_option Elab.async false
set_option linter.all false
set_option maxRecDepth 100000
set_option maxHeartbeats 4000000
namespace L2
open PySem PySem.Spec PyProof.Rows
section
variable {X : Cx} {CX CX' : CXT} {k k' : Nat} {f f' : Addr} {fd fd' : FuncData} {ps ps' : List Str} {sp sp' : Sp} {dvs dvs' : List V} {ds ds' : List Value} {x : Str} {p pos : Pos} {e : Expr} {es : List Expr} {t : TA}
end
end L2
set_option Elab.async false
set_option linter.all false
set_option maxRecDepth 100000
set_option maxHeartbeats 4000000
namespace PySem
open Sem (wp)
open PySem.F
def SqAny (t : Bool) (h : Heap) (l : Addr) (xs : Array Value) : Prop := match t with | false => h.IsList l xs | true => h.IsTuple l xs
def ItAny (t : Bool) (h : Heap) (i l : Addr) (k : Nat) : Prop := match t with | false => h.IsListIter i l k | true => h.IsTupleIter i l k
theorem SqAny.extBut {t : Bool} {h h' : Heap} {a b items} (x : SqAny t h a items) (hs : Heap.ExtBut b h h') (hab : a ≠ b) : SqAny t h' a items := by
  cases t
  . exact Heap.IsList.extBut x hs hab
  . exact Heap.IsTuple.extBut x hs hab
theorem SqAny.push {t : Bool} {h : Heap} {a items} (x : SqAny t h a items) (o : Obj) : SqAny t (h.push o) a items := by
  cases t
  . exact Heap.IsList.push x o
  . exact Heap.IsTuple.push x o
theorem SqAny.lt {t : Bool} {h : Heap} {a items} (x : SqAny t h a items) : a < h.objs.size := by
  cases t
  . obtain ⟨_, e, _⟩ := x; exact Heap.lt_size e
  . obtain ⟨_, e, _⟩ := x; exact Heap.lt_size e
theorem ItAny.extBut {t : Bool} {h h' : Heap} {a b l i} (x : ItAny t h a l i) (hs : Heap.ExtBut b h h') (hab : a ≠ b) : ItAny t h' a l i := by
  cases t
  . exact Heap.IsListIter.extBut x hs hab
  . exact Heap.IsTupleIter.extBut x hs hab
theorem ItAny.at {t : Bool} {h h' : Heap} {a l i} (x : ItAny t h a l i) (e : ∀ o, h.get? a = some o -> h'.get? a = some o) : ItAny t h' a l i := by
  cases t
  . exact Heap.IsListIter.at x e
  . exact Heap.IsTupleIter.at x e
theorem ItAny.ob {t : Bool} {h : Heap} {a l i} (x : ItAny t h a l i) : ∃ o, h.get? a = some o /\ o.data = .fields #[.ref l, .int i 0] := by
  cases t
  . obtain ⟨o, e, _, d⟩ := x; exact ⟨o, e, d⟩
  . obtain ⟨o, e, _, d⟩ := x; exact ⟨o, e, d⟩
section
variable {prog : Program} {w : World} {A : Around} {E : Value -> Shared -> Prop} {s : Shared}
theorem nextAny {t : Bool} {it l : Addr} {i : Nat} {items : Array Value} {Q : Value -> Shared -> Prop} (hit : ItAny t s.heap it l i) (hl : SqAny t s.heap l items)
    (hQ : ∀ x h', items[i]? = some x -> ItAny t h' it l (i + 1) -> Heap.SameBut it s.heap h' -> Q x { s with heap := h' })
    (hE : items[i]? = none -> A.handled = none /\ ∀ h' e, Heap.ExtBut it s.heap h' -> (∃ o, h'.get? e = some o /\ o.cls = .type "StopIteration") -> E (.ref e) { s with heap := h' }) : wpAny (model prog w) A (Builtin.SmallTypes.nextOf (.ref it)) Q E s := by
  cases t
  . cases hx : items[i]? with
    | some x => exact wpAny_nextOf_list_item hit hl hx fun h' => hQ x h' hx
    | none => exact wpAny_nextOf_list_end (hE hx).1 hit hl hx (hE hx).2
  . exact nextOf_tup hit hl hQ hE
def itCls (t : Bool) : Value := match t with | false => .type "list_iterator" | true => .type "tuple_iterator"
theorem ItAny.mk {t : Bool} {h : Heap} {a l : Addr} (g : h.get? a = some { cls := itCls t, data := .fields #[.ref l, .int 0 0] }) : ItAny t h a l 0 := by
  cases t
  . exact ⟨_, g, rfl, rfl⟩
  . exact ⟨_, g, rfl, rfl⟩
theorem wpAny_pyIter_any {t : Bool} {l : Addr} {items} {Q : Value -> Shared -> Prop} (hl : SqAny t s.heap l items)
    (hQ : Q (.ref s.heap.objs.size) { s with heap := s.heap.push { cls := itCls t, data := .fields #[.ref l, .int 0 0] } }) : wpAny (model prog w) A (pyIter (.ref l)) Q E s := by
  cases t
  . exact wpAny_pyIter_list hl hQ
  . exact wpAny_pyIter_tuple hl hQ
end
section
variable {prog : Program} {w : World} {A : Around} {E : Value -> Shared -> Prop} {s : Shared}
theorem pyIterA {t : Bool} {l : Addr} {items} {Q : Value -> Shared -> Prop} (hl : SqAny t s.heap l items) (h : ∀ h', s.heap.push { cls := itCls t, data := .fields #[.ref l, .int 0 0] } = h' -> Q (.ref s.heap.objs.size) { s with heap := h' }) : wpAny (model prog w) A (pyIter (.ref l)) Q E s := wpAny_pyIter_any hl (h _ rfl)
theorem zipN {t1 t2 : Bool} {z TI TO i1 i2 l1 l2 : Addr} {k1 k2 : Nat} {xs ys : Array Value} {a b : Value} {Q : Option Value -> Shared -> Prop} (D : ZipApart z TI TO i1 i2 l1 l2) (hz : IsZip s.heap z TI TO .none) (hTI : IsPair s.heap TI (.ref i1) (.ref i2)) (hTO : IsPair s.heap TO a b)
    (h1 : ItAny t1 s.heap i1 l1 k1) (h2 : ItAny t2 s.heap i2 l2 k2) (hl1 : SqAny t1 s.heap l1 xs) (hl2 : SqAny t2 s.heap l2 ys)
    (hQ : ∀ x y h', xs[k1]? = some x -> ys[k2]? = some y -> IsZip h' z TI TO (rawInt s.heap.objs.size) -> IsPair h' TO x y -> ItAny t1 h' i1 l1 (k1 + 1) -> ItAny t2 h' i2 l2 (k2 + 1) -> IsPair h' s.heap.objs.size x y -> h'.objs.size = s.heap.objs.size + 1 -> (∀ c o, c ≠ z -> c ≠ TO -> c ≠ i1 -> c ≠ i2 -> s.heap.get? c = some o -> h'.get? c = some o) -> Q (some (.ref s.heap.objs.size)) { s with heap := h' })
    (hN : xs[k1]? = none \/ ys[k2]? = none -> A.handled = none /\ ∀ h', (∀ c o, c ≠ z -> c ≠ TO -> c ≠ i1 -> c ≠ i2 -> s.heap.get? c = some o -> h'.get? c = some o) -> Q none { s with heap := h' }) : wpAny (model prog w) A (pyNext (.ref z)) Q E s := by
  have hT : s.TypeIs (.ref z) "zip" := ⟨_, hz, rfl⟩
  have e1 := F.slot_zip_next
  unfold pyNext
  refine wpAny_bind (wpAny_attempt (wpAny_callSpecial?_slot hT e1 (wpAny_call_entry e1 hT F.entry_zip_next ?_ (F.args_zip_next_1 _))))
  wp_walk using wpAny_setField_rec hz
  . exact Nat.lt_of_sub_eq_succ rfl
  intro u0 g0 k0
  replace g0 : IsZip u0 z TI TO .ellipsis := g0
  have m1 : ItAny t1 u0 i1 l1 k1 := h1.extBut k0.extBut D.i1z
  have m2 : SqAny t1 u0 l1 xs := hl1.extBut k0.extBut D.l1z
  simp only [List.zipIdx_cons, List.zipIdx_nil, List.forIn_cons, List.forIn_nil]
  have stop : ∀ h' (e : Addr), (∀ c o, c ≠ z -> c ≠ TO -> c ≠ i1 -> c ≠ i2 -> s.heap.get? c = some o -> h'.get? c = some o) -> IsZip h' z TI TO .ellipsis -> (∃ o, h'.get? e = some o /\ o.cls = .type "StopIteration") -> xs[k1]? = none \/ ys[k2]? = none ->
      wpAny (model prog w) A.in1 (setField (.ref z) 0 .none) (fun _ s'' => wpAny (model prog w) A (do if <- isInstance (.ref e) (.type "StopIteration") then pure none else throw (.ref e)) Q E s'') (fun e s' => wpAny (model prog w) A (do if <- isInstance e (.type "StopIteration") then pure none else throw e) Q E s') { s with heap := h' } := fun h' e kk hz' he hx => by
    obtain ⟨o, e2, e3⟩ := he
    have n : e ≠ z := fun x => by subst x; rw [hz'] at e2; cases e2; simp at e3
    refine wpAny_setField_rec hz' (Nat.lt_of_sub_eq_succ rfl) fun h2 _ k2 => wpAny_bind (wpAny_isInstance (T := "StopIteration") (b := true) ⟨o, k2.extBut e o n e2, e3⟩ isSubtype_stop (wpAny_pure ((hN hx).2 h2 fun c o n1 n2 n3 n4 q => k2.extBut c o n1 (kk c o n1 n2 n3 n4 q))))
  wp_walk using wpAny_onRaise, nextAny (A := A.in1) (s := { s with heap := u0 }) m1 m2
  . intro x u1 hx m3 k3
    have y0 : IsPair u1 TO a b := k3.extBut TO _ D.TOi1 (k0.extBut TO _ D.TOz hTO)
    wp_walk using wpAny_updateSeq_pair y0
    intro u2 y2 k4
    replace y2 : IsPair u2 TO x b := y2
    have kk : ∀ c o, c ≠ z -> c ≠ TO -> c ≠ i1 -> s.heap.get? c = some o -> u2.get? c = some o := fun c o n1 n2 n3 q => k4.extBut c o n2 (k3.extBut c o n3 (k0.extBut c o n1 q))
    have g2 : IsZip u2 z TI TO .ellipsis := k4.extBut _ _ D.TOz.symm (k3.extBut _ _ D.i1z.symm g0)
    have m4 : ItAny t2 u2 i2 l2 k2 := h2.at fun o q => kk _ o D.i2z D.TOi2.symm D.i12.symm q
    have m5 : SqAny t2 u2 l2 ys := ((hl2.extBut k0.extBut D.l2z).extBut k3.extBut D.l2i1).extBut k4.extBut D.l2TO
    wp_walk using wpAny_onRaise, nextAny (A := A.in1) (s := { s with heap := u2 }) m4 m5
    . intro y u3 hy m6 k5
      have y3 : IsPair u3 TO x b := k5.extBut TO _ D.TOi2 y2
      wp_walk using wpAny_updateSeq_pair y3
      intro u4 y4 k6
      replace y4 : IsPair u4 TO x y := y4
      have g4 : IsZip u4 z TI TO .ellipsis := k6.extBut _ _ D.TOz.symm (k5.extBut _ _ D.i2z.symm g2)
      have zz : u4.objs.size = s.heap.objs.size := k6.1.trans (k5.1.trans (k4.1.trans (k3.1.trans k0.1)))
      wp_walk using newT
      . exact (show 2 <= sizeLine from by decide)
      intro u5 q5
      have kp : ∀ c o, u4.get? c = some o -> u5.get? c = some o := fun c o q => by rw [<- q5]; exact Heap.get?_push_of_some _ q
      have g5 := kp z _ g4
      have y5 : IsPair u5 u4.objs.size x y := by rw [<- q5]; exact Heap.get?_push_size _ rfl
      have z5 : u5.objs.size = u4.objs.size + 1 := by rw [<- q5]; exact Heap.size_push ..
      wp_walk using wpAny_setField_rec g5
      . exact Nat.lt_of_sub_eq_succ rfl
      intro u6 g6 k7
      replace g6 : IsZip u6 z TI TO (rawInt u4.objs.size) := g6
      wp_walk using wpAny_setField_rec g6
      . exact Nat.lt_of_sub_eq_succ rfl
      intro u7 g7 k8
      replace g7 : IsZip u7 z TI TO (rawInt u4.objs.size) := g7
      refine wpAny_pure ⟨_, rfl, wpAny_pure ?_⟩
      show Q (some (Value.ref u4.objs.size)) _
      have up : ∀ c o, c ≠ z -> u4.get? c = some o -> u7.get? c = some o := fun c o n q => k8.extBut c o n (k7.extBut c o n (kp c o q))
      have nz : u4.objs.size ≠ z := Nat.ne_of_gt (Heap.lt_size g4)
      have y7 := k8.extBut _ _ nz (k7.extBut _ _ nz y5)
      rw [zz] at g7 y7 z5 ⊢
      exact hQ x y u7 hx hy g7 (up _ _ D.TOz y4) ((m3.at fun o q => k6.extBut _ o D.TOi1.symm (k5.extBut _ o D.i12 (k4.extBut _ o D.TOi1.symm q))).at fun o q => up _ o D.i1z q) ((m6.at fun o q => k6.extBut _ o D.TOi2.symm q).at fun o q => up _ o D.i2z q) y7 ((k8.1.trans k7.1).trans z5)
        fun c o n1 n2 n3 n4 q => up c o n1 (k6.extBut c o n2 (k5.extBut c o n4 (kk c o n1 n2 n3 q)))
    . refine fun hy => ⟨(hN (.inr hy)).1, fun u3 e k5 he => ?_⟩
      exact stop u3 e (fun c o n1 n2 n3 n4 q => k5 c o n4 (kk c o n1 n2 n3 q)) (k5 z _ D.i2z.symm g2) he (.inr hy)
  . refine fun hx => ⟨(hN (.inl hx)).1, fun u1 e k3 he => ?_⟩
    exact stop u1 e (fun c o n1 n2 n3 n4 q => k3 c o n3 (k0.extBut c o n1 q)) (k3 z _ D.i1z.symm g0) he (.inl hx)
theorem call_zip_2G {t1 t2 : Bool} {l1 l2 : Addr} {xs ys : Array Value} {Q : Value -> Shared -> Prop} (hl1 : SqAny t1 s.heap l1 xs) (hl2 : SqAny t2 s.heap l2 ys)
    (h : ∀ h', IsZip h' (s.heap.objs.size + 4) (s.heap.objs.size + 2) (s.heap.objs.size + 3) .none -> IsPair h' (s.heap.objs.size + 2) (.ref s.heap.objs.size) (.ref (s.heap.objs.size + 1)) -> IsPair h' (s.heap.objs.size + 3) .none .none -> ItAny t1 h' s.heap.objs.size l1 0 -> ItAny t2 h' (s.heap.objs.size + 1) l2 0 -> h'.objs.size = s.heap.objs.size + 5 -> (∀ c o, s.heap.get? c = some o -> h'.get? c = some o) -> Q (.ref (s.heap.objs.size + 4)) { s with heap := h' }) :
    wpAny (model prog w) A (call (.type "zip") [.ref l1, .ref l2]) Q E s := by
  have M : Meets (Builtin.«zip.__new__» ⟨[.type "zip", .ref l1, .ref l2], []⟩) fun _ R t => t = s /\ ∀ h', IsZip h' (s.heap.objs.size + 4) (s.heap.objs.size + 2) (s.heap.objs.size + 3) .none -> IsPair h' (s.heap.objs.size + 2) (.ref s.heap.objs.size) (.ref (s.heap.objs.size + 1)) -> IsPair h' (s.heap.objs.size + 3) .none .none -> ItAny t1 h' s.heap.objs.size l1 0 -> ItAny t2 h' (s.heap.objs.size + 1) l2 0 -> h'.objs.size = s.heap.objs.size + 5 -> (∀ c o, s.heap.get? c = some o -> h'.get? c = some o) -> R (.ok (.ret (.ref (s.heap.objs.size + 4)))) { s with heap := h' } := .of_wp fun prog w A R t ⟨e, q⟩ => by
    subst e
    obtain ⟨hp, g, d, tk, os⟩ := t
    have hsub := sub_zip
    wp_walk using pyIterA hl1
    intro u1 q1
    obtain ⟨a1, b1, c1⟩ := psh q1 rfl
    have hl2' : SqAny t2 u1 l2 ys := by rw [<- q1]; exact SqAny.push hl2 _
    wp_walk using pyIterA (s := ⟨u1, g, d, tk, os⟩) hl2'
    intro u2 q2
    obtain ⟨a2, b2, c2⟩ := psh q2 rfl
    wp_walk using newT
    . exact (show 2 <= sizeLine from by decide)
    intro u3 q3
    obtain ⟨a3, b3, c3⟩ := psh q3 rfl
    wp_walk using newT
    . exact (show 2 <= sizeLine from by decide)
    intro u4 q4
    obtain ⟨a4, b4, c4⟩ := psh q4 rfl
    wp_walk
    refine ⟨_, rfl, ?_⟩
    have Z1 : u1.objs.size = hp.objs.size + 1 := c1
    have Z2 : u2.objs.size = hp.objs.size + 2 := (show u2.objs.size = u1.objs.size + 1 from c2).trans (by rw [Z1])
    have Z3 : u3.objs.size = hp.objs.size + 3 := (show u3.objs.size = u2.objs.size + 1 from c3).trans (by rw [Z2])
    have Z4 : u4.objs.size = hp.objs.size + 4 := (show u4.objs.size = u3.objs.size + 1 from c4).trans (by rw [Z3])
    obtain ⟨a5, b5, c5⟩ := psh (rfl : u4.push { cls := .type "zip", data := .fields #[.none, .bool false, .bool false, .ref u2.objs.size, .ref u3.objs.size] } = _) rfl
    replace b1 : u1.get? hp.objs.size = _ := b1
    replace b2 : u2.get? u1.objs.size = _ := b2
    replace b3 : IsPair u3 u2.objs.size (.ref hp.objs.size) (.ref u1.objs.size) := b3
    replace b4 : IsPair u4 u3.objs.size .none .none := b4
    show R (.ok (.ret (.ref u4.objs.size))) ⟨u4.push { cls := .type "zip", data := .fields #[.none, .bool false, .bool false, .ref u2.objs.size, .ref u3.objs.size] }, g, d, tk, os⟩
    rw [Z1, Z2] at b3
    rw [Z1] at b2
    rw [Z3] at b4
    rw [Z2, Z3, Z4] at b5
    rw [Z2, Z3] at a5 c5 ⊢
    rw [Z4] at c5 ⊢
    exact q _ b5 (a5 _ _ (a4 _ _ b3)) (a5 _ _ b4) (ItAny.mk (a5 _ _ (a4 _ _ (a3 _ _ (a2 _ _ b1))))) (ItAny.mk (a5 _ _ (a4 _ _ (a3 _ _ b2)))) c5 fun c o x => a5 _ _ (a4 _ _ (a3 _ _ (a2 _ _ (a1 _ _ x))))
  exact callType_new F.called_zip (by decide) (F.typeCall_zip_2 _ _) (F.newCall_zip_2 _ _) (fun obj => F.args_object_init_3 obj _ _) F.entry_zip_new M ⟨rfl, fun h' a b c d e f g => ⟨⟨_, a, rfl⟩, h h' a b c d e f g⟩⟩
end
end PySem
set_option Elab.async false
set_option linter.all false
set_option maxRecDepth 100000
set_option maxHeartbeats 4000000
namespace PySem
section
variable {prog : Program} {w : World} {A : Around} {E : Value -> Shared -> Prop} {s : Shared}
end
section
variable {prog : Program} {w : World} {s : Shared}
end
end PySem
set_option Elab.async false
set_option linter.all false
set_option maxRecDepth 100000
set_option maxHeartbeats 4000000
namespace L2
open PySem PySem.Spec PyProof.Rows GW
def SqB (K : PySem.W.Frag) (H : Hp) (t : Bool) (a : Addr) (xs : List V) : Prop := match t with | false => SqL K H a xs | true => SqT K H a xs
theorem SqB.mono {K : PySem.W.Frag} {H H' : Hp} {t : Bool} {a : Addr} {xs : List V} (h : SqB K H t a xs) (s : Same H H') : SqB K H' t a xs := by
  cases t
  . exact s.seq h
  . exact s.seqT h
theorem Inv.seqB {X : Cx} {pins : List (Addr × Obj)} {σ : St} {H : Hp} {s : Shared} {t : Bool} {a : Addr} {xs : List V} (I : Inv X pins σ H s) (h : SqB X.K H t a xs) : ∃ its : List Value, Vals xs its /\ SqAny t s.heap a its.toArray := by
  cases t
  . obtain ⟨its, r, p, _⟩ := I.list h
    exact ⟨its, r, p.isList⟩
  . obtain ⟨its, r, p, _⟩ := I.tuple h
    exact ⟨its, r, p⟩
def Itz2 (K : PySem.W.Frag) (t1 t2 : Bool) (a b : Addr) (xs ys : List V) : It := ⟨fun i H => i < xs.length /\ i < ys.length /\ SqB K H t1 a xs /\ SqB K H t2 b ys, fun i H x H' => ∃ t u v, H t = none /\ xs[i]? = some u /\ ys[i]? = some v /\ x = .ref t /\ H' = upd H t (.tup [u, v]), fun i H => (xs.length <= i \/ ys.length <= i) /\ SqB K H t1 a xs /\ SqB K H t2 b ys⟩
theorem turn_zip2 {P : Program} {w : World} {K : PySem.W.Frag} {elts : List Expr} {x1} {tpos : Pos} {t1 t2 : Bool} {a b z TI TO i1 i2 : Addr} (D : ZipApart z TI TO i1 i2 a b) (xs ys : List V) : Turn P w K (.Tuple elts x1 tpos) (Itz2 K t1 t2 a b xs ys) [z, TI, TO, i1, i2] z
    (fun i h => IsZip h z TI TO .none /\ IsPair h TI (.ref i1) (.ref i2) /\ (∃ c d, IsPair h TO c d) /\ ItAny t1 h i1 a i /\ ItAny t2 h i2 b i) where
  mem := by simp
  obj := fun i h st c hc => by
    obtain ⟨h1, h2, ⟨u, v, h3⟩, h4', h5'⟩ := st
    obtain ⟨o4, h4, d4⟩ := h4'.ob
    obtain ⟨o5, h5, d5⟩ := h5'.ob
    simp only [List.mem_cons, List.not_mem_nil, or_false] at hc
    rcases hc with rfl | rfl | rfl | rfl | rfl
    . exact ⟨_, h1, fun v z => by cases z⟩
    . exact ⟨_, h2, fun v z => by cases z⟩
    . exact ⟨_, h3, fun v z => by cases z⟩
    . exact ⟨o4, h4, fun v z => by rw [d4] at z; cases z⟩
    . exact ⟨o5, h5, fun v z => by rw [d5] at z; cases z⟩
  keep := fun i h h' st k => by
    obtain ⟨h1, h2, ⟨u, v, h3⟩, h4, h5⟩ := st
    exact ⟨k z (by simp) _ h1, k TI (by simp) _ h2, ⟨u, v, k TO (by simp) _ h3⟩, h4.at fun o q => k i1 (by simp) o q, h5.at fun o q => k i2 (by simp) o q⟩
  item := by
    intro X hP hw hK hc i pins s σ H E I hf st hg
    subst hP hw hK
    obtain ⟨hi, hj, hq, hq2⟩ := hg
    obtain ⟨hz, hTI, ⟨c, d, hTO⟩, h1, h2⟩ := st
    obtain ⟨its, rv, p⟩ := I.seqB hq
    obtain ⟨its2, rv2, p2⟩ := I.seqB hq2
    obtain ⟨u, hu, ru⟩ := rv.get (i := i) (x := xs[i]) (by simp [hi])
    obtain ⟨v, hv, rv'⟩ := rv2.get (i := i) (x := ys[i]) (by simp [hj])
    have l1 := rv.length
    have l2 := rv2.length
    refine zipN D hz hTI hTO h1 h2 p p2 (fun u' v' h' eu ev g1 g2 g3 g4 g5 gs gk => ?_) fun y => by simp at y; omega
    obtain rfl : u = u' := by simpa [hu] using eu
    obtain rfl : v = v' := by simpa [hv] using ev
    have hTz : s.heap.objs.size ≠ z := Nat.ne_of_gt (Heap.lt_size hz)
    refine ⟨_, rfl, wpAny_letOwnedTupleGo_zip g1 fun h2' e1 hs2 => ?_⟩
    have hk2 : ∀ b o, b ∉ [z, TI, TO, i1, i2] -> s.heap.get? b = some o -> h2'.get? b = some o := fun b o hb q => by
      simp only [List.mem_cons, List.not_mem_nil, or_false, not_or] at hb
      exact (hs2.2 b hb.1).trans (gk b o hb.1 hb.2.2.1 hb.2.2.2.1 hb.2.2.2.2 q)
    obtain ⟨un, hok⟩ := I.unL hk2 hf
    have hn : H s.heap.objs.size = none := I.hok.fresh (Nat.le_refl _)
    have new : ObjOk X.prog X.w (upd H s.heap.objs.size (.tup [xs[i], ys[i]])) h2' s.heap.objs.size (.tup [xs[i], ys[i]]) := ⟨by have := line1000; simp; omega, [u, v], .cons ru (.cons rv' .nil), _, (hs2.2 _ hTz).trans g5, rfl, _, rfl⟩
    refine ⟨.ref s.heap.objs.size, upd H s.heap.objs.size (.tup [xs[i], ys[i]]), I.call' (s' := { s with heap := h2' }) (ch := [z, TI, TO, i1, i2]) rfl (un.track (Nat.le_refl _) hn) (hok.track hn new) I.bare (fun b hb => ?_), rfl, ⟨_, _, _, hn, by simp [hi], by simp [hj], rfl, rfl⟩, ?_, fun b hb => ?_⟩
    . exact (hf b hb).ch
    . refine ⟨e1, (hs2.2 TI D.TIz).trans (gk TI _ D.TIz D.TITO D.TIi1 D.TIi2 hTI), ⟨u, v, (hs2.2 TO D.TOz).trans g2⟩, g3.at fun o q => (hs2.2 i1 D.i1z).trans q, g4.at fun o q => (hs2.2 i2 D.i2z).trans q⟩
    . have hb' := hf b hb
      have : ∃ o, s.heap.get? b = some o := by
        simp only [List.mem_cons, List.not_mem_nil, or_false] at hb
        rcases hb with rfl | rfl | rfl | rfl | rfl
        . exact ⟨_, hz⟩
        . exact ⟨_, hTI⟩
        . exact ⟨_, hTO⟩
        . obtain ⟨o, ho, _⟩ := h1.ob; exact ⟨o, ho⟩
        . obtain ⟨o, ho, _⟩ := h2.ob; exact ⟨o, ho⟩
      obtain ⟨o, ho⟩ := this
      rw [upd_ne (Nat.ne_of_lt (Heap.lt_size ho))]
      exact hb'.1
  done := by
    intro X hP hw hK hc i pins s σ H E I hf st hg
    subst hP hw hK
    obtain ⟨hi, hq, hq2⟩ := hg
    obtain ⟨hz, hTI, ⟨c, d, hTO⟩, h1, h2⟩ := st
    obtain ⟨its, rv, p⟩ := I.seqB hq
    obtain ⟨its2, rv2, p2⟩ := I.seqB hq2
    have l1 := rv.length
    have l2 := rv2.length
    refine zipN D hz hTI hTO h1 h2 p p2 (fun u v h' eu ev => by have a := (Array.getElem?_eq_some_iff.mp eu).1; have b := (Array.getElem?_eq_some_iff.mp ev).1; simp at a b; omega) fun _ => ⟨I.ok.hd hc, fun h' gk => ⟨rfl, ?_⟩⟩
    obtain ⟨un, hok⟩ := I.unL (h' := h') (fun b o hb q => by
      simp only [List.mem_cons, List.not_mem_nil, or_false, not_or] at hb
      exact gk b o hb.1 hb.2.2.1 hb.2.2.2.1 hb.2.2.2.2 q) hf
    exact I.call' (s' := { s with heap := h' }) (ch := [z, TI, TO, i1, i2]) rfl un hok I.bare fun b hb => (hf b hb).ch
  self := fun A i s Q E st h => wpAny_pyIter_zip st.1 h
def iZip2 (K : PySem.W.Frag) (ta : TA) : TI := fun σ H R => ta σ H fun vs H1 => ∃ a b xs ys t1 t2, vs = [.ref a, .ref b] /\ SqB K H1 t1 a xs /\ SqB K H1 t2 b ys /\ R (Itz2 K t1 t2 a b xs ys) H1
theorem r_iZip2 {K : PySem.W.Frag} {ta : TA} {σ : St} {H : Hp} {Z : It -> Hp -> Prop} : iZip2 K ta σ H Z = ta σ H fun vs H1 => ∃ a b xs ys t1 t2, vs = [.ref a, .ref b] /\ SqB K H1 t1 a xs /\ SqB K H1 t2 b ys /\ Z (Itz2 K t1 t2 a b xs ys) H1 := rfl
theorem pi_zip2 {X : Cx} {elts : List Expr} {x1} {tpos : Pos} {e f : Expr} {ta : TA} {p pos : Pos} (hg : Gl X "zip") (hm : X.mg "zip" = none) (ha : PA X [e, f] ta) (hs : starEach [e, f] X.env = [(false, eval e X.env), (false, eval f X.env)] := by rfl) (hs2 : starEach [f] X.env = [(false, eval f X.env)] := by rfl) : PI X (.Tuple elts x1 tpos) (.Call (.Name "zip" p) [e, f] [] pos) (iZip2 X.K ta) := by
  intro pins s σ H R I h
  refine Call_ (ld_blt I hg hm boot_zip (PyProof.Rows.callWith_type1 (thn (ha pos pins s σ H _ I h) fun us s1 ⟨vs, H1, I1, r1, q1⟩ => ?_) (by rw [hs, hs2]) (by rw [hs2]; rfl)))
  obtain ⟨a, b, xs, ys, t1, t2, ev, hq, hq2, q⟩ := q1
  subst ev
  cases r1 with
  | cons r rr => cases rr with
    | cons r' rr =>
      cases rr
      cases r
      cases r'
      obtain ⟨its, rv, pl⟩ := I1.seqB hq
      obtain ⟨its2, rv2, pl2⟩ := I1.seqB hq2
      refine call_zip_2G pl pl2 fun h' hz hTI hTO hi1 hi2 hsz hk => ?_
      refine wpAny_pyIter_zip (s := { s1 with heap := h' }) hz ?_
      have I2 : Inv X pins σ H1 { s1 with heap := h' } := I1.kept (t' := s1.toks) hk
      refine ⟨_, _, _, _, H1, rfl, I2, turn_zip2 (zipApart_new pl.lt pl2.lt) xs ys, ⟨hz, hTI, ⟨_, _, hTO⟩, hi1, hi2⟩, fun c hc => ?_, q⟩
      have hle : s1.heap.objs.size <= c := by
        simp only [List.mem_cons, List.not_mem_nil, or_false] at hc
        rcases hc with rfl | rfl | rfl | rfl | rfl
        . exact Nat.le_add_right _ 4
        . exact Nat.le_add_right _ 2
        . exact Nat.le_add_right _ 3
        . exact Nat.le_refl _
        . exact Nat.le_add_right _ 1
      exact I1.fpOk hle (I1.hok.fresh hle)
theorem forZ2 {K : PySem.W.Frag} {t1 t2 : Bool} {a b : Addr} {xs ys : List V} {g : TG} {tb : TS} {D : Ends} {σ : St} {H : Hp} (n : Nat) (hn1 : n <= xs.length) (hn2 : n <= ys.length) (hn3 : xs.length = n \/ ys.length = n) (Pv : Nat -> St -> Hp -> Prop) (h0 : Pv 0 σ H) (hl : ∀ i σ H, i <= n -> Pv i σ H -> SqB K H t1 a xs /\ SqB K H t2 b ys)
    (hs : ∀ i u v σ H t, i < n -> xs[i]? = some u -> ys[i]? = some v -> Pv i σ H -> H t = none -> g (.ref t) σ (upd H t (.tup [u, v])) fun σ2 H2 => tb { D with nx := Pv (i + 1), ct := Pv (i + 1), bk := D.nx } σ2 H2) (hd : ∀ σ H, Pv n σ H -> D.nx σ H) : ForW (Itz2 K t1 t2 a b xs ys) g tb D σ H := by
  refine ⟨fun i m σ H => m + i = n /\ Pv i σ H, ⟨n, by omega, h0⟩, fun i m σ H ⟨hm, hp⟩ => ?_⟩
  obtain ⟨q1, q2⟩ := hl i σ H (by omega) hp
  by_cases hi : i < n
  . refine .inr ⟨⟨by omega, by omega, q1, q2⟩, Pv (i + 1), fun σ' H' h => ⟨m - 1, by omega, by omega, h⟩, fun x H' hy => ?_⟩
    obtain ⟨t, u, v, e1, e2, e3, rfl, rfl⟩ := hy
    exact hs i u v σ H t hi e2 e3 hp e1
  . have e : i = n := by omega
    subst e
    exact .inl ⟨⟨by omega, q1, q2⟩, hd σ H hp⟩
end L2
set_option linter.all false
namespace Nest
def sl (row : List Int) (b i : Nat) : List Int := (row.take i).drop b
theorem sl_self (row : List Int) (i : Nat) : sl row i i = [] := by unfold sl; exact List.drop_of_length_le (by rw [List.length_take]; omega)
theorem sl_succ {row : List Int} {b i : Nat} {x : Int} (h : row[i]? = some x) (hb : b <= i) : sl row b (i + 1) = sl row b i ++ [x] := by
  have hi := (List.getElem?_eq_some_iff.mp h).1
  unfold sl
  rw [List.take_add_one, h, Option.toList_some, List.drop_append_of_le_length (by rw [List.length_take]; omega)]
def dl (p e x : Int) : Int := if x = e then -1 else if p <= x then 1 else 0
def bal (p e : Int) (l : List Int) : Int := (l.map (dl p e)).sum
theorem bal_app (p e : Int) (l m : List Int) : bal p e (l ++ m) = bal p e l + bal p e m := by unfold bal; rw [List.map_append, List.sum_append]
theorem bal_one (p e x : Int) : bal p e [x] = dl p e x := by unfold bal; simp
theorem bal_nil (p e : Int) : bal p e [] = 0 := rfl
def outF (p e : Int) (s : List Int × Int) (x : Int) : List Int × Int := if x = e then (s.1, s.2 - 1) else (if s.2 = 0 then s.1 ++ [x] else s.1, if p <= x then s.2 + 1 else s.2)
def outS (p e : Int) (l : List Int) : List Int × Int := l.foldl (outF p e) ([], 0)
def outW (p e : Int) (l : List Int) : List Int := (outS p e l).1
theorem outS_app (p e : Int) (l : List Int) (x : Int) : outS p e (l ++ [x]) = outF p e (outS p e l) x := by unfold outS; rw [List.foldl_append]; rfl
def IsCall (p e : Int) (row : List Int) (i a : Nat) : Prop := a < i /\ bal p e (sl row a i) = 1 /\ ∀ b, a < b -> b <= i -> bal p e (sl row b i) <= 0
def prtF (p e : Int) (s : List (Int × List Int) × List Int × List (List Int)) (x : Int) : List (Int × List Int) × List Int × List (List Int) :=
  if x = e then (s.1 ++ [(s.2.1.getLastD 0, s.2.2.getLastD [])], s.2.1.dropLast, s.2.2.dropLast)
  else if p <= x then (s.1, s.2.1 ++ [x - p], s.2.2.dropLast ++ [s.2.2.getLastD [] ++ [x]] ++ [[]])
  else (s.1, s.2.1, s.2.2.dropLast ++ [s.2.2.getLastD [] ++ [x]])
def prtS (p e : Int) (ws : List Int) : List (Int × List Int) × List Int × List (List Int) := ws.foldl (prtF p e) ([], [], [[]])
theorem prtS_take {p e : Int} {ws : List Int} {i : Nat} {x : Int} (h : ws[i]? = some x) : prtS p e (ws.take (i + 1)) = prtF p e (prtS p e (ws.take i)) x := by
  unfold prtS
  rw [List.take_add_one, h, Option.toList_some, List.foldl_append]; rfl
def partsW (p e : Int) (ws : List Int) : List (Int × List Int) := (prtS p e ws).1 ++ [(0, (prtS p e ws).2.2.headD [])]
def nestR (p e : Int) : List Int -> Nat -> Bool
  | [], d => decide (d = 0)
  | x :: l, d => if x < 0 \/ e < x then false else if x = e then (match d with | 0 => false | d + 1 => nestR p e l d) else if p <= x then nestR p e l (d + 1) else nestR p e l d
theorem nestR_drop {p e : Int} {ws : List Int} {i : Nat} {x : Int} (h : ws[i]? = some x) (d : Nat) : nestR p e (ws.drop i) d = if x < 0 \/ e < x then false else if x = e then (match d with | 0 => false | d + 1 => nestR p e (ws.drop (i + 1)) d) else if p <= x then nestR p e (ws.drop (i + 1)) (d + 1) else nestR p e (ws.drop (i + 1)) d := by
  have hi := (List.getElem?_eq_some_iff.mp h).1
  rw [List.drop_eq_getElem_cons hi, (List.getElem?_eq_some_iff.mp h).2]
  rfl
structure Open (p e : Int) (row : List Int) (i : Nat) (S : List Nat) : Prop where
  lt : ∀ (j a : Nat), S[j]? = some a -> a < i
  ba : ∀ (j a : Nat), S[j]? = some a -> bal p e (sl row a i) = (j : Int) + 1
  le : ∀ (j a : Nat), S[j]? = some a -> ∀ b, a < b -> b <= i -> bal p e (sl row b i) <= j
  de : ∀ (j a : Nat), S[j]? = some a -> (outS p e (sl row (a + 1) i)).2 = (j : Int)
  db : (outS p e (row.take i)).2 = (S.length : Int)
theorem Open.zero (p e : Int) (row : List Int) : Open p e row 0 [] := ⟨fun j a h => by simp at h, fun j a h => by simp at h, fun j a h => by simp at h, fun j a h => by simp at h, by simp [outS]⟩
theorem Open.plain {p e : Int} {row : List Int} {i : Nat} {S : List Nat} {x : Int} (h : Open p e row i S) (hx : row[i]? = some x) (h1 : x ≠ e) (h2 : ¬ p <= x) : Open p e row (i + 1) S := by
  have hd : dl p e x = 0 := by unfold dl; rw [if_neg h1, if_neg h2]
  have hF : ∀ s : List Int × Int, (outF p e s x).2 = s.2 := fun s => by unfold outF; rw [if_neg h1]; simp [h2]
  refine ⟨fun j a ha => Nat.lt_succ_of_lt (h.lt j a ha), fun j a ha => ?_, fun j a ha b hb hb2 => ?_, fun j a ha => ?_, ?_⟩
  . rw [sl_succ hx (Nat.le_of_lt (h.lt j a ha)), bal_app, bal_one, hd, h.ba j a ha]; omega
  . by_cases hbi : b = i + 1
    . subst hbi; rw [sl_self, bal_nil]; omega
    . rw [sl_succ hx (by omega), bal_app, bal_one, hd]
      have := h.le j a ha b hb (by omega); omega
  . rw [sl_succ hx (h.lt j a ha), outS_app, hF, h.de j a ha]
  . rw [List.take_add_one, hx, Option.toList_some, outS_app, hF, h.db]
theorem Open.call {p e : Int} {row : List Int} {i : Nat} {S : List Nat} {x : Int} (h : Open p e row i S) (hx : row[i]? = some x) (h1 : x ≠ e) (h2 : p <= x) : Open p e row (i + 1) (i :: S) := by
  have hd : dl p e x = 1 := by unfold dl; rw [if_neg h1, if_pos h2]
  have hF : ∀ s : List Int × Int, (outF p e s x).2 = s.2 + 1 := fun s => by unfold outF; rw [if_neg h1]; simp [h2]
  refine ⟨fun j a ha => ?_, fun j a ha => ?_, fun j a ha b hb hb2 => ?_, fun j a ha => ?_, ?_⟩
  . cases j with
    | zero => simp at ha; omega
    | succ j => exact Nat.lt_succ_of_lt (h.lt j a (by simpa using ha))
  . cases j with
    | zero =>
      simp at ha; subst ha
      rw [sl_succ hx (Nat.le_refl _), sl_self, List.nil_append, bal_one, hd]; rfl
    | succ j =>
      have ha : S[j]? = some a := by simpa using ha
      rw [sl_succ hx (Nat.le_of_lt (h.lt j a ha)), bal_app, bal_one, hd, h.ba j a ha]; omega
  . by_cases hbi : b = i + 1
    . subst hbi; rw [sl_self, bal_nil]; omega
    . cases j with
      | zero => simp at ha; omega
      | succ j =>
        have ha : S[j]? = some a := by simpa using ha
        rw [sl_succ hx (by omega), bal_app, bal_one, hd]
        have := h.le j a ha b hb (by omega); omega
  . cases j with
    | zero => simp at ha; subst ha; rw [sl_self]; simp [outS]
    | succ j =>
      have ha : S[j]? = some a := by simpa using ha
      rw [sl_succ hx (h.lt j a ha), outS_app, hF, h.de j a ha]; omega
  . rw [List.take_add_one, hx, Option.toList_some, outS_app, hF, h.db, List.length_cons]; omega
theorem Open.ends {p e : Int} {row : List Int} {i c : Nat} {S : List Nat} (h : Open p e row i (c :: S)) (hx : row[i]? = some e) : Open p e row (i + 1) S /\ IsCall p e row i c := by
  have hd : dl p e e = -1 := by unfold dl; rw [if_pos rfl]
  have hF : ∀ s : List Int × Int, (outF p e s e).2 = s.2 - 1 := fun s => by unfold outF; rw [if_pos rfl]
  have sh : ∀ {j a : Nat}, S[j]? = some a -> (c :: S)[j + 1]? = some a := fun ha => by simpa using ha
  refine ⟨⟨fun j a ha => Nat.lt_succ_of_lt (h.lt _ a (sh ha)), fun j a ha => ?_, fun j a ha b hb hb2 => ?_, fun j a ha => ?_, ?_⟩, h.lt 0 c rfl, ?_, fun b h1 h2 => ?_⟩
  . rw [sl_succ hx (Nat.le_of_lt (h.lt _ a (sh ha))), bal_app, bal_one, hd, h.ba _ a (sh ha)]; omega
  . by_cases hbi : b = i + 1
    . subst hbi; rw [sl_self, bal_nil]; omega
    . rw [sl_succ hx (by omega), bal_app, bal_one, hd]
      have := h.le _ a (sh ha) b hb (by omega); omega
  . rw [sl_succ hx (h.lt _ a (sh ha)), outS_app, hF, h.de _ a (sh ha)]; omega
  . rw [List.take_add_one, hx, Option.toList_some, outS_app, hF, h.db, List.length_cons]; omega
  . have := h.ba 0 c rfl; simpa using this
  . have := h.le 0 c rfl b h1 h2; simpa using this
def wd (p e : Int) (row : List Int) (i a : Nat) : List Int := outW p e (sl row (a + 1) i)
def gt (p : Int) (row : List Int) (a : Nat) : Int := row.getD a 0 - p
structure Stk (p e : Int) (row : List Int) (i : Nat) (S : List Nat) (t : List (Int × List Int) × List Int × List (List Int)) : Prop where
  op : Open p e row i S
  cs : t.2.1 = (S.map (gt p row)).reverse
  ws : t.2.2 = outW p e (row.take i) :: (S.map (wd p e row i)).reverse
theorem out_same {p e : Int} {l : List Int} {x : Int} (h : (outS p e l).2 ≠ 0) : outW p e (l ++ [x]) = outW p e l := by
  unfold outW; rw [outS_app]; unfold outF; split
  . rfl
  . simp [h]
theorem out_end {p e : Int} {l : List Int} : outW p e (l ++ [e]) = outW p e l := by
  unfold outW; rw [outS_app]; unfold outF; rw [if_pos rfl]
theorem out_put {p e : Int} {l : List Int} {x : Int} (h : (outS p e l).2 = 0) (hx : x ≠ e) : outW p e (l ++ [x]) = outW p e l ++ [x] := by
  unfold outW; rw [outS_app]; unfold outF; rw [if_neg hx]; simp [h]
theorem ws_plain {p e : Int} {row : List Int} {i : Nat} {S : List Nat} {t : List (Int × List Int) × List Int × List (List Int)} {x : Int} (h : Stk p e row i S t) (hx : row[i]? = some x) (h1 : x ≠ e) : t.2.2.dropLast ++ [t.2.2.getLastD [] ++ [x]] = outW p e (row.take (i + 1)) :: (S.map (wd p e row (i + 1))).reverse := by
  have ht : row.take (i + 1) = row.take i ++ [x] := by rw [List.take_add_one, hx]; rfl
  rw [h.ws]
  cases S with
  | nil =>
    have hz : (outS p e (row.take i)).2 = 0 := by have := h.op.db; simpa using this
    simp [ht, out_put hz h1]
  | cons c S =>
    have hb : (outS p e (row.take i)).2 ≠ 0 := by have := h.op.db; rw [this]; simp; omega
    have hc : wd p e row (i + 1) c = wd p e row i c ++ [x] := by
      unfold wd
      rw [sl_succ hx (h.op.lt 0 c rfl)]
      exact out_put (by have := h.op.de 0 c rfl; simpa using this) h1
    have hS : S.map (wd p e row (i + 1)) = S.map (wd p e row i) := by
      refine List.map_congr_left fun a ha => ?_
      obtain ⟨j, hj, ej⟩ := List.getElem_of_mem ha
      have hja : (c :: S)[j + 1]? = some a := by rw [List.getElem?_cons_succ, List.getElem?_eq_getElem hj, ej]
      unfold wd
      rw [sl_succ hx (h.op.lt _ a hja)]
      exact out_same (by have := h.op.de _ a hja; rw [this]; omega)
    rw [ht, out_same hb, List.map_cons, List.map_cons, List.reverse_cons, List.reverse_cons, hc, hS]
    rw [<- List.cons_append, List.dropLast_concat, List.getLastD_concat]; rfl
theorem Stk.plain {p e : Int} {row : List Int} {i : Nat} {S : List Nat} {t : List (Int × List Int) × List Int × List (List Int)} {x : Int} (h : Stk p e row i S t) (hx : row[i]? = some x) (h1 : x ≠ e) (h2 : ¬ p <= x) : Stk p e row (i + 1) S (prtF p e t x) := by
  unfold prtF
  rw [if_neg h1, if_neg h2]
  exact ⟨h.op.plain hx h1 h2, h.cs, ws_plain h hx h1⟩
theorem Stk.call {p e : Int} {row : List Int} {i : Nat} {S : List Nat} {t : List (Int × List Int) × List Int × List (List Int)} {x : Int} (h : Stk p e row i S t) (hx : row[i]? = some x) (h1 : x ≠ e) (h2 : p <= x) : Stk p e row (i + 1) (i :: S) (prtF p e t x) := by
  unfold prtF
  rw [if_neg h1, if_pos h2]
  refine ⟨h.op.call hx h1 h2, ?_, ?_⟩
  . show t.2.1 ++ [x - p] = _
    rw [h.cs, List.map_cons, List.reverse_cons]
    unfold gt
    rw [List.getD_eq_getElem?_getD, hx]; rfl
  . show t.2.2.dropLast ++ [t.2.2.getLastD [] ++ [x]] ++ [[]] = _
    rw [ws_plain h hx h1, List.map_cons, List.reverse_cons, List.cons_append]
    congr 2
    unfold wd
    rw [sl_self]; rfl
theorem Stk.ends {p e : Int} {row : List Int} {i c : Nat} {S : List Nat} {t : List (Int × List Int) × List Int × List (List Int)} (h : Stk p e row i (c :: S) t) (hx : row[i]? = some e) : Stk p e row (i + 1) S (prtF p e t e) /\ (prtF p e t e).1 = t.1 ++ [(gt p row c, wd p e row i c)] /\ IsCall p e row i c := by
  have hop := h.op.ends hx
  have ht : row.take (i + 1) = row.take i ++ [e] := by rw [List.take_add_one, hx]; rfl
  unfold prtF
  rw [if_pos rfl]
  refine ⟨⟨hop.1, ?_, ?_⟩, ?_, hop.2⟩
  . show t.2.1.dropLast = _
    rw [h.cs, List.map_cons, List.reverse_cons, List.dropLast_concat]
  . show t.2.2.dropLast = _
    rw [h.ws, List.map_cons, List.reverse_cons, <- List.cons_append, List.dropLast_concat, ht, out_end]
    congr 2
    refine List.map_congr_left fun a ha => ?_
    obtain ⟨j, hj, ej⟩ := List.getElem_of_mem ha
    have hja : (c :: S)[j + 1]? = some a := by rw [List.getElem?_cons_succ, List.getElem?_eq_getElem hj, ej]
    unfold wd
    rw [sl_succ hx (h.op.lt _ a hja), out_end]
  . show t.1 ++ _ = _
    rw [h.cs, h.ws, List.map_cons, List.map_cons, List.reverse_cons, List.reverse_cons, List.getLastD_concat, <- List.cons_append, List.getLastD_concat]
theorem Stk.zero (p e : Int) (row : List Int) : Stk p e row 0 [] (prtS p e (row.take 0)) := ⟨Open.zero p e row, rfl, by simp [prtS, outW, outS]⟩
theorem nestR_cons (p e x : Int) (l : List Int) (d : Nat) : nestR p e (x :: l) d = if x < 0 \/ e < x then false else if x = e then (match d with | 0 => false | d + 1 => nestR p e l d) else if p <= x then nestR p e l (d + 1) else nestR p e l d := rfl
theorem nestR_app {p e : Int} : ∀ (row : List Int) (k d : Nat) (rest : List Int), nestR p e row k = true -> nestR p e (row ++ rest) (d + k) = nestR p e rest d
  | [], k, d, rest, h => by
    have : k = 0 := by simpa [nestR] using h
    subst this; rfl
  | x :: l, k, d, rest, h => by
    rw [List.cons_append, nestR_cons]
    rw [nestR_cons] at h
    by_cases h1 : x < 0 \/ e < x
    . rw [if_pos h1] at h; cases h
    . rw [if_neg h1] at h ⊢
      by_cases h2 : x = e
      . rw [if_pos h2] at h ⊢
        cases k with
        | zero => cases h
        | succ k => exact nestR_app l k d rest h
      . rw [if_neg h2] at h ⊢
        by_cases h3 : p <= x
        . rw [if_pos h3] at h ⊢; exact nestR_app l (k + 1) d rest h
        . rw [if_neg h3] at h ⊢; exact nestR_app l k d rest h
theorem nestR_ends {p e : Int} (he : 0 <= e) : ∀ (k : Nat) (rest : List Int) (d : Nat), nestR p e (List.replicate k e ++ rest) (d + k) = nestR p e rest d
  | 0, rest, d => by simp
  | k + 1, rest, d => by
    rw [List.replicate_succ, List.cons_append, nestR_cons, if_neg (by omega), if_pos rfl]
    exact nestR_ends he k rest d
theorem nestR_snoc {p e x : Int} {row : List Int} {d : Nat} (h : ∀ rest, nestR p e (row ++ rest) 0 = nestR p e rest d) (h0 : 0 <= x) (h1 : x <= e) (h2 : x = e -> d ≠ 0) : ∀ rest, nestR p e ((row ++ [x]) ++ rest) 0 = nestR p e rest (if x = e then d - 1 else if p <= x then d + 1 else d) := by
  intro rest
  rw [List.append_assoc, h, List.singleton_append]
  conv => lhs; unfold nestR
  rw [if_neg (by omega)]
  by_cases hx : x = e
  . rw [if_pos hx, if_pos hx]
    cases d with
    | zero => exact absurd rfl (h2 hx)
    | succ d => rfl
  . rw [if_neg hx, if_neg hx]
    by_cases hp : p <= x
    . rw [if_pos hp, if_pos hp]
    . rw [if_neg hp, if_neg hp]
def dueW (p e : Int) (row : List Int) (i : Nat) : List (Int × List Int) := (prtS p e (row.take i)).1
theorem walk {p e : Int} {row : List Int} (hn : nestR p e row 0 = true) (i : Nat) (hi : i <= row.length) : ∃ S, Stk p e row i S (prtS p e (row.take i)) /\ nestR p e (row.drop i) S.length = true := by
  induction i with
  | zero => exact ⟨[], Stk.zero p e row, hn⟩
  | succ i ih =>
    obtain ⟨S, hS, hd⟩ := ih (by omega)
    have hx : row[i]? = some row[i] := by simp [show i < row.length by omega]
    generalize row[i] = x at hx
    rw [nestR_drop hx] at hd
    rw [prtS_take hx]
    by_cases h1 : x < 0 \/ e < x
    . rw [if_pos h1] at hd; cases hd
    . rw [if_neg h1] at hd
      by_cases h2 : x = e
      . rw [if_pos h2] at hd
        subst h2
        cases S with
        | nil => cases hd
        | cons c S => exact ⟨S, (hS.ends hx).1, hd⟩
      . rw [if_neg h2] at hd
        by_cases h3 : p <= x
        . rw [if_pos h3] at hd; exact ⟨i :: S, hS.call hx h2 h3, hd⟩
        . rw [if_neg h3] at hd; exact ⟨S, hS.plain hx h2 h3, hd⟩
theorem parts_due {p e : Int} {row : List Int} (hn : nestR p e row 0 = true) : partsW p e row = dueW p e row row.length ++ [(0, outW p e row)] /\ (prtS p e row).2.2.headD [] = outW p e row := by
  obtain ⟨S, hS, hd⟩ := walk hn row.length (Nat.le_refl _)
  have hw := hS.ws
  rw [List.take_length] at hw
  unfold partsW dueW
  rw [List.take_length, hw]
  exact ⟨rfl, rfl⟩
end Nest
set_option Elab.async false
set_option linter.all false
set_option maxRecDepth 100000
set_option maxHeartbeats 4000000
namespace L2
open PySem PySem.Spec PyProof.Rows GW
end L2
namespace HT
open PySem PySem.Spec PyProof.Rows L2
section
variable {prog : Program} {w : World} {A : Around} {E : Value -> Shared -> Prop} {s : Shared}
end
end HT
namespace L2
open PySem PySem.Spec PyProof.Rows GW
end L2
namespace Nest
def under (s : List (Int × List Int) × List Int × List (List Int)) (W : List (List Int)) (w : List Int) (t : List (Int × List Int) × List Int × List (List Int)) : List (Int × List Int) × List Int × List (List Int) := (s.1 ++ t.1, s.2.1 ++ t.2.1, W ++ ((w ++ t.2.2.headD []) :: t.2.2.tail))
theorem under_step {p e x : Int} {s : List (Int × List Int) × List Int × List (List Int)} {W : List (List Int)} {w : List Int} {t : List (Int × List Int) × List Int × List (List Int)} {b : List Int} {bs : List (List Int)} (hb : t.2.2 = b :: bs) (hl : bs.length = t.2.1.length) (he : x = e -> t.2.1 ≠ []) : prtF p e (under s W w t) x = under s W w (prtF p e t x) := by
  obtain ⟨t1, cs, ws⟩ := t
  obtain ⟨s1, s2, s3⟩ := s
  have hb : ws = b :: bs := hb
  subst hb
  have hl : bs.length = cs.length := hl
  have he : x = e -> cs ≠ [] := he
  unfold under prtF
  simp only [List.headD_cons, List.tail_cons]
  by_cases hx : x = e
  . rw [if_pos hx, if_pos hx]
    obtain ⟨cs', c, rfl⟩ : ∃ us u, cs = us ++ [u] := ⟨cs.dropLast, cs.getLast (he hx), (List.dropLast_concat_getLast _).symm⟩
    obtain ⟨bs', z, rfl⟩ : ∃ us u, bs = us ++ [u] := ⟨bs.dropLast, bs.getLast (fun q => by rw [q] at hl; simp at hl), (List.dropLast_concat_getLast _).symm⟩
    have e1 : W ++ (w ++ b) :: (bs' ++ [z]) = (W ++ (w ++ b) :: bs') ++ [z] := by simp
    have e2 : b :: (bs' ++ [z]) = (b :: bs') ++ [z] := by simp
    have e3 : s2 ++ (cs' ++ [c]) = (s2 ++ cs') ++ [c] := (List.append_assoc ..).symm
    have e4 : (b :: bs' ++ [z]).dropLast = b :: bs' := List.dropLast_concat
    rw [e1, e2, e3, e4]
    simp only [List.dropLast_concat, List.getLastD_concat, List.headD_cons, List.tail_cons]
    simp [List.append_assoc]
  . rw [if_neg hx, if_neg hx]
    by_cases hp : p <= x
    . rw [if_pos hp, if_pos hp]
      rcases List.eq_nil_or_concat bs with rfl | ⟨bs', z, rfl⟩
      . have e1 : W ++ [w ++ b] = W ++ [w ++ b] := rfl
        have e2 : [b] = [] ++ [b] := rfl
        simp only [List.dropLast_concat, List.getLastD_concat]
        rw [e2]
        simp only [List.dropLast_concat, List.getLastD_concat]
        simp [List.append_assoc]
      . have e1 : W ++ (w ++ b) :: (bs' ++ [z]) = (W ++ (w ++ b) :: bs') ++ [z] := by simp
        have e2 : b :: (bs' ++ [z]) = (b :: bs') ++ [z] := by simp
        simp only [List.concat_eq_append]
        rw [e1, e2]
        simp only [List.dropLast_concat, List.getLastD_concat]
        simp [List.append_assoc]
    . rw [if_neg hp, if_neg hp]
      rcases List.eq_nil_or_concat bs with rfl | ⟨bs', z, rfl⟩
      . have e2 : [b] = [] ++ [b] := rfl
        simp only [List.dropLast_concat, List.getLastD_concat]
        rw [e2]
        simp only [List.dropLast_concat, List.getLastD_concat]
        simp [List.append_assoc]
      . have e1 : W ++ (w ++ b) :: (bs' ++ [z]) = (W ++ (w ++ b) :: bs') ++ [z] := by simp
        have e2 : b :: (bs' ++ [z]) = (b :: bs') ++ [z] := by simp
        simp only [List.concat_eq_append]
        rw [e1, e2]
        simp only [List.dropLast_concat, List.getLastD_concat]
        simp [List.append_assoc]
theorem prt_under {p e : Int} {row : List Int} (hn : nestR p e row 0 = true) (s1 : List (Int × List Int)) (s2 : List Int) (W : List (List Int)) (w : List Int) : row.foldl (prtF p e) (s1, s2, W ++ [w]) = (s1 ++ (prtS p e row).1, s2, W ++ [w ++ outW p e row]) := by
  have key : ∀ i, i <= row.length -> (row.take i).foldl (prtF p e) (s1, s2, W ++ [w]) = under (s1, s2, W ++ [w]) W w (prtS p e (row.take i)) := by
    intro i
    induction i with
    | zero => intro _; simp [under, prtS]
    | succ i ih =>
      intro hi
      have hx : row[i]? = some row[i] := by simp [show i < row.length by omega]
      generalize row[i] = x at hx
      obtain ⟨S, hS, hd⟩ := walk hn i (by omega)
      rw [prtS_take hx, List.take_add_one, hx, Option.toList_some, List.foldl_append, ih (by omega)]
      refine under_step hS.ws ?_ ?_
      . rw [hS.cs]; simp
      . intro hxe
        rw [nestR_drop hx] at hd
        rw [hS.cs]
        intro hnil
        have : S = [] := by simpa using hnil
        subst this
        split at hd
        . cases hd
        . simp [hxe] at hd
  have h1 := key row.length (Nat.le_refl _)
  rw [List.take_length] at h1
  rw [h1]
  obtain ⟨S, hS, hd⟩ := walk hn row.length (Nat.le_refl _)
  rw [List.take_length] at hS
  rw [List.drop_length] at hd
  have hS0 : S = [] := by
    have : S.length = 0 := by simpa [nestR] using hd
    exact List.eq_nil_of_length_eq_zero this
  subst hS0
  unfold under
  rw [hS.cs, hS.ws]
  simp
def spreadN (p e : Int) (rows : List (List Int)) (ws : List Int) : List Int := ws.flatMap fun x => if p <= x then x :: (rows.getD (x - p).toNat [] ++ [e]) else [x]
def dueN (p e : Int) (rows : List (List Int)) (ws : List Int) : List (Int × List Int) := ws.flatMap fun x => if p <= x then (prtS p e (rows.getD (x - p).toNat [])).1 ++ [(x - p, outW p e (rows.getD (x - p).toNat []))] else []
end Nest
set_option linter.all false
namespace Nest
theorem nestR_mem {p e : Int} : ∀ (l : List Int) (d : Nat), nestR p e l d = true -> ∀ x ∈ l, 0 <= x /\ x <= e
  | [], _, _, x, hx => by cases hx
  | y :: l, d, h, x, hx => by
    rw [nestR_cons] at h
    by_cases hy : y < 0 \/ e < y
    . rw [if_pos hy] at h; cases h
    rw [if_neg hy] at h
    rcases List.mem_cons.mp hx with rfl | hx
    . omega
    by_cases he : y = e
    . rw [if_pos he] at h
      cases d with
      | zero => cases h
      | succ d => exact nestR_mem l d h x hx
    rw [if_neg he] at h
    by_cases hp : p <= y
    . rw [if_pos hp] at h; exact nestR_mem l _ h x hx
    . rw [if_neg hp] at h; exact nestR_mem l _ h x hx
structure POk (h e : Int) (n : Nat) (t : List (Int × List Int) × List Int × List (List Int)) : Prop where
  tl : ∀ pr ∈ t.1, 0 <= pr.1 /\ pr.1 < h /\ pr.2.length <= n /\ ∀ x ∈ pr.2, 0 <= x /\ x < e
  cs : ∀ c ∈ t.2.1, 0 <= c /\ c < h
  ws : ∀ w ∈ t.2.2, w.length <= n /\ ∀ x ∈ w, 0 <= x /\ x < e
theorem getLastD_mem {α} {l : List α} {d : α} : l.getLastD d = d \/ l.getLastD d ∈ l := by
  rw [List.getLastD_eq_getLast?]
  cases z : l.getLast? with
  | none => left; rfl
  | some a => right; exact List.mem_of_getLast? z
theorem POk.step {p h : Int} {n : Nat} {t : List (Int × List Int) × List Int × List (List Int)} {x : Int} (hh : 1 <= h) (k : POk h (p + h) n t) (h0 : 0 <= x) (h1 : x <= p + h) : POk h (p + h) (n + 1) (prtF p (p + h) t x) := by
  have hw : (t.2.2.getLastD []).length <= n /\ ∀ x ∈ t.2.2.getLastD [], 0 <= x /\ x < p + h := by
    rcases getLastD_mem (l := t.2.2) (d := []) with z | z
    . rw [z]; exact ⟨Nat.zero_le _, fun x hx => by cases hx⟩
    . exact k.ws _ z
  have hc : 0 <= t.2.1.getLastD 0 /\ t.2.1.getLastD 0 < h := by
    rcases getLastD_mem (l := t.2.1) (d := 0) with z | z
    . rw [z]; omega
    . exact k.cs _ z
  have hd : ∀ w ∈ t.2.2.dropLast, w.length <= n + 1 /\ ∀ x ∈ w, 0 <= x /\ x < p + h := fun w hw' => by
    have := k.ws w (List.dropLast_subset _ hw')
    exact ⟨by omega, this.2⟩
  have ht : ∀ pr ∈ t.1, 0 <= pr.1 /\ pr.1 < h /\ pr.2.length <= n + 1 /\ ∀ x ∈ pr.2, 0 <= x /\ x < p + h := fun pr hp => by
    have := k.tl pr hp
    exact ⟨this.1, this.2.1, by omega, this.2.2.2⟩
  unfold prtF
  by_cases he : x = p + h
  . rw [if_pos he]
    refine ⟨fun pr hp => ?_, fun c hc' => k.cs c (List.dropLast_subset _ hc'), hd⟩
    rcases List.mem_append.mp hp with hp | hp
    . exact ht pr hp
    . rw [List.mem_singleton.mp hp]
      exact ⟨hc.1, hc.2, Nat.le_succ_of_le hw.1, hw.2⟩
  rw [if_neg he]
  have hn : (t.2.2.getLastD [] ++ [x]).length <= n + 1 /\ ∀ y ∈ t.2.2.getLastD [] ++ [x], 0 <= y /\ y < p + h := by
    refine ⟨by rw [List.length_append, List.length_singleton]; have := hw.1; omega, fun y hy => ?_⟩
    rcases List.mem_append.mp hy with hy | hy
    . exact hw.2 y hy
    . rw [List.mem_singleton.mp hy]; omega
  by_cases hp : p <= x
  . rw [if_pos hp]
    refine ⟨ht, fun c hc' => ?_, fun w hw' => ?_⟩
    . rcases List.mem_append.mp hc' with hc' | hc'
      . exact k.cs c hc'
      . rw [List.mem_singleton.mp hc']; omega
    . rcases List.mem_append.mp hw' with hw' | hw'
      . rcases List.mem_append.mp hw' with hw' | hw'
        . exact hd w hw'
        . rw [List.mem_singleton.mp hw']; exact hn
      . rw [List.mem_singleton.mp hw']; exact ⟨Nat.zero_le _, fun x hx => by cases hx⟩
  . rw [if_neg hp]
    refine ⟨ht, k.cs, fun w hw' => ?_⟩
    rcases List.mem_append.mp hw' with hw' | hw'
    . exact hd w hw'
    . rw [List.mem_singleton.mp hw']; exact hn
theorem POk.fold {p h : Int} (hh : 1 <= h) : ∀ (l : List Int) (n : Nat) (t : List (Int × List Int) × List Int × List (List Int)), POk h (p + h) n t -> (∀ x ∈ l, 0 <= x /\ x <= p + h) -> POk h (p + h) (n + l.length) (l.foldl (prtF p (p + h)) t)
  | [], n, t, k, _ => k
  | x :: l, n, t, k, hl => by
    have := POk.fold hh l (n + 1) _ (k.step hh (hl x (by simp)).1 (hl x (by simp)).2) (fun y hy => hl y (by simp [hy]))
    rw [List.foldl_cons, List.length_cons, show n + (l.length + 1) = n + 1 + l.length by omega]
    exact this
theorem partsW_ok {p h : Int} (hh : 1 <= h) {l : List Int} (hn : nestR p (p + h) l 0 = true) : ∀ pr ∈ partsW p (p + h) l, 0 <= pr.1 /\ pr.1 < h /\ pr.2.length <= l.length /\ ∀ x ∈ pr.2, 0 <= x /\ x < p + h := by
  have k : POk h (p + h) (0 + l.length) (prtS p (p + h) l) := POk.fold hh l 0 _ ⟨fun pr hp => (by cases hp), fun c hc => (by cases hc), fun w hw => by rw [List.mem_singleton.mp hw]; exact ⟨Nat.zero_le _, fun x hx => by cases hx⟩⟩ (nestR_mem l 0 hn)
  rw [Nat.zero_add] at k
  intro pr hp
  unfold partsW at hp
  rcases List.mem_append.mp hp with hp | hp
  . exact k.tl pr hp
  . rw [List.mem_singleton.mp hp]
    refine ⟨Int.le_refl _, by omega, ?_⟩
    cases z : (prtS p (p + h) l).2.2 with
    | nil => exact ⟨Nat.zero_le _, fun x hx => by cases hx⟩
    | cons w ws => exact k.ws w (by rw [z]; simp)
end Nest
namespace L2
open PySem PySem.Spec PyProof.Rows
end L2
set_option Elab.async false
set_option linter.all false
set_option maxRecDepth 100000
set_option maxHeartbeats 4000000
namespace L2
open PySem PySem.W PySem.Spec PySem.Calls PyProof.Rows
end L2
set_option Elab.async false
set_option linter.all false
set_option maxRecDepth 100000
set_option maxHeartbeats 1000000
namespace L2
open PySem PySem.Spec PyProof.Rows
section
variable {K : PySem.W.Frag} {x : V} {xs : List V} {lo hi : Option Int} {H : Hp} {Q : VK}
end
end L2
set_option Elab.async false
set_option linter.all false
set_option maxRecDepth 100000
set_option maxHeartbeats 4000000
namespace L2
open PySem PySem.W PySem.Spec PySem.Calls PyProof.Rows
end L2
namespace L2
open PySem PySem.W PySem.Spec PySem.Calls PyProof.Rows
end L2
namespace L2
open PySem
section
variable {prog : Program} {w : World} {κ : Type} [DecidableEq κ] {knd : HeapKind prog w κ} {A : Around} {E : Value -> Shared -> Prop} {s : Shared}
end
end L2
namespace L2
open PySem PySem.W PySem.Spec PySem.Calls PyProof.Rows
end L2
set_option Elab.async false
set_option linter.all false
set_option maxRecDepth 100000
namespace L2
section
variable {α : Type} [DecidableEq α]
def ins1 (acc : List α) (x : α) : List α := if x ∈ acc then acc else acc ++ [x]
def firstsA (acc row : List α) : List α := row.foldl ins1 acc
def firsts (row : List α) : List α := firstsA [] row
def num (row : List α) : List Int := row.map fun x => ((firsts row).idxOf x : Int)
def ncl (row : List α) : Nat := (firsts row).length
end
def rowB (n : Nat) (b : List Int -> Nat -> Int) (w : List Int) : List Int := (List.range n).map (b w)
section
variable {L : Int} {n : Nat} {b : List Int -> Nat -> Int} {words : List (List Int)} {c : List Int} {w : List Int} {x : Int}
end
abbrev StC := List (List Int) × List Int
def stepC (n : Nat) (b : List Int -> Nat -> Int) (w : List Int) (st : StC) (x : Nat) : StC := if ncl st.2 < ncl (st.2.zip (rowB n b ((x : Int) :: w))) then (st.1 ++ [(x : Int) :: w], num (st.2.zip (rowB n b ((x : Int) :: w)))) else st
def innerC (n : Nat) (b : List Int -> Nat -> Int) (w : List Int) (L : Nat) (st : StC) : StC := (List.range L).foldl (stepC n b w) st
def outerC (n : Nat) (b : List Int -> Nat -> Int) (L : Nat) : Nat -> Nat -> StC -> StC
  | 0, _, st => st
  | f + 1, k, st => if k < st.1.length then outerC n b L f (k + 1) (innerC n b (st.1.getD k []) L st) else st
section
variable {n L : Nat} {b : List Int -> Nat -> Int} {w : List Int} {st : StC}
def wcOf (n L : Nat) (b : List Int -> Nat -> Int) : StC := outerC n b L 41 0 ([[]], num (rowB n b []))
end
end L2
set_option Elab.async false
set_option linter.all false
set_option maxRecDepth 100000
set_option maxHeartbeats 4000000
namespace L2
open PySem PySem.W PySem.Spec PySem.Calls PyProof.Rows
end L2
set_option Elab.async false
set_option linter.all false
set_option maxRecDepth 100000
namespace L2
open GW GB
def bW (marks : List Int) (ways : List (List Int)) (w : List Int) (r : Nat) : Int := marks.getD (walkR ways (r : Int) w).toNat 0
def cf (c : List Int) (r : Int) : Int := c.getD r.toNat 0
def hm (c R : List Int) (r : Int) : Int := (((firsts (R.map (cf c))).idxOf (cf c r) : Nat) : Int)
def hrow (c R : List Int) (ways : List (List Int)) (r : Int) : List Int := (ways.getD r.toNat []).map (hm c R)
section
variable {L : Nat} {marks : List Int} {ways : List (List Int)}
end
def cOf (L : Nat) (marks : List Int) (ways : List (List Int)) : List Int := (wcOf marks.length L (bW marks ways)).2
def rOf (ways : List (List Int)) : List Int := (wordsIn ways).map (·.1)
def hO (L : Nat) (marks : List Int) (ways : List (List Int)) (r : Int) : Int := hm (cOf L marks ways) (rOf ways) r
section
variable {L : Nat} {marks : List Int} {ways : List (List Int)}
def wi (ways : List (List Int)) (r : Int) : List Int := (((wordsIn ways).find? fun e => decide (e.1 = r)).map (·.2)).getD []
end
section
variable {L : Nat} {m1 m2 : List Int} {w1 w2 : List (List Int)}
end
end L2
set_option Elab.async false
set_option linter.all false
set_option maxRecDepth 100000
set_option maxHeartbeats 4000000
namespace L2
open PySem PySem.Spec PyProof.Rows GW GB
end L2
set_option Elab.async false
set_option linter.all false
set_option maxRecDepth 100000
set_option maxHeartbeats 1000000
namespace L2
open PySem PySem.Spec PyProof.Rows
end L2
set_option Elab.async false
set_option linter.all false
set_option maxRecDepth 100000
set_option maxHeartbeats 1000000
namespace L2
open PySem PySem.Spec PyProof.Rows
end L2
set_option Elab.async false
set_option linter.all false
set_option maxRecDepth 100000
set_option maxHeartbeats 4000000
namespace PySem
open Sem (wp)
namespace F
end F
section
variable {prog : Program} {w : World} {A : Around} {E : Value -> Shared -> Prop} {s : Shared}
end
section
open PyProof.Rows
variable {prog : Program} {w : World} {A : Around} {E : Value -> Shared -> Prop} {s : Shared}
end
end PySem
namespace L2
open PySem PySem.Spec PyProof.Rows
section
variable {X : Cx}
end
end L2
set_option Elab.async false
set_option linter.all false
set_option maxRecDepth 100000
set_option maxHeartbeats 4000000
namespace PySem
section
variable {prog : Program} {w : World} {A : Around} {R : Result -> Shared -> Prop} {I : Addr} {fp wr : List Addr} {n : Nat} {P : Nat -> Value -> Prop} {St : Nat -> Heap -> Prop} {d : Int} {td : Tok}
end
end PySem
set_option Elab.async false
set_option linter.all false
set_option maxRecDepth 100000
set_option maxHeartbeats 4000000
namespace L2
open PySem PySem.Spec PyProof.Rows
section
variable {X : Cx} {pins : List (Addr × Obj)} {σ : St} {H : Hp} {s : Shared} {a : Addr}
theorem Inv.freezeK {kvs : List (Key × V)} {o : Obj} (I : Inv X pins σ H s) (e : H a = some (.dK kvs)) (ho : s.heap.get? a = some o) : Inv X pins σ (upd H a (.frz o (.dK kvs))) s := by
  refine d_write (h' := s.heap) (t' := s.toks) I (by rw [e]; exact True.intro) ⟨rfl, fun _ _ => rfl⟩ ⟨o, ho⟩ ?_
  exact ⟨ho, (show ObjOk X.prog X.w H s.heap a (.dK kvs) from I.hok a _ e)⟩
end
theorem dkAt {P : Program} {w : World} {H : Hp} {h : Heap} {a : Addr} {kvs : List (Key × V)} (ok : HOk P w H h) (e : Rd H a (.dK kvs)) :
    ∃ vs ep, h.DictAt (mixKind P w) a vs ep /\ KV kvs vs /\ (a == sysModules) = false /\ kvs.length <= sizeLine := by
  obtain ⟨z, y, vs, r, m⟩ := dk_rd ok e
  obtain ⟨ep, hat⟩ := m.dictAt
  exact ⟨vs, ep, hat, r, y, z⟩
theorem KV.get {kvs : List (Key × V)} {vs : List (Key × Value)} (r : KV kvs vs) {i : Nat} {k : Key} {v : V} (h : kvs[i]? = some (k, v)) : ∃ u, vs[i]? = some (k, u) /\ RelV v u := by
  obtain ⟨q, hq, e1, e2⟩ := paired_get r h
  exact ⟨q.2, by rw [hq, show k = q.1 from e1], e2⟩
def ItkK (o : Obj) (a : Addr) (kvs : List (Key × V)) : It := ⟨fun i H => i < kvs.length /\ H a = some (.frz o (.dK kvs)), fun i H x H' => H' = H /\ ∃ k v, kvs[i]? = some (k, v) /\ x = kV k, fun i H => kvs.length <= i /\ H a = some (.frz o (.dK kvs))⟩
theorem dkFrz {P : Program} {w : World} {H : Hp} {h : Heap} {a : Addr} {o : Obj} {kvs : List (Key × V)} {es : Array DictEntry} {ep : Nat} (ok : HOk P w H h) (hd : o.data = .dict es ep) (e : H a = some (.frz o (.dK kvs))) : ∃ vs, h.DictAt (mixKind P w) a vs ep /\ KV kvs vs /\ vs.length = kvs.length := by
  obtain ⟨hko, _⟩ := (show ObjOk P w H h a (.frz o (.dK kvs)) from ok a _ e)
  obtain ⟨vs, ep', hat, r, _, _⟩ := dkAt ok (.inr ⟨o, e⟩)
  obtain ⟨o', es', g1, g2, g3, g4⟩ := id hat
  rw [hko] at g1
  cases g1
  rw [hd] at g3
  cases g3
  exact ⟨vs, hat, r, r.length.symm⟩
def FzAt (d : Addr) (H H' : Hp) : Prop := (∀ a u, a ≠ d -> H a = some u -> H' a = some u) /\ ∀ u, H d = some u -> H' d = some u \/ ∃ kvs o, u = .dK kvs /\ H' d = some (.frz o (.dK kvs))
theorem FzAt.of {d : Addr} {H H' : Hp} (s : Same H H') : FzAt d H H' := ⟨fun a u _ h => s a u h, fun u h => .inl (s d u h)⟩
theorem FzAt.new {d : Addr} {H H' : Hp} {o : Obj} {kvs : List (Key × V)} (h : Rd H d (.dK kvs)) (h1 : H' d = some (.frz o (.dK kvs))) (h2 : ∀ b, b ≠ d -> H' b = H b) (h3 : ∀ o', H d = some (.frz o' (.dK kvs)) -> o' = o) : FzAt d H H' := by
  refine ⟨fun a u ha e => by rw [h2 a ha]; exact e, fun u e => ?_⟩
  rcases h with h | ⟨o', h⟩
  . rw [h] at e; cases e; exact .inr ⟨kvs, o, rfl, h1⟩
  . rw [h] at e; cases e; rw [h3 o' h] ; exact .inl h1
theorem frzK {X : Cx} {pins : List (Addr × Obj)} {σ : St} {H : Hp} {s : Shared} {a : Addr} {kvs : List (Key × V)} (I : Inv X pins σ H s) (e : Rd H a (.dK kvs)) :
    ∃ o es vs ep H2, Inv X pins σ H2 s /\ H2 a = some (.frz o (.dK kvs)) /\ FzAt a H H2 /\ s.heap.DictAt (mixKind X.prog X.w) a vs ep /\ s.heap.get? a = some o /\ o.ExactDict /\ o.data = .dict es ep /\ vs.length = kvs.length /\ (a == sysModules) = false := by
  obtain ⟨vs, ep, hat, r, g5, g6⟩ := dkAt I.hok e
  obtain ⟨od, es, g1, g2, g3, g4⟩ := id hat
  rcases e with e | ⟨o, e⟩
  . exact ⟨od, es, vs, ep, _, I.freezeK e g1, upd_same, FzAt.new (.inl e) upd_same (fun b hb => upd_ne hb) (fun o' z => by rw [e] at z; cases z), hat, g1, g2, g3, r.length.symm, g5⟩
  . obtain ⟨hko, _⟩ := (show ObjOk X.prog X.w H s.heap a (.frz o (.dK kvs)) from I.hok a _ e)
    rw [hko] at g1
    cases g1
    exact ⟨_, es, vs, ep, H, I, e, FzAt.of (Same.refl _), hat, hko, g2, g3, r.length.symm, g5⟩
theorem turn_dictK {P : Program} {w : World} {K : PySem.W.Frag} {tg : Expr} {o : Obj} {a it : Addr} {kvs : List (Key × V)} {es : Array DictEntry} {ep : Nat} (hai : a ≠ it) (hd : o.data = .dict es ep) :
    Turn P w K tg (ItkK o a kvs) [it] it (fun i h => h.IsKeyIter it a i kvs.length ep) where
  mem := by simp
  obj := fun i h st b hb => by
    have e : b = it := by simpa using hb
    subst e
    obtain ⟨o, e, c, d⟩ := st
    exact ⟨o, e, fun v z => by rw [d] at z; cases z⟩
  keep := fun i h h' st k => st.at fun o e => k it (by simp) o e
  item := by
    intro X hP hw hK hcm i pins s σ H E I hf st hg
    subst hP hw hK
    obtain ⟨hi, hq⟩ := hg
    obtain ⟨vs, hat, r, hl⟩ := dkFrz I.hok hd hq
    obtain ⟨kv, hkv⟩ : ∃ kv, kvs[i]? = some kv := ⟨kvs[i], by simp [hi]⟩
    obtain ⟨k, v⟩ := kv
    obtain ⟨u, hu, ru⟩ := KV.get r hkv
    obtain ⟨f0, f1, f2, f3, f4, f5⟩ := hf it (by simp)
    refine wpAny_pyNext_dict_item (kvs := vs) (by rw [hl]; exact st) hat hu fun key h' hk st' sb => ?_
    rw [hl] at st'
    have I1 : Inv X pins σ H { s with heap := h' } := I.turned (t' := s.toks) (fun b o hb e => (sb.2 b hb).trans e) f0 f1 f3 f4 f5
    obtain ⟨io, e, c, d⟩ := id st'
    exact ⟨_, rfl, go_of (s := { s with heap := h' }) e c d (by decide) ⟨kV k, H, I1, keyIs_rel hk, ⟨rfl, k, v, hkv, rfl⟩, st', fun b hb => (hf b hb).1⟩⟩
  done := by
    intro X hP hw hK hcm i pins s σ H E I hf st hg
    subst hP hw hK
    obtain ⟨hi, hq⟩ := hg
    obtain ⟨vs, hat, r, hl⟩ := dkFrz I.hok hd hq
    obtain ⟨f0, f1, f2, f3, f4, f5⟩ := hf it (by simp)
    exact wpAny_pyNext_dict_end (kvs := vs) (I.ok.hd hcm) (by rw [hl]; exact st) hat (List.getElem?_eq_none (by omega)) fun h' eb => ⟨rfl, I.turned (t' := s.toks) (fun b o hb e => eb b o hb e) f0 f1 f3 f4 f5⟩
  self := fun _ _ _ _ _ st h => wpAny_pyIter_keyiter st h
def iDictK (td : TE) : TI := fun σ H R => td σ H fun x H1 => ∃ a kvs, x = .ref a /\ Rd H1 a (.dK kvs) /\ ∀ o H2, H2 a = some (.frz o (.dK kvs)) -> FzAt a H1 H2 -> R (ItkK o a kvs) H2
theorem r_iDictK {te : TE} {σ : St} {H : Hp} {Z : It -> Hp -> Prop} : iDictK te σ H Z = te σ H fun x H1 => ∃ a kvs, x = .ref a /\ Rd H1 a (.dK kvs) /\ ∀ o H2, H2 a = some (.frz o (.dK kvs)) -> FzAt a H1 H2 -> Z (ItkK o a kvs) H2 := rfl
theorem pi_dictK {X : Cx} {tg : Expr} {l : Expr} {tl : TE} (hl : PE X l tl) : PI X tg l (iDictK tl) := by
  intro pins s σ H R I h
  refine thn (hl pins s σ H _ I h) fun v s1 ⟨x, H1, I1, r1, q1⟩ => ?_
  obtain ⟨a, kvs, e, hq, q⟩ := q1
  subst e
  cases r1
  obtain ⟨o, es, vs, ep, H2, I2, hfz, hF, hat, g1, g2, g3, hlen, g5⟩ := frzK I1 hq
  refine wpAny_pyIter_dict g5 hat ?_
  refine ⟨s1.heap.objs.size, [s1.heap.objs.size], _, _, _, rfl, I2.kept (t' := s1.toks) fun b o e => Heap.get?_push_of_some _ e, turn_dictK (o := o) (kvs := kvs) (Nat.ne_of_lt (Heap.lt_size g1)) g3, ⟨_, Heap.get?_push_size _ rfl, rfl, by rw [hlen]; rfl⟩, fun b hb => ?_, q o H2 hfz hF⟩
  have e : b = s1.heap.objs.size := by simpa using hb
  subst e
  exact I2.fpOk (Nat.le_refl _) (I2.hok.fresh (Nat.le_refl _))
theorem call_tuple_L {X : Cx} : CallR X (.type "tuple") (fun xs H Q => ∃ p ys, xs = [.ref p] /\ ((SqL X.K H p ys /\ ∀ l, H l = none -> Q (.ref l) (upd H l (.tup ys))) \/ False)) := fun pins s σ H xs us Q I r h => by
  obtain ⟨p, ys, e, h | h⟩ := h
  . exact call_tuple_of pins s σ H xs us Q I r ⟨p, ys, e, .inl h⟩
  . exact h.elim
theorem len1 {α : Type} {us : List α} (h : us.length = 1) : ∃ a, us = [a] := by match us, h with | [a], _ => exact ⟨a, rfl⟩
theorem len2 {α : Type} {us : List α} (h : us.length = 2) : ∃ a b, us = [a, b] := by match us, h with | [a, b], _ => exact ⟨a, b, rfl⟩
theorem len3 {α : Type} {us : List α} (h : us.length = 3) : ∃ a b c, us = [a, b, c] := by match us, h with | [a, b, c], _ => exact ⟨a, b, c, rfl⟩
theorem len4 {α : Type} {us : List α} (h : us.length = 4) : ∃ a b c d, us = [a, b, c, d] := by match us, h with | [a, b, c, d], _ => exact ⟨a, b, c, d, rfl⟩
section
variable {σ : St} {H : Hp} {Q : VK} {K : PySem.W.Frag}
end
section
variable {a : Addr} {n : Int} {b : Bool}
end
end L2
set_option Elab.async false
set_option linter.all false
set_option maxRecDepth 100000
set_option maxHeartbeats 4000000
namespace L2
open PySem PySem.Spec PyProof.Rows
end L2
set_option Elab.async false
set_option linter.all false
set_option maxRecDepth 100000
set_option maxHeartbeats 1000000
namespace L2
open PySem PySem.W PySem.Spec PySem.Calls PyProof.Rows
section
variable {X : Cx} {es : List Expr} {t : TA}
end
end L2
set_option Elab.async false
set_option linter.all false
set_option maxRecDepth 100000
set_option maxHeartbeats 4000000
namespace PySem.W
open PySem PySem.Calls PyProof.Rows PyProof.V PySem.Spec
section
variable {prog : Program} {w : World} {A : Around} {E : Value -> Shared -> Prop} {s : Shared} {r d : Addr} {es : Array DictEntry} {ep : Nat} {od : Obj}
end
section
variable {prog : Program} {w : World} {r d : Addr} {es : Array DictEntry} {ep : Nat} {od : Obj}
end
end PySem.W
set_option Elab.async false
set_option linter.all false
set_option maxRecDepth 100000
set_option maxHeartbeats 4000000
namespace L2
open PySem PySem.Spec PyProof.Rows
end L2
set_option Elab.async false
set_option linter.all false
set_option maxRecDepth 100000
set_option maxHeartbeats 4000000
namespace L2
open PySem PySem.Spec PyProof.Rows
end L2
set_option Elab.async false
set_option linter.all false
namespace L2
open PySem PySem.Spec PyProof.Rows
end L2
set_option Elab.async false
set_option linter.all false
set_option maxRecDepth 100000
set_option maxHeartbeats 4000000
namespace PySem
open Sem (wp)
namespace Heap
section
variable {h base : Heap} {l : List Env} {e L : Addr} {cls a0 cx fl : Value}
end
end Heap
section
variable {M : Model} {A : Around} {E : Value -> Shared -> Prop} {s : Shared} {base : Heap} {env : Env} {outer l : List Env} {L e : Addr} {cls a0 cx fl : Value}
end
end PySem
set_option Elab.async false
set_option linter.all false
set_option maxRecDepth 100000
set_option maxHeartbeats 4000000
namespace L2
open PySem PySem.W PySem.Spec PySem.Calls PyProof.Rows
section
variable {P : Program} {w : World}
end
section
variable {P : Program} {w : World} {K : PySem.W.Frag} {mg : Str -> Option Value} {base : Heap} {N : List Str} {qual : Str} {scope : Scope} {f : Addr} {cd : Value} {A : Around} {outer : List Env} {s : Shared} {H : Hp} {E : XK}
end
section
variable {P : Program} {w : World} {K : PySem.W.Frag} {mg : Str -> Option Value} {base : Heap}
end
end L2
set_option Elab.async false
set_option linter.all false
set_option maxRecDepth 100000
set_option maxHeartbeats 4000000
namespace PySem
open Sem (wp)
section
variable {M : Model} {A : Around} {E : Value -> Shared -> Prop} {env : Env}
variable {nm q : Str} {C N : Addr} {bs bm : List Value} {hdct : Bool} {sn : List Str} {sub : List Value} {ab : Bool} {col : Option Bool} {dd : Option Addr} {k0 k1 k2 k3 k5 : Option Value} {newId : String}
end
section
variable {prog : Program} {w : World} {A : Around} {E : Value -> Shared -> Prop} {s : Shared} {env : Env}
variable {nm q : Str} {C N : Addr} {bs bm bmB : List Value} {hdct : Bool} {sn : List Str} {sub : List Value} {ab : Bool} {col : Option Bool} {dd : Option Addr} {k0 k1 k2 k3 k5 : Option Value} {B Bn newId nid initId inN : String} {bmN : List Value}
end
end PySem
set_option Elab.async false
set_option linter.all false
set_option maxRecDepth 100000
set_option maxHeartbeats 4000000
namespace L2
open PySem PySem.W PySem.Spec PySem.Calls PyProof.Rows
section
variable {P : Program} {w : World} {K : PySem.W.Frag} {mg : Str -> Option Value} {base : Heap} {N : List Str} {qual : Str} {scope : Scope} {f : Addr} {cd : Value} {A : Around} {outer : List Env} {s : Shared} {H : Hp} {Eo : XK}
end
end L2
set_option Elab.async false
set_option linter.all false
set_option maxRecDepth 100000
set_option maxHeartbeats 4000000
namespace L2
open PySem PySem.W PySem.Spec PySem.Calls PyProof.Rows
section
variable {X : Cx} {pins : List (Addr × Obj)} {σ : St} {H : Hp} {s : Shared} {cp : Caps} {sc : Scope} {tg : Expr} {iter elt : Expr} {ifs : List Expr} {pos : Pos} {wi : TI} {g : TG} {tc : TT} {te : TE}
end
end L2
set_option Elab.async false
set_option linter.all false
set_option maxRecDepth 100000
set_option maxHeartbeats 4000000
namespace L2
open PySem PySem.W PySem.Spec PySem.Calls PyProof.Rows
section
variable {X : Cx} {CX : CXT} {k : Nat} {f C : Addr} {fd : FuncData} {ps : List Str} {sp : Sp} {dvs : List V} {ds : List Value} {E : XK} {x m : Str} {np apos pos : Pos} {e : Expr} {es : List Expr} {t : TA}
end
end L2
set_option Elab.async false
set_option linter.all false
set_option maxRecDepth 100000
set_option maxHeartbeats 4000000
namespace L2
open PySem PySem.Spec PyProof.Rows
end L2
set_option Elab.async false
set_option linter.all false
set_option maxRecDepth 100000
namespace L2
open PySem
end L2
set_option Elab.async false
set_option linter.all false
set_option maxRecDepth 100000
set_option maxHeartbeats 4000000
namespace L2
open PySem PySem.W PySem.Spec PySem.Calls PyProof.Rows
end L2
set_option Elab.async false
set_option linter.all false
set_option maxRecDepth 100000
set_option maxHeartbeats 4000000
namespace L2
open PySem PySem.W PySem.Spec PySem.Calls PyProof.Rows
def vD : Option (Option V) -> (V -> Prop) -> Prop
  | some (some v), q => q v
  | _, _ => False
theorem vD_some {v : V} {q : V -> Prop} : vD (some (some v)) q = q v := rfl
theorem vD_ex {o : Option (Option V)} {q : V -> Prop} (h : vD o q) : ∃ v, o = some (some v) /\ q v := by
  match o, h with
  | some (some v), h => exact ⟨v, rfl, h⟩
def tVarD (i : Nat) : TE := fun σ H Q => vD σ[i]? fun v => Q v H
theorem r_varD {i : Nat} {σ : St} {H : Hp} {Q : VK} : tVarD i σ H Q = vD σ[i]? fun v => Q v H := rfl
theorem pvD {X : Cx} (i : Nat) {x : Str} {pos : Pos} (hN : X.N[i]? = some x := by rfl) (hv : Vis X.env.scope x := by first | exact Or.inl rfl | exact Or.inr (Or.inl rfl) | exact Or.inr (Or.inr rfl)) (hd : (x == ("__debug__" : Str)) = false := by decide)
    (hcd : (x == ("__classdict__" : Str)) = false := by decide) : PE X (.Name x pos) (tVarD i) := fun pins s σ H Q I h => pv i hN hv hd hcd pins s σ H Q I (vD_ex h)
def iD : V -> V -> (Int -> Int -> Prop) -> Prop
  | .int i, .int j, q => q i j
  | x, y, q => ∃ i j, x = .int i /\ y = .int j /\ q i j
theorem iD_int {i j : Int} {q : Int -> Int -> Prop} : iD (.int i) (.int j) q = q i j := rfl
theorem iD_ex {x y : V} {q : Int -> Int -> Prop} : iD x y q = ∃ i j, x = .int i /\ y = .int j /\ q i j := by
  cases x <;> cases y <;> first | rfl | (simp [iD])
def rID (C : Int -> Int -> Prop) (g : Int -> Int -> V) : R2 := fun x y H Q => iD x y fun i j => C i j /\ Q (g i j) H
def rI0D (g : Int -> Int -> V) : R2 := fun x y H Q => iD x y fun i j => Q (g i j) H
theorem r_ID {C : Int -> Int -> Prop} {f : Int -> Int -> V} {x y : V} {H : Hp} {Q : VK} : rID C f x y H Q = iD x y fun i j => C i j /\ Q (f i j) H := rfl
theorem r_I0D {f : Int -> Int -> V} {x y : V} {H : Hp} {Q : VK} : rI0D f x y H Q = iD x y fun i j => Q (f i j) H := rfl
theorem rID_eq {C : Int -> Int -> Prop} {g : Int -> Int -> V} : rID C g = rI C g := by
  funext x y H Q; exact iD_ex
theorem rI0D_eq {g : Int -> Int -> V} : rI0D g = rI0 g := by
  funext x y H Q; exact iD_ex
theorem opD {X : Cx} {f : Value -> Value -> Sem Value} {C : Int -> Int -> Prop} {g : Int -> Int -> V} (h : OpR X f (rI C g)) : OpR X f (rID C g) := by rw [rID_eq]; exact h
theorem opD0 {X : Cx} {f : Value -> Value -> Sem Value} {g : Int -> Int -> V} (h : OpR X f (rI0 g)) : OpR X f (rI0D g) := by rw [rI0D_eq]; exact h
def bD : V -> (Bool -> Prop) -> Prop
  | .bl c, q => q c
  | x, q => ∃ c, x = .bl c /\ q c
theorem bD_bl {c : Bool} {q : Bool -> Prop} : bD (.bl c) q = q c := rfl
theorem bD_ex {x : V} {q : Bool -> Prop} : bD x q = ∃ c, x = .bl c /\ q c := by
  cases x <;> first | rfl | (simp [bD])
def tBD (t : TE) : TT := fun σ H Q => t σ H fun x H1 => bD x fun c => Q c H1
theorem r_BD {te : TE} {σ : St} {H : Hp} {R : Bool -> Hp -> Prop} : tBD te σ H R = te σ H fun x H1 => bD x fun c => R c H1 := rfl
theorem tBD_eq {t : TE} : tBD t = tB t := by
  funext σ H Q
  show t σ H _ = t σ H _
  congr 1
  funext x H1; exact bD_ex
theorem tBD_eqT {t : TE} : tBD t = tTest t := tBD_eq
theorem ptB {X : Cx} {e : Expr} {t : TE} (h : PT X e (tB t)) : PT X e (tBD t) := by rw [tBD_eq]; exact h
theorem ptT {X : Cx} {e : Expr} {t : TE} (h : PT X e (tTest t)) : PT X e (tBD t) := by rw [tBD_eqT]; exact h
def eD : V -> V -> Prop -> Prop
  | .int _, .int _, q => q
  | .str _, .str _, q => q
  | .non, .non, q => q
  | .bl _, .bl _, q => q
  | x, y, q => scal x y = true /\ q
theorem eD_int {i j : Int} {q : Prop} : eD (.int i) (.int j) q = q := rfl
theorem eD_str {i j : Str} {q : Prop} : eD (.str i) (.str j) q = q := rfl
theorem eD_non {q : Prop} : eD .non .non q = q := rfl
theorem eD_bl {i j : Bool} {q : Prop} : eD (.bl i) (.bl j) q = q := rfl
theorem eD_ex {x y : V} {q : Prop} : eD x y q = (scal x y = true /\ q) := by
  cases x <;> cases y <;> first | rfl | (simp [eD, scal])
def rEqF : R2 := fun x y H Q => eD x y (Q (.bl (decide (x = y))) H)
def rNeF : R2 := fun x y H Q => eD x y (Q (.bl (!decide (x = y))) H)
theorem r_EqF {x y : V} {H : Hp} {Q : VK} : rEqF x y H Q = eD x y (Q (.bl (decide (x = y))) H) := rfl
theorem r_NeF {x y : V} {H : Hp} {Q : VK} : rNeF x y H Q = eD x y (Q (.bl (!decide (x = y))) H) := rfl
theorem rEqF_eq : rEqF = rEq := by funext x y H Q; exact eD_ex
theorem rNeF_eq : rNeF = rNe := by funext x y H Q; exact eD_ex
theorem opE {X : Cx} {f : Value -> Value -> Sem Value} (h : OpR X f rEq) : OpR X f rEqF := by rw [rEqF_eq]; exact h
theorem opN {X : Cx} {f : Value -> Value -> Sem Value} (h : OpR X f rNe) : OpR X f rNeF := by rw [rNeF_eq]; exact h
def aD : V -> (Addr -> Prop) -> Prop
  | .ref a, q => q a
  | x, q => ∃ a, x = .ref a /\ q a
theorem aD_ref {a : Addr} {q : Addr -> Prop} : aD (.ref a) q = q a := rfl
theorem aD_ex {x : V} {q : Addr -> Prop} : aD x q = ∃ a, x = .ref a /\ q a := by
  cases x <;> first | rfl | (simp [aD])
def nD : V -> (Int -> Prop) -> Prop
  | .int a, q => q a
  | x, q => ∃ a, x = .int a /\ q a
theorem nD_int {a : Int} {q : Int -> Prop} : nD (.int a) q = q a := rfl
theorem nD_ex {x : V} {q : Int -> Prop} : nD x q = ∃ a, x = .int a /\ q a := by
  cases x <;> first | rfl | (simp [nD])
def rIxTD (K : PySem.W.Frag) : R2 := fun x y H Q => aD x fun p => ∃ xs, nD y fun i => SqT K H p xs /\ ∃ v, atI xs i = some v /\ Q v H
def rIxLD (K : PySem.W.Frag) : R2 := fun x y H Q => aD x fun p => ∃ xs, nD y fun i => SqL K H p xs /\ ∃ v, atI xs i = some v /\ Q v H
theorem r_ixTD {K : PySem.W.Frag} {x y : V} {H : Hp} {Q : VK} : rIxTD K x y H Q = aD x fun p => ∃ xs, nD y fun i => SqT K H p xs /\ ∃ v, atI xs i = some v /\ Q v H := rfl
theorem r_ixLD {K : PySem.W.Frag} {x y : V} {H : Hp} {Q : VK} : rIxLD K x y H Q = aD x fun p => ∃ xs, nD y fun i => SqL K H p xs /\ ∃ v, atI xs i = some v /\ Q v H := rfl
theorem rIxTD_eq {K : PySem.W.Frag} : rIxTD K = rIxT K := by
  funext x y H Q
  show aD x _ = ∃ p xs i v, _
  rw [aD_ex]
  refine propext ⟨fun ⟨p, e, h⟩ => ?_, fun ⟨p, xs, i, v, e1, e2, e3, e4, e5⟩ => ⟨p, e1, ?_⟩⟩
  . obtain ⟨xs, h⟩ := h
    rw [nD_ex] at h
    obtain ⟨i, e2, e3, v, e4, e5⟩ := h
    exact ⟨p, xs, i, v, e, e2, e3, e4, e5⟩
  . refine ⟨xs, ?_⟩
    rw [nD_ex]
    exact ⟨i, e2, e3, v, e4, e5⟩
theorem rIxLD_eq {K : PySem.W.Frag} : rIxLD K = rIxL K := by
  funext x y H Q
  show aD x _ = ∃ p xs i v, _
  rw [aD_ex]
  refine propext ⟨fun ⟨p, e, h⟩ => ?_, fun ⟨p, xs, i, v, e1, e2, e3, e4, e5⟩ => ⟨p, e1, ?_⟩⟩
  . obtain ⟨xs, h⟩ := h
    rw [nD_ex] at h
    obtain ⟨i, e2, e3, v, e4, e5⟩ := h
    exact ⟨p, xs, i, v, e, e2, e3, e4, e5⟩
  . refine ⟨xs, ?_⟩
    rw [nD_ex]
    exact ⟨i, e2, e3, v, e4, e5⟩
theorem ixTD {X : Cx} {K : PySem.W.Frag} (h : IxR X (rIxT K)) : IxR X (rIxTD K) := by rw [rIxTD_eq]; exact h
theorem ixLD {X : Cx} {K : PySem.W.Frag} (h : IxR X (rIxL K)) : IxR X (rIxLD K) := by rw [rIxLD_eq]; exact h
def lD1 : List V -> (V -> Prop) -> Prop
  | [x], q => q x
  | xs, q => ∃ x, xs = [x] /\ q x
theorem lD1_one {x : V} {q : V -> Prop} : lD1 [x] q = q x := rfl
theorem lD1_ex {xs : List V} {q : V -> Prop} : lD1 xs q = ∃ x, xs = [x] /\ q x := by
  match xs with
  | [] => rfl
  | [x] => simp [lD1]
  | x :: y :: r => rfl
def rLenD (K : PySem.W.Frag) : List V -> Hp -> VK -> Prop := fun xs H Q => lD1 xs fun x => aD x fun p => ∃ ys, (SqL K H p ys \/ SqT K H p ys) /\ Q (.int ys.length) H
theorem r_lenD {K : PySem.W.Frag} {xs : List V} {H : Hp} {Q : VK} : rLenD K xs H Q = lD1 xs fun x => aD x fun p => ∃ ys, (SqL K H p ys \/ SqT K H p ys) /\ Q (.int ys.length) H := rfl
theorem lenD {X : Cx} {K : PySem.W.Frag} {f : Value} (h : CallR X f (fun xs H Q => ∃ p ys, xs = [.ref p] /\ (SqL K H p ys \/ SqT K H p ys) /\ Q (.int ys.length) H)) : CallR X f (rLenD K) := by
  have e : rLenD K = fun xs H Q => ∃ p ys, xs = [.ref p] /\ (SqL K H p ys \/ SqT K H p ys) /\ Q (.int ys.length) H := by
    funext xs H Q
    show lD1 xs _ = _
    rw [lD1_ex]
    refine propext ⟨fun ⟨x, e, h⟩ => ?_, fun ⟨p, ys, e, h1, h2⟩ => ⟨_, e, ys, h1, h2⟩⟩
    rw [aD_ex] at h
    obtain ⟨p, rfl, ys, h1, h2⟩ := h
    exact ⟨p, ys, e, h1, h2⟩
  rw [e]; exact h
theorem ps_setL {X : Cx} {i : Nat} {x : Str} {e : Expr} {te : TE} {pos pos' : Pos} (hN : X.N.Nodup) (he : PE X e te) (hi : X.N[i]? = some x := by rfl) (hx : Loc X.env.scope x := by exact Or.inl rfl) (hs : swapsWith e (some (.Name x pos')) pos.line X.env = pure false := by rfl) (hf : X.fn x = true \/ X.env.scope.names.lookup x = some .local := by first | exact .inl rfl | exact .inr rfl | assumption) : PS X (.Assign [.Name x pos'] e pos) (tAsg te (gName i)) := ps_set hN hi hx he hs hf
theorem pe_ixA {X : Cx} {r : R2} {a b : Expr} {ta tb : TE} {pos : Pos} (hr : IxR X r) (ha : PE X a ta) (hb : PE X b tb) (hs : PlainIx b := by exact fun _ _ => rfl) : PE X (.Subscript a b pos) (tOp r ta tb) := pe_ix hr ha hb hs
end L2
set_option Elab.async false
set_option linter.all false
set_option maxRecDepth 100000
set_option maxHeartbeats 4000000
namespace PySem
open Sem (wp)
structure VKind (prog : Program) (w : World) (K : Type) [DecidableEq K] where
  is : Heap -> K -> Value -> Prop
  hash : K -> Int
  draws : K -> Nat
  room : Around -> Prop
  inj : ∀ {h : Heap} {a : Value} {x y : K}, is h x a -> is h y a -> x = y
  keeps : ∀ {h h' : Heap} {k : K} {a : Value} {d : Addr} {o : Obj} {es ep}, is h k a -> h.get? d = some o -> o.data = .dict es ep -> Heap.SameBut d h h' -> is h' k a
  pyHash : ∀ {A : Around} {E : Value -> Shared -> Prop} {s : Shared} {k : K} {a : Addr} {Q : Int -> Shared -> Prop}, room A -> is s.heap k (.ref a) -> Q (hash k) { s with toks := s.toks + draws k } -> wpAny (model prog w) A (PySem.pyHash (.ref a)) Q E s
  eqBool : ∀ {A : Around} {E : Value -> Shared -> Prop} {s : Shared} {x y : K} {u : Value} {b : Addr} {Q : Bool -> Shared -> Prop}, room A -> is s.heap x u -> is s.heap y (.ref b) -> Q (decide (x = y)) s -> wpAny (model prog w) A (PySem.eqBool u (.ref b)) Q E s
  quiet : ∀ {A : Around} {E : Value -> Shared -> Prop} {s : Shared} {k : K} {a : Value} {Q : Bool -> Shared -> Prop}, room A -> is s.heap k a -> Q true s -> wpAny (model prog w) A (eqIsQuiet 8 a) Q E s
section
variable {K : Type} [DecidableEq K] {xs : List (K × Value × Value)} {k : K}
end
section
variable {prog : Program} {w : World} {K : Type} [DecidableEq K] (knd : VKind prog w K)
variable {knd} {A : Around} {E : Value -> Shared -> Prop} {s : Shared} {d a : Addr} {k : K} {xs : List (K × Value × Value)} {es : Array DictEntry}
end
end PySem
set_option Elab.async false
set_option linter.all false
set_option maxRecDepth 100000
set_option maxHeartbeats 4000000
namespace PySem
open Sem (wp)
abbrev NI := Int ⊕ List Int
abbrev NK := Option (List NI)
section
variable {prog : Program} {w : World}
variable {A : Around} {E : Value -> Shared -> Prop} {s : Shared}
end
end PySem
set_option Elab.async false
set_option linter.all false
set_option maxRecDepth 100000
set_option maxHeartbeats 4000000
namespace PySem
open Sem (wp)
end PySem
namespace L2
open PySem PySem.W PySem.Spec PySem.Calls PyProof.Rows
section
variable {P : Program} {w : World} {H : Hp} {h : Heap}
end
section
variable {X : Cx} {pins : List (Addr × Obj)} {σ : St} {H : Hp} {s : Shared} {a : Addr} {kvs : List (NK × V)}
end
section
variable {X : Cx} {pins : List (Addr × Obj)} {σ : St} {H : Hp} {s : Shared} {a : Addr} {y v : V} {u r : Value} {o : Option V} {A : Around} {E : Value -> Shared -> Prop}
end
section
variable {X : Cx} {o i value : Expr} {pos pos' : Pos} {td ty tv : TE} {P : Program} {w : World}
end
end L2
set_option Elab.async false
set_option linter.all false
set_option maxRecDepth 100000
set_option maxHeartbeats 4000000
namespace L2
open PySem PySem.W PySem.Spec PySem.Calls PyProof.Rows
end L2
set_option Elab.async false
set_option linter.all false
set_option maxRecDepth 100000
set_option maxHeartbeats 4000000
namespace L2
open PySem PySem.W PySem.Spec PySem.Calls PyProof.Rows
def TSq (K : PySem.W.Frag) (H H' : Hp) : Prop := ∀ b ys, SqT K H b ys -> SqT K H' b ys
section
variable {X : Cx} {pins : List (Addr × Obj)} {σ : St} {H : Hp} {s : Shared}
end
section
variable {X : Cx} {pins : List (Addr × Obj)} {σ : St} {H : Hp} {s : Shared} {a : Addr} {kvs : List (NK × V)}
end
section
variable {X : Cx} {pins : List (Addr × Obj)} {σ : St} {H : Hp} {s : Shared} {a : Addr} {y v : V} {u r : Value} {o : Option V} {A : Around} {E : Value -> Shared -> Prop}
end
section
variable {X : Cx} {o i value : Expr} {pos pos' : Pos} {td ty tv : TE} {P : Program} {w : World} {K : PySem.W.Frag}
end
end L2
set_option Elab.async false
set_option linter.all false
set_option maxRecDepth 100000
set_option maxHeartbeats 4000000
namespace S64
open PySem PyProof.Rows
def KE (κ : KeyKind) (x : Keyed) : κ.α := (κ.keyOf x.1).getD κ.dflt
def NI (κ : KeyKind) (xs : Array Keyed) (lo hi : Nat) : Prop := ∀ i j, lo <= i -> i <= j -> j < hi -> κ.kle (KK κ xs j) (KK κ xs i)
section
variable {prog : Program} {w : World} {A : Around} {E : Value -> Shared -> Prop} {s : Shared} {a₀ : Array Keyed} {κ : KeyKind} {kd : SortKind}
end
end S64
set_option Elab.async false
set_option linter.all false
set_option maxRecDepth 100000
set_option maxHeartbeats 4000000
namespace S64
open PySem PyProof.Rows
def gallop' : Bool -> Keyed -> Array Keyed -> Nat -> Nat -> Nat -> StateT SortSt Sem (Option Nat) := sortPriv% PySem.Builtin.gallop
section
variable {prog : Program} {w : World} {A : Around} {E : Value -> Shared -> Prop} {s : Shared} {a₀ : Array Keyed} {κ : KeyKind} {kd : SortKind}
end
end S64
set_option Elab.async false
set_option linter.all false
set_option maxRecDepth 100000
set_option maxHeartbeats 4000000
namespace S64
open PySem PyProof.Rows
def setMinGallop' : Nat -> StateT SortSt Sem Unit := sortPriv% PySem.Builtin.setMinGallop
def doneL (a b out : Array Keyed) (ia ib : Nat) : Array Keyed := out ++ a.extract ia a.size ++ b.extract ib b.size
def lastA (a b out : Array Keyed) (ia ib : Nat) : Array Keyed := out ++ b.extract ib b.size ++ a.extract ia a.size
section
variable {α : Type} {R : α -> α -> Prop} {A B out : List α} {ia ib : Nat}
end
end S64
set_option Elab.async false
set_option linter.all false
set_option maxRecDepth 100000
set_option maxHeartbeats 4000000
namespace S64
open PySem PyProof.Rows
abbrev G5 := Option (Array Keyed) × Array Keyed × Nat × Nat × Nat
abbrev G6 := Option (Array Keyed) × Array Keyed × Nat × Nat × Nat × Nat
abbrev G7 := Option (Array Keyed) × Array Keyed × Nat × Nat × Nat × Nat × Nat
def PC (a b out : Array Keyed) (ia ib mg ac bc : Nat) : StateT SortSt Sem (ForInStep G7) := do
  let y <- elem' a ia
  if (ia + 1 + 1 == a.size) = true then pure (.done (some (lastA a b (out.push y) (ia + 1) ib), out.push y, ia + 1, ib, mg, ac, bc))
  else if (decide (ac < 7) && decide (bc < 7)) = true then pure (.done (none, out.push y, ia + 1, ib, mg, ac, bc)) else pure (.yield (none, out.push y, ia + 1, ib, mg, ac, bc))
def PB (a b out : Array Keyed) (ia ib mg ac bc : Nat) : StateT SortSt Sem (ForInStep G7) := do
  let y <- elem' b ib
  if (ib + 1 == b.size) = true then pure (.done (some (doneL a b (out.push y) ia (ib + 1)), out.push y, ia, ib + 1, mg, ac, bc))
  else do
    let z <- elem' a ia
    let x <- gallop' true z b (ib + 1) (b.size - (ib + 1)) 0
    match x with
    | some k => if k > 0 then (if (ib + 1 + k == b.size) = true then pure (.done (some (doneL a b (out.push y ++ b.extract (ib + 1) (ib + 1 + k)) ia (ib + 1 + k)), out.push y ++ b.extract (ib + 1) (ib + 1 + k), ia, ib + 1 + k, mg, ac, k)) else PC a b (out.push y ++ b.extract (ib + 1) (ib + 1 + k)) ia (ib + 1 + k) mg ac k) else PC a b (out.push y) ia (ib + 1) mg ac k
    | _ => pure (.done (some (doneL a b (out.push y) ia (ib + 1)), out.push y, ia, ib + 1, mg, ac, bc))
def PA (a b out : Array Keyed) (ia ib mg ac bc : Nat) : StateT SortSt Sem (ForInStep G7) := do
  setMinGallop' mg
  let y <- elem' b ib
  let x <- gallop' false y a ia (a.size - ia) 0
  match x with
  | some k => if k > 0 then (if (ia + k + 1 == a.size) = true then pure (.done (some (lastA a b (out ++ a.extract ia (ia + k)) (ia + k) ib), out ++ a.extract ia (ia + k), ia + k, ib, mg, k, bc)) else if (ia + k == a.size) = true then pure (.done (some (doneL a b (out ++ a.extract ia (ia + k)) (ia + k) ib), out ++ a.extract ia (ia + k), ia + k, ib, mg, k, bc)) else PB a b (out ++ a.extract ia (ia + k)) (ia + k) ib mg k bc) else PB a b out ia ib mg k bc
  | _ => pure (.done (some (doneL a b out ia ib), out, ia, ib, mg, ac, bc))
def P1 (a b : Array Keyed) (mg : Nat) (c : G6) : StateT SortSt Sem (ForInStep G6) := do
  let y <- elem' b c.2.2.2.1
  let z <- elem' a c.2.2.1
  let x <- lt' y z
  match x with
  | some bWins =>
    if bWins = true then
      elem' b c.2.2.2.1 >>= fun y =>
      if (c.2.2.2.1 + 1 == b.size) = true then pure (.done (some (doneL a b (c.2.1.push y) c.2.2.1 (c.2.2.2.1 + 1)), c.2.1.push y, c.2.2.1, c.2.2.2.1 + 1, 0, c.2.2.2.2.2 + 1))
      else if c.2.2.2.2.2 + 1 >= mg then pure (.done (none, c.2.1.push y, c.2.2.1, c.2.2.2.1 + 1, 0, c.2.2.2.2.2 + 1)) else pure (.yield (none, c.2.1.push y, c.2.2.1, c.2.2.2.1 + 1, 0, c.2.2.2.2.2 + 1))
    else
      elem' a c.2.2.1 >>= fun y =>
      if (c.2.2.1 + 1 + 1 == a.size) = true then pure (.done (some (lastA a b (c.2.1.push y) (c.2.2.1 + 1) c.2.2.2.1), c.2.1.push y, c.2.2.1 + 1, c.2.2.2.1, c.2.2.2.2.1 + 1, 0))
      else if c.2.2.2.2.1 + 1 >= mg then pure (.done (none, c.2.1.push y, c.2.2.1 + 1, c.2.2.2.1, c.2.2.2.2.1 + 1, 0)) else pure (.yield (none, c.2.1.push y, c.2.2.1 + 1, c.2.2.2.1, c.2.2.2.2.1 + 1, 0))
  | _ => pure (.done (some (doneL a b c.2.1 c.2.2.1 c.2.2.2.1), c.2.1, c.2.2.1, c.2.2.2.1, c.2.2.2.2.1, c.2.2.2.2.2))
def P2 (a b : Array Keyed) (c : G7) : StateT SortSt Sem (ForInStep G7) := if c.2.2.2.2.1 > 1 then PA a b c.2.1 c.2.2.1 c.2.2.2.1 (c.2.2.2.2.1 - 1) c.2.2.2.2.2.1 c.2.2.2.2.2.2 else PA a b c.2.1 c.2.2.1 c.2.2.2.1 c.2.2.2.2.1 c.2.2.2.2.2.1 c.2.2.2.2.2.2
def PO (a b : Array Keyed) (c : G5) : StateT SortSt Sem (ForInStep G5) := do
  let d <- forIn [0:a.size + b.size] ((none, c.2.1, c.2.2.1, c.2.2.2.1, 0, 0) : G6) fun _ d => P1 a b c.2.2.2.2 d
  match d.1 with
  | some r => pure (.done (some r, d.2.1, d.2.2.1, d.2.2.2.1, c.2.2.2.2))
  | none => do
    liftM (rule "list.sort.gallop")
    let e <- forIn [0:a.size + b.size] ((none, d.2.1, d.2.2.1, d.2.2.2.1, c.2.2.2.2 + 1, d.2.2.2.2.1, d.2.2.2.2.2) : G7) fun _ e => P2 a b e
    match e.1 with
    | some r => pure (.done (some r, e.2.1, e.2.2.1, e.2.2.2.1, e.2.2.2.2.1))
    | none => do
      setMinGallop' (e.2.2.2.2.1 + 1)
      pure (.yield (none, e.2.1, e.2.2.1, e.2.2.2.1, e.2.2.2.2.1 + 1))
end S64
set_option Elab.async false
set_option linter.all false
set_option maxRecDepth 100000
set_option maxHeartbeats 4000000
namespace S64
open PySem PyProof.Rows
section
variable {prog : Program} {w : World} {A : Around} {E : Value -> Shared -> Prop} {s : Shared} {a₀ : Array Keyed} {κ : KeyKind} {kd : SortKind}
section
variable {a b out : Array Keyed} {ia ib : Nat}
end
section
variable {a b : Array Keyed}
end
end
end S64
set_option Elab.async false
set_option linter.all false
set_option maxRecDepth 100000
set_option maxHeartbeats 4000000
namespace S64
open PySem PyProof.Rows
def doneH (a b out : Array Keyed) (na nb : Nat) : Array Keyed := a.extract 0 na ++ b.extract 0 nb ++ out.reverse
def firstB (a b out : Array Keyed) (na nb : Nat) : Array Keyed := b.extract 0 nb ++ a.extract 0 na ++ out.reverse
abbrev H5 := Option (Array Keyed) × Nat × Nat × Array Keyed × Nat
abbrev H6 := Option (Array Keyed) × Nat × Nat × Array Keyed × Nat × Nat
abbrev H7 := Option (Array Keyed) × Nat × Nat × Array Keyed × Nat × Nat × Nat
def HC (a b out : Array Keyed) (na nb mg ac bc : Nat) : StateT SortSt Sem (ForInStep H7) := do
  let y <- elem' a (na - 1)
  if (na - 1 == 0) = true then pure (.done (some (doneH a b (out.push y) (na - 1) nb), na - 1, nb, out.push y, mg, ac, bc))
  else if (decide (ac < 7) && decide (bc < 7)) = true then pure (.done (none, na - 1, nb, out.push y, mg, ac, bc)) else pure (.yield (none, na - 1, nb, out.push y, mg, ac, bc))
def HB (a b out : Array Keyed) (na nb mg ac bc : Nat) : StateT SortSt Sem (ForInStep H7) := do
  let y <- elem' b (nb - 1)
  if (nb - 1 == 1) = true then pure (.done (some (firstB a b (out.push y) na (nb - 1)), na, nb - 1, out.push y, mg, ac, bc))
  else do
    let z <- elem' a (na - 1)
    let x <- gallop' true z b 0 (nb - 1) (nb - 1 - 1)
    match x with
    | some t => if nb - 1 - t > 0 then (if (t == 1) = true then pure (.done (some (firstB a b (out.push y ++ (b.extract t (nb - 1)).reverse) na t), na, t, out.push y ++ (b.extract t (nb - 1)).reverse, mg, ac, nb - 1 - t)) else if (t == 0) = true then pure (.done (some (doneH a b (out.push y ++ (b.extract t (nb - 1)).reverse) na t), na, t, out.push y ++ (b.extract t (nb - 1)).reverse, mg, ac, nb - 1 - t)) else HC a b (out.push y ++ (b.extract t (nb - 1)).reverse) na t mg ac (nb - 1 - t)) else HC a b (out.push y) na (nb - 1) mg ac (nb - 1 - t)
    | _ => pure (.done (some (doneH a b (out.push y) na (nb - 1)), na, nb - 1, out.push y, mg, ac, bc))
def HA (a b out : Array Keyed) (na nb mg ac bc : Nat) : StateT SortSt Sem (ForInStep H7) := do
  setMinGallop' mg
  let y <- elem' b (nb - 1)
  let x <- gallop' false y a 0 na (na - 1)
  match x with
  | some t => if na - t > 0 then (if (t == 0) = true then pure (.done (some (doneH a b (out ++ (a.extract t na).reverse) t nb), t, nb, out ++ (a.extract t na).reverse, mg, na - t, bc)) else HB a b (out ++ (a.extract t na).reverse) t nb mg (na - t) bc) else HB a b out na nb mg (na - t) bc
  | _ => pure (.done (some (doneH a b out na nb), na, nb, out, mg, ac, bc))
def H1 (a b : Array Keyed) (mg : Nat) (c : H6) : StateT SortSt Sem (ForInStep H6) := do
  let y <- elem' b (c.2.2.1 - 1)
  let z <- elem' a (c.2.1 - 1)
  let x <- lt' y z
  match x with
  | some aWins =>
    if aWins = true then
      elem' a (c.2.1 - 1) >>= fun y =>
      if (c.2.1 - 1 == 0) = true then pure (.done (some (doneH a b (c.2.2.2.1.push y) (c.2.1 - 1) c.2.2.1), c.2.1 - 1, c.2.2.1, c.2.2.2.1.push y, c.2.2.2.2.1 + 1, 0))
      else if c.2.2.2.2.1 + 1 >= mg then pure (.done (none, c.2.1 - 1, c.2.2.1, c.2.2.2.1.push y, c.2.2.2.2.1 + 1, 0)) else pure (.yield (none, c.2.1 - 1, c.2.2.1, c.2.2.2.1.push y, c.2.2.2.2.1 + 1, 0))
    else
      elem' b (c.2.2.1 - 1) >>= fun y =>
      if (c.2.2.1 - 1 == 1) = true then pure (.done (some (firstB a b (c.2.2.2.1.push y) c.2.1 (c.2.2.1 - 1)), c.2.1, c.2.2.1 - 1, c.2.2.2.1.push y, 0, c.2.2.2.2.2 + 1))
      else if c.2.2.2.2.2 + 1 >= mg then pure (.done (none, c.2.1, c.2.2.1 - 1, c.2.2.2.1.push y, 0, c.2.2.2.2.2 + 1)) else pure (.yield (none, c.2.1, c.2.2.1 - 1, c.2.2.2.1.push y, 0, c.2.2.2.2.2 + 1))
  | _ => pure (.done (some (doneH a b c.2.2.2.1 c.2.1 c.2.2.1), c.2.1, c.2.2.1, c.2.2.2.1, c.2.2.2.2.1, c.2.2.2.2.2))
def H2 (a b : Array Keyed) (c : H7) : StateT SortSt Sem (ForInStep H7) := if c.2.2.2.2.1 > 1 then HA a b c.2.2.2.1 c.2.1 c.2.2.1 (c.2.2.2.2.1 - 1) c.2.2.2.2.2.1 c.2.2.2.2.2.2 else HA a b c.2.2.2.1 c.2.1 c.2.2.1 c.2.2.2.2.1 c.2.2.2.2.2.1 c.2.2.2.2.2.2
def HO (a b : Array Keyed) (c : H5) : StateT SortSt Sem (ForInStep H5) := do
  let d <- forIn [0:a.size + b.size] ((none, c.2.1, c.2.2.1, c.2.2.2.1, 0, 0) : H6) fun _ d => H1 a b c.2.2.2.2 d
  match d.1 with
  | some r => pure (.done (some r, d.2.1, d.2.2.1, d.2.2.2.1, c.2.2.2.2))
  | none => do
    liftM (rule "list.sort.gallop")
    let e <- forIn [0:a.size + b.size] ((none, d.2.1, d.2.2.1, d.2.2.2.1, c.2.2.2.2 + 1, d.2.2.2.2.1, d.2.2.2.2.2) : H7) fun _ e => H2 a b e
    match e.1 with
    | some r => pure (.done (some r, e.2.1, e.2.2.1, e.2.2.2.1, e.2.2.2.2.1))
    | none => do
      setMinGallop' (e.2.2.2.2.1 + 1)
      pure (.yield (none, e.2.1, e.2.2.1, e.2.2.2.1, e.2.2.2.2.1 + 1))
section
variable {α : Type} {R : α -> α -> Prop} {A B : List α}
end
section
variable {prog : Program} {w : World} {A : Around} {E : Value -> Shared -> Prop} {s : Shared} {a₀ : Array Keyed} {κ : KeyKind} {kd : SortKind} {a b out : Array Keyed} {na nb : Nat}
end
end S64
set_option Elab.async false
set_option linter.all false
set_option maxRecDepth 100000
set_option maxHeartbeats 4000000
namespace S64
open PySem PyProof.Rows
section
variable {prog : Program} {w : World} {A : Around} {E : Value -> Shared -> Prop} {s : Shared} {a₀ : Array Keyed} {κ : KeyKind} {kd : SortKind}
section
variable {xs : Array Keyed} {lo k l r : Nat}
end
end
end S64
set_option Elab.async false
set_option linter.all false
set_option maxRecDepth 100000
set_option maxHeartbeats 4000000
namespace S64
open PySem PyProof.Rows
def wr (a : Array Keyed) (base : Nat) (r : List Keyed) (n : Nat) : Array Keyed := (r.zipIdx n).foldl (fun a (p, j) => a.setIfInBounds (base + j) p) a
section
variable {prog : Program} {w : World} {A : Around} {E : Value -> Shared -> Prop} {s : Shared} {a₀ : Array Keyed} {κ : KeyKind} {kd : SortKind}
end
end S64
set_option Elab.async false
set_option linter.all false
set_option maxRecDepth 100000
set_option maxHeartbeats 4000000
namespace S64
open PySem PyProof.Rows
section
variable {prog : Program} {w : World} {A : Around} {E : Value -> Shared -> Prop} {s : Shared} {a₀ : Array Keyed} {κ : KeyKind} {kd : SortKind}
end
end S64
set_option Elab.async false
set_option linter.all false
set_option maxRecDepth 100000
set_option maxHeartbeats 4000000
namespace HT
theorem lexLt_trans : ∀ {xs ys zs : List Int}, lexLt xs ys = true -> lexLt ys zs = true -> lexLt xs zs = true
  | [], [], _, h, _ => by cases h
  | _ :: _, [], _, h, _ => by cases h
  | _, _ :: _, [], _, h => by cases h
  | [], _ :: _, _ :: _, _, _ => rfl
  | x :: xs, y :: ys, z :: zs, h, g => by
    rw [lexLt_cons] at h g ⊢
    by_cases e1 : x = y
    . rw [if_pos e1] at h
      by_cases e2 : y = z
      . rw [if_pos e2] at g; rw [if_pos (e1.trans e2)]; exact lexLt_trans h g
      . rw [if_neg e2] at g; rw [if_neg (e1 ▸ e2), e1]; exact g
    . rw [if_neg e1] at h
      by_cases e2 : y = z
      . rw [if_neg (e2 ▸ e1), <- e2]; exact h
      . rw [if_neg e2] at g
        have := of_decide_eq_true h
        have := of_decide_eq_true g
        rw [if_neg (by omega)]
        exact decide_eq_true (by omega)
end HT
namespace S64
open PySem PyProof.Rows L2
section
variable {X : Cx} {pins : List (Addr × Obj)} {σ : L2.St} {H : Hp} {s : Shared}
end
end S64
set_option Elab.async false
set_option linter.all false
set_option maxRecDepth 100000
set_option maxHeartbeats 4000000
namespace S64
open PySem PyProof.Rows L2
abbrev Wd := Addr × List Int
def wv (ws : List Wd) : List V := ws.map fun w => V.ref w.1
def wu (ws : List Wd) : List Value := ws.map fun w => Value.ref w.1
theorem vals_ref : ∀ {ts : List Addr} {us : List Value}, Vals (ts.map V.ref) us -> us = ts.map Value.ref
  | [], _, h => by cases h; rfl
  | t :: ts, _, h => by
    cases h with
    | cons e r =>
      have e' : _ = Value.ref t := e
      rw [vals_ref r, e']; rfl
def WsOk (K : PySem.W.Frag) (H : Hp) (ws : List Wd) : Prop := ∀ w ∈ ws, SqT K H w.1 (w.2.map V.int)
section
variable {X : Cx} {pins : List (Addr × Obj)} {σ : L2.St} {H H0 : Hp} {s : Shared} {A : Around} {E : Value -> Shared -> Prop} {ws : List Wd} {ts : List Addr} {a kT : Addr} {e1 : Nat} {P : PySem.Fin -> Shared -> Prop} {f : Value}
def Turn (X : Cx) (pins : List (Addr × Obj)) (σ : L2.St) (A : Around) (f : Value) (ws : List Wd) (H0 : Hp) : Prop := ∀ w ∈ ws, ∀ (H' : Hp) (s' : Shared), Inv X pins σ H' s' -> Same H0 H' ->
  wpAny (model X.prog X.w) A (call f [.ref w.1]) (EP X pins σ (fun k H'' => ∃ t, k = .ref t /\ Same H' H'' /\ SqT X.K H'' t [.int w.2.length, .ref w.1])) (fun _ _ => False) s'
end
end S64
set_option Elab.async false
set_option linter.all false
set_option maxRecDepth 100000
set_option maxHeartbeats 4000000
namespace L2
open PySem PySem.Spec PyProof.Rows
theorem lam_of {P : Program} {w : World} {K : PySem.W.Frag} {mg : Str -> Option Value} {base : Heap} {k : Nat} {f c' : Addr} {name qual : Str} {params : Arguments} {body : Expr} {scope : Scope} {pm ctv : Value}
    {A : Around} {outer : List Env} {s : Shared} {H : Hp} {args : Args} {us : List Value} {vs : List V} {N ps : List Str} {Q : VK} {E : XK} {t : TE} (S : FnScope N ps scope) (hr : Room (k + 1) A) (e0 : Env0 P w K mg base A outer s H)
    (ho : s.heap.get? f = some (PySem.W.kla_obj name qual params body scope [] pm c' ctv)) (hcd : s.heap.CodeRec (.ref c') qual) (hb : bindArgs (PySem.W.kla_fn name qual params body scope [] pm (.ref c') ctv) args = pure (ps.zip us)) (r : Vals vs us) (hl : vs.length = ps.length)
    (ht : PE (cxOf CX0 P w K mg base N qual scope f (.ref c') A outer s H E).nox body t) (hq : t (start N vs) H Q) : codeAny (model P w) A (.call (.ref f) args) (CR CX0 outer P w H s Q E) s := by
  have lim : s.heap.NoLimit := e0.mod.nolimit.keeps fun b o e => (e0.bs b o e).1
  have hkind : ∀ y ∈ ps.zip us, scope.names.lookup y.1 = some .local \/ (scope.names.lookup y.1 = some .cell /\ ((cellsFrom (s.heap.objs.size + 1) scope.names []).lookup y.1).isSome = true) := fun ⟨n, v⟩ hy => by
    rcases S.par n (List.of_mem_zip hy).1 with q | q
    . exact .inl q
    . exact .inr ⟨q, PySem.W.cellsFrom_some _ _ _ (.inl q)⟩
  refine PySem.W.kla_callFunE hr.depth ho rfl S.co S.gen rfl hcd ?_
  rw [hb]
  refine wpAny_pure ?_
  refine wpAny_newFunctionEnv_cells S.kind hkind fun env he s1 x => ?_
  subst he
  refine ⟨lim.keeps x.toInCall.keep, PySem.W.kla_codeExpr ?_⟩
  have I : Inv (cxOf CX0 P w K mg base N qual scope f (.ref c') A outer s H E) [] (start N vs) H s1 := inv_start S hr.hd e0 hl r x
  refine wpAny_mono (ht [] s1 (start N vs) H _ (I.wish _) hq) (fun u s' hs => ?_) fun e s' hs => hs.elim
  obtain ⟨v, H', J, rv, q⟩ := hs
  have J' := J.unwish
  exact ⟨v, H', J'.os, J'.bare, J'.base, J'.hok, rv, q⟩
def BmOk (mg : Str -> Option Value) (base : Heap) : Prop := ∃ bm ob, mg "__builtins__" = some (.ref bm) /\ bm ≠ builtinsNs /\ base.get? bm = some ob /\ ob.cls = .type "module" /\ ob.dict = some builtinsNs /\ ob.data = .plain
section
variable {X : Cx} {pins : List (Addr × Obj)} {σ : St} {H : Hp} {s : Shared}
end
end L2
set_option Elab.async false
set_option linter.all false
set_option maxRecDepth 100000
set_option maxHeartbeats 4000000
namespace L2
open PySem PySem.Spec PyProof.Rows S64
end L2
set_option Elab.async false
set_option linter.all false
set_option maxRecDepth 100000
set_option maxHeartbeats 4000000
namespace L2
open PySem PySem.Spec PyProof.Rows
theorem law_callT {P : Program} {w : World} {K : PySem.W.Frag} {mg mb : Str -> Option Value} {CX : CXT} {k : Nat} {fa a c T : Addr} {fd : FuncData} {x : Str} {sp : Sp} {s₁ : Shared} {vs : List Value} {ns : List Int}
    (KX : K.In s₁.heap) (hns : s₁.heap.Ns mainGlobals mg) (hb : s₁.heap.Ns builtinsNs mb) (hbb : ∀ x : Str, x ≠ "__name__" -> mb x = bootBuiltins x) (hlim : s₁.heap.NoLimit) (hg : s₁.gens = #[]) (hbm : BmOk mg s₁.heap)
    (hC : PySem.W.CodeHd s₁.heap c T) (hT : s₁.heap.get? T = some (PySem.W.tabObj #[])) (hKT : K.lookup T = none)
    (ha : s₁.heap.get? a = some { cls := .type "list", data := .seq vs.toArray }) (hi : IntsAre vs ns) (hl : ns.length <= sizeLine) (hr : Room k callerA)
    (F : ∀ base : Heap, K.In base -> base.Ns mainGlobals mg -> PySem.W.CodeHd base c T -> BmOk mg base -> FnOk P w K mg base CX k fa fd [x] sp) (hbind : ∀ (s : Shared) (u : Value), BindsTo s fd ⟨[u], []⟩ [(x, u)])
    (hsp : ∀ H : Hp, H T = some (.tbl #[]) -> SqL K H a (ns.map V.int) -> sp [.ref a] H (fun v _ => v = .bl true) fun _ _ _ => False)
    (hCX : ∀ H e s', CX [] H s₁ (fun _ _ _ => False) e s' -> False) :
    codeAny (model P w) callerA (.call (.ref fa) ⟨[.ref a], []⟩) (fun r s' => r = .ok (.ret (.bool true)) /\ OldK s₁.heap s'.heap /\ s'.os = s₁.os /\ AllBare s'.gens) s₁ := by
  have rv := vals_ints hi
  have lenV := hi.length
  have hTa : T ≠ a := fun z => by subst z; rw [hT] at ha; cases ha
  have core : ∀ H : Hp, H T = some (.tbl #[]) -> SqL K H a (ns.map V.int) -> HOk P w H s₁.heap -> (∀ b, H b ≠ none -> b = T \/ (b = a /\ K.lookup a = none /\ ∃ o xs, H a = some (.frz o (.lst xs)))) ->
      codeAny (model P w) callerA (.call (.ref fa) ⟨[.ref a], []⟩) (fun r s' => r = .ok (.ret (.bool true)) /\ OldK s₁.heap s'.heap /\ s'.os = s₁.os /\ AllBare s'.gens) s₁ := by
    intro H hHT hS hok hA
    have free : ∀ {b : Addr} {o : Obj}, s₁.heap.get? b = some o -> o.cls ≠ .none -> o.data ≠ .seq vs.toArray 0 -> H b = none := fun {b o} e h1 h2 => by
      cases q : H b with
      | none => rfl
      | some u =>
        rcases hA b (by rw [q]; simp) with rfl | ⟨rfl, _⟩
        . rw [hT] at e; cases e; exact absurd rfl h1
        . rw [ha] at e; cases e; exact absurd rfl h2
    have nsK : ∀ {b : Addr} {m : Str -> Option Value}, s₁.heap.Ns b m -> (hidT s₁.heap H).Ns b m := fun {b m} ⟨o, es, ep, e, d, r⟩ => ⟨o, es, ep, hidT_get e (by
      cases q : H b with
      | none => rfl
      | some u =>
        rcases hA b (by rw [q]; simp) with rfl | ⟨rfl, _⟩
        . rw [hT] at e; cases e; cases d
        . rw [ha] at e; cases e; cases d), d, r⟩
    have hKb : K.In (hidT s₁.heap H) := fun b o e => hidT_get (KX b o e) (by
      cases q : H b with
      | none => rfl
      | some u =>
        rcases hA b (by rw [q]; simp) with rfl | ⟨rfl, z, _⟩
        . rw [hKT] at e; cases e
        . rw [z] at e; cases e)
    have hM : Mod K mg (hidT s₁.heap H) := ⟨hKb, nsK hns, ⟨mb, nsK hb, hbb⟩, let ⟨mc, h1, h2⟩ := hlim; ⟨mc, nsK h1, h2⟩⟩
    have e0 : Env0 P w K mg (hidT s₁.heap H) callerA [] s₁ H := ⟨rfl, hM, fun b o e => of_hidT e, Nat.le_of_eq (hidT_size _ _), trivial, fun b hb => absurd (show b ∈ ([] : List Addr) from hb) (by simp), hok, .of_eq hg⟩
    have hCb : PySem.W.CodeHd (hidT s₁.heap H) c T := by
      obtain ⟨o, ws, file, tf, flags, tg, inF, text, tt, e, hc, hd, r⟩ := id hC
      exact ⟨o, ws, file, tf, flags, tg, inF, text, tt, hidT_get e (free e (by rw [hc]; intro z; cases z) (by rw [hd]; intro z; cases z)), hc, hd, r⟩
    have hbb2 : BmOk mg (hidT s₁.heap H) := by
      obtain ⟨bm, ob, b1, b2, b3, b4, b5, b6⟩ := hbm
      exact ⟨bm, ob, b1, b2, hidT_get b3 (free b3 (by rw [b4]; intro z; cases z) (by rw [b6]; intro z; cases z)), b4, b5, b6⟩
    refine codeAny_mono ((F _ hKb (nsK hns) hCb hbb2).run callerA [] s₁ H ⟨[.ref a], []⟩ [.ref a] [.ref a] _ _ hr e0 (hbind s₁ (.ref a)) (.cons rfl .nil) (hsp H hHT hS)) fun r s' h => ?_
    cases r with
    | error e => exact (hCX H e s' h).elim
    | ok fl =>
      cases fl with
      | next => exact False.elim h
      | brk => exact False.elim h
      | cont => exact False.elim h
      | ret u =>
        obtain ⟨v, H', os, bare, un, hok', r', q⟩ := h
        have q' : v = .bl true := q
        subst q'
        obtain rfl : u = Value.bool true := r'
        have noB : ∀ b : Addr, b ∉ frs ([] : List Env) := fun b z => absurd (show b ∈ ([] : List Addr) from z) (by simp)
        have all : ∀ b o, s₁.heap.get? b = some o -> asItWas s₁.heap s'.heap b o := fun b o e => by
          cases q : H b with
          | none => exact .inl (un.keep b o e q (noB b) (by simp))
          | some u =>
            rcases hA b (by rw [q]; simp) with rfl | ⟨rfl, _, ob, xs, z⟩
            . obtain ⟨more, z2⟩ := un.tbls b _ hHT
              have e2 : s'.heap.get? b = some { cls := .none, data := .fields (#[] ++ more) } := hok' b _ z2
              rw [hT] at e; cases e
              obtain ⟨o', ws, _, _, _, _, _, _, _, e3, hc, hd, h11, _⟩ := hC
              exact .inr (.inl ⟨⟨c, o', ws, e3, hc, hd, h11⟩, rfl, #[], more, rfl, e2⟩)
            . have z2 := un.frzs b ob _ z
              obtain ⟨e1, _⟩ := hok b _ z
              obtain ⟨e2, _⟩ := hok' b _ z2
              rw [e] at e1; cases e1
              exact .inl e2
        refine ⟨rfl, ⟨all, fun b o e => ?_⟩, os, bare⟩
        exact un.there b o e (by simp)
  cases hk : K.lookup a with
  | some o =>
    have e := KX a o hk
    rw [ha] at e
    cases e
    refine core (fun b => if b = T then some (.tbl #[]) else none) (if_pos rfl) (.inr ⟨_, vs.toArray, _, hk, rfl, rfl, rfl, by rw [List.size_toArray, lenV]; exact hl, by simpa using rv⟩) (fun b u z => ?_) (fun b z => ?_)
    . by_cases hb : b = T
      . have z' := (if_pos hb).symm.trans z
        cases z'; subst hb; exact hT
      . have z' := (if_neg hb).symm.trans z
        cases z'
    . by_cases hb : b = T
      . exact .inl hb
      . exact absurd (if_neg hb) z
  | none =>
    refine core (fun b => if b = T then some (.tbl #[]) else if b = a then some (.frz { cls := .type "list", data := .seq vs.toArray } (.lst (ns.map V.int))) else none) (if_pos rfl) (.inl (.inr ⟨{ cls := .type "list", data := .seq vs.toArray }, by show (if a = T then _ else _) = _; rw [if_neg (Ne.symm hTa), if_pos rfl]⟩)) (fun b u z => ?_) (fun b z => ?_)
    . by_cases hb : b = T
      . have z' := (if_pos hb).symm.trans z
        cases z'; subst hb; exact hT
      . have z1 := (if_neg hb).symm.trans z
        by_cases hb2 : b = a
        . have z' := (if_pos hb2).symm.trans z1
          cases z'
          subst hb2
          exact ⟨ha, by rw [List.length_map]; exact hl, vs, _, rv, ha⟩
        . have z' := (if_neg hb2).symm.trans z1
          cases z'
    . by_cases hb : b = T
      . exact .inl hb
      . by_cases hb2 : b = a
        . exact .inr ⟨hb2, hk, _, _, by show (if a = T then _ else _) = _; rw [if_neg (Ne.symm hTa), if_pos rfl]⟩
        . exact absurd (by show (if b = T then _ else _) = _; rw [if_neg hb, if_neg hb2]) z
theorem walk_ofT {l : PySem.W.OpenLaw} {n k : Nat} {q : Program} {loose : List Str} {XP : (Str -> Option Value) -> Heap -> Prop} {YP : World -> Heap -> Prop} {d : DefRec} {K : Params -> PySem.W.Frag} {CX : World -> CXT} {sp : World -> Sp} {x xT : Str}
    (hn : l.most = some n) (hn2 : n <= sizeLine) (hdf : d.params.defaults = []) (hr : Room k callerA)
    (hY : ∀ (w : World) (h : Heap), YP w h -> (K w.params).In h)
    (F : ∀ (w : World) (mg : Str -> Option Value) (fa : Addr) (h : Heap), YP w h -> (K w.params).In h -> h.Ns mainGlobals mg -> mg d.name = some (.ref fa) ->
      ∃ (fd : FuncData) (c T : Addr), PySem.W.tabIn (K w.params) xT = some (c, T) /\ (K w.params).lookup T = none /\ PySem.W.CodeHd h c T /\ h.get? T = some (PySem.W.tabObj #[]) /\ (∀ (s : Shared) (u : Value), BindsTo s fd ⟨[u], []⟩ [(x, u)]) /\
        ∀ base : Heap, (K w.params).In base -> base.Ns mainGlobals mg -> PySem.W.CodeHd base c T -> BmOk mg base -> FnOk l.prog w (K w.params) mg base (CX w) k fa fd [x] (sp w))
    (hsp : ∀ (w : World) (H : Hp) (a c T : Addr) (ns : List Int), ns.length <= n -> PySem.W.tabIn (K w.params) xT = some (c, T) -> H T = some (.tbl #[]) -> SqL (K w.params) H a (ns.map V.int) -> sp w [.ref a] H (fun v _ => v = .bl true) fun _ _ _ => False)
    (hCX : ∀ (w : World) (H : Hp) (s : Shared) (e : Value) (s' : Shared), CX w [] H s (fun _ _ _ => False) e s' -> False) :
    PySem.W.WalkO q loose XP YP l.row.toRowW d [] (fun f vs => PySem.call f vs) := by
  refine Att.attach_call hn hdf fun w s₀ s₁ mg mb fa o pm cd doc a vs ns G Y ho hd hcd hmg hobj hints hlen hg => ?_
  have KX := hY w _ Y
  obtain ⟨fd, c, T, hti, hKT, hC, hT, hb, hF⟩ := F w mg fa _ Y KX G.T.g hmg
  exact law_callT KX G.T.g G.T.b G.T.builtins G.T.nolimit hg (let ⟨bm, ob, b1, b2, b3, b4, b5, b6⟩ := G.T.bmain; ⟨bm, ob, b1, b2, b3, b4, b5, b6⟩) hC hT hKT hobj hints (Nat.le_trans hlen hn2) hr hF hb (fun H hO hS => hsp w H a c T ns hlen hti hO hS) fun H e s' => hCX w H s₁ e s'
end L2
set_option Elab.async false
set_option linter.all false
set_option maxRecDepth 100000
set_option maxHeartbeats 4000000
namespace L2
open PySem PySem.Spec PyProof.Rows
def tabC (K : PySem.W.Frag) (x : Str) : Addr := ((PySem.W.tabIn K x).getD (0, 0)).1
def tabP (K : PySem.W.Frag) (x : Str) : Addr := ((PySem.W.tabIn K x).getD (0, 0)).2
theorem tabC_of {K : PySem.W.Frag} {x : Str} {c T : Addr} (h : PySem.W.tabIn K x = some (c, T)) : tabC K x = c := by unfold tabC; rw [h]; rfl
theorem tabP_of {K : PySem.W.Frag} {x : Str} {c T : Addr} (h : PySem.W.tabIn K x = some (c, T)) : tabP K x = T := by unfold tabP; rw [h]; rfl
theorem tabIn_mk {K : PySem.W.Frag} {x : Str} {f c T : Addr} {fd : FuncData} {oc oc2 : Value} {od od2 : Option Addr} {sl sl2 : Array (Option Value)} {vs : Array Value} (a : PySem.W.nsIn K mainGlobals x = some (some (.ref f))) (l : K.lookup f = some ⟨oc, od, .func fd, sl⟩) (hc : fd.code = .ref c)
    (lc : K.lookup c = some ⟨oc2, od2, .fields vs, sl2⟩) (h : vs[11]? = some (.ref T)) : PySem.W.tabIn K x = some (c, T) := by
  unfold PySem.W.tabIn
  rw [a]
  dsimp only
  rw [l]
  dsimp only
  rw [hc]
  dsimp only
  rw [lc]
  dsimp only
  rw [h]
structure FunL (K : PySem.W.Frag) (mg : Str -> Option Value) (base : Heap) (x qual : Str) (st : Stmt) (f : Addr) (fd : FuncData) : Prop where
  ex : ∃ (oc : Value) (od : Option Addr) (kV doc pm : Value) (an : Option Addr) (ct : Value) (osl : Array (Option Value)),
    fd = PySem.W.fnOf x qual (defArgs st) (defBody st) (defScope st) .none kV doc pm an (.ref (tabC K x)) ct /\ K.lookup f = some ⟨oc, od, .func fd, osl⟩ /\ PySem.W.codeIn K (.ref (tabC K x)) qual = true
  C : PySem.W.CodeHd base (tabC K x) (tabP K x)
  B : BmOk mg base
section
variable {P : Program} {w : World} {K : PySem.W.Frag} {mg : Str -> Option Value} {base : Heap}
theorem FunL.ok {x qual : Str} {st : Stmt} {f : Addr} {fd : FuncData} {N ps : List Str} {k : Nat} {sp : Sp} (F : FunL K mg base x qual st f fd) (S : FnScope N ps (defScope st)) (len : ∀ vs H Q E, sp vs H Q E -> vs.length = ps.length)
    (hbody : ∀ (cdv : Value) (hcd : cdv = .ref (tabC K x)) (A : Around) (outer : List Env) (s : Shared) (H : Hp) (vs : List V) (Q : VK) (E : XK), Room k (A.deeper (envOfC qual (defScope st) s.heap.objs.size f cdv)) -> sp vs H Q E ->
      ∃ t, PSs (cxOf CX0 P w K mg base N qual (defScope st) f cdv A outer s H E).nox (defBody st) t /\ t { nx := fun _ H' => Q .non H', rt := Q } (start N vs) H) : FnOk P w K mg base CX0 (k + 1) f fd ps sp := by
  obtain ⟨oc, od, kV, doc, pm, an, ct, osl, rfl, lk, hcd⟩ := F.ex
  refine fn_of lk hcd S len fun A outer s H vs Q E hr hsp => ?_
  obtain ⟨t, h, q⟩ := hbody _ rfl A outer s H vs Q E hr hsp
  exact ⟨t, h.nox, q⟩
theorem funL_mk {x qual : Str} {st : Stmt} {f c T : Addr} {oc : Value} {od an : Option Addr} {osl : Array (Option Value)} {kV doc pm ct : Value} (ti : PySem.W.tabIn K x = some (c, T)) (l : K.lookup f = some ⟨oc, od, .func (PySem.W.fnOf x qual (defArgs st) (defBody st) (defScope st) .none kV doc pm an (.ref c) ct), osl⟩)
    (hc : PySem.W.codeIn K (.ref c) qual = true) (C : PySem.W.CodeHd base c T) (B : BmOk mg base) : FunL K mg base x qual st f (PySem.W.fnOf x qual (defArgs st) (defBody st) (defScope st) .none kV doc pm an (.ref c) ct) :=
  ⟨⟨oc, od, kV, doc, pm, an, ct, osl, by rw [tabC_of ti], l, by rw [tabC_of ti]; exact hc⟩, by rw [tabC_of ti, tabP_of ti]; exact C, B⟩
end
end L2
set_option Elab.async false
set_option linter.all false
set_option maxRecDepth 100000
set_option maxHeartbeats 4000000
namespace L2
open PySem PySem.Spec PyProof.Rows S64
def SameT (T : Addr) (H H' : Hp) : Prop := ∀ b o, b ≠ T -> H b = some o -> H' b = some o
def LamT (T : Addr) (lp : Pos) (qual : Str) (H : Hp) : Prop := H T = some (.tbl #[]) \/ ∃ (c' : Addr) (oc : Obj) (vs : Array Value) (t : Tok), H T = some (.tbl #[rawInt lp.line, rawInt lp.col, .ref c']) /\ H c' = some (.frz oc (.own 0)) /\ oc.data = .fields vs /\ vs[1]? = some (.str (qual ++ "<lambda>") t)
theorem LamT.is {T : Addr} {lp : Pos} {qual : Str} {H : Hp} (h : LamT T lp qual H) : ∃ ps, H T = some (.tbl ps) := by
  rcases h with h | ⟨_, _, _, _, h, _⟩
  . exact ⟨_, h⟩
  . exact ⟨_, h⟩
theorem LamT.mono {T : Addr} {lp : Pos} {qual : Str} {H H' : Hp} (h : LamT T lp qual H) (s : Same H H') : LamT T lp qual H' := by
  rcases h with h | ⟨c', oc, vs, t, h, h2, h3, h4⟩
  . exact .inl (s _ _ h)
  . exact .inr ⟨c', oc, vs, t, s _ _ h, s _ _ h2, h3, h4⟩
theorem SameT.of {T : Addr} {H H' : Hp} (s : Same H H') : SameT T H H' := fun b o _ e => s b o e
theorem SameT.trans {T : Addr} {H H' H'' : Hp} (s : SameT T H H') (s' : SameT T H' H'') : SameT T H H'' := fun b o hb e => s' b o hb (s b o hb e)
theorem SameT.ne {T : Addr} {H H' : Hp} (s : SameT T H H') {b : Addr} {o : HO} (e : H b = some o) (ho : ∀ ps, o ≠ .tbl ps) {ps : Array Value} (hT : H T = some (.tbl ps)) : H' b = some o := s b o (fun z => by subst z; rw [hT] at e; cases e; exact ho _ rfl) e
theorem SameT.tsq {K : PySem.W.Frag} {T : Addr} {H H' : Hp} (s : SameT T H H') {ps : Array Value} (hT : H T = some (.tbl ps)) {b : Addr} {ys : List V} (h : SqT K H b ys) : SqT K H' b ys := by
  rcases h with h | h
  . left
    rcases h with h | ⟨o, h⟩
    . exact .inl (s.ne h (fun _ z => by cases z) hT)
    . exact .inr ⟨o, s.ne h (fun _ z => by cases z) hT⟩
  . exact .inr h
theorem SameT.lsq {K : PySem.W.Frag} {T : Addr} {H H' : Hp} (s : SameT T H H') {ps : Array Value} (hT : H T = some (.tbl ps)) {b : Addr} {ys : List V} (h : SqL K H b ys) : SqL K H' b ys := by
  rcases h with h | h
  . left
    rcases h with h | ⟨o, h⟩
    . exact .inl (s.ne h (fun _ z => by cases z) hT)
    . exact .inr ⟨o, s.ne h (fun _ z => by cases z) hT⟩
  . exact .inr h
section
variable {X : Cx} {pins : List (Addr × Obj)} {σ : St} {H : Hp} {s : Shared}
theorem Inv.tabK {P c' : Addr} {oc : Obj} {ps ps' : Array Value} {h' : Heap} {t' : Nat} (I : Inv X pins σ H s) (hP : H P = some (.tbl ps)) (k : ∀ b o, b ≠ P -> s.heap.get? b = some o -> h'.get? b = some o) (e : h'.get? P = some (PySem.W.tabObj (ps ++ ps')))
    (hc : s.heap.objs.size <= c') (hoc : h'.get? c' = some oc) : Inv X pins σ (upd (upd H P (.tbl (ps ++ ps'))) c' (.frz oc (.own 0))) { s with heap := h', toks := t' } := by
  have nP : ∀ b, H b = none -> b ≠ P := fun b n z => by subst z; rw [hP] at n; cases n
  have nP2 : ∀ b u, H b = some u -> (∀ qs, u ≠ .tbl qs) -> b ≠ P := fun b u q hu z => by subst z; rw [hP] at q; cases q; exact hu _ rfl
  have nC : ∀ b u, H b = some u -> b ≠ c' := fun b u q z => by subst z; rw [I.hok.fresh hc] at q; cases q
  have nC2 : ∀ b o, s.heap.get? b = some o -> b ≠ c' := fun b o q z => by subst z; exact absurd (Heap.lt_size q) (Nat.not_lt.mpr hc)
  refine I.un ⟨fun b o q n _ _ => k b o (nP b n) q, fun b o q n _ _ => ⟨o.slots, k b o (nP b n) q⟩, fun b o q n _ => by rw [upd_ne (nC2 b o q), upd_ne (nP b n)]; exact n, fun b o q _ => ?_, fun b xs q => ?_, fun b o u q => ?_, fun b qs q => ?_⟩ (fun b u q => ?_)
  . by_cases hb : b = P
    . subst hb; exact ⟨_, e⟩
    . exact ⟨o, k b o hb q⟩
  . rw [upd_ne (nC b _ q), upd_ne (nP2 b _ q (fun _ z => by cases z))]; exact q
  . rw [upd_ne (nC b _ q), upd_ne (nP2 b _ q (fun _ z => by cases z))]; exact q
  . by_cases hb : b = P
    . subst hb; rw [hP] at q; cases q; exact ⟨ps', by rw [upd_ne (nC b _ hP)]; exact upd_same⟩
    . rw [upd_ne (nC b _ q), upd_ne hb]; exact ⟨#[], by rw [q]; simp⟩
  . by_cases hbc : b = c'
    . subst hbc; rw [upd_same] at q; cases q; exact ⟨hoc, _, hoc⟩
    rw [upd_ne hbc] at q
    by_cases hb : b = P
    . subst hb; rw [upd_same] at q; cases q; exact e
    . rw [upd_ne hb] at q
      refine (I.hok b u q).stay (fun c v hc r => k c v ?_ r) (fun c r => by rw [upd_ne (nC c _ r), upd_ne (nP2 c _ r (fun _ z => by cases z))]; exact r) fun c xs r => by rw [upd_ne (nC c _ r), upd_ne (nP2 c _ r (fun _ z => by cases z))]; exact r
      rcases hc with rfl | hc
      . exact hb
      . exact nP2 c _ hc (fun _ z => by cases z)
theorem lam_makeL {c P : Addr} {params : Arguments} {body : Expr} {scope : Scope} {pos : Pos} {A : Around} {M : Model} {E : Value -> Shared -> Prop} {Q : Value -> Shared -> Prop} (I : Inv X pins σ H s) (hcode : X.env.code = .ref c) (C : PySem.W.CodeHd X.base c P) (hL : LamT P pos X.env.qual H)
    (hb : BmOk X.mg X.base) (hcl : closureFor scope X.env = pure []) (hdef : defaultsOf params X.env = ([], []))
    (h : ∀ (f c' : Addr) (oc : Obj) (vs : Array Value) (t : Tok) (ctv : Value) (H' : Hp) (s' : Shared), Inv X (pins ++ [(f, PySem.W.kla_obj "<lambda>" (X.env.qual ++ "<lambda>") params body scope [] ((X.mg "__name__").getD .none) c' ctv)]) σ H' s' -> SameT P H H' -> H' P = some (.tbl #[rawInt pos.line, rawInt pos.col, .ref c']) -> H' c' = some (.frz oc (.own 0)) -> oc.data = .fields vs -> vs[1]? = some (.str (X.env.qual ++ "<lambda>") t) -> Q (.ref f) s') :
    wpAny M A (eval (.Lambda params body scope pos) X.env) Q E s := by
  obtain ⟨ps, hP⟩ := hL.is
  obtain ⟨bm, ob, b1, b2, b3, b4, b5, b6⟩ := hb
  have hg : s.heap.Ns mainGlobals X.mg := I.mod.glob.keeps I.bk
  have eP : s.heap.get? P = some (PySem.W.tabObj ps) := I.hok P _ hP
  have nb : ∀ b o, X.base.get? b = some o -> b ≠ P := fun b o e z => by subst z; have := (I.bs b o e).2; rw [hP] at this; cases this
  have hgP : mainGlobals ≠ P := by
    obtain ⟨o, es, ep, e, _⟩ := I.mod.glob
    exact nb _ _ e
  have hbG : bm ≠ mainGlobals := fun q => by
    obtain ⟨o, es, ep, e, hd, _⟩ := I.mod.glob
    rw [q, e] at b3; cases b3; rw [hd] at b6; cases b6
  refine PySem.W.kla_eval hdef ?_
  rcases hL with hL | ⟨c', oc, vs, t, h1, h2, h3, h4⟩
  . have : ps = #[] := by rw [hL] at hP; cases hP; rfl
    subst this
    refine PySem.W.kla_makeFunction (mg := X.mg) hcl I.ok.glob hg hcode (C.keeps I.bk) eP (by trivial) rfl hgP ⟨bm, ob, b1, b2, hbG, nb _ _ b3, I.bk _ _ b3, b4, b5, b6⟩ fun c' ctv h' tk hx hge hlt hrec htb => ?_
    obtain ⟨c₂, oc, vs, t, e2, hoc, hd, hv⟩ := hrec
    cases e2
    have I1 := I.tabK (t' := tk) (h' := h'.push (PySem.W.kla_obj "<lambda>" (X.env.qual ++ "<lambda>") params body scope [] ((X.mg "__name__").getD .none) c' ctv)) hP (fun b o hb e => Heap.get?_push_of_some _ (hx b o hb e)) (Heap.get?_push_of_some _ htb) hge (Heap.get?_push_of_some _ hoc)
    have hsz : s.heap.objs.size <= h'.objs.size := Nat.le_trans hge (Nat.le_of_lt hlt)
    have hcP : P ≠ c' := fun z => by subst z; exact absurd (Heap.lt_size eP) (Nat.not_lt.mpr hge)
    refine h h'.objs.size c' oc vs t ctv _ _ (I1.pins_of fun p hp => ?_) (fun b o hb e => ?_) ((upd_ne hcP).trans upd_same) upd_same hd hv
    . rcases List.mem_append.mp hp with hp | hp
      . exact I1.pin p (List.mem_append_right _ hp)
      . rw [List.mem_singleton.mp hp]
        refine ⟨Heap.get?_push_size _ rfl, ?_, fun z => ?_, I.nofs hsz, fun v z => by cases z⟩
        . rw [upd_ne (fun z => absurd hlt (by dsimp only at z; rw [z]; exact Nat.lt_irrefl _)), upd_ne (fun z => by dsimp only at z; subst z; exact absurd (Heap.lt_size eP) (Nat.not_lt.mpr hsz))]
          exact I.hok.fresh hsz
        . dsimp only at z
          have := I.lt
          rw [<- z] at this
          exact absurd this (Nat.not_lt.mpr hsz)
    . rw [upd_ne (fun z => by subst z; rw [I.hok.fresh hge] at e; cases e), upd_ne hb]; exact e
  . have : ps = #[rawInt pos.line, rawInt pos.col, .ref c'] := by rw [h1] at hP; cases hP; rfl
    subst this
    refine PySem.W.kla_makeFunctionHit (mg := X.mg) (cv := .ref c') hcl I.ok.glob hg hcode (C.keeps I.bk) eP (by trivial) (by simp [codeAmong, rawInt]) ⟨bm, ob, b1, b2, hbG, nb _ _ b3, I.bk _ _ b3, b4, b5, b6⟩ fun ctv h' tk hk hsz => ?_
    have I1 := I.kept (t' := tk) (h' := h'.push (PySem.W.kla_obj "<lambda>" (X.env.qual ++ "<lambda>") params body scope [] ((X.mg "__name__").getD .none) c' ctv)) (fun b o e => Heap.get?_push_of_some _ (hk b o e))
    refine h h'.objs.size c' oc vs t ctv _ _ (I1.pins_of fun p hp => ?_) (fun b o hb e => e) h1 h2 h3 h4
    rcases List.mem_append.mp hp with hp | hp
    . exact I1.pin p (List.mem_append_right _ hp)
    . rw [List.mem_singleton.mp hp]
      refine ⟨Heap.get?_push_size _ rfl, I.hok.fresh hsz, fun z => ?_, I.nofs hsz, fun v z => by cases z⟩
      dsimp only at z
      have := I.lt
      rw [<- z] at this
      exact absurd this (Nat.not_lt.mpr hsz)
end
end L2
set_option Elab.async false
set_option linter.all false
set_option maxRecDepth 100000
set_option maxHeartbeats 4000000
namespace L2
open PySem PySem.Spec PyProof.Rows S64
end L2
set_option Elab.async false
set_option linter.all false
set_option maxRecDepth 100000
set_option maxHeartbeats 4000000
namespace L2
open PySem PySem.Spec PyProof.Rows
end L2
set_option Elab.async false
set_option linter.all false
set_option maxRecDepth 100000
set_option maxHeartbeats 4000000
namespace L2
open PySem PySem.Spec PyProof.Rows
structure Cal (P : Program) (w : World) (K : PySem.W.Frag) (mg : Str -> Option Value) (base : Heap) (CX : CXT) (k : Nat) (x : Str) (st : Stmt) (ps : List Str) (sp : Sp) (f : Addr) (fd : FuncData) : Prop where
  g : FnOk P w K mg base CX k f fd ps sp
  F : Fun K x x st f fd
  b : Binds K fd ps []
  m : mg x = some (.ref f)
theorem Room.d {j k : Nat} {A : Around} (r : Room k A) (h : j <= k := by decide) : Room j A := r.mono h
theorem pe_callQ {X : Cx} {CX : CXT} {k : Nat} {f : Addr} {fd : FuncData} {ps : List Str} {sp : Sp} {E : XK} {x : Str} {st : Stmt} {p pos : Pos} {e : Expr} {es : List Expr} {t : TA} (q : Cal X.prog X.w X.K X.mg X.base CX k x st ps sp f fd) (hr : Room k X.A) (hx : Passes CX X E)
    (ha : PA X (e :: es) t) (hg : Gl X x := by rfl) (hdb : (x == ("__debug__" : Str)) = false := by decide) (he : starEach (e :: es) X.env = (false, eval e X.env) :: starEach es X.env := by rfl) (hpl : (backTo pos (starEach es X.env)).any (·.1) = false := by rfl) :
    PE X (.Call (.Name x p) (e :: es) [] pos) (tCall sp [] E t) := pe_call q.g hr hg q.m q.F.kp q.b .nil hx ha hdb he hpl
abbrev HA (K : PySem.W.Frag) (x : Str) (f : Addr) : Prop := PySem.W.nsIn K mainGlobals x = some (some (.ref f))
abbrev HL (K : PySem.W.Frag) (x : Str) (st : Stmt) (f : Addr) (oc : Value) (od : Option Addr) (kV dc pm : Value) (an : Option Addr) (cd ct : Value) (sl : Array (Option Value)) : Prop := K.lookup f = some ⟨oc, od, .func (PySem.W.fnOf x x (defArgs st) (defBody st) (defScope st) .none kV dc pm an cd ct), sl⟩
end L2
set_option Elab.async false
set_option linter.all false
set_option maxRecDepth 100000
set_option maxHeartbeats 4000000
namespace L2
open PySem PySem.Spec PyProof.Rows
structure HF (K : PySem.W.Frag) (x : Str) (st : Stmt) (f : Addr) (fd : FuncData) : Prop where
  a : PySem.W.nsIn K mainGlobals x = some (some (.ref f))
  F : Fun K x x st f fd
structure Wh (P : Program) (w : World) (K : PySem.W.Frag) (mg : Str -> Option Value) (base : Heap) : Prop where
  m : ∀ (x : Str) (f : Addr), PySem.W.nsIn K mainGlobals x = some (some (.ref f)) -> mg x = some (.ref f)
theorem HF.c {P : Program} {w : World} {K : PySem.W.Frag} {mg : Str -> Option Value} {base : Heap} {CX : CXT} {k : Nat} {x : Str} {st : Stmt} {ps : List Str} {sp : Sp} {f : Addr} {fd : FuncData} (h : HF K x st f fd) (Z : Wh P w K mg base) (g : FnOk P w K mg base CX k f fd ps sp)
    (e : ∀ (kV doc pm : Value) (an : Option Addr) (cdv ct : Value) (us : List Value), us.length = ps.length -> bindArgs (PySem.W.fnOf x x (defArgs st) (defBody st) (defScope st) .none kV doc pm an cdv ct) ⟨us, []⟩ = pure (ps.zip us) := by
      intro _ _ _ _ _ _ us hl; first | (obtain ⟨_, rfl⟩ := len1 hl; rfl) | (obtain ⟨_, _, rfl⟩ := len2 hl; rfl) | (obtain ⟨_, _, _, rfl⟩ := len3 hl; rfl) | (obtain ⟨_, _, _, _, rfl⟩ := len4 hl; rfl)) : Cal P w K mg base CX k x st ps sp f fd := ⟨g, h.F, h.F.binds e, Z.m _ _ h.a⟩
theorem HF.b {K : PySem.W.Frag} {x p : Str} {st : Stmt} {f : Addr} {fd : FuncData} (h : HF K x st f fd) (e : ∀ (kV doc pm : Value) (an : Option Addr) (cdv ct v : Value), bindArgs (PySem.W.fnOf x x (defArgs st) (defBody st) (defScope st) .none kV doc pm an cdv ct) ⟨[v], []⟩ = pure [(p, v)]) (s : Shared) (v : Value) : BindsTo s fd ⟨[v], []⟩ [(p, v)] := by
  obtain ⟨_, _, _, _, _, _, _, _, _, rfl, _, _⟩ := h.F.ex
  exact .of_eq (e _ _ _ _ _ _ _)
end L2
set_option Elab.async false
set_option linter.all false
set_option maxRecDepth 100000
set_option maxHeartbeats 4000000
namespace PySem
end PySem
set_option Elab.async false
set_option linter.all false
set_option maxRecDepth 100000
set_option maxHeartbeats 4000000
namespace L2
open PySem PySem.Spec PyProof.Rows
namespace DP
end DP
section
variable {X : Cx} {pins : List (Addr × Obj)} {σ : St}
end
end L2
set_option Elab.async false
set_option linter.all false
set_option maxRecDepth 100000
set_option maxHeartbeats 4000000
namespace L2
open PySem PySem.Spec PyProof.Rows
namespace DP
end DP
section
variable {X : Cx} {pins : List (Addr × Obj)} {σ : St} {H : Hp} {s : Shared} {A : Around} {E : Value -> Shared -> Prop}
end
end L2
set_option Elab.async false
set_option linter.all false
set_option maxRecDepth 100000
set_option maxHeartbeats 4000000
namespace L2
open PySem PySem.Spec PyProof.Rows
section
variable {X : Cx}
end
end L2
set_option Elab.async false
set_option linter.all false
set_option maxRecDepth 100000
set_option maxHeartbeats 4000000
namespace L2
open PySem PySem.Spec PyProof.Rows
end L2
set_option Elab.async false
set_option linter.all false
set_option maxRecDepth 100000
set_option maxHeartbeats 4000000
namespace PySem
namespace TS
end TS
end PySem
set_option Elab.async false
set_option linter.all false
set_option maxRecDepth 100000
set_option maxHeartbeats 4000000
namespace PySem
namespace TS
end TS
end PySem
set_option Elab.async false
set_option linter.all false
set_option maxRecDepth 100000
set_option maxHeartbeats 4000000
namespace PySem
namespace TS
section
variable {prog : Program} {w : World} {K : Type} [DecidableEq K] {knd : KeyKind prog w K}
variable {A : Around} {E : Value -> Shared -> Prop} {s : Shared}
end
end TS
end PySem
set_option Elab.async false
set_option linter.all false
set_option maxRecDepth 100000
set_option maxHeartbeats 4000000
namespace PySem
namespace TS
section
variable {prog : Program} {w : World} {K : Type} [DecidableEq K] {knd : KeyKind prog w K}
variable {A : Around} {E : Value -> Shared -> Prop} {s : Shared}
end
end TS
end PySem
set_option Elab.async false
set_option linter.all false
set_option maxRecDepth 100000
set_option maxHeartbeats 4000000
namespace PySem
namespace TS
section
variable {prog : Program} {w : World} {K : Type} [DecidableEq K] {knd : KeyKind prog w K}
variable {A : Around} {R : Result -> Shared -> Prop} {I : Addr} {fp wr : List Addr} {G : Array GenState -> Array GenState -> Prop} {n : Nat} {P : Nat -> Value -> Prop} {St : Nat -> Shared -> Prop}
end
end TS
end PySem
set_option Elab.async false
set_option linter.all false
set_option maxRecDepth 100000
set_option maxHeartbeats 4000000
namespace PySem
section
variable {prog : Program} {w : World} {A : Around} {E : Value -> Shared -> Prop} {s : Shared}
section
variable {K : Type} [DecidableEq K] {knd : KeyKind prog w K} {l : Addr} {items : Array Value} {keys : List (List K)} {bs : List Addr} {led : Bool}
end
end
end PySem
set_option Elab.async false
set_option linter.all false
set_option maxRecDepth 100000
set_option maxHeartbeats 4000000
namespace L2
open PySem PySem.Spec PyProof.Rows
section
variable {X : Cx}
end
end L2
set_option Elab.async false
set_option linter.all false
set_option maxRecDepth 100000
set_option maxHeartbeats 4000000
namespace L2
open PySem PySem.Spec PyProof.Rows
end L2
set_option Elab.async false
set_option linter.all false
set_option maxRecDepth 100000
set_option maxHeartbeats 4000000
namespace PySem
namespace TS
end TS
end PySem
set_option Elab.async false
set_option linter.all false
set_option maxRecDepth 100000
set_option maxHeartbeats 4000000
namespace PySem
namespace TS
section
variable {prog : Program} {w : World} {K : Type} [DecidableEq K] {knd : KeyKind prog w K}
variable {A : Around} {E : Value -> Shared -> Prop} {s : Shared}
end
end TS
end PySem
set_option Elab.async false
set_option linter.all false
set_option maxRecDepth 100000
set_option maxHeartbeats 4000000
namespace PySem
namespace TS
end TS
end PySem
set_option Elab.async false
set_option linter.all false
set_option maxRecDepth 100000
set_option maxHeartbeats 4000000
namespace PySem
namespace TS
section
variable {prog : Program} {w : World} {K : Type} [DecidableEq K] {knd : KeyKind prog w K}
variable {A : Around} {E : Value -> Shared -> Prop} {s : Shared}
end
end TS
end PySem
set_option Elab.async false
set_option linter.all false
set_option maxRecDepth 100000
set_option maxHeartbeats 4000000
namespace PySem
namespace TS
section
variable {prog : Program} {w : World} {K : Type} [DecidableEq K] {knd : KeyKind prog w K}
variable {A : Around} {R : Result -> Shared -> Prop} {I : Addr} {fp wr : List Addr} {G : Array GenState -> Array GenState -> Prop} {n : Nat} {P : Nat -> Value -> Prop} {St : Nat -> Shared -> Prop}
end
end TS
end PySem
set_option Elab.async false
set_option linter.all false
set_option maxRecDepth 100000
set_option maxHeartbeats 4000000
namespace PySem
section
variable {prog : Program} {w : World} {A : Around} {E : Value -> Shared -> Prop} {s : Shared}
end
end PySem
set_option Elab.async false
set_option linter.all false
set_option maxRecDepth 100000
set_option maxHeartbeats 4000000
namespace L2
open PySem PySem.Spec PyProof.Rows
section
variable {X : Cx}
end
end L2
set_option Elab.async false
set_option linter.all false
set_option maxRecDepth 100000
set_option maxHeartbeats 4000000
namespace L2
open PySem PySem.Spec PyProof.Rows S64
theorem less_trans {x y z : List Int} (h1 : GW.lessW x y = true) (h2 : GW.lessW y z = true) : GW.lessW x z = true := by
  unfold GW.lessW at *
  by_cases a : x.length = y.length
  . rw [if_pos a] at h1
    by_cases b : y.length = z.length
    . rw [if_pos b] at h2
      rw [if_pos (a.trans b)]
      exact HT.lexLt_trans h1 h2
    . rw [if_neg b, decide_eq_true_eq] at h2
      rw [if_neg (by omega), decide_eq_true_eq]; omega
  . rw [if_neg a, decide_eq_true_eq] at h1
    by_cases b : y.length = z.length
    . rw [if_neg (by omega), decide_eq_true_eq]; omega
    . rw [if_neg b, decide_eq_true_eq] at h2
      rw [if_neg (by omega), decide_eq_true_eq]; omega
theorem less_irr {x : List Int} : GW.lessW x x = false := by
  unfold GW.lessW
  rw [if_pos rfl]
  exact lexLt_irr
theorem less_key (x y : List Int) : decide ((x.length : Int) < y.length \/ ((x.length : Int) = y.length /\ HT.lexLt x y = true)) = GW.lessW x y := by
  unfold GW.lessW
  rw [Bool.eq_iff_iff, decide_eq_true_eq]
  by_cases a : x.length = y.length
  . rw [if_pos a]
    constructor
    . rintro (h | ⟨_, h⟩)
      . omega
      . exact h
    . exact fun h => .inr ⟨by omega, h⟩
  . rw [if_neg a, decide_eq_true_eq]
    constructor
    . rintro (h | ⟨h, _⟩) <;> omega
    . exact fun h => .inl (by omega)
theorem ltP_at {X : Cx} {A : Around} {pins : List (Addr × Obj)} {s : Shared} {σ : St} {H : Hp} {a b ta tb : Addr} {n m : Int} {xs ys : List Int} {Q : Value -> Shared -> Prop} {E : Value -> Shared -> Prop} (hu : A.units + 8 < cLine) (I : Inv X pins σ H s)
    (ha : SqT X.K H a [.int n, .ref ta]) (hb : SqT X.K H b [.int m, .ref tb]) (hta : SqT X.K H ta (xs.map V.int)) (htb : SqT X.K H tb (ys.map V.int)) (hc : n ≠ m \/ (n = m /\ xs.length = ys.length /\ xs ≠ ys))
    (q : Q (.bool (decide (n < m \/ (n = m /\ HT.lexLt xs ys = true)))) s) : wpAny (model X.prog X.w) A (richCompare .Lt (.ref a) (.ref b)) Q E s := by
  obtain ⟨its, r1, p1, _⟩ := I.tuple ha
  obtain ⟨its2, r2, p2, _⟩ := I.tuple hb
  obtain ⟨jts, k1, o1, _⟩ := I.tuple hta
  obtain ⟨jts2, k2, o2, _⟩ := I.tuple htb
  have i1 : IntsAre jts.toArray.toList xs := intsAre_of k1
  have i2 : IntsAre jts2.toArray.toList ys := intsAre_of k2
  have eqT := fun (bb : Bool) (he : EqD X.K H 2 (.ref ta) (.ref tb) bb) => (EqD.at (x := V.ref ta) (y := V.ref tb) (u := Value.ref ta) (v := Value.ref tb) I 2 A.in1 (by rw [in1_units]; omega) rfl rfl he).1
  cases r1 with
  | cons e1 r1' => cases r1' with
    | cons e2 r1'' => cases r1''; cases r2 with
      | cons e3 r2' => cases r2' with
        | cons e4 r2'' =>
          cases r2''
          obtain ⟨t1, rfl⟩ := e1
          obtain ⟨t2, rfl⟩ := e3
          cases e2
          cases e4
          refine HT.lt_tupD (r := decide (n < m \/ (n = m /\ HT.lexLt xs ys = true))) p1 p2 ?_ (by omega) _ _ _ _ q
          obtain ⟨e, he, hiff⟩ := HT.eqAt_int A.in1 s n t1 m t2
          rcases hc with hc | ⟨rfl, hlen, hne⟩
          . cases e with
            | true => exact absurd (hiff.mp rfl) hc
            | false =>
              refine .ne he fun prog w E Q hq => HT.rcLt_intD _ s n t1 m t2 prog w E Q ?_
              have ee : decide (n < m \/ (n = m /\ HT.lexLt xs ys = true)) = decide (n < m) := by
                rw [Bool.eq_iff_iff, decide_eq_true_eq, decide_eq_true_eq]
                constructor
                . rintro (h | ⟨h, _⟩)
                  . exact h
                  . exact absurd h hc
                . exact .inl
              rw [ee] at hq
              exact hq
          . cases e with
            | false => exact absurd (hiff.mpr rfl) Bool.false_ne_true
            | true =>
              have ee : decide (n < n \/ (n = n /\ HT.lexLt xs ys = true)) = HT.lexLt xs ys := by
                rw [Bool.eq_iff_iff, decide_eq_true_eq]
                constructor
                . rintro (h | ⟨_, h⟩)
                  . omega
                  . exact h
                . exact fun h => .inr ⟨rfl, h⟩
              rw [ee]
              refine .eq he (.ne (eqT false ?_) ?_)
              . have := EqD.ints (K := X.K) (H := H) (a := ta) (c := tb) (xs := xs) (ys := ys) (.inr ⟨hta, htb⟩) 1
                rw [decide_eq_false hne] at this
                exact this
              . exact HT.lt_tupD o1 o2 (HT.LtD.ints i1 i2 hlen hne) (by rw [in1_units]; omega)
section
variable {X : Cx} {pins : List (Addr × Obj)} {σ : L2.St} {A : Around}
theorem Inv.turnedF {t' : Nat} {it : Addr} {H : Hp} {s : Shared} {h' : Heap} (I : Inv X pins σ H s) (k : ∀ b o, b ≠ it -> s.heap.get? b = some o -> h'.get? b = some o) (f : FpOk X pins H it) : Inv X pins σ H { s with heap := h', toks := t' } := I.turned k f.1 f.2.1 f.2.2.2.1 f.2.2.2.2.1 f.2.2.2.2.2
theorem wu_of {ws : List Wd} {its : List Value} (r : Vals (wv ws) its) : its = wu ws := by
  have : Vals ((ws.map (·.1)).map V.ref) its := by rw [List.map_map]; exact r
  rw [vals_ref this, List.map_map]; rfl
theorem min_loopL {R : Result -> Shared -> Prop} {q It S l : Addr} {ws : List Wd} {dv : Value} {H0 : Hp} (hh : A.handled = none) (hu : A.units + 10 < cLine) (nd : (ws.map (·.2)).Nodup)
    (hl : SqL X.K H0 l (wv ws)) (hW : WsOk X.K H0 ws) (hS0 : H0 S = none) (hSI : S ≠ It)
    (hT : ∀ pl, S64.Turn X (pins ++ pl) σ A.in1 (.ref q) ws H0)
    (hR : ∀ s' H' w, Inv X pins σ H' s' -> Same H0 H' -> w ∈ ws -> (∀ v ∈ ws, GW.lessW v.2 w.2 = false) -> R (.ok (.ret (.ref w.1))) s') :
    ∀ (r j : Nat) (H : Hp) (s : Shared) (t : Addr) (w : Wd), ws.length - j = r -> j <= ws.length -> Inv X pins σ H s -> Same H0 H -> FpOk X pins H It -> s.heap.IsListIter It l j -> H S = some (.lst [.ref w.1, .ref t]) -> SqT X.K H t [.int w.2.length, .ref w.1] -> w ∈ ws.take j -> (∀ v ∈ ws.take j, GW.lessW v.2 w.2 = false) ->
      codeAny (model X.prog X.w) A (.builtin "min.loop" ⟨[.ref It, .ref q, .ref S], [("default", dv)]⟩) R s := by
  have hname : (toString "min" ++ toString ".loop" : String) = "min.loop" := by decide
  intro r
  induction r with
  | zero =>
    intro j H s t w hr hj I hs fp hit hS ht hw hb
    have hjn : j = ws.length := by omega
    obtain ⟨its, r', pl, _⟩ := I.list (hs.seq hl)
    cases wu_of r'
    obtain ⟨_, jts, n, rv, _, hoS⟩ := I.lstM hS
    have hjt : jts = [.ref w.1, .ref t] := vals_ref (ts := [w.1, t]) rv
    subst hjt
    refine codeAny_builtin PySem.F.entry_min_loop ?_
    rw [Around.under_plainId PySem.F.plain_min_loop _]
    show wpAny _ A.in1 (seqItems? (.ref S) >>= _) _ _ _
    refine wpAny_bind (wpAny_seqItems hoS rfl ?_)
    show wpAny _ A.in1 (tryCatch (pyNext (.ref It)) _ >>= _) _ _ _
    refine wpAny_bind (wpAny_tryCatch (wpAny_pyNext_list_end (A := A.in1) hh hit pl.isList (by simp [wu, hjn]) fun h' he' => ?_))
    have I1 := I.turnedF (t' := s.toks) (h' := h') (fun b o hb e => he' b o hb e) fp
    have hoS' := he' S _ hSI hoS
    show wpAny _ A.in1 (updateSeq S (fun _ => #[]) >>= _) _ _ _
    refine wpAny_bind ?_
    refine wpAny_updateSeq hoS' rfl (wpAny_bind (wpAny_letGo (wpAny_pure ?_)))
    rw [hjn, List.take_length] at hw hb
    exact hR _ _ w (I1.lset (its' := []) hS hoS' rfl .nil (Nat.zero_le _)) (hs.over hS0) hw hb
  | succ r ih =>
    intro j H s t w hr hj I hs fp hit hS ht hw hb
    have hlt : j < ws.length := by omega
    obtain ⟨its, r', pl, _⟩ := I.list (hs.seq hl)
    cases wu_of r'
    obtain ⟨_, jts, n, rv, _, hoS⟩ := I.lstM hS
    have hjt : jts = [.ref w.1, .ref t] := vals_ref (ts := [w.1, t]) rv
    subst hjt
    refine codeAny_builtin PySem.F.entry_min_loop ?_
    rw [Around.under_plainId PySem.F.plain_min_loop _]
    show wpAny _ A.in1 (seqItems? (.ref S) >>= _) _ _ _
    refine wpAny_bind (wpAny_seqItems hoS rfl ?_)
    show wpAny _ A.in1 (tryCatch (pyNext (.ref It)) _ >>= _) _ _ _
    refine wpAny_bind (wpAny_tryCatch (wpAny_pyNext_list_item (A := A.in1) (x := .ref ws[j].1) hit pl.isList (by simp [wu, hlt]) fun h' hit' hs' => ?_))
    have I1 := I.turnedF (t' := s.toks) (h' := h') (fun b o hb e => hs'.extBut b o hb e) fp
    obtain ⟨oI, hoI, hoc, hod⟩ := id hit'
    have I1p := I1.pinned (fp := [It]) (fun b hb => by rw [List.mem_singleton.mp hb]; exact fp) (fun b hb => by rw [List.mem_singleton.mp hb]; exact ⟨oI, hoI, fun v z => by rw [hod] at z; cases z⟩)
    have hvm : ws[j] ∈ ws := List.getElem_mem hlt
    show wpAny _ A.in1 (tryCatch (holding [.ref ws[j].1] (call (.ref q) [.ref ws[j].1])) _ >>= _) _ _ _
    refine wpAny_bind (wpAny_tryCatch (wpAny_holding (wpAny_mono (hT _ ws[j] hvm H _ I1p hs) (fun x s'' he => ?_) fun _ _ hF => hF.elim)))
    obtain ⟨k, H2, I2, rk, t2, rfl, s2, ht2⟩ := he
    cases rk
    have hpin := I2.pin (It, oI) (List.mem_append_right _ (List.mem_append_right _ (mem_pinsAt List.mem_cons_self hoI)))
    have I3 := I2.unpinned
    have hS2 := s2 _ _ hS
    have hs2 := hs.trans s2
    have fp2 : FpOk X pins H2 It := ⟨hpin.2.1, fp.2⟩
    obtain ⟨_, jts2, n2, rv2, _, hoS2⟩ := I3.lstM hS2
    have hjt2 : jts2 = [.ref w.1, .ref t] := vals_ref (ts := [w.1, t]) rv2
    subst hjt2
    have hwm : w ∈ ws := List.mem_of_mem_take hw
    have hne : ws[j].2 ≠ w.2 := fun z => by
      obtain ⟨i, hi, e⟩ := List.mem_iff_getElem.mp hw
      rw [List.length_take] at hi
      have e' : ws[i] = w := by rw [<- e, List.getElem_take]
      have := (List.getElem_inj (xs := ws.map (·.2)) (i := j) (j := i) (h₀ := by rw [List.length_map]; exact hlt) (h₁ := by rw [List.length_map]; omega) nd).mp (by rw [List.getElem_map, List.getElem_map, e', z])
      omega
    have hc : (ws[j].2.length : Int) ≠ w.2.length \/ ((ws[j].2.length : Int) = w.2.length /\ ws[j].2.length = w.2.length /\ ws[j].2 ≠ w.2) := by
      by_cases e : ws[j].2.length = w.2.length
      . exact .inr ⟨by omega, e, hne⟩
      . exact .inl (by omega)
    show wpAny _ A.in1 (tryCatch (holding [.ref ws[j].1, .ref t2] (richCompare .Lt (.ref t2) (.ref t) >>= _)) _ >>= _) _ _ _
    refine wpAny_bind (wpAny_tryCatch (wpAny_holding (wpAny_bind (ltP_at (A := A.in1) (by rw [in1_units]; omega) I3 ht2 (s2.seqT ht) (hs2.seqT (hW _ hvm)) (hs2.seqT (hW _ hwm)) hc ?_))))
    rw [less_key]
    refine wpAny_bind (wpAny_holding (wpAny_truthy_bool ?_))
    refine wpAny_bind (wpAny_letGo (wpAny_pure ?_))
    have et : ws.take (j + 1) = ws.take j ++ [ws[j]] := by rw [List.take_add_one, List.getElem?_eq_getElem hlt]; rfl
    cases hb' : GW.lessW ws[j].2 w.2 with
    | true =>
      simp only [if_true]
      refine wpAny_bind ?_
      refine wpAny_updateSeq hoS2 rfl (wpAny_bind (wpAny_letGo ?_))
      rw [hname]
      have I4 := I3.lset (t' := s''.toks) (f := fun _ => #[.ref ws[j].1, .ref t2]) (its' := [.ref ws[j].1, .ref t2]) (ys := [.ref ws[j].1, .ref t2]) hS2 hoS2 rfl (.cons rfl (.cons rfl .nil)) (by show 2 <= sizeLine; decide)
      refine wpAny_pure ⟨plainId_quiet PySem.F.plain_min_loop _, ih (j + 1) _ _ t2 ws[j] (by omega) hlt I4 (hs2.over hS0) ⟨by rw [upd_ne hSI.symm]; exact fp2.1, fp2.2⟩ ⟨oI, (Heap.get?_update_other _ _ hSI).trans hpin.1, hoc, hod⟩ upd_same ?_ (by rw [et]; exact List.mem_append_right _ (List.mem_singleton.mpr rfl)) fun v hv => ?_⟩
      . rcases ht2 with ht2 | ht2
        . left
          rcases ht2 with ht2 | ⟨o, ht2⟩
          . exact .inl (by rw [upd_ne (fun z => by rw [z, hS2] at ht2; cases ht2)]; exact ht2)
          . exact .inr ⟨o, by rw [upd_ne (fun z => by rw [z, hS2] at ht2; cases ht2)]; exact ht2⟩
        . exact .inr ht2
      . rw [et] at hv
        rcases List.mem_append.mp hv with hv | hv
        . cases hq : GW.lessW v.2 ws[j].2 with
          | false => rfl
          | true => have := less_trans hq hb'; rw [hb v hv] at this; cases this
        . rw [List.mem_singleton.mp hv]; exact less_irr
    | false =>
      simp only [Bool.false_eq_true, if_false]
      refine wpAny_bind (wpAny_letGo ?_)
      rw [hname]
      refine wpAny_pure ⟨plainId_quiet PySem.F.plain_min_loop _, ih (j + 1) _ _ t w (by omega) hlt I3 hs2 fp2 ⟨oI, hpin.1, hoc, hod⟩ hS2 (s2.seqT ht) (by rw [et]; exact List.mem_append_left _ hw) fun v hv => ?_⟩
      rw [et] at hv
      rcases List.mem_append.mp hv with hv | hv
      . exact hb v hv
      . rw [List.mem_singleton.mp hv]; exact hb'
end
end L2
set_option Elab.async false
set_option linter.all false
set_option maxRecDepth 100000
set_option maxHeartbeats 4000000
namespace L2
open PySem PySem.Spec PyProof.Rows S64
theorem args_minL (a v d : Value) : argsOk "min" ⟨[a], [(Str.ofString "key", v), (Str.ofString "default", d)]⟩ := by unfold argsOk; kernel_rfl
section
variable {X : Cx} {pins : List (Addr × Obj)} {σ : L2.St} {A : Around}
abbrev ends (Q E : Value -> Shared -> Prop) : Result -> Shared -> Prop := fun r s' => match r with | .ok (.ret v) => Q v s' | .ok _ => False | .error e => E e s'
abbrev it0 (l : Addr) : Obj := ⟨.type "list_iterator", none, .fields #[.ref l, .int 0 0], #[]⟩
theorem min_open {q l : Addr} {xs : List V} {dv : Value} {H : Hp} {s : Shared} {Q E : Value -> Shared -> Prop} (I : Inv X pins σ H s) (hl : SqL X.K H l xs)
    (k : ∀ S s', S ≠ s.heap.objs.size -> H S = none -> Inv X pins σ (upd H S (.lst [])) s' -> FpOk X pins (upd H S (.lst [])) s.heap.objs.size -> s'.heap.get? s.heap.objs.size = some (it0 l) -> s'.heap.get? S = some (seqObj "list" #[] 0) ->
      codeAny (model X.prog X.w) A (.builtin "min.loop" ⟨[.ref s.heap.objs.size, .ref q, .ref S], [("default", dv)]⟩) (ends Q E) s') :
    wpAny (model X.prog X.w) A (call (.builtin "min") [.ref l] [(Str.ofString "key", .ref q), (Str.ofString "default", dv)]) Q E s := by
  obtain ⟨_, _, pl, _⟩ := I.list hl
  refine kmk_tree PySem.F.kind_min PySem.F.plain_min PySem.F.entry_min (args_minL _ _ _) ?_
  have c := k (s.heap.push (it0 l)).objs.size { s with heap := (s.heap.push (it0 l)).push (seqObj "list" #[] 0) } (by rw [size_push']; exact Nat.succ_ne_self _) (I.hok.fresh (by rw [size_push']; exact Nat.le_succ _))
  have J := (I.kept (t' := s.toks) (h' := s.heap.push (it0 l)) fun b o e => Heap.get?_push_of_some _ e).lnew (t' := s.toks) (its := []) (ys := []) .nil (Nat.zero_le _)
  have ne : s.heap.objs.size ≠ (s.heap.push (it0 l)).objs.size := by rw [size_push']; exact (Nat.succ_ne_self _).symm
  have c := c J (I.fpOk (Nat.le_refl _) (by rw [upd_ne ne]; exact I.hok.fresh (Nat.le_refl _))) (Heap.get?_push_of_some _ (Heap.get?_push_size _ rfl)) (Heap.get?_push_size _ rfl)
  refine wpAny_bind (wpAny_of_eq (a := [some (.ref q), some dv]) rfl ?_)
  wp_walk using wpAny_pyIter_list pl.isList
  rw [show (toString "min" ++ toString ".loop" : String) = "min.loop" from by decide]
  exact ⟨plainId_quiet PySem.F.plain_min_loop _, c⟩
theorem min_callL {q l : Addr} {ws : List Wd} {dv : Value} {H : Hp} {s : Shared} {Q E : Value -> Shared -> Prop} (hh : A.handled = none) (hu : A.units + 10 < cLine) (I : Inv X pins σ H s) (nd : (ws.map (·.2)).Nodup)
    (hl : SqL X.K H l (wv ws)) (hW : WsOk X.K H ws) (hT : ∀ pl, S64.Turn X (pins ++ pl) σ A.in1 (.ref q) ws H)
    (h0 : ws = [] -> ∀ s' H', Inv X pins σ H' s' -> Same H H' -> Q dv s')
    (h1 : ∀ s' H' w, Inv X pins σ H' s' -> Same H H' -> w ∈ ws -> (∀ v ∈ ws, GW.lessW v.2 w.2 = false) -> Q (.ref w.1) s') :
    wpAny (model X.prog X.w) A (call (.builtin "min") [.ref l] [(Str.ofString "key", .ref q), (Str.ofString "default", dv)]) Q E s := by
  have hname : (toString "min" ++ toString ".loop" : String) = "min.loop" := by decide
  refine min_open I hl fun S u hSI hSn I2 fp gI gS => ?_
  have sH : Same H (upd H S (.lst [])) := Same.new hSn
  obtain ⟨its2, r2, pl2, _⟩ := I2.list (sH.seq hl)
  cases wu_of r2
  refine codeAny_builtin PySem.F.entry_min_loop ?_
  rw [Around.under_plainId PySem.F.plain_min_loop _]
  show wpAny _ A.in1 (seqItems? (.ref _) >>= _) _ _ _
  refine wpAny_bind (wpAny_seqItems gS rfl ?_)
  show wpAny _ A.in1 (tryCatch (pyNext (.ref s.heap.objs.size)) _ >>= _) _ _ _
  by_cases hne : ws = []
  . refine wpAny_bind (wpAny_tryCatch (wpAny_pyNext_list_end (A := A.in1) (i := 0) hh ⟨_, gI, rfl, rfl⟩ pl2.isList (by simp [wu, hne]) fun h' he' => ?_))
    have I3 := I2.turnedF (t' := u.toks) (h' := h') (fun b o hb e => he' b o hb e) fp
    refine wpAny_bind (wpAny_rule (wpAny_pure ?_))
    exact h0 hne _ _ I3 sH
  . have hlt : 0 < ws.length := List.length_pos_iff.mpr hne
    refine wpAny_bind (wpAny_tryCatch (wpAny_pyNext_list_item (A := A.in1) (i := 0) (x := .ref ws[0].1) ⟨_, gI, rfl, rfl⟩ pl2.isList (by simp [wu, hlt]) fun h' hit' hs' => ?_))
    have I3 := I2.turnedF (t' := u.toks) (h' := h') (fun b o hb e => hs'.extBut b o hb e) fp
    obtain ⟨oI, hoI, hoc, hod⟩ := id hit'
    have I3p := I3.pinned (fp := [s.heap.objs.size]) (fun b hb => by rw [List.mem_singleton.mp hb]; exact fp) (fun b hb => by rw [List.mem_singleton.mp hb]; exact ⟨oI, hoI, fun v z => by rw [hod] at z; cases z⟩)
    have hvm : ws[0] ∈ ws := List.getElem_mem hlt
    show wpAny _ A.in1 (tryCatch (holding [.ref ws[0].1] (call (.ref q) [.ref ws[0].1])) _ >>= _) _ _ _
    refine wpAny_bind (wpAny_tryCatch (wpAny_holding (wpAny_mono (hT _ ws[0] hvm _ _ I3p sH) (fun x s'' he => ?_) fun _ _ hF => hF.elim)))
    obtain ⟨k, H2, I4, rk, t2, rfl, s2, ht2⟩ := he
    cases rk
    have hpin := I4.pin (s.heap.objs.size, oI) (List.mem_append_right _ (List.mem_append_right _ (mem_pinsAt List.mem_cons_self hoI)))
    have I5 := I4.unpinned
    have hS2 := s2 _ _ (upd_same : upd H S (.lst []) S = some (.lst []))
    obtain ⟨_, jts2, n2, rv2, _, hoS2⟩ := I5.lstM hS2
    have hjt2 : jts2 = [] := vals_ref (ts := []) rv2
    subst hjt2
    show wpAny _ A.in1 (updateSeq S (fun _ => #[.ref ws[0].1, .ref t2]) >>= _) _ _ _
    refine wpAny_bind ?_
    refine wpAny_updateSeq hoS2 rfl ?_
    rw [hname]
    have I6 := I5.lset (t' := s''.toks) (f := fun _ => #[.ref ws[0].1, .ref t2]) (its' := [.ref ws[0].1, .ref t2]) (ys := [.ref ws[0].1, .ref t2]) hS2 hoS2 rfl (.cons rfl (.cons rfl .nil)) (by show 2 <= sizeLine; decide)
    have et : ws.take 1 = [ws[0]] := by
      cases ws with
      | nil => simp at hlt
      | cons a r => rfl
    refine wpAny_pure ⟨plainId_quiet PySem.F.plain_min_loop _, min_loopL hh hu nd hl hW hSn hSI hT h1 _ 1 _ _ t2 ws[0] rfl hlt I6 ((sH.trans s2).over hSn) ⟨by rw [upd_ne hSI.symm]; exact hpin.2.1, fp.2⟩ ⟨oI, (Heap.get?_update_other _ _ hSI).trans hpin.1, hoc, hod⟩ upd_same ?_ (by rw [et]; exact List.mem_singleton.mpr rfl) fun v hv => ?_⟩
    . rcases ht2 with ht2 | ht2
      . left
        rcases ht2 with ht2 | ⟨o, ht2⟩
        . exact .inl (by rw [upd_ne (fun z => by rw [z, hS2] at ht2; cases ht2)]; exact ht2)
        . exact .inr ⟨o, by rw [upd_ne (fun z => by rw [z, hS2] at ht2; cases ht2)]; exact ht2⟩
      . exact .inr ht2
    . rw [et] at hv
      rw [List.mem_singleton.mp hv]; exact less_irr
end
abbrev lrA (ap : Pos) : Arguments := { posonlyargs := [], args := [{ arg := "row", annotation := none, pos := ap }], vararg := none, kwonlyargs := [], kw_defaults := [], kwarg := none, defaults := [] }
abbrev lrB (p1 p2 p3 p4 p5 : Pos) : Expr := .Tuple [.Call (.Name "len" p1) [.Name "row" p2] [] p3, .Name "row" p4] 0 p5
abbrev lrS : Scope := { kind := .function, names := [(Str.ofString "row", .local), (Str.ofString "len", .globalImplicit)], isGenerator := false, isCoroutine := false, more := [] }
theorem lrScope : FnScope ["row"] ["row"] lrS := ⟨rfl, rfl, rfl, by decide, rfl, fun x hx => .inl (by rw [List.mem_singleton.mp hx]; rfl), fun y hy => by
  rcases List.mem_cons.mp hy with rfl | hy
  . simp
  . rw [List.mem_singleton.mp hy]; simp⟩
def tMinL (K : PySem.W.Frag) (P : Addr) (lp : Pos) (qual : Str) (t : TA) : TE := fun σ H Q => t σ H fun vs H1 => ∃ l ws, vs = [.ref l] /\ SqL K H1 l (wv ws) /\ WsOk K H1 ws /\ (ws.map (·.2)).Nodup /\ LamT P lp qual H1 /\
  (ws = [] -> ∀ H2, SameT P H1 H2 -> LamT P lp qual H2 -> Q .non H2) /\ ∀ w H2, SameT P H1 H2 -> LamT P lp qual H2 -> w ∈ ws -> (∀ v ∈ ws, GW.lessW v.2 w.2 = false) -> Q (.ref w.1) H2
theorem r_minL {K : PySem.W.Frag} {P : Addr} {lp : Pos} {qual : Str} {t : TA} {σ : St} {H : Hp} {Q : VK} : tMinL K P lp qual t σ H Q = t σ H fun vs H1 => ∃ l ws, vs = [.ref l] /\ SqL K H1 l (wv ws) /\ WsOk K H1 ws /\ (ws.map (·.2)).Nodup /\ LamT P lp qual H1 /\
  (ws = [] -> ∀ H2, SameT P H1 H2 -> LamT P lp qual H2 -> Q .non H2) /\ ∀ w H2, SameT P H1 H2 -> LamT P lp qual H2 -> w ∈ ws -> (∀ v ∈ ws, GW.lessW v.2 w.2 = false) -> Q (.ref w.1) H2 := rfl
theorem pe_minL {X : Cx} {e : Expr} {ta : TA} {c P : Addr} {k n : Nat} {qual : Str} {p kp kp2 pos lp ap p1 p2 p3 p4 p5 p6 : Pos} (hc : X.calm = true) (hr : Room (k + 3) X.A) (hg : Gl X "min") (hm : X.mg "min" = none) (hml : X.mg "len" = none) (hcode : X.env.code = .ref c) (C : PySem.W.CodeHd X.base c P) (hbm : BmOk X.mg X.base)
    (ha : PA X [e] ta) (hq : X.env.qual = qual := by rfl)
    (he : backTo pos (starEach [e] X.env) = (false, eval e X.env) :: backTo pos (starEach [] X.env) := by rfl) (hpl : (backTo pos (starEach [e] X.env)).any (·.1) = false := by rfl) :
    PE X (.Call (.Name "min" p) [e] [⟨some "key", .Lambda (lrA ap) (lrB p1 p2 p3 p4 p5) lrS lp, kp⟩, ⟨some "default", .Constant .none n p6, kp2⟩] pos) (tMinL X.K P lp qual ta) := by
  intro pins s σ H Q I h
  subst hq
  refine wpAny_Call_Name_kw (ld_blt I hg hm rfl ?_)
  refine callWith_kw ?_ he hpl
  refine thn (ha pos pins s σ H _ I h) fun us s1 ⟨vs, H1, I1, r1, q1⟩ => ?_
  obtain ⟨l, ws, rfl, hl, hW, nd, hP, q0, q1⟩ := q1
  obtain ⟨ps, hP1⟩ := hP.is
  obtain ⟨u1, rfl, rx⟩ := vals1 r1
  cases rx
  refine kws_cons (lam_makeL I1 hcode C hP hbm rfl rfl fun f c' oc vs t ctv H2 s2 I2 hS2 hT2 hc2 hd hv => kws_cons (wpAny_pure (kws_nil ?_)))
  show wpAny (model X.prog X.w) X.A (call (.builtin "min") [.ref l] [(Str.ofString "key", .ref f), (Str.ofString "default", .none)]) _ _ s2
  have nP : ∀ b ys, SqT X.K H1 b ys -> SqT X.K H2 b ys := fun b ys => hS2.tsq hP1
  have hl2 : SqL X.K H2 l (wv ws) := hS2.lsq hP1 hl
  have LT : ∀ H', Same H2 H' -> LamT P lp X.env.qual H' := fun H' g1 => .inr ⟨c', oc, vs, t, g1 _ _ hT2, g1 _ _ hc2, hd, hv⟩
  refine min_callL (I.ok.hd hc) (by have := hr.un; omega) I2 nd hl2 (fun w hw => nP _ _ (hW w hw)) (fun pl w hw H' s' I' hS => ?_) (fun hz s' H' I' g1 => ⟨.non, H', I'.unpinned, rfl, q0 hz H' (hS2.trans (SameT.of g1)) (LT H' g1)⟩) (fun s' H' w I' g1 hw hb => ⟨.ref w.1, H', I'.unpinned, rfl, q1 w H' (hS2.trans (SameT.of g1)) (LT H' g1) hw hb⟩)
  have hf := (I'.pin (f, PySem.W.kla_obj "<lambda>" (X.env.qual ++ "<lambda>") (lrA ap) (lrB p1 p2 p3 p4 p5) lrS [] ((X.mg "__name__").getD .none) c' ctv) (List.mem_append_right _ (List.mem_append_left _ (List.mem_append_right _ (List.mem_cons_self))))).1
  have hc' : s'.heap.get? c' = some oc := (I'.hok c' _ (hS _ _ hc2)).1
  have hcr : s'.heap.CodeRec (.ref c') (X.env.qual ++ "<lambda>") := ⟨c', oc, vs, t, rfl, hc', hd, hv⟩
  have hwT : SqT X.K H' w.1 (w.2.map V.int) := hS.seqT (nP _ _ (hW w hw))
  refine wpAny_call (codeAny_mono (lam_of (k := k) (N := ["row"]) (ps := ["row"]) (vs := [.ref w.1]) (us := [.ref w.1]) (E := fun _ _ _ => False) (Q := fun kv H'' => ∃ t, kv = .ref t /\ Same H' H'' /\ SqT X.K H'' t [.int w.2.length, .ref w.1]) lrScope (hr.in1.mono (by omega)) I'.env0.in1 hf hcr rfl (.cons rfl .nil) rfl
    (pe_tup (pa_cons (pe_callB call_len_seq rfl hml rfl (pa_cons (pv 0) pa_nil)) (pa_cons (pv 0) pa_nil))) ?_) fun r s2 hq => ?_)
  . refine ⟨.ref w.1, rfl, w.1, w.2.map V.int, rfl, .inr hwT, .ref w.1, rfl, ?_, fun p hp => ?_⟩
    . show 2 <= sizeLine
      decide
    . rw [List.length_map]
      exact ⟨p, rfl, Same.new hp, .inl (.inl upd_same)⟩
  . cases r with
    | error e => exact hq.elim
    | ok fl =>
      cases fl with
      | ret u => exact I'.after hq
      | next => exact False.elim hq
      | brk => exact False.elim hq
      | cont => exact False.elim hq
end L2
set_option Elab.async false
set_option linter.all false
namespace N80
open Nest L2 GW
def val (b : Nat) (v : List Int) : Nat := v.foldl (fun a x => a * b + x.toNat) 0
def cod (b : Nat) (v : List Int) : Nat := b ^ v.length + val b v
theorem fold_val (b : Nat) : ∀ (v : List Int) (a : Nat), v.foldl (fun a x => a * b + x.toNat) a = a * b ^ v.length + val b v
  | [], a => by simp [val]
  | x :: r, a => by
    unfold val
    rw [List.foldl_cons, List.foldl_cons, fold_val b r, fold_val b r (0 * b + x.toNat), List.length_cons, Nat.pow_succ]
    grind
theorem val_cons (b : Nat) (x : Int) (r : List Int) : val b (x :: r) = x.toNat * b ^ r.length + val b r := by
  show List.foldl _ (0 * b + x.toNat) r = _
  rw [fold_val]; simp
theorem val_app (b : Nat) (u v : List Int) : val b (u ++ v) = val b u * b ^ v.length + val b v := by
  unfold val
  rw [List.foldl_append, fold_val]; rfl
def Dg (b : Nat) (u : List Int) : Prop := ∀ x ∈ u, 0 <= x /\ x < (b : Int)
theorem val_lt {b : Nat} : ∀ {v : List Int}, Dg b v -> val b v < b ^ v.length
  | [], _ => by simp [val]
  | x :: r, h => by
    have h1 := val_lt (fun y hy => h y (List.mem_cons_of_mem _ hy) : Dg b r)
    have h2 := h x List.mem_cons_self
    rw [val_cons, List.length_cons, Nat.pow_succ]
    have h3 : x.toNat + 1 <= b := by omega
    have h4 := Nat.mul_le_mul_right (b ^ r.length) h3
    rw [Nat.add_mul, Nat.one_mul] at h4
    rw [Nat.mul_comm (b ^ r.length) b]
    omega
theorem lex_val {b : Nat} : ∀ {u v : List Int}, u.length = v.length -> Dg b u -> Dg b v -> (HT.lexLt u v = true ↔ val b u < val b v)
  | [], [], _, _, _ => by simp [HT.lexLt, val]
  | [], _ :: _, h, _, _ => by simp at h
  | _ :: _, [], h, _, _ => by simp at h
  | x :: u, y :: v, h, hu, hv => by
    have hl : u.length = v.length := by simpa using h
    have hu' : Dg b u := fun z hz => hu z (List.mem_cons_of_mem _ hz)
    have hv' : Dg b v := fun z hz => hv z (List.mem_cons_of_mem _ hz)
    have h1 := val_lt hu'
    have h2 := val_lt hv'
    have hx := hu x List.mem_cons_self
    have hy := hv y List.mem_cons_self
    rw [HT.lexLt_cons, val_cons, val_cons, hl]
    rw [hl] at h1
    by_cases e : x = y
    . rw [if_pos e, lex_val hl hu' hv', e]; omega
    . rw [if_neg e, decide_eq_true_eq]
      constructor
      . intro hlt
        have h3 : x.toNat + 1 <= y.toNat := by omega
        have h4 := Nat.mul_le_mul_right (b ^ v.length) h3
        rw [Nat.add_mul, Nat.one_mul] at h4
        omega
      . intro hlt
        refine Decidable.byContradiction fun hn => ?_
        have h3 : y.toNat + 1 <= x.toNat := by omega
        have h4 := Nat.mul_le_mul_right (b ^ v.length) h3
        rw [Nat.add_mul, Nat.one_mul] at h4
        omega
theorem cod_len {b : Nat} (hb : 2 <= b) {u v : List Int} (hu : Dg b u) (h : u.length < v.length) : cod b u < cod b v := by
  unfold cod
  have h1 := val_lt hu
  have h2 : b ^ (u.length + 1) <= b ^ v.length := Nat.pow_le_pow_right (by omega) h
  rw [Nat.pow_succ] at h2
  have h3 := Nat.mul_le_mul_left (b ^ u.length) hb
  omega
theorem less_iff {b : Nat} (hb : 2 <= b) {u v : List Int} (hu : Dg b u) (hv : Dg b v) : lessW u v = true ↔ cod b u < cod b v := by
  unfold lessW
  by_cases h : u.length = v.length
  . rw [if_pos h, lex_val h hu hv]
    unfold cod
    rw [h]; omega
  . rw [if_neg h, decide_eq_true_eq]
    constructor
    . exact cod_len hb hu
    . intro hlt
      refine Decidable.byContradiction fun hn => ?_
      have := cod_len hb hv (show v.length < u.length by omega)
      omega
theorem len_of_cod {b : Nat} (hb : 2 <= b) {u v : List Int} (hv : Dg b v) (h : cod b u <= cod b v) : u.length <= v.length := by
  refine Decidable.byContradiction fun hn => ?_
  have := cod_len hb hv (show v.length < u.length by omega)
  omega
theorem Dg.app {b : Nat} {u v : List Int} (hu : Dg b u) (hv : Dg b v) : Dg b (u ++ v) := fun x hx => by
  rcases List.mem_append.mp hx with h | h
  . exact hu x h
  . exact hv x h
theorem cod_right {b : Nat} (hb : 2 <= b) {u v : List Int} (hu : Dg b u) (hv : Dg b v) (w : List Int) (hw : Dg b w) (h : cod b u <= cod b v) : cod b (u ++ w) <= cod b (v ++ w) := by
  have hl := len_of_cod hb hv h
  by_cases e : u.length = v.length
  . unfold cod at *
    rw [val_app, val_app, List.length_append, List.length_append, e]
    rw [e] at h
    have := Nat.mul_le_mul_right (b ^ w.length) (show val b u <= val b v by omega)
    omega
  . exact Nat.le_of_lt (cod_len hb (hu.app hw) (by rw [List.length_append, List.length_append]; omega))
theorem cod_left {b : Nat} (hb : 2 <= b) {u v : List Int} (hu : Dg b u) (hv : Dg b v) (w : List Int) (hw : Dg b w) (h : cod b u <= cod b v) : cod b (w ++ u) <= cod b (w ++ v) := by
  have hl := len_of_cod hb hv h
  by_cases e : u.length = v.length
  . unfold cod at *
    rw [val_app, val_app, List.length_append, List.length_append, e]
    rw [e] at h
    omega
  . exact Nat.le_of_lt (cod_len hb (hw.app hu) (by rw [List.length_append, List.length_append]; omega))
inductive Nst (p e : Int) : List Int -> Prop
  | nil : Nst p e []
  | pl {x : Int} {row : List Int} : 0 <= x -> x < p -> Nst p e row -> Nst p e (x :: row)
  | ca {c : Int} {inn row : List Int} : p <= c -> c < e -> Nst p e inn -> Nst p e row -> Nst p e (c :: inn ++ e :: row)
theorem nst_of {p e : Int} (hp : 0 <= p) (hpe : p <= e) : ∀ (n : Nat) (l : List Int), l.length <= n -> ∀ d, nestR p e l d = true -> (d = 0 -> Nst p e l) /\ ∀ d', d = d' + 1 -> ∃ a r, l = a ++ e :: r /\ Nst p e a /\ nestR p e r d' = true
  | 0, l, hn, d, h => by
    have : l = [] := List.length_eq_zero_iff.mp (by omega)
    subst this
    refine ⟨fun _ => .nil, fun d' hd => ?_⟩
    rw [hd] at h
    simp [nestR] at h
  | n + 1, [], hn, d, h => by
    refine ⟨fun _ => .nil, fun d' hd => ?_⟩
    rw [hd] at h
    simp [nestR] at h
  | n + 1, x :: l, hn, d, h => by
    have hl : l.length <= n := by simpa using hn
    rw [nestR_cons] at h
    by_cases h0 : x < 0 \/ e < x
    . rw [if_pos h0] at h; cases h
    rw [if_neg h0] at h
    by_cases h1 : x = e
    . rw [if_pos h1] at h
      subst h1
      cases d with
      | zero => cases h
      | succ d => exact ⟨fun z => by omega, fun d' hd => ⟨[], l, rfl, .nil, by cases hd; exact h⟩⟩
    rw [if_neg h1] at h
    by_cases h2 : p <= x
    . rw [if_pos h2] at h
      obtain ⟨a, r, rfl, ha, hr⟩ := (nst_of hp hpe n l hl (d + 1) h).2 d rfl
      have hrl : r.length <= n := by rw [List.length_append, List.length_cons] at hl; omega
      have ih := nst_of hp hpe n r hrl d hr
      refine ⟨fun z => .ca h2 (by omega) ha (ih.1 z), fun d' hd => ?_⟩
      obtain ⟨a', r', rfl, ha', hr'⟩ := ih.2 d' hd
      exact ⟨x :: a ++ e :: a', r', by simp, .ca h2 (by omega) ha ha', hr'⟩
    . rw [if_neg h2] at h
      have ih := nst_of hp hpe n l hl d h
      refine ⟨fun z => .pl (by omega) (by omega) (ih.1 z), fun d' hd => ?_⟩
      obtain ⟨a, r, rfl, ha, hr⟩ := ih.2 d' hd
      exact ⟨x :: a, r, rfl, .pl (by omega) (by omega) ha, hr⟩
theorem Nst.row {p e : Int} (hp : 0 <= p) (hpe : p <= e) {l : List Int} (h : Nst p e l) : nestR p e l 0 = true := by
  induction h with
  | nil => rfl
  | pl h0 h1 _ ih => rw [nestR_cons, if_neg (by omega), if_neg (by omega), if_neg (by omega)]; exact ih
  | @ca c inn row h0 h1 _ _ ih1 ih2 =>
    show nestR p e (c :: (inn ++ e :: row)) 0 = true
    rw [nestR_cons, if_neg (by omega), if_neg (by omega), if_pos h0]
    have := nestR_app inn 0 1 (e :: row) ih1
    rw [Nat.add_zero] at this
    rw [this, nestR_cons, if_neg (by omega), if_pos rfl]
    exact ih2
theorem nst_iff {p e : Int} (hp : 0 <= p) (hpe : p <= e) {l : List Int} : nestR p e l 0 = true ↔ Nst p e l := ⟨fun h => (nst_of hp hpe l.length l (Nat.le_refl _) 0 h).1 rfl, fun h => h.row hp hpe⟩
theorem Nst.app {p e : Int} {u v : List Int} (h : Nst p e u) (g : Nst p e v) : Nst p e (u ++ v) := by
  induction h with
  | nil => exact g
  | pl h0 h1 _ ih => exact .pl h0 h1 ih
  | @ca c inn row h0 h1 a _ _ ih =>
    have : (c :: inn ++ e :: row) ++ v = c :: inn ++ e :: (row ++ v) := by simp
    rw [this]
    exact .ca h0 h1 a ih
theorem Nst.dg {p e : Int} {b : Nat} (hp : 0 <= p) (hb : (b : Int) = e + 1) (hpe : p <= e) {u : List Int} (h : Nst p e u) : Dg b u := by
  induction h with
  | nil => intro x hx; cases hx
  | pl h0 h1 _ ih =>
    intro x hx
    rcases List.mem_cons.mp hx with rfl | hx
    . omega
    . exact ih x hx
  | ca h0 h1 _ _ ih1 ih2 =>
    intro x hx
    rw [List.cons_append] at hx
    rcases List.mem_cons.mp hx with rfl | hx
    . omega
    . rcases List.mem_append.mp hx with hx | hx
      . exact ih1 x hx
      . rcases List.mem_cons.mp hx with rfl | hx
        . omega
        . exact ih2 x hx
theorem prt_self {p e : Int} {row : List Int} (hn : nestR p e row 0 = true) : prtS p e row = ((prtS p e row).1, [], [outW p e row]) := by
  have := prt_under hn [] [] [] []
  exact this
theorem out_app {p e : Int} {u v : List Int} (hu : nestR p e u 0 = true) (hv : nestR p e v 0 = true) : (prtS p e (u ++ v)).1 = (prtS p e u).1 ++ (prtS p e v).1 /\ outW p e (u ++ v) = outW p e u ++ outW p e v := by
  have huv : nestR p e (u ++ v) 0 = true := by
    have := nestR_app u 0 0 v hu
    rw [Nat.add_zero] at this
    rw [this]; exact hv
  have h1 := prt_self huv
  have h2 : prtS p e (u ++ v) = v.foldl (prtF p e) (prtS p e u) := by unfold prtS; rw [List.foldl_append]
  rw [prt_self hu] at h2
  have h3 := prt_under hv (prtS p e u).1 [] [] (outW p e u)
  rw [List.nil_append] at h3
  rw [h3] at h2
  refine ⟨by rw [h2], ?_⟩
  rw [h2] at h1
  have := congrArg (fun z => z.2.2) h1
  simpa using this.symm
theorem out_pl {p e x : Int} (h0 : 0 <= x) (h1 : x < p) (hpe : p <= e) : (prtS p e [x]).1 = [] /\ outW p e [x] = [x] := by
  constructor
  . show (prtF p e ([], [], [[]]) x).1 = []
    unfold prtF
    rw [if_neg (by omega), if_neg (by omega)]
  . show (outF p e ([], 0) x).1 = [x]
    unfold outF
    rw [if_neg (by omega)]; rfl
theorem out_ca {p e c : Int} {inn : List Int} (hp : 0 <= p) (h0 : p <= c) (h1 : c < e) (hn : nestR p e inn 0 = true) : (prtS p e (c :: inn ++ [e])).1 = (prtS p e inn).1 ++ [(c - p, outW p e inn)] /\ outW p e (c :: inn ++ [e]) = [c] := by
  have hw : nestR p e (c :: inn ++ [e]) 0 = true := by
    show nestR p e (c :: (inn ++ [e])) 0 = true
    rw [nestR_cons, if_neg (by omega), if_neg (by omega), if_pos h0]
    have := nestR_app inn 0 1 [e] hn
    rw [Nat.add_zero] at this
    rw [this, nestR_cons, if_neg (by omega), if_pos rfl]; rfl
  have h2 := prt_self hw
  have h3 : prtS p e (c :: inn ++ [e]) = prtF p e (inn.foldl (prtF p e) ([], [c - p], [[c]] ++ [[]])) e := by
    unfold prtS
    rw [List.foldl_append]
    show prtF p e (inn.foldl (prtF p e) (prtF p e ([], [], [[]]) c)) e = _
    have : prtF p e ([], [], [[]]) c = ([], [c - p], [[c]] ++ [[]]) := by
      unfold prtF
      rw [if_neg (by omega), if_pos h0]; rfl
    rw [this]
  rw [prt_under hn] at h3
  have h4 : prtF p e ([] ++ (prtS p e inn).1, [c - p], [[c]] ++ [[] ++ outW p e inn]) e = ((prtS p e inn).1 ++ [(c - p, outW p e inn)], [], [[c]]) := by
    unfold prtF
    rw [if_pos rfl]; rfl
  rw [h4] at h3
  refine ⟨by rw [h3], ?_⟩
  rw [h3] at h2
  have := congrArg (fun z => z.2.2) h2
  simpa using this.symm
def Okr (A : Int -> List Int -> Prop) (p e : Int) (row : List Int) : Prop := ∀ q ∈ (prtS p e row).1, A q.1 q.2
structure Acc (A : Int -> List Int -> Prop) (p e : Int) (j : Int) (row : List Int) : Prop where
  n : Nst p e row
  o : Okr A p e row
  a : A j (outW p e row)
theorem okr_app {A : Int -> List Int -> Prop} {p e : Int} (hp : 0 <= p) (hpe : p <= e) {u v : List Int} (hu : Nst p e u) (hv : Nst p e v) : Okr A p e (u ++ v) ↔ Okr A p e u /\ Okr A p e v := by
  unfold Okr
  rw [(out_app (hu.row hp hpe) (hv.row hp hpe)).1]
  constructor
  . intro h
    exact ⟨fun q hq => h q (List.mem_append_left _ hq), fun q hq => h q (List.mem_append_right _ hq)⟩
  . rintro ⟨h1, h2⟩ q hq
    rcases List.mem_append.mp hq with hq | hq
    . exact h1 q hq
    . exact h2 q hq
theorem nst_pl {p e x : Int} (h0 : 0 <= x) (h1 : x < p) : Nst p e [x] := .pl h0 h1 .nil
theorem nst_ca {p e c : Int} {inn : List Int} (h0 : p <= c) (h1 : c < e) (hn : Nst p e inn) : Nst p e (c :: inn ++ [e]) := .ca h0 h1 hn .nil
theorem okr_pl {A : Int -> List Int -> Prop} {p e x : Int} (h0 : 0 <= x) (h1 : x < p) (hpe : p <= e) : Okr A p e [x] := fun q hq => by
  rw [(out_pl h0 h1 hpe).1] at hq; cases hq
theorem okr_ca {A : Int -> List Int -> Prop} {p e c : Int} {inn : List Int} (hp : 0 <= p) (hpe : p <= e) (h0 : p <= c) (h1 : c < e) (hn : Nst p e inn) : Okr A p e (c :: inn ++ [e]) ↔ Acc A p e (c - p) inn := by
  unfold Okr
  rw [(out_ca hp h0 h1 (hn.row hp hpe)).1]
  constructor
  . intro h
    exact ⟨hn, fun q hq => h q (List.mem_append_left _ hq), h (c - p, outW p e inn) (List.mem_append_right _ List.mem_cons_self)⟩
  . intro h q hq
    rcases List.mem_append.mp hq with hq | hq
    . exact h.o q hq
    . rw [List.mem_singleton.mp hq]; exact h.a
structure Rest {R : Type} (A : Int -> List Int -> Prop) (p e : Int) (b : Nat) (δ : R -> Int -> R) (rows : Int -> Option (List Int)) (s0 : R) (best : R -> Option (List Int)) : Prop where
  s : ∃ t, best s0 = some t /\ cod b t <= cod b []
  n : ∀ s t, best s = some t -> Nst p e t /\ Okr A p e t /\ (outW p e t).foldl δ s0 = s
  pl : ∀ s t x, best s = some t -> 0 <= x -> x < p -> ∃ t', best (δ s x) = some t' /\ cod b t' <= cod b (t ++ [x])
  ca : ∀ s t c r, best s = some t -> p <= c -> c < e -> rows (c - p) = some r -> ∃ t', best (δ s c) = some t' /\ cod b t' <= cod b (t ++ (c :: r ++ [e]))
theorem Rest.least {R : Type} {A : Int -> List Int -> Prop} {p e : Int} {b : Nat} {δ : R -> Int -> R} {rows : Int -> Option (List Int)} {s0 : R} {best : R -> Option (List Int)} (hp : 0 <= p) (hpe : p <= e) (hb : (b : Int) = e + 1) (hb2 : 2 <= b) (h : Rest A p e b δ rows s0 best) (hr : ∀ i r, rows i = some r -> Nst p e r) {M : Nat} (hin : ∀ i inn, Acc A p e i inn -> 0 <= i -> i < e - p -> inn.length < M -> ∃ r, rows i = some r /\ cod b r <= cod b inn) {row : List Int} (hn : Nst p e row) : Okr A p e row -> row.length <= M -> ∀ (s : R) (u t : List Int), best s = some t -> Nst p e u -> cod b t <= cod b u -> ∃ t', best ((outW p e row).foldl δ s) = some t' /\ cod b t' <= cod b (u ++ row) := by
  induction hn with
  | nil =>
    intro _ _ s u t ht _ hc
    exact ⟨t, ht, by rw [List.append_nil]; exact hc⟩
  | @pl x row h0 h1 hn ih =>
    intro ho hM s u t ht hu hc
    have e1 : x :: row = [x] ++ row := rfl
    rw [e1] at ho ⊢
    have ho2 := ((okr_app hp hpe (nst_pl h0 h1) hn).mp ho).2
    have hout := (out_app ((nst_pl (e := e) h0 h1).row hp hpe) (hn.row hp hpe)).2
    rw [(out_pl h0 h1 hpe).2] at hout
    obtain ⟨t1, ht1, hc1⟩ := h.pl s t x ht h0 h1
    have hux := hu.app (nst_pl (e := e) h0 h1)
    have hc2 := cod_right hb2 ((h.n s t ht).1.dg hp hb hpe) (hu.dg hp hb hpe) [x] ((nst_pl (e := e) h0 h1).dg hp hb hpe) hc
    obtain ⟨t2, ht2, hc3⟩ := ih ho2 (by rw [List.length_cons] at hM; omega) (δ s x) (u ++ [x]) t1 ht1 hux (by omega)
    refine ⟨t2, by rw [hout]; exact ht2, ?_⟩
    rw [List.append_assoc] at hc3
    exact hc3
  | @ca c inn row h0 h1 hi hn _ ih =>
    intro ho hM s u t ht hu hc
    have e1 : c :: inn ++ e :: row = (c :: inn ++ [e]) ++ row := by simp
    rw [e1] at ho hM ⊢
    obtain ⟨ho1, ho2⟩ := (okr_app hp hpe (nst_ca h0 h1 hi) hn).mp ho
    have hA := (okr_ca hp hpe h0 h1 hi).mp ho1
    have hout := (out_app ((nst_ca h0 h1 hi).row hp hpe) (hn.row hp hpe)).2
    rw [(out_ca hp h0 h1 (hi.row hp hpe)).2] at hout
    rw [List.length_append, List.length_append, List.length_cons, List.length_singleton] at hM
    obtain ⟨r, hr1, hr2⟩ := hin (c - p) inn hA (by omega) (by omega) (by omega)
    have hrn := hr _ _ hr1
    obtain ⟨t1, ht1, hc1⟩ := h.ca s t c r ht h0 h1 hr1
    have htn := (h.n s t ht).1
    have hc2 := cod_right hb2 (htn.dg hp hb hpe) (hu.dg hp hb hpe) (c :: r ++ [e]) ((nst_ca h0 h1 hrn).dg hp hb hpe) hc
    have hce : Dg b [e] := fun x hx => by rw [List.mem_singleton.mp hx]; omega
    have hcc : Dg b [c] := fun x hx => by rw [List.mem_singleton.mp hx]; omega
    have hc3 := cod_right hb2 (hrn.dg hp hb hpe) (hi.dg hp hb hpe) [e] hce hr2
    have hc4 := cod_left hb2 ((hrn.dg hp hb hpe).app hce) ((hi.dg hp hb hpe).app hce) [c] hcc hc3
    have hc5 := cod_left hb2 ((nst_ca h0 h1 hrn).dg hp hb hpe) ((nst_ca h0 h1 hi).dg hp hb hpe) u (hu.dg hp hb hpe) hc4
    obtain ⟨t2, ht2, hc6⟩ := ih ho2 (by omega) (δ s c) (u ++ (c :: inn ++ [e])) t1 ht1 (hu.app (nst_ca h0 h1 hi)) (by omega)
    refine ⟨t2, by rw [hout]; exact ht2, ?_⟩
    rw [List.append_assoc] at hc6
    exact hc6
theorem countP_lt {α : Type} {f g : α -> Bool} (hfg : ∀ x, f x = true -> g x = true) : ∀ {l : List α} {y : α}, y ∈ l -> g y = true -> f y = false -> l.countP f < l.countP g
  | [], _, h, _, _ => by cases h
  | x :: l, y, h, hg, hf => by
    have mono : l.countP f <= l.countP g := List.countP_mono_left fun x _ hx => hfg x hx
    rw [List.countP_cons, List.countP_cons]
    rcases List.mem_cons.mp h with rfl | h
    . rw [if_pos hg, if_neg (by rw [hf]; simp)]; omega
    . have ih := countP_lt hfg h hg hf
      by_cases hx : f x = true
      . rw [if_pos hx, if_pos (hfg x hx)]; omega
      . rw [if_neg hx]
        split <;> omega
open Classical in
noncomputable def cnt (A : Int -> List Int -> Prop) (p e : Int) (b h n : Nat) : Nat := (List.range h).countP fun i : Nat => decide (∃ inn, Acc A p e (i : Int) inn /\ cod b inn < n)
open Classical in
theorem least_acc {A : Int -> List Int -> Prop} {p e : Int} (b : Nat) {j : Int} {row : List Int} (h : Acc A p e j row) : ∃ r, Acc A p e j r /\ cod b r <= cod b row /\ ∀ r', Acc A p e j r' -> cod b r <= cod b r' := by
  have key : ∀ n row, Acc A p e j row -> cod b row <= n -> ∃ r, Acc A p e j r /\ cod b r <= cod b row /\ ∀ r', Acc A p e j r' -> cod b r <= cod b r' := by
    intro n
    induction n with
    | zero => intro row h hz; exact ⟨row, h, Nat.le_refl _, fun r' _ => by omega⟩
    | succ n ih =>
      intro row h hz
      by_cases hx : ∃ r', Acc A p e j r' /\ cod b r' < cod b row
      . obtain ⟨r', h1, h2⟩ := hx
        obtain ⟨r, a1, a2, a3⟩ := ih r' h1 (by omega)
        exact ⟨r, a1, by omega, a3⟩
      . exact ⟨row, h, Nat.le_refl _, fun r' h' => Decidable.byContradiction fun z => hx ⟨r', h', by omega⟩⟩
  exact key _ row h (Nat.le_refl _)
open Classical in
theorem cnt_lt {A : Int -> List Int -> Prop} {p e : Int} {b h : Nat} {i : Nat} (hi : i < h) {inn : List Int} (ha : Acc A p e (i : Int) inn) (hm : ∀ r', Acc A p e (i : Int) r' -> cod b inn <= cod b r') {n : Nat} (hn : cod b inn < n) : cnt A p e b h (cod b inn) < cnt A p e b h n := by
  refine countP_lt (fun x hx => ?_) (List.mem_range.mpr hi) (decide_eq_true ⟨inn, ha, hn⟩) (decide_eq_false fun ⟨r', h1, h2⟩ => ?_)
  . obtain ⟨r, h1, h2⟩ := of_decide_eq_true hx
    exact decide_eq_true ⟨r, h1, by omega⟩
  . have := hm r' h1
    omega
open Classical in
theorem cnt_small {A : Int -> List Int -> Prop} {p e : Int} {b h : Nat} {i : Nat} (hi : i < h) {inn : List Int} (hm : ∀ r', Acc A p e (i : Int) r' -> cod b inn <= cod b r') : cnt A p e b h (cod b inn) < h := by
  have h1 : cnt A p e b h (cod b inn) < (List.range h).countP fun _ => true := countP_lt (fun x _ => rfl) (List.mem_range.mpr hi) rfl (decide_eq_false fun ⟨r', h1, h2⟩ => by have := hm r' h1; omega)
  rw [List.countP_true, List.length_range] at h1
  exact h1
structure Turn {R : Type} (A : Int -> List Int -> Prop) (p e : Int) (b : Nat) (fin : R -> Prop) (best : R -> Option (List Int)) (res : Option (List Int)) : Prop where
  s : ∀ t, res = some t -> ∃ r, best r = some t /\ fin r
  l : ∀ r t, best r = some t -> fin r -> ∃ t', res = some t' /\ cod b t' <= cod b t
theorem Turn.acc {R : Type} {A : Int -> List Int -> Prop} {p e : Int} {b : Nat} {fin : R -> Prop} {best : R -> Option (List Int)} {res : Option (List Int)} {δ : R -> Int -> R} {rows : Int -> Option (List Int)} {s0 : R} (h : Turn A p e b fin best res) (hR : Rest A p e b δ rows s0 best) {j : Int} (hA : ∀ w, A j w ↔ fin (w.foldl δ s0)) {t : List Int} (ht : res = some t) : Acc A p e j t := by
  obtain ⟨r, h1, h2⟩ := h.s t ht
  obtain ⟨a1, a2, a3⟩ := hR.n r t h1
  exact ⟨a1, a2, (hA _).mpr (by rw [a3]; exact h2)⟩
theorem Turn.least {R : Type} {A : Int -> List Int -> Prop} {p e : Int} {b : Nat} {fin : R -> Prop} {best : R -> Option (List Int)} {res : Option (List Int)} {δ : R -> Int -> R} {rows : Int -> Option (List Int)} {s0 : R} (hp : 0 <= p) (hpe : p <= e) (hb : (b : Int) = e + 1) (hb2 : 2 <= b) (h : Turn A p e b fin best res) (hR : Rest A p e b δ rows s0 best) {j : Int} (hA : ∀ w, A j w ↔ fin (w.foldl δ s0)) (hr : ∀ i r, rows i = some r -> Nst p e r) {row : List Int} (ha : Acc A p e j row) (hin : ∀ i inn, Acc A p e i inn -> 0 <= i -> i < e - p -> inn.length < row.length -> ∃ r, rows i = some r /\ cod b r <= cod b inn) : ∃ t, res = some t /\ cod b t <= cod b row := by
  obtain ⟨t0, h1, h2⟩ := hR.s
  obtain ⟨t, h3, h4⟩ := hR.least hp hpe hb hb2 hr hin ha.n ha.o (Nat.le_refl _) s0 [] t0 h1 .nil h2
  obtain ⟨t', h5, h6⟩ := h.l _ t h3 ((hA _).mp ha.a)
  exact ⟨t', h5, by rw [List.nil_append] at h4; omega⟩
end N80
set_option Elab.async false
set_option linter.all false
set_option maxRecDepth 100000
set_option maxHeartbeats 4000000
namespace Mine
open PySem L2 GW GB
local macro_rules | `(tactic| walk_at "rd") => `(tactic| (try dsimp only [↓r_varD, vD_some, ↓r_ID, ↓r_I0D, iD_int, ↓r_BD, bD_bl, ↓r_EqF, ↓r_NeF, eD_int, eD_str, eD_non, eD_bl, ↓r_ixTD, ↓r_ixLD, aD_ref, nD_int, ↓r_lenD, lD1_one, ↓r_seq, ↓r_next, ↓r_asg, ↓r_gname, ↓r_var, ↓r_c, ↓r_op, ↓r_un, ↓r_I, ↓r_I0, ↓r_U, ↓r_call, ↓r_cons, ↓r_nil, ↓r_ret, ↓r_drop, ↓r_if, ↓r_B, ↓r_test, ↓r_and, ↓r_or, ↓r_not, ↓r_andV, ↓r_notV, ↓r_CB, ↓r_lst, ↓r_tup, ↓r_ixL, ↓r_ixT, ↓r_sl, ↓r_part, ↓r_slL, ↓r_BM, ↓r_BM0, ↓r_append, ↓r_Eq, ↓r_Ne, ↓r_ltT, ↓r_iList, ↓r_iTup, ↓r_iRng1, ↓r_true, ↓r_comp, ↓r_for, ↓r_cat, ↓r_rep, ↓r_disp1, ↓r_listRng, ↓r_gTup, ↓r_gCons, ↓r_gNil, ↓r_dget, ↓r_dnotin, ↓r_dput, ↓r_disp, ↓r_pairs0, ↓r_pairs1, ↓r_in, ↓r_pop, ↓r_iEnumL, ↓r_iSeq, r_minL, ↓r_iDictK, ↓r_iZip2, r_cxK, L2.start, List.map_cons, List.map_nil, List.length_cons, List.length_nil, List.cons_append, List.nil_append, List.replicate, List.getElem?_cons_zero, List.getElem?_cons_succ, List.set_cons_zero, List.set_cons_succ, scal]) <;> (try simp only [↓r_varD, vD_some, ↓r_ID, ↓r_I0D, iD_int, ↓r_BD, bD_bl, ↓r_EqF, ↓r_NeF, eD_int, eD_str, eD_non, eD_bl, ↓r_ixTD, ↓r_ixLD, aD_ref, nD_int, ↓r_lenD, lD1_one, iD_ex, bD_ex, eD_ex, aD_ex, nD_ex, ↓r_seq, ↓r_next, ↓r_asg, ↓r_gname, ↓r_var, ↓r_c, ↓r_op, ↓r_un, ↓r_I, ↓r_I0, ↓r_U, ↓r_call, ↓r_cons, ↓r_nil, ↓r_ret, ↓r_drop, ↓r_if, ↓r_B, ↓r_test, ↓r_and, ↓r_or, ↓r_not, ↓r_andV, ↓r_notV, ↓r_CB, ↓r_lst, ↓r_tup, ↓r_ixL, ↓r_ixT, ↓r_sl, ↓r_part, ↓r_slL, ↓r_BM, ↓r_BM0, ↓r_append, ↓r_Eq, ↓r_Ne, ↓r_ltT, ↓r_iList, ↓r_iTup, ↓r_iRng1, ↓r_true, ↓r_comp, ↓r_for, ↓r_cat, ↓r_rep, ↓r_disp1, ↓r_listRng, ↓r_gTup, ↓r_gCons, ↓r_gNil, ↓r_dget, ↓r_dnotin, ↓r_dput, ↓r_disp, ↓r_pairs0, ↓r_pairs1, ↓r_in, ↓r_pop, ↓r_iEnumL, ↓r_iSeq, r_minL, ↓r_iDictK, ↓r_iZip2, r_cxK, L2.start, List.map_cons, List.map_nil, List.length_cons, List.length_nil, List.cons_append, List.nil_append, List.append_nil, List.replicate, List.getElem?_cons_zero, List.getElem?_cons_succ, List.set_cons_zero, List.set_cons_succ, Option.some.injEq, V.int.injEq, V.str.injEq, V.ref.injEq, V.bl.injEq, List.cons.injEq, and_true, true_and, and_assoc, exists_and_left, exists_eq_left', exists_eq_left, exists_eq_right, exists_eq, if_true, if_false, Bool.false_eq_true, decide_eq_true_eq, scal, Nat.reduceAdd, Nat.reduceSub, reduceCtorEq, Bool.not_true, Bool.not_false]))
local macro_rules | `(tactic| walk_at "sc") => `(tactic| exact ⟨rfl, rfl, rfl, by decide +kernel, rfl, by decide +kernel, by decide +kernel⟩)
def top (i : Nat) : Stmt := PySem.Challenge.pw_guessroom_k80_whole_shortest_rows.main.body.getD i (.Pass ⟨0, 0, 0, 0⟩)
abbrev s_less : Stmt := top 1
theorem sc_less : FnScope ["word", "other"] ["word", "other"] (defScope s_less) := by walk_at "sc"
abbrev s_end_sign : Stmt := top 3
theorem sc_end_sign : FnScope ["plain", "helpers"] ["plain", "helpers"] (defScope s_end_sign) := by walk_at "sc"
abbrev s_rows_by_letter : Stmt := top 5
theorem sc_rows_by_letter : FnScope ["plain", "rows", "signs", "helper", "row"] ["plain", "rows"] (defScope s_rows_by_letter) := by walk_at "sc"
abbrev s_least_rows : Stmt := top 6
theorem sc_least_rows : FnScope ["house", "by_letter", "start", "best", "changed", "room", "goal", "signs", "row"] ["house", "by_letter", "start"] (defScope s_least_rows) := by walk_at "sc"
abbrev s_least_row_taken : Stmt := top 7
theorem sc_least_row_taken : FnScope ["house", "by_letter", "start", "best", "rows"] ["house", "by_letter", "start"] (defScope s_least_row_taken) := by walk_at "sc"
abbrev s_shortest : Stmt := top 8
theorem sc_shortest : FnScope ["works", "rows", "depth", "by_letter"] ["works"] (defScope s_shortest) := by walk_at "sc"
abbrev s__law_cell_at : Stmt := top 10
theorem sc__law_cell_at : FnScope ["script", "k"] ["script", "k"] (defScope s__law_cell_at) := by walk_at "sc"
abbrev s__law_whole : Stmt := top 11
theorem sc__law_whole : FnScope ["found"] ["found"] (defScope s__law_whole) := by walk_at "sc"
abbrev s__law_nest : Stmt := top 12
theorem sc__law_nest : FnScope ["flow", "plain", "helpers", "row", "deep", "cell", "sign"] ["flow", "plain", "helpers"] (defScope s__law_nest) := by walk_at "sc"
abbrev s__law_nested : Stmt := top 13
theorem sc__law_nested : FnScope ["plain", "helpers", "signs", "waiting", "sign"] ["plain", "helpers", "signs"] (defScope s__law_nested) := by walk_at "sc"
abbrev s__law_parts : Stmt := top 14
theorem sc__law_parts : FnScope ["plain", "helpers", "signs", "top", "due", "called", "words", "sign"] ["plain", "helpers", "signs", "top"] (defScope s__law_parts) := by walk_at "sc"
abbrev s__law_draw : Stmt := top 15
theorem sc__law_draw : FnScope ["flow", "k", "many", "cell", "mixed"] ["flow", "k", "many"] (defScope s__law_draw) := by walk_at "sc"
abbrev s__law_house_by : Stmt := top 16
theorem sc__law_house_by : FnScope ["flow", "at", "letters", "rooms", "marks", "ways", "room", "first", "mark"] ["flow", "at", "letters"] (defScope s__law_house_by) := by walk_at "sc"
abbrev s__law_works_by : Stmt := top 17
theorem sc__law_works_by : FnScope ["flow", "plain", "helpers"] ["flow", "plain", "helpers"] (defScope s__law_works_by) := by walk_at "sc"
abbrev s__law_answer : Stmt := top 18
theorem sc__law_answer : FnScope ["house", "word", "room", "letter"] ["house", "word"] (defScope s__law_answer) := by walk_at "sc"
abbrev s__law_accepted : Stmt := top 19
theorem sc__law_accepted : FnScope ["works", "signs", "top", "j", "word"] ["works", "signs", "top"] (defScope s__law_accepted) := by walk_at "sc"
abbrev s__law_row_good : Stmt := top 20
theorem sc__law_row_good : FnScope ["found", "sign"] ["found"] (defScope s__law_row_good) := by walk_at "sc"
abbrev s__law_ahead : Stmt := top 21
theorem sc__law_ahead : FnScope ["one", "other", "k"] ["one", "other"] (defScope s__law_ahead) := by walk_at "sc"
abbrev s__law_rooms_to : Stmt := top 22
theorem sc__law_rooms_to : FnScope ["house", "letters", "rooms", "at", "letter"] ["house", "letters"] (defScope s__law_rooms_to) := by walk_at "sc"
abbrev s__law_letters_good : Stmt := top 23
theorem sc__law_letters_good : FnScope ["works", "plain", "good", "turn", "j", "room"] ["works"] (defScope s__law_letters_good) := by walk_at "sc"
abbrev s__law_told_good : Stmt := top 24
theorem sc__law_told_good : FnScope ["works", "told", "plain", "helpers", "good", "j"] ["works", "told"] (defScope s__law_told_good) := by walk_at "sc"
abbrev s__law_none_ahead : Stmt := top 25
theorem sc__law_none_ahead : FnScope ["works", "told", "row", "j"] ["works", "told", "row"] (defScope s__law_none_ahead) := by walk_at "sc"
abbrev s__law_rows_by : Stmt := top 26
theorem sc__law_rows_by : FnScope ["works", "told", "flow", "plain", "helpers", "signs", "j", "rows", "cell", "sign", "row"] ["works", "told", "flow"] (defScope s__law_rows_by) := by walk_at "sc"
abbrev s_law : Stmt := top 27
theorem sc_law : FnScope ["script", "plain", "helpers", "cut", "works", "told", "row"] ["script"] (defScope s_law) := by walk_at "sc"
abbrev lamP_least_row_taken : Pos := ⟨34, 25, 34, 52⟩
def c_rows_by_letter_0 : Caps := [("letter", none)]
theorem nd_c_rows_by_letter_0 : (Caps.names c_rows_by_letter_0).Nodup := by decide +kernel
def c_least_row_taken_0 : Caps := [("room", none), ("best", some 3), ("house", some 0)]
theorem nd_c_least_row_taken_0 : (Caps.names c_least_row_taken_0).Nodup := by decide +kernel
def c_shortest_0 : Caps := [("house", none), ("by_letter", some 3)]
theorem nd_c_shortest_0 : (Caps.names c_shortest_0).Nodup := by decide +kernel
def c__law_house_by_3 : Caps := [("letter", none), ("flow", some 0), ("rooms", some 3), ("first", some 7)]
theorem nd_c__law_house_by_3 : (Caps.names c__law_house_by_3).Nodup := by decide +kernel
def c__law_works_by_3 : Caps := [("j", none), ("flow", some 0), ("plain", some 1), ("helpers", some 2)]
theorem nd_c__law_works_by_3 : (Caps.names c__law_works_by_3).Nodup := by decide +kernel
structure Txt (mg : Str -> Option Value) : Prop where
  bool : mg "bool" = none
  enumerate : mg "enumerate" = none
  int : mg "int" = none
  isinstance : mg "isinstance" = none
  len : mg "len" = none
  list : mg "list" = none
  max : mg "max" = none
  min : mg "min" = none
  range : mg "range" = none
  tuple : mg "tuple" = none
  zip : mg "zip" = none
section
variable {P : Program} {w : World} {K : PySem.W.Frag} {mg : Str -> Option Value} {base : Heap}
def sp_whole : Sp := fun vs H Q _ => ∃ n : Int, vs = [.int n] /\ Q (.bl true) H
theorem ok__law_whole {f : Addr} {fd : FuncData} (F : Fun K "_law_whole" "_law_whole" s__law_whole f fd) (T : Txt mg)
    : FnOk P w K mg base CX0 1 f fd ["found"] (sp_whole) := by
  refine F.ok sc__law_whole (fun vs H Q E h => ?_) (fun cdv A outer s H vs Q E hr h => ?_)
  . obtain ⟨n, rfl, _⟩ := h; rfl
  . obtain ⟨n, rfl, q⟩ := h
    refine ⟨_, (pss_one (ps_ret (pe_and (pe_callB call_isinstW rfl T.isinstance PyProof.Rows.boot_isinstance (pa_cons (pvD 0) (pa_cons (pe_bltn (v := .ty "int") rfl T.int PyProof.Rows.boot_int rfl) pa_nil))) (pe_one (pe_not (pe_callB call_isinstW rfl T.isinstance PyProof.Rows.boot_isinstance (pa_cons (pvD 0) (pa_cons (pe_bltn (v := .ty "bool") rfl T.bool PyProof.Rows.boot_bool rfl) pa_nil)))))))), ?_⟩
    walk_at "rd"
    refine ⟨_, _, .int _, rel_ty, _, kit_self, ?_⟩
    rw [if_pos rfl]
    refine ⟨_, _, .int _, rel_ty, _, kit_int_bool, ?_⟩
    exact q
def cell (ns : List Int) (k : Nat) : Int := ns.getD k 0
def sp_cell (K : PySem.W.Frag) : Sp := fun vs H Q _ => ∃ (a : Addr) (ns : List Int) (k : Nat), vs = [.ref a, .int k] /\ SqL K H a (ns.map V.int) /\ Q (.int (cell ns k)) H
theorem ok__law_cell_at {f : Addr} {fd : FuncData} (F : Fun K "_law_cell_at" "_law_cell_at" s__law_cell_at f fd) (T : Txt mg)
    : FnOk P w K mg base CX0 1 f fd ["script", "k"] (sp_cell K) := by
  refine F.ok sc__law_cell_at (fun vs H Q E h => ?_) (fun cdv A outer s H vs Q E hr h => ?_)
  . obtain ⟨a, ns, k, rfl, _⟩ := h; rfl
  . obtain ⟨a, ns, k, rfl, hs, q⟩ := h
    refine ⟨_, (pss_cons (ps_if (ptT (pt_cmpR (opD0 op_lt) (pvD 1) (pe_callB (lenD call_len_seq) (by rfl) T.len PySem.boot_len (pa_cons (pvD 0) pa_nil)) (nomark _)))
      (pss_one (ps_ret (pe_ixA (ixLD ix_list) (pvD 0) (pvD 1))))
      pss_nil)
      (pss_one (ps_ret pe_int))), ?_⟩
    walk_at "rd"
    refine ⟨_, .inl hs, ?_⟩
    rw [List.length_map]
    refine ite2 (fun hk => ?_) (fun hk => ?_)
    . have hk' : k < ns.length := by simpa using hk
      refine ⟨_, hs, V.int (cell ns k), ?_, q⟩
      refine atI_nat ?_
      rw [List.getElem?_map]
      unfold cell
      rw [List.getD_eq_getElem?_getD]
      simp [hk']
    . have hk' : ¬ k < ns.length := by simpa using hk
      have : cell ns k = 0 := by
        unfold cell
        rw [List.getD_eq_getElem?_getD, List.getElem?_eq_none (by omega)]; rfl
      rw [<- this]
      exact q
def sp_end_sign : Sp := fun vs H Q _ => ∃ p h : Int, vs = [.int p, .int h] /\ Q (.int (p + h)) H
theorem ok_end_sign {f : Addr} {fd : FuncData} (F : Fun K "end_sign" "end_sign" s_end_sign f fd) (T : Txt mg)
    : FnOk P w K mg base CX0 1 f fd ["plain", "helpers"] (sp_end_sign) := by
  refine F.ok sc_end_sign (fun vs H Q E h => ?_) (fun cdv A outer s H vs Q E hr h => ?_)
  . obtain ⟨p, h, rfl, _⟩ := h; rfl
  . obtain ⟨p, h, rfl, k⟩ := h
    refine ⟨_, (pss_one (ps_ret (pe_op (opD0 op_add) (pvD 0) (pvD 1)))), ?_⟩
    walk_at "rd"
    exact k
def markW (marks : List Int) (r : Int) : Int := marks.getD r.toNat 0
theorem markW_at {marks : List Int} {r : Int} (h0 : 0 <= r) (h1 : r < marks.length) : atI (marks.map V.int) r = some (V.int (markW marks r)) := by
  have hlt : r.toNat < marks.length := by omega
  refine atI_int h0 ?_
  unfold markW
  rw [List.getD_eq_getElem?_getD]
  simp [hlt]
open Nest (nestR nestR_drop prtF prtS prtS_take partsW)
theorem ne_of_none' {H : Hp} {p q : Addr} {o : HO} (h : H p = none) (g : H q = some o) : p ≠ q := fun z => by rw [z, g] at h; cases h
theorem LLs.last {H0 H : Hp} {xs : List V} {ws : List (List Int)} {w : List Int} (h : LLs H0 H xs (ws ++ [w])) : ∃ ys t, xs = ys ++ [.ref t] /\ H t = some (.lst (w.map V.int)) /\ H0 t = none /\ LLs H0 H ys ws /\ ∀ v : List Int, LLs H0 (upd H t (.lst (v.map V.int))) xs (ws ++ [v]) := by
  obtain ⟨ts, a, b, c, d, e⟩ := h
  rw [List.length_append, List.length_singleton] at b
  obtain ⟨us, t, rfl⟩ : ∃ us t, ts = us ++ [t] := ⟨ts.dropLast, ts.getLast (fun z => by rw [z] at b; simp at b), (List.dropLast_concat_getLast _).symm⟩
  have hul : us.length = ws.length := by rw [List.length_append, List.length_singleton] at b; omega
  have nd := List.nodup_append.mp c
  have hut : ∀ u ∈ us, u ≠ t := fun u hu => nd.2.2 u hu t (by simp)
  have hlow : ∀ (i : Nat) (u : Addr) (v : List Int), us[i]? = some u -> ws[i]? = some v -> H u = some (.lst (v.map V.int)) := fun i u v h1 h2 => by
    have hi := (List.getElem?_eq_some_iff.mp h1).1
    exact d i u v (by rw [List.getElem?_append_left hi]; exact h1) (by rw [List.getElem?_append_left (by omega)]; exact h2)
  refine ⟨us.map V.ref, t, by rw [a]; simp, ?_, e t (by simp), ⟨us, rfl, hul, nd.1, hlow, fun u hu => e u (by simp [hu])⟩, fun v => ⟨us ++ [t], a, by simp [hul], c, fun i u v' h1 h2 => ?_, e⟩⟩
  . exact d us.length t w (by simp) (by rw [hul]; simp)
  . by_cases hi : i < us.length
    . rw [List.getElem?_append_left hi] at h1
      rw [List.getElem?_append_left (by omega)] at h2
      rw [upd_ne (hut u (List.mem_of_getElem? h1))]
      exact hlow i u v' h1 h2
    . have := (List.getElem?_eq_some_iff.mp h1).1
      rw [List.length_append, List.length_singleton] at this
      have ei : i = us.length := by omega
      subst ei
      rw [List.getElem?_append_right (Nat.le_refl _), Nat.sub_self] at h1
      rw [hul, List.getElem?_append_right (Nat.le_refl _), Nat.sub_self] at h2
      simp at h1 h2
      subst h1 h2
      exact upd_same
theorem LLs.head {H0 H : Hp} {xs : List V} {ws : List (List Int)} {w : List Int} (h : LLs H0 H xs (w :: ws)) : ∃ t, xs[0]? = some (.ref t) /\ H t = some (.lst (w.map V.int)) := by
  obtain ⟨ts, a, b, c, d, e⟩ := h
  cases ts with
  | nil => simp at b
  | cons t ts => exact ⟨t, by rw [a]; rfl, d 0 t w rfl rfl⟩
def sp_less (K : PySem.W.Frag) : Sp := fun vs H Q _ => ∃ (a b : Addr) (xs ys : List Int), vs = [.ref a, .ref b] /\ SqT K H a (xs.map V.int) /\ SqT K H b (ys.map V.int) /\ Q (.bl (lessW xs ys)) H
theorem ok_less {f : Addr} {fd : FuncData} (F : Fun K "less" "less" s_less f fd) (T : Txt mg)
    : FnOk P w K mg base CX0 1 f fd ["word", "other"] (sp_less K) := by
  refine F.ok sc_less (fun vs H Q E h => ?_) (fun cdv A outer s H vs Q E hr h => ?_)
  . obtain ⟨a, b, xs, ys, rfl, _⟩ := h; rfl
  . obtain ⟨a, b, xs, ys, rfl, ha, hb, q⟩ := h
    refine ⟨_, (pss_cons (ps_if (ptT (pt_cmpR (opN op_ne) (pe_callB (lenD call_len_seq) (by rfl) T.len PySem.boot_len (pa_cons (pvD 0) pa_nil)) (pe_callB (lenD call_len_seq) (by rfl) T.len PySem.boot_len (pa_cons (pvD 1) pa_nil)) (nomark _)))
      (pss_one (ps_ret (pe_cmpR (opD0 op_lt) (pe_callB (lenD call_len_seq) (by rfl) T.len PySem.boot_len (pa_cons (pvD 0) pa_nil)) (pe_callB (lenD call_len_seq) (by rfl) T.len PySem.boot_len (pa_cons (pvD 1) pa_nil)) (nomark _))))
      pss_nil)
      (pss_one (ps_ret (pe_cmpR (op_ltT (Room.units0 hr)) (pvD 0) (pvD 1) (nomark _))))), ?_⟩
    walk_at "rd"
    refine ⟨_, .inr ha, _, .inr hb, ?_⟩
    simp only [List.length_map]
    unfold lessW at q
    by_cases e : xs.length = ys.length
    . rw [if_pos e] at q
      have : (!decide ((xs.length : Int) = (ys.length : Int))) = false := by simp [e]
      rw [this, if_neg Bool.false_ne_true]
      exact ⟨_, ha, _, hb, q⟩
    . rw [if_neg e] at q
      have : (!decide ((xs.length : Int) = (ys.length : Int))) = true := by simp; omega
      rw [this, if_pos rfl]
      refine ⟨_, .inr ha, _, .inr hb, ?_⟩
      simp only [List.length_map]
      have e2 : decide ((xs.length : Int) < (ys.length : Int)) = decide (xs.length < ys.length) := by simp
      rw [e2]
      exact q
def RO (H : Hp) (xs : List V) (rs : List (Option (List Int))) : Prop := xs.length = rs.length /\ ∀ (i : Nat) (o : Option (List Int)), rs[i]? = some o -> (o = none /\ xs[i]? = some .non) \/ ∃ r t, o = some r /\ xs[i]? = some (.ref t) /\ H t = some (.tup (r.map V.int))
theorem RO.nil {H : Hp} : RO H [] [] := ⟨rfl, fun i o h => by simp at h⟩
theorem RO.mono {H H' : Hp} {xs : List V} {rs : List (Option (List Int))} (h : RO H xs rs) (s : TK H H') : RO H' xs rs := ⟨h.1, fun i o ho => by
  rcases h.2 i o ho with a | ⟨r, t, a, b, c⟩
  . exact .inl a
  . exact .inr ⟨r, t, a, b, s _ _ c⟩⟩
theorem RO.put {H : Hp} {xs : List V} {rs : List (Option (List Int))} (h : RO H xs rs) {v : V} {o : Option (List Int)} (hv : (o = none /\ v = .non) \/ ∃ r t, o = some r /\ v = .ref t /\ H t = some (.tup (r.map V.int))) : RO H (xs ++ [v]) (rs ++ [o]) := by
  refine ⟨by rw [List.length_append, List.length_append, h.1]; rfl, fun i o' ho => ?_⟩
  by_cases hi : i < rs.length
  . rw [List.getElem?_append_left hi] at ho
    rw [List.getElem?_append_left (by rw [h.1]; exact hi)]
    exact h.2 i o' ho
  . rw [List.getElem?_append_right (by omega)] at ho
    have h0 : i - rs.length = 0 := by
      have := (List.getElem?_eq_some_iff.mp ho).1
      simpa using this
    rw [h0] at ho
    have ho : o = o' := by simpa using ho
    subst ho
    rw [List.getElem?_append_right (by rw [h.1]; omega), h.1, h0]
    rcases hv with ⟨a, rfl⟩ | ⟨r, t, a, rfl, c⟩
    . exact .inl ⟨a, rfl⟩
    . exact .inr ⟨r, t, a, rfl, c⟩
theorem RO.at {H : Hp} {xs : List V} {rs : List (Option (List Int))} (h : RO H xs rs) {i : Nat} {x : V} (hx : xs[i]? = some x) : (rs[i]? = some none /\ x = .non) \/ ∃ r t, rs[i]? = some (some r) /\ x = .ref t /\ H t = some (.tup (r.map V.int)) := by
  have hi : i < rs.length := by rw [<- h.1]; exact (List.getElem?_eq_some_iff.mp hx).1
  rcases h.2 i rs[i] (List.getElem?_eq_getElem hi) with ⟨a, b⟩ | ⟨r, t, a, b, c⟩
  . exact .inl ⟨by rw [List.getElem?_eq_getElem hi, a], by rw [hx] at b; exact Option.some.inj b⟩
  . exact .inr ⟨r, t, by rw [List.getElem?_eq_getElem hi, a], by rw [hx] at b; exact Option.some.inj b, c⟩
def rowOf (p h : Nat) (rs : List (Option (List Int))) (i : Nat) : Option (List Int) := ((rs[i]?).getD none).map fun r => ((p : Int) + i) :: (r ++ [(p : Int) + h])
def blR (p : Nat) (rs : List (Option (List Int))) : List (Option (List Int)) := ((List.range p).map fun i : Nat => some [(i : Int)]) ++ (List.range rs.length).map (rowOf p rs.length rs)
def sp_rbl80 (K : PySem.W.Frag) : Sp := fun vs H Q _ => ∃ (p : Nat) (a : Addr) (xs : List V) (rs : List (Option (List Int))), vs = [.int p, .ref a] /\ SqL K H a xs /\ RO H xs rs /\ rs.length <= 3 /\ p <= 6 /\ (∀ r, some r ∈ rs -> r.length <= 2000) /\ ∀ l ys H', Same H H' -> H' l = some (.lst ys) -> RO H' ys (blR p rs) -> Q (.ref l) H'
theorem ok_rows_by_letter {f : Addr} {fd : FuncData} (F : Fun K "rows_by_letter" "rows_by_letter" s_rows_by_letter f fd) (T : Txt mg)
    {f_end_sign : Addr} {fd_end_sign : FuncData} (q_end_sign : Cal P w K mg base CX0 1 "end_sign" s_end_sign ["plain", "helpers"] (sp_end_sign) f_end_sign fd_end_sign)
    : FnOk P w K mg base CX0 2 f fd ["plain", "rows"] (sp_rbl80 K) := by
  refine F.ok sc_rows_by_letter (fun vs H Q E h => ?_) (fun cdv A outer s H vs Q E hr h => ?_)
  . obtain ⟨p, a, xs, rs, rfl, _⟩ := h; rfl
  . obtain ⟨p, a, xs, rs, rfl, hs, hro, hrl, hp6, hrr, k⟩ := h
    have hl := line1000
    refine ⟨_, (pss_cons (ps_setC (i := 2) sc_rows_by_letter.nd rfl rfl rfl (blk_mk rfl) (cp := c_rows_by_letter_0) True.intro (pi_range1 rfl T.range (pa_cons (pvD 0) pa_nil)) (fun _ _ _ _ => (pg_name (i := 0) nd_c_rows_by_letter_0 rfl (Or.inl rfl))) (fun _ _ _ _ => pf_nil) (fun _ _ _ _ => (pe_tup (pa_cons (pvD 0) pa_nil))))
      (pss_cons (ps_for PassesOwn.never rfl (pi_enumL rfl T.enumerate (pvD 1)) (pg_tup rfl (pgs_cons (pg_name (i := 3) sc_rows_by_letter.nd rfl (Or.inl rfl)) (pgs_cons (pg_name (i := 4) sc_rows_by_letter.nd rfl (Or.inl rfl)) pgs_nil)))
      (pss_one (ps_if (ptT (pt_cmpR op_isN (pvD 4) pe_non (nomark _)))
      (pss_one (ps_expr (pe_bm PySem.F.plainAttrs_list PySem.F.slot_list_append PySem.F.type_list_append mt_append (pvD 2) (pa_cons pe_non pa_nil))))
      (pss_one (ps_expr (pe_bm PySem.F.plainAttrs_list PySem.F.slot_list_append PySem.F.type_list_append mt_append (pvD 2) (pa_cons (pe_op op_catT2 (pe_op op_catT2 (pe_tup (pa_cons (pe_op (opD0 op_add) (pvD 0) (pvD 3)) pa_nil)) (pvD 4)) (pe_tup (pa_cons (pe_callQ q_end_sign hr.d pass0 (pa_cons (pvD 0) (pa_cons (pe_callB (lenD call_len_seq) (by rfl) T.len PySem.boot_len (pa_cons (pvD 1) pa_nil)) pa_nil))) pa_nil))) pa_nil)))))))
      (pss_one (ps_ret (pvD 2))))), ?_⟩
    walk_at "rd"
    refine ⟨by omega, by omega, ?_⟩
    rw [Int.toNat_natCast]
    obtain ⟨Pc, hPc⟩ : ∃ Pc : Nat -> List V -> St -> Hp -> Prop, ∀ i us σ' H', Pc i us σ' H' ↔ (Same H H' /\ RO H' us ((List.range i).map fun i : Nat => some [(i : Int)]) /\ ∃ o, σ' = [o]) := ⟨_, fun _ _ _ _ => Iff.rfl⟩
    refine compR Pc ((hPc _ _ _ _).mpr ⟨Same.refl _, RO.nil, none, rfl⟩) (by omega) (fun i us σ' H' hi h' => ?_) (fun i us σ' H' hi h' => ?_) (fun us σ' H1 h' D hD => ?_)
    . obtain ⟨_, hR, _⟩ := (hPc _ _ _ _).mp h'
      rw [hR.1]; simp
    . obtain ⟨s1, hR, o, rfl⟩ := (hPc _ _ _ _).mp h'
      rw [Int.zero_add]
      walk_at "rd"
      refine ⟨by omega, fun t ht => (hPc _ _ _ _).mpr ⟨s1.newT ht, ?_, _, rfl⟩⟩
      rw [List.range_succ, List.map_append]
      exact (hR.mono (TK.new ht)).put (.inr ⟨_, t, rfl, rfl, upd_same⟩)
    obtain ⟨s1, hR, o, rfl⟩ := (hPc _ _ _ _).mp h'
    have sD := Same.new hD (o := .lst us)
    have hDn : H D = none := s1.none hD
    refine ⟨xs, (s1.trans sD).seq hs, ?_⟩
    obtain ⟨Pv, hPv⟩ : ∃ Pv : Nat -> St -> Hp -> Prop, ∀ i σ' H', Pv i σ' H' ↔ (∃ (ys : List V) (o1 o2 : Option V), Same H H' /\ H' D = some (.lst ys) /\ RO H' ys (((List.range p).map fun i : Nat => some [(i : Int)]) ++ (List.range i).map (rowOf p rs.length rs)) /\ σ' = [some (.int p), some (.ref a), some (.ref D), o1, o2]) := ⟨_, fun _ _ _ => Iff.rfl⟩
    refine forM (xs := xs) Pv ((hPv _ _ _).mpr ⟨us, none, none, s1.trans sD, upd_same, by rw [List.range_zero, List.map_nil, List.append_nil]; exact hR.mono (TK.of sD), rfl⟩) (fun i σ' H' _ h' => by obtain ⟨_, _, _, s2, _⟩ := (hPv _ _ _).mp h'; exact s2.seq hs) (fun i v σ' H' t hv h' ht => ?_) (fun σ' H' h' => ?_)
    . obtain ⟨ys, o1, o2, s2, hD2, hR2, rfl⟩ := (hPv _ _ _).mp h'
      have hyl := hR2.1
      rw [List.length_append, List.length_map, List.length_range, List.length_map, List.length_range] at hyl
      have hil : i < rs.length := by rw [<- hro.1]; exact (List.getElem?_eq_some_iff.mp hv).1
      walk_at "rd"
      have sT := Same.new ht (o := .tup [V.int i, v])
      have s3 := s2.trans sT
      have hD3 := sT _ _ hD2
      have hR3 := hR2.mono (TK.of sT)
      have hro3 := hro.mono (TK.of s3)
      have htT : SqT K (upd H' t (.tup [V.int i, v])) t [V.int i, v] := SqT.of upd_same
      generalize upd H' t (.tup [V.int i, v]) = H3 at sT s3 hD3 hR3 hro3 htT ⊢
      have e1 : (List.range (i + 1)).map (rowOf p rs.length rs) = (List.range i).map (rowOf p rs.length rs) ++ [rowOf p rs.length rs i] := by rw [List.range_succ, List.map_append]; rfl
      refine ⟨_, htT, rfl, _, _, rfl, _, _, rfl, rfl, ?_⟩
      rcases hro3.at hv with ⟨hv1, rfl⟩ | ⟨r, tr, hv1, rfl, htr⟩
      . rw [if_pos rfl]
        refine ⟨.inl ⟨rfl, _, SqL.of hD3⟩, ys, hD3, by omega, (hPv _ _ _).mpr ⟨_, _, _, s3.over hDn, upd_same, ?_, rfl⟩⟩
        rw [e1, <- List.append_assoc]
        refine (hR3.mono (TK.lst hD3)).put (.inl ⟨?_, rfl⟩)
        unfold rowOf
        rw [hv1]; rfl
      . rw [if_neg (by intro z; cases z)]
        have hrl2 := hrr r (List.mem_of_getElem? hv1)
        refine ⟨.inl ⟨rfl, _, SqL.of hD3⟩, _, rfl, by omega, fun p1 hp1 => rCatT2.ofS upd_same (Same.new hp1 _ _ htr) (by simp; omega) fun q1 H4 s4 hq1 => ?_⟩
        have s34 := (Same.new hp1 (o := .tup [V.int ((p : Int) + i)])).trans s4
        refine ⟨xs, .inl ((s3.trans s34).seq hs), _, _, rfl, by omega, fun p2 hp2 => rCatT2.ofS (Same.new hp2 _ _ hq1) upd_same (by simp; omega) fun q2 H5 s5 hq2 => ?_⟩
        have s35 := s34.trans ((Same.new hp2 (o := .tup [V.int ((p : Int) + xs.length)])).trans s5)
        have hD5 := s35 _ _ hD3
        refine ⟨ys, hD5, by omega, (hPv _ _ _).mpr ⟨_, _, _, (s3.trans s35).over hDn, upd_same, ?_, rfl⟩⟩
        rw [e1, <- List.append_assoc]
        refine ((hR3.mono (TK.of s35)).put (.inr ⟨((p : Int) + i) :: (r ++ [(p : Int) + rs.length]), q2, ?_, rfl, ?_⟩)).mono (TK.lst hD5)
        . unfold rowOf
          rw [hv1]; rfl
        . rw [hq2, hro.1]; simp
    . obtain ⟨ys, o1, o2, s2, hD2, hR2, rfl⟩ := (hPv _ _ _).mp h'
      walk_at "rd"
      rw [hro.1] at hR2
      exact k D ys _ s2 hD2 hR2
def KeysI (ks : List Int) (kvs : List (Key × V)) : Prop := kvs.map (·.1) = ks.map fun k => (Sum.inl k : Key)
theorem KeysI.len {ks : List Int} {kvs : List (Key × V)} (h : KeysI ks kvs) : kvs.length = ks.length := by
  have := congrArg List.length h
  simpa using this
theorem KeysI.put {ks : List Int} {kvs : List (Key × V)} (h : KeysI ks kvs) (k : Int) (v : V) : KeysI (ins1 ks k) (putK kvs (Sum.inl k) v) := by
  have hs : (kvs.any fun kv => decide (kv.1 = (Sum.inl k : Key))) = decide (k ∈ ks) := by
    rw [Bool.eq_iff_iff, decide_eq_true_eq, List.any_eq_true]
    constructor
    . rintro ⟨kv, hkv, e⟩
      have e := of_decide_eq_true e
      have : (Sum.inl k : Key) ∈ ks.map fun k => (Sum.inl k : Key) := by rw [<- h, <- e]; exact List.mem_map.mpr ⟨kv, hkv, rfl⟩
      obtain ⟨q, hq, e2⟩ := List.mem_map.mp this
      exact Sum.inl.inj e2 ▸ hq
    . intro hw
      have : (Sum.inl k : Key) ∈ kvs.map (·.1) := by rw [h]; exact List.mem_map.mpr ⟨k, hw, rfl⟩
      obtain ⟨kv, hkv, e⟩ := List.mem_map.mp this
      exact ⟨kv, hkv, decide_eq_true e⟩
  unfold putK ins1
  rw [hs]
  by_cases hw : k ∈ ks
  . rw [if_pos hw, if_pos (show decide (k ∈ ks) = true from decide_eq_true hw)]
    unfold KeysI
    rw [<- h, List.map_map]
    refine List.map_congr_left fun kv _ => ?_
    show (if kv.1 = (Sum.inl k : Key) then (kv.1, v) else kv).1 = kv.1
    split <;> rfl
  . rw [if_neg hw, if_neg (show ¬ decide (k ∈ ks) = true by simp [hw])]
    unfold KeysI
    rw [List.map_append, List.map_append, h]; rfl
theorem less_len {u v : List Int} (h : lessW u v = true) : u.length <= v.length := by
  unfold lessW at h
  by_cases e : u.length = v.length
  . omega
  . rw [if_neg e, decide_eq_true_eq] at h; omega
theorem less_nil (u : List Int) : lessW u [] = false := by
  unfold lessW
  cases u with
  | nil => rfl
  | cons x u => rw [if_neg (by simp)]; simp
theorem sum_lt {f g : Nat -> Nat} {k : Nat} (hk : f k < g k) (he : ∀ i, i ≠ k -> f i = g i) : ∀ n, k < n -> ((List.range n).map f).sum < ((List.range n).map g).sum
  | 0, h => absurd h (Nat.not_lt_zero _)
  | n + 1, h => by
    rw [List.range_succ, List.map_append, List.map_append, List.sum_append, List.sum_append, List.map_singleton, List.map_singleton, List.sum_singleton, List.sum_singleton]
    by_cases e : k = n
    . subst e
      have : (List.range k).map f = (List.range k).map g := List.map_congr_left fun i hi => he i (by have := List.mem_range.mp hi; omega)
      rw [this]; omega
    . have := sum_lt hk he n (by omega)
      rw [he n (fun z => e z.symm)]; omega
structure Bs (n M B : Nat) (ways : List (List Int)) (bl : List (Option (List Int))) (ks : List Int) (f : Int -> Option (List Int)) : Prop where
  nd : ks.Nodup
  rg : ∀ s ∈ ks, 0 <= s /\ s < (n : Int)
  ky : ∀ s, s ∈ ks ↔ (f s).isSome = true
  z : f 0 = some []
  g : ∀ G : Int -> List Int -> Prop, G 0 [] -> (∀ s t (x : Nat) v, G s t -> bl[x]? = some (some v) -> G (stepW ways s (x : Int)) (t ++ v)) -> ∀ s t, f s = some t -> G s t
  ln : ∀ s t, f s = some t -> t.length + M <= M * ks.length /\ N80.Dg B t
def mu80 (n M B : Nat) (f : Int -> Option (List Int)) : Nat := ((List.range n).map fun i : Nat => match f (i : Int) with | none => 2 * B ^ (M * n) | some t => N80.cod B t).sum
theorem Bs.start {n M B : Nat} {ways : List (List Int)} {bl : List (Option (List Int))} (hn : 1 <= n) : Bs n M B ways bl [0] (fun s => if s = 0 then some [] else none) := by
  refine ⟨by simp, fun s hs => by rw [List.mem_singleton.mp hs]; omega, fun s => ?_, if_pos rfl, fun G h0 _ s t h => ?_, fun s t h => ?_⟩
  . rw [List.mem_singleton]
    by_cases e : s = 0
    . rw [if_pos e]; simp [e]
    . rw [if_neg e]; simp [e]
  . by_cases e : s = 0
    . rw [if_pos e] at h; cases h; rw [e]; exact h0
    . rw [if_neg e] at h; cases h
  . by_cases e : s = 0
    . rw [if_pos e] at h; cases h
      exact ⟨by simp, fun x hx => by cases hx⟩
    . rw [if_neg e] at h; cases h
theorem Bs.put {n M B : Nat} {ways : List (List Int)} {bl : List (Option (List Int))} {ks : List Int} {f : Int -> Option (List Int)} (h : Bs n M B ways bl ks f) (hB : 2 <= B) (hbl : ∀ v, some v ∈ bl -> v.length <= M /\ N80.Dg B v) {s : Int} {t v : List Int} {x : Nat} {g : Int} (hg : g = stepW ways s (x : Int)) (hs : f s = some t) (hx : bl[x]? = some (some v)) (hg0 : 0 <= g) (hgn : g < (n : Int)) (hq : ∀ t0, f g = some t0 -> lessW (t ++ v) t0 = true) : Bs n M B ways bl (ins1 ks g) (fun z => if z = g then some (t ++ v) else f z) /\ mu80 n M B (fun z => if z = g then some (t ++ v) else f z) < mu80 n M B f := by
  obtain ⟨hv1, hv2⟩ := hbl v (List.mem_of_getElem? hx)
  obtain ⟨ht1, ht2⟩ := h.ln s t hs
  have hd : N80.Dg B (t ++ v) := ht2.app hv2
  have mem : ∀ z, z ∈ ins1 ks g ↔ z = g \/ z ∈ ks := fun z => by
    unfold ins1
    by_cases c : g ∈ ks
    . rw [if_pos c]
      constructor
      . exact .inr
      . rintro (rfl | e)
        . exact c
        . exact e
    . rw [if_neg c, List.mem_append, List.mem_singleton]; exact or_comm
  have hnd : (ins1 ks g).Nodup := by
    unfold ins1
    by_cases c : g ∈ ks
    . rw [if_pos c]; exact h.nd
    . rw [if_neg c]
      refine List.nodup_append.mpr ⟨h.nd, by simp, fun a ha b hb => ?_⟩
      rw [List.mem_singleton.mp hb]
      intro e
      exact c (e ▸ ha)
  have hrg : ∀ z ∈ ins1 ks g, 0 <= z /\ z < (n : Int) := fun z hz => by
    rcases (mem z).mp hz with rfl | hz
    . exact ⟨hg0, hgn⟩
    . exact h.rg z hz
  have hle : ks.length <= (ins1 ks g).length := by
    unfold ins1
    split
    . exact Nat.le_refl _
    . simp
  have hmul := Nat.mul_le_mul_left M hle
  have hlen : (t ++ v).length + M <= M * (ins1 ks g).length := by
    cases hf : f g with
    | some t0 =>
      have h1 := less_len (hq t0 hf)
      have h2 := (h.ln g t0 hf).1
      omega
    | none =>
      have c : g ∉ ks := fun z => by have := (h.ky g).mp z; rw [hf] at this; cases this
      unfold ins1
      rw [if_neg c, List.length_append, List.length_append, List.length_singleton, Nat.mul_add, Nat.mul_one]
      omega
  refine ⟨⟨hnd, hrg, fun z => ?_, ?_, fun G h0 hG z t' hz => ?_, fun z t' hz => ?_⟩, ?_⟩
  . rw [mem]
    by_cases e : z = g
    . rw [if_pos e]; simp [e]
    . rw [if_neg e, <- h.ky]; simp [e]
  . by_cases e : (0 : Int) = g
    . have := hq [] (by rw [<- e]; exact h.z)
      rw [less_nil] at this; cases this
    . rw [if_neg e]; exact h.z
  . by_cases e : z = g
    . rw [if_pos e] at hz; cases hz
      rw [e, hg]
      exact hG s t x v (h.g G h0 hG s t hs) hx
    . rw [if_neg e] at hz
      exact h.g G h0 hG z t' hz
  . by_cases e : z = g
    . rw [if_pos e] at hz; cases hz
      exact ⟨hlen, hd⟩
    . rw [if_neg e] at hz
      have := h.ln z t' hz
      exact ⟨by omega, this.2⟩
  . unfold mu80
    refine sum_lt (k := g.toNat) ?_ (fun i hi => ?_) n (by omega)
    . show (match (if ((g.toNat : Nat) : Int) = g then some (t ++ v) else f ((g.toNat : Nat) : Int)) with | none => 2 * B ^ (M * n) | some t => N80.cod B t) < (match f ((g.toNat : Nat) : Int) with | none => 2 * B ^ (M * n) | some t => N80.cod B t)
      have e : ((g.toNat : Nat) : Int) = g := by omega
      rw [e, if_pos rfl]
      cases hf : f g with
      | none =>
        show N80.cod B (t ++ v) < 2 * B ^ (M * n)
        have h1 := N80.val_lt hd
        have h2 := nodup_len n hnd hrg
        have h3 := Nat.mul_le_mul_left M h2
        have h4 : B ^ (t ++ v).length <= B ^ (M * n) := Nat.pow_le_pow_right (by omega) (by omega)
        unfold N80.cod
        omega
      | some t0 => exact (N80.less_iff hB hd (h.ln g t0 hf).2).mp (hq t0 hf)
    . show (match (if ((i : Nat) : Int) = g then some (t ++ v) else f ((i : Nat) : Int)) with | none => 2 * B ^ (M * n) | some t => N80.cod B t) = (match f ((i : Nat) : Int) with | none => 2 * B ^ (M * n) | some t => N80.cod B t)
      rw [if_neg (by omega)]
def BF (H : Hp) (d : Addr) (ks : List Int) (f : Int -> Option (List Int)) : Prop := ∃ kvs, H d = some (.dK kvs) /\ KeysI ks kvs /\ ∀ s, (f s = none /\ valV kvs (Sum.inl s) = none) \/ ∃ r t, f s = some r /\ valV kvs (Sum.inl s) = some (.ref t) /\ H t = some (.tup (r.map V.int))
theorem BF.put {H : Hp} {d : Addr} {ks : List Int} {f : Int -> Option (List Int)} {kvs : List (Key × V)} (hd : H d = some (.dK kvs)) (hk : KeysI ks kvs) (hf : ∀ s, (f s = none /\ valV kvs (Sum.inl s) = none) \/ ∃ r t, f s = some r /\ valV kvs (Sum.inl s) = some (.ref t) /\ H t = some (.tup (r.map V.int))) {g : Int} {q : Addr} {r : List Int} (hq : H q = some (.tup (r.map V.int))) : BF (upd H d (.dK (putK kvs (Sum.inl g) (.ref q)))) d (ins1 ks g) (fun z => if z = g then some r else f z) := by
  have st : ∀ (t : Addr) (ys : List V), H t = some (.tup ys) -> upd H d (.dK (putK kvs (Sum.inl g) (.ref q))) t = some (.tup ys) := fun t ys e => by rw [upd_ne (fun z => by rw [z, hd] at e; cases e)]; exact e
  refine ⟨_, upd_same, hk.put g _, fun s => ?_⟩
  rw [valV_put]
  dsimp only
  by_cases e : s = g
  . subst e
    rw [if_pos rfl, if_pos rfl]
    exact .inr ⟨r, q, rfl, rfl, st _ _ hq⟩
  . rw [if_neg e, if_neg (fun z => e (Sum.inl.inj z))]
    rcases hf s with a | ⟨r', t', a, b, c⟩
    . exact .inl a
    . exact .inr ⟨r', t', a, b, st _ _ c⟩
theorem BF.mono {H H' : Hp} {d : Addr} {ks : List Int} {f : Int -> Option (List Int)} (h : BF H d ks f) (s : Same H H') : BF H' d ks f := by
  obtain ⟨kvs, a, b, c⟩ := h
  refine ⟨kvs, s _ _ a, b, fun z => ?_⟩
  rcases c z with e | ⟨r, t, e1, e2, e3⟩
  . exact .inl e
  . exact .inr ⟨r, t, e1, e2, s _ _ e3⟩
def sp_lr80 (K : PySem.W.Frag) : Sp := fun vs H Q _ => ∃ (h b : Addr) (L n M B : Nat) (marks : List Int) (ways : List (List Int)) (ys : List V) (bl : List (Option (List Int))), vs = [.ref h, .ref b, .int 0] /\ House K H h L marks ways /\ Wf L marks ways /\ marks.length = n /\ n <= 4 /\ SqL K H b ys /\ RO H ys bl /\ bl.length = L /\ 2 <= B /\ M <= 2000 /\ (∀ v, some v ∈ bl -> v.length <= M /\ N80.Dg B v) /\ ∀ d ks f H', Same H H' -> H d = none -> BF H' d ks f -> Bs n M B ways bl ks f -> (∀ s t (x : Nat) v, f s = some t -> bl[x]? = some (some v) -> ∃ t', f (stepW ways s (x : Int)) = some t' /\ lessW (t ++ v) t' = false) -> Q (.ref d) H'
theorem ok_least_rows {f : Addr} {fd : FuncData} (F : Fun K "least_rows" "least_rows" s_least_rows f fd) (T : Txt mg)
    {f_less : Addr} {fd_less : FuncData} (q_less : Cal P w K mg base CX0 1 "less" s_less ["word", "other"] (sp_less K) f_less fd_less)
    : FnOk P w K mg base CX0 2 f fd ["house", "by_letter", "start"] (sp_lr80 K) := by
  refine F.ok sc_least_rows (fun vs H Q E h => ?_) (fun cdv A outer s H vs Q E hr h => ?_)
  . obtain ⟨h, b, L, n, M, B, marks, ways, ys, bl, rfl, _⟩ := h; rfl
  . obtain ⟨h, b, L, n, M, B, marks, ways, ys, bl, rfl, hh, wf, hmn, hn4, hb, hro, hbl, hB, hM, hbv, k⟩ := h
    have hl := line1000
    refine ⟨_, (@pss_cons _ _ _ _ _ (@ps_setD _ 3 _ _ _ _ _ _ _ _ sc_least_rows.nd rfl (Or.inl rfl) (pvD 2) (pe_tup pa_nil) rfl (Or.inl rfl))
      (pss_cons (ps_setL (i := 4) sc_least_rows.nd pe_bl)
      (pss_cons (ps_while PassesOwn.never (ptB (pt_val (pvD 4)))
      (pss_cons (ps_setL (i := 4) sc_least_rows.nd pe_bl)
      (pss_one (ps_for PassesOwn.never rfl (pi_list (pe_callTy (call_list_dict rfl) rfl T.list PyProof.Rows.boot_list (pa_cons (pvD 3) pa_nil))) (pg_name (i := 5) sc_least_rows.nd rfl (Or.inl rfl))
      (pss_one (ps_for PassesOwn.never rfl (pi_zip2 rfl T.zip (pa_cons (pe_ixA (ixTD ix_tup) (pe_ixA (ixTD ix_tup) (pvD 0) pe_int) (pvD 5)) (pa_cons (pvD 1) pa_nil))) (pg_tup rfl (pgs_cons (pg_name (i := 6) sc_least_rows.nd rfl (Or.inl rfl)) (pgs_cons (pg_name (i := 7) sc_least_rows.nd rfl (Or.inl rfl)) pgs_nil)))
      (pss_one (ps_if (ptT (pt_cmpR op_notN (pvD 7) pe_non (nomark _)))
      (pss_cons (ps_setL (i := 8) sc_least_rows.nd (pe_op op_catT2 (pe_dget (hu_of hr) (pvD 3) (pvD 5) (fun _ _ => rfl)) (pvD 7)))
      (pss_one (ps_if (PW.pt (pw_or (pt_cmp (pc_dnotin (hu_of hr) (pvD 6) (pvD 3))) (pw_or1 (ptB (pt_val (pe_callQ q_less hr.d pass0 (pa_cons (pvD 8) (pa_cons (pe_dget (hu_of hr) (pvD 3) (pvD 6) (fun _ _ => rfl)) pa_nil))))))))
      (pss_cons (ps_dput (hu_of hr) (pvD 3) (pvD 6) (pvD 8) rfl)
      (pss_one (ps_setL (i := 4) sc_least_rows.nd pe_bl)))
      pss_nil)))
      pss_nil))))))))
      (pss_one (ps_ret (pvD 3)))))), ?_⟩
    obtain ⟨tm, tw, q1, q2, ts, q3, q4, q5⟩ := id hh
    have hn1 := wf.n1
    walk_at "rd"
    refine fun d hd => ⟨by omega, fun e0 he0 => ⟨by rw [upd_ne (none_of_upd he0).2.symm]; exact upd_same, [(Sum.inl 0, .ref e0)], rfl, by simp, ?_⟩⟩
    have hde : d ≠ e0 := (none_of_upd he0).2.symm
    have he0H : H e0 = none := (none_of_upd he0).1
    have s0 : Same H (upd (upd (upd H d (.dK [])) e0 (.tup [])) d (.dK (mergeK [] [(Sum.inl 0, .ref e0)]))) := ((Same.new hd).newT he0).over hd
    have hBF0 : BF (upd (upd (upd H d (.dK [])) e0 (.tup [])) d (.dK (mergeK [] [(Sum.inl 0, .ref e0)]))) d [0] (fun s => if s = 0 then some [] else none) := by
      refine ⟨_, upd_same, rfl, fun s => ?_⟩
      dsimp only
      by_cases e : s = 0
      . rw [if_pos e, e]
        exact .inr ⟨[], e0, rfl, rfl, by rw [upd_ne hde.symm]; exact upd_same⟩
      . rw [if_neg e]
        refine .inl ⟨rfl, ?_⟩
        show valV (putK [] (Sum.inl 0) (.ref e0)) (Sum.inl s) = none
        rw [valV_put, if_neg (fun z => e (Sum.inl.inj z))]; rfl
    generalize upd (upd (upd H d (.dK [])) e0 (.tup [])) d (.dK (mergeK [] [(Sum.inl 0, .ref e0)])) = H1 at s0 hBF0 ⊢
    obtain ⟨Pw, hPw⟩ : ∃ Pv : Nat -> St -> Hp -> Prop, ∀ m σ' H', Pv m σ' H' ↔ (∃ (ks : List Int) (f : Int -> Option (List Int)) (c : Bool) (o1 o2 o3 o4 : Option V), Same H H' /\ BF H' d ks f /\ Bs n M B ways bl ks f /\ m = 2 * mu80 n M B f + (if c then 1 else 0) /\ (c = false -> ∀ s t (x : Nat) v, f s = some t -> bl[x]? = some (some v) -> ∃ t', f (stepW ways s (x : Int)) = some t' /\ lessW (t ++ v) t' = false) /\ σ' = [some (.ref h), some (.ref b), some (.int 0), some (.ref d), some (.bl c), o1, o2, o3, o4]) := ⟨_, fun _ _ _ => Iff.rfl⟩
    refine whileW Pw ⟨_, (hPw _ _ _).mpr ⟨_, _, true, none, none, none, none, s0, hBF0, Bs.start (by omega), rfl, (fun z => nomatch z), rfl⟩⟩ fun m σ' H' h' => ?_
    obtain ⟨ks, f, c, o1, o2, o3, o4, s1, hBF, hBs, hm, hcl, rfl⟩ := (hPw _ _ _).mp h'
    walk_at "rd"
    cases c with
    | false =>
      rw [if_neg (by simp)]
      exact k d ks f H' s1 hd hBF hBs (hcl rfl)
    | true =>
      rw [if_pos rfl]
      obtain ⟨kvs, e1, e2, e3⟩ := id hBF
      refine ⟨fun σ2 H2 => ∃ m', m' < m /\ Pw m' σ2 H2, fun _ _ h => h, kvs, e1, fun l hl' => ⟨⟨_, SqL.of upd_same⟩, ?_⟩⟩
      have ek : kvs.map (fun kv => kV kv.1) = ks.map V.int := by
        have : kvs.map (fun kv => kV kv.1) = (kvs.map (·.1)).map kV := by rw [List.map_map]; rfl
        rw [this, e2, List.map_map]; rfl
      rw [ek]
      have hdl : d ≠ l := fun z => by rw [z, hl'] at e1; cases e1
      have hlH : H l = none := s1.none hl'
      have hkl := nodup_len n hBs.nd hBs.rg
      obtain ⟨Pr, hPr⟩ : ∃ Pv : Nat -> Nat -> St -> Hp -> Prop, ∀ i j σ2 H2, Pv i j σ2 H2 ↔ (∃ (ks2 : List Int) (f2 : Int -> Option (List Int)) (c2 : Bool) (o1 o2 o3 o4 : Option V), Same H H2 /\ H2 l = some (.lst (ks.map V.int)) /\ BF H2 d ks2 f2 /\ Bs n M B ways bl ks2 f2 /\ (∀ s ∈ ks, s ∈ ks2) /\ ((c2 = false /\ f2 = f /\ ∀ (i' : Nat) s t (x : Nat) v, ks[i']? = some s -> (i' < i \/ (i' = i /\ x < j)) -> f s = some t -> bl[x]? = some (some v) -> ∃ t', f (stepW ways s (x : Int)) = some t' /\ lessW (t ++ v) t' = false) \/ (c2 = true /\ mu80 n M B f2 < mu80 n M B f)) /\ (∀ s, ks[i]? = some s -> 0 < j -> o1 = some (.int s)) /\ σ2 = [some (.ref h), some (.ref b), some (.int 0), some (.ref d), some (.bl c2), o1, o2, o3, o4]) := ⟨_, fun _ _ _ _ => Iff.rfl⟩
      refine forL (xs := ks.map V.int) (fun i => Pr i 0) ((hPr _ _ _ _).mpr ⟨ks, f, false, _, _, _, _, s1.newT hl', upd_same, ?_, hBs, fun s hs => hs, .inl ⟨rfl, rfl, fun i' s t x v _ hi => by omega⟩, fun s _ z => absurd z (Nat.lt_irrefl _), rfl⟩) (fun i σ2 H2 _ h2 => ?_) (fun i x σ2 H2 hx h2 => ?_) (fun σ2 H2 h2 => ?_)
      . refine ⟨kvs, by rw [upd_ne hdl]; exact e1, e2, fun s => ?_⟩
        rcases e3 s with a | ⟨r, t, a, b', c'⟩
        . exact .inl a
        . exact .inr ⟨r, t, a, b', Same.new hl' _ _ c'⟩
      . obtain ⟨_, _, _, _, _, _, _, _, h3, _⟩ := (hPr _ _ _ _).mp h2
        exact SqL.of h3
      . obtain ⟨ks2, f2, c2, p1, p2, p3, p4, s2, hl2, hB2, hS2, hsub, hc2, _, rfl⟩ := (hPr _ _ _ _).mp h2
        obtain ⟨s, hs, rfl⟩ := get_mapI hx
        have hsm := List.mem_of_getElem? hs
        have hsr := hBs.rg s hsm
        obtain ⟨sn, rfl⟩ : ∃ sn : Nat, s = (sn : Int) := ⟨s.toNat, by omega⟩
        have hsw : sn < ways.length := by rw [wf.len]; omega
        have hst : sn < ts.length := by rw [q4]; exact hsw
        have hrow := q5 sn ts[sn] ways[sn] (List.getElem?_eq_getElem hst) (List.getElem?_eq_getElem hsw)
        have hwr := wf.rows ways[sn] (List.getElem_mem hsw)
        have hyl := hro.1
        walk_at "rd"
        refine ⟨_, s2.seqT q1, _, rfl, tw, rfl, _, s2.seqT q3, _, atI_nat (by rw [List.getElem?_map, List.getElem?_eq_getElem hst]; rfl), ?_⟩
        refine ⟨ts[sn], rfl, _, _, true, s2.seqT hrow, false, s2.seq hb, ?_⟩
        have hwl : ways[sn].length = L := by omega
        obtain ⟨Pz, hPz⟩ : ∃ Pv : Nat -> St -> Hp -> Prop, ∀ j σ2 H2, Pv j σ2 H2 ↔ (∃ (ks2 : List Int) (f2 : Int -> Option (List Int)) (c2 : Bool) (o2 o3 o4 : Option V), Same H H2 /\ H2 l = some (.lst (ks.map V.int)) /\ BF H2 d ks2 f2 /\ Bs n M B ways bl ks2 f2 /\ (∀ s ∈ ks, s ∈ ks2) /\ ((c2 = false /\ f2 = f /\ ∀ (i' : Nat) s t (x : Nat) v, ks[i']? = some s -> (i' < i \/ (i' = i /\ x < j)) -> f s = some t -> bl[x]? = some (some v) -> ∃ t', f (stepW ways s (x : Int)) = some t' /\ lessW (t ++ v) t' = false) \/ (c2 = true /\ mu80 n M B f2 < mu80 n M B f)) /\ σ2 = [some (.ref h), some (.ref b), some (.int 0), some (.ref d), some (.bl c2), some (.int sn), o2, o3, o4]) := ⟨_, fun _ _ _ => Iff.rfl⟩
        refine forZ2 L (by rw [List.length_map]; omega) (by omega) (.inl (by rw [List.length_map]; exact hwl)) Pz ((hPz _ _ _).mpr ⟨ks2, f2, c2, _, _, _, s2, hl2, hB2, hS2, hsub, hc2, rfl⟩) (fun j σ3 H3 _ h3 => ?_) (fun j u v σ3 H3 t hj hu hv h3 ht => ?_) (fun σ3 H3 h3 => ?_)
        . obtain ⟨_, _, _, _, _, _, s3, _⟩ := (hPz _ _ _).mp h3
          exact ⟨s3.seqT hrow, s3.seq hb⟩
        . clear hPr hc2 hS2 hB2 s2 hl2 hsub
          obtain ⟨ks2, f2, c2, p2, p3, p4, s3, hl3, hB3, hS3, hsub, hc3, rfl⟩ := (hPz _ _ _).mp h3
          obtain ⟨g, hg, rfl⟩ := get_mapI hu
          have hgr := hwr.2 g (List.mem_of_getElem? hg)
          have hstep : g = stepW ways (sn : Int) (j : Int) := (stepW_of (r := (sn : Int)) (x := (j : Int)) (row := ways[sn]) (by rw [Int.toNat_natCast]; exact List.getElem?_eq_getElem hsw) (by rw [Int.toNat_natCast]; exact hg)).symm
          walk_at "rd"
          have sT := Same.new ht (o := .tup [V.int g, v])
          have htT : SqT K (upd H3 t (.tup [V.int g, v])) t [V.int g, v] := SqT.of upd_same
          have s4 := s3.trans sT
          have hl4 := sT _ _ hl3
          have hB4 := hB3.mono sT
          generalize upd H3 t (.tup [V.int g, v]) = H4 at sT htT s4 hl4 hB4 ⊢
          have ext : (c2 = false -> f2 = f -> ∀ t v, f (sn : Int) = some t -> bl[j]? = some (some v) -> ∃ t', f (stepW ways (sn : Int) (j : Int)) = some t' /\ lessW (t ++ v) t' = false) -> ((c2 = false /\ f2 = f /\ ∀ (i' : Nat) s t (x : Nat) v, ks[i']? = some s -> (i' < i \/ (i' = i /\ x < j + 1)) -> f s = some t -> bl[x]? = some (some v) -> ∃ t', f (stepW ways s (x : Int)) = some t' /\ lessW (t ++ v) t' = false) \/ (c2 = true /\ mu80 n M B f2 < mu80 n M B f)) := fun hx => by
            rcases hc3 with ⟨a1, a2, a3⟩ | a
            . refine .inl ⟨a1, a2, fun i' s t x v h1 h2 h4 h5 => ?_⟩
              by_cases hc : i' < i \/ (i' = i /\ x < j)
              . exact a3 i' s t x v h1 hc h4 h5
              . have e1 : i' = i := by omega
                have e2 : x = j := by omega
                subst e1 e2
                rw [hs] at h1
                cases h1
                exact hx a1 a2 t v h4 h5
            . exact .inr a
          refine ⟨_, htT, rfl, _, _, rfl, _, _, rfl, rfl, ?_⟩
          rcases (hro.mono (TK.of s4)).at hv with ⟨hv1, rfl⟩ | ⟨r, tr, hv1, rfl, htr⟩
          . rw [if_neg (by simp)]
            refine (hPz _ _ _).mpr ⟨ks2, f2, c2, _, _, _, s4, hl4, hB4, hS3, hsub, ext fun _ _ t v _ h5 => ?_, rfl⟩
            rw [hv1] at h5; cases h5
          . rw [if_pos (by simp)]
            have hrv := hbv r (List.mem_of_getElem? hv1)
            obtain ⟨kv4, d1, d2, d3⟩ := id hB4
            have hkl2 := nodup_len n hS3.nd hS3.rg
            have hkn : kv4.length <= 4 := by rw [d2.len]; omega
            obtain ⟨t0, tt, e1', e2', e3'⟩ : ∃ t0 tt, f2 (sn : Int) = some t0 /\ valV kv4 (Sum.inl (sn : Int)) = some (.ref tt) /\ H4 tt = some (.tup (t0.map V.int)) := by
              rcases d3 (sn : Int) with ⟨a, _⟩ | ⟨r', t', a, b', c'⟩
              . have := (hS3.ky (sn : Int)).mp (hsub _ hsm)
                rw [a] at this; cases this
              . exact ⟨r', t', a, b', c'⟩
            have ht0 := (hS3.ln _ _ e1').1
            have hmul : M * ks2.length <= 2000 * 4 := Nat.mul_le_mul hM (by omega)
            have hdg : DGet H4 d (.int (sn : Int)) (some (.ref tt)) := by rw [<- e2']; exact DGet.k (k := Sum.inl (sn : Int)) d1
            refine ⟨.ref tt, hdg, rCatT2.ofS e3' htr (by simp; omega) fun q H5 s5 hq => ?_⟩
            have d5 := s5 _ _ d1
            have s45 := s4.trans s5
            have hq' : H5 q = some (.tup ((t0 ++ r).map V.int)) := by rw [List.map_append]; exact hq
            have d3' : ∀ s, (f2 s = none /\ valV kv4 (Sum.inl s) = none) \/ ∃ r t, f2 s = some r /\ valV kv4 (Sum.inl s) = some (.ref t) /\ H5 t = some (.tup (r.map V.int)) := fun s => by
              rcases d3 s with a | ⟨r', t', a, b', c'⟩
              . exact .inl a
              . exact .inr ⟨r', t', a, b', s5 _ _ c'⟩
            have hmu : mu80 n M B f2 <= mu80 n M B f := by
              rcases hc3 with ⟨_, a2, _⟩ | ⟨_, a⟩
              . rw [a2]; exact Nat.le_refl _
              . omega
            have put : (∀ t1, f2 g = some t1 -> lessW (t0 ++ r) t1 = true) -> ∃ H6, DPut H5 d (.int g) (.ref q) H6 /\ Pz (j + 1) [some (.ref h), some (.ref b), some (.int 0), some (.ref d), some (.bl true), some (.int sn), some (.int g), some (.ref tr), some (.ref q)] H6 := fun hlt => by
              have hp := hS3.put hB hbv hstep e1' hv1 hgr.1 (by rw [<- hmn]; exact hgr.2) hlt
              refine ⟨_, DPut.k (k := Sum.inl g) d5 (by omega), (hPz _ _ _).mpr ⟨_, _, true, _, _, _, s45.over hd, by rw [upd_ne hdl.symm]; exact s5 _ _ hl4, BF.put d5 d2 d3' hq', hp.1, fun s hs => ?_, .inr ⟨rfl, by omega⟩, rfl⟩⟩
              have := hsub s hs
              unfold ins1
              split
              . exact this
              . exact List.mem_append_left _ this
            refine ⟨valV kv4 (Sum.inl g), DGet.k (k := Sum.inl g) d5, ?_⟩
            rcases d3' g with ⟨a1, a2⟩ | ⟨t1, tg, a1, a2, a3⟩
            . rw [a2, if_pos (by rfl)]
              exact put fun t1 z => by rw [a1] at z; cases z
            . rw [a2, if_neg (by simp)]
              refine ⟨.ref tg, by rw [<- a2]; exact DGet.k (k := Sum.inl g) d5, q, tg, t0 ++ r, t1, rfl, SqT.of hq', SqT.of a3, _, rfl, ?_⟩
              cases hls : lessW (t0 ++ r) t1 with
              | true =>
                rw [if_pos rfl]
                exact put fun t2 z => by rw [a1] at z; cases z; exact hls
              | false =>
                rw [if_neg (by simp)]
                refine (hPz _ _ _).mpr ⟨ks2, f2, c2, _, _, _, s45, s5 _ _ hl4, hB4.mono s5, hS3, hsub, ext fun _ hf t v h4 h5 => ?_, rfl⟩
                rw [hv1] at h5
                cases h5
                rw [hf] at e1' a1
                rw [e1'] at h4
                cases h4
                exact ⟨t1, by rw [<- hstep]; exact a1, hls⟩
        . obtain ⟨ks2, f2, c2, p2, p3, p4, s3, hl3, hB3, hS3, hsub, hc3, rfl⟩ := (hPz _ _ _).mp h3
          refine (hPr _ _ _ _).mpr ⟨ks2, f2, c2, _, _, _, _, s3, hl3, hB3, hS3, hsub, ?_, fun s _ z => absurd z (Nat.lt_irrefl _), rfl⟩
          rcases hc3 with ⟨a1, a2, a3⟩ | a
          . refine .inl ⟨a1, a2, fun i' s t x v h1 h2 h4 h5 => a3 i' s t x v h1 ?_ h4 h5⟩
            have := (List.getElem?_eq_some_iff.mp h5).1
            omega
          . exact .inr a
      . obtain ⟨ks2, f2, c2, p1, p2, p3, p4, s2, hl2, hB2, hS2, hsub, hc2, _, rfl⟩ := (hPr _ _ _ _).mp h2
        rw [List.length_map] at hc2
        rcases hc2 with ⟨rfl, rfl, hcc⟩ | ⟨rfl, hlt⟩
        . refine ⟨_, ?_, (hPw _ _ _).mpr ⟨ks2, f2, false, _, _, _, _, s2, hB2, hS2, rfl, fun _ s t x v hft hx => ?_, rfl⟩⟩
          . rw [hm]; simp
          . have hsm : s ∈ ks := (hBs.ky s).mpr (by rw [hft]; rfl)
            obtain ⟨i', hi', e⟩ := List.mem_iff_getElem.mp hsm
            exact hcc i' s t x v (by rw [List.getElem?_eq_getElem hi', e]) (.inl hi') hft hx
        . refine ⟨_, ?_, (hPw _ _ _).mpr ⟨ks2, f2, true, _, _, _, _, s2, hB2, hS2, rfl, (fun z => nomatch z), rfl⟩⟩
          rw [hm]; simp; omega
theorem compKD {cp : Caps} {g : TG} {tc : TT} {te : TE} {Q : VK} {σ : St} {H : Hp} {o : Obj} {a : Addr} {kvs : List (Key × V)} (Pv : Nat -> List V -> St -> Hp -> Prop) (h0 : Pv 0 [] (cp.st σ) H) (hz : kvs.length < sizeLine)
    (hl : ∀ i ys σ H, i <= kvs.length -> Pv i ys σ H -> H a = some (.frz o (.dK kvs)) /\ ys.length <= i)
    (hs : ∀ i k v ys σ H, kvs[i]? = some (k, v) -> Pv i ys σ H -> g (kV k) σ H fun σ2 H2 => tc σ2 H2 fun b H3 => if b = true then te σ2 H3 fun v H4 => Pv (i + 1) (ys ++ [v]) σ2 H4 else Pv (i + 1) ys σ2 H3)
    (hd : ∀ ys σ H, Pv kvs.length ys σ H -> ∀ D, H D = none -> Q (.ref D) (upd H D (.lst ys))) : CompW (ItkK o a kvs) cp g tc te σ H Q := by
  refine ⟨fun i m ys σ H => m = kvs.length - i /\ i <= kvs.length /\ Pv i ys σ H, ⟨kvs.length, by simp, Nat.zero_le _, h0⟩, ?_⟩
  rintro i m ys σ H ⟨rfl, hi, p⟩
  obtain ⟨q, ly⟩ := hl i ys σ H hi p
  refine ⟨by omega, ?_⟩
  by_cases hlt : i < kvs.length
  . refine .inr ⟨⟨hlt, q⟩, Pv (i + 1), fun zs σ' H' p' => ⟨kvs.length - (i + 1), by omega, rfl, hlt, p'⟩, fun x H' y => ?_⟩
    obtain ⟨rfl, k, v, hk, rfl⟩ := y
    exact hs i k v ys σ H' hk p
  . have e : i = kvs.length := by omega
    subst e
    exact .inl ⟨⟨Nat.le_refl _, q⟩, hd ys σ H p⟩
def mk80 (marks : List Int) (s : Int) : Int := marks.getD s.toNat 0
abbrev Lm80 (K : PySem.W.Frag) (H : Hp) : Prop := LamT (tabP K "least_row_taken") lamP_least_row_taken (Str.ofString "least_row_taken" ++ ".<locals>.") H
def sp_lt80 (K : PySem.W.Frag) : Sp := fun vs H Q _ => ∃ (h b : Addr) (L n M B : Nat) (marks : List Int) (ways : List (List Int)) (ys : List V) (bl : List (Option (List Int))) (G : Int -> List Int -> Prop), vs = [.ref h, .ref b, .int 0] /\ House K H h L marks ways /\ Wf L marks ways /\ marks.length = n /\ n <= 4 /\ SqL K H b ys /\ RO H ys bl /\ bl.length = L /\ 2 <= B /\ M <= 2000 /\ (∀ v, some v ∈ bl -> v.length <= M /\ N80.Dg B v) /\ Lm80 K H /\ G 0 [] /\ (∀ s t (x : Nat) v, G s t -> bl[x]? = some (some v) -> G (stepW ways s (x : Int)) (t ++ v)) /\ (∀ s s' t, G s t -> G s' t -> s = s') /\
  ∀ ks f res v H', SameT (tabP K "least_row_taken") H H' -> Lm80 K H' -> Bs n M B ways bl ks f -> (∀ s t (x : Nat) v, f s = some t -> bl[x]? = some (some v) -> ∃ t', f (stepW ways s (x : Int)) = some t' /\ lessW (t ++ v) t' = false) -> ((res = none /\ v = .non) \/ ∃ r t, res = some r /\ v = .ref t /\ H' t = some (.tup (r.map V.int))) -> (∀ t, res = some t -> ∃ s, f s = some t /\ mk80 marks s ≠ 0) -> (∀ s t, f s = some t -> mk80 marks s ≠ 0 -> ∃ t', res = some t' /\ lessW t t' = false) -> Q v H'
theorem ok_least_row_taken {f : Addr} {fd : FuncData} (F : FunL K mg base "least_row_taken" "least_row_taken" s_least_row_taken f fd) (T : Txt mg)
    {f_least_rows : Addr} {fd_least_rows : FuncData} (q_least_rows : Cal P w K mg base CX0 2 "least_rows" s_least_rows ["house", "by_letter", "start"] (sp_lr80 K) f_least_rows fd_least_rows)
    : FnOk P w K mg base CX0 6 f fd ["house", "by_letter", "start"] (sp_lt80 K) := by
  refine F.ok sc_least_row_taken (fun vs H Q E h => ?_) (fun cdv hcd A outer s H vs Q E hr h => ?_)
  . obtain ⟨h, b, L, n, M, B, marks, ways, ys, bl, G, rfl, _⟩ := h; rfl
  . obtain ⟨h, b, L, n, M, B, marks, ways, ys, bl, G, rfl, hh, wf, hmn, hn4, hb, hro, hbl, hB, hM, hbv, hLm, G0, G1, G2, k⟩ := h
    have hl := line1000
    refine ⟨_, (pss_cons (ps_set (i := 3) sc_least_row_taken.nd rfl (Or.inr rfl) (pe_callQ q_least_rows hr.d pass0 (pa_cons (pvD 0) (pa_cons (pvD 1) (pa_cons (pvD 2) pa_nil)))))
      (pss_cons (ps_setC (i := 4) sc_least_row_taken.nd rfl rfl rfl (blk_mk rfl) (cp := c_least_row_taken_0) ⟨⟨rfl, rfl⟩, ⟨⟨rfl, rfl⟩, True.intro⟩⟩ (pi_dictK (pvD 3)) (fun _ _ _ _ => (pg_name (i := 0) nd_c_least_row_taken_0 rfl (Or.inl rfl))) (fun _ _ _ _ => (pf_one (ptT (pt_cmpR (opN op_ne) (pe_ixA (ixTD (ix_tupK (K := K) rfl)) (pe_ixA (ixTD (ix_tupK (K := K) rfl)) (pvD 2) pe_int) (pvD 0)) pe_int (nomark _))))) (fun _ _ _ _ => (pe_dget (hu_of hr) (pvD 1) (pvD 0) (fun _ _ => rfl))))
      (pss_one (ps_ret (pe_minL (k := 0) (c := tabC K "least_row_taken") (P := tabP K "least_row_taken") (lp := lamP_least_row_taken) (qual := Str.ofString "least_row_taken" ++ ".<locals>.") rfl (hr.mono (by decide)) rfl T.min T.len hcd F.C F.B (pa_cons (pvD 4) pa_nil)))))), ?_⟩
    obtain ⟨tm, tw, q1, q2, q3⟩ := id hh
    walk_at "rd"
    refine ⟨h, b, L, n, M, B, marks, ways, ys, bl, rfl, hh, wf, hmn, hn4, hb, hro, hbl, hB, hM, hbv, fun d ks f H1 s1 hdn hBF hBs hcl => ?_⟩
    obtain ⟨kvs, e1, e2, e3⟩ := id hBF
    have hkl := nodup_len n hBs.nd hBs.rg
    have hkn := e2.len
    refine ⟨d, rfl, kvs, .inl e1, fun o H2 hf2 hz2 => ?_⟩
    have s2 : Same H H2 := fun c u e => hz2.1 c u (fun z => by rw [z, hdn] at e; cases e) (s1 _ _ e)
    have ht2 : ∀ t ys, H1 t = some (.tup ys) -> H2 t = some (.tup ys) := fun t ys e => hz2.1 t _ (fun z => by rw [z, e1] at e; cases e) e
    obtain ⟨Pc, hPc⟩ : ∃ Pc : Nat -> List V -> St -> Hp -> Prop, ∀ i us σ' H', Pc i us σ' H' ↔ (H' = H2 /\ ∃ ws : List S64.Wd, us = S64.wv ws /\ (∀ w ∈ ws, H2 w.1 = some (.tup (w.2.map V.int)) /\ ∃ s ∈ ks.take i, f s = some w.2 /\ mk80 marks s ≠ 0) /\ (∀ s ∈ ks.take i, ∀ t, f s = some t -> mk80 marks s ≠ 0 -> ∃ w ∈ ws, w.2 = t) /\ (ws.map (·.2)).Nodup /\ ws.length <= i /\ ∃ o, σ' = [o, some (.ref d), some (.ref h)]) := ⟨_, fun _ _ _ _ => Iff.rfl⟩
    refine compKD Pc ((hPc _ _ _ _).mpr ⟨rfl, [], rfl, (fun w hw => nomatch hw), (fun s hs => by rw [List.take_zero] at hs; cases hs), List.nodup_nil, Nat.le_refl _, none, rfl⟩) (by omega) (fun i us σ' H' hi h' => ?_) (fun i kk v us σ' H' hk h' => ?_) (fun us σ' H' h' D hD => ?_)
    . obtain ⟨rfl, ws, rfl, _, _, _, hwl, _⟩ := (hPc _ _ _ _).mp h'
      exact ⟨hf2, by unfold S64.wv; rw [List.length_map]; exact hwl⟩
    . obtain ⟨rfl, ws, rfl, hw1, hw2, hw3, hwl, ov, rfl⟩ := (hPc _ _ _ _).mp h'
      have hik : i < ks.length := by rw [<- hkn]; exact (List.getElem?_eq_some_iff.mp hk).1
      have hkk : kk = Sum.inl ks[i] := by
        have := congrArg (fun l => l[i]?) e2
        rw [List.getElem?_map, List.getElem?_map, hk, List.getElem?_eq_getElem hik] at this
        exact Option.some.inj this
      subst hkk
      have hsm : ks[i] ∈ ks := List.getElem_mem hik
      have hsr := hBs.rg _ hsm
      generalize hse : ks[i] = s at hsm hsr hk ⊢
      have et : ks.take (i + 1) = ks.take i ++ [s] := by rw [List.take_add_one, List.getElem?_eq_getElem hik, hse]; rfl
      obtain ⟨r, t, f1, f2, f3⟩ : ∃ r t, f s = some r /\ valV kvs (Sum.inl s) = some (.ref t) /\ H1 t = some (.tup (r.map V.int)) := by
        rcases e3 s with ⟨a, _⟩ | ⟨r', t', a, b', c'⟩
        . have := (hBs.ky s).mp hsm
          rw [a] at this; cases this
        . exact ⟨r', t', a, b', c'⟩
      have hmk : marks[s.toNat]? = some (mk80 marks s) := by
        unfold mk80
        have : s.toNat < marks.length := by omega
        rw [List.getD_eq_getElem?_getD, List.getElem?_eq_getElem this]; rfl
      walk_at "rd"
      refine ⟨_, s2.seqT q1, _, rfl, tm, rfl, _, s, rfl, s2.seqT q2, .int (mk80 marks s), ?_, rfl, ?_⟩
      . obtain ⟨sn, rfl⟩ : ∃ sn : Nat, s = (sn : Int) := ⟨s.toNat, by omega⟩
        rw [Int.toNat_natCast] at hmk
        exact atI_nat (by rw [List.getElem?_map, hmk]; rfl)
      by_cases h0 : mk80 marks s = 0
      . rw [if_neg (by simp [h0])]
        refine (hPc _ _ _ _).mpr ⟨rfl, ws, rfl, fun w hw => ?_, fun s' hs' t' h4 h5 => ?_, hw3, by omega, _, rfl⟩
        . obtain ⟨a1, s', a2, a3⟩ := hw1 w hw
          exact ⟨a1, s', by rw [et]; exact List.mem_append_left _ a2, a3⟩
        . rw [et] at hs'
          rcases List.mem_append.mp hs' with hs' | hs'
          . exact hw2 s' hs' t' h4 h5
          . rw [List.mem_singleton.mp hs'] at h5; exact absurd h0 h5
      . rw [if_pos (by simp [h0])]
        refine ⟨.ref t, .inl ⟨kvs, Sum.inl s, .inr ⟨o, hf2⟩, rfl, f2.symm⟩, (hPc _ _ _ _).mpr ⟨rfl, ws ++ [(t, r)], by unfold S64.wv; rw [List.map_append]; rfl, fun w hw => ?_, fun s' hs' t' h4 h5 => ?_, ?_, by rw [List.length_append, List.length_singleton]; omega, _, rfl⟩⟩
        . rcases List.mem_append.mp hw with hw | hw
          . obtain ⟨a1, s', a2, a3⟩ := hw1 w hw
            exact ⟨a1, s', by rw [et]; exact List.mem_append_left _ a2, a3⟩
          . rw [List.mem_singleton.mp hw]
            exact ⟨ht2 _ _ f3, s, by rw [et]; exact List.mem_append_right _ (List.mem_singleton.mpr rfl), f1, h0⟩
        . rw [et] at hs'
          rcases List.mem_append.mp hs' with hs' | hs'
          . obtain ⟨w, a1, a2⟩ := hw2 s' hs' t' h4 h5
            exact ⟨w, List.mem_append_left _ a1, a2⟩
          . rw [List.mem_singleton.mp hs', f1] at h4
            cases h4
            exact ⟨(t, r), List.mem_append_right _ (List.mem_singleton.mpr rfl), rfl⟩
        . rw [List.map_append]
          refine List.nodup_append.mpr ⟨hw3, by simp, fun a ha b' hb' => ?_⟩
          rw [List.map_singleton, List.mem_singleton] at hb'
          obtain ⟨w, hw, rfl⟩ := List.mem_map.mp ha
          intro z
          obtain ⟨_, s', a2, a3, _⟩ := hw1 w hw
          rw [z, hb'] at a3
          have := G2 s' s r (hBs.g G G0 G1 s' r a3) (hBs.g G G0 G1 s r f1)
          rw [this] at a2
          obtain ⟨i', hi', e'⟩ := List.mem_iff_getElem.mp a2
          rw [List.length_take] at hi'
          rw [List.getElem_take] at e'
          have := (List.getElem_inj (xs := ks) (i := i') (j := i) (h₀ := by omega) (h₁ := hik) hBs.nd).mp (by rw [e', hse])
          omega
    . obtain ⟨rfl, ws, rfl, hw1, hw2, hw3, hwl, ov, rfl⟩ := (hPc _ _ _ _).mp h'
      rw [hkn, List.take_length] at hw1 hw2
      have sD := s2.newT hD (o := .lst (S64.wv ws))
      refine ⟨D, rfl, ws, SqL.of upd_same, fun w hw => SqT.of (Same.new hD _ _ (hw1 w hw).1), hw3, hLm.mono sD, fun hz H3 s3 hL3 => ?_, fun w H3 s3 hL3 hw hmin => ?_⟩
      . refine k ks f none .non H3 ((SameT.of sD).trans s3) hL3 hBs hcl (.inl ⟨rfl, rfl⟩) (fun t z => by cases z) (fun s t h4 h5 => ?_)
        obtain ⟨w, hw, _⟩ := hw2 s ((hBs.ky s).mpr (by rw [h4]; rfl)) t h4 h5
        rw [hz] at hw; cases hw
      . obtain ⟨a1, s, a2, a3, a4⟩ := hw1 w hw
        obtain ⟨ps, hps⟩ := (hLm.mono sD).is
        refine k ks f (some w.2) (.ref w.1) H3 ((SameT.of sD).trans s3) hL3 hBs hcl (.inr ⟨w.2, w.1, rfl, rfl, s3.ne (Same.new hD _ _ a1) (fun _ z => by cases z) hps⟩) (fun t z => by cases z; exact ⟨s, a3, a4⟩) (fun s' t h4 h5 => ?_)
        obtain ⟨w', hw', rfl⟩ := hw2 s' ((hBs.ky s').mpr (by rw [h4]; rfl)) t h4 h5
        exact ⟨w.2, rfl, hmin w' hw'⟩
theorem blR_pl {p : Nat} {rs : List (Option (List Int))} {x : Nat} (h : x < p) : (blR p rs)[x]? = some (some [(x : Int)]) := by
  unfold blR
  rw [List.getElem?_append_left (by rw [List.length_map, List.length_range]; exact h), List.getElem?_map, List.getElem?_range h]; rfl
theorem blR_ca {p : Nat} {rs : List (Option (List Int))} {i : Nat} (h : i < rs.length) : (blR p rs)[p + i]? = some (rowOf p rs.length rs i) := by
  unfold blR
  rw [List.getElem?_append_right (by rw [List.length_map, List.length_range]; omega), List.length_map, List.length_range, show p + i - p = i by omega, List.getElem?_map, List.getElem?_range h]; rfl
theorem blR_len (p : Nat) (rs : List (Option (List Int))) : (blR p rs).length = p + rs.length := by
  unfold blR
  rw [List.length_append, List.length_map, List.length_map, List.length_range, List.length_range]
theorem blR_cases {p : Nat} {rs : List (Option (List Int))} {x : Nat} {v : List Int} (h : (blR p rs)[x]? = some (some v)) : (x < p /\ v = [(x : Int)]) \/ ∃ i r, x = p + i /\ i < rs.length /\ rs[i]? = some (some r) /\ v = ((p : Int) + i) :: r ++ [(p : Int) + rs.length] := by
  by_cases hx : x < p
  . rw [blR_pl hx] at h
    exact .inl ⟨hx, (Option.some.inj (Option.some.inj h)).symm⟩
  . have hxl := (List.getElem?_eq_some_iff.mp h).1
    rw [blR_len] at hxl
    obtain ⟨i, rfl⟩ : ∃ i, x = p + i := ⟨x - p, by omega⟩
    have hi : i < rs.length := by omega
    rw [blR_ca hi] at h
    have h := Option.some.inj h
    unfold rowOf at h
    cases hr : rs[i]? with
    | none => rw [hr] at h; cases h
    | some o =>
      cases o with
      | none => rw [hr] at h; cases h
      | some r =>
        rw [hr] at h
        exact .inr ⟨i, r, rfl, hi, hr, (Option.some.inj h).symm⟩
def G80 (A : Int -> List Int -> Prop) (p e : Int) (ways : List (List Int)) (s : Int) (t : List Int) : Prop := N80.Nst p e t /\ N80.Okr A p e t /\ (Nest.outW p e t).foldl (stepW ways) 0 = s
theorem G80.one {A : Int -> List Int -> Prop} {p e : Int} {ways : List (List Int)} {s s' : Int} {t : List Int} (h : G80 A p e ways s t) (h' : G80 A p e ways s' t) : s = s' := h.2.2.symm.trans h'.2.2
theorem G80.start {A : Int -> List Int -> Prop} {p e : Int} {ways : List (List Int)} : G80 A p e ways 0 [] := ⟨.nil, (fun q hq => nomatch hq), rfl⟩
theorem G80.step {A : Int -> List Int -> Prop} {p : Nat} {ways : List (List Int)} {rs : List (Option (List Int))} (hA : ∀ (i : Nat) r, rs[i]? = some (some r) -> N80.Acc A p ((p : Int) + rs.length) (i : Int) r) {s : Int} {t : List Int} {x : Nat} {v : List Int} (h : G80 A p ((p : Int) + rs.length) ways s t) (hv : (blR p rs)[x]? = some (some v)) : G80 A p ((p : Int) + rs.length) ways (stepW ways s (x : Int)) (t ++ v) := by
  have hp : (0 : Int) <= (p : Int) := by omega
  have hpe : (p : Int) <= (p : Int) + rs.length := by omega
  obtain ⟨h1, h2, h3⟩ := h
  rcases blR_cases hv with ⟨hx, rfl⟩ | ⟨i, r, rfl, hi, hr, rfl⟩
  . have hn : N80.Nst (p : Int) ((p : Int) + rs.length) [(x : Int)] := N80.nst_pl (by omega) (by omega)
    refine ⟨h1.app hn, (N80.okr_app hp hpe h1 hn).mpr ⟨h2, N80.okr_pl (by omega) (by omega) hpe⟩, ?_⟩
    rw [(N80.out_app (h1.row hp hpe) (hn.row hp hpe)).2, (N80.out_pl (by omega) (by omega) hpe).2, List.foldl_append, h3]; rfl
  . have ha := hA i r hr
    have hn := N80.nst_ca (c := (p : Int) + i) (e := (p : Int) + rs.length) (by omega) (by omega) ha.n
    refine ⟨h1.app hn, (N80.okr_app hp hpe h1 hn).mpr ⟨h2, (N80.okr_ca hp hpe (by omega) (by omega) ha.n).mpr (by rw [show (p : Int) + i - p = i by omega]; exact ha)⟩, ?_⟩
    rw [(N80.out_app (h1.row hp hpe) (hn.row hp hpe)).2, (N80.out_ca hp (by omega) (by omega) (ha.n.row hp hpe)).2, List.foldl_append, h3]
    show stepW ways s ((p : Int) + i) = stepW ways s ((p + i : Nat) : Int)
    rw [Int.natCast_add]
def rowsF (rs : List (Option (List Int))) (i : Int) : Option (List Int) := (rs[i.toNat]?).getD none
theorem less_cod {B : Nat} (hB : 2 <= B) {u v : List Int} (hu : N80.Dg B u) (hv : N80.Dg B v) (h : lessW u v = false) : N80.cod B v <= N80.cod B u := by
  refine Decidable.byContradiction fun z => ?_
  have := (N80.less_iff hB hu hv).mpr (by omega)
  rw [h] at this; cases this
theorem rest80 {A : Int -> List Int -> Prop} {p n M B : Nat} {ways : List (List Int)} {rs : List (Option (List Int))} (hB : 2 <= B) (hBe : (B : Int) = (p : Int) + rs.length + 1) (hA : ∀ (i : Nat) r, rs[i]? = some (some r) -> N80.Acc A p ((p : Int) + rs.length) (i : Int) r) {ks : List Int} {f : Int -> Option (List Int)} (h : Bs n M B ways (blR p rs) ks f)
    (hcl : ∀ s t (x : Nat) v, f s = some t -> (blR p rs)[x]? = some (some v) -> ∃ t', f (stepW ways s (x : Int)) = some t' /\ lessW (t ++ v) t' = false) : N80.Rest A p ((p : Int) + rs.length) B (stepW ways) (rowsF rs) 0 f := by
  have hp : (0 : Int) <= (p : Int) := by omega
  have hpe : (p : Int) <= (p : Int) + rs.length := by omega
  refine ⟨⟨[], h.z, Nat.le_refl _⟩, fun s t ht => ?_, fun s t x ht h0 h1 => ?_, fun s t c r ht h0 h1 hr => ?_⟩
  . exact h.g (G80 A p ((p : Int) + rs.length) ways) G80.start (fun s t x v hg hv => hg.step hA hv) s t ht
  . obtain ⟨x, rfl⟩ : ∃ m : Nat, x = (m : Int) := ⟨x.toNat, by omega⟩
    obtain ⟨t', a, b⟩ := hcl s t x _ ht (blR_pl (by omega))
    have hd : N80.Dg B [(x : Int)] := (N80.nst_pl (p := (p : Int)) (e := (p : Int) + rs.length) h0 h1).dg hp hBe hpe
    exact ⟨t', a, less_cod hB ((h.ln s t ht).2.app hd) (h.ln _ _ a).2 b⟩
  . obtain ⟨i, rfl⟩ : ∃ i : Nat, c = (p : Int) + i := ⟨(c - p).toNat, by omega⟩
    have hi : i < rs.length := by omega
    have hri : rs[i]? = some (some r) := by
      unfold rowsF at hr
      rw [show ((p : Int) + i - p).toNat = i by omega] at hr
      cases hq : rs[i]? with
      | none => rw [hq] at hr; cases hr
      | some o => rw [hq] at hr; cases hr; rfl
    have hv : (blR p rs)[p + i]? = some (some (((p : Int) + i) :: r ++ [(p : Int) + rs.length])) := by
      rw [blR_ca hi]
      unfold rowOf
      rw [hri]; rfl
    obtain ⟨t', a, b⟩ := hcl s t (p + i) _ ht hv
    rw [Int.natCast_add] at a
    have hd : N80.Dg B (((p : Int) + i) :: r ++ [(p : Int) + rs.length]) := (N80.nst_ca (by omega) (by omega) (hA i r hri).n).dg hp hBe hpe
    exact ⟨t', a, less_cod hB ((h.ln s t ht).2.app hd) (h.ln _ _ a).2 b⟩
def md80 : Nat -> Nat
  | 0 => 0
  | d + 1 => 3 * (md80 d + 2)
structure Sd (A : Int -> List Int -> Prop) (p B d : Nat) (rs : List (Option (List Int))) : Prop where
  s : ∀ (j : Nat) t, rs[j]? = some (some t) -> N80.Acc A p ((p : Int) + rs.length) (j : Int) t
  l : ∀ (j : Nat) row, j < rs.length -> N80.Acc A p ((p : Int) + rs.length) (j : Int) row -> N80.cnt A p ((p : Int) + rs.length) B rs.length (N80.cod B row) < d -> ∃ t, rs[j]? = some (some t) /\ N80.cod B t <= N80.cod B row
  m : ∀ (j : Nat) t, rs[j]? = some (some t) -> t.length <= md80 d
theorem Sd.zero {A : Int -> List Int -> Prop} {p B : Nat} (h : Nat) : Sd A p B 0 (List.replicate h none) := by
  have no : ∀ (j : Nat) t, (List.replicate h (none : Option (List Int)))[j]? ≠ some (some t) := fun j t z => by
    have := List.mem_of_getElem? z
    rw [List.mem_replicate] at this
    cases this.2
  exact ⟨fun j t z => absurd z (no j t), fun j row _ _ z => absurd z (Nat.not_lt_zero _), fun j t z => absurd z (no j t)⟩
theorem Sd.one {A : Int -> List Int -> Prop} {p n M B d : Nat} {ways : List (List Int)} {marks : List Int} {rs : List (Option (List Int))} (hS : Sd A p B d rs) (hB : 2 <= B) (hBe : (B : Int) = (p : Int) + rs.length + 1) {ks : List Int} {f : Int -> Option (List Int)} (h : Bs n M B ways (blR p rs) ks f)
    (hcl : ∀ s t (x : Nat) v, f s = some t -> (blR p rs)[x]? = some (some v) -> ∃ t', f (stepW ways s (x : Int)) = some t' /\ lessW (t ++ v) t' = false) {res : Option (List Int)} (h1 : ∀ t, res = some t -> ∃ s, f s = some t /\ mk80 marks s ≠ 0) (h2 : ∀ s t, f s = some t -> mk80 marks s ≠ 0 -> ∃ t', res = some t' /\ lessW t t' = false) {j : Nat} (hj : j < rs.length) (hA : ∀ w, A (j : Int) w ↔ mk80 marks (w.foldl (stepW ways) 0) ≠ 0) (hn : n <= 4) :
    (∀ t, res = some t -> N80.Acc A p ((p : Int) + rs.length) (j : Int) t /\ t.length <= 3 * M) /\ ∀ row, N80.Acc A p ((p : Int) + rs.length) (j : Int) row -> N80.cnt A p ((p : Int) + rs.length) B rs.length (N80.cod B row) < d + 1 -> ∃ t, res = some t /\ N80.cod B t <= N80.cod B row := by
  have hp : (0 : Int) <= (p : Int) := by omega
  have hpe : (p : Int) <= (p : Int) + rs.length := by omega
  have hR := rest80 hB hBe hS.s h hcl
  have hTn : N80.Turn A p ((p : Int) + rs.length) B (fun s => mk80 marks s ≠ 0) f res := ⟨h1, fun r t a b => by
    obtain ⟨t', c, e⟩ := h2 r t a b
    obtain ⟨s', a', _⟩ := h1 t' c
    exact ⟨t', c, less_cod hB (h.ln r t a).2 (h.ln s' t' a').2 e⟩⟩
  refine ⟨fun t ht => ⟨hTn.acc hR hA ht, ?_⟩, fun row ha hc => ?_⟩
  . obtain ⟨s, a, _⟩ := h1 t ht
    have b1 := (h.ln s t a).1
    have b2 := nodup_len n h.nd h.rg
    have b3 := Nat.mul_le_mul_left M (show ks.length <= 4 by omega)
    omega
  . refine hTn.least hp hpe hBe hB hR hA (fun i r hr => ?_) ha (fun i inn hi hi0 hi1 hil => ?_)
    . unfold rowsF at hr
      cases hq : rs[i.toNat]? with
      | none => rw [hq] at hr; cases hr
      | some o => rw [hq] at hr; cases hr; exact (hS.s _ _ hq).n
    . obtain ⟨k, rfl⟩ : ∃ k : Nat, i = (k : Int) := ⟨i.toNat, by omega⟩
      obtain ⟨r, a1, a2, a3⟩ := N80.least_acc B hi
      have hlt := N80.cod_len hB (hi.n.dg hp hBe hpe) hil
      have := N80.cnt_lt (b := B) (show k < rs.length by omega) a1 a3 (n := N80.cod B row) (by omega)
      obtain ⟨t, b1, b2⟩ := hS.l k r (by omega) a1 (by omega)
      refine ⟨t, ?_, by omega⟩
      unfold rowsF
      rw [Int.toNat_natCast, b1]; rfl
abbrev Hus := Int × List Int × List (List Int)
theorem forB {K : PySem.W.Frag} {t : Bool} {a : Addr} {xs : List V} {g : TG} {tb : TS} {D : Ends} {σ : St} {H : Hp} (Pv : Nat -> St -> Hp -> Prop) (h0 : Pv 0 σ H) (hl : ∀ i σ H, i <= xs.length -> Pv i σ H -> SqB K H t a xs)
    (hs : ∀ i x σ H, xs[i]? = some x -> Pv i σ H -> g x σ H fun σ2 H2 => tb { D with nx := Pv (i + 1), ct := Pv (i + 1), bk := D.nx } σ2 H2) (hd : ∀ σ H, Pv xs.length σ H -> D.nx σ H) : ((∃ xs, SqL K H a xs) /\ ForW (Itl K a) g tb D σ H) \/ ((∃ xs, SqT K H a xs) /\ ForW (Itt K a) g tb D σ H) := by
  cases t
  . exact .inl ⟨⟨_, hl 0 σ H (Nat.zero_le _) h0⟩, forL Pv h0 hl hs hd⟩
  . exact .inr ⟨⟨_, hl 0 σ H (Nat.zero_le _) h0⟩, forT Pv h0 hl hs hd⟩
def HsL (K : PySem.W.Frag) (H : Hp) (xs : List V) (hs : List Hus) : Prop := xs.length = hs.length /\ ∀ (i : Nat) (r : Hus), hs[i]? = some r -> ∃ a, xs[i]? = some (.ref a) /\ House K H a r.1 r.2.1 r.2.2
theorem HsL.nil {K : PySem.W.Frag} {H : Hp} : HsL K H [] [] := ⟨rfl, fun i r h => by simp at h⟩
theorem HsL.mono {K : PySem.W.Frag} {H H' : Hp} {xs : List V} {hs : List Hus} (h : HsL K H xs hs) (s : Same H H') : HsL K H' xs hs := ⟨h.1, fun i r hi => by
  obtain ⟨a, b, c⟩ := h.2 i r hi
  exact ⟨a, b, c.mono s⟩⟩
theorem HsL.at {K : PySem.W.Frag} {H : Hp} {xs : List V} {hs : List Hus} (h : HsL K H xs hs) {i : Nat} {x : V} (hx : xs[i]? = some x) : ∃ (r : Hus) (a : Addr), hs[i]? = some r /\ x = .ref a /\ House K H a r.1 r.2.1 r.2.2 := by
  have hi : i < hs.length := by rw [<- h.1]; exact (List.getElem?_eq_some_iff.mp hx).1
  obtain ⟨a, e, b⟩ := h.2 i hs[i] (by simp [hi])
  rw [hx] at e
  exact ⟨hs[i], a, by simp [hi], Option.some.inj e, b⟩
theorem HsL.snoc {K : PySem.W.Frag} {H : Hp} {xs : List V} {hs : List Hus} {a : Addr} {L : Int} {ms : List Int} {ws : List (List Int)} (h : HsL K H xs hs) (ha : House K H a L ms ws) : HsL K H (xs ++ [.ref a]) (hs ++ [(L, ms, ws)]) := by
  refine ⟨by simp [h.1], fun i r hi => ?_⟩
  by_cases hl : i < hs.length
  . rw [List.getElem?_append_left hl] at hi
    rw [List.getElem?_append_left (by rw [h.1]; exact hl)]
    exact h.2 i r hi
  . have := (List.getElem?_eq_some_iff.mp hi).1
    rw [List.length_append, List.length_singleton] at this
    have e : i = hs.length := by omega
    subst e
    rw [List.getElem?_append_right (Nat.le_refl _), Nat.sub_self] at hi
    simp at hi
    subst hi
    exact ⟨a, by rw [<- h.1]; simp, ha⟩
def WorksH (K : PySem.W.Frag) (H : Hp) (h : Addr) (p : Int) (xs : List V) (hs : List Hus) : Prop := ∃ y, SqT K H h [.int p, .ref y] /\ SqT K H y xs /\ HsL K H xs hs
theorem WorksH.mono {K : PySem.W.Frag} {H H' : Hp} {h : Addr} {p : Int} {xs : List V} {hs : List Hus} (x : WorksH K H h p xs hs) (s : Same H H') : WorksH K H' h p xs hs := by
  obtain ⟨y, a, b, c⟩ := x
  exact ⟨y, s.seqT a, s.seqT b, c.mono s⟩
def ansH (hs : List Hus) (pr : Int × List Int) : Int := markW (hs.getD pr.1.toNat (0, [], [])).2.1 (walkW (hs.getD pr.1.toNat (0, [], [])).2.2 pr.2)
def okT (hs : List Hus) (pr : Int × List Int) : Bool := decide (ansH hs pr ≠ 0)
def WfW (n : Int) (hs : List Hus) : Prop := ∀ r ∈ hs, r.1 = n /\ Wf n r.2.1 r.2.2
theorem HsL.get {K : PySem.W.Frag} {H : Hp} {xs : List V} {hs : List Hus} {n j : Int} (h : HsL K H xs hs) (w : WfW n hs) (j0 : 0 <= j) (j1 : j < hs.length) : ∃ a, atI xs j = some (.ref a) /\ House K H a n (hs.getD j.toNat (0, [], [])).2.1 (hs.getD j.toNat (0, [], [])).2.2 /\ Wf n (hs.getD j.toNat (0, [], [])).2.1 (hs.getD j.toNat (0, [], [])).2.2 := by
  have hj : j.toNat < hs.length := by omega
  have e : hs[j.toNat]? = some hs[j.toNat] := by simp [hj]
  have e2 : hs.getD j.toNat (0, [], []) = hs[j.toNat] := by rw [List.getD_eq_getElem?_getD, e]; rfl
  rw [e2]
  obtain ⟨a, b, c⟩ := h.2 _ _ e
  obtain ⟨f, g⟩ := w _ (List.mem_of_getElem? e)
  rw [f] at c
  exact ⟨a, by rw [show j = (j.toNat : Int) by omega]; exact atI_nat b, c, g⟩
theorem SameT.tsq2 {K : PySem.W.Frag} {T : Addr} {H H' : Hp} {ps : Array Value} (h : SameT T H H') (hT : H T = some (.tbl ps)) : TSq K H H' := fun b ys q => h.tsq hT q
theorem House.monoQ {K : PySem.W.Frag} {H H' : Hp} {h : Addr} {L : Int} {marks : List Int} {ways : List (List Int)} (x : House K H h L marks ways) (e : TSq K H H') : House K H' h L marks ways := by
  obtain ⟨m, w, h1, h2, ts, h3, h4, h5⟩ := x
  exact ⟨m, w, e _ _ h1, e _ _ h2, ts, e _ _ h3, h4, fun i t r a b => e _ _ (h5 i t r a b)⟩
def A80 (hs : List Hus) (j : Int) (w : List Int) : Prop := ∃ r, hs[j.toNat]? = some r /\ 0 <= j /\ mk80 r.2.1 (w.foldl (stepW r.2.2) 0) ≠ 0
theorem a80_at {hs : List Hus} {j : Nat} {r : Hus} (h : hs[j]? = some r) (w : List Int) : A80 hs (j : Int) w ↔ mk80 r.2.1 (w.foldl (stepW r.2.2) 0) ≠ 0 := by
  constructor
  . rintro ⟨r', a, _, b⟩
    rw [Int.toNat_natCast, h] at a
    cases a; exact b
  . intro b
    exact ⟨r, by rw [Int.toNat_natCast]; exact h, by omega, b⟩
theorem SameT.tk {T : Addr} {H H' : Hp} {ps : Array Value} (h : SameT T H H') (hT : H T = some (.tbl ps)) : TK H H' := fun b xs e => h.ne e (fun _ z => by cases z) hT
def sp_sh80 (K : PySem.W.Frag) : Sp := fun vs H Q _ => ∃ (wa : Addr) (p : Nat) (xs : List V) (hs : List Hus), vs = [.ref wa] /\ WorksH K H wa p xs hs /\ WfW (p + hs.length) hs /\ 1 <= hs.length /\ hs.length <= 3 /\ 1 <= p /\ p <= 6 /\ (∀ r ∈ hs, r.2.1.length <= 4) /\ Lm80 K H /\ ∀ l ys rs H', SameT (tabP K "least_row_taken") H H' -> Lm80 K H' -> H' l = some (.lst ys) -> RO H' ys rs -> rs.length = hs.length -> Sd (A80 hs) p (p + hs.length + 1) hs.length rs -> Q (.ref l) H'
theorem ok_shortest {f : Addr} {fd : FuncData} (F : Fun K "shortest" "shortest" s_shortest f fd) (T : Txt mg)
    {f_rows_by_letter : Addr} {fd_rows_by_letter : FuncData} (q_rows_by_letter : Cal P w K mg base CX0 2 "rows_by_letter" s_rows_by_letter ["plain", "rows"] (sp_rbl80 K) f_rows_by_letter fd_rows_by_letter)
    {f_least_row_taken : Addr} {fd_least_row_taken : FuncData} (q_least_row_taken : Cal P w K mg base CX0 6 "least_row_taken" s_least_row_taken ["house", "by_letter", "start"] (sp_lt80 K) f_least_row_taken fd_least_row_taken)
    : FnOk P w K mg base CX0 7 f fd ["works"] (sp_sh80 K) := by
  refine F.ok sc_shortest (fun vs H Q E h => ?_) (fun cdv A outer s H vs Q E hr h => ?_)
  . obtain ⟨w, p, xs, hs, rfl, _⟩ := h; rfl
  . obtain ⟨wa, p, xs, hs, rfl, hw, hwf, hh1, hh3, hp1, hp6, h4, hLm, k⟩ := h
    have hl := line1000
    refine ⟨_, (pss_cons (ps_setL (i := 1) sc_shortest.nd (pe_op op_rep (pe_lst (pa_cons pe_non pa_nil)) (pe_callB (lenD call_len_seq) (by rfl) T.len PySem.boot_len (pa_cons (pe_ixA (ixTD ix_tup) (pvD 0) pe_int) pa_nil))))
      (pss_cons (ps_for PassesOwn.never rfl (pi_range1 rfl T.range (pa_cons (pe_callB (lenD call_len_seq) (by rfl) T.len PySem.boot_len (pa_cons (pe_ixA (ixTD ix_tup) (pvD 0) pe_int) pa_nil)) pa_nil)) (pg_name (i := 2) sc_shortest.nd rfl (Or.inl rfl))
      (pss_cons (ps_set (i := 3) sc_shortest.nd rfl (Or.inr rfl) (pe_callQ q_rows_by_letter hr.d pass0 (pa_cons (pe_ixA (ixTD ix_tup) (pvD 0) pe_int) (pa_cons (pvD 1) pa_nil))))
      (pss_one (ps_setC (i := 1) sc_shortest.nd rfl rfl rfl (blk_mk rfl) (cp := c_shortest_0) ⟨⟨rfl, rfl⟩, True.intro⟩ (pi_tup (pe_ixA (ixTD ix_tup) (pvD 0) pe_int)) (fun _ _ _ _ => (pg_name (i := 0) nd_c_shortest_0 rfl (Or.inl rfl))) (fun _ _ _ _ => pf_nil) (fun _ _ _ _ => (pe_callQ q_least_row_taken hr.d pass0 (pa_cons (pvD 0) (pa_cons (pvD 1) (pa_cons pe_int pa_nil)))))))))
      (pss_one (ps_ret (pvD 1))))), ?_⟩
    obtain ⟨y, q1, q2, q3⟩ := id hw
    have hxl := q3.1
    walk_at "rd"
    refine ⟨by omega, fun p0 hp0 => ⟨_, (Same.new hp0).seqT q1, _, rfl, y, rfl, xs, .inr ((Same.new hp0).seqT q2), _, upd_same, by omega, by omega, by simp; omega, fun p1 hp1 => ?_⟩⟩
    have s1 := (Same.new hp0 (o := .lst [V.non])).newT hp1 (o := .lst (List.replicate ((xs.length : Int)).toNat [V.non]).flatten)
    have e1 : (List.replicate ((xs.length : Int)).toNat [V.non]).flatten = List.replicate hs.length V.non := by
      rw [Int.toNat_natCast, hxl]; simp
    have hp1' : upd (upd H p0 (.lst [V.non])) p1 (.lst (List.replicate ((xs.length : Int)).toNat [V.non]).flatten) p1 = some (.lst (List.replicate hs.length V.non)) := by rw [upd_same, e1]
    generalize upd (upd H p0 (.lst [V.non])) p1 (.lst (List.replicate ((xs.length : Int)).toNat [V.non]).flatten) = H1 at s1 hp1' ⊢
    refine ⟨_, s1.seqT q1, _, rfl, y, rfl, xs, .inr (s1.seqT q2), by omega, by omega, ?_⟩
    rw [Int.toNat_natCast, hxl]
    obtain ⟨ps, hps⟩ := hLm.is
    have hro0 : RO H1 (List.replicate hs.length V.non) (List.replicate hs.length none) := ⟨by simp, fun i o ho => by
      have hm := List.mem_of_getElem? ho
      have hi := (List.getElem?_eq_some_iff.mp ho).1
      rw [List.length_replicate] at hi
      exact .inl ⟨(List.mem_replicate.mp hm).2, by rw [List.getElem?_replicate, if_pos hi]⟩⟩
    obtain ⟨Pv, hPv⟩ : ∃ Pv : Nat -> St -> Hp -> Prop, ∀ d σ' H', Pv d σ' H' ↔ (∃ (a : Addr) (ys : List V) (rs : List (Option (List Int))) (o2 o3 : Option V), SameT (tabP K "least_row_taken") H H' /\ Lm80 K H' /\ H' a = some (.lst ys) /\ RO H' ys rs /\ rs.length = hs.length /\ Sd (A80 hs) p (p + hs.length + 1) d rs /\ σ' = [some (.ref wa), some (.ref a), o2, o3]) := ⟨_, fun _ _ _ => Iff.rfl⟩
    refine forR Pv ((hPv _ _ _).mpr ⟨p1, _, _, none, none, SameT.of s1, hLm.mono s1, hp1', hro0, by simp, Sd.zero _, rfl⟩) (fun d σ2 H2 hd h2 => ?_) (fun σ2 H2 h2 => ?_)
    . obtain ⟨a, ys, rs, o2, o3, s2, hL2, ha2, hro2, hrl, hS, rfl⟩ := (hPv _ _ _).mp h2
      have t2 : TSq K H H2 := SameT.tsq2 (T := tabP K "least_row_taken") s2 hps
      have hmd : md80 d <= 24 := by
        match d, hd with
        | 0, _ => decide
        | 1, _ => decide
        | 2, _ => decide
        | d + 3, hd => omega
      walk_at "rd"
      refine ⟨_, t2 _ _ q1, _, rfl, p, a, ys, rs, rfl, SqL.of ha2, hro2, by omega, hp6, fun r hr => ?_, fun l1 zs H3 s3 hl1 hro3 => ?_⟩
      . obtain ⟨j, hj, e⟩ := List.mem_iff_getElem.mp hr
        have := hS.m j r (by rw [List.getElem?_eq_getElem hj, e])
        omega
      have s23 := s2.trans (SameT.of s3)
      have hL3 : Lm80 K H3 := hL2.mono s3
      obtain ⟨ps3, hps3⟩ := hL3.is
      have t3 : TSq K H H3 := SameT.tsq2 (T := tabP K "least_row_taken") s23 hps
      refine ⟨_, t3 _ _ q1, _, rfl, y, rfl, ⟨_, t3 _ _ q2⟩, ?_⟩
      obtain ⟨Pc, hPc⟩ : ∃ Pc : Nat -> List V -> St -> Hp -> Prop, ∀ i us σ' H', Pc i us σ' H' ↔ (SameT (tabP K "least_row_taken") H3 H' /\ Lm80 K H' /\ (∃ rs' : List (Option (List Int)), rs'.length = i /\ RO H' us rs' /\ ∀ (j : Nat) res, rs'[j]? = some res -> (∀ t, res = some t -> N80.Acc (A80 hs) p ((p : Int) + rs.length) (j : Int) t /\ t.length <= 3 * (md80 d + 2)) /\ ∀ row, N80.Acc (A80 hs) p ((p : Int) + rs.length) (j : Int) row -> N80.cnt (A80 hs) p ((p : Int) + rs.length) (p + hs.length + 1) rs.length (N80.cod (p + hs.length + 1) row) < d + 1 -> ∃ t, res = some t /\ N80.cod (p + hs.length + 1) t <= N80.cod (p + hs.length + 1) row) /\ ∃ o, σ' = [o, some (.ref l1)]) := ⟨_, fun _ _ _ _ => Iff.rfl⟩
      refine compT (xs := xs) Pc ((hPc _ _ _ _).mpr ⟨SameT.of (Same.refl _), hL3, ⟨[], rfl, RO.nil, fun j res h => by simp at h⟩, none, rfl⟩) (by omega) (fun i us σ' H' hi h' => ?_) (fun i x us σ' H' hx h' => ?_) (fun us σ' H' h' D hD => ?_)
      . obtain ⟨s5, _, ⟨rs', e5, hro5, _⟩, _⟩ := (hPc _ _ _ _).mp h'
        exact ⟨SameT.tsq2 (T := tabP K "least_row_taken") s5 hps3 _ _ (t3 _ _ q2), by rw [hro5.1]; omega⟩
      . obtain ⟨s5, hL5, ⟨rs', e5, hro5, hone⟩, ov, rfl⟩ := (hPc _ _ _ _).mp h'
        obtain ⟨r, ar, hr, rfl, hhr⟩ := q3.at hx
        have hrm := List.mem_of_getElem? hr
        have hih : i < hs.length := (List.getElem?_eq_some_iff.mp hr).1
        have t5 : TSq K H3 H' := SameT.tsq2 (T := tabP K "least_row_taken") s5 hps3
        have hh5 : House K H' ar r.1 r.2.1 r.2.2 := House.monoQ (House.monoQ hhr t3) t5
        have hr1 := (hwf r hrm).1
        have hr2 := (hwf r hrm).2
        have hr1' : r.1 = ((p + hs.length : Nat) : Int) := by rw [Int.natCast_add]; exact hr1
        rw [hr1'] at hh5
        have hr2' : Wf ((p + hs.length : Nat) : Int) r.2.1 r.2.2 := by rw [Int.natCast_add]; exact hr2
        have hBe : ((p + hs.length + 1 : Nat) : Int) = (p : Int) + rs.length + 1 := by omega
        walk_at "rd"
        refine ⟨ar, l1, p + hs.length, r.2.1.length, md80 d + 2, p + hs.length + 1, r.2.1, r.2.2, zs, blR p rs, G80 (A80 hs) p ((p : Int) + rs.length) r.2.2, rfl, hh5, hr2', rfl, h4 r hrm, s5.lsq hps3 (SqL.of hl1), hro3.mono (SameT.tk s5 hps3), by rw [blR_len]; omega, by omega, by omega, fun v hv => ?_, hL5, G80.start, fun s t x v hg hv => hg.step hS.s hv, fun s s' t h1 h2 => G80.one h1 h2, fun ks f res v H6 s6 hL6 hBs hcl hv h1 h2 => ?_⟩
        . obtain ⟨j, hj, e⟩ := List.mem_iff_getElem.mp hv
          rcases blR_cases (show (blR p rs)[j]? = some (some v) by rw [List.getElem?_eq_getElem hj, e]) with ⟨hx, rfl⟩ | ⟨i', r', rfl, hi', hr', rfl⟩
          . refine ⟨by simp, fun z hz => ?_⟩
            rw [List.mem_singleton.mp hz]; omega
          . have := hS.m i' r' hr'
            refine ⟨by simp; omega, ?_⟩
            exact (N80.nst_ca (by omega) (by omega) (hS.s i' r' hr').n).dg (by omega) hBe (by omega)
        . obtain ⟨a1, a2⟩ := hS.one (by omega) hBe hBs hcl h1 h2 (j := i) (by omega) (a80_at hr) (h4 r hrm)
          obtain ⟨ps5, hps5⟩ := hL5.is
          refine (hPc _ _ _ _).mpr ⟨s5.trans s6, hL6, ⟨rs' ++ [res], by rw [List.length_append, e5]; rfl, (hro5.mono (SameT.tk s6 hps5)).put ?_, fun j res' hj => ?_⟩, _, rfl⟩
          . rcases hv with e | ⟨r', t', e1, e2, e3⟩
            . exact .inl e
            . exact .inr ⟨r', t', e1, e2, e3⟩
          . by_cases hji : j < rs'.length
            . rw [List.getElem?_append_left hji] at hj
              exact hone j res' hj
            . rw [List.getElem?_append_right (by omega)] at hj
              have h0 : j - rs'.length = 0 := by
                have := (List.getElem?_eq_some_iff.mp hj).1
                simpa using this
              rw [h0] at hj
              have hj : res = res' := by simpa using hj
              subst hj
              have : j = i := by omega
              subst this
              exact ⟨a1, a2⟩
      . obtain ⟨s5, hL5, ⟨rs', e5, hro5, hone⟩, ov, rfl⟩ := (hPc _ _ _ _).mp h'
        have sD := Same.new hD (o := .lst us)
        rw [hxl] at e5
        have e6 : rs'.length = rs.length := by omega
        refine (hPv _ _ _).mpr ⟨D, us, rs', _, _, (s23.trans s5).trans (SameT.of sD), hL5.mono sD, upd_same, hro5.mono (TK.of sD), e5, ⟨fun j t ht => ?_, fun j row hj ha hc => ?_, fun j t ht => ?_⟩, rfl⟩
        . rw [e6]; exact ((hone j _ ht).1 t rfl).1
        . rw [e6] at ha hc
          have hjl : j < rs'.length := hj
          obtain ⟨t, b1, b2⟩ := (hone j rs'[j] (List.getElem?_eq_getElem hjl)).2 row ha hc
          exact ⟨t, by rw [List.getElem?_eq_getElem hjl, b1], b2⟩
        . exact ((hone j _ ht).1 t rfl).2
    . obtain ⟨a, ys, rs, o2, o3, s2, hL2, ha2, hro2, hrl, hS, rfl⟩ := (hPv _ _ _).mp h2
      walk_at "rd"
      exact k a ys rs H2 s2 hL2 ha2 hro2 hrl hS
def sp_draw (K : PySem.W.Frag) : Sp := fun vs H Q _ => ∃ (a : Addr) (ns : List Int) (k m : Int), vs = [.ref a, .int k, .int m] /\ SqL K H a (ns.map V.int) /\ 0 <= k /\ k <= 1000000 /\ 0 < m /\ ∀ x, 0 <= x -> x < m -> Q (.int x) H
theorem ok__law_draw {f : Addr} {fd : FuncData} (F : Fun K "_law_draw" "_law_draw" s__law_draw f fd) (T : Txt mg)
    : FnOk P w K mg base CX0 1 f fd ["flow", "k", "many"] (sp_draw K) := by
  refine F.ok sc__law_draw (fun vs H Q E h => ?_) (fun cdv A outer s H vs Q E hr h => ?_)
  . obtain ⟨a, ns, k, m, rfl, _⟩ := h; rfl
  . obtain ⟨a, ns, k, m, rfl, hs, hk0, hk1, hm, q⟩ := h
    have hl := line1000
    refine ⟨_, (pss_cons (ps_if (ptT (pt_cmpR (opD0 op_lt) (pvD 1) (pe_callB (lenD call_len_seq) (by rfl) T.len PySem.boot_len (pa_cons (pvD 0) pa_nil)) (nomark _)))
      (pss_one (ps_ret (pe_op (opD op_mod) (pe_ixA (ixLD ix_list) (pvD 0) (pvD 1)) (pvD 2))))
      pss_nil)
      (pss_cons (ps_if (ptT (pt_cmpR (opE op_eq) (pe_callB (lenD call_len_seq) (by rfl) T.len PySem.boot_len (pa_cons (pvD 0) pa_nil)) pe_int (nomark _)))
      (pss_one (ps_ret pe_int))
      pss_nil)
      (pss_cons (ps_setL (i := 3) sc__law_draw.nd (pe_op (opD op_mod) (pe_ixA (ixLD ix_list) (pvD 0) (pe_op (opD op_mod) (pvD 1) (pe_callB (lenD call_len_seq) (by rfl) T.len PySem.boot_len (pa_cons (pvD 0) pa_nil)))) pe_int))
      (pss_cons (ps_setL (i := 4) sc__law_draw.nd (pe_op (opD op_mod) (pe_op (opD op_mul) (pe_op (opD0 op_add) (pe_op (opD0 op_add) (pvD 3) (pe_op (opD op_mul) (pvD 1) (pvD 1))) pe_int) pe_int) pe_int))
      (pss_one (ps_ret (pe_op (opD op_mod) (pe_op (opD op_mod) (pe_op (opD op_mul) (pvD 4) (pvD 4)) pe_int) (pvD 2)))))))), ?_⟩
    walk_at "rd"
    refine ⟨_, .inl hs, ?_⟩
    rw [List.length_map]
    refine ite2 (fun hlt => ?_) (fun hge => ?_)
    . have hk' : k.toNat < ns.length := by omega
      refine ⟨_, hs, _, atI_int hk0 (v := ns[k.toNat]) (by simp [hk']), ?_⟩
      walk_at "rd"
      exact ⟨hm, q _ (Int.emod_nonneg _ (by omega)) (Int.emod_lt_of_pos _ hm)⟩
    . refine ⟨_, .inl hs, ?_⟩
      rw [List.length_map]
      refine ite2 (fun h0 => q 0 (by omega) hm) (fun h0 => ?_)
      have hpos : 0 < (ns.length : Int) := by omega
      have e0 := Int.emod_nonneg k (show (ns.length : Int) ≠ 0 by omega)
      have e1 := Int.emod_lt_of_pos k hpos
      have hk' : (k % (ns.length : Int)).toNat < ns.length := by omega
      refine ⟨_, .inl hs, by rw [List.length_map]; exact hpos, _, hs, _, by rw [List.length_map]; exact atI_int e0 (v := ns[(k % (ns.length : Int)).toNat]) (by simp [hk']), ?_⟩
      walk_at "rd"
      refine ⟨by decide, .inl ⟨by omega, by omega⟩, ?_⟩
      generalize ns[(k % (ns.length : Int)).toNat] % 2147483647 + k * k + 1 = z
      have m0 := Int.emod_nonneg (z * 48271) (show (2147483647 : Int) ≠ 0 by decide)
      have m1 := Int.emod_lt_of_pos (z * 48271) (show (0 : Int) < 2147483647 by decide)
      refine ⟨.inr ⟨by decide, by decide⟩, by decide, .inl ⟨by omega, by omega⟩, by decide, hm, ?_⟩
      exact q _ (Int.emod_nonneg _ (by omega)) (Int.emod_lt_of_pos _ hm)
def sp_hby79 (K : PySem.W.Frag) : Sp := fun vs H Q _ => ∃ (a : Addr) (ns : List Int) (c : Int) (L : Nat), vs = [.ref a, .int c, .int L] /\ SqL K H a (ns.map V.int) /\ 0 <= c /\ c <= 1000 /\ 1 <= L /\ L <= 6 /\ ∀ h marks ways H', Same H H' -> House K H' h L marks ways -> Wf L marks ways -> marks.length <= 4 -> Q (.ref h) H'
theorem ok__law_house_by {f : Addr} {fd : FuncData} (F : Fun K "_law_house_by" "_law_house_by" s__law_house_by f fd) (T : Txt mg)
    {f__law_draw : Addr} {fd__law_draw : FuncData} (q__law_draw : Cal P w K mg base CX0 1 "_law_draw" s__law_draw ["flow", "k", "many"] (sp_draw K) f__law_draw fd__law_draw)
    : FnOk P w K mg base CX0 2 f fd ["flow", "at", "letters"] (sp_hby79 K) := by
  refine F.ok sc__law_house_by (fun vs H Q E h => ?_) (fun cdv A outer s H vs Q E hr h => ?_)
  . obtain ⟨a, ns, c, L, rfl, _⟩ := h; rfl
  . obtain ⟨a, ns, c, L, rfl, hs, c0, c1, hL1, hL6, k⟩ := h
    have hl := line1000
    refine ⟨_, (pss_cons (ps_set (i := 3) sc__law_house_by.nd rfl (Or.inr rfl) (pe_op (opD0 op_add) pe_int (pe_callQ q__law_draw hr.d pass0 (pa_cons (pvD 0) (pa_cons (pvD 1) (pa_cons pe_int pa_nil))))))
      (pss_cons (ps_setL (i := 4) sc__law_house_by.nd (pe_lst pa_nil))
      (pss_cons (ps_setL (i := 5) sc__law_house_by.nd (pe_lst pa_nil))
      (pss_cons (ps_for PassesOwn.never rfl (pi_range1 rfl T.range (pa_cons (pvD 3) pa_nil)) (pg_name (i := 6) sc__law_house_by.nd rfl (Or.inl rfl))
      (pss_cons (ps_set (i := 7) sc__law_house_by.nd rfl (Or.inr rfl) (pe_op (opD0 op_add) (pe_op (opD0 op_add) (pvD 1) pe_int) (pe_op (opD op_mul) (pvD 6) pe_int)))
      (pss_cons (ps_setL (i := 8) sc__law_house_by.nd (pe_callQ q__law_draw hr.d pass0 (pa_cons (pvD 0) (pa_cons (pvD 7) (pa_cons pe_int pa_nil)))))
      (pss_cut (ps_if (ptT (pt_cmpR (opE op_eq) (pe_op (opD op_mod) (pvD 8) pe_int) pe_int (nomark _)))
      (pss_one (ps_expr (pe_bm PySem.F.plainAttrs_list PySem.F.slot_list_append PySem.F.type_list_append mt_append (pvD 4) (pa_cons pe_int pa_nil))))
      (pss_one (ps_expr (pe_bm PySem.F.plainAttrs_list PySem.F.slot_list_append PySem.F.type_list_append mt_append (pvD 4) (pa_cons (pe_op (opD0 op_add) pe_int (pe_op (opD op_fdiv) (pvD 8) pe_int)) pa_nil)))))
      (pss_one (ps_expr (pe_bm PySem.F.plainAttrs_list PySem.F.slot_list_append PySem.F.type_list_append mt_append (pvD 5) (pa_cons (pe_callTy call_tuple_L rfl T.tuple PyProof.Rows.boot_tuple (pa_cons (pe_comp rfl (blk_mk rfl) (cp := c__law_house_by_3) ⟨⟨rfl, rfl⟩, ⟨⟨rfl, rfl⟩, ⟨⟨rfl, rfl⟩, True.intro⟩⟩⟩ (pi_range1 rfl T.range (pa_cons (pvD 2) pa_nil)) (fun _ _ _ _ => (pg_name (i := 0) nd_c__law_house_by_3 rfl (Or.inl rfl))) (fun _ _ _ _ => pf_nil) (fun _ _ _ _ => (pe_callQ q__law_draw hr.d pass0 (pa_cons (pvD 1) (pa_cons (pe_op (opD0 op_add) (pe_op (opD0 op_add) (pvD 3) pe_int) (pvD 0)) (pa_cons (pvD 2) pa_nil)))))) pa_nil)) pa_nil))))))))
      (pss_one (ps_ret (pe_tup (pa_cons (pvD 2) (pa_cons (pe_callTy call_tuple_L rfl T.tuple PyProof.Rows.boot_tuple (pa_cons (pvD 4) pa_nil)) (pa_cons (pe_callTy call_tuple_L rfl T.tuple PyProof.Rows.boot_tuple (pa_cons (pvD 5) pa_nil)) pa_nil)))))))))), ?_⟩
    walk_at "rd"
    refine ⟨a, ns, c, 4, rfl, hs, c0, by omega, by omega, fun r0 r1 r2 => ?_⟩
    obtain ⟨n, hn, hn1, hn4⟩ : ∃ n : Nat, 1 + r0 = (n : Int) /\ 1 <= n /\ n <= 4 := ⟨(1 + r0).toNat, by omega, by omega, by omega⟩
    refine ⟨r0, rfl, ?_⟩
    rw [hn]
    refine ⟨by omega, fun pm hpm => ⟨by omega, fun pw hpw => ⟨by omega, by omega, ?_⟩⟩⟩
    rw [Int.toNat_natCast]
    have hpp : pw ≠ pm := (none_of_upd hpw).2
    have hpw0 : H pw = none := (none_of_upd hpw).1
    obtain ⟨Pv, hPv⟩ : ∃ Pv : Nat -> St -> Hp -> Prop, ∀ i σ' H', Pv i σ' H' ↔ (∃ (ms : List Int) (ways : List (List Int)) (o1 o2 o3 : Option V), Same H H' /\ H' pm = some (.lst (ms.map V.int)) /\ TupsL K H' pw ways /\ ms.length = i /\ ways.length = i /\ (∀ m ∈ ms, 0 <= m /\ m <= 1000000000) /\ (∀ row ∈ ways, row.length = L /\ ∀ x ∈ row, 0 <= x /\ x < (n : Int)) /\ σ' = [some (.ref a), some (.int c), some (.int L), some (.int n), some (.ref pm), some (.ref pw), o1, o2, o3]) := ⟨_, fun _ _ _ => Iff.rfl⟩
    refine forR Pv ((hPv _ _ _).mpr ⟨[], [], none, none, none, (Same.new hpm).newT hpw, Same.new hpw _ _ upd_same, TupsL.nil upd_same, rfl, rfl, by simp, by simp, rfl⟩) (fun i σ2 H2 hi h2 => ?_) (fun σ2 H2 h2 => ?_)
    . obtain ⟨ms, ways, o1, o2, o3, s2, hM, hW, hml, hwl, hmr, hwr, rfl⟩ := (hPv _ _ _).mp h2
      rw [Int.zero_add]
      walk_at "rd"
      refine ⟨.inr ⟨by omega, by omega⟩, ?_⟩
      have hf : 0 <= c + 1 + (i : Int) * 7 /\ c + 1 + (i : Int) * 7 <= 2000 := by omega
      generalize c + 1 + (i : Int) * 7 = fi at hf ⊢
      refine ⟨a, ns, fi, 4000000000, rfl, s2.seq hs, by omega, by omega, by omega, fun mk m0 m1 => ?_⟩
      obtain ⟨R, hR⟩ : ∃ R : St -> Hp -> Prop, ∀ σ' H', R σ' H' ↔ (∃ m : Int, 0 <= m /\ m <= 1000000000 /\ H' = upd H2 pm (.lst ((ms ++ [m]).map V.int)) /\ σ' = [some (.ref a), some (.int c), some (.int L), some (.int n), some (.ref pm), some (.ref pw), some (.int i), some (.int fi), some (.int mk)]) := ⟨_, fun _ _ => Iff.rfl⟩
      refine ⟨R, ?_, fun σ3 H3 h3 => ?_⟩
      . walk_at "rd"
        refine ⟨by decide, ite2 (fun _ => ?_) (fun _ => ?_)⟩
        . refine ⟨.inl ⟨rfl, _, SqL.of hM⟩, _, hM, by rw [List.length_map]; omega, (hR _ _).mpr ⟨0, by omega, by omega, by simp, rfl⟩⟩
        . refine ⟨.inl ⟨rfl, _, SqL.of hM⟩, ⟨by decide, by decide⟩, _, hM, by rw [List.length_map]; omega, (hR _ _).mpr ⟨1 + mk / 4, by omega, by omega, by simp, rfl⟩⟩
      obtain ⟨m, mm0, mm1, rfl, rfl⟩ := (hR _ _).mp h3
      have s3 : Same H (upd H2 pm (.lst ((ms ++ [m]).map V.int))) := s2.over hpm
      have hW3 := hW.off hM (ys := (ms ++ [m]).map V.int) hpp
      have hM3 : upd H2 pm (.lst ((ms ++ [m]).map V.int)) pm = some (.lst ((ms ++ [m]).map V.int)) := upd_same
      generalize upd H2 pm (.lst ((ms ++ [m]).map V.int)) = H3 at s3 hW3 hM3
      obtain ⟨us, hu1, _⟩ := id hW3
      walk_at "rd"
      refine ⟨.inl ⟨rfl, _, SqL.of hu1⟩, by omega, by omega, ?_⟩
      rw [Int.toNat_natCast]
      obtain ⟨Pc, hPc⟩ : ∃ Pc : Nat -> List V -> St -> Hp -> Prop, ∀ j ys σ4 H4, Pc j ys σ4 H4 ↔ (H4 = H3 /\ ∃ (row : List Int) (o : Option V), ys = row.map V.int /\ row.length = j /\ (∀ x ∈ row, 0 <= x /\ x < (n : Int)) /\ σ4 = [o, some (.ref a), some (.int n), some (.int fi)]) := ⟨_, fun _ _ _ _ => Iff.rfl⟩
      refine compR Pc ((hPc _ _ _ _).mpr ⟨rfl, [], none, rfl, rfl, (fun x hx => by cases hx), rfl⟩) (by omega) (fun j ys σ4 H4 _ h4 => ?_) (fun j ys σ4 H4 hj h4 => ?_) (fun ys σ4 H4 h4 D hD => ?_)
      . obtain ⟨_, row, o, rfl, hrl, _⟩ := (hPc _ _ _ _).mp h4
        rw [List.length_map]; omega
      . obtain ⟨rfl, row, o, rfl, hrl, hrr, rfl⟩ := (hPc _ _ _ _).mp h4
        rw [Int.zero_add]
        walk_at "rd"
        refine ⟨a, ns, fi + 1 + j, n, rfl, s3.seq hs, by omega, by omega, by omega, fun x x0 x1 => (hPc _ _ _ _).mpr ⟨rfl, row ++ [x], _, by simp, by simp [hrl], fun z hz' => ?_, rfl⟩⟩
        rcases List.mem_append.mp hz' with h | h
        . exact hrr z h
        . rw [List.mem_singleton.mp h]; exact ⟨x0, x1⟩
      obtain ⟨rfl, row, o4, rfl, hrl, hrr, rfl⟩ := (hPc _ _ _ _).mp h4
      refine ⟨D, rfl, _, .inl ⟨SqL.of upd_same, fun t ht => ?_⟩⟩
      have sDt := (Same.new hD (o := .lst (row.map V.int))).newT ht (o := .tup (row.map V.int))
      obtain ⟨xs, e1, e2, e3⟩ := (hW3.mono sDt).push (w := row) (t := t) (SqT.of upd_same)
      refine ⟨xs, e1, by omega, (hPv _ _ _).mpr ⟨ms ++ [m], ways ++ [row], _, _, _, (s3.trans sDt).over hpw0, by rw [upd_ne (Ne.symm hpp)]; exact sDt _ _ hM3, e3, by simp [hml], by simp [hwl], fun z hz' => ?_, fun r hr' => ?_, rfl⟩⟩
      . rcases List.mem_append.mp hz' with h | h
        . exact hmr z h
        . rw [List.mem_singleton.mp h]; exact ⟨mm0, mm1⟩
      . rcases List.mem_append.mp hr' with h | h
        . exact hwr r h
        . rw [List.mem_singleton.mp h]; exact ⟨hrl, hrr⟩
    . obtain ⟨ms, ways, o1, o2, o3, s2, hM, hW, hml, hwl, hmr, hwr, rfl⟩ := (hPv _ _ _).mp h2
      walk_at "rd"
      refine ⟨_, .inl ⟨SqL.of hM, fun t1 ht1 => ?_⟩⟩
      obtain ⟨ys, hy1, hrw⟩ := (hW.mono (Same.new ht1 (o := .tup (ms.map V.int)))).rows
      refine ⟨ys, .inl ⟨SqL.of hy1, fun t2 ht2 => ⟨by omega, fun hh hhh => ?_⟩⟩⟩
      exact k hh ms ways _ (((s2.newT ht1).newT ht2).newT hhh) ⟨t1, t2, SqT.of upd_same, ((Same.new ht2).newT hhh).seqT (SqT.of upd_same), (hrw t2 ht2).mono (Same.new hhh)⟩
        ⟨by omega, by omega, by omega, by omega, by omega, fun row hr' => ⟨by have := (hwr row hr').1; omega, fun x hx => by have := (hwr row hr').2 x hx; omega⟩, hmr⟩ (by omega)
def sp_wby79 (K : PySem.W.Frag) : Sp := fun vs H Q _ => ∃ (a : Addr) (ns : List Int) (p h : Nat), vs = [.ref a, .int p, .int h] /\ SqL K H a (ns.map V.int) /\ 1 <= p /\ 1 <= h /\ h <= 3 /\ p + h <= 6 /\ ∀ w xs hs H', Same H H' -> WorksH K H' w p xs hs -> hs.length = h -> WfW (p + h) hs -> (∀ r ∈ hs, r.2.1.length <= 4) -> Q (.ref w) H'
theorem ok__law_works_by {f : Addr} {fd : FuncData} (F : Fun K "_law_works_by" "_law_works_by" s__law_works_by f fd) (T : Txt mg)
    {f__law_house_by : Addr} {fd__law_house_by : FuncData} (q__law_house_by : Cal P w K mg base CX0 2 "_law_house_by" s__law_house_by ["flow", "at", "letters"] (sp_hby79 K) f__law_house_by fd__law_house_by)
    : FnOk P w K mg base CX0 3 f fd ["flow", "plain", "helpers"] (sp_wby79 K) := by
  refine F.ok sc__law_works_by (fun vs H Q E h => ?_) (fun cdv A outer s H vs Q E hr h => ?_)
  . obtain ⟨a, ns, p, h, rfl, _⟩ := h; rfl
  . obtain ⟨a, ns, p, h, rfl, hs, hp1, hh1, hh3, hph, k⟩ := h
    have hl := line1000
    refine ⟨_, (pss_one (ps_ret (pe_tup (pa_cons (pvD 1) (pa_cons (pe_callTy call_tuple_L rfl T.tuple PyProof.Rows.boot_tuple (pa_cons (pe_comp rfl (blk_mk rfl) (cp := c__law_works_by_3) ⟨⟨rfl, rfl⟩, ⟨⟨rfl, rfl⟩, ⟨⟨rfl, rfl⟩, True.intro⟩⟩⟩ (pi_range1 rfl T.range (pa_cons (pvD 2) pa_nil)) (fun _ _ _ _ => (pg_name (i := 0) nd_c__law_works_by_3 rfl (Or.inl rfl))) (fun _ _ _ _ => pf_nil) (fun _ _ _ _ => (pe_callQ q__law_house_by hr.d pass0 (pa_cons (pvD 1) (pa_cons (pe_op (opD op_mul) pe_int (pvD 0)) (pa_cons (pe_op (opD0 op_add) (pvD 2) (pvD 3)) pa_nil)))))) pa_nil)) pa_nil))))), ?_⟩
    walk_at "rd"
    refine ⟨by omega, by omega, ?_⟩
    rw [Int.toNat_natCast]
    obtain ⟨Pc, hPc⟩ : ∃ Pc : Nat -> List V -> St -> Hp -> Prop, ∀ j ys σ4 H4, Pc j ys σ4 H4 ↔ (∃ (hs : List Hus) (o : Option V), Same H H4 /\ HsL K H4 ys hs /\ hs.length = j /\ WfW (p + h) hs /\ (∀ r ∈ hs, r.2.1.length <= 4) /\ σ4 = [o, some (.ref a), some (.int p), some (.int h)]) := ⟨_, fun _ _ _ _ => Iff.rfl⟩
    refine compR Pc ((hPc _ _ _ _).mpr ⟨[], none, Same.refl _, HsL.nil, rfl, fun r hr' => (by cases hr'), fun r hr' => (by cases hr'), rfl⟩) (by omega) (fun j ys σ4 H4 _ h4 => ?_) (fun j ys σ4 H4 hj h4 => ?_) (fun ys σ4 H4 h4 D hD => ?_)
    . obtain ⟨hs', o, _, hH, hlen, _⟩ := (hPc _ _ _ _).mp h4
      rw [hH.1]; omega
    . obtain ⟨hs', o, s4, hH, hlen, hwf, h4', rfl⟩ := (hPc _ _ _ _).mp h4
      rw [Int.zero_add]
      walk_at "rd"
      refine ⟨.inl ⟨by omega, by omega⟩, a, ns, 29 * j, p + h, by simp, s4.seq hs, by omega, by omega, by omega, by omega, fun hh marks ways H5 s5 hhh wf hm4 => (hPc _ _ _ _).mpr ⟨hs' ++ [(((p + h : Nat) : Int), marks, ways)], _, s4.trans s5, (hH.mono s5).snoc hhh, by simp [hlen], fun r hr' => ?_, fun r hr' => ?_, rfl⟩⟩
      . rcases List.mem_append.mp hr' with h | h
        . exact hwf r h
        . rw [List.mem_singleton.mp h]; exact ⟨by simp, by simpa using wf⟩
      . rcases List.mem_append.mp hr' with h | h
        . exact h4' r h
        . rw [List.mem_singleton.mp h]; exact hm4
    . obtain ⟨hs', o, s4, hH, hlen, hwf, h4', rfl⟩ := (hPc _ _ _ _).mp h4
      refine ⟨D, rfl, _, .inl ⟨SqL.of upd_same, fun t ht => ⟨by omega, fun w' hw' => ?_⟩⟩⟩
      have s5 := ((Same.new hD (o := .lst ys)).newT ht (o := .tup ys)).newT hw' (o := .tup [.int p, .ref t])
      exact k w' ys hs' _ (s4.trans s5) ⟨t, SqT.of upd_same, (Same.new hw').seqT (SqT.of upd_same), hH.mono s5⟩ hlen hwf h4'
def sp_ans79 (K : PySem.W.Frag) : Sp := fun vs H Q _ => ∃ (h a : Addr) (L : Int) (marks : List Int) (ways : List (List Int)) (ws : List Int), vs = [.ref h, .ref a] /\ House K H h L marks ways /\ Wf L marks ways /\ H a = some (.lst (ws.map V.int)) /\ isW L ws = true /\ Q (.int (markW marks (walkW ways ws))) H
theorem ok__law_answer {f : Addr} {fd : FuncData} (F : Fun K "_law_answer" "_law_answer" s__law_answer f fd) (T : Txt mg)
    : FnOk P w K mg base CX0 1 f fd ["house", "word"] (sp_ans79 K) := by
  refine F.ok sc__law_answer (fun vs H Q E h => ?_) (fun cdv A outer s H vs Q E hr h => ?_)
  . obtain ⟨h, a, L, marks, ways, ws, rfl, _⟩ := h; rfl
  . obtain ⟨h, a, L, marks, ways, ws, rfl, hh, wf, ha, hv, k⟩ := h
    have hn1 := wf.n1
    refine ⟨_, (pss_cons (ps_setL (i := 2) sc__law_answer.nd pe_int)
      (pss_cons (ps_for PassesOwn.never rfl (pi_list (pvD 1)) (pg_name (i := 3) sc__law_answer.nd rfl (Or.inl rfl))
      (pss_one (ps_setL (i := 2) sc__law_answer.nd (pe_ixA (ixTD ix_tup) (pe_ixA (ixTD ix_tup) (pe_ixA (ixTD ix_tup) (pvD 0) pe_int) (pvD 2)) (pvD 3)))))
      (pss_one (ps_ret (pe_ixA (ixTD ix_tup) (pe_ixA (ixTD ix_tup) (pvD 0) pe_int) (pvD 2)))))), ?_⟩
    walk_at "rd"
    refine ⟨⟨_, SqL.of ha⟩, forL (xs := ws.map V.int) (fun i σ2 H2 => H2 = H /\ ∃ o, σ2 = [some (.ref h), some (.ref a), some (.int (walkR ways 0 (ws.take i))), o]) ⟨rfl, none, by simp [walkR]⟩ (fun i σ2 H2 _ h => by rw [h.1]; exact SqL.of ha) (fun i x σ2 H2 hx h => ?_) (fun σ2 H2 h => ?_)⟩
    . obtain ⟨rfl, o, rfl⟩ := h
      obtain ⟨n, hn, rfl⟩ := get_mapI hx
      have hin := isW_iff.mp hv n (List.mem_of_getElem? hn)
      have hwk := walkR_in wf (ws.take i) (isW_take hv i) (show (0 : Int) <= 0 by omega) (by omega)
      obtain ⟨row, g, r1, r2, r3, r4, r5⟩ := wf.step hwk.1 hwk.2 hin.1 hin.2
      obtain ⟨m, wv, q1, q2, q3⟩ := id hh
      obtain ⟨xs, t, z1, z2, z3⟩ := q3.atZ hwk.1 r1
      walk_at "rd"
      refine ⟨_, q1, _, rfl, ?_⟩
      walk_at "rd"
      refine ⟨_, z1, _, z2, ?_⟩
      walk_at "rd"
      refine ⟨_, z3, _, atI_int hin.1 r2, ?_⟩
      rw [walkR_take hn, r3]
      exact ⟨rfl, _, rfl⟩
    . obtain ⟨rfl, o, rfl⟩ := h
      rw [List.length_map, List.take_length]
      obtain ⟨m, wv, q1, q2, q3⟩ := id hh
      have wk := walkR_in wf ws hv (show (0 : Int) <= 0 by omega) (by omega)
      walk_at "rd"
      exact ⟨_, q1, _, rfl, m, rfl, _, q2, _, markW_at wk.1 wk.2, k⟩
def sp_rg80 (K : PySem.W.Frag) : Sp := fun vs H Q _ => ∃ (a : Addr) (ws : List Int), vs = [.ref a] /\ H a = some (.tup (ws.map V.int)) /\ Q (.bl true) H
theorem ok__law_row_good {f : Addr} {fd : FuncData} (F : Fun K "_law_row_good" "_law_row_good" s__law_row_good f fd) (T : Txt mg)
    {f__law_whole : Addr} {fd__law_whole : FuncData} (q__law_whole : Cal P w K mg base CX0 1 "_law_whole" s__law_whole ["found"] (sp_whole) f__law_whole fd__law_whole)
    : FnOk P w K mg base CX0 2 f fd ["found"] (sp_rg80 K) := by
  refine F.ok sc__law_row_good (fun vs H Q E h => ?_) (fun cdv A outer s H vs Q E hr h => ?_)
  . obtain ⟨a, ws, rfl, _⟩ := h; rfl
  . obtain ⟨a, ws, rfl, ha, k⟩ := h
    have hl := line1000
    refine ⟨_, (pss_cons (ps_if (pt_not (ptB (pt_val (pe_callB call_isinstW rfl T.isinstance PyProof.Rows.boot_isinstance (pa_cons (pvD 0) (pa_cons (pe_bltn (v := .ty "tuple") rfl T.tuple PyProof.Rows.boot_tuple rfl) pa_nil))))))
      (pss_one (ps_ret pe_bl))
      pss_nil)
      (pss_cons (ps_for PassesOwn.never rfl (pi_tup (pvD 0)) (pg_name (i := 1) sc__law_row_good.nd rfl (Or.inl rfl))
      (pss_one (ps_if (pt_not (ptB (pt_val (pe_callQ q__law_whole hr.d pass0 (pa_cons (pvD 1) pa_nil)))))
      (pss_one (ps_ret pe_bl))
      pss_nil)))
      (pss_one (ps_ret pe_bl)))), ?_⟩
    walk_at "rd"
    refine ⟨_, _, .tup (SqT.of ha), rel_ty, _, kit_self, ?_⟩
    rw [if_neg (by decide)]
    refine ⟨⟨_, SqT.of ha⟩, ?_⟩
    obtain ⟨Pw, hPw⟩ : ∃ Pv : Nat -> St -> Hp -> Prop, ∀ i σ' H', Pv i σ' H' ↔ (∃ o2 : Option V, H' = H /\ σ' = [some (.ref a), o2]) := ⟨_, fun _ _ _ => Iff.rfl⟩
    refine forT (xs := ws.map V.int) Pw ((hPw _ _ _).mpr ⟨_, rfl, rfl⟩) (fun i σ' H' _ h' => by obtain ⟨_, rfl, _⟩ := (hPw _ _ _).mp h'; exact SqT.of ha) (fun i x σ6 H6 hx h6' => ?_) (fun σ6 H6 h6' => ?_)
    . obtain ⟨o2, rfl, rfl⟩ := (hPw _ _ _).mp h6'
      obtain ⟨y, hy, rfl⟩ := get_mapI hx
      walk_at "rd"
      refine ⟨y, rfl, _, rfl, ?_⟩
      rw [if_neg (by decide)]
      exact (hPw _ _ _).mpr ⟨_, rfl, rfl⟩
    . obtain ⟨o2, rfl, rfl⟩ := (hPw _ _ _).mp h6'
      walk_at "rd"
      exact k
theorem lex_at : ∀ {xs ys : List Int} {i : Nat} {x y : Int}, xs.take i = ys.take i -> xs[i]? = some x -> ys[i]? = some y -> x ≠ y -> HT.lexLt xs ys = decide (x < y)
  | [], _, _, _, _, _, h, _, _ => by simp at h
  | _ :: _, [], _, _, _, _, _, h, _ => by simp at h
  | a :: xs, b :: ys, 0, x, y, _, hx, hy, hn => by
    have hx : a = x := by simpa using hx
    have hy : b = y := by simpa using hy
    subst hx hy
    rw [HT.lexLt_cons, if_neg hn]
  | a :: xs, b :: ys, i + 1, x, y, h, hx, hy, hn => by
    rw [List.take_succ_cons, List.take_succ_cons] at h
    obtain ⟨e1, e2⟩ := List.cons.inj h
    rw [HT.lexLt_cons, if_pos e1]
    exact lex_at e2 (by simpa using hx) (by simpa using hy) hn
def sp_ah80 (K : PySem.W.Frag) : Sp := fun vs H Q _ => ∃ (a b : Addr) (xs ys : List Int), vs = [.ref a, .ref b] /\ SqL K H a (xs.map V.int) /\ H b = some (.tup (ys.map V.int)) /\ xs.length <= 10000 /\ Q (.bl (lessW xs ys)) H
theorem ok__law_ahead {f : Addr} {fd : FuncData} (F : Fun K "_law_ahead" "_law_ahead" s__law_ahead f fd) (T : Txt mg)
    : FnOk P w K mg base CX0 1 f fd ["one", "other"] (sp_ah80 K) := by
  refine F.ok sc__law_ahead (fun vs H Q E h => ?_) (fun cdv A outer s H vs Q E hr h => ?_)
  . obtain ⟨a, b, xs, ys, rfl, _⟩ := h; rfl
  . obtain ⟨a, b, xs, ys, rfl, ha, hb, hxl, k⟩ := h
    have hl := line1000
    refine ⟨_, (pss_cons (ps_if (ptT (pt_cmpR (opN op_ne) (pe_callB (lenD call_len_seq) (by rfl) T.len PySem.boot_len (pa_cons (pvD 0) pa_nil)) (pe_callB (lenD call_len_seq) (by rfl) T.len PySem.boot_len (pa_cons (pvD 1) pa_nil)) (nomark _)))
      (pss_one (ps_ret (pe_cmpR (opD0 op_lt) (pe_callB (lenD call_len_seq) (by rfl) T.len PySem.boot_len (pa_cons (pvD 0) pa_nil)) (pe_callB (lenD call_len_seq) (by rfl) T.len PySem.boot_len (pa_cons (pvD 1) pa_nil)) (nomark _))))
      pss_nil)
      (pss_cons (ps_for PassesOwn.never rfl (pi_range1 rfl T.range (pa_cons (pe_callB (lenD call_len_seq) (by rfl) T.len PySem.boot_len (pa_cons (pvD 0) pa_nil)) pa_nil)) (pg_name (i := 2) sc__law_ahead.nd rfl (Or.inl rfl))
      (pss_one (ps_if (ptT (pt_cmpR (opN op_ne) (pe_ixA (ixLD ix_list) (pvD 0) (pvD 2)) (pe_ixA (ixTD ix_tup) (pvD 1) (pvD 2)) (nomark _)))
      (pss_one (ps_ret (pe_cmpR (opD0 op_lt) (pe_ixA (ixLD ix_list) (pvD 0) (pvD 2)) (pe_ixA (ixTD ix_tup) (pvD 1) (pvD 2)) (nomark _))))
      pss_nil)))
      (pss_one (ps_ret pe_bl)))), ?_⟩
    walk_at "rd"
    refine ⟨_, .inl ha, _, .inr (SqT.of hb), ?_⟩
    rw [List.length_map, List.length_map]
    by_cases he : xs.length = ys.length
    rotate_left
    . rw [if_pos (by simp; omega)]
      refine ⟨_, .inl ha, _, .inr (SqT.of hb), ?_⟩
      have : decide (((xs.map V.int).length : Int) < ((ys.map V.int).length : Int)) = lessW xs ys := by
        unfold lessW
        rw [if_neg he, List.length_map, List.length_map, Bool.eq_iff_iff, decide_eq_true_eq, decide_eq_true_eq]; omega
      rw [this]; exact k
    rw [if_neg (by simp; omega)]
    refine ⟨_, .inl ha, by omega, by rw [List.length_map]; omega, ?_⟩
    rw [Int.toNat_natCast, List.length_map]
    obtain ⟨Pv, hPv⟩ : ∃ Pv : Nat -> St -> Hp -> Prop, ∀ i σ' H', Pv i σ' H' ↔ (∃ o : Option V, H' = H /\ xs.take i = ys.take i /\ σ' = [some (.ref a), some (.ref b), o]) := ⟨_, fun _ _ _ => Iff.rfl⟩
    refine forR Pv ((hPv _ _ _).mpr ⟨none, rfl, by simp, rfl⟩) (fun i σ' H' hi h' => ?_) (fun σ' H' h' => ?_)
    . obtain ⟨o, rfl, ht, rfl⟩ := (hPv _ _ _).mp h'
      rw [Int.zero_add]
      have hx : xs[i]? = some xs[i] := List.getElem?_eq_getElem hi
      have hy : ys[i]? = some (ys[i]'(by omega)) := List.getElem?_eq_getElem (by omega)
      generalize xs[i] = x at hx
      generalize ys[i]'(by omega) = y at hy
      walk_at "rd"
      refine ⟨_, ha, _, atI_nat (by rw [List.getElem?_map, hx]; rfl), _, SqT.of hb, _, atI_nat (by rw [List.getElem?_map, hy]; rfl), rfl, ?_⟩
      by_cases hn : x = y
      . rw [if_neg (by simp [hn])]
        refine (hPv _ _ _).mpr ⟨_, rfl, ?_, rfl⟩
        rw [List.take_add_one, List.take_add_one, ht, hx, hy, hn]
      . rw [if_pos (by simp [hn])]
        refine ⟨_, ha, _, atI_nat (by rw [List.getElem?_map, hx]; rfl), _, SqT.of hb, _, atI_nat (by rw [List.getElem?_map, hy]; rfl), _, rfl, _, rfl, ?_⟩
        have : lessW xs ys = decide (x < y) := by
          unfold lessW
          rw [if_pos he]
          exact lex_at ht hx hy hn
        rw [<- this]; exact k
    . obtain ⟨o, rfl, ht, rfl⟩ := (hPv _ _ _).mp h'
      rw [List.take_length, he, List.take_length] at ht
      subst ht
      walk_at "rd"
      have : lessW xs xs = false := less_irr
      rw [this] at k
      exact k
theorem atI_int {xs : List V} {s : Int} {v : V} (h0 : 0 <= s) (h : xs[s.toNat]? = some v) : atI xs s = some v := by
  obtain ⟨m, rfl⟩ : ∃ m : Nat, s = (m : Int) := ⟨s.toNat, by omega⟩
  rw [Int.toNat_natCast] at h
  exact atI_nat h
def sp_rt80 (K : PySem.W.Frag) : Sp := fun vs H Q _ => ∃ (h b : Addr) (L : Nat) (marks : List Int) (ways : List (List Int)) (gs : List Int), vs = [.ref h, .ref b] /\ House K H h L marks ways /\ Wf L marks ways /\ SqL K H b (gs.map V.int) /\ (∀ x ∈ gs, 0 <= x /\ x < (L : Int)) /\ ∀ l (R : List Int) H', Same H H' -> H l = none -> H' l = some (.lst (R.map V.int)) -> R.Nodup -> (∀ s ∈ R, 0 <= s /\ s < marks.length) -> 0 ∈ R -> (∀ s ∈ R, ∀ x ∈ gs, stepW ways s x ∈ R) -> (∀ G : Int -> Prop, G 0 -> (∀ s, G s -> ∀ x ∈ gs, G (stepW ways s x)) -> ∀ s ∈ R, G s) -> Q (.ref l) H'
theorem ok__law_rooms_to {f : Addr} {fd : FuncData} (F : Fun K "_law_rooms_to" "_law_rooms_to" s__law_rooms_to f fd) (T : Txt mg)
    : FnOk P w K mg base CX0 1 f fd ["house", "letters"] (sp_rt80 K) := by
  refine F.ok sc__law_rooms_to (fun vs H Q E h => ?_) (fun cdv A outer s H vs Q E hr h => ?_)
  . obtain ⟨h, b, L, marks, ways, gs, rfl, _⟩ := h; rfl
  . obtain ⟨h, b, L, marks, ways, gs, rfl, hh, wf, hb, hgs, k⟩ := h
    have hl := line1000
    have hn1 := wf.n1
    have hn40 := wf.n40
    refine ⟨_, (pss_cons (ps_setL (i := 2) sc__law_rooms_to.nd (pe_lst (pa_cons pe_int pa_nil)))
      (pss_cons (ps_setL (i := 3) sc__law_rooms_to.nd pe_int)
      (pss_cons (ps_while PassesOwn.never (ptT (pt_cmpR (opD0 op_lt) (pvD 3) (pe_callB (lenD call_len_seq) (by rfl) T.len PySem.boot_len (pa_cons (pvD 2) pa_nil)) (nomark _)))
      (pss_cons (ps_for PassesOwn.never rfl (pi_list (pvD 1)) (pg_name (i := 4) sc__law_rooms_to.nd rfl (Or.inl rfl))
      (pss_one (ps_if (ptT (pt_cmpR op_notIn_seq (pe_ixA (ixTD ix_tup) (pe_ixA (ixTD ix_tup) (pe_ixA (ixTD ix_tup) (pvD 0) pe_int) (pe_ixA (ixLD ix_list) (pvD 2) (pvD 3))) (pvD 4)) (pvD 2) rfl))
      (pss_one (ps_expr (pe_bm PySem.F.plainAttrs_list PySem.F.slot_list_append PySem.F.type_list_append mt_append (pvD 2) (pa_cons (pe_ixA (ixTD ix_tup) (pe_ixA (ixTD ix_tup) (pe_ixA (ixTD ix_tup) (pvD 0) pe_int) (pe_ixA (ixLD ix_list) (pvD 2) (pvD 3))) (pvD 4)) pa_nil))))
      pss_nil)))
      (pss_one (ps_setL (i := 3) sc__law_rooms_to.nd (pe_op (opD0 op_add) (pvD 3) pe_int)))))
      (pss_one (ps_ret (pvD 2)))))), ?_⟩
    obtain ⟨tm, tw, q1, q2, ts, q3, q4, q5⟩ := id hh
    walk_at "rd"
    refine ⟨by omega, fun l hl' => ?_⟩
    obtain ⟨Pw, hPw⟩ : ∃ Pv : Nat -> St -> Hp -> Prop, ∀ m σ' H', Pv m σ' H' ↔ (∃ (R : List Int) (at' : Nat) (o : Option V), Same H H' /\ H' l = some (.lst (R.map V.int)) /\ R.Nodup /\ (∀ s ∈ R, 0 <= s /\ s < marks.length) /\ 0 ∈ R /\ at' <= R.length /\ (∀ s ∈ R.take at', ∀ x ∈ gs, stepW ways s x ∈ R) /\ (∀ G : Int -> Prop, G 0 -> (∀ s, G s -> ∀ x ∈ gs, G (stepW ways s x)) -> ∀ s ∈ R, G s) /\ m = marks.length - at' /\ σ' = [some (.ref h), some (.ref b), some (.ref l), some (.int at'), o]) := ⟨_, fun _ _ _ => Iff.rfl⟩
    refine whileW Pw ⟨_, (hPw _ _ _).mpr ⟨[0], 0, none, Same.new hl', upd_same, by simp, fun s hs => by rw [List.mem_singleton.mp hs]; omega, by simp, by simp, fun s hs => by simp at hs, fun G g0 _ s hs => by rw [List.mem_singleton.mp hs]; exact g0, rfl, rfl⟩⟩ fun m σ' H' h' => ?_
    obtain ⟨R, a', o, s1, hR, hnd, hrg, h0, hal, hcl, hG, hm, rfl⟩ := (hPw _ _ _).mp h'
    walk_at "rd"
    refine ⟨_, .inl (SqL.of hR), ?_⟩
    rw [List.length_map]
    refine ite2 (fun hlt => ?_) (fun hge => ?_)
    rotate_left
    . rw [show a' = R.length by omega, List.take_length] at hcl
      exact k l R H' s1 hl' hR hnd hrg h0 hcl hG
    have hlt : a' < R.length := by omega
    have hRl : R.length <= marks.length := nodup_len marks.length hnd hrg
    refine ⟨fun σ2 H2 => ∃ m', m' < m /\ Pw m' σ2 H2, fun _ _ h => h, ⟨_, s1.seq hb⟩, ?_⟩
    have hs : R[a']? = some R[a'] := List.getElem?_eq_getElem hlt
    have hsm : R[a'] ∈ R := List.getElem_mem hlt
    generalize R[a'] = s at hs hsm
    have hsr := hrg s hsm
    have hsw : s.toNat < ways.length := by rw [wf.len]; omega
    have hst : s.toNat < ts.length := by rw [q4]; exact hsw
    have hrow := q5 s.toNat ts[s.toNat] ways[s.toNat] (List.getElem?_eq_getElem hst) (List.getElem?_eq_getElem hsw)
    have hwr := wf.rows ways[s.toNat] (List.getElem_mem hsw)
    obtain ⟨Pz, hPz⟩ : ∃ Pv : Nat -> St -> Hp -> Prop, ∀ j σ2 H2, Pv j σ2 H2 ↔ (∃ (R2 more : List Int) (o : Option V), Same H H2 /\ H2 l = some (.lst (R2.map V.int)) /\ R2.Nodup /\ (∀ s ∈ R2, 0 <= s /\ s < marks.length) /\ R2 = R ++ more /\ (∀ x ∈ gs.take j, stepW ways s x ∈ R2) /\ (∀ G : Int -> Prop, G 0 -> (∀ s, G s -> ∀ x ∈ gs, G (stepW ways s x)) -> ∀ s ∈ R2, G s) /\ σ2 = [some (.ref h), some (.ref b), some (.ref l), some (.int a'), o]) := ⟨_, fun _ _ _ => Iff.rfl⟩
    refine forL (xs := gs.map V.int) Pz ((hPz _ _ _).mpr ⟨R, [], _, s1, hR, hnd, hrg, by simp, (fun x hx => by simp at hx), hG, rfl⟩) (fun j σ2 H2 _ h2 => by obtain ⟨_, _, _, s2, _⟩ := (hPz _ _ _).mp h2; exact s2.seq hb) (fun j x σ2 H2 hx h2 => ?_) (fun σ2 H2 h2 => ?_)
    . obtain ⟨R2, more, o2, s2, hR2, hnd2, hrg2, e2, hc2, hG2, rfl⟩ := (hPz _ _ _).mp h2
      obtain ⟨g, hg, rfl⟩ := get_mapI hx
      have hgm := List.mem_of_getElem? hg
      have hgr := hgs g hgm
      have hgl : g.toNat < ways[s.toNat].length := by omega
      have hstep : stepW ways s g = ways[s.toNat][g.toNat] := stepW_of (List.getElem?_eq_getElem hsw) (List.getElem?_eq_getElem hgl)
      have hwg := hwr.2 _ (List.getElem_mem hgl)
      rw [<- hstep] at hwg
      have hs2 : R2[a']? = some s := by rw [e2, List.getElem?_append_left hlt]; exact hs
      have et : gs.take (j + 1) = gs.take j ++ [g] := by rw [List.take_add_one, hg]; rfl
      have hi1 : atI (ts.map V.ref) s = some (.ref ts[s.toNat]) := atI_int hsr.1 (by rw [List.getElem?_map, List.getElem?_eq_getElem hst]; rfl)
      have hi2 : atI (ways[s.toNat].map V.int) g = some (.int (stepW ways s g)) := atI_int hgr.1 (by rw [List.getElem?_map, List.getElem?_eq_getElem hgl, hstep]; rfl)
      have hi3 : atI (R2.map V.int) (a' : Int) = some (.int s) := atI_nat (by rw [List.getElem?_map, hs2]; rfl)
      walk_at "rd"
      refine ⟨_, s2.seqT q1, _, rfl, _, SqL.of hR2, _, hi3, tw, rfl, _, s, rfl, s2.seqT q3, _, hi1, _, rfl, _, s2.seqT hrow, _, hi2, _, .inl (SqL.of hR2), rfl, by simp [flatV], ?_⟩
      rw [inV_ints]
      by_cases hin : stepW ways s g ∈ R2
      . rw [if_neg (by simp [hin])]
        refine (hPz _ _ _).mpr ⟨R2, more, _, s2, hR2, hnd2, hrg2, e2, fun x hx => ?_, hG2, rfl⟩
        rw [et] at hx
        rcases List.mem_append.mp hx with hx | hx
        . exact hc2 x hx
        . rw [List.mem_singleton.mp hx]; exact hin
      . rw [if_pos (by simp [hin])]
        have hR2l : R2.length <= marks.length := nodup_len marks.length hnd2 hrg2
        refine ⟨.inl ⟨rfl, _, SqL.of hR2⟩, _, s2.seqT q1, _, rfl, _, SqL.of hR2, _, hi3, tw, rfl, _, s, rfl, s2.seqT q3, _, hi1, _, rfl, _, s2.seqT hrow, _, hi2, _, hR2, by rw [List.length_map]; omega, (hPz _ _ _).mpr ⟨R2 ++ [stepW ways s g], more ++ [stepW ways s g], _, s2.over hl', by rw [upd_same, List.map_append]; rfl, ?_, fun z hz => ?_, by rw [e2, List.append_assoc], fun x hx => ?_, fun G g0 g1 z hz => ?_, rfl⟩⟩
        . refine List.nodup_append.mpr ⟨hnd2, by simp, fun c hc b' hb' => ?_⟩
          rw [List.mem_singleton.mp hb']
          intro e
          exact hin (e ▸ hc)
        . rcases List.mem_append.mp hz with hz | hz
          . exact hrg2 z hz
          . rw [List.mem_singleton.mp hz]; exact hwg
        . rw [et] at hx
          rcases List.mem_append.mp hx with hx | hx
          . exact List.mem_append_left _ (hc2 x hx)
          . rw [List.mem_singleton.mp hx]; exact List.mem_append_right _ (List.mem_singleton.mpr rfl)
        . rcases List.mem_append.mp hz with hz | hz
          . exact hG2 G g0 g1 z hz
          . rw [List.mem_singleton.mp hz]
            exact g1 s (hG2 G g0 g1 s (List.mem_of_getElem? hs2)) g hgm
    . obtain ⟨R2, more, o2, s2, hR2, hnd2, hrg2, e2, hc2, hG2, rfl⟩ := (hPz _ _ _).mp h2
      rw [List.length_map, List.take_length] at hc2
      walk_at "rd"
      have hR2l : R2.length <= marks.length := nodup_len marks.length hnd2 hrg2
      refine ⟨marks.length - (a' + 1), by omega, (hPw _ _ _).mpr ⟨R2, a' + 1, _, s2, hR2, hnd2, hrg2, by rw [e2]; exact List.mem_append_left _ h0, by rw [e2, List.length_append]; omega, fun s' hs' x hx => ?_, hG2, rfl, by rw [Int.natCast_add]; rfl⟩⟩
      rw [e2, List.take_append_of_le_length (by omega), List.take_add_one, hs] at hs'
      rcases List.mem_append.mp hs' with hs' | hs'
      . rw [e2]; exact List.mem_append_left _ (hcl s' hs' x hx)
      . have : s' = s := by simpa using hs'
        rw [this]; exact hc2 x hx
theorem out_letters {A : Int -> List Int -> Prop} {p e : Int} (hp : 0 <= p) (hpe : p <= e) {row : List Int} (hn : N80.Nst p e row) : N80.Okr A p e row -> ∀ x ∈ Nest.outW p e row, (0 <= x /\ x < p) \/ (p <= x /\ x < e /\ ∃ inn, N80.Acc A p e (x - p) inn /\ inn.length < row.length) := by
  induction hn with
  | nil => intro _ x hx; cases hx
  | @pl y row h0 h1 hn ih =>
    intro ho x hx
    have e1 : y :: row = [y] ++ row := rfl
    rw [e1] at ho hx
    have ho2 := ((N80.okr_app hp hpe (N80.nst_pl h0 h1) hn).mp ho).2
    rw [(N80.out_app ((N80.nst_pl (e := e) h0 h1).row hp hpe) (hn.row hp hpe)).2, (N80.out_pl h0 h1 hpe).2] at hx
    rcases List.mem_append.mp hx with hx | hx
    . rw [List.mem_singleton.mp hx]; exact .inl ⟨h0, h1⟩
    . rcases ih ho2 x hx with h | ⟨a, b, inn, c, d⟩
      . exact .inl h
      . exact .inr ⟨a, b, inn, c, by rw [List.length_cons]; omega⟩
  | @ca c inn row h0 h1 hi hn _ ih =>
    intro ho x hx
    have e1 : c :: inn ++ e :: row = (c :: inn ++ [e]) ++ row := by simp
    rw [e1] at ho hx ⊢
    obtain ⟨ho1, ho2⟩ := (N80.okr_app hp hpe (N80.nst_ca h0 h1 hi) hn).mp ho
    have hA := (N80.okr_ca hp hpe h0 h1 hi).mp ho1
    rw [(N80.out_app ((N80.nst_ca h0 h1 hi).row hp hpe) (hn.row hp hpe)).2, (N80.out_ca hp h0 h1 (hi.row hp hpe)).2] at hx
    rcases List.mem_append.mp hx with hx | hx
    . rw [List.mem_singleton.mp hx]; exact .inr ⟨h0, h1, inn, hA, by simp; omega⟩
    . rcases ih ho2 x hx with h | ⟨a, b, inn', c', d⟩
      . exact .inl h
      . exact .inr ⟨a, b, inn', c', by rw [List.length_append]; omega⟩
structure Gd (A : Int -> List Int -> Prop) (p h B d : Nat) (good : List Int) : Prop where
  nd : good.Nodup
  rg : ∀ x ∈ good, 0 <= x /\ x < (p : Int) + h
  pl : ∀ x : Int, 0 <= x -> x < p -> x ∈ good
  s : ∀ x ∈ good, (p : Int) <= x -> ∃ row, N80.Acc A p ((p : Int) + h) (x - p) row
  l : ∀ (j : Nat) row, j < h -> N80.Acc A p ((p : Int) + h) (j : Int) row -> N80.cnt A p ((p : Int) + h) B h (N80.cod B row) < d -> (p : Int) + j ∈ good
theorem Gd.room {A : Int -> List Int -> Prop} {p h B d : Nat} {good : List Int} (g : Gd A p h B d good) {ways : List (List Int)} {R : List Int} (hR : ∀ G : Int -> Prop, G 0 -> (∀ s, G s -> ∀ x ∈ good, G (stepW ways s x)) -> ∀ s ∈ R, G s) {s : Int} (hs : s ∈ R) : ∃ t, G80 A p ((p : Int) + h) ways s t := by
  have hp : (0 : Int) <= (p : Int) := by omega
  have hpe : (p : Int) <= (p : Int) + h := by omega
  refine hR (fun s => ∃ t, G80 A p ((p : Int) + h) ways s t) ⟨[], G80.start⟩ (fun s hs x hx => ?_) s hs
  obtain ⟨t, h1, h2, h3⟩ := hs
  have hxr := g.rg x hx
  by_cases hxp : x < p
  . have hn : N80.Nst (p : Int) ((p : Int) + h) [x] := N80.nst_pl (by omega) hxp
    refine ⟨t ++ [x], h1.app hn, (N80.okr_app hp hpe h1 hn).mpr ⟨h2, N80.okr_pl (by omega) hxp hpe⟩, ?_⟩
    rw [(N80.out_app (h1.row hp hpe) (hn.row hp hpe)).2, (N80.out_pl (by omega) hxp hpe).2, List.foldl_append, h3]; rfl
  . obtain ⟨r, ha⟩ := g.s x hx (by omega)
    have hn := N80.nst_ca (c := x) (e := (p : Int) + h) (p := (p : Int)) (by omega) (by omega) ha.n
    refine ⟨t ++ (x :: r ++ [(p : Int) + h]), h1.app hn, (N80.okr_app hp hpe h1 hn).mpr ⟨h2, (N80.okr_ca hp hpe (by omega) (by omega) ha.n).mpr ha⟩, ?_⟩
    rw [(N80.out_app (h1.row hp hpe) (hn.row hp hpe)).2, (N80.out_ca hp (by omega) (by omega) (ha.n.row hp hpe)).2, List.foldl_append, h3]; rfl
theorem Gd.walk {A : Int -> List Int -> Prop} {p h B d : Nat} {good : List Int} (g : Gd A p h B d good) (hB : 2 <= B) (hBe : (B : Int) = (p : Int) + h + 1) {ways : List (List Int)} {R : List Int} (h0 : (0 : Int) ∈ R) (hcl : ∀ s ∈ R, ∀ x ∈ good, stepW ways s x ∈ R) {j : Nat} {row : List Int} (ha : N80.Acc A p ((p : Int) + h) (j : Int) row) (hc : N80.cnt A p ((p : Int) + h) B h (N80.cod B row) < d + 1) : (Nest.outW (p : Int) ((p : Int) + h) row).foldl (stepW ways) 0 ∈ R := by
  have hp : (0 : Int) <= (p : Int) := by omega
  have hpe : (p : Int) <= (p : Int) + h := by omega
  have hx : ∀ x ∈ Nest.outW (p : Int) ((p : Int) + h) row, x ∈ good := fun x hx => by
    rcases out_letters hp hpe ha.n ha.o x hx with ⟨a, b⟩ | ⟨a, b, inn, hi, hil⟩
    . exact g.pl x a b
    . obtain ⟨k, hk⟩ : ∃ k : Nat, x - p = (k : Int) := ⟨(x - p).toNat, by omega⟩
      rw [hk] at hi
      obtain ⟨r, a1, a2, a3⟩ := N80.least_acc B hi
      have hlt := N80.cod_len hB (hi.n.dg hp hBe hpe) hil
      have := N80.cnt_lt (b := B) (show k < h by omega) a1 a3 (n := N80.cod B row) (by omega)
      have := g.l k r (by omega) a1 (by omega)
      rw [show x = (p : Int) + k by omega]; exact this
  have key : ∀ (w : List Int) (s : Int), s ∈ R -> (∀ x ∈ w, x ∈ good) -> w.foldl (stepW ways) s ∈ R := by
    intro w
    induction w with
    | nil => intro s hs _; exact hs
    | cons x w ih => intro s hs hw; exact ih _ (hcl s hs x (hw x List.mem_cons_self)) (fun y hy => hw y (List.mem_cons_of_mem _ hy))
  exact key _ 0 h0 hx
def sp_lg80 (K : PySem.W.Frag) : Sp := fun vs H Q _ => ∃ (wa : Addr) (p : Nat) (xs : List V) (hs : List Hus), vs = [.ref wa] /\ WorksH K H wa p xs hs /\ WfW (p + hs.length) hs /\ 1 <= hs.length /\ hs.length <= 3 /\ 1 <= p /\ p <= 6 /\ ∀ l (good : List Int) H', Same H H' -> H' l = some (.lst (good.map V.int)) -> Gd (A80 hs) p hs.length (p + hs.length + 1) hs.length good -> Q (.ref l) H'
theorem ok__law_letters_good {f : Addr} {fd : FuncData} (F : Fun K "_law_letters_good" "_law_letters_good" s__law_letters_good f fd) (T : Txt mg)
    {f__law_rooms_to : Addr} {fd__law_rooms_to : FuncData} (q__law_rooms_to : Cal P w K mg base CX0 1 "_law_rooms_to" s__law_rooms_to ["house", "letters"] (sp_rt80 K) f__law_rooms_to fd__law_rooms_to)
    : FnOk P w K mg base CX0 2 f fd ["works"] (sp_lg80 K) := by
  refine F.ok sc__law_letters_good (fun vs H Q E h => ?_) (fun cdv A outer s H vs Q E hr h => ?_)
  . obtain ⟨w, p, xs, hs, rfl, _⟩ := h; rfl
  . obtain ⟨wa, p, xs, hs, rfl, hw, hwf, hh1, hh3, hp1, hp6, k⟩ := h
    have hl := line1000
    refine ⟨_, (pss_cons (ps_setL (i := 1) sc__law_letters_good.nd (pe_ixA (ixTD ix_tup) (pvD 0) pe_int))
      (pss_cons (ps_setL (i := 2) sc__law_letters_good.nd (pe_listRng rfl rfl T.list rfl T.range (pvD 1)))
      (pss_cons (ps_for PassesOwn.never rfl (pi_range1 rfl T.range (pa_cons (pe_callB (lenD call_len_seq) (by rfl) T.len PySem.boot_len (pa_cons (pe_ixA (ixTD ix_tup) (pvD 0) pe_int) pa_nil)) pa_nil)) (pg_name (i := 3) sc__law_letters_good.nd rfl (Or.inl rfl))
      (pss_one (ps_for PassesOwn.never rfl (pi_range1 rfl T.range (pa_cons (pe_callB (lenD call_len_seq) (by rfl) T.len PySem.boot_len (pa_cons (pe_ixA (ixTD ix_tup) (pvD 0) pe_int) pa_nil)) pa_nil)) (pg_name (i := 4) sc__law_letters_good.nd rfl (Or.inl rfl))
      (pss_one (ps_for PassesOwn.never rfl (pi_list (pe_callQ q__law_rooms_to hr.d pass0 (pa_cons (pe_ixA (ixTD ix_tup) (pe_ixA (ixTD ix_tup) (pvD 0) pe_int) (pvD 4)) (pa_cons (pvD 2) pa_nil)))) (pg_name (i := 5) sc__law_letters_good.nd rfl (Or.inl rfl))
      (pss_one (ps_if (PW.pt (pw_and (ptT (pt_cmpR (opN op_ne) (pe_ixA (ixTD ix_tup) (pe_ixA (ixTD ix_tup) (pe_ixA (ixTD ix_tup) (pe_ixA (ixTD ix_tup) (pvD 0) pe_int) (pvD 4)) pe_int) (pvD 5)) pe_int (nomark _))) (pw_and1 (ptT (pt_cmpR op_notIn_seq (pe_op (opD0 op_add) (pvD 1) (pvD 4)) (pvD 2) rfl)))))
      (pss_one (ps_expr (pe_bm PySem.F.plainAttrs_list PySem.F.slot_list_append PySem.F.type_list_append mt_append (pvD 2) (pa_cons (pe_op (opD0 op_add) (pvD 1) (pvD 4)) pa_nil))))
      pss_nil)))))))
      (pss_one (ps_ret (pvD 2)))))), ?_⟩
    obtain ⟨y, q1, q2, q3⟩ := id hw
    have hxl := q3.1
    walk_at "rd"
    refine ⟨_, q1, _, rfl, p, rfl, by omega, by omega, fun g hg => ?_⟩
    rw [Int.toNat_natCast]
    have s1 := Same.new hg (o := .lst ((ups p).map V.int))
    refine ⟨_, s1.seqT q1, _, rfl, y, rfl, xs, .inr (s1.seqT q2), by omega, by omega, ?_⟩
    rw [Int.toNat_natCast, hxl]
    have hB : 2 <= p + hs.length + 1 := by omega
    have hBe : ((p + hs.length + 1 : Nat) : Int) = (p : Int) + hs.length + 1 := by omega
    obtain ⟨Pv, hPv⟩ : ∃ Pv : Nat -> St -> Hp -> Prop, ∀ d σ' H', Pv d σ' H' ↔ (∃ (good : List Int) (o3 o4 o5 : Option V), Same H H' /\ H' g = some (.lst (good.map V.int)) /\ Gd (A80 hs) p hs.length (p + hs.length + 1) d good /\ σ' = [some (.ref wa), some (.int p), some (.ref g), o3, o4, o5]) := ⟨_, fun _ _ _ => Iff.rfl⟩
    refine forR Pv ((hPv _ _ _).mpr ⟨ups p, none, none, none, s1, upd_same, ?_, rfl⟩) (fun d σ2 H2 hd h2 => ?_) (fun σ2 H2 h2 => ?_)
    . refine ⟨ups_nodup p, fun x hx => ?_, fun x h0 h1 => ups_mem.mpr ⟨h0, h1⟩, fun x hx hx2 => ?_, fun j row _ _ z => absurd z (Nat.not_lt_zero _)⟩
      . have := ups_mem.mp hx; omega
      . have := ups_mem.mp hx; omega
    . obtain ⟨good, o3, o4, o5, s2, hg2, hG2, rfl⟩ := (hPv _ _ _).mp h2
      rw [Int.zero_add]
      walk_at "rd"
      refine ⟨_, s2.seqT q1, _, rfl, y, rfl, xs, .inr (s2.seqT q2), by omega, by omega, ?_⟩
      rw [Int.toNat_natCast, hxl]
      obtain ⟨Pj, hPj⟩ : ∃ Pv : Nat -> St -> Hp -> Prop, ∀ j σ' H', Pv j σ' H' ↔ (∃ (good : List Int) (o4 o5 : Option V), Same H H' /\ H' g = some (.lst (good.map V.int)) /\ Gd (A80 hs) p hs.length (p + hs.length + 1) d good /\ (∀ (j' : Nat) row, j' < j -> N80.Acc (A80 hs) p ((p : Int) + hs.length) (j' : Int) row -> N80.cnt (A80 hs) p ((p : Int) + hs.length) (p + hs.length + 1) hs.length (N80.cod (p + hs.length + 1) row) < d + 1 -> (p : Int) + j' ∈ good) /\ σ' = [some (.ref wa), some (.int p), some (.ref g), some (.int d), o4, o5]) := ⟨_, fun _ _ _ => Iff.rfl⟩
      refine forR Pj ((hPj _ _ _).mpr ⟨good, _, _, s2, hg2, hG2, (fun j' row z => absurd z (Nat.not_lt_zero _)), rfl⟩) (fun j σ3 H3 hj h3 => ?_) (fun σ3 H3 h3 => ?_)
      . clear hg2 hG2
        obtain ⟨good, o4, o5, s3, hg3, hG3, hJ3, rfl⟩ := (hPj _ _ _).mp h3
        rw [Int.zero_add]
        have hjs : hs[j]? = some hs[j] := List.getElem?_eq_getElem hj
        obtain ⟨ha, hx1, hh⟩ := q3.2 j _ hjs
        have hwj := hwf _ (List.getElem_mem hj)
        have hi1 : atI xs (j : Int) = some (.ref ha) := atI_nat hx1
        have hAj := a80_at (hs := hs) hjs
        rw [hwj.1] at hh
        generalize hs[j] = r at hwj hh hAj
        obtain ⟨tm, tw, r1, r2, r3⟩ := id hh
        have hwf' := hwj.2
        walk_at "rd"
        refine ⟨_, s3.seqT q1, _, rfl, y, rfl, _, s3.seqT q2, _, hi1, ha, g, p + hs.length, r.2.1, r.2.2, good, rfl, ?_, ?_, SqL.of hg3, fun x hx => ?_, fun lr R H4 s4 hlr hR4 hRn hRr hR0 hRc hRG => ?_⟩
        . have := hh.mono s3
          rw [<- Int.natCast_add] at this
          exact this
        . rw [<- Int.natCast_add] at hwf'; exact hwf'
        . have := hG3.rg x hx; omega
        have hlg : lr ≠ g := fun z => by rw [z, hg3] at hlr; cases hlr
        have s34 := s3.trans s4
        have hg4 := s4 _ _ hg3
        refine ⟨lr, rfl, ⟨_, SqL.of hR4⟩, ?_⟩
        obtain ⟨Pr, hPr⟩ : ∃ Pv : Nat -> St -> Hp -> Prop, ∀ i σ' H', Pv i σ' H' ↔ (∃ (gd : List Int) (o5 : Option V), Same H H' /\ H' g = some (.lst (gd.map V.int)) /\ H' lr = some (.lst (R.map V.int)) /\ (gd = good \/ (gd = good ++ [(p : Int) + j] /\ (p : Int) + j ∉ good /\ ∃ row, N80.Acc (A80 hs) p ((p : Int) + hs.length) (j : Int) row)) /\ (∀ s ∈ R.take i, mk80 r.2.1 s ≠ 0 -> (p : Int) + j ∈ gd) /\ σ' = [some (.ref wa), some (.int p), some (.ref g), some (.int d), some (.int j), o5]) := ⟨_, fun _ _ _ => Iff.rfl⟩
        refine forL (xs := R.map V.int) Pr ((hPr _ _ _).mpr ⟨good, _, s34, hg4, hR4, .inl rfl, (fun s hs' => by simp at hs'), rfl⟩) (fun i σ5 H5 _ h5 => by obtain ⟨_, _, _, _, h, _⟩ := (hPr _ _ _).mp h5; exact SqL.of h) (fun i x σ5 H5 hx h5 => ?_) (fun σ5 H5 h5 => ?_)
        . obtain ⟨gd, o5, s5, hg5, hR5, hgd, hm5, rfl⟩ := (hPr _ _ _).mp h5
          obtain ⟨s, hs', rfl⟩ := get_mapI hx
          have hsm := List.mem_of_getElem? hs'
          have hsr := hRr s hsm
          have et : R.take (i + 1) = R.take i ++ [s] := by rw [List.take_add_one, hs']; rfl
          have hmk : atI (r.2.1.map V.int) s = some (.int (mk80 r.2.1 s)) := atI_int hsr.1 (by
            unfold mk80
            have : s.toNat < r.2.1.length := by omega
            rw [List.getElem?_map, List.getElem?_eq_getElem this, List.getD_eq_getElem?_getD, List.getElem?_eq_getElem this]; rfl)
          walk_at "rd"
          refine ⟨_, s5.seqT q1, _, rfl, y, rfl, _, s5.seqT q2, _, hi1, ha, rfl, _, s5.seqT r1, _, rfl, tm, rfl, _, s5.seqT r2, _, hmk, rfl, ?_⟩
          by_cases h0 : mk80 r.2.1 s = 0
          . rw [if_neg (by simp [h0])]
            refine (hPr _ _ _).mpr ⟨gd, _, s5, hg5, hR5, hgd, fun s' hs'' hm => ?_, rfl⟩
            rw [et] at hs''
            rcases List.mem_append.mp hs'' with h | h
            . exact hm5 s' h hm
            . rw [List.mem_singleton.mp h] at hm; exact absurd h0 hm
          . rw [if_pos (by simp [h0])]
            refine ⟨_, .inl (SqL.of hg5), rfl, by simp [flatV], ?_⟩
            rw [inV_ints]
            by_cases hin : (p : Int) + j ∈ gd
            . rw [if_neg (by simp [hin])]
              exact (hPr _ _ _).mpr ⟨gd, _, s5, hg5, hR5, hgd, fun _ _ _ => hin, rfl⟩
            . rw [if_pos (by simp [hin])]
              have hgd' : gd = good := by
                rcases hgd with h | ⟨h, _⟩
                . exact h
                . rw [h] at hin; exact absurd (List.mem_append_right _ (List.mem_singleton.mpr rfl)) hin
              subst hgd'
              obtain ⟨t, t1, t2, t3⟩ := hG3.room hRG hsm
              have hgl : gd.length <= p + hs.length := nodup_len (p + hs.length) hG3.nd (fun x hx => by have := hG3.rg x hx; omega)
              refine ⟨.inl ⟨rfl, _, SqL.of hg5⟩, _, hg5, by rw [List.length_map]; omega, (hPr _ _ _).mpr ⟨gd ++ [(p : Int) + j], _, s5.over hg, by rw [upd_same, List.map_append]; rfl, by rw [upd_ne hlg]; exact hR5, .inr ⟨rfl, hin, t, t1, t2, (hAj _).mpr (by rw [t3]; exact h0)⟩, fun _ _ _ => List.mem_append_right _ (List.mem_singleton.mpr rfl), rfl⟩⟩
        . obtain ⟨gd, o5, s5, hg5, hR5, hgd, hm5, rfl⟩ := (hPr _ _ _).mp h5
          rw [List.length_map, List.take_length] at hm5
          have hsub : ∀ x ∈ good, x ∈ gd := fun x hx => by
            rcases hgd with h | ⟨h, _⟩
            . rw [h]; exact hx
            . rw [h]; exact List.mem_append_left _ hx
          refine (hPj _ _ _).mpr ⟨gd, _, _, s5, hg5, ?_, fun j' row hj' ha' hc' => ?_, rfl⟩
          . rcases hgd with h | ⟨h, h2, row, h3⟩
            . rw [h]; exact hG3
            . subst h
              refine ⟨List.nodup_append.mpr ⟨hG3.nd, by simp, fun a ha b hb => ?_⟩, fun x hx => ?_, fun x h0 h1 => hsub _ (hG3.pl x h0 h1), fun x hx hxp => ?_, fun j' row' a b c => hsub _ (hG3.l j' row' a b c)⟩
              . rw [List.mem_singleton.mp hb]
                intro e
                exact h2 (e ▸ ha)
              . rcases List.mem_append.mp hx with h | h
                . exact hG3.rg x h
                . rw [List.mem_singleton.mp h]; omega
              . rcases List.mem_append.mp hx with h | h
                . exact hG3.s x h hxp
                . rw [List.mem_singleton.mp h, show (p : Int) + j - p = j by omega]; exact ⟨row, h3⟩
          . by_cases e : j' = j
            . subst e
              have := hG3.walk hB hBe hR0 hRc ha' hc'
              exact hm5 _ this ((hAj _).mp ha'.a)
            . exact hsub _ (hJ3 j' row (by omega) ha' hc')
      . obtain ⟨good, o4, o5, s3, hg3, hG3, hJ3, rfl⟩ := (hPj _ _ _).mp h3
        exact (hPv _ _ _).mpr ⟨good, _, _, _, s3, hg3, ⟨hG3.nd, hG3.rg, hG3.pl, hG3.s, hJ3⟩, rfl⟩
    . obtain ⟨good, o3, o4, o5, s2, hg2, hG2, rfl⟩ := (hPv _ _ _).mp h2
      walk_at "rd"
      exact k g good _ s2 hg2 hG2
open Nest (spreadN dueN outW nestR nestR_drop prtF prtS prtS_take partsW)
theorem LLs.lastG {H0 H : Hp} {xs : List V} {ws : List (List Int)} {w : List Int} (h : LLs H0 H xs (ws ++ [w])) : ∃ ys t, xs = ys ++ [.ref t] /\ H t = some (.lst (w.map V.int)) /\ H0 t = none /\ (∀ o, LLs (upd H0 t o) H ys ws) /\ ∀ v : List Int, LLs H0 (upd H t (.lst (v.map V.int))) xs (ws ++ [v]) := by
  have hh := h
  obtain ⟨ts, a, b, c, d, e⟩ := hh
  obtain ⟨ys, t, e1, e2, e3, e4, e5⟩ := LLs.last h
  refine ⟨ys, t, e1, e2, e3, fun o => ?_, e5⟩
  rw [List.length_append, List.length_singleton] at b
  obtain ⟨us, t', rfl⟩ : ∃ us t, ts = us ++ [t] := ⟨ts.dropLast, ts.getLast (fun z => by rw [z] at b; simp at b), (List.dropLast_concat_getLast _).symm⟩
  have hul : us.length = ws.length := by rw [List.length_append, List.length_singleton] at b; omega
  have nd := List.nodup_append.mp c
  rw [a, List.map_append, List.map_singleton] at e1
  have e6 := List.append_inj' e1 rfl
  obtain ⟨e7, e8⟩ := e6
  have : t' = t := by simpa using e8
  subst this
  have hut : ∀ u ∈ us, u ≠ t' := fun u hu => nd.2.2 u hu t' (by simp)
  refine ⟨us, e7.symm, hul, nd.1, fun i u v h1 h2 => ?_, fun u hu => ?_⟩
  . have hi := (List.getElem?_eq_some_iff.mp h1).1
    exact d i u v (by rw [List.getElem?_append_left hi]; exact h1) (by rw [List.getElem?_append_left (by omega)]; exact h2)
  . rw [upd_ne (hut u hu)]; exact e u (by simp [hu])
def PartsG (G H : Hp) (xs : List V) (ps : List (Int × List Int)) : Prop := xs.length = ps.length /\ ∀ (i : Nat) (pr : Int × List Int), ps[i]? = some pr -> ∃ t tw, xs[i]? = some (.ref t) /\ H t = some (.tup [.int pr.1, .ref tw]) /\ G tw = some (.tup []) /\ H tw = some (.lst (pr.2.map V.int))
theorem PartsG.nil {G H : Hp} : PartsG G H [] [] := ⟨rfl, fun i pr h => by simp at h⟩
theorem PartsG.same {G H H' : Hp} {xs : List V} {ps : List (Int × List Int)} (h : PartsG G H xs ps) (s : Same H H') : PartsG G H' xs ps := by
  refine ⟨h.1, fun i pr hi => ?_⟩
  obtain ⟨t, tw, a, b, c, d⟩ := h.2 i pr hi
  exact ⟨t, tw, a, s _ _ b, c, s _ _ d⟩
theorem PartsG.off {G H : Hp} {xs zs : List V} {ps : List (Int × List Int)} {u : Addr} {o : HO} (h : PartsG G H xs ps) (hu : H u = some (.lst zs)) (hg : G u ≠ some (.tup [])) : PartsG G (upd H u o) xs ps := by
  refine ⟨h.1, fun i pr hi => ?_⟩
  obtain ⟨t, tw, a, b, c, d⟩ := h.2 i pr hi
  exact ⟨t, tw, a, by rw [upd_ne (fun z => by rw [z, hu] at b; cases b)]; exact b, c, by rw [upd_ne (fun z => hg (by rw [<- z]; exact c))]; exact d⟩
theorem PartsG.mark {G H : Hp} {xs : List V} {ps : List (Int × List Int)} {u : Addr} (h : PartsG G H xs ps) : PartsG (upd G u (.tup [])) H xs ps := by
  refine ⟨h.1, fun i pr hi => ?_⟩
  obtain ⟨t, tw, a, b, c, d⟩ := h.2 i pr hi
  refine ⟨t, tw, a, b, ?_, d⟩
  by_cases e : tw = u
  . rw [e]; exact upd_same
  . rw [upd_ne e]; exact c
theorem PartsG.snoc {G H : Hp} {xs : List V} {ps : List (Int × List Int)} {t tw : Addr} {j : Int} {w : List Int} (h : PartsG G H xs ps) (h1 : H t = some (.tup [.int j, .ref tw])) (h2 : G tw = some (.tup [])) (h3 : H tw = some (.lst (w.map V.int))) : PartsG G H (xs ++ [.ref t]) (ps ++ [(j, w)]) := by
  refine ⟨by simp [h.1], fun i pr hi => ?_⟩
  by_cases hl : i < ps.length
  . rw [List.getElem?_append_left hl] at hi
    rw [List.getElem?_append_left (by rw [h.1]; exact hl)]
    exact h.2 i pr hi
  . have := (List.getElem?_eq_some_iff.mp hi).1
    rw [List.length_append, List.length_singleton] at this
    have e : i = ps.length := by omega
    subst e
    rw [List.getElem?_append_right (Nat.le_refl _), Nat.sub_self] at hi
    simp at hi
    subst hi
    exact ⟨t, tw, by rw [<- h.1]; simp, h1, h2, h3⟩
def PartsD (H : Hp) (xs : List V) (ps : List (Int × List Int)) : Prop := xs.length = ps.length /\ ∀ (i : Nat) (pr : Int × List Int), ps[i]? = some pr -> ∃ t tw, xs[i]? = some (.ref t) /\ H t = some (.tup [.int pr.1, .ref tw]) /\ H tw = some (.lst (pr.2.map V.int))
def sp_lparts80 (K : PySem.W.Frag) : Sp := fun vs H Q _ => ∃ (t : Bool) (p h top : Int) (a : Addr) (ws : List Int), vs = [.int p, .int h, .ref a, .int top] /\ SqB K H t a (ws.map V.int) /\ ws.length <= 900 /\ nestR p (p + h) ws 0 = true /\ ∀ l xs H', Same H H' -> H' l = some (.lst xs) -> PartsD H' xs ((prtS p (p + h) ws).1 ++ [(top, outW p (p + h) ws)]) -> xs.length <= 901 -> Q (.ref l) H'
theorem ok__law_parts {f : Addr} {fd : FuncData} (F : Fun K "_law_parts" "_law_parts" s__law_parts f fd) (T : Txt mg)
    : FnOk P w K mg base CX0 1 f fd ["plain", "helpers", "signs", "top"] (sp_lparts80 K) := by
  refine F.ok sc__law_parts (fun vs H Q E h => ?_) (fun cdv A outer s H vs Q E hr h => ?_)
  . obtain ⟨tb, p, h, top, a, ws, rfl, _⟩ := h; rfl
  . obtain ⟨tb, p, h, top, a, ws, rfl, ha, hz, hv, k⟩ := h
    have hln := line1000
    refine ⟨_, (pss_cons (ps_setL (i := 4) sc__law_parts.nd (pe_lst pa_nil))
      (pss_cons (ps_setL (i := 5) sc__law_parts.nd (pe_lst (pa_cons (pvD 3) pa_nil)))
      (pss_cons (ps_setL (i := 6) sc__law_parts.nd (pe_lst (pa_cons (pe_lst pa_nil) pa_nil)))
      (pss_cons (ps_for PassesOwn.never rfl (pi_seq (pvD 2)) (pg_name (i := 7) sc__law_parts.nd rfl (Or.inl rfl))
      (pss_one (ps_if (ptT (pt_cmpR (opE op_eq) (pvD 7) (pe_op (opD0 op_add) (pvD 0) (pvD 1)) (nomark _)))
      (pss_one (ps_expr (pe_bm PySem.F.plainAttrs_list PySem.F.slot_list_append PySem.F.type_list_append mt_append (pvD 4) (pa_cons (pe_tup (pa_cons (pe_bm0 PySem.F.plainAttrs_list PySem.F.slot_list_pop PySem.F.type_list_pop mt_pop (pvD 5)) (pa_cons (pe_bm0 PySem.F.plainAttrs_list PySem.F.slot_list_pop PySem.F.type_list_pop mt_pop (pvD 6)) pa_nil))) pa_nil))))
      (pss_cons (ps_expr (pe_bm PySem.F.plainAttrs_list PySem.F.slot_list_append PySem.F.type_list_append mt_append (pe_ixA (ixLD ix_list) (pvD 6) (pe_un un_neg pe_int)) (pa_cons (pvD 7) pa_nil)))
      (pss_one (ps_if (ptT (pt_cmpR (opD0 op_ge) (pvD 7) (pvD 0) (nomark _)))
      (pss_cons (ps_expr (pe_bm PySem.F.plainAttrs_list PySem.F.slot_list_append PySem.F.type_list_append mt_append (pvD 5) (pa_cons (pe_op (opD0 op_sub) (pvD 7) (pvD 0)) pa_nil)))
      (pss_one (ps_expr (pe_bm PySem.F.plainAttrs_list PySem.F.slot_list_append PySem.F.type_list_append mt_append (pvD 6) (pa_cons (pe_lst pa_nil) pa_nil)))))
      pss_nil))))))
      (pss_cons (ps_expr (pe_bm PySem.F.plainAttrs_list PySem.F.slot_list_append PySem.F.type_list_append mt_append (pvD 4) (pa_cons (pe_tup (pa_cons (pvD 3) (pa_cons (pe_ixA (ixLD ix_list) (pvD 6) pe_int) pa_nil))) pa_nil)))
      (pss_one (ps_ret (pvD 4)))))))), ?_⟩
    walk_at "rd"
    refine ⟨by omega, fun q1 hq1 => ⟨by omega, fun q2 hq2 => ⟨by omega, fun t0 ht0 => ⟨by omega, fun q hq => ?_⟩⟩⟩⟩
    have sa := ((Same.new hq1 (o := .lst [])).newT hq2 (o := .lst [V.int top])).newT ht0 (o := .lst [])
    have sb := sa.newT hq (o := .lst [V.ref t0])
    have hq21 : q2 ≠ q1 := (none_of_upd hq2).2
    have ht02 : t0 ≠ q2 := (none_of_upd ht0).2
    have ht01 : t0 ≠ q1 := (none_of_upd (none_of_upd ht0).1).2
    have hqt : q ≠ t0 := (none_of_upd hq).2
    have hq2' : q ≠ q2 := (none_of_upd (none_of_upd hq).1).2
    have hq1' : q ≠ q1 := (none_of_upd (none_of_upd (none_of_upd hq).1).1).2
    have ht0H : H t0 = none := (none_of_upd (none_of_upd ht0).1).1
    have hq1H : H q1 = none := hq1
    have hq2H : H q2 = none := (none_of_upd hq2).1
    have hqH : H q = none := (none_of_upd (none_of_upd (none_of_upd hq).1).1).1
    obtain ⟨G0, hG0⟩ : ∃ G : Hp, G = upd (upd (upd H q1 (.lst [])) q2 (.lst [])) q (.lst []) := ⟨_, rfl⟩
    have g1 : G0 q1 = some (.lst []) := by rw [hG0, upd_ne (Ne.symm hq1'), upd_ne (Ne.symm hq21)]; exact upd_same
    have g2 : G0 q2 = some (.lst []) := by rw [hG0, upd_ne (Ne.symm hq2')]; exact upd_same
    have g3 : G0 q = some (.lst []) := by rw [hG0]; exact upd_same
    have g0 : G0 t0 = none := by rw [hG0, upd_ne (Ne.symm hqt), upd_ne ht02, upd_ne ht01]; exact ht0H
    have gS : Same H G0 := by rw [hG0]; exact (((Same.refl H).over hq1H).over hq2H).over hqH
    have gN : ∀ u, upd (upd (upd (upd H q1 (.lst [])) q2 (.lst [V.int top])) t0 (.lst [])) q (.lst [V.ref t0]) u = none -> G0 u = none := fun u hu => by
      obtain ⟨hu1, n1⟩ := none_of_upd hu
      obtain ⟨hu2, n2⟩ := none_of_upd hu1
      obtain ⟨hu3, n3⟩ := none_of_upd hu2
      obtain ⟨hu4, n4⟩ := none_of_upd hu3
      rw [hG0, upd_ne n1, upd_ne n3, upd_ne n4]; exact hu4
    have L0 : LLs G0 (upd (upd (upd (upd H q1 (.lst [])) q2 (.lst [V.int top])) t0 (.lst [])) q (.lst [V.ref t0])) [V.ref t0] [[]] := ((LLs.nil G0 (upd (upd H q1 (.lst [])) q2 (.lst [V.int top]))).snoc (w := []) g0 ht0).mono (Same.new hq)
    have h1 : upd (upd (upd (upd H q1 (.lst [])) q2 (.lst [V.int top])) t0 (.lst [])) q (.lst [V.ref t0]) q1 = some (.lst []) := by rw [upd_ne (Ne.symm hq1'), upd_ne (Ne.symm ht01), upd_ne (Ne.symm hq21)]; exact upd_same
    have h2 : upd (upd (upd (upd H q1 (.lst [])) q2 (.lst [V.int top])) t0 (.lst [])) q (.lst [V.ref t0]) q2 = some (.lst [V.int top]) := by rw [upd_ne (Ne.symm hq2'), upd_ne (Ne.symm ht02)]; exact upd_same
    have h3 : upd (upd (upd (upd H q1 (.lst [])) q2 (.lst [V.int top])) t0 (.lst [])) q (.lst [V.ref t0]) q = some (.lst [V.ref t0]) := upd_same
    generalize upd (upd (upd (upd H q1 (.lst [])) q2 (.lst [V.int top])) t0 (.lst [])) q (.lst [V.ref t0]) = H0 at sb L0 h1 h2 h3 gN ⊢
    obtain ⟨Pv, hPv⟩ : ∃ Pv : Nat -> St -> Hp -> Prop, ∀ i σ' H', Pv i σ' H' ↔ (∃ (G : Hp) (ts xs : List V) (tl : List (Int × List Int)) (cs : List Int) (wl : List (List Int)) (o : Option V), prtS p (p + h) (ws.take i) = (tl, cs, wl) /\ Same H H' /\ Same H G /\ (∀ u, H' u = none -> G u = none) /\ G q1 = some (.lst []) /\ G q2 = some (.lst []) /\ G q = some (.lst []) /\ H' q1 = some (.lst ts) /\ PartsG G H' ts tl /\ H' q2 = some (.lst (V.int top :: cs.map V.int)) /\ H' q = some (.lst xs) /\ LLs G H' xs wl /\ nestR p (p + h) (ws.drop i) cs.length = true /\ wl.length = cs.length + 1 /\ tl.length <= i /\ cs.length <= i /\ (∀ w ∈ wl, w.length <= i) /\ σ' = [some (.int p), some (.int h), some (.ref a), some (.int top), some (.ref q1), some (.ref q2), some (.ref q), o]) := ⟨_, fun _ _ _ => Iff.rfl⟩
    refine forB (t := tb) (xs := ws.map V.int) Pv ((hPv _ _ _).mpr ⟨G0, [], _, [], [], [[]], none, rfl, sb, gS, gN, g1, g2, g3, h1, PartsG.nil, h2, h3, L0, hv, rfl, Nat.le_refl _, Nat.le_refl _, by simp, rfl⟩) (fun i σ' H' _ h' => by obtain ⟨_, _, _, _, _, _, _, _, s', _⟩ := (hPv _ _ _).mp h'; exact ha.mono s') (fun i x σ' H' hx h' => ?_) (fun σ' H' h' => ?_)
    . clear h1 h2 h3 L0 sb gN gS g0 g1 g2 g3 hG0 G0
      obtain ⟨G, ts, xs, tl, cs, wl, o, hst, s2, gS, gN, g1, g2, g3, e1, hP, e2, e3, hL, hd, hwl, l1, l2, l3, rfl⟩ := (hPv _ _ _).mp h'
      obtain ⟨n, hn, rfl⟩ := get_mapI hx
      have hi := (List.getElem?_eq_some_iff.mp hn).1
      have hst' := prtS_take (p := p) (e := p + h) hn
      rw [hst] at hst'
      rw [nestR_drop hn] at hd
      have hok : ¬ (n < 0 \/ p + h < n) := fun z => by rw [if_pos z] at hd; cases hd
      rw [if_neg hok] at hd
      obtain ⟨wl, w', rfl⟩ : ∃ us u, wl = us ++ [u] := ⟨wl.dropLast, wl.getLast (fun z => by rw [z] at hwl; simp at hwl), (List.dropLast_concat_getLast _).symm⟩
      obtain ⟨ys, t, rfl, ht, hgt, hL', hLv⟩ := LLs.lastG hL
      have hlw := l3 w' (by simp)
      walk_at "rd"
      have htq : t ≠ q := fun z => by rw [z, g3] at hgt; cases hgt
      have htq1 : t ≠ q1 := fun z => by rw [z, g1] at hgt; cases hgt
      have htq2 : t ≠ q2 := fun z => by rw [z, g2] at hgt; cases hgt
      have hPl := hP.1
      refine ite2 (fun e => ?_) (fun e => ?_)
      . rw [if_pos e] at hd
        obtain ⟨cs, c, rfl⟩ : ∃ us u, cs = us ++ [u] := ⟨cs.dropLast, cs.getLast (fun z => by rw [z] at hd; cases hd), (List.dropLast_concat_getLast _).symm⟩
        rw [List.length_append, List.length_singleton] at hd l2 hwl
        rw [List.length_append, List.length_singleton] at hwl
        rw [List.map_append, List.map_singleton, <- List.cons_append] at e2
        refine ⟨.inl ⟨rfl, _, SqL.of e1⟩, .inl ⟨rfl, _, SqL.of e2⟩, _, e2, V.int c, by simp, ?_⟩
        rw [List.dropLast_concat]
        have e3A : upd H' q2 (.lst (V.int top :: cs.map V.int)) q = some (.lst (ys ++ [V.ref t])) := by rw [upd_ne hq2']; exact e3
        refine ⟨.inl ⟨rfl, _, SqL.of e3A⟩, _, e3A, V.ref t, by simp, ?_⟩
        rw [List.dropLast_concat]
        have htB : upd (upd H' q2 (.lst (V.int top :: cs.map V.int))) q (.lst ys) t = some (.lst (w'.map V.int)) := by rw [upd_ne htq, upd_ne htq2]; exact ht
        have e1B : upd (upd H' q2 (.lst (V.int top :: cs.map V.int))) q (.lst ys) q1 = some (.lst ts) := by rw [upd_ne (Ne.symm hq1'), upd_ne (Ne.symm hq21)]; exact e1
        have e2B : upd (upd H' q2 (.lst (V.int top :: cs.map V.int))) q (.lst ys) q2 = some (.lst (V.int top :: cs.map V.int)) := by rw [upd_ne (Ne.symm hq2')]; exact upd_same
        have e3B : upd (upd H' q2 (.lst (V.int top :: cs.map V.int))) q (.lst ys) q = some (.lst ys) := upd_same
        have sB : Same H (upd (upd H' q2 (.lst (V.int top :: cs.map V.int))) q (.lst ys)) := (s2.over hq2H).over hqH
        have LB := LLs.off (LLs.off (hL' (.tup [])) (o := .lst (V.int top :: cs.map V.int)) (u := .lst []) (by rw [upd_ne (Ne.symm htq2)]; exact g2)) (o := .lst ys) (u := .lst []) (by rw [upd_ne (Ne.symm htq)]; exact g3)
        have PB : PartsG (upd G t (.tup [])) (upd (upd H' q2 (.lst (V.int top :: cs.map V.int))) q (.lst ys)) ts tl := ((hP.off e2 (by rw [g2]; simp)).off e3A (by rw [g3]; simp)).mark
        have NB : ∀ u, upd (upd H' q2 (.lst (V.int top :: cs.map V.int))) q (.lst ys) u = none -> upd G t (.tup []) u = none := fun u hu => by
          have hu2 := (none_of_upd (none_of_upd hu).1).1
          rw [upd_ne (ne_of_none' hu2 ht)]; exact gN u hu2
        generalize upd (upd H' q2 (.lst (V.int top :: cs.map V.int))) q (.lst ys) = HB at htB e1B e2B e3B sB LB PB NB ⊢
        refine ⟨by omega, fun p1 hp1 => ?_⟩
        have sp := Same.new hp1 (o := .tup [V.int c, V.ref t])
        have e1' := sp _ _ e1B
        have PC := (PB.same sp).snoc (j := c) (w := w') (t := p1) (tw := t) upd_same upd_same (sp _ _ htB)
        refine ⟨_, e1', by omega, (hPv _ _ _).mpr ⟨upd G t (.tup []), ts ++ [.ref p1], ys, tl ++ [(c, w')], cs, wl, _, ?_, (sB.trans sp).over hq1H, gS.over (gS.none hgt), fun u hu => NB u (none_of_upd (none_of_upd hu).1).1, by rw [upd_ne (Ne.symm htq1)]; exact g1, by rw [upd_ne (Ne.symm htq2)]; exact g2, by rw [upd_ne (Ne.symm htq)]; exact g3, upd_same, PC.off e1' (by rw [upd_ne (Ne.symm htq1), g1]; simp), ?_, ?_, LLs.off (LB.mono sp) (u := .lst []) (by rw [upd_ne (Ne.symm htq1)]; exact g1), hd, by omega, by simp; omega, by omega, fun w hw => ?_, rfl⟩⟩
        . rw [hst']
          unfold prtF
          rw [if_pos e]
          simp only [List.dropLast_concat, List.getLastD_concat]
        . rw [upd_ne hq21]; exact sp _ _ e2B
        . rw [upd_ne hq1']; exact sp _ _ e3B
        . have := l3 w (by simp [hw]); omega
      . rw [if_neg e] at hd
        refine ⟨_, SqL.of e3, _, atI_end (v := V.ref t) (by simp), .inl ⟨rfl, _, SqL.of ht⟩, t, rfl, _, ht, by rw [List.length_map]; omega, ?_⟩
        rw [show w'.map V.int ++ [V.int n] = (w' ++ [n]).map V.int from by simp]
        have LA := hLv (w' ++ [n])
        have e1A : upd H' t (.lst ((w' ++ [n]).map V.int)) q1 = some (.lst ts) := by rw [upd_ne (Ne.symm htq1)]; exact e1
        have e2A : upd H' t (.lst ((w' ++ [n]).map V.int)) q2 = some (.lst (V.int top :: cs.map V.int)) := by rw [upd_ne (Ne.symm htq2)]; exact e2
        have e3A : upd H' t (.lst ((w' ++ [n]).map V.int)) q = some (.lst (ys ++ [V.ref t])) := by rw [upd_ne (Ne.symm htq)]; exact e3
        have htH : H t = none := gS.none hgt
        have sA : Same H (upd H' t (.lst ((w' ++ [n]).map V.int))) := s2.over htH
        have PA' : PartsG G (upd H' t (.lst ((w' ++ [n]).map V.int))) ts tl := hP.off ht (by rw [hgt]; simp)
        have NA : ∀ u, upd H' t (.lst ((w' ++ [n]).map V.int)) u = none -> G u = none := fun u hu => gN u (none_of_upd hu).1
        generalize upd H' t (.lst ((w' ++ [n]).map V.int)) = HA at LA e1A e2A e3A sA PA' NA ⊢
        rw [List.length_append, List.length_singleton] at hwl
        have hyl : ys.length = wl.length := by have := LLs.len hL; simpa using this
        have l3' : ∀ w ∈ wl ++ [w' ++ [n]], w.length <= i + 1 := fun w hw => by
          rcases List.mem_append.mp hw with hw | hw
          . have := l3 w (by simp [hw]); omega
          . rw [List.mem_singleton.mp hw, List.length_append, List.length_singleton]; omega
        refine ite2 (fun hp => ?_) (fun hp => ?_)
        . rw [if_pos hp] at hd
          refine ⟨.inl ⟨rfl, _, SqL.of e2A⟩, _, e2A, by rw [List.length_cons, List.length_map]; omega, ?_⟩
          rw [show V.int top :: cs.map V.int ++ [V.int (n - p)] = V.int top :: (cs ++ [n - p]).map V.int from by simp]
          have e1B : upd HA q2 (.lst (V.int top :: (cs ++ [n - p]).map V.int)) q1 = some (.lst ts) := by rw [upd_ne (Ne.symm hq21)]; exact e1A
          have e2B : upd HA q2 (.lst (V.int top :: (cs ++ [n - p]).map V.int)) q2 = some (.lst (V.int top :: (cs ++ [n - p]).map V.int)) := upd_same
          have e3B : upd HA q2 (.lst (V.int top :: (cs ++ [n - p]).map V.int)) q = some (.lst (ys ++ [V.ref t])) := by rw [upd_ne hq2']; exact e3A
          have sB : Same H (upd HA q2 (.lst (V.int top :: (cs ++ [n - p]).map V.int))) := sA.over hq2H
          have LB := LLs.off LA (o := .lst (V.int top :: (cs ++ [n - p]).map V.int)) g2
          have PB : PartsG G (upd HA q2 (.lst (V.int top :: (cs ++ [n - p]).map V.int))) ts tl := PA'.off e2A (by rw [g2]; simp)
          have NB : ∀ u, upd HA q2 (.lst (V.int top :: (cs ++ [n - p]).map V.int)) u = none -> G u = none := fun u hu => NA u (none_of_upd hu).1
          generalize upd HA q2 (.lst (V.int top :: (cs ++ [n - p]).map V.int)) = HB at e1B e2B e3B sB LB PB NB ⊢
          refine ⟨.inl ⟨rfl, _, SqL.of e3B⟩, by omega, fun p1 hp1 => ?_⟩
          have sp := Same.new hp1 (o := .lst [])
          have gp1 : G p1 = none := NB p1 hp1
          have LC := LLs.off (LB.snoc (w := []) gp1 hp1) (o := .lst (ys ++ [V.ref t] ++ [V.ref p1])) g3
          refine ⟨_, sp _ _ e3B, by simp; omega, (hPv _ _ _).mpr ⟨G, ts, ys ++ [V.ref t] ++ [V.ref p1], tl, cs ++ [n - p], wl ++ [w' ++ [n]] ++ [[]], _, ?_, (sB.trans sp).over hqH, gS, fun u hu => NB u (none_of_upd (none_of_upd hu).1).1, g1, g2, g3, ?_, (PB.same sp).off (sp _ _ e3B) (by rw [g3]; simp), ?_, upd_same, LC, by rw [List.length_append, List.length_singleton]; exact hd, by simp; omega, by omega, by simp; omega, fun w hw => ?_, rfl⟩⟩
          . rw [hst']
            unfold prtF
            rw [if_neg e, if_pos hp]
            simp only [List.dropLast_concat, List.getLastD_concat]
          . rw [upd_ne (Ne.symm hq1')]; exact sp _ _ e1B
          . rw [upd_ne (Ne.symm hq2')]; exact sp _ _ e2B
          . rcases List.mem_append.mp hw with hw | hw
            . exact l3' w hw
            . rw [List.mem_singleton.mp hw]; simp
        . rw [if_neg hp] at hd
          refine (hPv _ _ _).mpr ⟨G, ts, ys ++ [V.ref t], tl, cs, wl ++ [w' ++ [n]], _, ?_, sA, gS, NA, g1, g2, g3, e1A, PA', e2A, e3A, LA, hd, by simp; omega, by omega, by omega, l3', rfl⟩
          rw [hst']
          unfold prtF
          rw [if_neg e, if_neg hp]
          simp only [List.dropLast_concat, List.getLastD_concat]
    . clear h1 h2 h3 L0 sb gN gS g0 g1 g2 g3 hG0 G0
      obtain ⟨G, ts, xs, tl, cs, wl, o, hst, s2, gS, gN, g1, g2, g3, e1, hP, e2, e3, hL, hd, hwl, l1, l2, l3, rfl⟩ := (hPv _ _ _).mp h'
      rw [List.length_map, List.take_length] at hst
      have hpd := (Nest.parts_due hv).2
      rw [hst] at hpd
      obtain ⟨w0, wr, rfl⟩ : ∃ w0 wr, wl = w0 :: wr := by
        cases wl with
        | nil => simp at hwl
        | cons w0 wr => exact ⟨w0, wr, rfl⟩
      have hpd : w0 = outW p (p + h) ws := hpd
      obtain ⟨t, ht1, ht2⟩ := LLs.head hL
      obtain ⟨t', ht1', ht2', hgt, _⟩ := LLs.at hL (i := 0) (w := w0) rfl
      have : t' = t := by rw [ht1] at ht1'; simpa using ht1'.symm
      subst this
      walk_at "rd"
      refine ⟨.inl ⟨rfl, _, SqL.of e1⟩, _, SqL.of e3, _, (atI_nat ht1 : atI xs ((0 : Nat) : Int) = _), by omega, fun p1 hp1 => ?_⟩
      have sp := Same.new hp1 (o := .tup [V.int top, V.ref t'])
      have e1' := sp _ _ e1
      rw [List.length_map] at l1
      have hPl := hP.1
      refine ⟨_, e1', by omega, ?_⟩
      have hP2 := ((hP.mark (u := t')).same sp).snoc (j := top) (w := w0) (t := p1) (tw := t') upd_same upd_same (sp _ _ ht2)
      have htq1 : t' ≠ q1 := fun z => by rw [z, g1] at hgt; cases hgt
      have hP3 := hP2.off (o := .lst (ts ++ [.ref p1])) e1' (by rw [upd_ne (Ne.symm htq1), g1]; simp)
      refine k q1 _ _ ((s2.trans sp).over hq1H) upd_same ?_ (by rw [List.length_append, List.length_singleton]; omega)
      rw [hst, <- hpd]
      refine ⟨hP3.1, fun i pr hi => ?_⟩
      obtain ⟨t, tw, a1, a2, a3, a4⟩ := hP3.2 i pr hi
      exact ⟨t, tw, a1, a2, a4⟩
def sp_lnested80 (K : PySem.W.Frag) : Sp := fun vs H Q _ => ∃ (p h : Int) (a : Addr) (ws : List Int), vs = [.int p, .int h, .ref a] /\ H a = some (.tup (ws.map V.int)) /\ ws.length <= 900 /\ ∀ H', Same H H' -> Q (.bl (nestR p (p + h) ws 0)) H'
theorem ok__law_nested {f : Addr} {fd : FuncData} (F : Fun K "_law_nested" "_law_nested" s__law_nested f fd) (T : Txt mg)
    : FnOk P w K mg base CX0 1 f fd ["plain", "helpers", "signs"] (sp_lnested80 K) := by
  refine F.ok sc__law_nested (fun vs H Q E h => ?_) (fun cdv A outer s H vs Q E hr h => ?_)
  . obtain ⟨p, h, a, ws, rfl, _⟩ := h; rfl
  . obtain ⟨p, h, a, ws, rfl, ha, hz, k⟩ := h
    have hln := line1000
    refine ⟨_, (pss_cons (ps_setL (i := 3) sc__law_nested.nd (pe_lst pa_nil))
      (pss_cons (ps_for PassesOwn.never rfl (pi_tup (pvD 2)) (pg_name (i := 4) sc__law_nested.nd rfl (Or.inl rfl))
      (pss_cons (ps_if (PW.pt (pw_or (ptT (pt_cmpR (opD0 op_lt) (pvD 4) pe_int (nomark _))) (pw_or1 (ptT (pt_cmpR (opD0 op_gt) (pvD 4) (pe_op (opD0 op_add) (pvD 0) (pvD 1)) (nomark _))))))
      (pss_one (ps_ret pe_bl))
      pss_nil)
      (pss_one (ps_if (ptT (pt_cmpR (opE op_eq) (pvD 4) (pe_op (opD0 op_add) (pvD 0) (pvD 1)) (nomark _)))
      (pss_cons (ps_if (ptT (pt_cmpR (opE op_eq) (pe_callB (lenD call_len_seq) (by rfl) T.len PySem.boot_len (pa_cons (pvD 3) pa_nil)) pe_int (nomark _)))
      (pss_one (ps_ret pe_bl))
      pss_nil)
      (pss_one (ps_expr (pe_bm0 PySem.F.plainAttrs_list PySem.F.slot_list_pop PySem.F.type_list_pop mt_pop (pvD 3)))))
      (pss_one (ps_if (ptT (pt_cmpR (opD0 op_ge) (pvD 4) (pvD 0) (nomark _)))
      (pss_one (ps_expr (pe_bm PySem.F.plainAttrs_list PySem.F.slot_list_append PySem.F.type_list_append mt_append (pvD 3) (pa_cons (pvD 4) pa_nil))))
      pss_nil))))))
      (pss_one (ps_ret (pe_cmpR (opE op_eq) (pe_callB (lenD call_len_seq) (by rfl) T.len PySem.boot_len (pa_cons (pvD 3) pa_nil)) pe_int (nomark _)))))), ?_⟩
    walk_at "rd"
    refine ⟨by omega, fun q hq => ?_⟩
    have s0 := Same.new hq (o := .lst [])
    refine ⟨⟨_, s0.seqT (SqT.of ha)⟩, ?_⟩
    obtain ⟨Pv, hPv⟩ : ∃ Pv : Nat -> St -> Hp -> Prop, ∀ i σ' H', Pv i σ' H' ↔ (∃ (xs : List V) (o : Option V), Same H H' /\ H' q = some (.lst xs) /\ xs.length <= i /\ nestR p (p + h) (ws.drop i) xs.length = nestR p (p + h) ws 0 /\ σ' = [some (.int p), some (.int h), some (.ref a), some (.ref q), o]) := ⟨_, fun _ _ _ => Iff.rfl⟩
    refine forT (xs := ws.map V.int) Pv ((hPv _ _ _).mpr ⟨[], none, s0, upd_same, by simp, rfl, rfl⟩) (fun i σ2 H2 _ h2 => by obtain ⟨_, _, s2, _⟩ := (hPv _ _ _).mp h2; exact s2.seqT (SqT.of ha)) (fun i x σ2 H2 hx h2 => ?_) (fun σ2 H2 h2 => ?_)
    . obtain ⟨xs, o, s2, hq2, hxl, hd, rfl⟩ := (hPv _ _ _).mp h2
      obtain ⟨n, hn, rfl⟩ := get_mapI hx
      have hi := (List.getElem?_eq_some_iff.mp hn).1
      rw [nestR_drop hn] at hd
      walk_at "rd"
      by_cases h0 : 0 <= n /\ n <= p + h
      . rw [if_neg (by omega), if_neg (by omega)]
        rw [if_neg (by omega)] at hd
        refine ite2 (fun e => ⟨_, .inl (SqL.of hq2), ?_⟩) (fun e => ite2 (fun e2 => ?_) (fun e2 => ?_))
        . rw [if_pos e] at hd
          by_cases hx0 : xs.length = 0
          . rw [hx0] at hd
            rw [if_pos (by omega), show false = nestR p (p + h) ws 0 from hd]
            exact k _ s2
          . rw [if_neg (by omega)]
            have hlt : xs.length - 1 < xs.length := by omega
            obtain ⟨m, hm⟩ : ∃ m, xs.length = m + 1 := ⟨xs.length - 1, by omega⟩
            rw [hm] at hd
            refine ⟨.inl ⟨rfl, _, SqL.of hq2⟩, _, hq2, xs[xs.length - 1], by simp [hlt], (hPv _ _ _).mpr ⟨xs.dropLast, _, s2.over hq, upd_same, by rw [List.length_dropLast]; omega, ?_, rfl⟩⟩
            rw [List.length_dropLast, hm]
            exact hd
        . rw [if_neg e, if_pos e2] at hd
          refine ⟨.inl ⟨rfl, _, SqL.of hq2⟩, _, hq2, by omega, (hPv _ _ _).mpr ⟨xs ++ [V.int n], _, s2.over hq, upd_same, by simp; omega, ?_, rfl⟩⟩
          rw [List.length_append, List.length_singleton]
          exact hd
        . rw [if_neg e, if_neg e2] at hd
          exact (hPv _ _ _).mpr ⟨xs, _, s2, hq2, by omega, hd, rfl⟩
      . rw [if_pos (by omega)] at hd
        have kf := k _ s2
        rw [<- hd] at kf
        by_cases h1 : n < 0
        . rw [if_pos h1]; exact kf
        . rw [if_neg h1, if_pos (by omega)]; exact kf
    . obtain ⟨xs, o, s2, hq2, hxl, hd, rfl⟩ := (hPv _ _ _).mp h2
      rw [List.length_map, List.drop_length, show nestR p (p + h) [] xs.length = decide (xs.length = 0) from rfl] at hd
      walk_at "rd"
      refine ⟨_, .inl (SqL.of hq2), ?_⟩
      rw [show decide ((xs.length : Int) = 0) = decide (xs.length = 0) from by simp, hd]
      exact k _ s2
theorem flat_rep (d : Nat) (e : Int) : (List.replicate d [V.int e]).flatten = (List.replicate d e).map V.int := by
  induction d with
  | zero => rfl
  | succ d ih => rw [List.replicate_succ, List.flatten_cons, ih, List.replicate_succ]; rfl
def sp_lnest (K : PySem.W.Frag) : Sp := fun vs H Q _ => ∃ (a : Addr) (ns : List Int) (p h : Int), vs = [.ref a, .int p, .int h] /\ SqL K H a (ns.map V.int) /\ ns.length <= 200 /\ 1 <= p /\ 1 <= h /\ ∀ (l : Addr) (row : List Int) (H' : Hp), Same H H' -> H' l = some (.lst (row.map V.int)) -> row.length <= 2 * ns.length -> nestR p (p + h) row 0 = true -> Q (.ref l) H'
theorem ok__law_nest {f : Addr} {fd : FuncData} (F : Fun K "_law_nest" "_law_nest" s__law_nest f fd) (T : Txt mg)
    : FnOk P w K mg base CX0 1 f fd ["flow", "plain", "helpers"] (sp_lnest K) := by
  refine F.ok sc__law_nest (fun vs H Q E h => ?_) (fun cdv A outer s H vs Q E hr h => ?_)
  . obtain ⟨a, ns, p, h, rfl, _⟩ := h; rfl
  . obtain ⟨a, ns, p, h, rfl, ha, hz, hp, hh, k⟩ := h
    have hln := line1000
    refine ⟨_, (pss_cons (ps_setL (i := 3) sc__law_nest.nd (pe_lst pa_nil))
      (pss_cons (ps_setL (i := 4) sc__law_nest.nd pe_int)
      (pss_cons (ps_for PassesOwn.never rfl (pi_list (pvD 0)) (pg_name (i := 5) sc__law_nest.nd rfl (Or.inl rfl))
      (pss_cons (ps_setL (i := 6) sc__law_nest.nd (pe_op (opD op_mod) (pvD 5) (pe_op (opD0 op_add) (pe_op (opD0 op_add) (pvD 1) (pvD 2)) pe_int)))
      (pss_cut (ps_if (PW.pt (pw_and (ptT (pt_cmpR (opE op_eq) (pvD 6) (pe_op (opD0 op_add) (pvD 1) (pvD 2)) (nomark _))) (pw_and1 (ptT (pt_cmpR (opE op_eq) (pvD 4) pe_int (nomark _))))))
      (pss_one (ps_setL (i := 6) sc__law_nest.nd (pe_op (opD op_mod) (pe_op (opD op_fdiv) (pvD 5) pe_int) (pvD 1))))
      pss_nil)
      (pss_cut (ps_if (ptT (pt_cmpR (opE op_eq) (pvD 6) (pe_op (opD0 op_add) (pvD 1) (pvD 2)) (nomark _)))
      (pss_one (ps_setL (i := 4) sc__law_nest.nd (pe_op (opD0 op_sub) (pvD 4) pe_int)))
      (pss_one (ps_if (ptT (pt_cmpR (opD0 op_ge) (pvD 6) (pvD 1) (nomark _)))
      (pss_one (ps_setL (i := 4) sc__law_nest.nd (pe_op (opD0 op_add) (pvD 4) pe_int)))
      pss_nil)))
      (pss_one (ps_expr (pe_bm PySem.F.plainAttrs_list PySem.F.slot_list_append PySem.F.type_list_append mt_append (pvD 3) (pa_cons (pvD 6) pa_nil))))))))
      (pss_one (ps_ret (pe_op op_cat (pvD 3) (pe_op op_rep (pe_lst (pa_cons (pe_op (opD0 op_add) (pvD 1) (pvD 2)) pa_nil)) (pvD 4)))))))), ?_⟩
    walk_at "rd"
    refine ⟨by omega, fun q hq => ?_⟩
    have s0 := Same.new hq (o := .lst [])
    refine ⟨⟨_, s0.seq ha⟩, ?_⟩
    obtain ⟨Pv, hPv⟩ : ∃ Pv : Nat -> St -> Hp -> Prop, ∀ i σ' H', Pv i σ' H' ↔ (∃ (row : List Int) (d : Nat) (o1 o2 : Option V), Same H H' /\ H' q = some (.lst (row.map V.int)) /\ row.length = i /\ d <= i /\ (∀ rest, nestR p (p + h) (row ++ rest) 0 = nestR p (p + h) rest d) /\ σ' = [some (.ref a), some (.int p), some (.int h), some (.ref q), some (.int d), o1, o2]) := ⟨_, fun _ _ _ => Iff.rfl⟩
    refine forL (xs := ns.map V.int) Pv ((hPv _ _ _).mpr ⟨[], 0, none, none, s0, upd_same, rfl, by omega, fun _ => rfl, rfl⟩) (fun i σ2 H2 _ h2 => by obtain ⟨_, _, _, _, s2, _⟩ := (hPv _ _ _).mp h2; exact s2.seq ha) (fun i x σ2 H2 hx h2 => ?_) (fun σ2 H2 h2 => ?_)
    . obtain ⟨row, d, o1, o2, s2, hq2, hrl, hd, hnr, rfl⟩ := (hPv _ _ _).mp h2
      obtain ⟨c, hc, rfl⟩ := get_mapI hx
      have hi := (List.getElem?_eq_some_iff.mp hc).1
      walk_at "rd"
      refine ⟨by omega, ?_⟩
      have g0 := Int.emod_nonneg c (show p + h + 1 ≠ 0 by omega)
      have g1 := Int.emod_lt_of_pos c (show 0 < p + h + 1 by omega)
      have f0 := Int.emod_nonneg (c / 13) (show p ≠ 0 by omega)
      have f1 := Int.emod_lt_of_pos (c / 13) (show 0 < p by omega)
      generalize c % (p + h + 1) = sg at g0 g1 ⊢
      obtain ⟨R, hR⟩ : ∃ R : St -> Hp -> Prop, ∀ σ3 H3, R σ3 H3 ↔ (H3 = H2 /\ ∃ sg : Int, 0 <= sg /\ sg <= p + h /\ (sg = p + h -> d ≠ 0) /\ σ3 = [some (.ref a), some (.int p), some (.int h), some (.ref q), some (.int d), some (.int c), some (.int sg)]) := ⟨_, fun _ _ => Iff.rfl⟩
      obtain ⟨R2, hR2⟩ : ∃ R : St -> Hp -> Prop, ∀ σ3 H3, R σ3 H3 ↔ (H3 = H2 /\ ∃ (sg : Int) (d' : Nat), d' <= i + 1 /\ (∀ rest, nestR p (p + h) ((row ++ [sg]) ++ rest) 0 = nestR p (p + h) rest d') /\ σ3 = [some (.ref a), some (.int p), some (.int h), some (.ref q), some (.int d'), some (.int c), some (.int sg)]) := ⟨_, fun _ _ => Iff.rfl⟩
      refine ⟨R, ?_, fun σ3 H3 h3 => ⟨R2, ?_, fun σ4 H4 h4 => ?_⟩⟩
      . walk_at "rd"
        refine ite2 (fun e => ite2 (fun e2 => ⟨⟨by decide, by decide⟩, by omega, ?_⟩) (fun e2 => ?_)) (fun e => ?_)
        . exact (hR _ _).mpr ⟨rfl, _, f0, by omega, fun z => by omega, rfl⟩
        . exact (hR _ _).mpr ⟨rfl, _, g0, by omega, fun _ => by omega, rfl⟩
        . exact (hR _ _).mpr ⟨rfl, _, g0, by omega, fun z => absurd z e, rfl⟩
      . obtain ⟨rfl, sg, k0, k1, k2, rfl⟩ := (hR _ _).mp h3
        have sn := Nest.nestR_snoc hnr k0 k1 k2
        walk_at "rd"
        refine ite2 (fun e => (hR2 _ _).mpr ⟨rfl, sg, d - 1, by omega, ?_, ?_⟩) (fun e => ite2 (fun e2 => (hR2 _ _).mpr ⟨rfl, sg, d + 1, by omega, ?_, ?_⟩) (fun e2 => (hR2 _ _).mpr ⟨rfl, sg, d, by omega, ?_, rfl⟩))
        . simpa only [if_pos e] using sn
        . have := k2 e
          rw [show ((d - 1 : Nat) : Int) = (d : Int) - 1 from by omega]
        . simpa only [if_neg e, if_pos e2] using sn
        . rw [show ((d + 1 : Nat) : Int) = (d : Int) + 1 from by omega]
        . simpa only [if_neg e, if_neg e2] using sn
      . obtain ⟨rfl, sg, d', hd', hsn, rfl⟩ := (hR2 _ _).mp h4
        walk_at "rd"
        refine ⟨.inl ⟨rfl, _, SqL.of hq2⟩, _, hq2, by rw [List.length_map]; omega, (hPv _ _ _).mpr ⟨row ++ [sg], d', _, _, s2.over hq, by rw [upd_same]; simp, by simp [hrl], by omega, hsn, rfl⟩⟩
    . obtain ⟨row, d, o1, o2, s2, hq2, hrl, hd, hnr, rfl⟩ := (hPv _ _ _).mp h2
      rw [List.length_map] at hrl hd
      walk_at "rd"
      refine ⟨by omega, fun p1 hp1 => ⟨_, upd_same, by omega, by omega, by simp; omega, fun p2 hp2 => ?_⟩⟩
      have sp := (Same.new hp1 (o := .lst [V.int (p + h)])).newT hp2 (o := .lst (List.replicate (d : Int).toNat [V.int (p + h)]).flatten)
      refine ⟨_, sp _ _ hq2, _, upd_same, ?_, fun p3 hp3 => ?_⟩
      . rw [Int.toNat_natCast, flat_rep, List.length_map, List.length_map, List.length_replicate]; omega
      . refine k p3 (row ++ List.replicate d (p + h)) _ ((s2.trans sp).newT hp3) ?_ (by rw [List.length_append, List.length_replicate]; omega) ?_
        . rw [upd_same, Int.toNat_natCast, flat_rep, List.map_append]
        . rw [hnr]
          have := Nest.nestR_ends (p := p) (e := p + h) (by omega) d [] 0
          rw [List.append_nil, Nat.zero_add] at this
          rw [this]; rfl
open Nest (outW)
def accB (hs : List Hus) (p : Int) (j : Int) (ws : List Int) : Bool := ((prtS p (p + hs.length) ws).1 ++ [(j, outW p (p + hs.length) ws)]).all (okT hs)
theorem ok_a80 {hs : List Hus} {q : Int × List Int} (h0 : 0 <= q.1) (h1 : q.1 < hs.length) : okT hs q = true ↔ A80 hs q.1 q.2 := by
  have hj : q.1.toNat < hs.length := by omega
  have e : hs[q.1.toNat]? = some hs[q.1.toNat] := List.getElem?_eq_getElem hj
  have e2 : hs.getD q.1.toNat (0, [], []) = hs[q.1.toNat] := by rw [List.getD_eq_getElem?_getD, e]; rfl
  unfold okT ansH
  rw [e2, decide_eq_true_eq]
  constructor
  . intro h
    exact ⟨_, e, h0, h⟩
  . rintro ⟨r, a, _, b⟩
    rw [e] at a
    cases a
    exact b
theorem prt_ok {p h : Int} (hh : 1 <= h) {row : List Int} (hn : nestR p (p + h) row 0 = true) : (∀ q ∈ (prtS p (p + h) row).1, 0 <= q.1 /\ q.1 < h /\ q.2.length <= row.length /\ ∀ x ∈ q.2, 0 <= x /\ x < p + h) /\ (outW p (p + h) row).length <= row.length /\ ∀ x ∈ outW p (p + h) row, 0 <= x /\ x < p + h := by
  have hok := Nest.partsW_ok hh hn
  have hps : (prtS p (p + h) row).1 ++ [(0, outW p (p + h) row)] = partsW p (p + h) row := by rw [<- (Nest.parts_due hn).2]; rfl
  rw [<- hps] at hok
  have ho := hok (0, outW p (p + h) row) (by simp)
  exact ⟨fun q hq => hok q (List.mem_append_left _ hq), ho.2.2⟩
theorem acc_iff {hs : List Hus} {p : Nat} {j : Int} {ws : List Int} (hh : 1 <= hs.length) (j0 : 0 <= j) (j1 : j < hs.length) (hn : nestR (p : Int) ((p : Int) + hs.length) ws 0 = true) : accB hs p j ws = true ↔ N80.Acc (A80 hs) p ((p : Int) + hs.length) j ws := by
  have hp : (0 : Int) <= (p : Int) := by omega
  have hpe : (p : Int) <= (p : Int) + hs.length := by omega
  obtain ⟨k1, _⟩ := prt_ok (h := hs.length) (by omega) hn
  unfold accB
  rw [List.all_append, Bool.and_eq_true, List.all_eq_true]
  constructor
  . rintro ⟨a, b⟩
    refine ⟨(N80.nst_iff hp hpe).mp hn, fun q hq => ?_, ?_⟩
    . have := k1 q hq
      exact (ok_a80 this.1 this.2.1).mp (a q hq)
    . rw [List.all_cons, List.all_nil, Bool.and_true] at b
      exact (ok_a80 (q := (j, _)) j0 j1).mp b
  . intro h
    refine ⟨fun q hq => ?_, ?_⟩
    . have := k1 q hq
      exact (ok_a80 this.1 this.2.1).mpr (h.o q hq)
    . rw [List.all_cons, List.all_nil, Bool.and_true]
      exact (ok_a80 (q := (j, _)) j0 j1).mpr h.a
def sp_acc80 (K : PySem.W.Frag) : Sp := fun vs H Q _ => ∃ (t : Bool) (h a : Addr) (p : Nat) (j : Int) (xs : List V) (hs : List Hus) (ws : List Int), vs = [.ref h, .ref a, .int j] /\ WorksH K H h p xs hs /\ WfW (p + hs.length) hs /\ 1 <= hs.length /\ 0 <= j /\ j < hs.length /\ SqB K H t a (ws.map V.int) /\ ws.length <= 900 /\ nestR (p : Int) ((p : Int) + hs.length) ws 0 = true /\ ∀ H', Same H H' -> Q (.bl (accB hs p j ws)) H'
theorem ok__law_accepted {f : Addr} {fd : FuncData} (F : Fun K "_law_accepted" "_law_accepted" s__law_accepted f fd) (T : Txt mg)
    {f__law_parts : Addr} {fd__law_parts : FuncData} (q__law_parts : Cal P w K mg base CX0 1 "_law_parts" s__law_parts ["plain", "helpers", "signs", "top"] (sp_lparts80 K) f__law_parts fd__law_parts)
    {f__law_answer : Addr} {fd__law_answer : FuncData} (q__law_answer : Cal P w K mg base CX0 1 "_law_answer" s__law_answer ["house", "word"] (sp_ans79 K) f__law_answer fd__law_answer)
    : FnOk P w K mg base CX0 2 f fd ["works", "signs", "top"] (sp_acc80 K) := by
  refine F.ok sc__law_accepted (fun vs H Q E h => ?_) (fun cdv A outer s H vs Q E hr h => ?_)
  . obtain ⟨t, h, a, p, j, xs, hs, ws, rfl, _⟩ := h; rfl
  . obtain ⟨tb, h, a, p, j, xs, hs, ws, rfl, hW, wf, hs1, j0, j1, ha, hz, hv, k⟩ := h
    have hln := line1000
    refine ⟨_, (pss_cons (ps_for PassesOwn.never rfl (pi_list (pe_callQ q__law_parts hr.d pass0 (pa_cons (pe_ixA (ixTD ix_tup) (pvD 0) pe_int) (pa_cons (pe_callB (lenD call_len_seq) (by rfl) T.len PySem.boot_len (pa_cons (pe_ixA (ixTD ix_tup) (pvD 0) pe_int) pa_nil)) (pa_cons (pvD 1) (pa_cons (pvD 2) pa_nil)))))) (pg_tup rfl (pgs_cons (pg_name (i := 3) sc__law_accepted.nd rfl (Or.inl rfl)) (pgs_cons (pg_name (i := 4) sc__law_accepted.nd rfl (Or.inl rfl)) pgs_nil)))
      (pss_one (ps_if (ptT (pt_cmpR (opE op_eq) (pe_callQ q__law_answer hr.d pass0 (pa_cons (pe_ixA (ixTD ix_tup) (pe_ixA (ixTD ix_tup) (pvD 0) pe_int) (pvD 3)) (pa_cons (pvD 4) pa_nil))) pe_int (nomark _)))
      (pss_one (ps_ret pe_bl))
      pss_nil)))
      (pss_one (ps_ret pe_bl))), ?_⟩
    obtain ⟨y, h1, h2, h3⟩ := id hW
    walk_at "rd"
    refine ⟨_, h1, _, rfl, _, h1, _, rfl, y, rfl, _, .inr h2, tb, p, hs.length, j, a, ws, by rw [h3.1], ha, by omega, hv, fun l ts H1 s1 hl hP hlen => ?_⟩
    obtain ⟨k1, k2⟩ := prt_ok (h := hs.length) (by omega) hv
    have hok : ∀ q ∈ (prtS (p : Int) ((p : Int) + hs.length) ws).1 ++ [(j, outW (p : Int) ((p : Int) + hs.length) ws)], 0 <= q.1 /\ q.1 < hs.length /\ q.2.length <= ws.length /\ ∀ x ∈ q.2, 0 <= x /\ x < (p : Int) + hs.length := fun q hq => by
      rcases List.mem_append.mp hq with hq | hq
      . exact k1 q hq
      . rw [List.mem_singleton.mp hq]; exact ⟨j0, j1, k2⟩
    unfold accB at k
    generalize (prtS (p : Int) ((p : Int) + hs.length) ws).1 ++ [(j, outW (p : Int) ((p : Int) + hs.length) ws)] = ps at hP hok k
    refine ⟨l, rfl, ⟨_, SqL.of hl⟩, ?_⟩
    obtain ⟨Pv, hPv⟩ : ∃ Pv : Nat -> St -> Hp -> Prop, ∀ i σ' H', Pv i σ' H' ↔ (H' = H1 /\ (ps.take i).all (okT hs) = true /\ ∃ o1 o2, σ' = [some (.ref h), some (.ref a), some (.int j), o1, o2]) := ⟨_, fun _ _ _ => Iff.rfl⟩
    refine forL (xs := ts) Pv ((hPv _ _ _).mpr ⟨rfl, by simp, none, none, rfl⟩) (fun i σ' H' _ h' => by rw [((hPv _ _ _).mp h').1]; exact SqL.of hl) (fun i x σ' H' hx h' => ?_) (fun σ' H' h' => ?_)
    . obtain ⟨rfl, hall, o1, o2, rfl⟩ := (hPv _ _ _).mp h'
      have hi : i < ps.length := by rw [<- hP.1]; exact (List.getElem?_eq_some_iff.mp hx).1
      have hri : ps[i]? = some ps[i] := by simp [hi]
      obtain ⟨t, tw, e1, e2, e3⟩ := hP.2 i _ hri
      rw [hx] at e1
      cases e1
      obtain ⟨j0, j1, hwl, hwx⟩ := hok _ (List.mem_of_getElem? hri)
      obtain ⟨y', h1', h2', h3'⟩ := hW.mono s1
      obtain ⟨g, f1, f2, f3⟩ := h3'.get wf j0 j1
      walk_at "rd"
      refine ⟨_, SqT.of e2, rfl, _, _, rfl, _, _, rfl, rfl, _, h1', _, rfl, y', rfl, _, _, rfl, h2', _, f1, g, tw, _, _, _, ps[i].2, rfl, f2, f3, e3, isW_iff.mpr hwx, rfl, ?_⟩
      refine ite2 (fun hm => ?_) (fun hm => ?_)
      . replace hm : ansH hs ps[i] = 0 := V.int.inj hm
        have hf : ps.all (okT hs) = false := List.all_eq_false.mpr ⟨ps[i], List.mem_of_getElem? hri, by simp [okT, hm]⟩
        rw [hf] at k
        exact k _ s1
      . replace hm : ansH hs ps[i] ≠ 0 := fun z => hm (congrArg V.int z)
        refine (hPv _ _ _).mpr ⟨rfl, ?_, _, _, rfl⟩
        rw [List.take_add_one, hri, List.all_append, hall]
        simp [okT, hm]
    . obtain ⟨rfl, hall, o1, o2, rfl⟩ := (hPv _ _ _).mp h'
      rw [hP.1, List.take_length] at hall
      walk_at "rd"
      rw [hall] at k
      exact k _ s1
theorem Sd.all {hs : List Hus} {p B : Nat} {rs : List (Option (List Int))} (hS : Sd (A80 hs) p B hs.length rs) (hrl : rs.length = hs.length) {j : Nat} (hj : j < hs.length) {row : List Int} (ha : N80.Acc (A80 hs) p ((p : Int) + hs.length) (j : Int) row) : ∃ t, rs[j]? = some (some t) /\ N80.cod B t <= N80.cod B row := by
  rw [<- hrl] at ha
  obtain ⟨r, a1, a2, a3⟩ := N80.least_acc B ha
  have := N80.cnt_small (b := B) (show j < rs.length by omega) a3
  obtain ⟨t, b1, b2⟩ := hS.l j r (by omega) a1 (by rw [<- hrl]; exact this)
  exact ⟨t, b1, by omega⟩
theorem Gd.all {A : Int -> List Int -> Prop} {p h B : Nat} {good : List Int} (g : Gd A p h B h good) {j : Nat} (hj : j < h) {row : List Int} (ha : N80.Acc A p ((p : Int) + h) (j : Int) row) : (p : Int) + j ∈ good := by
  obtain ⟨r, a1, a2, a3⟩ := N80.least_acc B ha
  exact g.l j r hj a1 (N80.cnt_small (b := B) hj a3)
def sp_tg80 (K : PySem.W.Frag) : Sp := fun vs H Q _ => ∃ (wa l : Addr) (p : Nat) (xs ys : List V) (hs : List Hus) (rs : List (Option (List Int))), vs = [.ref wa, .ref l] /\ WorksH K H wa p xs hs /\ WfW (p + hs.length) hs /\ 1 <= hs.length /\ hs.length <= 3 /\ 1 <= p /\ p <= 6 /\ H l = some (.lst ys) /\ RO H ys rs /\ rs.length = hs.length /\ Sd (A80 hs) p (p + hs.length + 1) hs.length rs /\ ∀ H', Same H H' -> Q (.bl true) H'
theorem ok__law_told_good {f : Addr} {fd : FuncData} (F : Fun K "_law_told_good" "_law_told_good" s__law_told_good f fd) (T : Txt mg)
    {f__law_nested : Addr} {fd__law_nested : FuncData} (q__law_nested : Cal P w K mg base CX0 1 "_law_nested" s__law_nested ["plain", "helpers", "signs"] (sp_lnested80 K) f__law_nested fd__law_nested)
    {f__law_accepted : Addr} {fd__law_accepted : FuncData} (q__law_accepted : Cal P w K mg base CX0 2 "_law_accepted" s__law_accepted ["works", "signs", "top"] (sp_acc80 K) f__law_accepted fd__law_accepted)
    {f__law_row_good : Addr} {fd__law_row_good : FuncData} (q__law_row_good : Cal P w K mg base CX0 2 "_law_row_good" s__law_row_good ["found"] (sp_rg80 K) f__law_row_good fd__law_row_good)
    {f__law_letters_good : Addr} {fd__law_letters_good : FuncData} (q__law_letters_good : Cal P w K mg base CX0 2 "_law_letters_good" s__law_letters_good ["works"] (sp_lg80 K) f__law_letters_good fd__law_letters_good)
    : FnOk P w K mg base CX0 3 f fd ["works", "told"] (sp_tg80 K) := by
  refine F.ok sc__law_told_good (fun vs H Q E h => ?_) (fun cdv A outer s H vs Q E hr h => ?_)
  . obtain ⟨wa, l, p, xs, ys, hs, rs, rfl, _⟩ := h; rfl
  . obtain ⟨wa, l, p, xs, ys, hs, rs, rfl, hw, hwf, hh1, hh3, hp1, hp6, hl', hro, hrl, hS, k⟩ := h
    have hl := line1000
    refine ⟨_, (pss_cons (ps_setL (i := 2) sc__law_told_good.nd (pe_ixA (ixTD ix_tup) (pvD 0) pe_int))
      (pss_cons (ps_setL (i := 3) sc__law_told_good.nd (pe_callB (lenD call_len_seq) (by rfl) T.len PySem.boot_len (pa_cons (pe_ixA (ixTD ix_tup) (pvD 0) pe_int) pa_nil)))
      (pss_cons (ps_if (PW.pt (pw_or (pt_not (ptB (pt_val (pe_callB call_isinstW rfl T.isinstance PyProof.Rows.boot_isinstance (pa_cons (pvD 1) (pa_cons (pe_bltn (v := .ty "list") rfl T.list PyProof.Rows.boot_list rfl) pa_nil)))))) (pw_or1 (ptT (pt_cmpR (opN op_ne) (pe_callB (lenD call_len_seq) (by rfl) T.len PySem.boot_len (pa_cons (pvD 1) pa_nil)) (pvD 3) (nomark _))))))
      (pss_one (ps_ret pe_bl))
      pss_nil)
      (pss_cons (ps_setL (i := 4) sc__law_told_good.nd (pe_callQ q__law_letters_good hr.d pass0 (pa_cons (pvD 0) pa_nil)))
      (pss_cons (ps_for PassesOwn.never rfl (pi_range1 rfl T.range (pa_cons (pvD 3) pa_nil)) (pg_name (i := 5) sc__law_told_good.nd rfl (Or.inl rfl))
      (pss_cons (ps_if (ptT (pt_cmpR (opN op_ne) (pe_cmpR op_notN (pe_ixA (ixLD ix_list) (pvD 1) (pvD 5)) pe_non (nomark _)) (pe_cmpR op_in_seq (pe_op (opD0 op_add) (pvD 2) (pvD 5)) (pvD 4) rfl) (nomark _)))
      (pss_one (ps_ret pe_bl))
      pss_nil)
      (pss_one (ps_if (ptT (pt_cmpR op_notN (pe_ixA (ixLD ix_list) (pvD 1) (pvD 5)) pe_non (nomark _)))
      (pss_cons (ps_if (PW.pt (pw_or (pt_not (ptB (pt_val (pe_callQ q__law_row_good hr.d pass0 (pa_cons (pe_ixA (ixLD ix_list) (pvD 1) (pvD 5)) pa_nil))))) (pw_or1 (pt_not (ptB (pt_val (pe_callQ q__law_nested hr.d pass0 (pa_cons (pvD 2) (pa_cons (pvD 3) (pa_cons (pe_ixA (ixLD ix_list) (pvD 1) (pvD 5)) pa_nil))))))))))
      (pss_one (ps_ret pe_bl))
      pss_nil)
      (pss_one (ps_if (pt_not (ptB (pt_val (pe_callQ q__law_accepted hr.d pass0 (pa_cons (pvD 0) (pa_cons (pe_ixA (ixLD ix_list) (pvD 1) (pvD 5)) (pa_cons (pvD 5) pa_nil)))))))
      (pss_one (ps_ret pe_bl))
      pss_nil)))
      pss_nil))))
      (pss_one (ps_ret pe_bl))))))), ?_⟩
    obtain ⟨y, q1, q2, q3⟩ := id hw
    have hxl := q3.1
    walk_at "rd"
    have hyl := hro.1
    refine ⟨_, q1, _, rfl, _, q1, _, rfl, y, rfl, xs, .inr q2, _, _, .lst (SqL.of hl'), rel_ty, _, kit_self, ?_⟩
    rw [if_neg (by decide)]
    refine ⟨_, .inl (SqL.of hl'), ?_⟩
    rw [if_neg (by simp; omega)]
    refine ⟨wa, p, xs, hs, rfl, hw, hwf, hh1, hh3, hp1, hp6, fun g good H1 s1 hg hG => ⟨by omega, by omega, ?_⟩⟩
    rw [Int.toNat_natCast, hxl]
    obtain ⟨Pv, hPv⟩ : ∃ Pv : Nat -> St -> Hp -> Prop, ∀ i σ' H', Pv i σ' H' ↔ (Same H1 H' /\ ∃ o : Option V, σ' = [some (.ref wa), some (.ref l), some (.int p), some (.int hs.length), some (.ref g), o]) := ⟨_, fun _ _ _ => Iff.rfl⟩
    refine forR Pv ((hPv _ _ _).mpr ⟨Same.refl _, none, rfl⟩) (fun j σ2 H2 hj h2 => ?_) (fun σ2 H2 h2 => ?_)
    . obtain ⟨s2, o, rfl⟩ := (hPv _ _ _).mp h2
      rw [Int.zero_add]
      have s12 := s1.trans s2
      have hjr : j < rs.length := by omega
      have hjy : j < ys.length := by omega
      walk_at "rd"
      have hlH := s12 _ _ hl'
      have hgH := s2 _ _ hg
      have hp0 : (0 : Int) <= (p : Int) := by omega
      have hpe : (p : Int) <= (p : Int) + hs.length := by omega
      rcases hro.2 j rs[j] (List.getElem?_eq_getElem hjr) with ⟨z, ex⟩ | ⟨t, ta, er, ex, eh⟩
      . have hin : (p : Int) + j ∉ good := fun hc => by
          obtain ⟨row, ha⟩ := hG.s _ hc (by omega)
          rw [show (p : Int) + j - p = j by omega] at ha
          obtain ⟨t, ht, _⟩ := hS.all hrl hj ha
          rw [List.getElem?_eq_getElem hjr, z] at ht
          cases ht
        refine ⟨_, SqL.of hlH, _, atI_nat ex, _, .inl (SqL.of hgH), rfl, by simp [flatV], ?_⟩
        rw [inV_ints, decide_eq_false hin, if_neg (by decide)]
        refine ⟨_, SqL.of hlH, _, atI_nat ex, ?_⟩
        rw [if_neg (by decide)]
        exact (hPv _ _ _).mpr ⟨s2, _, rfl⟩
      . have hrj : rs[j]? = some (some t) := by rw [List.getElem?_eq_getElem hjr, er]
        have hA := hS.s j t hrj
        rw [hrl] at hA
        have htl := hS.m j t hrj
        have hmd : md80 hs.length <= 78 := by
          have : hs.length = 1 \/ hs.length = 2 \/ hs.length = 3 := by omega
          rcases this with e | e | e <;> rw [e] <;> decide
        have hin : (p : Int) + j ∈ good := hG.all hj hA
        have hnr := hA.n.row hp0 hpe
        have hacc := (acc_iff (hs := hs) (p := p) (j := (j : Int)) hh1 (by omega) (by omega) hnr).mpr hA
        refine ⟨_, SqL.of hlH, _, atI_nat ex, _, .inl (SqL.of hgH), rfl, by simp [flatV], ?_⟩
        rw [inV_ints, decide_eq_true hin, if_neg (by simp)]
        refine ⟨_, SqL.of hlH, _, atI_nat ex, ?_⟩
        rw [if_pos (by simp)]
        refine ⟨_, SqL.of hlH, _, atI_nat ex, ta, t, rfl, s12 _ _ eh, _, rfl, ?_⟩
        rw [if_neg (by decide)]
        refine ⟨_, SqL.of hlH, _, atI_nat ex, p, hs.length, ta, t, rfl, s12 _ _ eh, by omega, fun H3 s3 => ⟨_, rfl, ?_⟩⟩
        rw [hnr, if_neg (by decide)]
        have s123 := s12.trans s3
        refine ⟨_, SqL.of (s3 _ _ hlH), _, atI_nat ex, true, wa, ta, p, j, xs, hs, t, rfl, hw.mono s123, hwf, hh1, by omega, by omega, SqT.of (s123 _ _ eh), by omega, hnr, fun H4 s4 => ⟨_, rfl, ?_⟩⟩
        rw [hacc, if_neg (by decide)]
        exact (hPv _ _ _).mpr ⟨(s2.trans s3).trans s4, _, rfl⟩
    . obtain ⟨s2, o, rfl⟩ := (hPv _ _ _).mp h2
      walk_at "rd"
      exact k _ (s1.trans s2)
def sp_na80 (K : PySem.W.Frag) : Sp := fun vs H Q _ => ∃ (wa l b : Addr) (p : Nat) (xs ys : List V) (hs : List Hus) (rs : List (Option (List Int))) (ws : List Int), vs = [.ref wa, .ref l, .ref b] /\ WorksH K H wa p xs hs /\ WfW (p + hs.length) hs /\ 1 <= hs.length /\ hs.length <= 3 /\ 1 <= p /\ p <= 6 /\ H l = some (.lst ys) /\ RO H ys rs /\ rs.length = hs.length /\ Sd (A80 hs) p (p + hs.length + 1) hs.length rs /\ SqL K H b (ws.map V.int) /\ ws.length <= 900 /\ nestR (p : Int) ((p : Int) + hs.length) ws 0 = true /\ ∀ H', Same H H' -> Q (.bl true) H'
theorem ok__law_none_ahead {f : Addr} {fd : FuncData} (F : Fun K "_law_none_ahead" "_law_none_ahead" s__law_none_ahead f fd) (T : Txt mg)
    {f__law_accepted : Addr} {fd__law_accepted : FuncData} (q__law_accepted : Cal P w K mg base CX0 2 "_law_accepted" s__law_accepted ["works", "signs", "top"] (sp_acc80 K) f__law_accepted fd__law_accepted)
    {f__law_ahead : Addr} {fd__law_ahead : FuncData} (q__law_ahead : Cal P w K mg base CX0 1 "_law_ahead" s__law_ahead ["one", "other"] (sp_ah80 K) f__law_ahead fd__law_ahead)
    : FnOk P w K mg base CX0 3 f fd ["works", "told", "row"] (sp_na80 K) := by
  refine F.ok sc__law_none_ahead (fun vs H Q E h => ?_) (fun cdv A outer s H vs Q E hr h => ?_)
  . obtain ⟨wa, l, b, p, xs, ys, hs, rs, ws, rfl, _⟩ := h; rfl
  . obtain ⟨wa, l, b, p, xs, ys, hs, rs, ws, rfl, hw, hwf, hh1, hh3, hp1, hp6, hl', hro, hrl, hS, hb, hbl, hn, k⟩ := h
    have hl := line1000
    refine ⟨_, (pss_cons (ps_for PassesOwn.never rfl (pi_range1 rfl T.range (pa_cons (pe_callB (lenD call_len_seq) (by rfl) T.len PySem.boot_len (pa_cons (pvD 1) pa_nil)) pa_nil)) (pg_name (i := 3) sc__law_none_ahead.nd rfl (Or.inl rfl))
      (pss_one (ps_if (ptB (pt_val (pe_callQ q__law_accepted hr.d pass0 (pa_cons (pvD 0) (pa_cons (pvD 2) (pa_cons (pvD 3) pa_nil))))))
      (pss_one (ps_if (PW.pt (pw_or (ptT (pt_cmpR op_isN (pe_ixA (ixLD ix_list) (pvD 1) (pvD 3)) pe_non (nomark _))) (pw_or1 (ptB (pt_val (pe_callQ q__law_ahead hr.d pass0 (pa_cons (pvD 2) (pa_cons (pe_ixA (ixLD ix_list) (pvD 1) (pvD 3)) pa_nil))))))))
      (pss_one (ps_ret pe_bl))
      pss_nil))
      pss_nil)))
      (pss_one (ps_ret pe_bl))), ?_⟩
    walk_at "rd"
    have hyl := hro.1
    refine ⟨_, .inl (SqL.of hl'), by omega, by omega, ?_⟩
    rw [Int.toNat_natCast, hyl, hrl]
    obtain ⟨Pv, hPv⟩ : ∃ Pv : Nat -> St -> Hp -> Prop, ∀ i σ' H', Pv i σ' H' ↔ (Same H H' /\ ∃ o : Option V, σ' = [some (.ref wa), some (.ref l), some (.ref b), o]) := ⟨_, fun _ _ _ => Iff.rfl⟩
    refine forR Pv ((hPv _ _ _).mpr ⟨Same.refl _, none, rfl⟩) (fun j σ2 H2 hj h2 => ?_) (fun σ2 H2 h2 => ?_)
    . obtain ⟨s2, o, rfl⟩ := (hPv _ _ _).mp h2
      rw [Int.zero_add]
      have hjr : j < rs.length := by omega
      have hjy : j < ys.length := by omega
      have hacc := acc_iff (hs := hs) (p := p) (j := (j : Int)) hh1 (by omega) (by omega) hn
      walk_at "rd"
      refine ⟨false, wa, b, p, j, xs, hs, ws, rfl, hw.mono s2, hwf, hh1, by omega, by omega, s2.seq hb, hbl, hn, fun H3 s3 => ⟨_, rfl, ?_⟩⟩
      cases hac : accB hs p j ws with
      | false => rw [if_neg (by decide)]; exact (hPv _ _ _).mpr ⟨s2.trans s3, _, rfl⟩
      | true =>
        rw [if_pos rfl]
        have hA := hacc.mp hac
        obtain ⟨t, ht1, ht2⟩ := hS.all hrl hj hA
        have s23 := s2.trans s3
        rcases hro.2 j _ ht1 with ⟨z, _⟩ | ⟨r, ta, er, ex, eh⟩
        . cases z
        cases er
        have hA2 := hS.s j t ht1
        rw [hrl] at hA2
        have hp0 : (0 : Int) <= (p : Int) := by omega
        have hpe : (p : Int) <= (p : Int) + hs.length := by omega
        have hBe : ((p + hs.length + 1 : Nat) : Int) = (p : Int) + hs.length + 1 := by omega
        have hle : lessW ws t = false := by
          cases hq : lessW ws t with
          | false => rfl
          | true =>
            have := (N80.less_iff (show 2 <= p + hs.length + 1 by omega) (hA.n.dg hp0 hBe hpe) (hA2.n.dg hp0 hBe hpe)).mp hq
            omega
        walk_at "rd"
        have hlH := s23 _ _ hl'
        refine ⟨_, SqL.of hlH, _, atI_nat ex, ?_⟩
        rw [if_neg (by simp)]
        refine ⟨_, SqL.of hlH, _, atI_nat ex, b, ta, ws, t, rfl, s23.seq hb, s23 _ _ eh, by omega, _, rfl, ?_⟩
        rw [hle, if_neg (by decide)]
        exact (hPv _ _ _).mpr ⟨s23, _, rfl⟩
    . obtain ⟨s2, o, rfl⟩ := (hPv _ _ _).mp h2
      walk_at "rd"
      exact k _ s2
def RwL (H : Hp) (q : Addr) (p e : Int) (xs : List V) : Prop := ∀ (i : Nat) (x : V), xs[i]? = some x -> ∃ (a : Addr) (r : List Int), x = .ref a /\ a ≠ q /\ H a = some (.lst (r.map V.int)) /\ r.length <= 80 * i /\ nestR p e r 0 = true
theorem RwL.mono {H H' : Hp} {q : Addr} {p e : Int} {xs : List V} (h : RwL H q p e xs) (s : Same H H') : RwL H' q p e xs := fun i x hx => by
  obtain ⟨a, r, h1, h2, h3, h4⟩ := h i x hx
  exact ⟨a, r, h1, h2, s _ _ h3, h4⟩
theorem RwL.put {H : Hp} {q : Addr} {p e : Int} {xs ys : List V} (h : RwL H q p e xs) {a : Addr} {r : List Int} (h1 : a ≠ q) (h2 : H a = some (.lst (r.map V.int))) (h3 : r.length <= 80 * xs.length) (h4 : nestR p e r 0 = true) : RwL (upd H q (.lst ys)) q p e (xs ++ [.ref a]) := fun i x hx => by
  by_cases hi : i < xs.length
  . rw [List.getElem?_append_left hi] at hx
    obtain ⟨a', r', e1, e2, e3, e4⟩ := h i x hx
    exact ⟨a', r', e1, e2, by rw [upd_ne e2]; exact e3, e4⟩
  . have hl := (List.getElem?_eq_some_iff.mp hx).1
    rw [List.length_append, List.length_singleton] at hl
    have e : i = xs.length := by omega
    subst e
    rw [List.getElem?_append_right (Nat.le_refl _), Nat.sub_self] at hx
    cases hx
    exact ⟨a, r, rfl, h1, by rw [upd_ne h1]; exact h2, h3, h4⟩
def sp_rb80 (K : PySem.W.Frag) : Sp := fun vs H Q _ => ∃ (wa l f : Addr) (p : Nat) (xs ys : List V) (hs : List Hus) (rs : List (Option (List Int))) (ns : List Int), vs = [.ref wa, .ref l, .ref f] /\ WorksH K H wa p xs hs /\ 1 <= hs.length /\ hs.length <= 3 /\ 1 <= p /\ p <= 6 /\ H l = some (.lst ys) /\ RO H ys rs /\ rs.length = hs.length /\ (∀ (j : Nat) t, rs[j]? = some (some t) -> N80.Nst (p : Int) ((p : Int) + hs.length) t /\ t.length <= 78) /\ SqL K H f (ns.map V.int) /\ ns.length <= 8 /\ ∀ q zs H', Same H H' -> H' q = some (.lst zs) -> RwL H' q p ((p : Int) + hs.length) zs -> zs.length <= 9 -> Q (.ref q) H'
theorem ok__law_rows_by {f : Addr} {fd : FuncData} (F : Fun K "_law_rows_by" "_law_rows_by" s__law_rows_by f fd) (T : Txt mg)
    : FnOk P w K mg base CX0 1 f fd ["works", "told", "flow"] (sp_rb80 K) := by
  refine F.ok sc__law_rows_by (fun vs H Q E h => ?_) (fun cdv A outer s H vs Q E hr h => ?_)
  . obtain ⟨wa, l, f, p, xs, ys, hs, rs, ns, rfl, _⟩ := h; rfl
  . obtain ⟨wa, l, f, p, xs, ys, hs, rs, ns, rfl, hw, hh1, hh3, hp1, hp6, hl', hro, hrl, hN, hf, hfl, k⟩ := h
    have hl := line1000
    refine ⟨_, (pss_cons (ps_setL (i := 3) sc__law_rows_by.nd (pe_ixA (ixTD ix_tup) (pvD 0) pe_int))
      (pss_cons (ps_setL (i := 4) sc__law_rows_by.nd (pe_callB (lenD call_len_seq) (by rfl) T.len PySem.boot_len (pa_cons (pe_ixA (ixTD ix_tup) (pvD 0) pe_int) pa_nil)))
      (pss_cons (ps_setL (i := 5) sc__law_rows_by.nd (pe_listRng rfl rfl T.list rfl T.range (pvD 3)))
      (pss_cons (ps_for PassesOwn.never rfl (pi_range1 rfl T.range (pa_cons (pvD 4) pa_nil)) (pg_name (i := 6) sc__law_rows_by.nd rfl (Or.inl rfl))
      (pss_one (ps_if (ptT (pt_cmpR op_notN (pe_ixA (ixLD ix_list) (pvD 1) (pvD 6)) pe_non (nomark _)))
      (pss_one (ps_expr (pe_bm PySem.F.plainAttrs_list PySem.F.slot_list_append PySem.F.type_list_append mt_append (pvD 5) (pa_cons (pe_op (opD0 op_add) (pvD 3) (pvD 6)) pa_nil))))
      pss_nil)))
      (pss_cons (ps_setL (i := 7) sc__law_rows_by.nd (pe_lst (pa_cons (pe_lst pa_nil) pa_nil)))
      (pss_cons (ps_for PassesOwn.never rfl (pi_list (pvD 2)) (pg_name (i := 8) sc__law_rows_by.nd rfl (Or.inl rfl))
      (pss_cons (ps_setL (i := 9) sc__law_rows_by.nd (pe_ixA (ixLD ix_list) (pvD 5) (pe_op (opD op_mod) (pvD 8) (pe_callB (lenD call_len_seq) (by rfl) T.len PySem.boot_len (pa_cons (pvD 5) pa_nil)))))
      (pss_cons (ps_setL (i := 10) sc__law_rows_by.nd (pe_op op_cat (pe_ixA (ixLD ix_list) (pvD 7) (pe_un un_neg pe_int)) (pe_lst (pa_cons (pvD 9) pa_nil))))
      (pss_cut (ps_if (ptT (pt_cmpR (opD0 op_ge) (pvD 9) (pvD 3) (nomark _)))
      (pss_one (ps_setL (i := 10) sc__law_rows_by.nd (pe_op op_cat (pe_op op_cat (pvD 10) (pe_callTy call_list_of rfl T.list PyProof.Rows.boot_list (pa_cons (pe_ixA (ixLD ix_list) (pvD 1) (pe_op (opD0 op_sub) (pvD 9) (pvD 3))) pa_nil))) (pe_lst (pa_cons (pe_op (opD0 op_add) (pvD 3) (pvD 4)) pa_nil)))))
      pss_nil)
      (pss_one (ps_expr (pe_bm PySem.F.plainAttrs_list PySem.F.slot_list_append PySem.F.type_list_append mt_append (pvD 7) (pa_cons (pvD 10) pa_nil))))))))
      (pss_one (ps_ret (pvD 7))))))))), ?_⟩
    obtain ⟨y, q1, q2, q3⟩ := id hw
    have hxl := q3.1
    have hyl := hro.1
    walk_at "rd"
    refine ⟨_, q1, _, rfl, _, q1, _, rfl, y, rfl, xs, .inr q2, p, rfl, by omega, by omega, fun g hg => ⟨by omega, by omega, ?_⟩⟩
    rw [Int.toNat_natCast, Int.toNat_natCast, hxl]
    have s1 := Same.new hg (o := .lst ((ups p).map V.int))
    obtain ⟨Pv, hPv⟩ : ∃ Pv : Nat -> St -> Hp -> Prop, ∀ i σ' H', Pv i σ' H' ↔ (∃ (sg : List Int) (o6 : Option V), Same H H' /\ H' g = some (.lst (sg.map V.int)) /\ 1 <= sg.length /\ sg.length <= p + i /\ (∀ x ∈ sg, (0 <= x /\ x < p) \/ ∃ (j : Nat) (t : List Int), x = (p : Int) + j /\ rs[j]? = some (some t)) /\ σ' = [some (.ref wa), some (.ref l), some (.ref f), some (.int p), some (.int hs.length), some (.ref g), o6, none, none, none, none]) := ⟨_, fun _ _ _ => Iff.rfl⟩
    refine forR Pv ((hPv _ _ _).mpr ⟨ups p, none, s1, upd_same, by rw [ups_len]; omega, by rw [ups_len]; omega, fun x hx => .inl (ups_mem.mp hx), rfl⟩) (fun j σ2 H2 hj h2 => ?_) (fun σ2 H2 h2 => ?_)
    . obtain ⟨sg, o6, s2, hg2, hsl, hsm, hsx, rfl⟩ := (hPv _ _ _).mp h2
      rw [Int.zero_add]
      have hjr : j < rs.length := by omega
      walk_at "rd"
      have hlH := s2 _ _ hl'
      rcases hro.2 j rs[j] (List.getElem?_eq_getElem hjr) with ⟨z, ex⟩ | ⟨t, ta, er, ex, eh⟩
      . refine ⟨_, SqL.of hlH, _, atI_nat ex, ?_⟩
        rw [if_neg (by decide)]
        exact (hPv _ _ _).mpr ⟨sg, _, s2, hg2, hsl, by omega, hsx, rfl⟩
      . refine ⟨_, SqL.of hlH, _, atI_nat ex, ?_⟩
        rw [if_pos (by simp)]
        refine ⟨.inl ⟨rfl, _, SqL.of hg2⟩, _, hg2, by rw [List.length_map]; omega, (hPv _ _ _).mpr ⟨sg ++ [(p : Int) + j], _, s2.over hg, by rw [upd_same, List.map_append]; rfl, by simp, by simp; omega, fun x hx => ?_, rfl⟩⟩
        rcases List.mem_append.mp hx with h | h
        . exact hsx x h
        . exact .inr ⟨j, t, List.mem_singleton.mp h, by rw [List.getElem?_eq_getElem hjr, er]⟩
    . obtain ⟨sg, o6, s2, hg2, hsl, hsm, hsx, rfl⟩ := (hPv _ _ _).mp h2
      walk_at "rd"
      refine ⟨by omega, fun e0 he0 => ⟨by omega, fun q hq => ?_⟩⟩
      have s3 := (Same.new he0 (o := .lst [])).newT hq (o := .lst [V.ref e0])
      have hqe : q ≠ e0 := (none_of_upd hq).2
      have hqH : H q = none := s2.none (none_of_upd hq).1
      have hq3 : upd (upd H2 e0 (.lst [])) q (.lst [V.ref e0]) q = some (.lst [V.ref e0]) := upd_same
      have he3 : upd (upd H2 e0 (.lst [])) q (.lst [V.ref e0]) e0 = some (.lst []) := by rw [upd_ne hqe.symm]; exact upd_same
      have s13 := s2.trans s3
      have hg3 := s3 _ _ hg2
      generalize upd (upd H2 e0 (.lst [])) q (.lst [V.ref e0]) = H3 at s3 hq3 he3 s13 hg3 ⊢
      have hgq : g ≠ q := fun z => by
        have h1 := (none_of_upd hq).1
        rw [<- z, hg2] at h1; cases h1
      refine ⟨⟨_, s13.seq hf⟩, ?_⟩
      obtain ⟨Pz, hPz⟩ : ∃ Pv : Nat -> St -> Hp -> Prop, ∀ i σ' H', Pv i σ' H' ↔ (∃ (zs : List V) (o6 o8 o9 o10 : Option V), Same H H' /\ H' g = some (.lst (sg.map V.int)) /\ H' q = some (.lst zs) /\ zs.length = i + 1 /\ RwL H' q p ((p : Int) + hs.length) zs /\ σ' = [some (.ref wa), some (.ref l), some (.ref f), some (.int p), some (.int hs.length), some (.ref g), o6, some (.ref q), o8, o9, o10]) := ⟨_, fun _ _ _ => Iff.rfl⟩
      refine forL (xs := ns.map V.int) Pz ((hPz _ _ _).mpr ⟨[.ref e0], _, none, none, none, s13, hg3, hq3, rfl, fun i x hx => ?_, rfl⟩) (fun i σ' H' _ h' => by obtain ⟨_, _, _, _, _, s', _⟩ := (hPz _ _ _).mp h'; exact s'.seq hf) (fun i x σ4 H4 hx h4 => ?_) (fun σ4 H4 h4 => ?_)
      . match i, hx with
        | 0, hx => cases hx; exact ⟨e0, [], rfl, hqe.symm, he3, by simp, rfl⟩
        | i + 1, hx => cases hx
      . obtain ⟨zs, p6, p8, p9, p10, s4, hg4, hq4, hzl, hR4, rfl⟩ := (hPz _ _ _).mp h4
        obtain ⟨c, hc, rfl⟩ := get_mapI hx
        have hi := (List.getElem?_eq_some_iff.mp hc).1
        have b0 := Int.emod_nonneg c (show (sg.length : Int) ≠ 0 by omega)
        have b1 := Int.emod_lt_of_pos c (show (0 : Int) < sg.length by omega)
        obtain ⟨m, hm, hml⟩ : ∃ m : Nat, c % (sg.length : Int) = m /\ m < sg.length := ⟨(c % (sg.length : Int)).toNat, by omega, by omega⟩
        have hsgm : sg[m]? = some sg[m] := List.getElem?_eq_getElem hml
        have hsgx := hsx _ (List.getElem_mem hml)
        generalize sg[m] = sn at hsgm hsgx
        have hzi : i < zs.length := by omega
        obtain ⟨a, r, ea, haq, har, hrl2, hrn⟩ := hR4 i zs[i] (List.getElem?_eq_getElem hzi)
        walk_at "rd"
        refine ⟨_, .inl (SqL.of hg4), by rw [List.length_map]; omega, _, SqL.of hg4, ?_⟩
        rw [List.length_map, hm]
        refine ⟨_, atI_nat (by rw [List.getElem?_map, hsgm]; rfl), _, SqL.of hq4, _, atI_end (v := V.ref a) (by rw [hzl, Nat.add_sub_cancel, List.getElem?_eq_getElem hzi, ea]), by omega, fun p1 hp1 => ⟨a, rfl, _, Same.new hp1 _ _ har, _, upd_same, by simp; omega, fun p2 hp2 => ?_⟩⟩
        have s5 := (Same.new hp1 (o := .lst [V.int sn])).newT hp2 (o := .lst (List.map V.int r ++ [V.int sn]))
        have hp2q : p2 ≠ q := fun z => by
          have h1 := (none_of_upd hp2).1
          rw [z, hq4] at h1; cases h1
        have h52 : upd (upd H4 p1 (.lst [V.int sn])) p2 (.lst (List.map V.int r ++ [V.int sn])) p2 = some (.lst ((r ++ [sn]).map V.int)) := by rw [upd_same, List.map_append]; rfl
        generalize upd (upd H4 p1 (.lst [V.int sn])) p2 (.lst (List.map V.int r ++ [V.int sn])) = H5 at s5 h52 ⊢
        have s45 := s4.trans s5
        have hp0 : (0 : Int) <= (p : Int) := by omega
        have hpe : (p : Int) <= (p : Int) + hs.length := by omega
        have hrN := (N80.nst_iff hp0 hpe).mp hrn
        obtain ⟨R, hR⟩ : ∃ R : St -> Hp -> Prop, ∀ σ' H', R σ' H' ↔ (∃ (a' : Addr) (r' : List Int), Same H5 H' /\ a' ≠ q /\ H' a' = some (.lst (r'.map V.int)) /\ r'.length <= 80 * (i + 1) /\ nestR (p : Int) ((p : Int) + hs.length) r' 0 = true /\ σ' = [some (.ref wa), some (.ref l), some (.ref f), some (.int p), some (.int hs.length), some (.ref g), p6, some (.ref q), some (.int c), some (.int sn), some (.ref a')]) := ⟨_, fun _ _ => Iff.rfl⟩
        refine ⟨R, ?_, fun σ6 H6 h6 => ?_⟩
        . walk_at "rd"
          refine ite2 (fun hge => ?_) (fun hlt => ?_)
          . obtain ⟨j, t, rfl, hrj⟩ : ∃ (j : Nat) (t : List Int), sn = (p : Int) + j /\ rs[j]? = some (some t) := by
              rcases hsgx with h | h
              . omega
              . exact h
            have hjr := (List.getElem?_eq_some_iff.mp hrj).1
            obtain ⟨tN, tl⟩ := hN j t hrj
            rcases hro.2 j _ hrj with ⟨z, _⟩ | ⟨t', ta, er, ex, eh⟩
            . cases z
            cases er
            have hlH := s45 _ _ hl'
            refine ⟨_, SqL.of hlH, ?_⟩
            rw [show (p : Int) + j - p = (j : Int) by omega]
            refine ⟨_, atI_nat ex, ta, rfl, _, .inr (SqT.of (s45 _ _ eh)), fun u1 hu1 => ?_⟩
            have t1 := Same.new hu1 (o := .lst (t.map V.int))
            have hu1q : u1 ≠ p2 := fun z => by rw [z, h52] at hu1; cases hu1
            refine ⟨_, t1 _ _ h52, _, upd_same, by simp; omega, fun u2 hu2 => ⟨by omega, fun u3 hu3 => ⟨_, Same.new hu3 _ _ upd_same, _, upd_same, by simp; omega, fun u4 hu4 => ?_⟩⟩⟩
            refine (hR _ _).mpr ⟨u4, r ++ (((p : Int) + j) :: t ++ [(p : Int) + hs.length]), ((t1.newT hu2).newT hu3).newT hu4, fun z => ?_, ?_, ?_, (hrN.app (N80.nst_ca (by omega) (by omega) tN)).row hp0 hpe, rfl⟩
            . have := (none_of_upd (none_of_upd (none_of_upd hu4).1).1).1
              rw [z, s5 _ _ hq4] at this; cases this
            . rw [upd_same]; simp
            . simp; omega
          . refine (hR _ _).mpr ⟨p2, r ++ [sn], Same.refl _, hp2q, h52, by simp; omega, (hrN.app (N80.nst_pl ?_ (by omega))).row hp0 hpe, rfl⟩
            rcases hsgx with h | ⟨j, t, h, _⟩ <;> omega
        . obtain ⟨a', r', s6, h1, h2, h3, h4', rfl⟩ := (hR _ _).mp h6
          have hq6 := s6 _ _ (s5 _ _ hq4)
          walk_at "rd"
          refine ⟨.inl ⟨rfl, _, SqL.of hq6⟩, _, hq6, by omega, (hPz _ _ _).mpr ⟨zs ++ [.ref a'], _, _, _, _, (s45.trans s6).over hqH, ?_, upd_same, by simp; omega, (hR4.mono (s5.trans s6)).put h1 h2 (by rw [hzl]; exact h3) h4', rfl⟩⟩
          rw [upd_ne hgq]; exact s6 _ _ (s5 _ _ hg4)
      . obtain ⟨zs, p6, p8, p9, p10, s4, hg4, hq4, hzl, hR4, rfl⟩ := (hPz _ _ _).mp h4
        rw [List.length_map] at hzl
        walk_at "rd"
        exact k q zs H4 s4 hq4 hR4 (by omega)
theorem cut_ints (ns : List Int) (i j : Option Int) : ∃ cs : List Int, cutV (ns.map V.int) i j = cs.map V.int /\ cs.length <= ns.length := by
  have hle := cutV_length (ns.map V.int) i j
  rw [List.length_map] at hle
  unfold cutV at hle ⊢
  rw [<- List.map_drop, <- List.map_take] at hle ⊢
  exact ⟨_, rfl, by rw [List.length_map] at hle; omega⟩
theorem cut_len8 (xs : List V) (c : Int) (hc : 0 <= c) : (cutV xs (some c) (some (c + 8))).length <= 8 := by
  obtain ⟨m, rfl⟩ : ∃ m : Nat, c = (m : Int) := ⟨c.toNat, by omega⟩
  unfold cutV
  rw [show (m : Int) + 8 = ((m + 8 : Nat) : Int) by omega, HT.sIx_nat, HT.sIx_nat, List.length_take, List.length_drop]
  omega
def spLaw (K : PySem.W.Frag) : Sp := fun vs H Q _ => ∃ (a : Addr) (ns : List Int), vs = [.ref a] /\ SqL K H a (ns.map V.int) /\ ns.length <= 63 /\ H (tabP K "least_row_taken") = some (.tbl #[]) /\ ∀ H', Q (.bl true) H'
theorem ok_law {f : Addr} {fd : FuncData} (F : Fun K "law" "law" s_law f fd) (T : Txt mg)
    {f_shortest : Addr} {fd_shortest : FuncData} (q_shortest : Cal P w K mg base CX0 7 "shortest" s_shortest ["works"] (sp_sh80 K) f_shortest fd_shortest)
    {f__law_cell_at : Addr} {fd__law_cell_at : FuncData} (q__law_cell_at : Cal P w K mg base CX0 1 "_law_cell_at" s__law_cell_at ["script", "k"] (sp_cell K) f__law_cell_at fd__law_cell_at)
    {f__law_nest : Addr} {fd__law_nest : FuncData} (q__law_nest : Cal P w K mg base CX0 1 "_law_nest" s__law_nest ["flow", "plain", "helpers"] (sp_lnest K) f__law_nest fd__law_nest)
    {f__law_works_by : Addr} {fd__law_works_by : FuncData} (q__law_works_by : Cal P w K mg base CX0 3 "_law_works_by" s__law_works_by ["flow", "plain", "helpers"] (sp_wby79 K) f__law_works_by fd__law_works_by)
    {f__law_told_good : Addr} {fd__law_told_good : FuncData} (q__law_told_good : Cal P w K mg base CX0 3 "_law_told_good" s__law_told_good ["works", "told"] (sp_tg80 K) f__law_told_good fd__law_told_good)
    {f__law_none_ahead : Addr} {fd__law_none_ahead : FuncData} (q__law_none_ahead : Cal P w K mg base CX0 3 "_law_none_ahead" s__law_none_ahead ["works", "told", "row"] (sp_na80 K) f__law_none_ahead fd__law_none_ahead)
    {f__law_rows_by : Addr} {fd__law_rows_by : FuncData} (q__law_rows_by : Cal P w K mg base CX0 1 "_law_rows_by" s__law_rows_by ["works", "told", "flow"] (sp_rb80 K) f__law_rows_by fd__law_rows_by)
    : FnOk P w K mg base CX0 8 f fd ["script"] (spLaw K) := by
  refine F.ok sc_law (fun vs H Q E h => ?_) (fun cdv A outer s H vs Q E hr h => ?_)
  . obtain ⟨a, ns, rfl, _⟩ := h; rfl
  . obtain ⟨a, ns, rfl, hs, hz, hT, k⟩ := h
    have hl := line1000
    refine ⟨_, (pss_cons (ps_setL (i := 1) sc_law.nd (pe_op (opD0 op_add) pe_int (pe_op (opD op_mod) (pe_callQ q__law_cell_at hr.d pass0 (pa_cons (pvD 0) (pa_cons pe_int pa_nil))) pe_int)))
      (pss_cons (ps_setL (i := 2) sc_law.nd (pe_op (opD0 op_add) pe_int (pe_op (opD op_mod) (pe_op (opD op_fdiv) (pe_callQ q__law_cell_at hr.d pass0 (pa_cons (pvD 0) (pa_cons pe_int pa_nil))) pe_int) (pe_callB (call_min2 rfl) rfl T.min PyProof.Rows.boot_min (pa_cons pe_int (pa_cons (pe_op (opD0 op_sub) pe_int (pvD 1)) pa_nil))))))
      (pss_cons (ps_setL (i := 3) sc_law.nd (pe_op (opD0 op_add) pe_int (pe_op (opD op_mod) (pe_callQ q__law_cell_at hr.d pass0 (pa_cons (pvD 0) (pa_cons pe_int pa_nil))) (pe_callB (call_max2 rfl) rfl T.max PyProof.Rows.boot_max (pa_cons pe_int (pa_cons (pe_op (opD0 op_sub) (pe_callB (lenD call_len_seq) (by rfl) T.len PySem.boot_len (pa_cons (pvD 0) pa_nil)) pe_int) pa_nil))))))
      (pss_cons (ps_setL (i := 4) sc_law.nd (pe_callQ q__law_works_by hr.d pass0 (pa_cons (pe_slice sl_list (pvD 0) (po_some pe_int) (po_some (pvD 3))) (pa_cons (pvD 1) (pa_cons (pvD 2) pa_nil)))))
      (pss_cons (ps_setL (i := 5) sc_law.nd (pe_callQ q_shortest hr.d pass0 (pa_cons (pvD 4) pa_nil)))
      (pss_cons (ps_if (pt_not (ptB (pt_val (pe_callQ q__law_told_good hr.d pass0 (pa_cons (pvD 4) (pa_cons (pvD 5) pa_nil))))))
      (pss_one (ps_ret pe_bl))
      pss_nil)
      (pss_cons (ps_for PassesOwn.never rfl (pi_list (pe_callQ q__law_rows_by hr.d pass0 (pa_cons (pvD 4) (pa_cons (pvD 5) (pa_cons (pe_slice sl_list (pvD 0) (po_some (pvD 3)) (po_some (pe_op (opD0 op_add) (pvD 3) pe_int))) pa_nil))))) (pg_name (i := 6) sc_law.nd rfl (Or.inl rfl))
      (pss_one (ps_if (pt_not (ptB (pt_val (pe_callQ q__law_none_ahead hr.d pass0 (pa_cons (pvD 4) (pa_cons (pvD 5) (pa_cons (pvD 6) pa_nil)))))))
      (pss_one (ps_ret pe_bl))
      pss_nil)))
      (pss_one (ps_ret (pe_callQ q__law_none_ahead hr.d pass0 (pa_cons (pvD 4) (pa_cons (pvD 5) (pa_cons (pe_callQ q__law_nest hr.d pass0 (pa_cons (pe_slice sl_list (pvD 0) (po_some (pvD 3)) (po_some (pe_op (opD0 op_add) (pvD 3) pe_int))) (pa_cons (pvD 1) (pa_cons (pvD 2) pa_nil)))) pa_nil))))))))))))), ?_⟩
    walk_at "rd"
    refine ⟨a, ns, 0, rfl, hs, ?_⟩
    walk_at "rd"
    have a0 := Int.emod_nonneg (cell ns 0) (show (4 : Int) ≠ 0 by decide)
    have a1 := Int.emod_lt_of_pos (cell ns 0) (show (0 : Int) < 4 by decide)
    obtain ⟨p, hp, hp1', hp4⟩ : ∃ p : Nat, 1 + cell ns 0 % 4 = (p : Int) /\ 1 <= p /\ p <= 4 := ⟨(1 + cell ns 0 % 4).toNat, by omega, by omega, by omega⟩
    rw [hp]
    obtain ⟨m3, hm0, hm1, hm2, hm6⟩ : ∃ m : Int, (if 6 - (p : Int) < 3 then 6 - (p : Int) else 3) = m /\ 0 < m /\ m <= 3 /\ m <= 6 - p := ⟨_, rfl, by split <;> omega, by split <;> omega, by split <;> omega⟩
    rw [hm0]
    refine ⟨by decide, a, ns, 0, rfl, hs, _, rfl, ⟨by decide, by decide⟩, hm1, ?_⟩
    have b0 := Int.emod_nonneg (cell ns 0 / 4) (show m3 ≠ 0 by omega)
    have b1 := Int.emod_lt_of_pos (cell ns 0 / 4) hm1
    generalize cell ns 0 / 4 % m3 = c3 at b0 b1 ⊢
    obtain ⟨h, hh, hh1, hh3, hh6⟩ : ∃ h : Nat, 1 + c3 = (h : Int) /\ 1 <= h /\ h <= 3 /\ p + h <= 6 := ⟨(1 + c3).toNat, by omega, by omega, by omega, by omega⟩
    rw [hh]
    refine ⟨a, ns, 1, rfl, hs, _, .inl hs, _, rfl, by split <;> omega, _, hs, fun p1 hp1 => ?_⟩
    have hct0 : (0 : Int) <= 2 + cell ns 1 % (if ((List.map V.int ns).length : Int) - 1 > 1 then ((List.map V.int ns).length : Int) - 1 else 1) := by
      have := Int.emod_nonneg (cell ns 1) (show (if ((List.map V.int ns).length : Int) - 1 > 1 then ((List.map V.int ns).length : Int) - 1 else 1) ≠ 0 by split <;> omega)
      omega
    generalize (2 + cell ns 1 % (if ((List.map V.int ns).length : Int) - 1 > 1 then ((List.map V.int ns).length : Int) - 1 else 1)) = ct at hct0 ⊢
    obtain ⟨cs, hcs, hcl⟩ := cut_ints ns (some 2) (some ct)
    obtain ⟨gs, hgs, hgl⟩ := cut_ints ns (some ct) (some (ct + 100))
    obtain ⟨es, hes, _⟩ := cut_ints ns (some ct) (some (ct + 8))
    have hel := cut_len8 (ns.map V.int) ct hct0
    rw [hes, List.length_map] at hel
    rw [hcs]
    have s0 := Same.new hp1 (o := .lst (cs.map V.int))
    refine ⟨p1, cs, p, h, rfl, SqL.of upd_same, hp1', hh1, hh3, hh6, fun w' xs hls H1 s1 hW hlen wf h4 => ?_⟩
    subst hlen
    have hT1 := (s0.trans s1) _ _ hT
    have hs1 := (s0.trans s1).seq hs
    generalize upd H p1 (.lst (cs.map V.int)) = H0 at s0 s1
    refine ⟨w', p, xs, hls, rfl, hW, wf, hh1, hh3, hp1', by omega, h4, .inl hT1, fun l ys rs H2 s2 hL2 hl2 hro hrl hS => ?_⟩
    have hs2 := SameT.lsq (T := tabP K "least_row_taken") s2 hT1 hs1
    have tq2 : TSq K H1 H2 := SameT.tsq2 (T := tabP K "least_row_taken") s2 hT1
    have hW2 : WorksH K H2 w' p xs hls := by
      obtain ⟨y, a1, a2, a3⟩ := hW
      exact ⟨y, tq2 _ _ a1, tq2 _ _ a2, a3.1, fun i r hi => by
        obtain ⟨b, b1, b2⟩ := a3.2 i r hi
        exact ⟨b, b1, House.monoQ b2 tq2⟩⟩
    refine ⟨w', l, p, xs, ys, hls, rs, rfl, hW2, wf, hh1, hh3, hp1', by omega, hl2, hro, hrl, hS, fun H3 s3 => ⟨_, rfl, ?_⟩⟩
    rw [if_neg (by decide)]
    refine ⟨_, s3.seq hs2, fun p2 hp2 => ?_⟩
    rw [hes]
    have s4 := s3.newT hp2 (o := .lst (es.map V.int))
    have h78 : md80 hls.length <= 78 := by
      have : hls.length = 1 \/ hls.length = 2 \/ hls.length = 3 := by omega
      rcases this with e | e | e <;> rw [e] <;> decide
    have hro' : ∀ {H' : Hp}, Same H2 H' -> RO H' ys rs := fun {H'} s => hro.mono (fun b xs e => s _ _ e)
    refine ⟨w', l, p2, p, xs, ys, hls, rs, es, rfl, hW2.mono s4, hh1, hh3, hp1', by omega, s4 _ _ hl2, hro' s4, hrl, fun j t ht => ?_, SqL.of upd_same, hel, fun q zs H5 s5 hq5 hR5 hzl => ?_⟩
    . have h1 := hS.s j t ht
      rw [hrl] at h1
      have := hS.m j t ht
      exact ⟨h1.n, by omega⟩
    have s25 := s4.trans s5
    refine ⟨q, rfl, ⟨_, SqL.of hq5⟩, ?_⟩
    obtain ⟨Pv, hPv⟩ : ∃ Pv : Nat -> St -> Hp -> Prop, ∀ i σ' H', Pv i σ' H' ↔ (Same H5 H' /\ ∃ o : Option V, σ' = [some (.ref a), some (.int p), some (.int hls.length), some (.int ct), some (.ref w'), some (.ref l), o]) := ⟨_, fun _ _ _ => Iff.rfl⟩
    refine forL (xs := zs) Pv ((hPv _ _ _).mpr ⟨Same.refl _, none, rfl⟩) (fun i σ' H' _ h' => by obtain ⟨s', _⟩ := (hPv _ _ _).mp h'; exact SqL.of (s' _ _ hq5)) (fun i x σ6 H6 hx h6 => ?_) (fun σ6 H6 h6 => ?_)
    . obtain ⟨s6, o, rfl⟩ := (hPv _ _ _).mp h6
      obtain ⟨b, r, rfl, _, hb, hrl2, hrn⟩ := hR5 i x hx
      have hi := (List.getElem?_eq_some_iff.mp hx).1
      have s26 := s25.trans s6
      walk_at "rd"
      refine ⟨w', l, b, p, xs, ys, hls, rs, r, rfl, hW2.mono s26, wf, hh1, hh3, hp1', by omega, s26 _ _ hl2, hro' s26, hrl, hS, SqL.of (s6 _ _ hb), by omega, hrn, fun H7 s7 => ⟨_, rfl, ?_⟩⟩
      rw [if_neg (by decide)]
      exact (hPv _ _ _).mpr ⟨s6.trans s7, _, rfl⟩
    . obtain ⟨s6, o, rfl⟩ := (hPv _ _ _).mp h6
      have s26 := s25.trans s6
      walk_at "rd"
      refine ⟨_, s26.seq hs2, fun p3 hp3 => ?_⟩
      rw [hgs]
      have s7 := s26.newT hp3 (o := .lst (gs.map V.int))
      refine ⟨p3, gs, p, hls.length, rfl, SqL.of upd_same, by omega, by omega, by omega, fun b row H8 s8 hb hrl2 hrn => ?_⟩
      have s28 := s7.trans s8
      exact ⟨w', l, b, p, xs, ys, hls, rs, row, rfl, hW2.mono s28, wf, hh1, hh3, hp1', by omega, s28 _ _ hl2, hro' s28, hrl, hS, SqL.of hb, by omega, hrn, fun H9 s9 => k _⟩
end
theorem all_mk {l : PySem.W.OpenLaw} {w : World} {K : PySem.W.Frag} {h : Heap} {mg : Str -> Option Value} {fa f_less f_end_sign f_rows_by_letter f_least_rows f_least_row_taken f_shortest f__law_cell_at f__law_whole f__law_nest f__law_nested f__law_parts f__law_draw f__law_house_by f__law_works_by f__law_answer f__law_accepted f__law_row_good f__law_ahead f__law_rooms_to f__law_letters_good f__law_told_good f__law_none_ahead f__law_rows_by f_law : Addr} (X : K.In h) (G : h.Ns mainGlobals mg) (hfa : mg "law" = some (.ref fa))
    {fd_less fd_end_sign fd_rows_by_letter fd_least_rows fd_shortest fd__law_cell_at fd__law_whole fd__law_nest fd__law_nested fd__law_parts fd__law_draw fd__law_house_by fd__law_works_by fd__law_answer fd__law_accepted fd__law_row_good fd__law_ahead fd__law_rooms_to fd__law_letters_good fd__law_told_good fd__law_none_ahead fd__law_rows_by fd_law : FuncData}
    {od_least_row_taken an_least_row_taken : Option Addr} {sl_least_row_taken : Array (Option Value)} {oc_least_row_taken kV_least_row_taken dc_least_row_taken pm_least_row_taken ct_least_row_taken : Value}
    (j_less : HF K "less" s_less f_less fd_less)
    (j_end_sign : HF K "end_sign" s_end_sign f_end_sign fd_end_sign)
    (j_rows_by_letter : HF K "rows_by_letter" s_rows_by_letter f_rows_by_letter fd_rows_by_letter)
    (j_least_rows : HF K "least_rows" s_least_rows f_least_rows fd_least_rows)
    (a_least_row_taken : HA K "least_row_taken" f_least_row_taken)
    {cA_least_row_taken : Addr}
    (l_least_row_taken : HL K "least_row_taken" s_least_row_taken f_least_row_taken oc_least_row_taken od_least_row_taken kV_least_row_taken dc_least_row_taken pm_least_row_taken an_least_row_taken (.ref cA_least_row_taken) ct_least_row_taken sl_least_row_taken)
    {PA_least_row_taken : Addr} {oC_least_row_taken : Value} {dC_least_row_taken : Option Addr} {sC_least_row_taken : Array (Option Value)} {vC_least_row_taken : Array Value} (lc_least_row_taken : K.lookup cA_least_row_taken = some ⟨oC_least_row_taken, dC_least_row_taken, .fields vC_least_row_taken, sC_least_row_taken⟩) (hx_least_row_taken : vC_least_row_taken[11]? = some (.ref PA_least_row_taken)) (kt_least_row_taken : K.lookup PA_least_row_taken = none) (ch_least_row_taken : PySem.W.codeHdIn K cA_least_row_taken PA_least_row_taken = true) (tb_least_row_taken : h.get? PA_least_row_taken = some (PySem.W.tabObj #[]))
    (c_least_row_taken : PySem.W.codeIn K (.ref cA_least_row_taken) "least_row_taken" = true)
    (k_least_row_taken : PySem.W.keepIn K (.ref f_least_row_taken) = true)
    (j_shortest : HF K "shortest" s_shortest f_shortest fd_shortest)
    (j__law_cell_at : HF K "_law_cell_at" s__law_cell_at f__law_cell_at fd__law_cell_at)
    (j__law_whole : HF K "_law_whole" s__law_whole f__law_whole fd__law_whole)
    (j__law_nest : HF K "_law_nest" s__law_nest f__law_nest fd__law_nest)
    (j__law_nested : HF K "_law_nested" s__law_nested f__law_nested fd__law_nested)
    (j__law_parts : HF K "_law_parts" s__law_parts f__law_parts fd__law_parts)
    (j__law_draw : HF K "_law_draw" s__law_draw f__law_draw fd__law_draw)
    (j__law_house_by : HF K "_law_house_by" s__law_house_by f__law_house_by fd__law_house_by)
    (j__law_works_by : HF K "_law_works_by" s__law_works_by f__law_works_by fd__law_works_by)
    (j__law_answer : HF K "_law_answer" s__law_answer f__law_answer fd__law_answer)
    (j__law_accepted : HF K "_law_accepted" s__law_accepted f__law_accepted fd__law_accepted)
    (j__law_row_good : HF K "_law_row_good" s__law_row_good f__law_row_good fd__law_row_good)
    (j__law_ahead : HF K "_law_ahead" s__law_ahead f__law_ahead fd__law_ahead)
    (j__law_rooms_to : HF K "_law_rooms_to" s__law_rooms_to f__law_rooms_to fd__law_rooms_to)
    (j__law_letters_good : HF K "_law_letters_good" s__law_letters_good f__law_letters_good fd__law_letters_good)
    (j__law_told_good : HF K "_law_told_good" s__law_told_good f__law_told_good fd__law_told_good)
    (j__law_none_ahead : HF K "_law_none_ahead" s__law_none_ahead f__law_none_ahead fd__law_none_ahead)
    (j__law_rows_by : HF K "_law_rows_by" s__law_rows_by f__law_rows_by fd__law_rows_by)
    (j_law : HF K "law" s_law f_law fd_law)
    (z_bool : PySem.W.nsIn K mainGlobals "bool" = some none)
    (z_enumerate : PySem.W.nsIn K mainGlobals "enumerate" = some none)
    (z_int : PySem.W.nsIn K mainGlobals "int" = some none)
    (z_isinstance : PySem.W.nsIn K mainGlobals "isinstance" = some none)
    (z_len : PySem.W.nsIn K mainGlobals "len" = some none)
    (z_list : PySem.W.nsIn K mainGlobals "list" = some none)
    (z_max : PySem.W.nsIn K mainGlobals "max" = some none)
    (z_min : PySem.W.nsIn K mainGlobals "min" = some none)
    (z_range : PySem.W.nsIn K mainGlobals "range" = some none)
    (z_tuple : PySem.W.nsIn K mainGlobals "tuple" = some none)
    (z_zip : PySem.W.nsIn K mainGlobals "zip" = some none)
    : ∃ (fd : FuncData) (c T : Addr), PySem.W.tabIn K "least_row_taken" = some (c, T) /\ K.lookup T = none /\ PySem.W.CodeHd h c T /\ h.get? T = some (PySem.W.tabObj #[]) /\ (∀ (s : Shared) (v : Value), BindsTo s fd ⟨[v], []⟩ [("script", v)]) /\ ∀ base : Heap, K.In base -> base.Ns mainGlobals mg -> PySem.W.CodeHd base c T -> BmOk mg base -> FnOk l.prog w K mg base CX0 8 fa fd ["script"] (spLaw K) := by
  have e := hfa.symm.trans (PySem.W.mg_of X G j_law.a)
  cases e
  have T : Txt mg := ⟨PySem.W.mg_none_of X G z_bool, PySem.W.mg_none_of X G z_enumerate, PySem.W.mg_none_of X G z_int, PySem.W.mg_none_of X G z_isinstance, PySem.W.mg_none_of X G z_len, PySem.W.mg_none_of X G z_list, PySem.W.mg_none_of X G z_max, PySem.W.mg_none_of X G z_min, PySem.W.mg_none_of X G z_range, PySem.W.mg_none_of X G z_tuple, PySem.W.mg_none_of X G z_zip⟩
  have F_least_row_taken := fun_mk (st := s_least_row_taken) l_least_row_taken c_least_row_taken k_least_row_taken
  have b_least_row_taken := F_least_row_taken.binds (ps := ["house", "by_letter", "start"]) fun _ _ _ _ _ _ us hl => (by obtain ⟨y0, y1, y2, rfl⟩ := len3 hl; rfl)
  have m_least_row_taken := PySem.W.mg_of X G a_least_row_taken
  have ti_least_row_taken := tabIn_mk a_least_row_taken l_least_row_taken rfl lc_least_row_taken hx_least_row_taken
  refine ⟨fd_law, cA_least_row_taken, PA_least_row_taken, ti_least_row_taken, kt_least_row_taken, PySem.W.codeHd_of_K X ch_least_row_taken, tb_least_row_taken, j_law.b fun _ _ _ _ _ _ _ => rfl, fun base _ _ hC_ hB_ => ?_⟩
  have FL_least_row_taken := funL_mk (st := s_least_row_taken) ti_least_row_taken l_least_row_taken c_least_row_taken hC_ hB_
  have Z_ : Wh l.prog w K mg base := ⟨fun _ _ a => PySem.W.mg_of X G a⟩
  have q_less := j_less.c Z_ (ok_less j_less.F T )
  have q_end_sign := j_end_sign.c Z_ (ok_end_sign j_end_sign.F T )
  have q_rows_by_letter := j_rows_by_letter.c Z_ (ok_rows_by_letter j_rows_by_letter.F T q_end_sign)
  have q_least_rows := j_least_rows.c Z_ (ok_least_rows j_least_rows.F T q_less)
  have g_least_row_taken := ok_least_row_taken (P := l.prog) (w := w) (base := base) FL_least_row_taken T q_least_rows
  have q_least_row_taken := Cal.mk (x := "least_row_taken") (st := s_least_row_taken) g_least_row_taken F_least_row_taken b_least_row_taken m_least_row_taken
  have q_shortest := j_shortest.c Z_ (ok_shortest j_shortest.F T q_rows_by_letter q_least_row_taken)
  have q__law_cell_at := j__law_cell_at.c Z_ (ok__law_cell_at j__law_cell_at.F T )
  have q__law_whole := j__law_whole.c Z_ (ok__law_whole j__law_whole.F T )
  have q__law_nest := j__law_nest.c Z_ (ok__law_nest j__law_nest.F T )
  have q__law_nested := j__law_nested.c Z_ (ok__law_nested j__law_nested.F T )
  have q__law_parts := j__law_parts.c Z_ (ok__law_parts j__law_parts.F T )
  have q__law_draw := j__law_draw.c Z_ (ok__law_draw j__law_draw.F T )
  have q__law_house_by := j__law_house_by.c Z_ (ok__law_house_by j__law_house_by.F T q__law_draw)
  have q__law_works_by := j__law_works_by.c Z_ (ok__law_works_by j__law_works_by.F T q__law_house_by)
  have q__law_answer := j__law_answer.c Z_ (ok__law_answer j__law_answer.F T )
  have q__law_accepted := j__law_accepted.c Z_ (ok__law_accepted j__law_accepted.F T q__law_parts q__law_answer)
  have q__law_row_good := j__law_row_good.c Z_ (ok__law_row_good j__law_row_good.F T q__law_whole)
  have q__law_ahead := j__law_ahead.c Z_ (ok__law_ahead j__law_ahead.F T )
  have q__law_rooms_to := j__law_rooms_to.c Z_ (ok__law_rooms_to j__law_rooms_to.F T )
  have q__law_letters_good := j__law_letters_good.c Z_ (ok__law_letters_good j__law_letters_good.F T q__law_rooms_to)
  have q__law_told_good := j__law_told_good.c Z_ (ok__law_told_good j__law_told_good.F T q__law_nested q__law_accepted q__law_row_good q__law_letters_good)
  have q__law_none_ahead := j__law_none_ahead.c Z_ (ok__law_none_ahead j__law_none_ahead.F T q__law_accepted q__law_ahead)
  have q__law_rows_by := j__law_rows_by.c Z_ (ok__law_rows_by j__law_rows_by.F T )
  exact ok_law j_law.F T q_shortest q__law_cell_at q__law_nest q__law_works_by q__law_told_good q__law_none_ahead q__law_rows_by
theorem walk {l : PySem.W.OpenLaw} {q : Program} {loose : List Str} {XP : (Str -> Option Value) -> Heap -> Prop} {YP : World -> Heap -> Prop} {d : DefRec} {K : Params -> PySem.W.Frag} (hn : l.most = some 63) (hdf : d.params.defaults = [])
    (hY : ∀ (w : World) (h : Heap), YP w h -> (K w.params).In h)
    (F : ∀ (w : World) (mg : Str -> Option Value) (fa : Addr) (h : Heap), YP w h -> (K w.params).In h -> h.Ns mainGlobals mg -> mg d.name = some (.ref fa) ->
      ∃ (fd : FuncData) (c T : Addr), PySem.W.tabIn (K w.params) "least_row_taken" = some (c, T) /\ (K w.params).lookup T = none /\ PySem.W.CodeHd h c T /\ h.get? T = some (PySem.W.tabObj #[]) /\ (∀ (s : Shared) (u : Value), BindsTo s fd ⟨[u], []⟩ [("script", u)]) /\ ∀ base : Heap, (K w.params).In base -> base.Ns mainGlobals mg -> PySem.W.CodeHd base c T -> BmOk mg base -> FnOk l.prog w (K w.params) mg base CX0 8 fa fd ["script"] (spLaw (K w.params))) :
    PySem.W.WalkO q loose XP YP l.row.toRowW d [] (fun f vs => PySem.call f vs) :=
  L2.walk_ofT (xT := "least_row_taken") (n := 63) (k := 8) (x := "script") (CX := fun _ => CX0) (sp := fun w => spLaw (K w.params)) hn (by decide) hdf ⟨rfl, by decide, by decide⟩ hY F (fun _ _ a _ _ ns hl ti hT hS => ⟨a, ns, rfl, hS, hl, by rw [tabP_of ti]; exact hT, fun _ => rfl⟩) fun _ _ _ _ _ z => z
end Mine
structure PySem.W.Fast : Prop where (tw13923110538490696024 tw17158577428763612406 tw13780003698944389390 tw11529415165332279528 tw6165046453914358363 tw4791524720547092328 tw11376594446315327956 tw7786708677636295048 tw16991355407946822935 tw8775142234001060151 tw14419354280272693701 tw6930350939112525061 tw12367542881766588223 tw4171208161559768957 tw9892189253809430811 tw12460496653540705005 tw1312383445338280836 tw4158866564356858366 tw13652294889338655309 tw17981595885240671146 tw10752155087930605866 tw12527814236608794451 tw6017510664793371798 tw13863085610020612134 tw3611764034509877513 tw17921757266220944131 tw17680850073727571485 tw12523701627358213156 tw7790590331352683982 tw16106757590739126959 tw1373215682775193272 tw8544774294683898496 tw2617253844713816578 tw16458058850370047385 tw878294166367816491 tw7110815675029052008 tw7928741121107216918 tw4494222862381323877 tw12462662736385190735 tw13770205793483615411 tw16298409187288814864 tw10634399610959628627 tw5765500513520695160 tw14175599657653304755 tw11884285400199812491 tw5597613273531822824 tw4677565700411308709 tw4136846985089036451 tw6957409717312851353 tw10737327834656084286 tw12150480971353478809 tw15029045632495333972 tw7606662316488591366 tw11879488408738657722 tw822583089268534908 tw16213612258138534847 tw2455874406740883252 tw335141324459112150 tw13489705950294451005 tw16408174157566019316 tw14256740175589219888 tw5124726645813499498 tw3749771445549284822 tw12144723527044224032 tw10515283042084231458 tw7197509182584539227 tw15950970182258054808 tw8299487533880313999 tw1838519556077632135 tw8250896094426091806 tw2785220796476031046 tw3105784639091067359 tw15435090858697419549 tw239326819063244793 tw7709025359955842446 tw2307548622391036200 tw1894540322892839762 tw12040168228674536238 tw665686190291835708 tw4329142918882192297 tw7119856735766086189 tw1794756959846308502 tw8432077962027239746 tw10442016837252392006 tw1736409380005231999 tw13626919239212471288 tw355319843077670488 tw8270669786696494184 tw1304330692103246091 tw4857422380798420071 tw7657190830008548685 tw421440643939088512 tw12452451267515205925 tw8194103677037951675 tw12757305178004893854 tw5755079570466878992 tw6116620353831223683 tw2507868900587176140 tw7465138105280853855 tw10332088712648438893 tw3010159600654339330 tw4756253678699819343 tw5182515913833898412 tw15434870349921373705 tw9896673288478411283 tw9575204322571056065 tw1952500824903408078 tw5927140872208519713 tw15172536961228102812 tw727103657079925470 tw1246424730693913643 tw6265673884102486307 tw1181642833240178381 tw8959851283667955515 tw4724157117872442801 tw16387075743862048896 tw13963035851187072594 tw10520322208083630836 tw1712704237024258228 tw4486539275263457028 tw17018513185193667638 tw5228770267831992998 tw6464929762312652118 tw3603619100282261133 tw1681529756114861476 tw9668839409200549118 tw7967551109212173283 tw8916437895343030542 tw11575200562202616926 tw14272687237456312203 tw11361324788500133676 tw13923435767410813133 tw5357714812660723170 tw12095568113121773443 tw10217371880562061290 tw4304217042174091493 tw10246641325999333501 tw13807344430388860410 tw5621104917206634498 tw17699328986814633045 tw8474535833802069897 tw8213658144522418979 tw11699411185215216302 tw6304009082521833831 tw11266669060448200783 tw5968705642008011664 tw9417835298994320110 tw12570471151276791208 tw7052674667773108751 tw7400208264441033586 tw16081149746665232032 tw3839032869471489633 tw12978455941975099242 tw5257014990898036978 tw12230204203499983269 tw12400719164547127235 tw10756785615140588535 tw11591511975470457950 tw12783975322020614824 tw8258275406403900379 tw2604380180471547100 tw11238091182263781707 tw14486118833803484141 tw14147927140546370505 tw6566862776955532434 tw15943404177249285935 tw3848489937094830270 tw3660997983553726969 tw7119596294585764791 tw11751815300855133719 tw16131436158338464378 tw9499933721850802277 tw14499705673862497291 tw2077729701345714583 tw11188885099753936595 tw12668105074742106413 tw10005131624964078616 tw6179987305749169826 tw1809692731507865368 tw15228087363785496667 tw16480784032558921752 tw12676633440891723343 tw15915728621744168401 : True)
open PySem PySem.W PyProof.Rows
set_option maxRecDepth 100000 in
set_option maxHeartbeats 0 in
theorem PySem.Challenge.cw_guessroom_k80_whole_shortest_rows_holds : PySem.Challenge.rw_guessroom_k80_whole_shortest_rows.Holds := by
  w_on; o_law; k_head; (case hw => w_witness2)
  k_fill
  refine Mine.walk (l := PySem.Challenge.rw_guessroom_k80_whole_shortest_rows) rfl rfl (fun w h Y => PySem.W.km_in_of Y) ?F
  case F =>
    intro w mg fa h Y KX G hmg
    refine' Mine.all_mk KX G hmg ?j_less ?j_end_sign ?j_rows_by_letter ?j_least_rows ?a_least_row_taken ?l_least_row_taken ?lc_least_row_taken ?hx_least_row_taken ?kt_least_row_taken ?ch_least_row_taken ?tb_least_row_taken ?c_least_row_taken ?k_least_row_taken ?j_shortest ?j__law_cell_at ?j__law_whole ?j__law_nest ?j__law_nested ?j__law_parts ?j__law_draw ?j__law_house_by ?j__law_works_by ?j__law_answer ?j__law_accepted ?j__law_row_good ?j__law_ahead ?j__law_rooms_to ?j__law_letters_good ?j__law_told_good ?j__law_none_ahead ?j__law_rows_by ?j_law ?z_bool ?z_enumerate ?z_int ?z_isinstance ?z_len ?z_list ?z_max ?z_min ?z_range ?z_tuple ?z_zip
    all_goals try unfold L2.HA
    all_goals try unfold L2.HL
    (case j_less|j_end_sign|j_rows_by_letter|j_least_rows|j_shortest|j__law_cell_at|j__law_whole|j__law_nest|j__law_nested|j__law_parts|j__law_draw|j__law_house_by|j__law_works_by|j__law_answer|j__law_accepted|j__law_row_good|j__law_ahead|j__law_rooms_to|j__law_letters_good|j__law_told_good|j__law_none_ahead|j__law_rows_by|j_law => constructor; k_is; apply L2.fun_mk <;> k_is)
    (case a_least_row_taken => k_is)
    (case l_least_row_taken => k_is)
    (case lc_least_row_taken => k_is)
    (case hx_least_row_taken => exact rfl)
    (case kt_least_row_taken => first | k_is | kernel_rfl | exact rfl)
    (case ch_least_row_taken => first | k_is | kernel_rfl)
    (case tb_least_row_taken => exact PySem.W.km_tabs_of Y _ (.head _))
    (case c_least_row_taken => k_is)
    (case k_least_row_taken => k_is)
    (case z_bool => k_is)
    (case z_enumerate => k_is)
    (case z_int => k_is)
    (case z_isinstance => k_is)
    (case z_len => k_is)
    (case z_list => k_is)
    (case z_max => k_is)
    (case z_min => k_is)
    (case z_range => k_is)
    (case z_tuple => k_is)
    (case z_zip => k_is)
