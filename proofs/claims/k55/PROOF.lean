import PyProof.Rows.All
import Wide.All
import OpenK.AllK
import Wide.FinOn
import Lean
import PyProof.EqAt
import PyProof.EqKinds
import PyProof.TupleCall
import KE.KRevIter
import PyProof.ListRange
import PyProof.TupleOfGen
import PyProof.Draws
import PyProof.EnumMake
import PyProof.EnumFor
import PyProof.NeKinds
import KE.KDictList
import PyProof.Rows.TupDisplay
import PyProof.ZipIter
import PyProof.Rows.ZipGen
import KE.KItemsList
import PyProof.Rows.SumAny
import PyProof.StrWalks
import PyProof.StrCalls
import PyProof.StrCalls3
import PyProof.StrLawsFirst
import PyProof.StrLawsIn
import PyProof.SliceStr2
import PyProof.StrBlockI
import PyProof.Rows.StrWeight2
import PyProof.ListNew
import PyProof.DictRoadsH
import PyProof.WalkInts
import PyProof.Rows.MinMaxN
import KE.KDictLaws
import PyProof.StrCalls2
import PyProof.StrLawsChain
import KE.KIntText
import KE.KxText
import KE.KMinKey
import KE.KPairComp
import PyProof.MaxThree
import PyProof.DictValues
import OpenK.KCls
import PySem.Challenge.RW_guessroom_k55_whole_says_difference
set_option Elab.async false
set_option linter.all false
set_option maxRecDepth 100000
namespace L2
open PySem PySem.Spec PyProof.Rows
abbrev Key := Sum Int Str
def keyIs : Key -> Value -> Bool
  | .inl k, v => Value.isInt k v
  | .inr x, v => Value.isStrOf x v
def keyH (w : World) : Key -> Int
  | .inl k => hashInt k
  | .inr x => hashStr w x
theorem keyIs_shape : ∀ {k : Key} {v : Value}, keyIs k v = true -> (∃ i t, k = Sum.inl i /\ v = Value.int i t) \/ (∃ x t, k = Sum.inr x /\ v = Value.str x t)
  | .inl i, v, h => by
    obtain ⟨t, e⟩ := Value.isInt_shape (k := i) (v := v) h
    exact .inl ⟨i, t, rfl, e⟩
  | .inr x, v, h => by
    obtain ⟨t, e⟩ := Value.isStrOf_shape (x := x) (v := v) h
    exact .inr ⟨x, t, rfl, e⟩
theorem keyIs_int (i : Int) (t : Tok) : keyIs (.inl i) (.int i t) = true := by simp [keyIs, Value.isInt]
theorem keyIs_str (x : Str) (t : Tok) : keyIs (.inr x) (.str x t) = true := by simp [keyIs, Value.isStrOf]
theorem key_ll (a b : Int) : decide ((Sum.inl a : Key) = Sum.inl b) = (a == b) := by
  by_cases e : a = b
  . subst e; simp
  . have h : ¬ (Sum.inl a : Key) = Sum.inl b := fun q => e (Sum.inl.inj q)
    rw [decide_eq_false h]
    exact (beq_eq_false_iff_ne.mpr e).symm
theorem key_rr (a b : Str) : decide ((Sum.inr a : Key) = Sum.inr b) = decide (a = b) := by
  by_cases e : a = b
  . subst e; simp
  . have h : ¬ (Sum.inr a : Key) = Sum.inr b := fun q => e (Sum.inr.inj q)
    rw [decide_eq_false h, decide_eq_false e]
theorem key_lr (a : Int) (b : Str) : decide ((Sum.inl a : Key) = Sum.inr b) = false := decide_eq_false (fun q => nomatch q)
theorem key_rl (a : Str) (b : Int) : decide ((Sum.inr a : Key) = Sum.inl b) = false := decide_eq_false (fun q => nomatch q)
def mixKind (prog : Program) (w : World) : PySem.KeyKind prog w Key where
  is := keyIs
  hash := keyH w
  inj := fun v a b ha hb => by
    rcases keyIs_shape ha with ⟨i, t, rfl, rfl⟩ | ⟨x, t, rfl, rfl⟩
    . rcases keyIs_shape hb with ⟨j, u, rfl, e⟩ | ⟨y, u, rfl, e⟩
      . injection e with e1 _; rw [e1]
      . exact nomatch e
    . rcases keyIs_shape hb with ⟨j, u, rfl, e⟩ | ⟨y, u, rfl, e⟩
      . exact nomatch e
      . injection e with e1 _; rw [e1]
  byValue := fun k v h => by
    rcases keyIs_shape h with ⟨i, t, rfl, rfl⟩ | ⟨x, t, rfl, rfl⟩ <;> rfl
  pyHash := fun hv h => by
    rcases keyIs_shape hv with ⟨i, t, rfl, rfl⟩ | ⟨x, t, rfl, rfl⟩
    . exact wpAny_pyHash_int h
    . exact wpAny_pyHash_str h
  eqBool := fun hu hv h => by
    rcases keyIs_shape hu with ⟨i, t, rfl, rfl⟩ | ⟨x, t, rfl, rfl⟩
    . rcases keyIs_shape hv with ⟨j, u, rfl, rfl⟩ | ⟨y, u, rfl, rfl⟩
      . rw [key_ll] at h; exact wpAny_eqBool_int h
      . rw [key_lr] at h; exact SeqAt.EqAt.int_str i t y u _ _ _ _ h
    . rcases keyIs_shape hv with ⟨j, u, rfl, rfl⟩ | ⟨y, u, rfl, rfl⟩
      . rw [key_rl] at h; exact SeqAt.EqAt.str_int x t j u _ _ _ _ h
      . rw [key_rr] at h; exact wpAny_eqBool_str h
  «strs» := fun k x t v h => by
    rcases keyIs_shape h with ⟨i, u, rfl, e⟩ | ⟨y, u, rfl, e⟩
    . exact nomatch e
    . injection e with e1 _
      subst e1
      cases v <;> rfl
theorem mixKind_int (prog : Program) (w : World) (i : Int) (t : Tok) : (mixKind prog w).is (.inl i) (.int i t) = true := keyIs_int i t
theorem mixKind_str (prog : Program) (w : World) (x : Str) (t : Tok) : (mixKind prog w).is (.inr x) (.str x t) = true := keyIs_str x t
end L2
namespace L2
open PySem PySem.Spec PyProof.Rows
inductive V where
  | non | bl (b : Bool) | int (i : Int) | str (x : Str) | byt (b : Array UInt8) | flt (b : UInt64) | ref (a : Addr) | ty (n : String)
  deriving DecidableEq
def RelV : V -> Value -> Prop
  | .non, u => u = Value.none
  | .bl b, u => u = Value.bool b
  | .int i, u => ∃ t, u = Value.int i t
  | .str x, u => ∃ t, u = Value.str x t
  | .byt b, u => ∃ t, u = Value.bytes b t
  | .flt b, u => ∃ t, u = Value.float b t
  | .ref a, u => u = Value.ref a
  | .ty n, u => u = Value.type n
abbrev Vals : List V -> List Value -> Prop := Paired RelV
theorem Vals.length {xs : List V} {us : List Value} (r : Vals xs us) : xs.length = us.length := Paired.length r
theorem Vals.get : ∀ {xs : List V} {us : List Value} {i : Nat} {x : V}, Vals xs us -> xs[i]? = some x -> ∃ u, us[i]? = some u /\ RelV x u
  | _, _, _, _, .nil, e => by simp at e
  | _, _, 0, _, .cons r _, e => by simp at e; subst e; exact ⟨_, rfl, r⟩
  | _, _, i + 1, x, .cons _ t, e => by
    obtain ⟨u, h1, h2⟩ := Vals.get (i := i) (x := x) t (by simpa using e)
    exact ⟨u, by simpa using h1, h2⟩
theorem Vals.append : ∀ {xs ys : List V} {us ws : List Value}, Vals xs us -> Vals ys ws -> Vals (xs ++ ys) (us ++ ws)
  | _, _, _, _, .nil, s => s
  | _, _, _, _, .cons r t, s => .cons r (Vals.append t s)
theorem Vals.take : ∀ {xs : List V} {us : List Value} (n : Nat), Vals xs us -> Vals (xs.take n) (us.take n)
  | _, _, 0, _ => .nil
  | _, _, _ + 1, .nil => .nil
  | _, _, n + 1, .cons r t => .cons r (Vals.take n t)
theorem Vals.drop : ∀ {xs : List V} {us : List Value} (n : Nat), Vals xs us -> Vals (xs.drop n) (us.drop n)
  | _, _, 0, r => r
  | _, _, _ + 1, .nil => .nil
  | _, _, n + 1, .cons _ t => Vals.drop n t
def RelO : Option V -> Option Value -> Prop
  | some v, some u => RelV v u
  | none, none => True
  | _, _ => False
def KV {κ : Type} : List (κ × V) -> List (κ × Value) -> Prop := Paired fun (p : κ × V) (q : κ × Value) => p.1 = q.1 /\ RelV p.2 q.2
def kV : Key -> V
  | .inl i => .int i
  | .inr x => .str x
inductive HO where
  /-- a list -/
  | lst (xs : List V)
  /-- a tuple (never changes) -/
  | tup (xs : List V)
  /-- a dict whose keys are ints and texts; one whose keys are tuples of ints and texts (the empty one is both) -/
  | dK (kvs : List (Key × V)) | dT (kvs : List (List Key × V))
  /-- a set of ints: its members, its size -/
  | set (S : Int -> Bool) (n : Nat)
  /-- an instance of the class at C, its dict at dx, its attributes -/
  | ins (C dx : Addr) (fs : List (Str × V))
  /-- the dict of the instance at x -/
  | own (x : Addr)
  /-- the dict of an exception -/
  | xd (fs : List (Str × V))
  /-- a bound method, f of x -/
  | met (f x : Addr)
  /-- a range object lo, lo + 1, .. below hi -/
  | rng (lo hi : Int)
  /-- a thing that is known to the object (the script; a dict while a loop walks it): read, never written while it is so -/
  | frz (o : Obj) (u : HO)
  /-- a code object's table -/
  | tbl (ps : Array Value)
  /-- any other thing, by what is true of its one object (a def of one's own: SetO a S n := HO.ext fun h => ..) -/
  | ext (φ : Heap -> Prop)
abbrev Hp := Addr -> Option HO
def upd (H : Hp) (a : Addr) (o : HO) : Hp := fun b => if b = a then some o else H b
theorem upd_same {H : Hp} {a : Addr} {o : HO} : upd H a o a = some o := by unfold upd; rw [if_pos rfl]
theorem upd_ne {H : Hp} {a b : Addr} {o : HO} (h : b ≠ a) : upd H a o b = H b := by unfold upd; rw [if_neg h]
theorem ne_of {H : Hp} {a b : Addr} {o u : HO} (h : H a = some o) (h' : H b = some u) (d : o ≠ u) : a ≠ b := by
  intro e; subst e; rw [h] at h'; exact d (Option.some.inj h')
theorem ne_of_none {H : Hp} {a b : Addr} {o : HO} (h : H a = some o) (h' : H b = none) : a ≠ b := by
  intro e; subst e; rw [h] at h'; cases h'
section
variable (P : Program) (w : World)
def ObjOk (H : Hp) (h : Heap) (a : Addr) : HO -> Prop
  | .lst xs => xs.length <= sizeLine /\ ∃ (its : List Value) (n : Nat), Vals xs its /\ h.get? a = some { cls := .type "list", data := .seq its.toArray n }
  | .tup xs => xs.length <= sizeLine /\ ∃ its : List Value, Vals xs its /\ IsTup h a its.toArray
  | .dK kvs => kvs.length <= sizeLine /\ (a == sysModules) = false /\ ∃ vs, KV kvs vs /\ h.DictOf (mixKind P w) a vs
  | .dT kvs => kvs.length <= sizeLine /\ (a == sysModules) = false /\ ∃ xs : List (List Key × Addr × Value),
      Paired (fun (p : List Key × V) (q : List Key × Addr × Value) => p.1 = q.1 /\ H q.2.1 = some (.tup (p.1.map kV)) /\ RelV p.2 q.2.2) kvs xs /\
      ∃ o es ep, h.get? a = some o /\ o.ExactDict /\ o.data = .dict es ep /\ es.toList = xs.map (entryOfKey (tupleKind (mixKind P w))) /\ (xs.map (·.1)).Nodup
  | .set S n => h.SetOf (intKind P w) a S n
  | .ins C dx fs => H dx = some (.own a) /\ fs.length <= 1000 /\ dx ≠ a /\ h.get? a = some (PySem.W.instObj C dx) /\
      ∃ mA, h.Ns1 dx mA /\ (∀ f, RelO (fs.lookup f) (mA f)) /\ PySem.Within mA (fs.map (·.1))
  | .own _ => ∃ o, h.get? a = some o
  | .xd fs => ∃ mA, h.Ns1 a mA /\ ∀ f, RelO (fs.lookup f) (mA f)
  | .rng lo hi => ∃ t u v, h.get? a = some { cls := .type "range", data := .fields #[.int lo t, .int hi u, .int 1 v] }
  | .frz o u => h.get? a = some o /\ ObjOk H h a u
  | .tbl ps => h.get? a = some { cls := .none, data := .fields ps }
  | .met f x => h.get? a = some (PySem.W.methodObj (.ref f) (.ref x))
  | .ext φ => φ h /\ (∃ o, h.get? a = some o) /\ ∀ h1 h2 : Heap, φ h1 -> (∀ o, h1.get? a = some o -> h2.get? a = some o) -> φ h2
def HOk (H : Hp) (h : Heap) : Prop := ∀ a o, H a = some o -> ObjOk P w H h a o
end
section
variable {P : Program} {w : World} {H H' : Hp} {h h' : Heap} {a : Addr} {o : HO}
theorem ObjOk.lt (x : ObjOk P w H h a o) : a < h.objs.size := by
  cases o with
  | lst xs => obtain ⟨_, _, _, _, e⟩ := x; exact Heap.lt_size e
  | tup xs => obtain ⟨_, _, _, p⟩ := x; exact p.lt
  | dK kvs => obtain ⟨_, _, _, _, o, _, _, e, _⟩ := x; exact Heap.lt_size e
  | dT kvs => obtain ⟨_, _, _, _, o, _, _, e, _⟩ := x; exact Heap.lt_size e
  | set S n => obtain ⟨o, _, _, _, e, _⟩ := x; exact Heap.lt_size e
  | ins C dx fs => obtain ⟨_, _, _, e, _⟩ := x; exact Heap.lt_size e
  | own y => obtain ⟨_, e⟩ := x; exact Heap.lt_size e
  | xd fs => obtain ⟨_, ⟨_, _, _, e, _⟩, _⟩ := x; exact Heap.lt_size e
  | rng lo hi => obtain ⟨_, _, _, e⟩ := x; exact Heap.lt_size e
  | frz ob u => obtain ⟨e, _⟩ := x; exact Heap.lt_size e
  | tbl ps => exact Heap.lt_size (show h.get? a = some _ from x)
  | met f y => exact Heap.lt_size (show h.get? a = some _ from x)
  | ext φ => obtain ⟨_, ⟨_, e⟩, _⟩ := x; exact Heap.lt_size e
theorem Paired.mapP {α β : Type} {F G : α -> β -> Prop} : ∀ {l₁ : List α} {l₂ : List β}, Paired F l₁ l₂ -> (∀ a b, F a b -> G a b) -> Paired G l₁ l₂
  | _, _, .nil, _ => .nil
  | _, _, .cons r t, f => .cons (f _ _ r) (Paired.mapP t f)
theorem ObjOk.stay (x : ObjOk P w H h a o) (k : ∀ b u, (b = a \/ H b = some (.own a)) -> h.get? b = some u -> h'.get? b = some u)
    (ho : ∀ b, H b = some (.own a) -> H' b = some (.own a)) (ht : ∀ b xs, H b = some (.tup xs) -> H' b = some (.tup xs)) : ObjOk P w H' h' a o := by
  induction o with
  | lst xs => obtain ⟨z, its, n, r, e⟩ := x; exact ⟨z, its, n, r, k _ _ (.inl rfl) e⟩
  | tup xs => obtain ⟨z, its, r, ob, e, c⟩ := x; exact ⟨z, its, r, ob, k _ _ (.inl rfl) e, c⟩
  | dK kvs => obtain ⟨z, y, vs, r, ob, es, ep, e, c⟩ := x; exact ⟨z, y, vs, r, ob, es, ep, k _ _ (.inl rfl) e, c⟩
  | dT kvs =>
    obtain ⟨z, y, xs, r, ob, es, ep, e, c⟩ := x
    exact ⟨z, y, xs, Paired.mapP r fun p q z => ⟨z.1, ht _ _ z.2.1, z.2.2⟩, ob, es, ep, k _ _ (.inl rfl) e, c⟩
  | set S n => obtain ⟨ob, es, ep, t, e, c⟩ := x; exact ⟨ob, es, ep, t, k _ _ (.inl rfl) e, c⟩
  | ins C dx fs =>
    obtain ⟨d, z, ne, e, mA, ⟨od, es, ep, e2, c⟩, r⟩ := x
    exact ⟨ho _ d, z, ne, k _ _ (.inl rfl) e, mA, ⟨od, es, ep, k _ _ (.inr d) e2, c⟩, r⟩
  | own y => obtain ⟨ob, e⟩ := x; exact ⟨ob, k _ _ (.inl rfl) e⟩
  | xd fs => obtain ⟨mA, ⟨od, es, ep, e, c⟩, r⟩ := x; exact ⟨mA, ⟨od, es, ep, k _ _ (.inl rfl) e, c⟩, r⟩
  | rng lo hi => obtain ⟨t, u, v, e⟩ := x; exact ⟨t, u, v, k _ _ (.inl rfl) e⟩
  | frz ob u ih => obtain ⟨e, q⟩ := x; exact ⟨k _ _ (.inl rfl) e, ih q⟩
  | tbl ps =>
    have e : h.get? a = some { cls := .none, data := .fields ps } := x
    show h'.get? a = some { cls := .none, data := .fields ps }
    exact k a _ (.inl rfl) e
  | met f y =>
    have e : h.get? a = some (PySem.W.methodObj (.ref f) (.ref y)) := x
    show h'.get? a = some (PySem.W.methodObj (.ref f) (.ref y))
    exact k a _ (.inl rfl) e
  | ext φ => obtain ⟨p, ⟨o, e⟩, st⟩ := x; exact ⟨st _ _ p fun o q => k _ _ (.inl rfl) q, ⟨o, k _ _ (.inl rfl) e⟩, st⟩
theorem HOk.lt (x : HOk P w H h) (e : H a = some o) : a < h.objs.size := (x a o e).lt
theorem HOk.fresh (x : HOk P w H h) (e : h.objs.size <= a) : H a = none := by
  cases q : H a with
  | none => rfl
  | some u => exact absurd (Nat.lt_of_lt_of_le (x.lt q) e) (Nat.lt_irrefl _)
theorem HOk.kept (x : HOk P w H h) (k : ∀ b u, h.get? b = some u -> h'.get? b = some u) : HOk P w H h' := fun a o e =>
  (x a o e).stay (fun b u _ q => k b u q) (fun _ q => q) fun _ _ q => q
theorem HOk.laid (x : HOk P w H h) (k : ∀ b u, h.get? b = some u -> h'.get? b = some u) (hp : h.objs.size <= a) (new : ObjOk P w (upd H a o) h' a o) : HOk P w (upd H a o) h' := fun b u e => by
  have hn := x.fresh hp
  by_cases hb : b = a
  . subst hb; rw [upd_same] at e; cases e; exact new
  . rw [upd_ne hb] at e
    exact (x b u e).stay (fun c v _ q => k c v q) (fun c q => by rw [upd_ne (ne_of_none q hn)]; exact q) fun c xs q => by rw [upd_ne (ne_of_none q hn)]; exact q
end
def Rd (H : Hp) (a : Addr) (u : HO) : Prop := H a = some u \/ ∃ o, H a = some (.frz o u)
theorem Rd.ok {P : Program} {w : World} {H : Hp} {h : Heap} {a : Addr} {u : HO} (r : Rd H a u) (x : HOk P w H h) : ObjOk P w H h a u := by
  rcases r with r | ⟨o, r⟩
  . exact x a u r
  . obtain ⟨_, q⟩ := x a _ r
    exact q
def Mut : Option HO -> Prop
  | some (.lst _) => True
  | some (.dK _) => True
  | some (.dT _) => True
  | some (.set _ _) => True
  | some (.ins _ _ _) => True
  | some (.ext _) => True
  | _ => False
section
variable {P : Program} {w : World} {H : Hp} {h h' : Heap} {x e : Addr} {o' : HO}
theorem HOk.write (ok : HOk P w H h) (mu : Mut (H x)) (he : e = x \/ H e = some (.own x)) (k : ∀ b u, b ≠ e -> h.get? b = some u -> h'.get? b = some u) (heo : ∃ u, h'.get? e = some u)
    (new : ObjOk P w (upd H x o') h' x o') : HOk P w (upd H x o') h' := fun b u q => by
  have nown : ∀ c y, H c = some (.own y) -> c ≠ x := fun c y r z => by subst z; rw [r] at mu; exact mu
  have ntup : ∀ c xs, H c = some (.tup xs) -> c ≠ x := fun c xs r z => by subst z; rw [r] at mu; exact mu
  by_cases hb : b = x
  . subst hb; rw [upd_same] at q; cases q; exact new
  . rw [upd_ne hb] at q
    by_cases hbe : b = e
    . have q' : H b = some (.own x) := by
        rcases he with z | z
        . exact absurd (hbe.trans z) hb
        . rw [hbe]; exact z
      rw [q] at q'; cases q'
      obtain ⟨v, hv⟩ := heo
      exact ⟨v, by rw [hbe]; exact hv⟩
    . refine (ok b u q).stay (fun c v hc r => k c v ?_ r) (fun c r => by rw [upd_ne (nown c b r)]; exact r) fun c xs r => by rw [upd_ne (ntup c xs r)]; exact r
      rcases hc with rfl | hc
      . exact hbe
      . rintro rfl
        rcases he with z | z
        . exact nown c b hc z
        . rw [hc] at z; cases z; exact hb rfl
end
structure Un (fs ex : List Addr) (H H' : Hp) (h h' : Heap) : Prop where
  keep : ∀ b o, h.get? b = some o -> H b = none -> b ∉ fs -> b ∉ ex -> h'.get? b = some o
  slot : ∀ b o, h.get? b = some o -> H b = none -> b ∈ fs -> b ∉ ex -> ∃ sl, h'.get? b = some { o with slots := sl }
  free : ∀ b o, h.get? b = some o -> H b = none -> b ∉ ex -> H' b = none
  there : ∀ b o, h.get? b = some o -> b ∉ ex -> ∃ o', h'.get? b = some o'
  tups : ∀ b xs, H b = some (.tup xs) -> H' b = some (.tup xs)
  frzs : ∀ b o u, H b = some (.frz o u) -> H' b = some (.frz o u)
  tbls : ∀ b ps, H b = some (.tbl ps) -> ∃ more, H' b = some (.tbl (ps ++ more))
section
variable {fs fs' ex ex' : List Addr} {H H1 H2 : Hp} {h h1 h2 h' : Heap} {a x e : Addr} {o : HO}
theorem Un.any (u : Un fs ex H H1 h h1) {b : Addr} {ob : Obj} (q : h.get? b = some ob) (n : H b = none) (hx : b ∉ ex) : ∃ sl, h1.get? b = some { ob with slots := sl } := by
  by_cases hb : b ∈ fs
  . exact u.slot b ob q n hb hx
  . exact ⟨ob.slots, u.keep b ob q n hb hx⟩
theorem Un.kept (k : ∀ b u, h.get? b = some u -> h'.get? b = some u) : Un fs ex H H h h' :=
  ⟨fun b ob q _ _ _ => k b ob q, fun b ob q _ _ _ => ⟨ob.slots, k b ob q⟩, fun _ _ _ n _ => n, fun b ob q _ => ⟨ob, k b ob q⟩, fun _ _ q => q, fun _ _ _ q => q, fun _ ps q => ⟨#[], by rw [q]; simp⟩⟩
theorem Un.refl : Un fs ex H H h h := Un.kept fun _ _ q => q
theorem Un.laid (k : ∀ b u, h.get? b = some u -> h'.get? b = some u) (hp : h.objs.size <= a) (hn : H a = none) : Un fs ex H (upd H a o) h h' where
  keep := fun b u q _ _ _ => k b u q
  slot := fun b u q _ _ _ => ⟨u.slots, k b u q⟩
  free := fun b u q n _ => by rw [upd_ne (Nat.ne_of_lt (Nat.lt_of_lt_of_le (Heap.lt_size q) hp))]; exact n
  there := fun b u q _ => ⟨u, k b u q⟩
  tups := fun b xs q => by rw [upd_ne (ne_of_none q hn)]; exact q
  frzs := fun b u xs q => by rw [upd_ne (ne_of_none q hn)]; exact q
  tbls := fun b ps q => ⟨#[], by rw [upd_ne (ne_of_none q hn), q]; simp⟩
theorem Un.write (mu : Mut (H x)) (he : e = x \/ H e = some (.own x)) (k : ∀ b u, b ≠ e -> h.get? b = some u -> h'.get? b = some u) (heo : ∃ u, h'.get? e = some u) : Un fs ex H (upd H x o) h h' := by
  have hx : ∀ b, H b = none -> b ≠ x := fun b n z => by subst z; rw [n] at mu; exact mu
  have hb : ∀ b, H b = none -> b ≠ e := fun b n z => by
    subst z
    rcases he with r | r
    . exact hx b n r
    . rw [n] at r; cases r
  have hm : ∀ b u, H b = some u -> ¬ Mut (some u) -> b ≠ x := fun b u q nm z => by subst z; rw [q] at mu; exact nm mu
  refine ⟨fun b u q n _ _ => k b u (hb b n) q, fun b u q n _ _ => ⟨u.slots, k b u (hb b n) q⟩, fun b u q n _ => by rw [upd_ne (hx b n)]; exact n, fun b u q _ => ?_,
    fun b xs q => by rw [upd_ne (hm b _ q fun z => z)]; exact q, fun b u xs q => by rw [upd_ne (hm b _ q fun z => z)]; exact q, fun b ps q => ⟨#[], by rw [upd_ne (hm b _ q fun z => z), q]; simp⟩⟩
  by_cases hbe : b = e
  . subst hbe; exact heo
  . exact ⟨u, k b u hbe q⟩
end
def trk (h : Heap) (H : Hp) : List Addr := (List.range h.objs.size).filter fun a => (H a).isSome
def hidT (h : Heap) (H : Hp) : Heap := PySem.W.hideAll h (trk h H)
theorem hidT_size (h : Heap) (H : Hp) : (hidT h H).objs.size = h.objs.size := PySem.W.hideAll_size _ _
theorem hidT_get {h : Heap} {H : Hp} {b : Addr} {o : Obj} (e : h.get? b = some o) (n : H b = none) : (hidT h H).get? b = some o :=
  PySem.W.hideAll_get _ e fun hm => by
    have q : (H b).isSome = true := (List.mem_filter.mp hm).2
    rw [n] at q; simp at q
theorem of_hidT {h : Heap} {H : Hp} {b : Addr} {o : Obj} (e : (hidT h H).get? b = some o) : h.get? b = some o /\ H b = none := by
  have e' : h.get? b = some o := PySem.W.of_hideAll (trk h H) e
  refine ⟨e', ?_⟩
  cases q : H b with
  | none => rfl
  | some x =>
    have hm : b ∈ trk h H := List.mem_filter.mpr ⟨List.mem_range.mpr (Heap.lt_size e'), by simp [q]⟩
    have z : (hidT h H).get? b = none := PySem.W.hideAll_none (trk h H) hm
    rw [z] at e; cases e
def allNews (g h : Heap) (L : Addr) : List (Addr × Obj) := (List.range h.objs.size).filterMap fun a => if a = L \/ (g.get? a).isSome = true then none else (h.get? a).map fun o => (a, o)
def rest (g h : Heap) (L d : Addr) : List (Addr × Obj) := (allNews g h L).filter fun p => decide (p.1 ≠ d)
end L2
namespace L2
open PySem PySem.Spec PyProof.Rows
structure Mod (K : PySem.W.Frag) (mg : Str -> Option Value) (base : Heap) : Prop where
  kin : K.In base
  glob : base.Ns mainGlobals mg
  blt : ∃ mb, base.Ns builtinsNs mb /\ ∀ x : Str, x ≠ "__name__" -> mb x = bootBuiltins x
  nolimit : base.NoLimit
structure Cx where
  prog : Program
  w : World
  K : PySem.W.Frag
  mg : Str -> Option Value
  base : Heap
  A : Around
  N : List Str
  s₀ : Shared
  H₀ : Hp
  env : Env
  outer : List Env
  stack : List Env
  ex : List Addr
  fn : Str -> Bool
  calm : Bool
  pn : List (Addr × Obj)
  xe : Value -> Shared -> Prop
def frs (l : List Env) : List Addr := l.filterMap (·.frame)
abbrev Cx.fs (X : Cx) : List Addr := frs X.outer
def Vis (sc : Scope) (x : Str) : Prop := sc.names.lookup x = some .local \/ sc.names.lookup x = some .cell \/ sc.names.lookup x = some .free
def Loc (sc : Scope) (x : Str) : Prop := sc.names.lookup x = some .local \/ sc.names.lookup x = some .cell
def Look (env : Env) (h : Heap) (m : Str -> Option Value) (x : Str) (u : Value) : Prop :=
  (env.kindOf x = some .local /\ m x = some u) \/ ((env.kindOf x = some .cell \/ env.kindOf x = some .free) /\ ∃ c, env.cells.lookup x = some c /\ h.IsCell c (some u))
structure Cx.Ok (X : Cx) : Prop where
  mod : Mod X.K X.mg X.base
  kind : X.env.scope.kind = .function
  glob : X.env.globals = mainGlobals
  blt : X.env.builtins = builtinsNs
  above : X.s₀.heap.objs.size <= X.env.locals
  inj : ∀ x y c, X.env.cells.lookup x = some c -> X.env.cells.lookup y = some c -> x = y
  has : ∀ x, (X.env.kindOf x = some .cell \/ X.env.kindOf x = some .free) -> ∃ c, X.env.cells.lookup x = some c
  cab : ∀ x c, X.fn x = true -> X.env.cells.lookup x = some c -> X.s₀.heap.objs.size <= c
  hd : X.calm = true -> X.A.handled = none
  frames : X.A.frames = some X.stack
  stk : X.stack = X.outer \/ (X.stack = X.env :: X.outer /\ X.env.frame = some X.env.locals)
  exf : ∀ b ∈ X.ex, b ≠ X.env.locals /\ ∀ x c, X.env.cells.lookup x = some c -> c ≠ b
  bs : ∀ b o, X.base.get? b = some o -> X.s₀.heap.get? b = some o /\ X.H₀ b = none
  bsz : X.base.objs.size <= X.s₀.heap.objs.size
  noex : ∀ b o, X.base.get? b = some o -> b ∉ X.ex
  exfs : ∀ b ∈ X.ex, b ∉ X.fs
  funs : X.s₀.heap.FunFrames X.base X.outer
  frf : ∀ b ∈ X.fs, X.H₀ b = none
structure Inv (X : Cx) (pins : List (Addr × Obj)) (σ : List (Option V)) (H : Hp) (s : Shared) : Prop where
  ok : X.Ok
  os : s.os = X.s₀.os
  bare : AllBare s.gens
  base : Un X.fs X.ex X.H₀ H X.s₀.heap s.heap
  loc : ∃ m, s.heap.Ns X.env.locals m /\ ∀ (i : Nat) (x : Str) (v : V), X.N[i]? = some x -> σ[i]? = some (some v) -> Vis X.env.scope x -> ∃ u, RelV v u /\ Look X.env s.heap m x u
  cell : ∀ x c, X.env.cells.lookup x = some c -> ∃ v, s.heap.IsCell c v
  free : H X.env.locals = none
  freeC : ∀ x c, X.env.cells.lookup x = some c -> H c = none
  pin : ∀ p ∈ X.pn ++ pins, s.heap.get? p.1 = some p.2 /\ H p.1 = none /\ p.1 ≠ X.env.locals /\ p.1 ∉ X.fs /\ ∀ v, p.2.data ≠ .cell v
  hok : HOk X.prog X.w H s.heap
  len : σ.length = X.N.length
section
variable {X : Cx} {pins : List (Addr × Obj)} {σ : List (Option V)} {H H' : Hp} {s : Shared} {h' : Heap}
theorem Cx.Ok.nofr (ok : X.Ok) {b : Addr} {o : Obj} (e : X.base.get? b = some o) : b ∉ X.fs := fun hb => by
  have := (ok.funs.mem hb).1
  rw [e] at this; cases this
theorem Inv.bs (I : Inv X pins σ H s) : ∀ b o, X.base.get? b = some o -> s.heap.get? b = some o /\ H b = none := fun b o e =>
  ⟨I.base.keep b o (I.ok.bs b o e).1 (I.ok.bs b o e).2 (I.ok.nofr e) (I.ok.noex b o e), I.base.free b o (I.ok.bs b o e).1 (I.ok.bs b o e).2 (I.ok.noex b o e)⟩
theorem Inv.bk (I : Inv X pins σ H s) : ∀ b o, X.base.get? b = some o -> s.heap.get? b = some o := fun b o e => (I.bs b o e).1
theorem Inv.mod (I : Inv X pins σ H s) : Mod X.K X.mg X.base := I.ok.mod
theorem Inv.kIn (I : Inv X pins σ H s) : X.K.In s.heap := I.ok.mod.kin.keeps I.bk
theorem Inv.lt (I : Inv X pins σ H s) : X.env.locals < s.heap.objs.size := let ⟨_, hn, _⟩ := I.loc; hn.lt
theorem Inv.sz (I : Inv X pins σ H s) : X.s₀.heap.objs.size <= s.heap.objs.size := Nat.le_trans I.ok.above (Nat.le_of_lt I.lt)
theorem Inv.nofs (I : Inv X pins σ H s) {a : Addr} (h : s.heap.objs.size <= a) : a ∉ X.fs := fun hb => by
  obtain ⟨_, o, ho, _⟩ := I.ok.funs.mem hb
  exact absurd (Nat.lt_of_lt_of_le (Heap.lt_size ho) (Nat.le_trans I.sz h)) (Nat.lt_irrefl _)
theorem Inv.cne (I : Inv X pins σ H s) : ∀ x c, X.env.cells.lookup x = some c -> c ≠ X.env.locals := fun x c e z => by
  obtain ⟨v, o, ho, hd⟩ := I.cell x c e
  obtain ⟨m, ⟨o', es, ep, ho', hd', _⟩, _⟩ := I.loc
  rw [z, ho'] at ho; cases ho; rw [hd'] at hd; cases hd
theorem Inv.funs (I : Inv X pins σ H s) : s.heap.FunFrames X.base X.outer := by
  have all : ∀ (l : List Env), (∀ b ∈ frs l, b ∈ X.fs) -> X.s₀.heap.FunFrames X.base l -> s.heap.FunFrames X.base l := by
    intro l
    induction l with
    | nil => intro _ _; trivial
    | cons env r ih =>
      intro hs hl
      obtain ⟨hk, ⟨L, o, hf, hn, ho, hd⟩, hr⟩ := hl
      have hL : L ∈ X.fs := hs L (by unfold frs; rw [List.filterMap_cons, hf]; exact List.mem_cons_self)
      obtain ⟨sl, e⟩ := I.base.slot L o ho (I.ok.frf L hL) hL fun z => I.ok.exfs L z hL
      exact ⟨hk, ⟨L, _, hf, hn, e, hd⟩, ih (fun b hb => hs b (by unfold frs; rw [List.filterMap_cons, hf]; exact List.mem_cons_of_mem _ hb)) hr⟩
  exact all X.outer (fun _ hb => hb) I.ok.funs
theorem Inv.stack (I : Inv X pins σ H s) : s.heap.FunFrames X.base X.stack := by
  rcases I.ok.stk with e | ⟨e, hf⟩
  . rw [e]; exact I.funs
  . rw [e]
    obtain ⟨m, hn, _⟩ := I.loc
    refine .cons (by rw [I.ok.kind]; decide) hf hn ?_ I.funs
    exact Heap.get?_none_of_le (Nat.le_trans I.ok.bsz I.ok.above)
theorem Inv.stkSub (I : Inv X pins σ H s) : ∀ b ∈ frs X.stack, b ∈ X.env.locals :: X.fs := fun b hb => by
  rcases I.ok.stk with e | ⟨e, hf⟩
  . rw [e] at hb; exact List.mem_cons_of_mem _ hb
  . rw [e] at hb
    unfold frs at hb
    rw [List.filterMap_cons, hf] at hb
    exact hb
theorem Inv.stkFree (I : Inv X pins σ H s) : ∀ b ∈ frs X.stack, H b = none := fun b hb => by
  rcases List.mem_cons.mp (I.stkSub b hb) with e | hb
  . rw [e]; exact I.free
  . obtain ⟨_, o, ho, _⟩ := I.ok.funs.mem hb
    exact I.base.free b o ho (I.ok.frf b hb) fun z => I.ok.exfs b z hb
theorem Inv.step {g' : Array GenState} {t' : Nat} {d' : Drawn} {ch : List Addr} (I : Inv X pins σ H s)
    (hch : ∀ b ∈ ch, (b ∈ X.ex \/ X.s₀.heap.objs.size <= b) /\ b ≠ X.env.locals /\ (∀ x c, X.env.cells.lookup x = some c -> c ≠ b) /\ ∀ p ∈ X.pn ++ pins, p.1 ≠ b)
    (keep : ∀ b o, b ≠ X.env.locals -> b ∉ X.fs -> b ∉ ch -> s.heap.get? b = some o -> H b = none -> h'.get? b = some o)
    (slot : ∀ b o, b ≠ X.env.locals -> b ∈ X.fs -> b ∉ ch -> s.heap.get? b = some o -> H b = none -> ∃ sl, h'.get? b = some { o with slots := sl }) (free : ∀ b o, b ∉ ch -> s.heap.get? b = some o -> H b = none -> H' b = none)
    (there : ∀ b o, b ∉ ch -> s.heap.get? b = some o -> ∃ o', h'.get? b = some o')
    (tups : ∀ b xs, H b = some (.tup xs) -> H' b = some (.tup xs)) (frzs : ∀ b o u, H b = some (.frz o u) -> H' b = some (.frz o u)) (tbls : ∀ b ps, H b = some (.tbl ps) -> ∃ more, H' b = some (.tbl (ps ++ more)))
    (ns : ∀ m, s.heap.Ns X.env.locals m -> h'.Ns X.env.locals m) (hok : HOk X.prog X.w H' h') (hg : AllBare g') :
    Inv X pins σ H' { s with heap := h', gens := g', drawn := d', toks := t' } := by
  have neL : ∀ b o, X.s₀.heap.get? b = some o -> b ≠ X.env.locals := fun b o e => Nat.ne_of_lt (Nat.lt_of_lt_of_le (Heap.lt_size e) I.ok.above)
  have neC : ∀ b o, X.s₀.heap.get? b = some o -> b ∉ X.ex -> b ∉ ch := fun b o e hx hb => by
    rcases (hch b hb).1 with z | z
    . exact hx z
    . exact absurd (Nat.lt_of_lt_of_le (Heap.lt_size e) z) (Nat.lt_irrefl _)
  have cellK : ∀ x c, X.env.cells.lookup x = some c -> ∀ v, s.heap.IsCell c v -> h'.IsCell c v := fun x c e v ⟨o, ho, hd⟩ => by
    have nch : c ∉ ch := fun z => (hch c z).2.2.1 x c e rfl
    by_cases hc : c ∈ X.fs
    . obtain ⟨sl, q⟩ := slot c o (I.cne x c e) hc nch ho (I.freeC x c e)
      exact ⟨_, q, hd⟩
    . exact ⟨o, keep c o (I.cne x c e) hc nch ho (I.freeC x c e), hd⟩
  refine ⟨I.ok, I.os, hg, ⟨fun b o e n hb hx => ?_, fun b o e n hb hx => ?_, fun b o e n hx => ?_, fun b o e hx => ?_, fun b xs e => tups b xs (I.base.tups b xs e), fun b o xs e => frzs b o xs (I.base.frzs b o xs e), fun b ps e => ?_⟩, ?_, fun x c e => ?_, ?_, fun x c e => ?_, fun p hp => ?_, hok, I.len⟩
  . exact keep b o (neL b o e) hb (neC b o e hx) (I.base.keep b o e n hb hx) (I.base.free b o e n hx)
  . obtain ⟨sl, e1⟩ := I.base.slot b o e n hb hx
    obtain ⟨sl', e2⟩ := slot b _ (neL b o e) hb (neC b o e hx) e1 (I.base.free b o e n hx)
    exact ⟨sl', e2⟩
  . obtain ⟨o', e1⟩ := I.base.there b o e hx
    exact free b o' (neC b o e hx) e1 (I.base.free b o e n hx)
  . obtain ⟨o', e1⟩ := I.base.there b o e hx
    exact there b o' (neC b o e hx) e1
  . obtain ⟨m1, e1⟩ := I.base.tbls b ps e
    obtain ⟨m2, e2⟩ := tbls b _ e1
    exact ⟨m1 ++ m2, by rw [e2, Array.append_assoc]⟩
  . obtain ⟨m, hn, hl⟩ := I.loc
    refine ⟨m, ns m hn, fun i x v e1 e2 e3 => ?_⟩
    obtain ⟨u, r, l⟩ := hl i x v e1 e2 e3
    refine ⟨u, r, ?_⟩
    rcases l with l | ⟨k, c, e, z⟩
    . exact .inl l
    . exact .inr ⟨k, c, e, cellK x c e _ z⟩
  . obtain ⟨v, z⟩ := I.cell x c e
    exact ⟨v, cellK x c e v z⟩
  . obtain ⟨m, ⟨o, _, _, ho, _⟩, _⟩ := I.loc
    exact free _ o (fun z => (hch _ z).2.1 rfl) ho I.free
  . obtain ⟨v, o, ho, hd⟩ := I.cell x c e
    exact free c o (fun z => (hch c z).2.2.1 x c e rfl) ho (I.freeC x c e)
  . obtain ⟨e, n, ne, nf, d⟩ := I.pin p hp
    have nch : p.1 ∉ ch := fun z => (hch p.1 z).2.2.2 p hp rfl
    exact ⟨keep p.1 p.2 ne nf nch e n, free p.1 p.2 nch e n, ne, nf, d⟩
theorem Inv.un {t' : Nat} (I : Inv X pins σ H s) (u : Un X.fs [] H H' s.heap h') (hok : HOk X.prog X.w H' h') : Inv X pins σ H' { s with heap := h', toks := t' } := by
  obtain ⟨m, ⟨o, es, ep, ho, r⟩, _⟩ := id I.loc
  obtain ⟨sl, hL⟩ := u.any ho I.free (by simp)
  exact I.step (g' := s.gens) (d' := s.drawn) (ch := []) (fun _ z => nomatch z) (fun b o _ hb _ e n => u.keep b o e n hb (by simp)) (fun b o _ hb _ e n => u.slot b o e n hb (by simp)) (fun b o _ e n => u.free b o e n (by simp)) (fun b o _ e => u.there b o e (by simp)) u.tups u.frzs u.tbls (fun m' hm => by
    obtain ⟨o', es', ep', ho', r'⟩ := hm
    rw [ho] at ho'; cases ho'
    exact ⟨_, es', ep', hL, r'⟩) hok I.bare
theorem Inv.call {g' : Array GenState} {t' : Nat} {d' : Drawn} {ch : List Addr} (I : Inv X pins σ H s) (u : Un (frs X.stack) ch H H' s.heap h') (hok : HOk X.prog X.w H' h') (hg : AllBare g')
    (hch : ∀ b ∈ ch, (b ∈ X.ex \/ X.s₀.heap.objs.size <= b) /\ b ≠ X.env.locals /\ (∀ x c, X.env.cells.lookup x = some c -> c ≠ b) /\ ∀ p ∈ X.pn ++ pins, p.1 ≠ b) :
    Inv X pins σ H' { s with heap := h', gens := g', drawn := d', toks := t' } := by
  obtain ⟨m, ⟨o, es, ep, ho, r⟩, _⟩ := id I.loc
  obtain ⟨sl, hL⟩ := u.any ho I.free fun z => (hch _ z).2.1 rfl
  exact I.step (ch := ch) hch (fun b o hL hb hc e n => u.keep b o e n (fun z => (List.mem_cons.mp (I.stkSub b z)).elim hL hb) hc) (fun b o _ _ hc e n => u.any e n hc) (fun b o hc e n => u.free b o e n hc) (fun b o hc e => u.there b o e hc) u.tups u.frzs u.tbls (fun m' hm => by
    obtain ⟨o', es', ep', ho', r'⟩ := hm
    rw [ho] at ho'; cases ho'
    exact ⟨_, es', ep', hL, r'⟩) hok hg
theorem Inv.turned {t' : Nat} {it : Addr} (I : Inv X pins σ H s) (k : ∀ b o, b ≠ it -> s.heap.get? b = some o -> h'.get? b = some o) (hn : H it = none) (hL : it ≠ X.env.locals)
    (h1 : it ∈ X.ex \/ X.s₀.heap.objs.size <= it) (h2 : ∀ x c, X.env.cells.lookup x = some c -> c ≠ it) (h3 : ∀ p ∈ X.pn ++ pins, p.1 ≠ it) : Inv X pins σ H { s with heap := h', toks := t' } := by
  have nit : ∀ b u, H b = some u -> b ≠ it := fun b u e z => by rw [z, hn] at e; cases e
  refine I.step (g' := s.gens) (d' := s.drawn) (ch := [it]) (fun b hb => ?_) (fun b o _ _ hc e _ => k b o (fun z => hc (by simp [z])) e) (fun b o _ _ hc e _ => ⟨o.slots, k b o (fun z => hc (by simp [z])) e⟩) (fun _ _ _ _ n => n)
    (fun b o hc e => ⟨o, k b o (fun z => hc (by simp [z])) e⟩) (fun _ _ e => e) (fun _ _ _ e => e) (fun b ps e => ⟨#[], by rw [e]; simp⟩) (fun m hm => ?_) (fun b u e => ?_) I.bare
  . have e : b = it := by simpa using hb
    subst e
    exact ⟨h1, hL, h2, h3⟩
  . obtain ⟨o, es, ep, ho, r⟩ := hm
    exact ⟨o, es, ep, k _ o (Ne.symm hL) ho, r⟩
  . refine (I.hok b u e).stay (fun c v hc q => k c v ?_ q) (fun _ q => q) fun _ _ q => q
    rcases hc with z | z
    . rw [z]; exact nit b u e
    . exact nit c _ z
theorem Inv.tok (I : Inv X pins σ H s) (t : Nat) : Inv X pins σ H { s with toks := t } := I.un (h' := s.heap) (t' := t) Un.refl I.hok
theorem Inv.kept {t' : Nat} (I : Inv X pins σ H s) (k : ∀ b u, s.heap.get? b = some u -> h'.get? b = some u) : Inv X pins σ H { s with heap := h', toks := t' } := I.un (Un.kept k) (I.hok.kept k)
theorem Inv.laid {a : Addr} {o : HO} {t' : Nat} (I : Inv X pins σ H s) (k : ∀ b u, s.heap.get? b = some u -> h'.get? b = some u) (hp : s.heap.objs.size <= a) (new : ObjOk X.prog X.w (upd H a o) h' a o) :
    Inv X pins σ (upd H a o) { s with heap := h', toks := t' } := I.un (Un.laid k hp (I.hok.fresh hp)) (I.hok.laid k hp new)
theorem Inv.write {x e : Addr} {o : HO} {t' : Nat} (I : Inv X pins σ H s) (mu : Mut (H x)) (he : e = x \/ H e = some (.own x)) (k : ∀ b u, b ≠ e -> s.heap.get? b = some u -> h'.get? b = some u) (heo : ∃ u, h'.get? e = some u)
    (new : ObjOk X.prog X.w (upd H x o) h' x o) : Inv X pins σ (upd H x o) { s with heap := h', toks := t' } := I.un (Un.write mu he k heo) (I.hok.write mu he k heo new)
theorem Inv.pins_of {pins' : List (Addr × Obj)} (I : Inv X pins σ H s) (h : ∀ p ∈ pins', s.heap.get? p.1 = some p.2 /\ H p.1 = none /\ p.1 ≠ X.env.locals /\ p.1 ∉ X.fs /\ ∀ v, p.2.data ≠ .cell v) : Inv X pins' σ H s :=
  ⟨I.ok, I.os, I.bare, I.base, I.loc, I.cell, I.free, I.freeC, fun p hp => (List.mem_append.mp hp).elim (fun z => I.pin p (List.mem_append_left _ z)) (h p), I.hok, I.len⟩
theorem nodup_ix {N : List Str} (hN : N.Nodup) {i j : Nat} {x : Str} (a : N[i]? = some x) (b : N[j]? = some x) : i = j := by
  obtain ⟨h1, e1⟩ := List.getElem?_eq_some_iff.mp a
  obtain ⟨h2, e2⟩ := List.getElem?_eq_some_iff.mp b
  exact (List.getElem_inj hN).mp (e1.trans e2.symm)
theorem store_ok2 {M : Model} {A : Around} {E : Value -> Shared -> Prop} {i : Nat} {x : Str} {v : V} {u : Value} {Q : Unit -> Shared -> Prop} (I : Inv X pins σ H s) (hN : X.N.Nodup) (hi : X.N[i]? = some x) (hx : Loc X.env.scope x) (r : RelV v u)
    (h : ∀ s', Inv X pins (σ.set i (some v)) H s' -> (∃ a, Heap.SameBut a s.heap s'.heap /\ (a = X.env.locals \/ X.env.cells.lookup x = some a)) -> Q () s') (hf : X.fn x = true \/ X.env.scope.names.lookup x = some .local := by first | exact .inl rfl | exact .inr rfl | assumption) : wpAny M A (storeName X.env x u) Q E s := by
  obtain ⟨m, hn, hl⟩ := id I.loc
  have hcls : (X.env.scope.kind == .class || (X.env.scope.kind == .module && X.env.locals != X.env.globals)) = false := by rw [I.ok.kind]; rfl
  have hiσ : i < σ.length := by rw [I.len]; exact (List.getElem?_eq_some_iff.mp hi).1
  have cne := I.cne
  have tracked : ∀ {a : Addr} {h' : Heap}, (∃ o, s.heap.get? a = some o /\ H a = none) -> Heap.SameBut a s.heap h' -> HOk X.prog X.w H h' := fun {a h'} ha hs b ob e => by
    obtain ⟨_, _, hfree⟩ := ha
    refine (I.hok b ob e).stay (fun c w' hc q => (hs.2 c ?_).trans q) (fun _ q => q) fun _ _ q => q
    rintro rfl
    rcases hc with rfl | hc
    . rw [hfree] at e; cases e
    . rw [hfree] at hc; cases hc
  rcases hx with hk | hk
  . refine wpAny_storeName_local hk hn (fun h' hn' hs => ?_) hcls
    obtain ⟨oL, _, _, hoL, _⟩ := id hn
    refine h _ ⟨I.ok, I.os, I.bare, ⟨fun b o e n hb hx => ?_, fun b o e n hb hx => ?_, I.base.free, fun b o e hx => ?_, I.base.tups, I.base.frzs, I.base.tbls⟩, ⟨_, hn', fun j y v' e1 e2 e3 => ?_⟩, fun y c e => ?_, I.free, I.freeC, fun p hp => ?_, tracked ⟨oL, hoL, I.free⟩ hs, by simpa using I.len⟩ ⟨_, hs, .inl rfl⟩
    . exact (hs.2 b (Nat.ne_of_lt (Nat.lt_of_lt_of_le (Heap.lt_size e) I.ok.above))).trans (I.base.keep b o e n hb hx)
    . obtain ⟨sl, e1⟩ := I.base.slot b o e n hb hx
      exact ⟨sl, (hs.2 b (Nat.ne_of_lt (Nat.lt_of_lt_of_le (Heap.lt_size e) I.ok.above))).trans e1⟩
    . obtain ⟨o', e1⟩ := I.base.there b o e hx
      exact ⟨o', (hs.2 b (Nat.ne_of_lt (Nat.lt_of_lt_of_le (Heap.lt_size e) I.ok.above))).trans e1⟩
    . by_cases hj : j = i
      . subst hj
        rw [hi] at e1; cases e1
        rw [List.getElem?_set_self hiσ] at e2
        cases e2
        exact ⟨u, r, .inl ⟨hk, by simp⟩⟩
      . rw [List.getElem?_set_ne (Ne.symm hj)] at e2
        obtain ⟨u', r', q⟩ := hl j y v' e1 e2 e3
        refine ⟨u', r', ?_⟩
        rcases q with ⟨k, e⟩ | ⟨k, c, e, z⟩
        . refine .inl ⟨k, ?_⟩
          have : y ≠ x := fun e => hj (nodup_ix hN e1 (e ▸ hi))
          simp [this, e]
        . exact .inr ⟨k, c, e, z.sameBut hs (cne y c e)⟩
    . obtain ⟨w', z⟩ := I.cell y c e
      exact ⟨w', z.sameBut hs (cne y c e)⟩
    . obtain ⟨e, n, ne, nf, d⟩ := I.pin p hp
      exact ⟨(hs.2 p.1 ne).trans e, n, ne, nf, d⟩
  . have hfn : X.fn x = true := by
      rcases hf with z | z
      . exact z
      . rw [z] at hk; cases hk
    obtain ⟨c, hc⟩ := I.ok.has x (.inl hk)
    obtain ⟨w', z⟩ := I.cell x c hc
    refine wpAny_storeName_cell I.ok.kind hk hc z (fun h' hc' hs => ?_)
    obtain ⟨oc, hoc, hocd⟩ := id z
    refine h { s with heap := h' } ⟨I.ok, I.os, I.bare, ⟨fun b o e n hb hx => ?_, fun b o e n hb hx => ?_, I.base.free, fun b o e hx => ?_, I.base.tups, I.base.frzs, I.base.tbls⟩, ⟨m, hn.sameBut hs (Ne.symm (cne x c hc)), fun j y v' e1 e2 e3 => ?_⟩, fun y c' e => ?_, I.free, I.freeC, fun p hp => ?_, tracked ⟨oc, hoc, I.freeC x c hc⟩ hs, by simpa using I.len⟩ ⟨c, hs, .inr hc⟩
    . exact (hs.2 b (Nat.ne_of_lt (Nat.lt_of_lt_of_le (Heap.lt_size e) (I.ok.cab x c hfn hc)))).trans (I.base.keep b o e n hb hx)
    . obtain ⟨sl, e1⟩ := I.base.slot b o e n hb hx
      exact ⟨sl, (hs.2 b (Nat.ne_of_lt (Nat.lt_of_lt_of_le (Heap.lt_size e) (I.ok.cab x c hfn hc)))).trans e1⟩
    . obtain ⟨o', e1⟩ := I.base.there b o e hx
      exact ⟨o', (hs.2 b (Nat.ne_of_lt (Nat.lt_of_lt_of_le (Heap.lt_size e) (I.ok.cab x c hfn hc)))).trans e1⟩
    . by_cases hj : j = i
      . subst hj
        rw [hi] at e1; cases e1
        rw [List.getElem?_set_self hiσ] at e2
        cases e2
        exact ⟨u, r, .inr ⟨.inl hk, c, hc, hc'⟩⟩
      . rw [List.getElem?_set_ne (Ne.symm hj)] at e2
        obtain ⟨u', r', q⟩ := hl j y v' e1 e2 e3
        refine ⟨u', r', ?_⟩
        rcases q with q | ⟨k, c', e, z'⟩
        . exact .inl q
        . refine .inr ⟨k, c', e, z'.sameBut hs ?_⟩
          rintro rfl
          exact hj (nodup_ix hN e1 (I.ok.inj _ _ _ e hc ▸ hi))
    . by_cases hcc : c' = c
      . subst hcc; exact ⟨_, hc'⟩
      . obtain ⟨w2, z2⟩ := I.cell y c' e
        exact ⟨w2, z2.sameBut hs hcc⟩
    . obtain ⟨e, n, ne, nf, d⟩ := I.pin p hp
      refine ⟨(hs.2 p.1 ?_).trans e, n, ne, nf, d⟩
      intro q
      rw [q, hoc] at e
      have q' : oc = p.2 := Option.some.inj e
      exact d w' (by rw [<- q']; exact hocd)
theorem store_ok {M : Model} {A : Around} {E : Value -> Shared -> Prop} {i : Nat} {x : Str} {v : V} {u : Value} {Q : Unit -> Shared -> Prop} (I : Inv X pins σ H s) (hN : X.N.Nodup) (hi : X.N[i]? = some x) (hx : Loc X.env.scope x) (r : RelV v u)
    (h : ∀ s', Inv X pins (σ.set i (some v)) H s' -> Q () s') (hf : X.fn x = true \/ X.env.scope.names.lookup x = some .local := by first | exact .inl rfl | exact .inr rfl | assumption) : wpAny M A (storeName X.env x u) Q E s :=
  store_ok2 I hN hi hx r (fun s' I' _ => h s' I') hf
theorem Inv.call' {s' : Shared} {ch : List Addr} (I : Inv X pins σ H s) (ho : s'.os = s.os) (u : Un (frs X.stack) ch H H' s.heap s'.heap) (hok : HOk X.prog X.w H' s'.heap) (hg : AllBare s'.gens)
    (hch : ∀ b ∈ ch, (b ∈ X.ex \/ X.s₀.heap.objs.size <= b) /\ b ≠ X.env.locals /\ (∀ x c, X.env.cells.lookup x = some c -> c ≠ b) /\ ∀ p ∈ X.pn ++ pins, p.1 ≠ b) : Inv X pins σ H' s' := by
  obtain ⟨h', g', d', t', o'⟩ := s'
  have e : o' = s.os := ho
  subst e
  exact I.call (g' := g') (t' := t') (d' := d') u hok hg hch
end
abbrev XK := Value -> Option Addr -> Hp -> Prop
abbrev St := List (Option V)
abbrev VK := V -> Hp -> Prop
abbrev TE := St -> Hp -> VK -> Prop
abbrev TT := St -> Hp -> (Bool -> Hp -> Prop) -> Prop
abbrev TA := St -> Hp -> (List V -> Hp -> Prop) -> Prop
structure Ends where
  nx : St -> Hp -> Prop
  rt : VK
  bk : St -> Hp -> Prop := fun _ _ => False
  ct : St -> Hp -> Prop := fun _ _ => False
abbrev TS := Ends -> St -> Hp -> Prop
def EP (X : Cx) (pins : List (Addr × Obj)) (σ : St) (Q : VK) (u : Value) (s' : Shared) : Prop := ∃ v H', Inv X pins σ H' s' /\ RelV v u /\ Q v H'
def TP (X : Cx) (pins : List (Addr × Obj)) (σ : St) (Q : Bool -> Hp -> Prop) (b : Bool) (s' : Shared) : Prop := ∃ H', Inv X pins σ H' s' /\ Q b H'
def AP (X : Cx) (pins : List (Addr × Obj)) (σ : St) (Q : List V -> Hp -> Prop) (us : List Value) (s' : Shared) : Prop := ∃ vs H', Inv X pins σ H' s' /\ Vals vs us /\ Q vs H'
def SP (X : Cx) (pins : List (Addr × Obj)) (D : Ends) (f : Flow) (s' : Shared) : Prop :=
  match f with
  | .next => ∃ σ' H', Inv X pins σ' H' s' /\ D.nx σ' H'
  | .brk => ∃ σ' H', Inv X pins σ' H' s' /\ D.bk σ' H'
  | .cont => ∃ σ' H', Inv X pins σ' H' s' /\ D.ct σ' H'
  | .ret u => ∃ v σ' H', Inv X pins σ' H' s' /\ RelV v u /\ D.rt v H'
def PE (X : Cx) (e : Expr) (t : TE) : Prop :=
  ∀ (pins : List (Addr × Obj)) (s : Shared) (σ : St) (H : Hp) (Q : VK), Inv X pins σ H s -> t σ H Q -> wpAny (model X.prog X.w) X.A (eval e X.env) (EP X pins σ Q) X.xe s
def PT (X : Cx) (e : Expr) (t : TT) : Prop :=
  ∀ (pins : List (Addr × Obj)) (s : Shared) (σ : St) (H : Hp) (Q : Bool -> Hp -> Prop), Inv X pins σ H s -> t σ H Q -> wpAny (model X.prog X.w) X.A (isTrue e X.env (eval e X.env)) (TP X pins σ Q) X.xe s
def PW (X : Cx) (e : Expr) (t : TT) : Prop :=
  ∀ (whole : Sem Value) (pins : List (Addr × Obj)) (s : Shared) (σ : St) (H : Hp) (Q : Bool -> Hp -> Prop), Inv X pins σ H s -> t σ H Q -> wpAny (model X.prog X.w) X.A (isTrue e X.env whole) (TP X pins σ Q) X.xe s
theorem PW.pt {X : Cx} {e : Expr} {t : TT} (h : PW X e t) : PT X e t := h _
def PA (X : Cx) (es : List Expr) (t : TA) : Prop :=
  ∀ (pos : Pos) (pins : List (Addr × Obj)) (s : Shared) (σ : St) (H : Hp) (Q : List V -> Hp -> Prop), Inv X pins σ H s -> t σ H Q -> wpAny (model X.prog X.w) X.A (spliced (backTo pos (starEach es X.env))) (AP X pins σ Q) X.xe s
def PS (X : Cx) (st : Stmt) (t : TS) : Prop :=
  ∀ (pins : List (Addr × Obj)) (s : Shared) (σ : St) (H : Hp) (D : Ends), Inv X pins σ H s -> t D σ H -> wpAny (model X.prog X.w) X.A (exec st X.env) (SP X pins D) X.xe s
def PSs (X : Cx) (st : List Stmt) (t : TS) : Prop :=
  ∀ (pins : List (Addr × Obj)) (s : Shared) (σ : St) (H : Hp) (D : Ends), Inv X pins σ H s -> t D σ H -> wpAny (model X.prog X.w) X.A (execs st X.env) (SP X pins D) X.xe s
theorem thn {α : Type} {t : Sem α} {Q Q' : α -> Shared -> Prop} {M : Model} {A : Around} {E : Value -> Shared -> Prop} {s : Shared} (h : wpAny M A t Q E s) (hQ : ∀ a s, Q a s -> Q' a s) : wpAny M A t Q' E s := wpAny_mono h hQ fun _ _ x => x
end L2
namespace L2
open PySem PySem.Spec PyProof.Rows
section
variable {X : Cx}
def tVar (i : Nat) : TE := fun σ H Q => ∃ v, σ[i]? = some (some v) /\ Q v H
def tC (v : V) : TE := fun _ H Q => Q v H
theorem pe_var {i : Nat} {x : Str} {pos : Pos} (hN : X.N[i]? = some x) (hv : Vis X.env.scope x) (hd : (x == ("__debug__" : Str)) = false := by decide) (hcd : (x == ("__classdict__" : Str)) = false := by decide) : PE X (.Name x pos) (tVar i) := by
  intro pins s σ H Q I h
  obtain ⟨v, e, h⟩ := h
  obtain ⟨m, hn, hl⟩ := I.loc
  obtain ⟨u, r, l⟩ := hl i x v hN e hv
  have fin : EP X pins σ Q u s := ⟨v, H, I, r, h⟩
  rcases l with ⟨hk, hm⟩ | ⟨hk, c, hc, hcell⟩
  . exact wpAny_Name (wpAny_loadName_local I.ok.kind hk hn hm fin) hd
  . rcases hk with hk | hk
    . exact wpAny_Name (wpAny_loadName_cell I.ok.kind hk hc hcell fin) hd
    . exact wpAny_Name (wpAny_loadName_free I.ok.kind hk hc hcell fin hcd) hd
theorem pe_int {i j pos} : PE X (.Constant (.int i) j pos) (tC (.int i)) := fun _ _ _ H _ I h => wpAny_Constant_int ⟨.int i, H, I.tok _, ⟨_, rfl⟩, h⟩
theorem pe_bl {b j pos} : PE X (.Constant (.bool b) j pos) (tC (.bl b)) := fun _ _ _ H _ I h => Constant_bool ⟨.bl b, H, I, rfl, h⟩
theorem pe_non {j pos} : PE X (.Constant .none j pos) (tC .non) := fun _ _ _ H _ I h => Constant_none ⟨.non, H, I, rfl, h⟩
theorem pe_str {x j pos} : PE X (.Constant (.str x) j pos) (tC (.str x)) := fun _ _ _ H _ I h => Calls.Constant_str ⟨.str x, H, I.tok _, ⟨_, rfl⟩, h⟩
def Gl (X : Cx) (x : Str) : Prop := X.env.kindOf x = some .globalImplicit
theorem ld_glob {E : Value -> Shared -> Prop} {pins : List (Addr × Obj)} {s : Shared} {σ : St} {H : Hp} {x : Str} {u : Value} {pos : Pos} {Q : Value -> Shared -> Prop} (I : Inv X pins σ H s) (hg : Gl X x) (hm : X.mg x = some u) (h : Q u s)
    (hd : (x == ("__debug__" : Str)) = false := by decide) : wpAny (model X.prog X.w) X.A (eval (.Name x pos) X.env) Q E s :=
  Calls.Name_function_global I.ok.kind hg (Calls.loadGlobal_global (by rw [I.ok.glob]; exact I.mod.glob.keeps I.bk) hm h) hd
theorem ld_blt {E : Value -> Shared -> Prop} {pins : List (Addr × Obj)} {s : Shared} {σ : St} {H : Hp} {x : Str} {u : Value} {pos : Pos} {Q : Value -> Shared -> Prop} (I : Inv X pins σ H s) (hg : Gl X x) (hm : X.mg x = none) (hv : bootBuiltins x = some u) (h : Q u s)
    (hn : x ≠ "__name__" := by decide) (hd : (x == ("__debug__" : Str)) = false := by decide) : wpAny (model X.prog X.w) X.A (eval (.Name x pos) X.env) Q E s := by
  obtain ⟨mb, h1, h2⟩ := I.mod.blt
  exact Calls.Name_function_global I.ok.kind hg (Calls.loadGlobal_builtin (by rw [I.ok.glob]; exact I.mod.glob.keeps I.bk) hm (by rw [I.ok.blt]; exact h1.keeps I.bk) ((h2 x hn).trans hv) h) hd
theorem pe_glob {x : Str} {v : V} {u : Value} {pos : Pos} (hg : Gl X x) (hm : X.mg x = some u) (r : RelV v u) (hd : (x == ("__debug__" : Str)) = false := by decide) : PE X (.Name x pos) (tC v) :=
  fun _ _ _ H _ I h => ld_glob I hg hm ⟨v, H, I, r, h⟩ hd
theorem pe_bltn {x : Str} {v : V} {u : Value} {pos : Pos} (hg : Gl X x) (hm : X.mg x = none) (hv : bootBuiltins x = some u) (r : RelV v u) (hn : x ≠ "__name__" := by decide) (hd : (x == ("__debug__" : Str)) = false := by decide) : PE X (.Name x pos) (tC v) :=
  fun _ _ _ H _ I h => ld_blt I hg hm hv ⟨v, H, I, r, h⟩ hn hd
variable {a b : Expr} {ta tb : TE} {pos : Pos}
def PC (X : Cx) (op : CmpOp) (a b : Expr) (t : TE) : Prop :=
  ∀ (pins : List (Addr × Obj)) (s : Shared) (σ : St) (H : Hp) (Q : VK), Inv X pins σ H s -> t σ H Q ->
    wpAny (model X.prog X.w) X.A (eval a X.env) (fun v s₁ => wpAny (model X.prog X.w) X.A (eval b X.env) (fun u s₂ => wpAny (model X.prog X.w) X.A (compareOp op v u) (EP X pins σ Q) X.xe s₂) X.xe s₁) X.xe s
theorem nobehind (b : Expr) {op : CmpOp} (h : op ≠ .In) (h2 : op ≠ .NotIn) : behindInMarks op b = false := by
  have e1 : (op == CmpOp.In) = false := by cases op <;> first | rfl | exact absurd rfl h
  have e2 : (op == CmpOp.NotIn) = false := by cases op <;> first | rfl | exact absurd rfl h2
  cases b <;> simp [behindInMarks, e1, e2]
def tB (t : TE) : TT := fun σ H Q => t σ H fun x H1 => ∃ c, x = .bl c /\ Q c H1
theorem pt_cmp {op : CmpOp} {t : TE} (h : PC X op a b t) (h1 : behindInMarks op b = false := by first | exact nobehind _ (by decide) (by decide) | rfl) : PT X (.Compare a [op] [b] pos) (tB t) := by
  intro pins s σ H Q I hw
  refine wpAny_isTrue_Compare1 (thn (h pins s σ H _ I hw) fun v s1 h1 => thn h1 fun u s2 h2 => thn h2 fun c s3 ⟨x, H1, I1, r1, q1⟩ => ?_) h1
  obtain ⟨d, rfl, q⟩ := q1
  cases r1
  exact wpAny_truthy_bool ⟨H1, I1, q⟩
theorem pt_val {e : Expr} {t : TE} (h : PE X e t) (he : ∀ whole, isTrue e X.env whole = (do let v <- whole; standAt e.pos; holding [v] (truthy v)) := by intro _; rfl) : PT X e (tB t) := by
  intro pins s σ H Q I hw
  refine isTrue_plain (thn (h pins s σ H _ I hw) fun v s1 ⟨x, H1, I1, r1, q1⟩ => ?_) (he _)
  obtain ⟨d, rfl, q⟩ := q1
  cases r1
  exact wpAny_truthy_bool ⟨H1, I1, q⟩
variable {tA tB' : TT} {rest : List Expr}
def tAnd (t u : TT) : TT := fun σ H Q => t σ H fun c H1 => if c = true then u σ H1 Q else Q false H1
def tOr (t u : TT) : TT := fun σ H Q => t σ H fun c H1 => if c = true then Q true H1 else u σ H1 Q
def tNot (t : TT) : TT := fun σ H Q => t σ H fun c H1 => Q (!c) H1
theorem pw_and1 (ha : PT X a tA) : PW X (.BoolOp .And [a] pos) tA := by
  intro wh pins s σ H Q I h
  refine isTrue_and (thn (ha pins s σ H Q I h) fun c s1 e => ?_)
  cases c with
  | true => exact isTrue_and_nil e
  | false => exact e
theorem pw_or1 (ha : PT X a tA) : PW X (.BoolOp .Or [a] pos) tA := by
  intro wh pins s σ H Q I h
  refine isTrue_or (thn (ha pins s σ H Q I h) fun c s1 e => ?_)
  cases c with
  | false => exact isTrue_or_nil e
  | true => exact e
theorem pw_and (ha : PT X a tA) (hb : PW X (.BoolOp .And (b :: rest) pos) tB') : PW X (.BoolOp .And (a :: b :: rest) pos) (tAnd tA tB') := by
  intro wh pins s σ H Q I h
  refine isTrue_and (thn (ha pins s σ H _ I h) fun c s1 ⟨H1, I1, q1⟩ => ?_)
  cases c with
  | true => exact hb wh pins s1 σ H1 Q I1 q1
  | false => exact ⟨H1, I1, q1⟩
theorem pw_or (ha : PT X a tA) (hb : PW X (.BoolOp .Or (b :: rest) pos) tB') : PW X (.BoolOp .Or (a :: b :: rest) pos) (tOr tA tB') := by
  intro wh pins s σ H Q I h
  refine isTrue_or (thn (ha pins s σ H _ I h) fun c s1 ⟨H1, I1, q1⟩ => ?_)
  cases c with
  | true => exact ⟨H1, I1, q1⟩
  | false => exact hb wh pins s1 σ H1 Q I1 q1
theorem pt_not (ha : PT X a tA) : PT X (.UnaryOp .Not a pos) (tNot tA) := by
  intro pins s σ H Q I h
  exact isTrue_not (ha pins s σ H (fun c H1 => Q (!c) H1) I h)
def tAndV (ta tb : TE) : TE := fun σ H Q => ta σ H fun x H1 => ∃ c, x = .bl c /\ if c = true then tb σ H1 Q else Q (.bl false) H1
def tNotV (ta : TE) : TE := fun σ H Q => ta σ H fun x H1 => ∃ c, x = .bl c /\ Q (.bl (!c)) H1
theorem pe_one {op} {t : TE} (h : PE X a t) : PE X (.BoolOp op [a] pos) t := fun pins s σ H Q I hw => BoolOp_one (h pins s σ H Q I hw)
theorem pe_and (ha : PE X a ta) (hb : PE X (.BoolOp .And (b :: rest) pos) tb) : PE X (.BoolOp .And (a :: b :: rest) pos) (tAndV ta tb) := by
  intro pins s σ H Q I h
  refine BoolOp_and (thn (ha pins s σ H _ I h) fun v s1 ⟨x, H1, I1, r1, q1⟩ => ?_)
  obtain ⟨c, rfl, q1⟩ := q1
  cases r1
  refine wpAny_truthy_bool ?_
  cases c with
  | true => exact hb pins s1 σ H1 Q I1 q1
  | false => exact ⟨.bl false, H1, I1, rfl, q1⟩
theorem pe_not (ha : PE X a ta) : PE X (.UnaryOp .Not a pos) (tNotV ta) := by
  intro pins s σ H Q I h
  refine UnaryOp_ (thn (ha pins s σ H _ I h) fun v s1 ⟨x, H1, I1, r1, q1⟩ => ?_)
  obtain ⟨c, rfl, q1⟩ := q1
  cases r1
  exact not_of (wpAny_truthy_bool ⟨.bl (!c), H1, I1, rfl, q1⟩)
end
end L2
namespace L2
open PySem PySem.Spec PyProof.Rows
def SqL (K : PySem.W.Frag) (H : Hp) (a : Addr) (xs : List V) : Prop :=
  Rd H a (.lst xs) \/
    ∃ (o : Obj) (its : Array Value) (n : Nat), K.lookup a = some o /\ o.cls = .type "list" /\ o.dict = none /\ o.data = .seq its n /\ its.size <= sizeLine /\ Vals xs its.toList
def SqT (K : PySem.W.Frag) (H : Hp) (a : Addr) (xs : List V) : Prop :=
  Rd H a (.tup xs) \/
    ∃ (o : Obj) (its : Array Value) (n : Nat), K.lookup a = some o /\ o.cls = .type "tuple" /\ o.data = .seq its n /\ its.size <= sizeLine /\ Vals xs its.toList
def absV : Value -> Option V
  | .none => some .non
  | .bool b => some (.bl b)
  | .int i _ => some (.int i)
  | .str x _ => some (.str x)
  | .bytes b _ => some (.byt b)
  | .float b _ => some (.flt b)
  | .ref a => some (.ref a)
  | .type n => some (.ty n)
  | _ => none
theorem RelV.abs {x : V} {u : Value} (r : RelV x u) : absV u = some x := by
  cases x with
  | non => cases r; rfl
  | bl _ => cases r; rfl
  | int _ => obtain ⟨t, rfl⟩ := r; rfl
  | str _ => obtain ⟨t, rfl⟩ := r; rfl
  | byt _ => obtain ⟨t, rfl⟩ := r; rfl
  | flt _ => obtain ⟨t, rfl⟩ := r; rfl
  | ref _ => cases r; rfl
  | ty _ => cases r; rfl
theorem RelV.inj {x y : V} {u : Value} (r : RelV x u) (q : RelV y u) : x = y := Option.some.inj (r.abs.symm.trans q.abs)
theorem Vals.inj : ∀ {xs ys : List V} {us : List Value}, Vals xs us -> Vals ys us -> xs = ys
  | _, _, _, .nil, .nil => rfl
  | _, _, _, .cons r t, .cons r' t' => by rw [r.inj r', Vals.inj t t']
section
variable {X : Cx} {pins : List (Addr × Obj)} {σ : St} {H : Hp} {s : Shared} {a : Addr} {xs ys : List V}
theorem SqL.of {K : PySem.W.Frag} (h : H a = some (.lst xs)) : SqL K H a xs := .inl (.inl h)
theorem SqT.of {K : PySem.W.Frag} (h : H a = some (.tup xs)) : SqT K H a xs := .inl (.inl h)
theorem Inv.list (I : Inv X pins σ H s) (h : SqL X.K H a xs) : ∃ its : List Value, Vals xs its /\ PlainL s.heap a its.toArray /\ xs.length <= sizeLine := by
  rcases h with h | ⟨o, its, n, hk, hc, hd, hs, hz, r⟩
  . obtain ⟨z, its, n, r, e⟩ := h.ok I.hok
    exact ⟨its, r, ⟨_, n, e, rfl, rfl, rfl⟩, z⟩
  . refine ⟨its.toList, r, ⟨o, n, I.kIn a o hk, hc, hd, by simpa using hs⟩, ?_⟩
    have e := r.length
    simp only [Array.length_toList] at e
    omega
theorem Inv.tuple (I : Inv X pins σ H s) (h : SqT X.K H a xs) : ∃ its : List Value, Vals xs its /\ IsTup s.heap a its.toArray /\ xs.length <= sizeLine := by
  rcases h with h | ⟨o, its, n, hk, hc, hs, hz, r⟩
  . obtain ⟨z, its, r, p⟩ := h.ok I.hok
    exact ⟨its, r, p, z⟩
  . refine ⟨its.toList, r, ⟨o, I.kIn a o hk, hc, n, by simpa using hs⟩, ?_⟩
    have e := r.length
    simp only [Array.length_toList] at e
    omega
theorem Inv.list_inj (I : Inv X pins σ H s) (h : SqL X.K H a xs) (h' : SqL X.K H a ys) : xs = ys := by
  obtain ⟨its, r, ⟨o, n, e, _, _, d⟩, _⟩ := I.list h
  obtain ⟨its', r', ⟨o', n', e', _, _, d'⟩, _⟩ := I.list h'
  rw [e] at e'; cases e'
  rw [d] at d'
  injection d' with d1 _
  have : its = its' := by simpa using congrArg Array.toList d1
  subst this
  exact r.inj r'
theorem Inv.tuple_inj (I : Inv X pins σ H s) (h : SqT X.K H a xs) (h' : SqT X.K H a ys) : xs = ys := by
  obtain ⟨its, r, ⟨o, e, _, n, d⟩, _⟩ := I.tuple h
  obtain ⟨its', r', ⟨o', e', _, n', d'⟩, _⟩ := I.tuple h'
  rw [e] at e'; cases e'
  rw [d] at d'
  injection d' with d1 _
  have : its = its' := by simpa using congrArg Array.toList d1
  subst this
  exact r.inj r'
end
abbrev Cx.wish (X : Cx) (E : Value -> Shared -> Prop) : Cx := { X with xe := E }
abbrev Cx.nox (X : Cx) : Cx := X.wish fun _ _ => False
theorem Cx.Ok.wish {X : Cx} (ok : X.Ok) (E : Value -> Shared -> Prop) : (X.wish E).Ok :=
  ⟨ok.mod, ok.kind, ok.glob, ok.blt, ok.above, ok.inj, ok.has, ok.cab, ok.hd, ok.frames, ok.stk, ok.exf, ok.bs, ok.bsz, ok.noex, ok.exfs, ok.funs, ok.frf⟩
theorem Cx.Ok.unwish {X : Cx} {E : Value -> Shared -> Prop} (ok : (X.wish E).Ok) : X.Ok :=
  ⟨ok.mod, ok.kind, ok.glob, ok.blt, ok.above, ok.inj, ok.has, ok.cab, ok.hd, ok.frames, ok.stk, ok.exf, ok.bs, ok.bsz, ok.noex, ok.exfs, ok.funs, ok.frf⟩
section
variable {X : Cx} {pins : List (Addr × Obj)} {σ : St} {H : Hp} {s : Shared} {E : Value -> Shared -> Prop}
theorem Inv.wish (I : Inv X pins σ H s) (E : Value -> Shared -> Prop) : Inv (X.wish E) pins σ H s := ⟨I.ok.wish E, I.os, I.bare, I.base, I.loc, I.cell, I.free, I.freeC, I.pin, I.hok, I.len⟩
theorem Inv.unwish (I : Inv (X.wish E) pins σ H s) : Inv X pins σ H s := ⟨I.ok.unwish, I.os, I.bare, I.base, I.loc, I.cell, I.free, I.freeC, I.pin, I.hok, I.len⟩
theorem SP.unwish {D : Ends} {f : Flow} {s' : Shared} (h : SP (X.wish E) pins D f s') : SP X pins D f s' := by
  cases f with
  | next => obtain ⟨σ', H', I, q⟩ := h; exact ⟨σ', H', I.unwish, q⟩
  | brk => obtain ⟨σ', H', I, q⟩ := h; exact ⟨σ', H', I.unwish, q⟩
  | cont => obtain ⟨σ', H', I, q⟩ := h; exact ⟨σ', H', I.unwish, q⟩
  | ret u => obtain ⟨v, σ', H', I, r, q⟩ := h; exact ⟨v, σ', H', I.unwish, r, q⟩
theorem PSs.nox {st : List Stmt} {t : TS} (h : PSs X.nox st t) : PSs X st t := fun pins s σ H D I hw =>
  wpAny_mono (h pins s σ H D (I.wish _) hw) (fun _ _ q => q.unwish) fun _ _ z => False.elim z
end
section
variable {X : Cx} {st : Stmt} {rest : List Stmt} {t u : TS} {e : Expr} {te : TE} {pos : Pos}
def tNext : TS := fun D σ H => D.nx σ H
def tSeq (t u : TS) : TS := fun D σ H => t { D with nx := u D } σ H
theorem pss_nil : PSs X [] tNext := fun _ _ σ H _ I h => wpAny_execs_nil ⟨σ, H, I, h⟩
theorem pss_cons (h1 : PS X st t) (h2 : PSs X rest u) : PSs X (st :: rest) (tSeq t u) := by
  intro pins s σ H D I h
  refine wpAny_execs_cons (thn (h1 pins s σ H { D with nx := u D } I h) fun f s1 q => ?_)
  cases f with
  | next =>
    obtain ⟨σ', H', I', q⟩ := q
    exact h2 pins s1 σ' H' D I' q
  | ret v => exact q
  | brk => exact q
  | cont => exact q
theorem pss_one (h1 : PS X st t) : PSs X [st] t := by
  intro pins s σ H D I h
  refine wpAny_execs_cons (thn (h1 pins s σ H D I h) fun f s1 q => ?_)
  cases f with
  | next => exact wpAny_execs_nil q
  | ret v => exact q
  | brk => exact q
  | cont => exact q
theorem Inv.quiet {pins : List (Addr × Obj)} {σ : St} {H : Hp} {s : Shared} (I : Inv X pins σ H s) : interactive X.env = false := by simp [interactive, I.ok.kind]
def tDrop (te : TE) : TS := fun D σ H => te σ H fun _ H1 => D.nx σ H1
theorem ps_expr (he : PE X e te) (hs : swapsWith e none pos.line X.env = pure false := by rfl) : PS X (.Expr e pos) (tDrop te) := by
  intro pins s σ H D I h
  exact wpAny_Expr_any (thn (he pins s σ H _ I h) fun v s1 ⟨x, H1, I1, r1, q1⟩ => ⟨σ, H1, I1, q1⟩) I.quiet hs
def tRet (te : TE) : TS := fun D σ H => te σ H D.rt
theorem ps_ret (he : PE X e te) : PS X (.Return (some e) pos) (tRet te) := by
  intro pins s σ H D I h
  exact wpAny_Return_some (thn (he pins s σ H _ I h) fun v s1 ⟨x, H1, I1, r1, q1⟩ => ⟨x, σ, H1, I1, r1, q1⟩)
def tIfS (c : TT) (t u : TS) : TS := fun D σ H => c σ H fun b H1 => if b = true then t D σ H1 else u D σ H1
theorem ps_if {c : Expr} {a b : List Stmt} {tc : TT} (hc : PT X c tc) (ha : PSs X a t) (hb : PSs X b u) : PS X (.If c a b pos) (tIfS tc t u) := by
  intro pins s σ H D I h
  refine wpAny_If (thn (hc pins s σ H _ I h) fun d s1 ⟨H1, I1, q1⟩ => ?_)
  cases d with
  | true => exact ha pins s1 σ H1 D I1 q1
  | false => exact hb pins s1 σ H1 D I1 q1
end
abbrev TG := V -> St -> Hp -> (St -> Hp -> Prop) -> Prop
def PG (X : Cx) (target : Expr) (t : TG) : Prop :=
  ∀ (pins : List (Addr × Obj)) (s : Shared) (σ : St) (H : Hp) (v : V) (u : Value) (Q : St -> Hp -> Prop), Inv X pins σ H s -> RelV v u -> t v σ H Q ->
    wpAny (model X.prog X.w) X.A (assign target X.env u) (fun _ s' => ∃ σ' H', Inv X pins σ' H' s' /\ Q σ' H') X.xe s
abbrev TIp := V -> V -> Hp -> VK -> Prop
def PIp (X : Cx) (op : Operator) (t : TIp) : Prop :=
  ∀ (pins : List (Addr × Obj)) (s : Shared) (σ : St) (H : Hp) (x y : V) (v u : Value) (Q : VK), Inv X pins σ H s -> RelV x v -> RelV y u -> t x y H Q ->
    wpAny (model X.prog X.w) X.A (inplaceOp op v u) (EP X pins σ Q) X.xe s
section
variable {X : Cx} {pos : Pos}
def gName (i : Nat) : TG := fun v σ H Q => Q (σ.set i (some v)) H
theorem pg_name {i : Nat} {x : Str} (hN : X.N.Nodup) (hi : X.N[i]? = some x) (hx : Loc X.env.scope x) (hf : X.fn x = true \/ X.env.scope.names.lookup x = some .local := by first | exact .inl rfl | exact .inr rfl | assumption) : PG X (.Name x pos) (gName i) := by
  intro pins s σ H v u Q I r h
  exact wpAny_assign_Name (store_ok I hN hi hx r (fun s' I' => ⟨_, H, I', h⟩) hf)
def tAsg (te : TE) (g : TG) : TS := fun D σ H => te σ H fun x H1 => g x σ H1 D.nx
theorem ps_set {i : Nat} {x : Str} {e : Expr} {te : TE} {pos' : Pos} (hN : X.N.Nodup) (hi : X.N[i]? = some x) (hx : Loc X.env.scope x) (he : PE X e te) (hs : swapsWith e (some (.Name x pos')) pos.line X.env = pure false := by rfl) (hf : X.fn x = true \/ X.env.scope.names.lookup x = some .local := by first | exact .inl rfl | exact .inr rfl | assumption) :
    PS X (.Assign [.Name x pos'] e pos) (tAsg te (gName i)) := by
  intro pins s σ H D I h
  refine wpAny_Assign_Name (thn (he pins s σ H _ I h) fun v s1 ⟨y, H1, I1, r1, q1⟩ => ?_) hs
  exact store_ok I1 hN hi hx r1 (fun s2 I2 => ⟨_, H1, I2, q1⟩) hf
def tAug (i : Nat) (te : TE) (ti : TIp) : TS := fun D σ H => ∃ x, σ[i]? = some (some x) /\ te σ H fun y H1 => ti x y H1 fun z H2 => D.nx (σ.set i (some z)) H2
theorem ps_aug {i : Nat} {x : Str} {e : Expr} {te : TE} {op : Operator} {ti : TIp} {pos' : Pos} (hN : X.N.Nodup) (hi : X.N[i]? = some x) (hx : Loc X.env.scope x) (he : PE X e te) (ho : PIp X op ti) (hf : X.fn x = true \/ X.env.scope.names.lookup x = some .local := by first | exact .inl rfl | exact .inr rfl | assumption) :
    PS X (.AugAssign (.Name x pos') op e pos) (tAug i te ti) := by
  intro pins s σ H D I h
  obtain ⟨v, e1, h⟩ := h
  obtain ⟨m, hn, hl⟩ := I.loc
  have vis : Vis X.env.scope x := by rcases hx with k | k; exact .inl k; exact .inr (.inl k)
  obtain ⟨u, r, l⟩ := hl i x v hi e1 vis
  refine wpAny_AugAssign_Name ?_
  have go : wpAny (model X.prog X.w) X.A (eval e X.env) (fun w s₂ => wpAny (model X.prog X.w) X.A (inplaceOp op u w) (fun r s₃ => wpAny (model X.prog X.w) X.A (storeName X.env x r) (fun _ => SP X pins D .next) X.xe s₃) X.xe s₂) X.xe s := by
    refine thn (he pins s σ H _ I h) fun w s1 ⟨y, H1, I1, r1, q1⟩ => ?_
    refine thn (ho pins s1 σ H1 v y u w _ I1 r r1 q1) fun z s2 ⟨zv, H2, I2, r2, q2⟩ => ?_
    exact store_ok I2 hN hi hx r2 (fun s3 I3 => ⟨_, H2, I3, q2⟩) hf
  rcases l with ⟨hk, hm⟩ | ⟨hk, c, hc, hcell⟩
  . exact wpAny_loadName_local I.ok.kind hk hn hm go
  . rcases hk with hk | hk
    . exact wpAny_loadName_cell I.ok.kind hk hc hcell go
    . rcases hx with k | k
      . have : X.env.scope.names.lookup x = some .free := hk
        rw [k] at this; cases this
      . have : X.env.scope.names.lookup x = some .free := hk
        rw [k] at this; cases this
def ipI (f : Int -> Int -> Int) : TIp := fun x y H Q => ∃ i j, x = .int i /\ y = .int j /\ Q (.int (f i j)) H
theorem ip_add : PIp X .Add (ipI fun i j => i + j) := by
  intro pins s σ H x y v u Q I r1 r2 h
  obtain ⟨i, j, e1, e2, q⟩ := h
  subst e1; subst e2
  obtain ⟨t, rfl⟩ := r1
  obtain ⟨t', rfl⟩ := r2
  exact iadd_int ⟨.int _, H, I.tok _, ⟨_, rfl⟩, q⟩
end
section
variable {X : Cx} {pos : Pos}
def tWhile (c : TT) (tb : TS) : TS := fun D σ H => ∃ W : Nat -> St -> Hp -> Prop, (∃ m, W m σ H) /\ ∀ m σ H, W m σ H ->
  c σ H fun b H1 => if b = true then ∃ N : St -> Hp -> Prop, (∀ σ' H', N σ' H' -> ∃ m', m' < m /\ W m' σ' H') /\ tb { D with nx := N, ct := N, bk := D.nx } σ H1 else D.nx σ H1
theorem ps_while {c : Expr} {body : List Stmt} {tc : TT} {tb : TS} (hp : PassesOwn (model X.prog X.w) X.A X.env X.xe) (hc : PT X c tc) (hb : PSs X body tb) : PS X (.While c body [] pos) (tWhile tc tb) := by
  intro pins s σ H D I h
  obtain ⟨W, ⟨m0, w0⟩, turn⟩ := h
  refine wpAny_While (codeAny_whileLoop (fun n s' => ∃ σ' H', Inv X pins σ' H' s' /\ W n σ' H') ?_ m0 ⟨σ, H, I, w0⟩)
  rintro n s1 ⟨σ1, H1, I1, w1⟩
  refine wpAny_passesOwn hp (thn (hc pins s1 σ1 H1 _ I1 (turn n σ1 H1 w1)) fun b s2 ⟨H2, I2, q2⟩ => ?_)
  cases b with
  | true =>
    obtain ⟨N, hN, q2⟩ := q2
    rw [if_pos rfl]
    refine wpAny_passesOwn hp (thn (hb pins s2 σ1 H2 _ I2 q2) fun f s3 q3 => ?_)
    cases f with
    | next =>
      obtain ⟨σ3, H3, I3, n3⟩ := q3
      obtain ⟨m', hm, w3⟩ := hN σ3 H3 n3
      exact ⟨m', hm, σ3, H3, I3, w3⟩
    | cont =>
      obtain ⟨σ3, H3, I3, n3⟩ := q3
      obtain ⟨m', hm, w3⟩ := hN σ3 H3 n3
      exact ⟨m', hm, σ3, H3, I3, w3⟩
    | brk => exact q3
    | ret v => exact q3
  | false =>
    rw [if_neg Bool.false_ne_true]
    exact wpAny_execs_nil ⟨σ1, H2, I2, q2⟩
end
structure It where
  go : Nat -> Hp -> Prop
  yld : Nat -> Hp -> V -> Hp -> Prop
  stop : Nat -> Hp -> Prop
def FpOk (X : Cx) (pins : List (Addr × Obj)) (H : Hp) (b : Addr) : Prop :=
  H b = none /\ b ≠ X.env.locals /\ b ∉ X.fs /\ (b ∈ X.ex \/ X.s₀.heap.objs.size <= b) /\ (∀ x c, X.env.cells.lookup x = some c -> c ≠ b) /\ ∀ p ∈ X.pn ++ pins, p.1 ≠ b
theorem Inv.fpOk {X : Cx} {pins : List (Addr × Obj)} {σ : St} {H H' : Hp} {s : Shared} {b : Addr} (I : Inv X pins σ H s) (hb : s.heap.objs.size <= b) (hn : H' b = none) : FpOk X pins H' b := by
  refine ⟨hn, Nat.ne_of_gt (Nat.lt_of_lt_of_le I.lt hb), I.nofs hb, .inr (Nat.le_trans I.sz hb), fun x c e z => ?_, fun p hp z => ?_⟩
  . obtain ⟨v, q⟩ := I.cell x c e
    exact absurd (Nat.lt_of_lt_of_le q.lt (by rw [z]; exact hb)) (Nat.lt_irrefl _)
  . exact absurd (Nat.lt_of_lt_of_le (Heap.lt_size (I.pin p hp).1) (by rw [z]; exact hb)) (Nat.lt_irrefl _)
structure Turn (P : Program) (w : World) (K : PySem.W.Frag) (tg : Expr) (J : It) (fp : List Addr) (it : Addr) (tn : Nat -> Heap -> Prop) : Prop where
  mem : it ∈ fp
  obj : ∀ i h, tn i h -> ∀ b ∈ fp, ∃ o, h.get? b = some o /\ ∀ v, o.data ≠ .cell v
  keep : ∀ i h h', tn i h -> (∀ b ∈ fp, ∀ o, h.get? b = some o -> h'.get? b = some o) -> tn i h'
  item : ∀ (X : Cx), X.prog = P -> X.w = w -> X.K = K -> X.calm = true -> ∀ (i : Nat) (pins : List (Addr × Obj)) (s : Shared) (σ : St) (H : Hp) (E : Value -> Shared -> Prop), Inv X pins σ H s -> (∀ b ∈ fp, FpOk X pins H b) -> tn i s.heap -> J.go i H ->
    wpAny (model P w) X.A (pyNext (.ref it)) (fun r s1 => ∃ u, r = some u /\
      wpAny (model P w) X.A (letOwnedTupleGo tg (.ref it) u) (fun _ s2 => ∃ x H', Inv X pins σ H' s2 /\ RelV x u /\ J.yld i H x H' /\ tn (i + 1) s2.heap /\ ∀ b ∈ fp, H' b = none) E s1) E s
  done : ∀ (X : Cx), X.prog = P -> X.w = w -> X.K = K -> X.calm = true -> ∀ (i : Nat) (pins : List (Addr × Obj)) (s : Shared) (σ : St) (H : Hp) (E : Value -> Shared -> Prop), Inv X pins σ H s -> (∀ b ∈ fp, FpOk X pins H b) -> tn i s.heap -> J.stop i H ->
    wpAny (model P w) X.A (pyNext (.ref it)) (fun r s1 => r = none /\ Inv X pins σ H s1) E s
  self : ∀ (A : Around) (i : Nat) (s : Shared) (Q : Value -> Shared -> Prop) (E : Value -> Shared -> Prop), tn i s.heap -> Q (.ref it) s -> wpAny (model P w) A (pyIter (.ref it)) Q E s
abbrev TI := St -> Hp -> (It -> Hp -> Prop) -> Prop
def PIE (X : Cx) (pins : List (Addr × Obj)) (σ : St) (tg : Expr) (R : It -> Hp -> Prop) (itv : Value) (s2 : Shared) : Prop :=
  ∃ (it : Addr) (fp : List Addr) (tn : Nat -> Heap -> Prop) (J : It) (H' : Hp), itv = .ref it /\ Inv X pins σ H' s2 /\ Turn X.prog X.w X.K tg J fp it tn /\ tn 0 s2.heap /\ (∀ b ∈ fp, FpOk X pins H' b) /\ R J H'
def PI (X : Cx) (tg iter : Expr) (wi : TI) : Prop :=
  ∀ (pins : List (Addr × Obj)) (s : Shared) (σ : St) (H : Hp) (R : It -> Hp -> Prop), Inv X pins σ H s -> wi σ H R ->
    wpAny (model X.prog X.w) X.A (eval iter X.env) (fun v s1 => wpAny (model X.prog X.w) X.A (pyIter v) (PIE X pins σ tg R) X.xe s1) X.xe s
theorem go_of {M : Model} {A : Around} {E : Value -> Shared -> Prop} {s : Shared} {tg : Expr} {it : Addr} {u : Value} {o : Obj} {n : String} {vs : Array Value} {Q : Unit -> Shared -> Prop} (ho : s.heap.get? it = some o) (hc : o.cls = .type n) (hd : o.data = .fields vs)
    (hn : ["enumerate", "zip", "dict_itemiterator", "dict_reverseitemiterator", "odict_iterator", "itertools.zip_longest", "itertools.pairwise"].contains n = false) (hQ : Q () s) : wpAny M A (letOwnedTupleGo tg (.ref it) u) Q E s := by
  unfold letOwnedTupleGo
  cases tg <;> first
    | exact wpAny_pure hQ
    | (cases u <;> first
        | exact wpAny_pure hQ
        | (refine wpAny_bind (wpAny_load ho ?_)
           rw [hc, hd]
           show wpAny M A (if (["enumerate", "zip", "dict_itemiterator", "dict_reverseitemiterator", "odict_iterator", "itertools.zip_longest", "itertools.pairwise"].contains n && vs[0]? == some (rawInt _)) = true then _ else _) Q E s
           rw [if_neg (by intro h; rw [hn, Bool.false_and] at h; cases h)]
           exact wpAny_pure hQ))
def Itl (K : PySem.W.Frag) (a : Addr) : It :=
  ⟨fun i H => ∃ xs x, SqL K H a xs /\ xs[i]? = some x, fun i H x H' => H' = H /\ ∀ xs, SqL K H a xs -> xs[i]? = some x, fun i H => ∃ xs, SqL K H a xs /\ xs.length <= i⟩
def Itt (K : PySem.W.Frag) (a : Addr) : It :=
  ⟨fun i H => ∃ xs x, SqT K H a xs /\ xs[i]? = some x, fun i H x H' => H' = H /\ ∀ xs, SqT K H a xs -> xs[i]? = some x, fun i H => ∃ xs, SqT K H a xs /\ xs.length <= i⟩
def Itr (lo : Int) (n : Nat) : It := ⟨fun i _ => i < n, fun i H x H' => H' = H /\ x = .int (lo + i), fun i _ => n <= i⟩
theorem turn_list {P : Program} {w : World} {K : PySem.W.Frag} {tg : Expr} (a it : Addr) : Turn P w K tg (Itl K a) [it] it (fun i h => h.IsListIter it a i) where
  mem := by simp
  obj := fun i h st b hb => by
    have e : b = it := by simpa using hb
    subst e
    obtain ⟨o, e, c, d⟩ := st
    exact ⟨o, e, fun v z => by rw [d] at z; cases z⟩
  keep := fun i h h' st k => st.at fun o e => k it (by simp) o e
  item := by
    intro X hP hw hK hc i pins s σ H E I hf st hg
    subst hP hw hK
    obtain ⟨xs, x, hq, hx⟩ := hg
    obtain ⟨its, rv, p, hz⟩ := I.list hq
    obtain ⟨u, hu, ru⟩ := rv.get hx
    obtain ⟨f0, f1, f2, f3, f4, f5⟩ := hf it (by simp)
    refine wpAny_pyNext_list_item st p.isList (x := u) (by simpa using hu) fun h' st' sb => ?_
    have I1 : Inv X pins σ H { s with heap := h' } := I.turned (t' := s.toks) (fun b o hb e => (sb.2 b hb).trans e) f0 f1 f3 f4 f5
    obtain ⟨o, e, c, d⟩ := id st'
    exact ⟨u, rfl, go_of (s := { s with heap := h' }) e c d (by decide) ⟨x, H, I1, ru, ⟨rfl, fun ys hy => by rw [I.list_inj hy hq]; exact hx⟩, st', fun b hb => (hf b hb).1⟩⟩
  done := by
    intro X hP hw hK hc i pins s σ H E I hf st hg
    subst hP hw hK
    obtain ⟨xs, hq, hx⟩ := hg
    obtain ⟨its, rv, p, hz⟩ := I.list hq
    obtain ⟨f0, f1, f2, f3, f4, f5⟩ := hf it (by simp)
    have hl := rv.length
    exact wpAny_pyNext_list_end (I.ok.hd hc) st p.isList (by simp; omega) fun h' eb => ⟨rfl, I.turned (t' := s.toks) (fun b o hb e => eb b o hb e) f0 f1 f3 f4 f5⟩
  self := fun _ _ _ _ _ st h => wpAny_pyIter_listiter st h
theorem turn_tuple {P : Program} {w : World} {K : PySem.W.Frag} {tg : Expr} (a it : Addr) : Turn P w K tg (Itt K a) [it] it (fun i h => h.IsTupleIter it a i) where
  mem := by simp
  obj := fun i h st b hb => by
    have e : b = it := by simpa using hb
    subst e
    obtain ⟨o, e, c, d⟩ := st
    exact ⟨o, e, fun v z => by rw [d] at z; cases z⟩
  keep := fun i h h' st k => st.at fun o e => k it (by simp) o e
  item := by
    intro X hP hw hK hc i pins s σ H E I hf st hg
    subst hP hw hK
    obtain ⟨xs, x, hq, hx⟩ := hg
    obtain ⟨its, rv, p, hz⟩ := I.tuple hq
    obtain ⟨u, hu, ru⟩ := rv.get hx
    obtain ⟨f0, f1, f2, f3, f4, f5⟩ := hf it (by simp)
    refine wpAny_pyNext_tuple_item st (show s.heap.IsTuple a its.toArray from p) (x := u) (by simpa using hu) fun h' st' sb => ?_
    have I1 : Inv X pins σ H { s with heap := h' } := I.turned (t' := s.toks) (fun b o hb e => (sb.2 b hb).trans e) f0 f1 f3 f4 f5
    obtain ⟨o, e, c, d⟩ := id st'
    exact ⟨u, rfl, go_of (s := { s with heap := h' }) e c d (by decide) ⟨x, H, I1, ru, ⟨rfl, fun ys hy => by rw [I.tuple_inj hy hq]; exact hx⟩, st', fun b hb => (hf b hb).1⟩⟩
  done := by
    intro X hP hw hK hc i pins s σ H E I hf st hg
    subst hP hw hK
    obtain ⟨xs, hq, hx⟩ := hg
    obtain ⟨its, rv, p, hz⟩ := I.tuple hq
    obtain ⟨f0, f1, f2, f3, f4, f5⟩ := hf it (by simp)
    have hl := rv.length
    exact wpAny_pyNext_tuple_end (I.ok.hd hc) st (show s.heap.IsTuple a its.toArray from p) (by simp; omega) fun h' eb => ⟨rfl, I.turned (t' := s.toks) (fun b o hb e => eb b o hb e) f0 f1 f3 f4 f5⟩
  self := fun _ _ _ _ _ st h => wpAny_pyIter_tupleiter st h
theorem turn_range {P : Program} {w : World} {K : PySem.W.Frag} {tg : Expr} (it : Addr) (lo : Int) (n : Nat) : Turn P w K tg (Itr lo n) [it] it (fun i h => IsRangeIter h it (lo + (i : Nat) * 1) ((n : Int) - (i : Nat)) 1) where
  mem := by simp
  obj := fun i h st b hb => by
    have e : b = it := by simpa using hb
    subst e
    exact ⟨_, st, fun v z => by
      have z' : Data.fields _ = Data.cell v := z
      cases z'⟩
  keep := fun i h h' st k => k it (by simp) _ st
  item := by
    intro X hP hw hK hc i pins s σ H E I hf st hg
    subst hP hw hK
    obtain ⟨f0, f1, f2, f3, f4, f5⟩ := hf it (by simp)
    have W := Walks.range (prog := X.prog) (w := X.w) (I.ok.hd hc) it lo 1 n
    refine W.item i s _ _ hg st fun v h' tk hv st' kk => ?_
    obtain ⟨t, rfl⟩ := hv
    have I1 : Inv X pins σ H { s with heap := h', toks := tk } := I.turned (fun b o hb e => kk b o (by simpa using hb) e) f0 f1 f3 f4 f5
    refine ⟨_, rfl, go_of (s := { s with heap := h', toks := tk }) (n := "range_iterator") st' rfl rfl (by decide) ⟨.int (lo + i), H, I1, ⟨t, ?_⟩, ⟨rfl, rfl⟩, st', fun b hb => (hf b hb).1⟩⟩
    rw [Int.mul_one]
  done := by
    intro X hP hw hK hc i pins s σ H E I hf st hg
    subst hP hw hK
    obtain ⟨f0, f1, f2, f3, f4, f5⟩ := hf it (by simp)
    exact wpAny_pyNext_range_end (I.ok.hd hc) st (by have : n <= i := hg; omega) fun h' eb => ⟨rfl, I.turned (t' := s.toks) (fun b o hb e => eb b o hb e) f0 f1 f3 f4 f5⟩
  self := fun _ _ _ _ _ st h => wpAny_pyIter_rangeiter st h
end L2
namespace L2
open PySem PySem.Spec PyProof.Rows
section
variable {X : Cx} {tg : Expr}
def iList (K : PySem.W.Frag) (tl : TE) : TI := fun σ H R => tl σ H fun x H1 => ∃ a, x = .ref a /\ (∃ xs, SqL K H1 a xs) /\ R (Itl K a) H1
def iTup (K : PySem.W.Frag) (tl : TE) : TI := fun σ H R => tl σ H fun x H1 => ∃ a, x = .ref a /\ (∃ xs, SqT K H1 a xs) /\ R (Itt K a) H1
theorem pi_list {l : Expr} {tl : TE} (hl : PE X l tl) : PI X tg l (iList X.K tl) := by
  intro pins s σ H R I h
  refine thn (hl pins s σ H _ I h) fun v s1 ⟨x, H1, I1, r1, q1⟩ => ?_
  obtain ⟨a, e, ⟨xs, hq⟩, q⟩ := q1
  subst e
  cases r1
  obtain ⟨its, rv, p, hz⟩ := I1.list hq
  refine wpAny_pyIter_list p.isList ?_
  refine ⟨s1.heap.objs.size, [s1.heap.objs.size], _, _, H1, rfl, I1.kept (t' := s1.toks) fun b o e => Heap.get?_push_of_some _ e, turn_list a _, ⟨_, Heap.get?_push_size _ rfl, rfl, rfl⟩, fun b hb => ?_, q⟩
  have e : b = s1.heap.objs.size := by simpa using hb
  subst e
  exact I1.fpOk (Nat.le_refl _) (I1.hok.fresh (Nat.le_refl _))
theorem pi_tup {l : Expr} {tl : TE} (hl : PE X l tl) : PI X tg l (iTup X.K tl) := by
  intro pins s σ H R I h
  refine thn (hl pins s σ H _ I h) fun v s1 ⟨x, H1, I1, r1, q1⟩ => ?_
  obtain ⟨a, e, ⟨xs, hq⟩, q⟩ := q1
  subst e
  cases r1
  obtain ⟨its, rv, p, hz⟩ := I1.tuple hq
  refine wpAny_pyIter_tuple (show s1.heap.IsTuple a its.toArray from p) ?_
  refine ⟨s1.heap.objs.size, [s1.heap.objs.size], _, _, H1, rfl, I1.kept (t' := s1.toks) fun b o e => Heap.get?_push_of_some _ e, turn_tuple a _, ⟨_, Heap.get?_push_size _ rfl, rfl, rfl⟩, fun b hb => ?_, q⟩
  have e : b = s1.heap.objs.size := by simpa using hb
  subst e
  exact I1.fpOk (Nat.le_refl _) (I1.hok.fresh (Nat.le_refl _))
theorem range_it {pins : List (Addr × Obj)} {σ : St} {H : Hp} {s : Shared} {R : It -> Hp -> Prop} {E : Value -> Shared -> Prop} {lo hi : Int} {t u v : Tok} {tk : Nat} (I : Inv X pins σ H s) (h1 : -(2 ^ 62) <= lo) (h2 : lo < 2 ^ 62) (h3 : -(2 ^ 62) <= hi) (h4 : hi < 2 ^ 62)
    (q : R (Itr lo (hi - lo).toNat) H) : wpAny (model X.prog X.w) X.A (pyIter (.ref s.heap.objs.size)) (PIE X pins σ tg R) E { s with heap := s.heap.push { cls := .type "range", data := .fields #[.int lo t, .int hi u, .int 1 v] }, toks := tk } := by
  refine wpAny_pyIter_range (IsRange.new ..) (small_one h1 h2 h3 h4) ?_
  have I1 : Inv X pins σ H { s with heap := s.heap.push { cls := .type "range", data := .fields #[.int lo t, .int hi u, .int 1 v] }, toks := tk } := I.kept fun b o e => Heap.get?_push_of_some _ e
  refine ⟨(s.heap.push { cls := .type "range", data := .fields #[.int lo t, .int hi u, .int 1 v] }).objs.size, [(s.heap.push { cls := .type "range", data := .fields #[.int lo t, .int hi u, .int 1 v] }).objs.size], _, _, H, rfl,
    I1.kept (t' := tk) fun b o e => Heap.get?_push_of_some _ e, turn_range _ lo (hi - lo).toNat, ?_, fun b hb => ?_, q⟩
  . have e1 : lo + ((0 : Nat) : Int) * 1 = lo := by simp
    have e2 : (((hi - lo).toNat : Nat) : Int) - ((0 : Nat) : Int) = Builtin.Range.rangeSize lo hi 1 := by rw [rangeSize_one]; split <;> omega
    show IsRangeIter _ _ (lo + ((0 : Nat) : Int) * 1) ((((hi - lo).toNat : Nat) : Int) - ((0 : Nat) : Int)) 1
    rw [e1, e2]
    exact Heap.get?_push_size _ rfl
  . have e : b = (s.heap.push { cls := .type "range", data := .fields #[.int lo t, .int hi u, .int 1 v] }).objs.size := by simpa using hb
    subst e
    exact I1.fpOk (Nat.le_refl _) (I1.hok.fresh (Nat.le_refl _))
def iRng1 (ta : TA) : TI := fun σ H R => ta σ H fun vs H1 => ∃ j : Int, vs = [.int j] /\ -(2 ^ 62) <= j /\ j < 2 ^ 62 /\ R (Itr 0 j.toNat) H1
theorem pi_range1 {a : Expr} {ta : TA} {p pos : Pos} (hg : Gl X "range") (hm : X.mg "range" = none) (ha : PA X [a] ta) (hs : starEach [a] X.env = [(false, eval a X.env)] := by rfl) : PI X tg (.Call (.Name "range" p) [a] [] pos) (iRng1 ta) := by
  intro pins s σ H R I h
  refine Call_ (ld_blt I hg hm boot_range (PyProof.Rows.callWith_type1 (thn (ha pos pins s σ H _ I h) fun us s1 ⟨vs, H1, I1, r1, q1⟩ => ?_) hs rfl))
  obtain ⟨j, e, q1, q2, q⟩ := q1
  subst e
  cases r1 with
  | cons r rr =>
    cases rr
    obtain ⟨t, rfl⟩ := r
    exact call_range_1 (range_it I1 (by omega) (by omega) q1 q2 (by simpa using q))
def tFor (wi : TI) (g : TG) (tb : TS) : TS := fun D σ H => wi σ H fun J H1 => ∃ W : Nat -> Nat -> St -> Hp -> Prop, (∃ m, W 0 m σ H1) /\ ∀ i m σ H, W i m σ H ->
  (J.stop i H /\ D.nx σ H) \/ (J.go i H /\ ∃ N : St -> Hp -> Prop, (∀ σ' H', N σ' H' -> ∃ m', m' < m /\ W (i + 1) m' σ' H') /\ ∀ x H', J.yld i H x H' -> g x σ H' fun σ2 H2 => tb { D with nx := N, ct := N, bk := D.nx } σ2 H2)
def pinsAt (fp : List Addr) (h : Heap) : List (Addr × Obj) := fp.filterMap fun b => (h.get? b).map fun o => (b, o)
theorem mem_pinsAt {fp : List Addr} {h : Heap} {b : Addr} {o : Obj} (hb : b ∈ fp) (e : h.get? b = some o) : (b, o) ∈ pinsAt fp h := List.mem_filterMap.mpr ⟨b, hb, by rw [e]; rfl⟩
theorem of_pinsAt {fp : List Addr} {h : Heap} {p : Addr × Obj} (hp : p ∈ pinsAt fp h) : p.1 ∈ fp /\ h.get? p.1 = some p.2 := by
  obtain ⟨b, hb, e⟩ := List.mem_filterMap.mp hp
  cases q : h.get? b with
  | none => rw [q] at e; cases e
  | some o =>
    rw [q] at e
    have e' : (b, o) = p := Option.some.inj e
    subst e'
    exact ⟨hb, q⟩
theorem Inv.pinned {pins : List (Addr × Obj)} {σ : St} {H : Hp} {s : Shared} {fp : List Addr} (I : Inv X pins σ H s) (hf : ∀ b ∈ fp, FpOk X pins H b) (ho : ∀ b ∈ fp, ∃ o, s.heap.get? b = some o /\ ∀ v, o.data ≠ .cell v) : Inv X (pins ++ pinsAt fp s.heap) σ H s :=
  I.pins_of fun p hp => (List.mem_append.mp hp).elim (fun z => I.pin p (List.mem_append_right _ z)) fun z => by
    obtain ⟨hb, e⟩ := of_pinsAt z
    obtain ⟨f0, f1, f2, _⟩ := hf p.1 hb
    obtain ⟨o, e', d⟩ := ho p.1 hb
    rw [e] at e'; cases e'
    exact ⟨e, f0, f1, f2, d⟩
theorem Inv.unpinned {pins pl : List (Addr × Obj)} {σ : St} {H : Hp} {s : Shared} (I : Inv X (pins ++ pl) σ H s) : Inv X pins σ H s := I.pins_of fun p hp => I.pin p (List.mem_append_right _ (List.mem_append_left _ hp))
theorem ps_for {iter : Expr} {body : List Stmt} {wi : TI} {g : TG} {tb : TS} {pos : Pos} (hp : PassesOwn (model X.prog X.w) X.A X.env X.xe) (hc : X.calm = true) (hi : PI X tg iter wi) (hg : PG X tg g) (hb : PSs X body tb)
    (hs : ∀ x, foldedSetIterable iter X.env x = pure x := by intro _; rfl) : PS X (.For tg iter body [] pos) (tFor wi g tb) := by
  intro pins s σ H D I h
  refine wpAny_For (thn (hi pins s σ H _ I h) fun v s1 h1 => thn h1 fun itv s2 h2 => ?_) hs
  obtain ⟨it, fp, tn, J, H2, e, I2, T, st2, f2, W, ⟨m0, w0⟩, turn⟩ := h2
  subst e
  -- what stays true of the iterator's objects through the loop
  have stat : ∀ {H' : Hp}, (∀ b ∈ fp, H' b = none) -> ∀ b ∈ fp, FpOk X pins H' b := fun hn b hb => ⟨hn b hb, (f2 b hb).2⟩
  refine codeAny_forLoop_any (fun n s' => ∃ i σ' H', Inv X pins σ' H' s' /\ tn i s'.heap /\ (∀ b ∈ fp, H' b = none) /\ W i n σ' H') ?_ m0 ⟨0, σ, H2, I2, st2, fun b hb => (f2 b hb).1, w0⟩
  rintro n s3 ⟨i, σ3, H3, I3, st3, fr3, w3⟩
  rcases turn i n σ3 H3 w3 with ⟨stop, qn⟩ | ⟨go, N, hN, step⟩
  . refine wpAny_passesOwn hp (thn (T.done X rfl rfl rfl hc i pins s3 σ3 H3 X.xe I3 (stat fr3) st3 stop) fun r s4 ⟨hr, I4⟩ => ?_)
    subst hr
    exact wpAny_execs_nil ⟨σ3, H3, I4, qn⟩
  . refine wpAny_passesOwn hp (thn (T.item X rfl rfl rfl hc i pins s3 σ3 H3 X.xe I3 (stat fr3) st3 go) fun r s4 ⟨u, hr, h4⟩ => ?_)
    subst hr
    refine wpAny_passesOwn hp (thn h4 fun _ s5 ⟨x, H5, I5, r5, y5, st5, fr5⟩ => ?_)
    have I5' := I5.pinned (stat fr5) (T.obj _ _ st5)
    refine wpAny_passesOwn hp (thn (hg _ s5 σ3 H5 x u _ I5' r5 (step x H5 y5)) fun _ s6 ⟨σ6, H6, I6, q6⟩ => ?_)
    refine wpAny_passesOwn hp (thn (hb _ s6 σ6 H6 _ I6 q6) fun f s7 q7 => ?_)
    have again : ∀ {σ7 : St} {H7 : Hp}, Inv X (pins ++ pinsAt fp s5.heap) σ7 H7 s7 -> N σ7 H7 -> ∃ m, m < n /\ ∃ i σ' H', Inv X pins σ' H' s7 /\ tn i s7.heap /\ (∀ b ∈ fp, H' b = none) /\ W i m σ' H' := fun {σ7 H7} I7 n7 => by
      obtain ⟨m', hm, w7⟩ := hN σ7 H7 n7
      refine ⟨m', hm, i + 1, σ7, H7, I7.unpinned, T.keep _ _ _ st5 fun b hb o e => (I7.pin (b, o) (List.mem_append_right _ (List.mem_append_right _ (mem_pinsAt hb e)))).1, fun b hb => ?_, w7⟩
      obtain ⟨o, e, d⟩ := T.obj _ _ st5 b hb
      exact (I7.pin (b, o) (List.mem_append_right _ (List.mem_append_right _ (mem_pinsAt hb e)))).2.1
    cases f with
    | next => obtain ⟨σ7, H7, I7, n7⟩ := q7; exact again I7 n7
    | cont => obtain ⟨σ7, H7, I7, n7⟩ := q7; exact again I7 n7
    | brk => obtain ⟨σ7, H7, I7, q7⟩ := q7; exact ⟨σ7, H7, I7.unpinned, q7⟩
    | ret v => obtain ⟨x7, σ7, H7, I7, r7, q7⟩ := q7; exact ⟨x7, σ7, H7, I7.unpinned, r7, q7⟩
end
theorem for_list {K : PySem.W.Frag} {a : Addr} {xs : List V} {g : TG} {tb : TS} {D : Ends} {σ : St} {H : Hp} (Pv : Nat -> St -> Hp -> Prop) (h0 : Pv 0 σ H) (hl : ∀ i σ H, i <= xs.length -> Pv i σ H -> SqL K H a xs)
    (hs : ∀ i x σ H, xs[i]? = some x -> Pv i σ H -> g x σ H fun σ2 H2 => tb { D with nx := Pv (i + 1), ct := Pv (i + 1), bk := D.nx } σ2 H2) (hd : ∀ σ H, Pv xs.length σ H -> D.nx σ H) :
    ∃ W : Nat -> Nat -> St -> Hp -> Prop, (∃ m, W 0 m σ H) /\ ∀ i m σ H, W i m σ H ->
      ((Itl K a).stop i H /\ D.nx σ H) \/ ((Itl K a).go i H /\ ∃ N : St -> Hp -> Prop, (∀ σ' H', N σ' H' -> ∃ m', m' < m /\ W (i + 1) m' σ' H') /\ ∀ x H', (Itl K a).yld i H x H' -> g x σ H' fun σ2 H2 => tb { D with nx := N, ct := N, bk := D.nx } σ2 H2) := by
  refine ⟨fun i m σ H => m = xs.length - i /\ i <= xs.length /\ Pv i σ H, ⟨xs.length, by simp, Nat.zero_le _, h0⟩, ?_⟩
  rintro i m σ H ⟨rfl, hi, p⟩
  have q := hl i σ H hi p
  by_cases hlt : i < xs.length
  . refine .inr ⟨⟨xs, xs[i], q, by simp [hlt]⟩, Pv (i + 1), fun σ' H' p' => ⟨xs.length - (i + 1), by omega, rfl, hlt, p'⟩, fun x H' y => ?_⟩
    obtain ⟨e, y⟩ := y
    subst e
    exact hs i x σ _ (y xs q) p
  . have e : i = xs.length := by omega
    subst e
    exact .inl ⟨⟨xs, q, Nat.le_refl _⟩, hd σ H p⟩
theorem for_tup {K : PySem.W.Frag} {a : Addr} {xs : List V} {g : TG} {tb : TS} {D : Ends} {σ : St} {H : Hp} (Pv : Nat -> St -> Hp -> Prop) (h0 : Pv 0 σ H) (hl : ∀ i σ H, i <= xs.length -> Pv i σ H -> SqT K H a xs)
    (hs : ∀ i x σ H, xs[i]? = some x -> Pv i σ H -> g x σ H fun σ2 H2 => tb { D with nx := Pv (i + 1), ct := Pv (i + 1), bk := D.nx } σ2 H2) (hd : ∀ σ H, Pv xs.length σ H -> D.nx σ H) :
    ∃ W : Nat -> Nat -> St -> Hp -> Prop, (∃ m, W 0 m σ H) /\ ∀ i m σ H, W i m σ H ->
      ((Itt K a).stop i H /\ D.nx σ H) \/ ((Itt K a).go i H /\ ∃ N : St -> Hp -> Prop, (∀ σ' H', N σ' H' -> ∃ m', m' < m /\ W (i + 1) m' σ' H') /\ ∀ x H', (Itt K a).yld i H x H' -> g x σ H' fun σ2 H2 => tb { D with nx := N, ct := N, bk := D.nx } σ2 H2) := by
  refine ⟨fun i m σ H => m = xs.length - i /\ i <= xs.length /\ Pv i σ H, ⟨xs.length, by simp, Nat.zero_le _, h0⟩, ?_⟩
  rintro i m σ H ⟨rfl, hi, p⟩
  have q := hl i σ H hi p
  by_cases hlt : i < xs.length
  . refine .inr ⟨⟨xs, xs[i], q, by simp [hlt]⟩, Pv (i + 1), fun σ' H' p' => ⟨xs.length - (i + 1), by omega, rfl, hlt, p'⟩, fun x H' y => ?_⟩
    obtain ⟨e, y⟩ := y
    subst e
    exact hs i x σ _ (y xs q) p
  . have e : i = xs.length := by omega
    subst e
    exact .inl ⟨⟨xs, q, Nat.le_refl _⟩, hd σ H p⟩
theorem for_range {lo : Int} {n : Nat} {g : TG} {tb : TS} {D : Ends} {σ : St} {H : Hp} (Pv : Nat -> St -> Hp -> Prop) (h0 : Pv 0 σ H)
    (hs : ∀ i σ H, i < n -> Pv i σ H -> g (.int (lo + i)) σ H fun σ2 H2 => tb { D with nx := Pv (i + 1), ct := Pv (i + 1), bk := D.nx } σ2 H2) (hd : ∀ σ H, Pv n σ H -> D.nx σ H) :
    ∃ W : Nat -> Nat -> St -> Hp -> Prop, (∃ m, W 0 m σ H) /\ ∀ i m σ H, W i m σ H ->
      ((Itr lo n).stop i H /\ D.nx σ H) \/ ((Itr lo n).go i H /\ ∃ N : St -> Hp -> Prop, (∀ σ' H', N σ' H' -> ∃ m', m' < m /\ W (i + 1) m' σ' H') /\ ∀ x H', (Itr lo n).yld i H x H' -> g x σ H' fun σ2 H2 => tb { D with nx := N, ct := N, bk := D.nx } σ2 H2) := by
  refine ⟨fun i m σ H => m = n - i /\ i <= n /\ Pv i σ H, ⟨n, by simp, Nat.zero_le _, h0⟩, ?_⟩
  rintro i m σ H ⟨rfl, hi, p⟩
  by_cases hlt : i < n
  . refine .inr ⟨hlt, Pv (i + 1), fun σ' H' p' => ⟨n - (i + 1), by omega, rfl, hlt, p'⟩, fun x H' y => ?_⟩
    obtain ⟨e, y⟩ := y
    subst e y
    exact hs i σ _ hlt p
  . have e : i = n := by omega
    subst e
    exact .inl ⟨Nat.le_refl _, hd σ H p⟩
end L2
namespace L2
open PySem PySem.Spec PyProof.Rows
abbrev R2 := V -> V -> Hp -> VK -> Prop
def OpR (X : Cx) (f : Value -> Value -> Sem Value) (r : R2) : Prop :=
  ∀ (pins : List (Addr × Obj)) (s : Shared) (σ : St) (H : Hp) (x y : V) (v u : Value) (Q : VK), Inv X pins σ H s -> RelV x v -> RelV y u -> r x y H Q ->
    wpAny (model X.prog X.w) X.A (f v u) (EP X pins σ Q) X.xe s
def UnR (X : Cx) (f : Value -> Sem Value) (r : V -> Hp -> VK -> Prop) : Prop :=
  ∀ (pins : List (Addr × Obj)) (s : Shared) (σ : St) (H : Hp) (x : V) (v : Value) (Q : VK), Inv X pins σ H s -> RelV x v -> r x H Q ->
    wpAny (model X.prog X.w) X.A (f v) (EP X pins σ Q) X.xe s
def CallR (X : Cx) (f : Value) (r : List V -> Hp -> VK -> Prop) : Prop :=
  ∀ (pins : List (Addr × Obj)) (s : Shared) (σ : St) (H : Hp) (xs : List V) (us : List Value) (Q : VK), Inv X pins σ H s -> Vals xs us -> r xs H Q ->
    wpAny (model X.prog X.w) X.A (call f us) (EP X pins σ Q) X.xe s
def tOp (r : R2) (ta tb : TE) : TE := fun σ H Q => ta σ H fun x H1 => tb σ H1 fun y H2 => r x y H2 Q
def tUn (r : V -> Hp -> VK -> Prop) (ta : TE) : TE := fun σ H Q => ta σ H fun x H1 => r x H1 Q
def rI (C : Int -> Int -> Prop) (g : Int -> Int -> V) : R2 := fun x y H Q => ∃ i j, x = .int i /\ y = .int j /\ C i j /\ Q (g i j) H
def rI0 (g : Int -> Int -> V) : R2 := fun x y H Q => ∃ i j, x = .int i /\ y = .int j /\ Q (g i j) H
def rU (g : Int -> V) : V -> Hp -> VK -> Prop := fun x H Q => ∃ i, x = .int i /\ Q (g i) H
section
variable {X : Cx} {a b c : Expr} {ta tb tc : TE} {pos : Pos}
theorem binT (ha : PE X a ta) (hb : PE X b tb) {pins : List (Addr × Obj)} {s : Shared} {σ : St} {H : Hp} {R : V -> V -> Hp -> Prop} (I : Inv X pins σ H s)
    (h : ta σ H fun x H1 => tb σ H1 fun y H2 => R x y H2) {Q : Value -> Shared -> Prop} {f : Value -> Value -> Sem Value}
    (hf : ∀ v u s2 x y H2, Inv X pins σ H2 s2 -> RelV x v -> RelV y u -> R x y H2 -> wpAny (model X.prog X.w) X.A (f v u) Q X.xe s2) :
    wpAny (model X.prog X.w) X.A (eval a X.env) (fun v s₁ => wpAny (model X.prog X.w) X.A (eval b X.env) (fun u s₂ => wpAny (model X.prog X.w) X.A (f v u) Q X.xe s₂) X.xe s₁) X.xe s := by
  refine thn (ha pins s σ H _ I h) fun v s1 ⟨x, H1, I1, r1, q1⟩ => ?_
  refine thn (hb pins s1 σ H1 _ I1 q1) fun u s2 ⟨y, H2, I2, r2, q2⟩ => ?_
  exact hf v u s2 x y H2 I2 r1 r2 q2
theorem pe_op {op : Operator} {r : R2} (ho : OpR X (binaryOp op) r) (ha : PE X a ta) (hb : PE X b tb) : PE X (.BinOp a op b pos) (tOp r ta tb) := by
  intro pins s σ H Q I h
  exact wpAny_BinOp (binT ha hb I h fun v u s2 x y H2 I2 rx ry q => ho pins s2 σ H2 x y v u Q I2 rx ry q)
theorem pe_un {op : UnaryOp} {r : V -> Hp -> VK -> Prop} (ho : UnR X (unaryOp op) r) (ha : PE X a ta) : PE X (.UnaryOp op a pos) (tUn r ta) := by
  intro pins s σ H Q I h
  exact UnaryOp_ (thn (ha pins s σ H _ I h) fun v s1 ⟨x, H1, I1, r1, q1⟩ => ho pins s1 σ H1 x v Q I1 r1 q1)
theorem opI {f : Value -> Value -> Sem Value} {C : Int -> Int -> Prop} {g : Int -> Int -> Int}
    (rule : ∀ (i j : Int) (t u : Tok) (s : Shared) (Q : Value -> Shared -> Prop) (E : Value -> Shared -> Prop), C i j -> Q (.int (g i j) s.toks) { s with toks := s.toks + 1 } -> wpAny (model X.prog X.w) X.A (f (.int i t) (.int j u)) Q E s) :
    OpR X f (rI C fun i j => .int (g i j)) := by
  intro pins s σ H x y v u Q I rx ry h
  obtain ⟨i, j, rfl, rfl, hc, q⟩ := h
  obtain ⟨t, rfl⟩ := rx
  obtain ⟨t', rfl⟩ := ry
  exact rule i j t t' s _ _ hc ⟨.int (g i j), H, I.tok _, ⟨_, rfl⟩, q⟩
theorem opI0 {f : Value -> Value -> Sem Value} {g : Int -> Int -> Int}
    (rule : ∀ (i j : Int) (t u : Tok) (s : Shared) (Q : Value -> Shared -> Prop) (E : Value -> Shared -> Prop), Q (.int (g i j) s.toks) { s with toks := s.toks + 1 } -> wpAny (model X.prog X.w) X.A (f (.int i t) (.int j u)) Q E s) :
    OpR X f (rI0 fun i j => .int (g i j)) := by
  intro pins s σ H x y v u Q I rx ry h
  obtain ⟨i, j, rfl, rfl, q⟩ := h
  obtain ⟨t, rfl⟩ := rx
  obtain ⟨t', rfl⟩ := ry
  exact rule i j t t' s _ _ ⟨.int (g i j), H, I.tok _, ⟨_, rfl⟩, q⟩
theorem opB0 {f : Value -> Value -> Sem Value} {g : Int -> Int -> Bool}
    (rule : ∀ (i j : Int) (t u : Tok) (s : Shared) (Q : Value -> Shared -> Prop) (E : Value -> Shared -> Prop), Q (.bool (g i j)) s -> wpAny (model X.prog X.w) X.A (f (.int i t) (.int j u)) Q E s) :
    OpR X f (rI0 fun i j => .bl (g i j)) := by
  intro pins s σ H x y v u Q I rx ry h
  obtain ⟨i, j, rfl, rfl, q⟩ := h
  obtain ⟨t, rfl⟩ := rx
  obtain ⟨t', rfl⟩ := ry
  exact rule i j t t' s _ _ ⟨.bl (g i j), H, I, rfl, q⟩
def CDiv (i j : Int) : Prop := 0 < j /\ j < 1073741824
def CPow (i j : Int) : Prop := 0 <= j /\ j <= 1000000 /\ i.natAbs < 2 ^ 64
def CMul (i j : Int) : Prop := (-(2 ^ 64) < i /\ i < 2 ^ 64) \/ (-(2 ^ 64) < j /\ j < 2 ^ 64)
theorem CMul.ok {i j : Int} (h : CMul i j) : IntMulOk i j := by
  rcases h with ⟨h1, h2⟩ | ⟨h1, h2⟩
  . exact .of_left (intBits_le_64 h1 h2)
  . exact .of_right (intBits_le_64 h1 h2)
theorem op_add : OpR X (binaryOp .Add) (rI0 fun i j => .int (i + j)) := opI0 fun _ _ _ _ _ _ _ q => add_int q
theorem op_sub : OpR X (binaryOp .Sub) (rI0 fun i j => .int (i - j)) := opI0 fun _ _ _ _ _ _ _ q => sub_int q
theorem op_mul : OpR X (binaryOp .Mult) (rI CMul fun i j => .int (i * j)) := opI fun _ _ _ _ _ _ _ hc q => mul_int q hc.ok
theorem op_fdiv : OpR X (binaryOp .FloorDiv) (rI CDiv fun i j => .int (i / j)) := opI fun i j _ _ _ _ _ hc q => by
  have h1 : (0 : Int) < j := hc.1
  have h2 : j < 1073741824 := hc.2
  exact floordiv_int (by omega) (by rw [Int.fdiv_eq_ediv_of_nonneg i (by omega)]; exact q) (.inl (PyProof.noPylong_small (by omega)))
theorem op_mod : OpR X (binaryOp .Mod) (rI (fun _ j => 0 < j) fun i j => .int (i % j)) := opI fun i j _ _ _ _ _ hc q => by
  have h1 : (0 : Int) < j := hc
  exact mod_int' (by omega) (by rw [Int.fmod_eq_emod_of_nonneg i (by omega)]; exact q)
theorem op_pow : OpR X (binaryOp .Pow) (rI CPow fun i j => .int (i ^ j.toNat)) := opI fun _ _ _ _ _ _ _ hc q => pow_int_small hc.1 hc.2.1 hc.2.2 q
theorem unI {f : Value -> Sem Value} {g : Int -> Int}
    (rule : ∀ (i : Int) (t : Tok) (s : Shared) (Q : Value -> Shared -> Prop) (E : Value -> Shared -> Prop), Q (.int (g i) s.toks) { s with toks := s.toks + 1 } -> wpAny (model X.prog X.w) X.A (f (.int i t)) Q E s) :
    UnR X f (rU fun i => .int (g i)) := by
  intro pins s σ H x v Q I rx h
  obtain ⟨i, rfl, q⟩ := h
  obtain ⟨t, rfl⟩ := rx
  exact rule i t s _ _ ⟨.int (g i), H, I.tok _, ⟨_, rfl⟩, q⟩
theorem un_neg : UnR X (unaryOp .USub) (rU fun i => .int (-i)) := unI fun _ _ _ _ _ q => neg_int q
end
def scal : V -> V -> Bool
  | .non, .non => true | .non, .int _ => true | .int _, .non => true | .non, .bl _ => true | .bl _, .non => true | .non, .str _ => true | .str _, .non => true
  | .int _, .int _ => true | .bl _, .bl _ => true | .str _, .str _ => true | .byt _, .byt _ => true
  | .int _, .str _ => true | .str _, .int _ => true | .bl _, .str _ => true | .str _, .bl _ => true
  | _, _ => false
def rEq : R2 := fun x y H Q => scal x y = true /\ Q (.bl (decide (x = y))) H
def rNe : R2 := fun x y H Q => scal x y = true /\ Q (.bl (!decide (x = y))) H
theorem dec_int {i j : Int} : decide (V.int i = V.int j) = (i == j) := by
  rw [Bool.eq_iff_iff]
  simp
theorem dec_bl {i j : Bool} : decide (V.bl i = V.bl j) = (i == j) := by
  rw [Bool.eq_iff_iff]
  simp
theorem dec_str {i j : Str} : decide (V.str i = V.str j) = (i == j) := by
  rw [Bool.eq_iff_iff]
  simp
theorem dec_byt {i j : Array UInt8} : decide (V.byt i = V.byt j) = (i.toList == j.toList) := by
  rw [Bool.eq_iff_iff]
  cases i
  cases j
  simp
section
variable {X : Cx} {a b c : Expr} {ta tb tc : TE} {pos : Pos}
theorem fin_bl {pins : List (Addr × Obj)} {σ : St} {H : Hp} {s : Shared} {Q : VK} {k k' : Bool} (I : Inv X pins σ H s) (q : Q (.bl k) H) (e : k = k') : EP X pins σ Q (.bool k') s := by
  subst e
  exact ⟨.bl k, H, I, rfl, q⟩
theorem op_eq : OpR X (compareOp .Eq) rEq := by
  intro pins s σ H x y v u Q I rx ry h
  obtain ⟨hs, q⟩ := h
  cases x with
  | non =>
    cases rx
    cases y with
    | non => cases ry; exact PySem.EqNone.eq_none_none (fin_bl I q (by simp))
    | bl j => cases ry; exact PySem.EqNone.eq_none_bool (fin_bl I q (by simp))
    | int j => obtain ⟨t', rfl⟩ := ry; exact PySem.EqNone.eq_none_int (fin_bl I q (by simp))
    | str j => obtain ⟨t', rfl⟩ := ry; exact PySem.EqNone.eq_none_str (fin_bl I q (by simp))
    | _ => exact absurd (show false = true from hs) Bool.false_ne_true
  | bl i =>
    cases rx
    cases y with
    | non => cases ry; exact PySem.EqNone.eq_bool_none (fin_bl I q (by simp))
    | bl j => cases ry; exact eq_bool (fin_bl I q dec_bl)
    | str j => obtain ⟨t', rfl⟩ := ry; exact PySem.EqMixed.eq_bool_str (fin_bl I q (by simp))
    | _ => exact absurd (show false = true from hs) Bool.false_ne_true
  | int i =>
    obtain ⟨t, rfl⟩ := rx
    cases y with
    | non => cases ry; exact PySem.EqNone.eq_int_none (fin_bl I q (by simp))
    | int j => obtain ⟨t', rfl⟩ := ry; exact eq_int (fin_bl I q dec_int)
    | str j => obtain ⟨t', rfl⟩ := ry; exact PySem.EqMixed.eq_int_str (fin_bl I q (by simp))
    | _ => exact absurd (show false = true from hs) Bool.false_ne_true
  | str i =>
    obtain ⟨t, rfl⟩ := rx
    cases y with
    | non => cases ry; exact PySem.EqNone.eq_str_none (fin_bl I q (by simp))
    | bl j => cases ry; exact PySem.EqMixed.eq_str_bool (fin_bl I q (by simp))
    | int j => obtain ⟨t', rfl⟩ := ry; exact PySem.EqMixed.eq_str_int (fin_bl I q (by simp))
    | str j => obtain ⟨t', rfl⟩ := ry; exact eq_str (fin_bl I q dec_str)
    | _ => exact absurd (show false = true from hs) Bool.false_ne_true
  | byt i =>
    obtain ⟨t, rfl⟩ := rx
    cases y with
    | byt j => obtain ⟨t', rfl⟩ := ry; exact PySem.W.eq_bytes (fin_bl I q dec_byt)
    | _ => exact absurd (show false = true from hs) Bool.false_ne_true
  | _ => cases y <;> exact absurd (show false = true from hs) Bool.false_ne_true
theorem op_ne : OpR X (compareOp .NotEq) rNe := by
  intro pins s σ H x y v u Q I rx ry h
  obtain ⟨hs, q⟩ := h
  cases x with
  | non =>
    cases rx
    cases y with
    | non => cases ry; exact PySem.EqNone.ne_none_none (fin_bl I q (by simp))
    | bl j => cases ry; exact PySem.EqNone.ne_none_bool (fin_bl I q (by simp))
    | int j => obtain ⟨t', rfl⟩ := ry; exact PySem.EqNone.ne_none_int (fin_bl I q (by simp))
    | str j => obtain ⟨t', rfl⟩ := ry; exact PySem.EqNone.ne_none_str (fin_bl I q (by simp))
    | _ => exact absurd (show false = true from hs) Bool.false_ne_true
  | bl i =>
    cases rx
    cases y with
    | non => cases ry; exact PySem.EqNone.ne_bool_none (fin_bl I q (by simp))
    | bl j => cases ry; exact ne_bool (fin_bl I q (congrArg not dec_bl))
    | str j => obtain ⟨t', rfl⟩ := ry; exact PySem.EqMixed.ne_bool_str (fin_bl I q (by simp))
    | _ => exact absurd (show false = true from hs) Bool.false_ne_true
  | int i =>
    obtain ⟨t, rfl⟩ := rx
    cases y with
    | non => cases ry; exact PySem.EqNone.ne_int_none (fin_bl I q (by simp))
    | int j => obtain ⟨t', rfl⟩ := ry; exact ne_int (fin_bl I q (congrArg not dec_int))
    | str j => obtain ⟨t', rfl⟩ := ry; exact PySem.EqMixed.ne_int_str (fin_bl I q (by simp))
    | _ => exact absurd (show false = true from hs) Bool.false_ne_true
  | str i =>
    obtain ⟨t, rfl⟩ := rx
    cases y with
    | non => cases ry; exact PySem.EqNone.ne_str_none (fin_bl I q (by simp))
    | bl j => cases ry; exact PySem.EqMixed.ne_str_bool (fin_bl I q (by simp))
    | int j => obtain ⟨t', rfl⟩ := ry; exact PySem.EqMixed.ne_str_int (fin_bl I q (by simp))
    | str j => obtain ⟨t', rfl⟩ := ry; exact ne_str (fin_bl I q (congrArg not dec_str))
    | _ => exact absurd (show false = true from hs) Bool.false_ne_true
  | byt i =>
    obtain ⟨t, rfl⟩ := rx
    cases y with
    | byt j => obtain ⟨t', rfl⟩ := ry; exact PySem.W.ne_bytes (fin_bl I q (congrArg not dec_byt))
    | _ => exact absurd (show false = true from hs) Bool.false_ne_true
  | _ => cases y <;> exact absurd (show false = true from hs) Bool.false_ne_true
theorem op_lt : OpR X (compareOp .Lt) (rI0 fun i j => .bl (decide (i < j))) := opB0 fun _ _ _ _ _ _ _ q => lt_int q
theorem op_le : OpR X (compareOp .LtE) (rI0 fun i j => .bl (decide (i <= j))) := opB0 fun _ _ _ _ _ _ _ q => le_int q
theorem op_gt : OpR X (compareOp .Gt) (rI0 fun i j => .bl (decide (j < i))) := opB0 fun _ _ _ _ _ _ _ q => gt_int q
theorem op_ge : OpR X (compareOp .GtE) (rI0 fun i j => .bl (decide (j <= i))) := opB0 fun _ _ _ _ _ _ _ q => ge_int q
theorem op_isN : OpR X (compareOp .Is) (fun x y H Q => y = .non /\ Q (.bl (decide (x = .non))) H) := by
  intro pins s σ H x y v u Q I rx ry h
  obtain ⟨rfl, q⟩ := h
  cases ry
  refine is_none_gen (fin_bl I q ?_)
  cases x <;> first
    | (cases rx; rfl)
    | (obtain ⟨t, rfl⟩ := rx; rfl)
theorem op_notN : OpR X (compareOp .IsNot) (fun x y H Q => y = .non /\ Q (.bl (!decide (x = .non))) H) := by
  intro pins s σ H x y v u Q I rx ry h
  obtain ⟨rfl, q⟩ := h
  cases ry
  refine isnot_none_gen (fin_bl I q ?_)
  cases x <;> first
    | (cases rx; rfl)
    | (obtain ⟨t, rfl⟩ := rx; rfl)
theorem nomark (b : Expr) {op : CmpOp} (h : op ≠ .In := by decide) (h2 : op ≠ .NotIn := by decide) : behindInMarks op b = false := by
  have e1 : (op == CmpOp.In) = false := by cases op <;> first | rfl | exact absurd rfl h
  have e2 : (op == CmpOp.NotIn) = false := by cases op <;> first | rfl | exact absurd rfl h2
  cases b <;> simp [behindInMarks, e1, e2]
theorem pe_cmpR {op : CmpOp} {r : R2} (ho : OpR X (compareOp op) r) (ha : PE X a ta) (hb : PE X b tb) (hm : behindInMarks op b = false) : PE X (.Compare a [op] [b] pos) (tOp r ta tb) := by
  intro pins s σ H Q I h
  exact wpAny_Compare1 (binT ha hb I h fun v u s2 x y H2 I2 rx ry q => ho pins s2 σ H2 x y v u Q I2 rx ry q) hm
def tTest (t : TE) : TT := fun σ H Q => t σ H fun x H' => ∃ k, x = .bl k /\ Q k H'
theorem pt_cmpR {op : CmpOp} {r : R2} (ho : OpR X (compareOp op) r) (ha : PE X a ta) (hb : PE X b tb) (hm : behindInMarks op b = false) : PT X (.Compare a [op] [b] pos) (tTest (tOp r ta tb)) := by
  intro pins s σ H Q I h
  refine wpAny_isTrue_Compare1 (thn (ha pins s σ H _ I h) fun v s1 ⟨x, H1, I1, r1, q1⟩ => thn (hb pins s1 σ H1 _ I1 q1) fun u s2 ⟨y, H2, I2, r2, q2⟩ =>
    thn (ho pins s2 σ H2 x y v u _ I2 r1 r2 q2) fun c s3 ⟨z, H3, I3, r3, k, e, q3⟩ => ?_) hm
  subst e
  cases r3
  exact wpAny_truthy_bool ⟨H3, I3, q3⟩
def tChain (r r' : R2) (ta tb tc : TE) : TE := fun σ H Q => ta σ H fun x H1 => tb σ H1 fun y H2 => r x y H2 fun z H3 => ∃ k, z = .bl k /\
  (if k = true then tc σ H3 fun w' H4 => r' y w' H4 Q else Q (.bl false) H3)
theorem pe_chain {op op' : CmpOp} {r r' : R2} (ho : OpR X (compareOp op) r) (ho' : OpR X (compareOp op') r') (ha : PE X a ta) (hb : PE X b tb) (hc : PE X c tc)
    (hm : lastMarks [op, op'] [b, c] = false := by with_unfolding_all rfl) : PE X (.Compare a [op, op'] [b, c] pos) (tChain r r' ta tb tc) := by
  intro pins s σ H Q I h
  refine Compare_chain (thn (ha pins s σ H _ I h) fun v s1 ⟨x, H1, I1, r1, q1⟩ => chain_link (thn (hb pins s1 σ H1 _ I1 q1) fun u s2 ⟨y, H2, I2, r2, q2⟩ =>
    thn (ho pins s2 σ H2 x y v u _ I2 r1 r2 q2) fun d s3 ⟨z, H3, I3, r3, k, e, q3⟩ => ?_)) hm
  subst e
  cases r3
  refine wpAny_truthy_bool ?_
  cases k with
  | false => exact ite_ff ⟨.bl false, H3, I3, rfl, q3⟩
  | true => exact ite_tt (chain_last (thn (hc pins s3 σ H3 _ I3 q3) fun w' s4 ⟨z', H4, I4, r4, q4⟩ => ho' pins s4 σ H4 y z' u w' Q I4 r2 r4 q4))
theorem line63 : (sizeLine : Nat) < 2 ^ 63 := by rw [sizeLine_eq]; decide
theorem vals1 {x : V} {us : List Value} (r : Vals [x] us) : ∃ u, us = [u] /\ RelV x u := by
  cases r with
  | cons r1 r2 => cases r2; exact ⟨_, rfl, r1⟩
theorem vals2 {x y : V} {us : List Value} (r : Vals [x, y] us) : ∃ u w', us = [u, w'] /\ RelV x u /\ RelV y w' := by
  cases r with
  | cons r1 r2 =>
    cases r2 with
    | cons r3 r4 => cases r4; exact ⟨_, _, rfl, r1, r3⟩
theorem call_max2 (hc : X.calm = true) : CallR X (.builtin "max") (fun xs H Q => ∃ i j, xs = [.int i, .int j] /\ Q (.int (if j > i then j else i)) H) := by
  intro pins s σ H xs us Q I r h
  obtain ⟨i, j, rfl, q⟩ := h
  obtain ⟨u, w', rfl, ⟨t, rfl⟩, ⟨t', rfl⟩⟩ := vals2 r
  refine max_two_ints (I.ok.hd hc) fun h' tk k => ⟨_, H, I.kept k, ?_, q⟩
  by_cases hj : j > i
  . rw [if_pos hj, if_pos hj]; exact ⟨_, rfl⟩
  . rw [if_neg hj, if_neg hj]; exact ⟨_, rfl⟩
end
end L2
namespace L2
open PySem PySem.Spec PyProof.Rows
structure ObjM (h : Heap) (x dx C : Addr) (mA : Str -> Option Value) : Prop where
  obj : h.get? x = some (PySem.W.instObj C dx)
  ns : h.Ns1 dx mA
  ne : dx ≠ x
theorem lookIn_ns {h : Heap} {dx : Addr} {mA : Str -> Option Value} (n : h.Ns1 dx mA) : ∃ od, h.get? dx = some od /\ ∀ name, PySem.W.lookIn name od = some (mA name) := by
  obtain ⟨o, es, ep, ho, hd, hk, _, hm⟩ := n
  refine ⟨o, ho, fun name => ?_⟩
  have e := hm name
  unfold nsFind findBy at e
  rw [<- Array.find?_toList] at e
  unfold PySem.W.lookIn
  rw [hd]
  dsimp only
  split
  . rename_i y q
    rw [q] at e
    exact congrArg some e
  . rename_i q
    rw [q] at e
    have a : es.toList.any (·.refKey) = false := by
      rw [List.any_eq_false]
      intro y hy
      obtain ⟨z, t, hkey⟩ := hk y (Array.mem_toList_iff.mp hy)
      simp [DictEntry.refKey, hkey]
    have a' : ¬ es.toList.any (·.refKey) = true := by rw [a]; exact Bool.false_ne_true
    rw [if_neg a']
    exact congrArg some e
theorem ObjM.look {h : Heap} {x dx C : Addr} {mA : Str -> Option Value} (I : ObjM h x dx C mA) : ∃ od, PySem.W.InstAt h x (PySem.W.instObj C dx) C (some od) /\ ∀ name, PySem.W.lookIn name od = some (mA name) :=
  let ⟨od, ho, hl⟩ := lookIn_ns I.ns
  ⟨od, ⟨I.obj, rfl, rfl, ho⟩, hl⟩
section
variable {prog : Program} {w : World} {A : Around} {E : Value -> Shared -> Prop} {s : Shared} {K : PySem.W.Frag} {x dx C f : Addr} {mA : Str -> Option Value} {name : Str} {v : Value}
end
theorem RelO.some_of {v : V} {o : Option Value} (r : RelO (some v) o) : ∃ u, o = some u /\ RelV v u := by
  cases o with
  | none => exact (show False from r).elim
  | some u => exact ⟨u, rfl, r⟩
section
variable {P : Program} {w : World} {H H' : Hp} {h h' : Heap} {a C dx : Addr} {fs fs' : List (Str × V)}
theorem ins_get (hok : HOk P w H h) (e : H a = some (.ins C dx fs)) : ∃ mA, ObjM h a dx C mA /\ (∀ f, RelO (fs.lookup f) (mA f)) /\ PySem.Within mA (fs.map (·.1)) /\ fs.length <= 1000 /\ H dx = some (.own a) := by
  obtain ⟨d, z, ne, ob, mA, n, r, q⟩ := (show ObjOk P w H h a (.ins C dx fs) from hok a _ e)
  exact ⟨mA, ⟨ob, n, ne⟩, r, q, z, d⟩
end
structure Cls (K : PySem.W.Frag) (C : Addr) : Prop where
  pg : PySem.W.plainGet K C Str.empty = true
  hd : PySem.W.hasDictIn K C = true
  po : PySem.W.plainOver K C = true
  sa : PySem.W.findIn K (.ref C) "__setattr__" = some (some (.builtin "object.__setattr__"))
theorem Cls.get {K : PySem.W.Frag} {C : Addr} (c : Cls K C) (f : Str) : PySem.W.plainGet K C f = true := c.pg
section
variable {X : Cx} {pins : List (Addr × Obj)} {σ : St} {H : Hp} {s : Shared} {a C dx : Addr} {fs : List (Str × V)} {f : Str} {v : V} {A : Around} {E : Value -> Shared -> Prop}
end
section
variable {X : Cx} {o e value : Expr} {f : Str} {pos pos' tpos : Pos} {ta tv : TE}
end
section
variable {X : Cx} {pins : List (Addr × Obj)} {σ : St} {H : Hp} {s : Shared} {A : Around} {E : Value -> Shared -> Prop} {Q : Value -> Shared -> Prop} {c : Value} {b : Bool}
inductive TyOf (K : PySem.W.Frag) (H : Hp) : V -> Value -> Prop where
  | non : TyOf K H .non (.type "NoneType")
  | bl (x : Bool) : TyOf K H (.bl x) (.type "bool")
  | int (i : Int) : TyOf K H (.int i) (.type "int")
  | str (x : Str) : TyOf K H (.str x) (.type "str")
  | flt (x : UInt64) : TyOf K H (.flt x) (.type "float")
  | lst {a : Addr} {xs : List V} (e : H a = some (.lst xs)) : TyOf K H (.ref a) (.type "list")
  | frz {a : Addr} {o : Obj} {xs : List V} (e : H a = some (.frz o (.lst xs))) : TyOf K H (.ref a) (.type "list")
  | tup {a : Addr} {xs : List V} (e : H a = some (.tup xs)) : TyOf K H (.ref a) (.type "tuple")
  | dK {a : Addr} {kvs : List (Key × V)} (e : H a = some (.dK kvs)) : TyOf K H (.ref a) (.type "dict")
  | dT {a : Addr} {kvs : List (List Key × V)} (e : H a = some (.dT kvs)) : TyOf K H (.ref a) (.type "dict")
  | ins {a C dx : Addr} {fs : List (Str × V)} (e : H a = some (.ins C dx fs)) (cl : Cls K C) (ha : PySem.W.findIn K (.ref C) "__class__" = some (some (.builtin "object.__class__")))
      (hn : PySem.W.specialIn K (.builtin "object.__class__") "__get__" = some (some (.builtin "getset_descriptor.__get__"))) (htk : PySem.W.takesIn K (.builtin "object.__class__") = some true)
      (hm : PySem.W.mroIn K C (.type "object") = some true) : TyOf K H (.ref a) (.ref C)
theorem isinst_ok {x : V} {u t : Value} (I : Inv X pins σ H s) (rx : RelV x u) (ty : TyOf X.K H x t) (e : PySem.W.kitOne X.K t c = some b) (h : ∀ tk, Q (.bool b) { s with toks := tk }) :
    wpAny (model X.prog X.w) A (call (.builtin "isinstance") [u, c]) Q E s := by
  cases ty with
  | non => cases (show u = Value.none from rx); exact PySem.W.kia_one PySem.W.kitx_none I.kIn True.intro e (fun z => nomatch z) h
  | bl y => cases (show u = Value.bool y from rx); exact PySem.W.kia_one PySem.W.kitx_bool I.kIn True.intro e (fun z => nomatch z) h
  | int i => obtain ⟨t, q⟩ := (show ∃ t, u = Value.int i t from rx); cases q; exact PySem.W.kia_one PySem.W.kitx_int I.kIn True.intro e (fun z => nomatch z) h
  | str y => obtain ⟨t, q⟩ := (show ∃ t, u = Value.str y t from rx); cases q; exact PySem.W.kia_one PySem.W.kitx_str I.kIn True.intro e (fun z => nomatch z) h
  | flt y => obtain ⟨t, q⟩ := (show ∃ t, u = Value.float y t from rx); cases q; exact PySem.W.kia_one PySem.W.kitx_float I.kIn True.intro e (fun z => nomatch z) h
  | @lst a xs ea =>
    cases (show u = Value.ref a from rx)
    obtain ⟨_, _, n, _, h1⟩ := (show ObjOk X.prog X.w H s.heap a (.lst xs) from I.hok a _ ea)
    exact PySem.W.kia_one PySem.W.kitx_list I.kIn ⟨_, h1, rfl⟩ e (fun z => nomatch z) h
  | @frz a ob xs ea =>
    cases (show u = Value.ref a from rx)
    obtain ⟨_, _, _, n, _, h1⟩ := (show ObjOk X.prog X.w H s.heap a (.frz ob (.lst xs)) from I.hok a _ ea)
    exact PySem.W.kia_one PySem.W.kitx_list I.kIn ⟨_, h1, rfl⟩ e (fun z => nomatch z) h
  | @tup a xs ea =>
    cases (show u = Value.ref a from rx)
    obtain ⟨_, _, _, p⟩ := (show ObjOk X.prog X.w H s.heap a (.tup xs) from I.hok a _ ea)
    obtain ⟨o, h1, h2, _⟩ := p
    exact PySem.W.kia_one PySem.W.kitx_tuple I.kIn ⟨o, h1, h2⟩ e (fun z => nomatch z) h
  | @dK a kvs ea =>
    cases (show u = Value.ref a from rx)
    obtain ⟨_, _, vs, _, p⟩ := (show ObjOk X.prog X.w H s.heap a (.dK kvs) from I.hok a _ ea)
    obtain ⟨o, es, ep, h1, h2, _⟩ := p
    exact PySem.W.kia_one PySem.W.kitx_dict I.kIn ⟨o, h1, h2.1⟩ e (fun z => nomatch z) h
  | @dT a kvs ea =>
    cases (show u = Value.ref a from rx)
    obtain ⟨_, _, xs, _, o, es, ep, h1, h2, _⟩ := (show ObjOk X.prog X.w H s.heap a (.dT kvs) from I.hok a _ ea)
    exact PySem.W.kia_one PySem.W.kitx_dict I.kIn ⟨o, h1, h2.1⟩ e (fun z => nomatch z) h
  | @ins a C dx fs ea cl ha hn htk hm =>
    cases (show u = Value.ref a from rx)
    obtain ⟨mA, O, _⟩ := ins_get I.hok ea
    obtain ⟨od, J, _⟩ := O.look
    exact PySem.W.kia_one (PySem.W.kitx_own (cl.get _) cl.hd ha hn htk hm) I.kIn J e (fun z => nomatch z) h
end
end L2
namespace L2
open PySem PySem.Spec PyProof.Rows
structure Room (k : Nat) (A : Around) : Prop where
  hd : A.handled = none
  dp : A.depth + 3 * k + 5 < recursionLimit
  un : A.units + 16 * k + 200 < cLine
theorem Room.mono {j k : Nat} {A : Around} (r : Room k A) (h : j <= k) : Room j A := ⟨r.hd, by have := r.dp; omega, by have := r.un; omega⟩
theorem Room.deeper {k : Nat} {A : Around} (r : Room (k + 1) A) (env : Env) : Room k (A.deeper env) :=
  ⟨r.hd, by have := r.dp; show A.depth + 1 + 3 * k + 5 < _; omega, by have := r.un; show A.units + 3 + 16 * k + 200 < _; omega⟩
theorem Room.depth {k : Nat} {A : Around} (r : Room k A) : A.depth < recursionLimit := by have := r.dp; omega
theorem Room.units {k : Nat} {A : Around} (r : Room k A) : A.units + 64 < cLine := by have := r.un; omega
def tNil : TA := fun _ H Q => Q [] H
def tCons (ta : TE) (tr : TA) : TA := fun σ H Q => ta σ H fun x H1 => tr σ H1 fun xs H2 => Q (x :: xs) H2
section
variable {X : Cx} {e : Expr} {es : List Expr} {te : TE} {t : TA} {pos : Pos}
theorem pa_nil : PA X [] tNil := fun _ _ _ _ H Q I h => Calls.spliced_nil ⟨[], H, I, .nil, h⟩
theorem pa_cons (ha : PE X e te) (hr : PA X es t) (hs : starEach (e :: es) X.env = (false, eval e X.env) :: starEach es X.env := by rfl) : PA X (e :: es) (tCons te t) := by
  intro pos pins s σ H Q I h
  rw [hs]
  show wpAny _ _ (spliced ((false, eval e X.env) :: backTo pos (starEach es X.env))) _ _ s
  refine Calls.spliced_cons (thn (ha pins s σ H _ I h) fun u s1 ⟨x, H1, I1, r1, q1⟩ => ?_)
  exact thn (hr pos pins s1 σ H1 _ I1 q1) fun us s2 ⟨xs, H2, I2, r2, q2⟩ => ⟨x :: xs, H2, I2, .cons r1 r2, q2⟩
def tTup (t : TA) : TE := fun σ H Q => t σ H fun xs H1 => xs.length <= sizeLine /\ ∀ p, H1 p = none -> Q (.ref p) (upd H1 p (.tup xs))
def tLst (t : TA) : TE := fun σ H Q => t σ H fun xs H1 => xs.length <= sizeLine /\ ∀ p, H1 p = none -> Q (.ref p) (upd H1 p (.lst xs))
theorem pe_tup {x1} (h : PA X es t) : PE X (.Tuple es x1 pos) (tTup t) := by
  intro pins s σ H Q I hq
  refine wpAny_Tuple_spliced (thn (h pos pins s σ H _ I hq) fun us s1 ⟨xs, H1, I1, r, z, q⟩ => ⟨by rw [<- r.length]; exact z, ?_⟩)
  have hf : H1 s1.heap.objs.size = none := I1.hok.fresh (Nat.le_refl _)
  refine ⟨.ref s1.heap.objs.size, upd H1 s1.heap.objs.size (.tup xs), I1.laid (t' := s1.toks) (fun b u e => Heap.get?_push_of_some _ e) (Nat.le_refl _) ?_, rfl, q _ hf⟩
  exact ⟨z, us, r, ⟨_, Heap.get?_push_size _ rfl, rfl, _, rfl⟩⟩
theorem pe_lst (h : PA X es t) : PE X (.List es pos) (tLst t) := by
  intro pins s σ H Q I hq
  refine wpAny_List_spliced (thn (h pos pins s σ H _ I hq) fun us s1 ⟨xs, H1, I1, r, z, q⟩ => ⟨by rw [<- r.length]; exact z, ?_⟩)
  have hf : H1 s1.heap.objs.size = none := I1.hok.fresh (Nat.le_refl _)
  refine ⟨.ref s1.heap.objs.size, upd H1 s1.heap.objs.size (.lst xs), I1.laid (t' := s1.toks) (fun b u e => Heap.get?_push_of_some _ e) (Nat.le_refl _) ?_, rfl, q _ hf⟩
  exact ⟨z, us, 0, r, Heap.get?_push_size _ rfl⟩
end
abbrev Sp := List V -> Hp -> VK -> XK -> Prop
abbrev CXT := List Env -> Hp -> Shared -> XK -> Value -> Shared -> Prop
structure Env0 (P : Program) (w : World) (K : PySem.W.Frag) (mg : Str -> Option Value) (base : Heap) (A : Around) (outer : List Env) (s : Shared) (H : Hp) : Prop where
  frames : A.frames = some outer
  mod : Mod K mg base
  bs : ∀ b o, base.get? b = some o -> s.heap.get? b = some o /\ H b = none
  bsz : base.objs.size <= s.heap.objs.size
  funs : s.heap.FunFrames base outer
  frf : ∀ b ∈ frs outer, H b = none
  hok : HOk P w H s.heap
  bare : AllBare s.gens
def CE (outer : List Env) (P : Program) (w : World) (H : Hp) (s : Shared) (Q : VK) (u : Value) (s' : Shared) : Prop :=
  ∃ v H', s'.os = s.os /\ AllBare s'.gens /\ Un (frs outer) [] H H' s.heap s'.heap /\ HOk P w H' s'.heap /\ RelV v u /\ Q v H'
def CR (CX : CXT) (outer : List Env) (P : Program) (w : World) (H : Hp) (s : Shared) (Q : VK) (E : XK) (r : Result) (s' : Shared) : Prop :=
  match r with
  | .ok (.ret u) => CE outer P w H s Q u s'
  | .ok _ => False
  | .error e => CX outer H s E e s'
structure FnOk (P : Program) (w : World) (K : PySem.W.Frag) (mg : Str -> Option Value) (base : Heap) (CX : CXT) (k : Nat) (f : Addr) (fd : FuncData) (ps : List Str) (sp : Sp) : Prop where
  len : ∀ vs H Q E, sp vs H Q E -> vs.length = ps.length
  run : ∀ (A : Around) (outer : List Env) (s : Shared) (H : Hp) (args : Args) (us : List Value) (vs : List V) (Q : VK) (E : XK), Room k A -> Env0 P w K mg base A outer s H -> BindsTo s fd args (ps.zip us) -> Vals vs us -> sp vs H Q E ->
    codeAny (model P w) A (.call (.ref f) args) (CR CX outer P w H s Q E) s
section
variable {X : Cx} {pins : List (Addr × Obj)} {σ : St} {H : Hp} {s s' : Shared}
theorem Inv.env0 (I : Inv X pins σ H s) : Env0 X.prog X.w X.K X.mg X.base X.A X.stack s H :=
  ⟨I.ok.frames, I.ok.mod, I.bs, Nat.le_trans I.ok.bsz I.sz, I.stack, I.stkFree, I.hok, I.bare⟩
theorem Inv.after {Q : VK} {u : Value} (I : Inv X pins σ H s) (h : CE X.stack X.prog X.w H s Q u s') : EP X pins σ Q u s' := by
  obtain ⟨v, H', os, bare, un, hok, r, q⟩ := h
  obtain ⟨hh, g, d, t, os'⟩ := s'
  obtain rfl : os' = s.os := os
  exact ⟨v, H', I.call (h' := hh) (g' := g) (d' := d) (t' := t) (ch := []) un hok bare (fun b z => absurd z (by simp)), r, q⟩
end
def tCall (sp : Sp) (dvs : List V) (E : XK) (t : TA) : TE := fun σ H Q => t σ H fun vs H1 => sp (vs ++ dvs) H1 Q E
def Binds (K : PySem.W.Frag) (fd : FuncData) (ps : List Str) (ds : List Value) : Prop :=
  ∀ (s : Shared) (us : List Value), K.In s.heap -> (us ++ ds).length = ps.length -> BindsTo s fd ⟨us, []⟩ (ps.zip (us ++ ds))
theorem Binds.all {K : PySem.W.Frag} {fd : FuncData} {ps : List Str} (h : ∀ us : List Value, us.length = ps.length -> bindArgs fd ⟨us, []⟩ = pure (ps.zip us)) : Binds K fd ps [] := fun s us _ hl => by
  rw [List.append_nil] at hl ⊢
  exact .of_eq (h us hl)
def Passes (CX : CXT) (X : Cx) (E : XK) : Prop := ∀ (pins : List (Addr × Obj)) (σ : St) (H : Hp) (s : Shared) (e : Value) (s' : Shared), Inv X pins σ H s -> CX X.stack H s E e s' -> X.xe e s'
section
variable {X : Cx} {CX : CXT} {k : Nat} {f C : Addr} {fd : FuncData} {ps : List Str} {sp : Sp} {dvs : List V} {ds : List Value} {E : XK} {x m : Str} {p pos apos : Pos} {e o : Expr} {es : List Expr} {ta : TE} {t : TA}
theorem run_fn {pins : List (Addr × Obj)} {σ : St} {H : Hp} {s : Shared} {Q : VK} {us : List Value} {vs : List V} (F : FnOk X.prog X.w X.K X.mg X.base CX k f fd ps sp) (hr : Room k X.A) (hb : Binds X.K fd ps ds) (hd : Vals dvs ds) (hx : Passes CX X E)
    (I : Inv X pins σ H s) (r : Vals vs us) (h : sp (vs ++ dvs) H Q E) : wpAny (model X.prog X.w) X.A (call (.ref f) us) (EP X pins σ Q) X.xe s := by
  have r2 : Vals (vs ++ dvs) (us ++ ds) := r.append hd
  have hl : (us ++ ds).length = ps.length := by rw [<- r2.length]; exact F.len _ _ _ _ h
  refine wpAny_call (codeAny_mono (F.run X.A X.stack s H ⟨us, []⟩ (us ++ ds) (vs ++ dvs) Q E hr I.env0 (hb s us I.kIn hl) r2 h) fun r s' hq => ?_)
  cases r with
  | error e => exact hx pins σ H s e s' I hq
  | ok fl =>
    cases fl with
    | ret u => exact I.after hq
    | next => exact False.elim hq
    | brk => exact False.elim hq
    | cont => exact False.elim hq
theorem pe_call (F : FnOk X.prog X.w X.K X.mg X.base CX k f fd ps sp) (hr : Room k X.A) (hg : Gl X x) (hm : X.mg x = some (.ref f)) (hk : PySem.W.keepIn X.K (.ref f) = true) (hb : Binds X.K fd ps ds) (hd : Vals dvs ds) (hx : Passes CX X E)
    (ha : PA X (e :: es) t) (hdb : (x == ("__debug__" : Str)) = false := by decide) (he : starEach (e :: es) X.env = (false, eval e X.env) :: starEach es X.env := by rfl) (hpl : (backTo pos (starEach es X.env)).any (·.1) = false := by rfl) :
    PE X (.Call (.Name x p) (e :: es) [] pos) (tCall sp dvs E t) := by
  intro pins s σ H Q I h
  refine wpAny_Call_Name_kw (ld_glob I hg hm ?_ hdb)
  refine PySem.W.callWith_K (h₀ := X.base) I.ok.mod.kin hk (thn (ha pos pins s σ H _ I h) fun us s1 ⟨vs, H1, I1, r, q⟩ => ⟨I1.kIn, ?_⟩) he hpl
  exact run_fn F hr hb hd hx I1 r q
end
section
variable {X : Cx} {CX : CXT} {k : Nat} {f C : Addr} {fd : FuncData} {ps ks : List Str} {sp : Sp} {E : XK} {x m : Str} {p pos apos kpos : Pos} {e o : Expr} {es : List Expr} {kws : List Keyword} {te ta : TE} {t tk : TA} {nm : Option Str}
variable {g : List Value -> List Value -> List Value} {gV : List V -> List V -> List V}
end
structure FnScope (N P : List Str) (sc : Scope) : Prop where
  kind : sc.kind = .function
  co : sc.isCoroutine = false
  gen : sc.isGenerator = false
  nd : N.Nodup
  pre : N.take P.length = P
  par : ∀ x ∈ P, sc.names.lookup x = some .local \/ sc.names.lookup x = some .cell
  nofree : ∀ y ∈ sc.names, y.2 ≠ .free
theorem bindL_out {kindOf : Str -> Option NameKind} {x : Str} : ∀ {binds : List (Str × Value)} {m : Str -> Option Value}, (∀ v, (x, v) ∉ binds) -> bindL kindOf binds m x = m x
  | [], _, _ => rfl
  | (n, v) :: r, m, h => by
    unfold bindL
    rw [bindL_out fun w hw => h w (List.mem_cons_of_mem _ hw)]
    split
    . have : x ≠ n := by rintro rfl; exact h v List.mem_cons_self
      simp [this]
    . rfl
theorem bindC_out {kindOf : Str -> Option NameKind} {x : Str} : ∀ {binds : List (Str × Value)} {m : Str -> Option Value}, (∀ v, (x, v) ∉ binds) -> bindC kindOf binds m x = m x
  | [], _, _ => rfl
  | (n, v) :: r, m, h => by
    unfold bindC
    rw [bindC_out fun w hw => h w (List.mem_cons_of_mem _ hw)]
    split
    . rfl
    . have : x ≠ n := by rintro rfl; exact h v List.mem_cons_self
      simp [this]
theorem bindL_get {kindOf : Str -> Option NameKind} {x : Str} {v : Value} : ∀ {P : List Str} {vs : List Value} {i : Nat} {m : Str -> Option Value}, P.Nodup -> P[i]? = some x -> vs[i]? = some v -> kindOf x = some .local ->
    bindL kindOf (P.zip vs) m x = some v
  | [], _, _, _, _, h, _, _ => by simp at h
  | _ :: _, [], _, _, _, _, h, _ => by simp at h
  | p :: P, w :: vs, 0, m, nd, h1, h2, hk => by
    simp at h1 h2; subst h1; subst h2
    show bindL kindOf ((p, w) :: P.zip vs) m p = _
    unfold bindL
    rw [bindL_out fun v hv => (List.nodup_cons.mp nd).1 (List.of_mem_zip hv).1, if_pos hk]
    simp
  | p :: P, w :: vs, i + 1, m, nd, h1, h2, hk => by
    show bindL kindOf ((p, w) :: P.zip vs) m x = _
    unfold bindL
    exact bindL_get (i := i) (List.nodup_cons.mp nd).2 (by simpa using h1) (by simpa using h2) hk
theorem bindC_get {kindOf : Str -> Option NameKind} {x : Str} {v : Value} : ∀ {P : List Str} {vs : List Value} {i : Nat} {m : Str -> Option Value}, P.Nodup -> P[i]? = some x -> vs[i]? = some v -> kindOf x ≠ some .local ->
    bindC kindOf (P.zip vs) m x = some v
  | [], _, _, _, _, h, _, _ => by simp at h
  | _ :: _, [], _, _, _, _, h, _ => by simp at h
  | p :: P, w :: vs, 0, m, nd, h1, h2, hk => by
    simp at h1 h2; subst h1; subst h2
    show bindC kindOf ((p, w) :: P.zip vs) m p = _
    unfold bindC
    rw [bindC_out fun v hv => (List.nodup_cons.mp nd).1 (List.of_mem_zip hv).1, if_neg hk]
    simp
  | p :: P, w :: vs, i + 1, m, nd, h1, h2, hk => by
    show bindC kindOf ((p, w) :: P.zip vs) m x = _
    unfold bindC
    exact bindC_get (i := i) (List.nodup_cons.mp nd).2 (by simpa using h1) (by simpa using h2) hk
def start (N : List Str) (vs : List V) : St := vs.map some ++ List.replicate (N.length - vs.length) none
def cxOf (CX : CXT) (P : Program) (w : World) (K : PySem.W.Frag) (mg : Str -> Option Value) (base : Heap) (N : List Str) (qual : Str) (scope : Scope) (f : Addr) (cd : Value) (A : Around) (outer : List Env) (s : Shared) (H : Hp) (E : XK) : Cx where
  prog := P
  w := w
  K := K
  mg := mg
  base := base
  A := A.deeper (envOfC qual scope s.heap.objs.size f cd)
  N := N
  s₀ := s
  H₀ := H
  env := envOfC qual scope s.heap.objs.size f cd
  outer := outer
  stack := envOfC qual scope s.heap.objs.size f cd :: outer
  ex := []
  calm := true
  fn := fun _ => true
  pn := []
  xe := fun e s' => wpAny (model P w) (A.deeper (envOfC qual scope s.heap.objs.size f cd)) (leaving (envOfC qual scope s.heap.objs.size f cd) e) (fun _ s'' => CX outer H s E e s'') (fun e' s'' => CX outer H s E e' s'') s'
theorem cell_has {sc : Scope} {n : Nat} {x : Str} (h : sc.names.lookup x = some .cell) : ∃ c, (cellsFrom n sc.names []).lookup x = some c := by
  have q := PySem.W.cellsFrom_some sc.names n [] (.inl h)
  exact Option.isSome_iff_exists.mp q
theorem inv_start {CX : CXT} {P : Program} {w : World} {K : PySem.W.Frag} {mg : Str -> Option Value} {base : Heap} {N ps : List Str} {qual : Str} {scope : Scope} {f : Addr} {cd : Value} {A : Around} {outer : List Env} {s s1 : Shared} {H : Hp} {E : XK} {us : List Value} {vs : List V}
    (S : FnScope N ps scope) (hd : A.handled = none) (e0 : Env0 P w K mg base A outer s H) (hl : vs.length = ps.length) (r : Vals vs us)
    (x : InCallC s s.heap.objs.size (bindL (envOfC qual scope s.heap.objs.size f cd).kindOf (ps.zip us) fun _ => none) (cellsFrom (s.heap.objs.size + 1) scope.names []) (bindC (envOfC qual scope s.heap.objs.size f cd).kindOf (ps.zip us) fun _ => none) s1) :
    Inv (cxOf CX P w K mg base N qual scope f cd A outer s H E) [] (start N vs) H s1 := by
  have hpl : ps.length <= N.length := by have := congrArg List.length S.pre; rw [List.length_take] at this; omega
  obtain ⟨h1, tk, rfl, hk⟩ := x.done
  have noA : ∀ b : Addr, b ∉ (cxOf CX P w K mg base N qual scope f cd A outer s H E).ex := fun b z => absurd (show b ∈ ([] : List Addr) from z) (by simp)
  refine ⟨⟨e0.mod, S.kind, rfl, rfl, Nat.le_refl _, fun y z c h1 h2 => ?_, fun y hy => ?_, fun y c _ h => ?_, fun _ => hd, Around.frames_deeper e0.frames, .inr ⟨rfl, rfl⟩, fun b z => absurd z (noA b), e0.bs, e0.bsz, fun b _ _ => noA b, fun b z => absurd z (noA b), e0.funs, e0.frf⟩,
    rfl, e0.bare, Un.kept hk, ⟨_, x.toInCall.ns, fun i y v h1 h2 h3 => ?_⟩, fun y c h => ⟨_, x.cell y c h⟩, e0.hok.fresh (Nat.le_refl _), fun y c h => ?_, fun p hp => absurd (show p ∈ ([] : List (Addr × Obj)) from hp) (by simp), e0.hok.kept hk, ?_⟩
  . exact name_of_addr x.apart (PySem.mem_of_lookup h1) (PySem.mem_of_lookup h2)
  . have hy : scope.names.lookup y = some .cell \/ scope.names.lookup y = some .free := hy
    rcases hy with hy | hy
    . exact cell_has hy
    . exact absurd rfl (S.nofree _ (PySem.mem_of_lookup hy))
  . exact Nat.le_of_lt (x.above y c (PySem.mem_of_lookup h))
  . have hi : i < vs.length := by
      unfold start at h2
      by_cases hi : i < vs.length
      . exact hi
      . rw [List.getElem?_append_right (by simpa using hi)] at h2
        rw [List.getElem?_replicate] at h2
        split at h2 <;> cases h2
    have ha : vs[i]? = some v := by
      unfold start at h2
      rw [List.getElem?_append_left (by simpa using hi), List.getElem?_map] at h2
      cases e : vs[i]? with
      | none => rw [e] at h2; cases h2
      | some a => rw [e] at h2; cases h2; rfl
    obtain ⟨u, hu, rv⟩ := r.get ha
    have hp : ps[i]? = some y := by
      rw [<- S.pre, List.getElem?_take_of_lt (by omega)]; exact h1
    have ndP : ps.Nodup := by rw [<- S.pre]; exact S.nd.sublist (List.take_sublist _ _)
    refine ⟨u, rv, ?_⟩
    rcases S.par y (List.mem_of_getElem? hp) with k | k
    . exact .inl ⟨k, bindL_get ndP hp hu k⟩
    . obtain ⟨c, e⟩ := cell_has (n := s.heap.objs.size + 1) k
      refine .inr ⟨.inl k, c, e, ?_⟩
      have q := x.cell y c e
      rw [bindC_get ndP hp hu (by show scope.names.lookup y ≠ _; rw [k]; decide)] at q
      exact q
  . exact e0.hok.fresh (Nat.le_of_lt (x.above y c (PySem.mem_of_lookup h)))
  . unfold start
    show _ = N.length
    rw [List.length_append, List.length_map, List.length_replicate]
    omega
theorem fn_of {CX : CXT} {P : Program} {w : World} {K : PySem.W.Frag} {mg : Str -> Option Value} {base : Heap} {k : Nat} {f : Addr} {name qual : Str} {params : Arguments} {body : List Stmt} {scope : Scope} {dV kV doc pm cdv ct oc : Value} {an od : Option Addr}
    {osl : Array (Option Value)} {N ps : List Str} {sp : Sp} (lk : K.lookup f = some ⟨oc, od, .func (PySem.W.fnOf name qual params body scope dV kV doc pm an cdv ct), osl⟩) (hcd : PySem.W.codeIn K cdv qual = true) (S : FnScope N ps scope)
    (len : ∀ vs H Q E, sp vs H Q E -> vs.length = ps.length)
    (hbody : ∀ (A : Around) (outer : List Env) (s : Shared) (H : Hp) (vs : List V) (Q : VK) (E : XK), Room k (A.deeper (envOfC qual scope s.heap.objs.size f cdv)) -> sp vs H Q E ->
      ∃ t, PSs (cxOf CX P w K mg base N qual scope f cdv A outer s H E) body t /\ t { nx := fun _ H' => Q .non H', rt := Q } (start N vs) H) :
    FnOk P w K mg base CX (k + 1) f (PySem.W.fnOf name qual params body scope dV kV doc pm an cdv ct) ps sp := by
  refine ⟨len, fun A outer s H args us vs Q E hr e0 hb r hsp => ?_⟩
  have hl := len _ _ _ _ hsp
  have KX : K.In s.heap := e0.mod.kin.keeps fun b o e => (e0.bs b o e).1
  have lim : s.heap.NoLimit := e0.mod.nolimit.keeps fun b o e => (e0.bs b o e).1
  have hkind : ∀ y ∈ ps.zip us, scope.names.lookup y.1 = some .local \/ (scope.names.lookup y.1 = some .cell /\ ((cellsFrom (s.heap.objs.size + 1) scope.names []).lookup y.1).isSome = true) := fun ⟨n, v⟩ hy => by
    rcases S.par n (List.of_mem_zip hy).1 with q | q
    . exact .inl q
    . exact .inr ⟨q, PySem.W.cellsFrom_some _ _ _ (.inl q)⟩
  refine codeAny_call_function hr.depth (KX _ _ lk) rfl S.co S.gen rfl (PySem.W.codeRec_of KX hcd) (hb _ _ _ _ ?_)
  refine wpAny_newFunctionEnv_cells S.kind hkind fun env he s1 x => ?_
  subst he
  refine ⟨lim.keeps x.toInCall.keep, codeAny_func ?_⟩
  obtain ⟨t, ht, hq⟩ := hbody A outer s H vs Q E (hr.deeper _) hsp
  have I : Inv (cxOf CX P w K mg base N qual scope f cdv A outer s H E) [] (start N vs) H s1 := inv_start S hr.hd e0 hl r x
  refine wpAny_mono (ht [] s1 (start N vs) H _ I hq) (fun fl s' hs => ?_) fun e s' hs => hs
  have fin : ∀ {σ' : St} {H' : Hp} {v : V} {u : Value}, Inv (cxOf CX P w K mg base N qual scope f cdv A outer s H E) [] σ' H' s' -> RelV v u -> Q v H' -> CE outer P w H s Q u s' :=
    fun {σ' H' v u} J rv q => ⟨v, H', J.os, J.bare, J.base, J.hok, rv, q⟩
  cases fl with
  | ret u =>
    obtain ⟨v, σ', H', J, rv, q⟩ := hs
    exact fin J rv q
  | next =>
    obtain ⟨σ', H', J, q⟩ := hs
    exact fin (v := V.non) (u := Value.none) J rfl q
  | brk =>
    obtain ⟨_, _, _, q⟩ := hs
    exact False.elim q
  | cont =>
    obtain ⟨_, _, _, q⟩ := hs
    exact False.elim q
end L2
namespace L2
open PySem PySem.Spec PyProof.Rows
section
variable {X : Cx} {x : Str} {p pos : Pos} {e : Expr} {es : List Expr} {t : TA} {id T : String} {r : List V -> Hp -> VK -> Prop}
def tCB (r : List V -> Hp -> VK -> Prop) (t : TA) : TE := fun σ H Q => t σ H fun vs H1 => r vs H1 Q
theorem pe_callB (hc : CallR X (.builtin id) r) (hg : Gl X x) (hm : X.mg x = none) (hv : bootBuiltins x = some (.builtin id)) (ha : PA X (e :: es) t) (hn : x ≠ "__name__" := by decide) (hdb : (x == ("__debug__" : Str)) = false := by decide)
    (he : starEach (e :: es) X.env = (false, eval e X.env) :: starEach es X.env := by rfl) (hpl : (backTo pos (starEach es X.env)).any (·.1) = false := by rfl) : PE X (.Call (.Name x p) (e :: es) [] pos) (tCB r t) := by
  intro pins s σ H Q I h
  refine wpAny_Call_Name_kw (ld_blt I hg hm hv ?_ hn hdb)
  exact PyProof.Rows.callWith_builtin1 (thn (ha pos pins s σ H _ I h) fun us s1 ⟨vs, H1, I1, r1, q1⟩ => hc pins s1 σ H1 vs us Q I1 r1 q1) he hpl
theorem pe_callTy (hc : CallR X (.type T) r) (hg : Gl X x) (hm : X.mg x = none) (hv : bootBuiltins x = some (.type T)) (ha : PA X (e :: es) t) (hn : x ≠ "__name__" := by decide) (hdb : (x == ("__debug__" : Str)) = false := by decide)
    (he : starEach (e :: es) X.env = (false, eval e X.env) :: starEach es X.env := by rfl) (hpl : (backTo pos (starEach es X.env)).any (·.1) = false := by rfl) : PE X (.Call (.Name x p) (e :: es) [] pos) (tCB r t) := by
  intro pins s σ H Q I h
  refine wpAny_Call_Name_kw (ld_blt I hg hm hv ?_ hn hdb)
  exact PyProof.Rows.callWith_type1 (thn (ha pos pins s σ H _ I h) fun us s1 ⟨vs, H1, I1, r1, q1⟩ => hc pins s1 σ H1 vs us Q I1 r1 q1) he hpl
end
end L2
namespace HT
open PySem PyProof.Rows
section
open PySem.SeqAt
open PySem.AutoSeq1 (wpAny_loadPart')
open PySem.MeetsSeq PySem.MeetsSeq2 PySem.MeetsSeq3
end
section
variable {prog : Program} {w : World} {A : Around} {E : Value -> Shared -> Prop} {s : Shared}
theorem cat_tup {t b : Addr} {vs ws : List Value} {Q : Value -> Shared -> Prop} (ht : IsTup s.heap t vs.toArray) (hb : IsTup s.heap b ws.toArray) (hv : vs ≠ [])
    (h1 : ws = [] -> Q (.ref t) s) (h2 : ws ≠ [] -> Q (.ref s.heap.objs.size) { s with heap := s.heap.push { cls := .type "tuple", data := .seq (vs ++ ws).toArray } })
    (hsz : vs.length + ws.length <= sizeLine) : wpAny (model prog w) A (binaryOp .Add (.ref t) (.ref b)) Q E s := by
  obtain ⟨⟨cls, dd, data, sl⟩, ho, hc, n, hd⟩ := id ht
  obtain ⟨⟨cls2, dd2, data2, sl2⟩, ho2, hc2, n2, hd2⟩ := id hb
  simp only at hc hd hc2 hd2
  subst hc hd hc2 hd2
  have e : vs.toArray ++ ws.toArray = (vs ++ ws).toArray := by simp
  by_cases hw : ws = []
  . exact concat_meets ⟨_, ho, rfl⟩ ⟨_, ho2, rfl⟩ noFill_tuple_add seq_tuple_add PySem.F.slot_tuple_add PySem.F.entry_tuple_add (PySem.F.args_tuple_add_2 _ _)
      (tuple_addW1 t b vs.toArray ws.toArray n n2 dd dd2 sl sl2 (by simpa using hv) (by simp [hw])) ⟨ho, ho2, h1 hw⟩
  . refine concat_meets ⟨_, ho, rfl⟩ ⟨_, ho2, rfl⟩ noFill_tuple_add seq_tuple_add PySem.F.slot_tuple_add PySem.F.entry_tuple_add (PySem.F.args_tuple_add_2 _ _)
      (tuple_addW2 t b vs.toArray ws.toArray n n2 dd dd2 sl sl2 (by simpa using hv) (by simpa using hw) (by rw [List.size_toArray, List.size_toArray]; exact hsz)) ⟨ho, ho2, ?_⟩
    rw [e]
    exact h2 hw
def sIx (n d : Nat) : Option Int -> Nat
  | none => d
  | some v => if v < 0 then (v + (n : Int)).toNat else min v.toNat n
theorem sIx_none (n d : Nat) : sIx n d none = d := rfl
theorem sIx_nat (n d k : Nat) : sIx n d (some (k : Int)) = min k n := by
  show (if (k : Int) < 0 then ((k : Int) + (n : Int)).toNat else min (k : Int).toNat n) = min k n
  rw [if_neg (by omega), Int.toNat_natCast]
theorem sIx_le (n d : Nat) (hd : d <= n) (o : Option Int) : sIx n d o <= n := by
  cases o with
  | none => exact hd
  | some v =>
    show (if v < 0 then (v + (n : Int)).toNat else min v.toNat n) <= n
    by_cases hv : v < 0
    . rw [if_pos hv]; omega
    . rw [if_neg hv]; exact Nat.min_le_right _ _
theorem clip_eq (v : Int) (n d : Nat) : (if v < 0 then max (v + (n : Int)) 0 else min v (n : Int)) = ((sIx n d (some v) : Nat) : Int) := by
  show (if v < 0 then max (v + (n : Int)) 0 else min v (n : Int)) = (((if v < 0 then (v + (n : Int)).toNat else min v.toNat n) : Nat) : Int)
  by_cases hv : v < 0
  . simp only [if_pos hv]; omega
  . simp only [if_neg hv]; omega
theorem adjust_gen (lo hi : Option Int) (n : Nat) : Builtin.Slice.sliceAdjust lo hi 1 (n : Int) = (((sIx n 0 lo : Nat) : Int), ((sIx n n hi : Nat) : Int)) := by
  have h1 : ¬ ((1 : Int) < 0) := by omega
  unfold Builtin.Slice.sliceAdjust
  simp only [h1, if_false]
  refine Prod.ext ?_ ?_
  . cases lo with
    | none => rfl
    | some v => exact clip_eq v n 0
  . cases hi with
    | none => rfl
    | some v => exact clip_eq v n n
theorem places_gen (i j : Nat) : Builtin.Slice.slicePlaces (i : Int) (j : Int) 1 = j - i := by
  unfold Builtin.Slice.slicePlaces
  have h1 : (1 : Int) > 0 := by omega
  simp only [h1, if_true, Int.ediv_one]
  split <;> omega
theorem slicePart_ {v : Value} {o : Option Int} {Q : Option Int -> Shared -> Prop} (p : IsPart v o) (h : Q o s) : wpAny (model prog w) A (Builtin.Slice.slicePartIndex v) Q E s := by
  cases p with
  | none => exact slicePart_none h
  | int i t => exact slicePart_int h
theorem sliceApplied_gen {sl : Addr} {vl vu : Value} {lo hi : Option Int} {n : Nat} {Q : Int × Int × Nat -> Shared -> Prop} (hs : s.heap.IsSliceOf sl vl vu .none) (pl : IsPart vl lo) (pu : IsPart vu hi)
    (h : Q (((sIx n 0 lo : Nat) : Int), 1, sIx n n hi - sIx n 0 lo) s) : wpAny (model prog w) A (Builtin.Slice.sliceApplied (.ref sl) (pure (n : Int))) Q E s := by
  obtain ⟨os, hos, hcs, hds⟩ := id hs
  unfold Builtin.Slice.sliceApplied Builtin.Slice.sliceFields
  refine wpAny_bind (wpAny_bind (wpAny_field hos hds (x := vl) rfl (wpAny_bind (wpAny_field hos hds (x := vu) rfl (wpAny_bind (wpAny_field hos hds (x := .none) rfl (wpAny_pure ?_)))))))
  refine wpAny_bind (slicePart_none ?_)
  show wpAny _ _ (if ((1 : Int) == 0) = true then _ else _) _ _ s
  rw [if_neg (by decide)]
  refine wpAny_bind (slicePart_ pl (wpAny_bind (slicePart_ pu (wpAny_bind (wpAny_pure ?_)))))
  show wpAny _ _ (match Builtin.Slice.sliceAdjust lo hi 1 (n : Int) with | (lo, hi) => pure (lo, (1 : Int), Builtin.Slice.slicePlaces lo hi 1)) _ _ s
  rw [adjust_gen lo hi n]
  show wpAny _ _ (pure (((sIx n 0 lo : Nat) : Int), (1 : Int), Builtin.Slice.slicePlaces ((sIx n 0 lo : Nat) : Int) ((sIx n n hi : Nat) : Int) 1)) _ _ s
  rw [places_gen]
  exact wpAny_pure h
theorem pick_gen (xs : Array Value) (i k : Nat) : ((List.range k).filterMap fun (m : Nat) => xs[((i : Int) + (m : Int) * 1).toNat]?).toArray = ((xs.toList.drop i).take k).toArray := by
  have e : (fun (m : Nat) => xs[((i : Int) + (m : Int) * 1).toNat]?) = fun m => xs[i + m]? := by
    funext m
    have : ((i : Int) + (m : Int) * 1).toNat = i + m := by omega
    rw [this]
  rw [e]
  have := pick_run xs i k
  rw [List.filterMap_map] at this
  have e2 : ((fun x => xs[x]?) ∘ fun x => i + x) = fun m => xs[i + m]? := rfl
  rw [e2] at this
  rw [this]
theorem getItem_tuple_cut {t sl : Addr} {items : Array Value} {vl vu : Value} {lo hi : Option Int} {Q : Value -> Shared -> Prop} (ht : IsTup s.heap t items) (hs : s.heap.IsSliceOf sl vl vu .none) (pl : IsPart vl lo) (pu : IsPart vu hi)
    (hw : ¬ (sIx items.size 0 lo = 0 /\ sIx items.size items.size hi = items.size))
    (h : Q (.ref s.heap.objs.size) { s with heap := s.heap.push { cls := .type "tuple", data := .seq ((items.toList.drop (sIx items.size 0 lo)).take (sIx items.size items.size hi - sIx items.size 0 lo)).toArray } })
    (hsz : items.size <= sizeLine) : wpAny (model prog w) A (getItem (.ref t) (.ref sl)) Q E s := by
  have htake : sizeOk (.seq ((items.toList.drop (sIx items.size 0 lo)).take (sIx items.size items.size hi - sIx items.size 0 lo)).toArray) := by
    show ((items.toList.drop (sIx items.size 0 lo)).take (sIx items.size items.size hi - sIx items.size 0 lo)).toArray.size <= sizeLine
    rw [List.size_toArray, List.length_take, List.length_drop, Array.length_toList]
    omega
  have hj : sIx items.size items.size hi <= items.size := sIx_le _ _ (Nat.le_refl _) hi
  obtain ⟨os, hos, hcs, hds⟩ := id hs
  have hTs : s.TypeIs (.ref sl) "slice" := ⟨os, hos, hcs⟩
  unfold getItem
  try with_reducible refine wpAny_holding ?_
  first | refine wpAny_bind (wpAny_pure ?_) | skip
  refine wpAny_bind (wpAny_sequenceKey ht.typeIs (by decide) ?_)
  refine wpAny_bind (wpAny_callSpecial?_slot (name := Str.ofString "__getitem__") ht.typeIs PyProof.Rows.slot_tuple_getitem
    (wpAny_call_entry PyProof.Rows.slot_tuple_getitem ht.typeIs entry_tuple_getitem ?_ (args_tuple_getitem _ _)))
  show wpAny _ _ (Builtin.Tuple.tupleItemsOf (.ref t) >>= _) _ _ s
  refine wpAny_bind (tupleItemsOf_ ht ?_)
  refine wpAny_bind (wpAny_typeOf hTs ?_)
  rw [if_pos (by decide)]
  refine wpAny_bind (sliceApplied_gen hs pl pu ?_)
  have hno : ¬ ((((sIx items.size 0 lo : Nat) : Int) == 0 && (1 : Int) == 1 && (sIx items.size items.size hi - sIx items.size 0 lo) == items.size) = true) := by
    intro q
    rw [Bool.and_eq_true, Bool.and_eq_true] at q
    have q1 : ((sIx items.size 0 lo : Nat) : Int) = 0 := eq_of_beq q.1.1
    have q2 : sIx items.size items.size hi - sIx items.size 0 lo = items.size := eq_of_beq q.2
    exact hw ⟨by omega, by omega⟩
  show wpAny _ _ (if (((sIx items.size 0 lo : Nat) : Int) == 0 && (1 : Int) == 1 && (sIx items.size items.size hi - sIx items.size 0 lo) == items.size) = true then _ else _) _ _ s
  rw [if_neg hno, pick_gen]
  first
    | exact wpAny_bind (m := Builtin.Tuple.tupleExact _) (wpAny_newObj_type (wpAny_pure ⟨_, rfl, wpAny_pure h⟩) htake)
    | exact wpAny_bind (m := Builtin.Tuple.tupleExact _) (wpAny_newObj_type (wpAny_bind (wpAny_pure (wpAny_pure ⟨_, rfl, wpAny_pure h⟩))) htake)
    | exact wpAny_bind (wpAny_bind (m := Builtin.Tuple.tupleExact _) (wpAny_newObj_type (wpAny_pure (wpAny_pure ⟨_, rfl, wpAny_pure h⟩)) htake))
    | exact wpAny_bind (wpAny_bind (m := Builtin.Tuple.tupleExact _) (wpAny_newObj_type (wpAny_pure ⟨_, rfl, wpAny_pure h⟩) htake))
end
end HT
namespace L2
open PySem PySem.Spec PyProof.Rows
abbrev TO := St -> Hp -> (Option Int -> Hp -> Prop) -> Prop
def PO (X : Cx) (e : Option Expr) (t : TO) : Prop :=
  ∀ (pins : List (Addr × Obj)) (s : Shared) (σ : St) (H : Hp) (Q : Option Int -> Hp -> Prop), Inv X pins σ H s -> t σ H Q ->
    wpAny (model X.prog X.w) X.A (evalPart e X.env) (fun u s' => ∃ o H', Inv X pins σ H' s' /\ IsPart u o /\ Q o H') X.xe s
def tNoPart : TO := fun _ H Q => Q none H
def tPart (t : TE) : TO := fun σ H Q => t σ H fun x H1 => ∃ i, x = .int i /\ Q (some i) H1
section
variable {X : Cx} {e : Expr} {te : TE} {lo hi : Option Expr} {tl th : TO} {pos p2 : Pos}
theorem po_none : PO X none tNoPart := by
  intro pins s σ H Q I h
  rw [evalPart_none]
  exact wpAny_pure ⟨none, H, I, .none, h⟩
theorem po_some (h : PE X e te) : PO X (some e) (tPart te) := by
  intro pins s σ H Q I hw
  rw [evalPart_some]
  refine thn (h pins s σ H _ I hw) fun u s1 ⟨x, H1, I1, r1, q1⟩ => ?_
  obtain ⟨i, rfl, q⟩ := q1
  obtain ⟨t, rfl⟩ := r1
  exact ⟨some i, H1, I1, .int i t, q⟩
def SlR (X : Cx) (r : V -> Option Int -> Option Int -> Hp -> VK -> Prop) : Prop :=
  ∀ (pins : List (Addr × Obj)) (s : Shared) (σ : St) (H : Hp) (x : V) (v vl vu : Value) (lo hi : Option Int) (sl : Addr) (Q : VK), Inv X pins σ H s -> RelV x v -> s.heap.IsSliceOf sl vl vu .none -> IsPart vl lo -> IsPart vu hi -> r x lo hi H Q ->
    ∃ T id, typeLookup (.type T) "__getitem__" = pure (some (.builtin id)) /\ s.TypeIs v T /\ wpAny (model X.prog X.w) X.A (getItem v (.ref sl)) (EP X pins σ Q) X.xe s
def tSl (r : V -> Option Int -> Option Int -> Hp -> VK -> Prop) (te : TE) (tl th : TO) : TE := fun σ H Q => te σ H fun x H1 => tl σ H1 fun l H2 => th σ H2 fun u H3 => r x l u H3 Q
theorem pe_slice {r : V -> Option Int -> Option Int -> Hp -> VK -> Prop} (hr : SlR X r) (he : PE X e te) (hl : PO X lo tl) (hu : PO X hi th) : PE X (.Subscript e (.Slice lo hi none p2) pos) (tSl r te tl th) := by
  intro pins s σ H Q I h
  refine Subscript_ (thn (he pins s σ H _ I h) fun v s1 ⟨x, H1, I1, r1, q1⟩ => ?_)
  refine wpAny_Slice (thn (hl pins s1 σ H1 _ I1 q1) fun vl s2 ⟨l, H2, I2, pl, q2⟩ => thn (hu pins s2 σ H2 _ I2 q2) fun vu s3 ⟨u, H3, I3, pu, q3⟩ => ?_)
  rw [evalPart_none]
  refine wpAny_pure ?_
  have I4 : Inv X pins σ H3 { s3 with heap := s3.heap.push { cls := .type "slice", data := .fields #[vl, vu, .none] } } := I3.kept (t' := s3.toks) fun b ob q => Heap.get?_push_of_some _ q
  obtain ⟨T, id, hT, ht, hg⟩ := hr pins { s3 with heap := s3.heap.push { cls := .type "slice", data := .fields #[vl, vu, .none] } } σ H3 x v vl vu l u s3.heap.objs.size Q I4 r1 (Heap.IsSliceOf.new ..) pl pu q3
  show wpAny (model X.prog X.w) X.A (subscriptTail e (.Slice lo hi none p2) v (.ref s3.heap.objs.size)) (EP X pins σ Q) X.xe { s3 with heap := s3.heap.push { cls := .type "slice", data := .fields #[vl, vu, .none] } }
  exact tail_any (ops := [.ref s3.heap.objs.size, v]) ht hT hg (by with_unfolding_all rfl)
def cutV (xs : List V) (lo hi : Option Int) : List V := (xs.drop (HT.sIx xs.length 0 lo)).take (HT.sIx xs.length xs.length hi - HT.sIx xs.length 0 lo)
theorem cutV_length (xs : List V) (lo hi : Option Int) : (cutV xs lo hi).length <= xs.length := by
  unfold cutV
  rw [List.length_take, List.length_drop]
  omega
def rSlT (K : PySem.W.Frag) : V -> Option Int -> Option Int -> Hp -> VK -> Prop := fun x lo hi H Q => ∃ a xs, x = .ref a /\ SqT K H a xs /\
  ¬ (HT.sIx xs.length 0 lo = 0 /\ HT.sIx xs.length xs.length hi = xs.length) /\ ∀ p, H p = none -> Q (.ref p) (upd H p (.tup (cutV xs lo hi)))
theorem sl_tup : SlR X (rSlT X.K) := by
  intro pins s σ H x v vl vu lo hi sl Q I rx hs pl pu h
  obtain ⟨a, xs, rfl, hx, hw, q⟩ := h
  cases rx
  obtain ⟨its, r, ht, hz⟩ := I.tuple hx
  have hlen : its.toArray.size = xs.length := by rw [List.size_toArray]; exact r.length.symm
  refine ⟨"tuple", _, PyProof.Rows.slot_tuple_getitem.lookup, ht.typeIs, ?_⟩
  refine HT.getItem_tuple_cut ht hs pl pu (by rw [hlen]; exact hw) ?_ (by rw [hlen]; exact hz)
  rw [hlen]
  refine ⟨.ref s.heap.objs.size, _, I.laid (t' := s.toks) (o := .tup (cutV xs lo hi)) (fun b ob q => Heap.get?_push_of_some _ q) (Nat.le_refl _) ?_, rfl, q _ (I.hok.fresh (Nat.le_refl _))⟩
  exact ⟨Nat.le_trans (cutV_length xs lo hi) hz, _, (r.drop (HT.sIx xs.length 0 lo)).take (HT.sIx xs.length xs.length hi - HT.sIx xs.length 0 lo), IsTup.new _ _⟩
def rCatT (K : PySem.W.Frag) : R2 := fun x y H Q => ∃ a b xs ys, x = .ref a /\ y = .ref b /\ SqT K H a xs /\ SqT K H b ys /\ xs ≠ [] /\ xs.length + ys.length <= sizeLine /\
  (ys = [] -> Q (.ref a) H) /\ (ys ≠ [] -> ∀ p, H p = none -> Q (.ref p) (upd H p (.tup (xs ++ ys))))
theorem Vals.nil_iff {xs : List V} {us : List Value} (r : Vals xs us) : us = [] ↔ xs = [] := by
  cases r with
  | nil => simp
  | cons _ _ => simp
theorem op_catT : OpR X (binaryOp .Add) (rCatT X.K) := by
  intro pins s σ H x y v u Q I rx ry h
  obtain ⟨a, b, xs, ys, rfl, rfl, ha, hb, hx, hz, q1, q2⟩ := h
  cases rx
  cases ry
  obtain ⟨its, r1, p1, _⟩ := I.tuple ha
  obtain ⟨its2, r2, p2, _⟩ := I.tuple hb
  refine HT.cat_tup p1 p2 (fun z => hx (r1.nil_iff.mp z)) (fun z => ⟨.ref a, H, I, rfl, q1 (r2.nil_iff.mp z)⟩) (fun z => ?_) (by rw [<- r1.length, <- r2.length]; exact hz)
  refine ⟨.ref s.heap.objs.size, _, I.laid (t' := s.toks) (o := .tup (xs ++ ys)) (fun b ob q => Heap.get?_push_of_some _ q) (Nat.le_refl _) ?_, rfl, q2 (fun w => z (r2.nil_iff.mpr w)) _ (I.hok.fresh (Nat.le_refl _))⟩
  exact ⟨by rw [List.length_append]; exact hz, _, r1.append r2, IsTup.new _ _⟩
end
end L2
namespace L2
open PySem PySem.Spec PyProof.Rows
def ixN (n : Nat) (i : Int) : Option Nat := if 0 <= i then (if i < n then some i.toNat else none) else if -(n : Int) <= i then some (i + n).toNat else none
def atI {α : Type} (xs : List α) (i : Int) : Option α := (ixN xs.length i).bind fun j => xs[j]?
theorem ixN_seq {n : Nat} {i : Int} {j : Nat} (h : ixN n i = some j) : seqIndex? i n = some j /\ j < n /\ -(n : Int) <= i /\ i < n := by
  unfold ixN at h
  by_cases h0 : 0 <= i
  . rw [if_pos h0] at h
    by_cases h1 : i < n
    . rw [if_pos h1] at h
      have e : i.toNat = j := Option.some.inj h
      exact ⟨by rw [seqIndex_of h0 h1, e], by omega, by omega, h1⟩
    . rw [if_neg h1] at h; cases h
  . rw [if_neg h0] at h
    by_cases h1 : -(n : Int) <= i
    . rw [if_pos h1] at h
      have e : (i + n).toNat = j := Option.some.inj h
      exact ⟨by rw [seqIndex_neg (by omega) h1, e], by omega, h1, by omega⟩
    . rw [if_neg h1] at h; cases h
theorem atI_get {α : Type} {xs : List α} {i : Int} {v : α} (h : atI xs i = some v) : ∃ j, seqIndex? i xs.length = some j /\ xs[j]? = some v /\ j < xs.length /\ -(xs.length : Int) <= i /\ i < xs.length := by
  unfold atI at h
  cases e : ixN xs.length i with
  | none => rw [e] at h; cases h
  | some j =>
    rw [e] at h
    obtain ⟨h1, h2, h3, h4⟩ := ixN_seq e
    exact ⟨j, h1, h, h2, h3, h4⟩
theorem atI_nat {α : Type} {xs : List α} {j : Nat} {v : α} (h : xs[j]? = some v) : atI xs (j : Int) = some v := by
  have hj : j < xs.length := (List.getElem?_eq_some_iff.mp h).1
  have e : ixN xs.length (j : Int) = some j := by
    unfold ixN
    rw [if_pos (by omega), if_pos (by omega)]; simp
  unfold atI; rw [e]; exact h
def PlainIx (b : Expr) : Prop := ∀ o i, subscripted b false o i = operate [o, i] (getItem o i)
def IxR (X : Cx) (r : R2) : Prop :=
  ∀ (value slice : Expr) (pins : List (Addr × Obj)) (s : Shared) (σ : St) (H : Hp) (x y : V) (v u : Value) (Q : VK), Inv X pins σ H s -> RelV x v -> RelV y u -> r x y H Q ->
    subscripted slice false v u = operate [v, u] (getItem v u) -> wpAny (model X.prog X.w) X.A (subscriptTail value slice v u) (EP X pins σ Q) X.xe s
def MtR (X : Cx) (id : String) (r : V -> List V -> Hp -> VK -> Prop) : Prop :=
  ∀ (pins : List (Addr × Obj)) (s : Shared) (σ : St) (H : Hp) (x : V) (xs : List V) (v : Value) (us : List Value) (Q : VK), Inv X pins σ H s -> RelV x v -> Vals xs us -> r x xs H Q ->
    wpAny (model X.prog X.w) X.A (call (.builtin id) (v :: us)) (EP X pins σ Q) X.xe s
section
variable {X : Cx} {a b : Expr} {ta tb : TE} {pos : Pos}
theorem pe_ix {r : R2} (hr : IxR X r) (ha : PE X a ta) (hb : PE X b tb) (hs : PlainIx b) : PE X (.Subscript a b pos) (tOp r ta tb) := by
  intro pins s σ H Q I h
  exact Subscript_ (binT ha hb I h fun v u s2 x y H2 I2 rx ry q => hr a b pins s2 σ H2 x y v u Q I2 rx ry q (hs _ _))
def rIxL (K : PySem.W.Frag) : R2 := fun x y H Q => ∃ p xs i v, x = .ref p /\ y = .int i /\ SqL K H p xs /\ atI xs i = some v /\ Q v H
def rIxT (K : PySem.W.Frag) : R2 := fun x y H Q => ∃ p xs i v, x = .ref p /\ y = .int i /\ SqT K H p xs /\ atI xs i = some v /\ Q v H
theorem ix_list : IxR X (rIxL X.K) := by
  intro value slice pins s σ H x y v u Q I rx ry h hs
  obtain ⟨p, xs, i, z, rfl, rfl, hq, he, q⟩ := h
  cases rx
  obtain ⟨t, rfl⟩ := ry
  obtain ⟨its, r, pl, hz⟩ := I.list hq
  obtain ⟨j, h1, h2, h3, h4, h5⟩ := atI_get he
  obtain ⟨w, ew, rw'⟩ := r.get h2
  have hl := r.length
  have hn := line63
  have fin : EP X pins σ Q w s := ⟨z, H, I, rw', q⟩
  by_cases h0 : 0 <= i
  . have hj : i.toNat = j := by
      rw [seqIndex_of h0 h5] at h1
      exact Option.some.inj h1
    exact item_listR pl.isList h0 (by omega) (by rw [hj]; simpa using ew) fin hs
  . have hj : (i + (its.toArray.size : Int)).toNat = j := by
      rw [seqIndex_neg (by omega) h4] at h1
      rw [List.size_toArray, <- hl]
      exact Option.some.inj h1
    exact subscriptTail_builtinR (x := w) pl.isList.typeIs slot_list_getitem.lookup
      (wpAny_getItem_list_neg (Q := fun r s' => r = w /\ EP X pins σ Q r s') pl.isList (by omega) (by rw [List.size_toArray] <;> omega) (by omega) (by rw [hj]; simpa using ew) ⟨rfl, fin⟩) hs
theorem ix_tup : IxR X (rIxT X.K) := by
  intro value slice pins s σ H x y v u Q I rx ry h hs
  obtain ⟨p, xs, i, z, rfl, rfl, hq, he, q⟩ := h
  cases rx
  obtain ⟨t, rfl⟩ := ry
  obtain ⟨its, r, pl, hz⟩ := I.tuple hq
  obtain ⟨j, h1, h2, h3, h4, h5⟩ := atI_get he
  obtain ⟨w, ew, rw'⟩ := r.get h2
  have hl := r.length
  have hn := line63
  have fin : EP X pins σ Q w s := ⟨z, H, I, rw', q⟩
  exact subscriptTail_builtinR (x := w) pl.typeIs slot_tuple_getitem.lookup
    (getItem_tuple (j := j) (Q := fun r s' => r = w /\ EP X pins σ Q r s') pl (by omega) (by omega) (by rw [List.size_toArray, <- hl]; exact h1) (by simpa using ew) ⟨rfl, fin⟩) hs
def flatV : V -> Bool
  | .non => true
  | .bl _ => true
  | .int _ => true
  | .str _ => true
  | _ => false
def eqV : V -> V -> Bool
  | .non, .non => true
  | .bl a, .bl b => a == b
  | .bl a, .int b => (if a then 1 else 0) == b
  | .int a, .bl b => a == (if b then 1 else 0)
  | .int a, .int b => a == b
  | .str a, .str b => a == b
  | _, _ => false
theorem eqAt_V {A : Around} {s : Shared} {y x : V} {u v : Value} (ry : RelV y u) (rx : RelV x v) (fy : flatV y = true) (fx : flatV x = true) : SeqAt.EqAt A s u v (eqV y x) := by
  cases y with
  | non =>
    cases ry
    cases x with
    | non => cases rx; exact SeqAt.EqAt.same _
    | bl b => cases rx; exact SeqAt.EqAt.none_bool b
    | int b => obtain ⟨t, rfl⟩ := rx; exact SeqAt.EqAt.none_int b t
    | str b => obtain ⟨t, rfl⟩ := rx; exact SeqAt.EqAt.none_str b t
    | _ => exact absurd (show false = true from fx) Bool.false_ne_true
  | bl a =>
    cases ry
    cases x with
    | non => cases rx; exact SeqAt.EqAt.bool_none a
    | bl b => cases rx; exact SeqAt.EqAt.bool_bool a b
    | int b => obtain ⟨t, rfl⟩ := rx; exact SeqAt.EqAt.bool_int a b t
    | str b => obtain ⟨t, rfl⟩ := rx; exact SeqAt.EqAt.bool_str a b t
    | _ => exact absurd (show false = true from fx) Bool.false_ne_true
  | int a =>
    obtain ⟨t', rfl⟩ := ry
    cases x with
    | non => cases rx; exact SeqAt.EqAt.int_none a t'
    | bl b => cases rx; exact SeqAt.EqAt.int_bool a t' b
    | int b => obtain ⟨t, rfl⟩ := rx; exact SeqAt.EqAt.int_int a t' b t
    | str b => obtain ⟨t, rfl⟩ := rx; exact SeqAt.EqAt.int_str a t' b t
    | _ => exact absurd (show false = true from fx) Bool.false_ne_true
  | str a =>
    obtain ⟨t', rfl⟩ := ry
    cases x with
    | non => cases rx; exact SeqAt.EqAt.str_none a t'
    | bl b => cases rx; exact SeqAt.EqAt.str_bool a t' b
    | int b => obtain ⟨t, rfl⟩ := rx; exact SeqAt.EqAt.str_int a t' b t
    | str b => obtain ⟨t, rfl⟩ := rx; exact SeqAt.EqAt.str_str a t' b t
    | _ => exact absurd (show false = true from fx) Bool.false_ne_true
  | _ => exact absurd (show false = true from fy) Bool.false_ne_true
def eqU (x : V) (u : Value) : Bool := match u with
  | .none => eqV .non x
  | .bool b => eqV (.bl b) x
  | .int i _ => eqV (.int i) x
  | .str z _ => eqV (.str z) x
  | _ => false
theorem eqU_of {x y : V} {u : Value} (r : RelV y u) (f : flatV y = true) : eqU x u = eqV y x := by
  cases y with
  | non => cases r; rfl
  | bl b => cases r; rfl
  | int i => obtain ⟨t, rfl⟩ := r; rfl
  | str z => obtain ⟨t, rfl⟩ := r; rfl
  | _ => exact absurd (show false = true from f) Bool.false_ne_true
theorem any_eqU {x : V} : ∀ {xs : List V} {us : List Value}, Vals xs us -> xs.all flatV = true -> us.any (eqU x) = xs.any fun y => eqV y x
  | _, _, .nil, _ => rfl
  | y :: xs, u :: us, .cons r t, f => by
    rw [List.all_cons, Bool.and_eq_true] at f
    rw [List.any_cons, List.any_cons, eqU_of r f.1, any_eqU t f.2]
theorem mem_eqAt {A : Around} {s : Shared} {x : V} {v : Value} (rx : RelV x v) (fx : flatV x = true) : ∀ {xs : List V} {us : List Value}, Vals xs us -> xs.all flatV = true -> ∀ u ∈ us, SeqAt.EqAt A s u v (eqU x u)
  | _, _, .nil, _ => fun u hu => by cases hu
  | y :: xs, u :: us, .cons r t, f => fun u' hu => by
    rw [List.all_cons, Bool.and_eq_true] at f
    rcases List.mem_cons.mp hu with rfl | hu
    . rw [eqU_of r f.1]; exact eqAt_V r rx f.1 fx
    . exact mem_eqAt rx fx t f.2 u' hu
theorem call_len_seq : CallR X (.builtin "len") (fun xs H Q => ∃ p ys, xs = [.ref p] /\ (SqL X.K H p ys \/ SqT X.K H p ys) /\ Q (.int ys.length) H) := by
  intro pins s σ H xs us Q I r h
  obtain ⟨p, ys, rfl, hq, q⟩ := h
  obtain ⟨u, rfl, rx⟩ := vals1 r
  cases rx
  have hn := line63
  rcases hq with hq | hq
  . obtain ⟨its, r', pl, hz⟩ := I.list hq
    have hlen := r'.length
    exact Calls.call_len_list pl.isList (by simp only [List.size_toArray] <;> omega) ⟨.int ys.length, H, I.tok _, ⟨s.toks + 1, by rw [List.size_toArray, hlen]⟩, q⟩
  . obtain ⟨its, r', pl, hz⟩ := I.tuple hq
    have hlen := r'.length
    exact len_tuple pl (by simp only [List.size_toArray] <;> omega) ⟨.int ys.length, H, I.tok _, ⟨s.toks + 1, by rw [List.size_toArray, hlen]⟩, q⟩
theorem call_tuple_of : CallR X (.type "tuple") (fun xs H Q => ∃ p ys, xs = [.ref p] /\ ((SqL X.K H p ys /\ ∀ l, H l = none -> Q (.ref l) (upd H l (.tup ys))) \/ (SqT X.K H p ys /\ Q (.ref p) H))) := by
  intro pins s σ H xs us Q I r h
  obtain ⟨p, ys, rfl, h⟩ := h
  obtain ⟨u, rfl, rx⟩ := vals1 r
  cases rx
  rcases h with ⟨hq, q⟩ | ⟨hq, q⟩
  . obtain ⟨its, r', pl, hz⟩ := I.list hq
    have hlen := r'.length
    refine call_tuple_list pl.isList (fun h' kp => ?_) (by simp only [List.size_toArray] <;> omega)
    have I1 : Inv X pins σ H { s with heap := h' } := I.kept (t' := s.toks) kp
    have I2 : Inv X pins σ (upd H h'.objs.size (.tup ys)) { s with heap := h'.push { cls := .type "tuple", data := .seq its.toArray } } :=
      I1.laid (t' := s.toks) (fun b o e => Heap.get?_push_of_some _ e) (Nat.le_refl _) (show ObjOk X.prog X.w _ _ _ (.tup ys) from ⟨hz, its, r', IsTup.new _ _⟩)
    exact ⟨.ref h'.objs.size, _, I2, rfl, q _ (I1.hok.fresh (Nat.le_refl _))⟩
  . obtain ⟨its, r', pl, hz⟩ := I.tuple hq
    exact call_tuple_same pl ⟨.ref p, H, I, rfl, q⟩
def tyV (K : PySem.W.Frag) (T : String) (x : V) (H : Hp) : Prop := match x with
  | .str _ => T = "str"
  | .int _ => T = "int"
  | .ref p => (T = "list" /\ ∃ xs, SqL K H p xs) \/ (T = "tuple" /\ ∃ o, K.lookup p = some o /\ o.cls = .type "tuple" /\ o.dict = none) \/
      (T = "dict" /\ ((∃ kvs, H p = some (.dK kvs)) \/ ∃ kvs, H p = some (.dT kvs))) \/ (T = "set" /\ ∃ S n, H p = some (.set S n))
  | _ => False
theorem tyV_is {pins : List (Addr × Obj)} {σ : St} {H : Hp} {s : Shared} {T : String} {x : V} {v : Value} (I : Inv X pins σ H s) (r : RelV x v) (ty : tyV X.K T x H) :
    s.TypeIs v T /\ ∀ a, v = .ref a -> ∃ ob, s.heap.get? a = some ob /\ ob.dict = none := by
  cases x with
  | str z =>
    obtain ⟨t, rfl⟩ := r
    cases (show T = "str" from ty)
    exact ⟨typeIs_str s z t, fun _ e => nomatch e⟩
  | int i =>
    obtain ⟨t, rfl⟩ := r
    cases (show T = "int" from ty)
    exact ⟨typeIs_int s i t, fun _ e => nomatch e⟩
  | ref p =>
    cases r
    rcases ty with ⟨rfl, xs, hq⟩ | ⟨rfl, o, hk, hc, hd⟩ | ⟨rfl, hk⟩ | ⟨rfl, S, n, hk⟩
    . obtain ⟨its, _, pl, _⟩ := I.list hq
      refine ⟨pl.isList.typeIs, fun a e => ?_⟩
      cases e
      obtain ⟨o, n, e, c, hd, _⟩ := pl
      exact ⟨o, e, hd⟩
    . refine ⟨⟨o, I.kIn p o hk, hc⟩, fun a e => ?_⟩
      cases e
      exact ⟨o, I.kIn _ o hk, hd⟩
    . have z : ∃ o, s.heap.get? p = some o /\ o.ExactDict := by
        rcases hk with ⟨kvs, hk⟩ | ⟨kvs, hk⟩
        . obtain ⟨_, _, _, _, o, _, _, e, ex, _⟩ := I.hok p _ hk
          exact ⟨o, e, ex⟩
        . obtain ⟨_, _, _, _, o, _, _, e, ex, _⟩ := I.hok p _ hk
          exact ⟨o, e, ex⟩
      obtain ⟨o, e, ex⟩ := z
      refine ⟨⟨o, e, ex.1⟩, fun a e2 => ?_⟩
      cases e2
      exact ⟨o, e, ex.2.1⟩
    . obtain ⟨o, _, _, _, e, ex, _⟩ := I.hok p _ hk
      refine ⟨⟨o, e, ex.1⟩, fun a e2 => ?_⟩
      cases e2
      exact ⟨o, e, ex.2.1⟩
  | _ => exact False.elim ty
def tBM (K : PySem.W.Frag) (T : String) (r : V -> List V -> Hp -> VK -> Prop) (to : TE) (t : TA) : TE := fun σ H Q => to σ H fun x H1 => tyV K T x H1 /\ t σ H1 fun xs H2 => r x xs H2 Q
variable {o e : Expr} {es : List Expr} {to : TE} {t : TA} {name : Str} {apos cpos : Pos} {T id : String} {r : V -> List V -> Hp -> VK -> Prop}
theorem pe_bm (pa : PlainAttrs T) (slot : Slot T name id) (hty : typeOf (.builtin id) = pure (.type "method_descriptor")) (hm : MtR X id r) (ho : PE X o to) (ha : PA X (e :: es) t)
    (hbase : attributeBase o name X.env (eval o X.env) = eval o X.env := by rfl)
    (hfew : ((backTo cpos (starEach (e :: es) X.env)).all (fun x => !x.1) && (backToKw cpos (keywordEach [] X.env)).all (fun x => x.1.isSome)
      && decide ((e :: es).length + ([] : List Keyword).length + (if ([] : List Keyword).isEmpty then 0 else 1) < 30)) = true := by rfl)
    (hline : (apos.endLine == cpos.line) = true := by rfl) (hs : starEach (e :: es) X.env = (false, eval e X.env) :: starEach es X.env := by rfl) (hplain : (backTo cpos (starEach es X.env)).any (·.1) = false := by rfl) :
    PE X (.Call (.Attribute o name apos) (e :: es) [] cpos) (tBM X.K T r to t) := by
  intro pins s σ H Q I h
  refine wpAny_Call_method_late hbase hfew hline rfl (thn (ho pins s σ H _ I h) fun v s1 ⟨x, H1, I1, r1, ty, q1⟩ => ?_)
  obtain ⟨h1, h2⟩ := tyV_is I1 r1 ty
  refine ⟨T, id, pa, slot, hty, h1, h2, ?_⟩
  have hA := ha cpos pins s1 σ H1 _ I1 q1
  rw [hs] at hA ⊢
  refine Calls.callWith_builtin (by show (false || (backTo cpos (starEach es X.env)).any (·.1)) = false; rw [hplain] <;> rfl) (Calls.evalArgs_plain ?_)
  exact thn hA fun us s2 ⟨vs, H2, I2, r2, q2⟩ => hm pins s2 σ H2 x vs v us Q I2 r1 r2 q2
/- xs.append(e), list.index on a module's tuple .. are MtR facts of 06m -/
end
end L2
namespace L2
open PySem PySem.Spec PyProof.Rows
def MtM (X : Cx) (id : String) (r : V -> List V -> Hp -> VK -> Prop) : Prop :=
  ∀ (pins : List (Addr × Obj)) (s : Shared) (σ : St) (H : Hp) (x : V) (xs : List V) (v : Value) (us : List Value) (Q : VK), Inv X pins σ H s -> RelV x v -> Vals xs us -> r x xs H Q ->
    wpAny (model X.prog X.w) X.A (call (.builtin id) (v :: us)) (EP X pins σ Q) X.xe s
theorem Vals.one : ∀ {x : V} {us : List Value}, Vals [x] us -> ∃ u, us = [u] /\ RelV x u
  | _, _, .cons r .nil => ⟨_, rfl, r⟩
theorem Vals.reverse {xs : List V} {us : List Value} (h : Vals xs us) : Vals xs.reverse us.reverse := by
  induction h with
  | nil => exact .nil
  | cons r t ih => rw [List.reverse_cons, List.reverse_cons]; exact Vals.append ih (.cons r .nil)
section
variable {X : Cx} {pins : List (Addr × Obj)} {σ : St} {H : Hp} {s : Shared} {l b : Addr} {xs ys zs : List V}
theorem Inv.lset {its its' : List Value} {n : Nat} {f : Array Value -> Array Value} {t' : Nat} (I : Inv X pins σ H s) (hH : H l = some (.lst xs))
    (e : s.heap.get? l = some { cls := .type "list", data := .seq its.toArray n }) (hf : f its.toArray = its'.toArray) (hv : Vals ys its') (hz : ys.length <= sizeLine) :
    Inv X pins σ (upd H l (.lst ys)) { s with heap := s.heap.update l (Obj.mapSeq f), toks := t' } := by
  have q := PySem.IsL.update e f
  rw [hf] at q
  refine I.write (x := l) (e := l) (by rw [hH]; exact trivial) (.inl rfl) (fun b' u hb hu => (Heap.get?_update_other s.heap (Obj.mapSeq f) (Ne.symm hb)).trans hu) ⟨_, q⟩ ?_
  exact ⟨hz, its', _, hv, q⟩
theorem Inv.lnew {its : List Value} {t' : Nat} (I : Inv X pins σ H s) (hv : Vals ys its) (hz : ys.length <= sizeLine) :
    Inv X pins σ (upd H s.heap.objs.size (.lst ys)) { s with heap := s.heap.push { cls := .type "list", data := .seq its.toArray }, toks := t' } :=
  I.laid (fun _ _ q => Heap.get?_push_of_some _ q) (Nat.le_refl _) ⟨hz, its, 0, hv, Heap.get?_push_size _ rfl⟩
theorem Inv.fresh (I : Inv X pins σ H s) : H s.heap.objs.size = none := I.hok.fresh (Nat.le_refl _)
theorem Inv.lstM (I : Inv X pins σ H s) (hH : H l = some (.lst xs)) : xs.length <= sizeLine /\ ∃ (its : List Value) (n : Nat), Vals xs its /\ xs.length = its.length /\ s.heap.get? l = some { cls := .type "list", data := .seq its.toArray n } := by
  obtain ⟨z, its, n, r, e⟩ := I.hok l _ hH
  exact ⟨z, its, n, r, r.length, e⟩
end
section
variable {X : Cx}
def rAppend : V -> List V -> Hp -> VK -> Prop := fun x vs H Q => ∃ l xs y, x = .ref l /\ vs = [y] /\ H l = some (.lst xs) /\ xs.length < sizeLine /\ Q .non (upd H l (.lst (xs ++ [y])))
theorem mt_append : MtM X "list.append" rAppend := by
  intro pins s σ H x vs v us Q I rx rv h
  obtain ⟨l, xs, y, rfl, rfl, hH, hz, q⟩ := h
  cases rx
  obtain ⟨u, rfl, ru⟩ := rv.one
  obtain ⟨z, its, n, r, hl, e⟩ := I.lstM hH
  refine call_meets F.slot_list_append ⟨_, e, rfl⟩ F.entry_list_append (F.args_list_append_2 _ _) (PySem.list_append l its.toArray n u (by rw [List.size_toArray]; omega)) ⟨e, ?_⟩
  refine ⟨.non, _, I.lset (its' := its ++ [u]) hH e (by simp) (r.append (.cons ru .nil)) ?_, rfl, q⟩
  rw [List.length_append, List.length_singleton]
  omega
def rCat : R2 := fun x y H Q => ∃ l b xs zs, x = .ref l /\ y = .ref b /\ H l = some (.lst xs) /\ H b = some (.lst zs) /\ xs.length + zs.length <= sizeLine /\ ∀ p, H p = none -> Q (.ref p) (upd H p (.lst (xs ++ zs)))
theorem op_cat : OpR X (binaryOp .Add) rCat := by
  intro pins s σ H x y v u Q I rx ry h
  obtain ⟨l, b, xs, zs, rfl, rfl, hH, hB, hz, q⟩ := h
  cases rx
  cases ry
  obtain ⟨z, its, n, r, hl, e⟩ := I.lstM hH
  obtain ⟨z2, its2, n2, r2, hl2, e2⟩ := I.lstM hB
  refine PySem.P.add_list e e2 ?_ (by rw [List.size_toArray, List.size_toArray]; omega)
  have ea : its.toArray ++ its2.toArray = (its ++ its2).toArray := by simp
  rw [ea]
  exact ⟨.ref _, _, I.lnew (t' := s.toks) (r.append r2) (by rw [List.length_append]; omega), rfl, q _ I.fresh⟩
end
section
variable {prog : Program} {w : World} {A : Around} {E : Value -> Shared -> Prop} {s : Shared}
end
section
variable {X : Cx}
end
end L2
namespace Att
open PySem PySem.W PySem.Calls PyProof.Rows
theorem ints_of_wellAll {P : Params} {h : Heap} : ∀ (ns : List Int) (vs : List Value), WellAll P h vs (ns.map WData.int) -> IntsAre vs ns := by
  intro ns
  induction ns with
  | nil =>
    intro vs w
    rw [List.map_nil] at w
    cases w
    exact .nil
  | cons n ns ih =>
    intro vs w
    rw [List.map_cons] at w
    cases w with
    | cons a b =>
      cases a
      exact .cons _ _ (ih _ b)
theorem script_of {l : OpenLaw} {n : Nat} (hn : l.most = some n) {P : Params} {h : Heap} {args : List WData} {vals : List Value}
    (hpre : l.row.toRowW.claim.pre args = true) (hwl : WellAll P h vals args) :
    ∃ a vs ns, vals = [Value.ref a] /\ args = [WData.list (ns.map WData.int)] /\ h.get? a = some { cls := .type "list", data := .seq vs.toArray } /\ IntsAre vs ns /\ ns.length <= n := by
  have hsh : WShape.hasAll [] args [.list .int] = true := (pre_splitW hpre).1
  have hc : l.pre.holds [] { args := args } = true := (pre_splitW hpre).2
  obtain ⟨d, r, rfl, h1, h2⟩ := hasAllW_cons hsh
  obtain rfl := hasAllW_nil h2
  obtain ⟨xs, rfl, h3⟩ := hasW_list h1
  obtain ⟨ns, rfl⟩ := items_int h3
  have hlen : ns.length <= n := by
    unfold OpenLaw.pre at hc
    have h4 : (WTm.not (.lt (.lit (.int (n : Int))) (.len (.arg 0)))).holds [] { args := [.list (ns.map .int)] } = true := by
      have h4 := (holds_andW hc).1
      rw [hn] at h4
      exact h4
    have h5 := condW_of h4 (w_not (w_lt w_lit (w_len_list (w_arg rfl))))
    rw [List.length_map] at h5
    refine Nat.le_of_not_lt fun q => ?_
    have q' : (n : Int) < ((ns.length : Nat) : Int) := by omega
    first
      | (rw [decide_eq_true q'] at h5; exact absurd h5 (by decide))
      | (simp at h5; omega)
  cases hwl with
  | cons w1 w2 =>
    cases w2
    cases w1 with
    | list ho hall => exact ⟨_, _, ns, rfl, rfl, ho, ints_of_wellAll ns _ hall, hlen⟩
theorem post_true (l : OpenLaw) (args : List WData) : l.row.toRowW.claim.post args (.bool true) args = true :=
  postW_of (r := l.row.toRowW) (X := (true == true))
    (show WShape.has [] (.bool true) .bool = true by first | rfl | decide | simp [WShape.has, WShape.arms, WShape.armsAll])
    (show (WTm.eq .res (.lit (.bool true))).value [] { args := args, res := some (.bool true), after := args } = some (.bool (true == true)) from w_eq_bool (w_res rfl) w_lit) rfl
theorem attach_call {l : OpenLaw} {n : Nat} {q : Program} {loose : List Str} {XP : (Str -> Option Value) -> Heap -> Prop} {YP : World -> Heap -> Prop} {d : DefRec}
    (hn : l.most = some n) (hdf : d.params.defaults = [])
    (call : ∀ (w : World) (s₀ s₁ : Shared) (mg mb : Str -> Option Value) (fa : Addr) (o : Obj) (pm cd doc : Value) (a : Addr) (vs : List Value) (ns : List Int),
      Ground q loose [] XP w s₀ mg mb s₁.heap -> YP w s₁.heap ->
      s₁.heap.get? fa = some o -> o.data = .func (docDef d.name d.params d.body d.scope pm cd doc) -> s₁.heap.CodeRec cd d.name -> mg d.name = some (.ref fa) ->
      s₁.heap.get? a = some { cls := .type "list", data := .seq vs.toArray } -> IntsAre vs ns -> ns.length <= n -> s₁.gens = #[] ->
      codeAny (model l.prog w) callerA (.call (.ref fa) ⟨[.ref a], []⟩) (fun r s' => r = .ok (.ret (.bool true)) /\ OldK s₁.heap s'.heap /\ s'.os = s₁.os /\ AllBare s'.gens) s₁) :
    WalkO q loose XP YP l.row.toRowW d [] (fun f vs => PySem.call f vs) := by
  intro w s₀ s₁ mg mb G Y fa o pm cd doc dV kV ho hd hcd hD hmg hg args vals as hpre hlay hrd hwl hlo
  obtain rfl : dV = .none := Dflts.none hD hdf
  obtain rfl : kV = .none := Dflts.noKw hD
  obtain ⟨a, vs, ns, rfl, rfl, hobj, hints, hlen⟩ := script_of hn hpre hwl
  refine enter_call (codeAny_mono (call w s₀ s₁ mg mb fa o pm cd doc a vs ns G Y ho (fd_plain hd) hcd hmg hobj hints hlen hg) fun r s' hq => ?_)
  obtain ⟨rfl, h2, h3, h4⟩ := hq
  exact ⟨.inl ⟨.bool true, .bool true, [], rfl, fun _ => rfl, .bool true, post_true l _, fun _ => ⟨List.Pairwise.nil, fun _ hm => (nomatch hm)⟩⟩, h2, h3, h4⟩
section
variable {prog : Program} {w : World} {A : Around} {E : Value -> Shared -> Prop} {s : Shared} {K : Frag}
end
end Att
namespace L2
open PySem PySem.Spec PyProof.Rows
theorem vals_ints : ∀ {vs : List Value} {ns : List Int}, IntsAre vs ns -> Vals (ns.map V.int) vs
  | _, _, .nil => .nil
  | _, _, .cons n t h => .cons ⟨t, rfl⟩ (vals_ints h)
def Only (H : Hp) : Prop := ∀ b, H b = none \/ ∃ o xs, H b = some (.frz o (.lst xs))
theorem law_call {P : Program} {w : World} {K : PySem.W.Frag} {mg mb : Str -> Option Value} {CX : CXT} {k : Nat} {fa a : Addr} {fd : FuncData} {x : Str} {sp : Sp} {s₁ : Shared} {vs : List Value} {ns : List Int}
    (KX : K.In s₁.heap) (hns : s₁.heap.Ns mainGlobals mg) (hb : s₁.heap.Ns builtinsNs mb) (hbb : ∀ x : Str, x ≠ "__name__" -> mb x = bootBuiltins x) (hlim : s₁.heap.NoLimit) (hg : s₁.gens = #[])
    (ha : s₁.heap.get? a = some { cls := .type "list", data := .seq vs.toArray }) (hi : IntsAre vs ns) (hl : ns.length <= sizeLine) (hr : Room k callerA)
    (F : ∀ base : Heap, K.In base -> base.Ns mainGlobals mg -> FnOk P w K mg base CX k fa fd [x] sp) (hbind : ∀ (s : Shared) (u : Value), BindsTo s fd ⟨[u], []⟩ [(x, u)])
    (hsp : ∀ H : Hp, Only H -> SqL K H a (ns.map V.int) -> sp [.ref a] H (fun v _ => v = .bl true) fun _ _ _ => False)
    (hCX : ∀ H e s', CX [] H s₁ (fun _ _ _ => False) e s' -> False) :
    codeAny (model P w) callerA (.call (.ref fa) ⟨[.ref a], []⟩) (fun r s' => r = .ok (.ret (.bool true)) /\ OldK s₁.heap s'.heap /\ s'.os = s₁.os /\ AllBare s'.gens) s₁ := by
  have rv := vals_ints hi
  have lenV := hi.length
  -- from an abstract heap in which nothing but the script may be tracked
  have core : ∀ H : Hp, Only H -> SqL K H a (ns.map V.int) -> HOk P w H s₁.heap -> (∀ b, H b ≠ none -> b = a) -> (H a ≠ none -> K.lookup a = none) ->
      codeAny (model P w) callerA (.call (.ref fa) ⟨[.ref a], []⟩) (fun r s' => r = .ok (.ret (.bool true)) /\ OldK s₁.heap s'.heap /\ s'.os = s₁.os /\ AllBare s'.gens) s₁ := by
    intro H hO hS hok hA hK
    have base_of : ∀ {b : Addr} {o : Obj}, s₁.heap.get? b = some o -> H b = none -> (hidT s₁.heap H).get? b = some o := fun e n => hidT_get e n
    have noA : ∀ {b : Addr} {o : Obj} {es : Array DictEntry} {ep : Nat}, s₁.heap.get? b = some o -> o.data = .dict es ep -> H b = none := fun {b o es ep} e d => by
      cases q : H b with
      | none => rfl
      | some u =>
        have e' : b = a := hA b (by rw [q]; simp)
        subst e'
        rw [ha] at e; cases e
        have d' : Data.seq vs.toArray _ = Data.dict es ep := d
        cases d'
    have nsK : ∀ {b : Addr} {m : Str -> Option Value}, s₁.heap.Ns b m -> (hidT s₁.heap H).Ns b m := fun {b m} ⟨o, es, ep, e, d, r⟩ => ⟨o, es, ep, base_of e (noA e d), d, r⟩
    have hKb : K.In (hidT s₁.heap H) := fun b o e => base_of (KX b o e) (by
      cases q : H b with
      | none => rfl
      | some u =>
        have e' : b = a := hA b (by rw [q]; simp)
        subst e'
        rw [hK (by rw [q]; simp)] at e; cases e)
    have hM : Mod K mg (hidT s₁.heap H) := ⟨hKb, nsK hns, ⟨mb, nsK hb, hbb⟩, let ⟨mc, h1, h2⟩ := hlim; ⟨mc, nsK h1, h2⟩⟩
    have e0 : Env0 P w K mg (hidT s₁.heap H) callerA [] s₁ H := ⟨rfl, hM, fun b o e => of_hidT e, Nat.le_of_eq (hidT_size _ _), trivial, fun b hb => absurd (show b ∈ ([] : List Addr) from hb) (by simp), hok, .of_eq hg⟩
    refine codeAny_mono ((F _ hKb (nsK hns)).run callerA [] s₁ H ⟨[.ref a], []⟩ [.ref a] [.ref a] _ _ hr e0 (hbind s₁ (.ref a)) (.cons rfl .nil) (hsp H hO hS)) fun r s' h => ?_
    cases r with
    | error e => exact (hCX H e s' h).elim
    | ok fl =>
      cases fl with
      | next => exact False.elim h
      | brk => exact False.elim h
      | cont => exact False.elim h
      | ret u =>
        obtain ⟨v, H', os, bare, un, hok', r', q⟩ := h
        have q' : v = .bl true := q
        subst q'
        obtain rfl : u = Value.bool true := r'
        refine ⟨rfl, OldK.of_keep fun b o e => ?_, os, bare⟩
        cases q : H b with
        | none => exact un.keep b o e q (by intro z; exact absurd (show b ∈ ([] : List Addr) from z) (by simp)) (by simp)
        | some u =>
          rcases hO b with z | ⟨ob, xs, z⟩
          . rw [q] at z; cases z
          . have z2 := un.frzs b ob _ z
            obtain ⟨e1, _⟩ := hok b _ z
            obtain ⟨e2, _⟩ := hok' b _ z2
            rw [e] at e1; cases e1
            exact e2
  cases hk : K.lookup a with
  | some o =>
    -- the script is one of the module's own objects
    have e := KX a o hk
    rw [ha] at e
    cases e
    refine core (fun _ => none) (fun _ => .inl rfl) (.inr ⟨_, vs.toArray, _, hk, rfl, rfl, rfl, by rw [List.size_toArray, lenV]; exact hl, by simpa using rv⟩) (fun b u z => by have z' : (none : Option HO) = some u := z; cases z') (fun b z => absurd rfl z) fun z => absurd rfl z
  | none =>
    refine core (fun b => if b = a then some (.frz { cls := .type "list", data := .seq vs.toArray } (.lst (ns.map V.int))) else none) (fun b => ?_) (.inl (.inr ⟨{ cls := .type "list", data := .seq vs.toArray }, if_pos rfl⟩)) (fun b u z => ?_) (fun b z => ?_) fun _ => hk
    . by_cases hb : b = a
      . exact .inr ⟨_, _, if_pos hb⟩
      . exact .inl (if_neg hb)
    . by_cases hb : b = a
      . have z' := (if_pos hb).symm.trans z
        cases z'
        subst hb
        exact ⟨ha, by rw [List.length_map]; exact hl, vs, _, rv, ha⟩
      . have z' := (if_neg hb).symm.trans z
        cases z'
    . by_cases hb : b = a
      . exact hb
      . exact absurd (if_neg hb) z
end L2
namespace L2
open PySem PySem.Spec PyProof.Rows
theorem walk_of {l : PySem.W.OpenLaw} {n k : Nat} {q : Program} {loose : List Str} {XP : (Str -> Option Value) -> Heap -> Prop} {YP : World -> Heap -> Prop} {d : DefRec} {K : Params -> PySem.W.Frag} {CX : World -> CXT} {sp : World -> Sp} {x : Str}
    (hn : l.most = some n) (hn2 : n <= sizeLine) (hdf : d.params.defaults = []) (hr : Room k callerA)
    (hY : ∀ (w : World) (h : Heap), YP w h -> (K w.params).In h)
    (F : ∀ (w : World) (mg : Str -> Option Value) (fa : Addr) (h : Heap), (K w.params).In h -> h.Ns mainGlobals mg -> mg d.name = some (.ref fa) ->
      ∃ fd : FuncData, (∀ (s : Shared) (u : Value), BindsTo s fd ⟨[u], []⟩ [(x, u)]) /\
        ∀ base : Heap, (K w.params).In base -> base.Ns mainGlobals mg -> FnOk l.prog w (K w.params) mg base (CX w) k fa fd [x] (sp w))
    (hsp : ∀ (w : World) (H : Hp) (a : Addr) (ns : List Int), ns.length <= n -> Only H -> SqL (K w.params) H a (ns.map V.int) -> sp w [.ref a] H (fun v _ => v = .bl true) fun _ _ _ => False)
    (hCX : ∀ (w : World) (H : Hp) (s : Shared) (e : Value) (s' : Shared), CX w [] H s (fun _ _ _ => False) e s' -> False) :
    PySem.W.WalkO q loose XP YP l.row.toRowW d [] (fun f vs => PySem.call f vs) := by
  refine Att.attach_call hn hdf fun w s₀ s₁ mg mb fa o pm cd doc a vs ns G Y ho hd hcd hmg hobj hints hlen hg => ?_
  have KX := hY w _ Y
  obtain ⟨fd, hb, hF⟩ := F w mg fa _ KX G.T.g hmg
  exact law_call KX G.T.g G.T.b G.T.builtins G.T.nolimit hg hobj hints (Nat.le_trans hlen hn2) hr hF hb (fun H hO hS => hsp w H a ns hlen hO hS) fun H e s' => hCX w H s₁ e s'
end L2
namespace L2
open PySem PySem.Spec PyProof.Rows
def defArgs (s : Stmt) : Arguments := match s with
  | .FunctionDef _ a _ _ _ _ _ _ _ _ => a
  | _ => { posonlyargs := [], args := [], vararg := none, kwonlyargs := [], kw_defaults := [], kwarg := none, defaults := [] }
def defBody (s : Stmt) : List Stmt := match s with
  | .FunctionDef _ _ b _ _ _ _ _ _ _ => b
  | _ => []
def defScope (s : Stmt) : Scope := match s with
  | .FunctionDef _ _ _ _ _ _ sc _ _ _ => sc
  | _ => { kind := .function, names := [], isGenerator := false, isCoroutine := false }
abbrev CX0 : CXT := fun _ _ _ _ _ _ => False
abbrev E0 : XK := fun _ _ _ => False
theorem pass0 {X : Cx} : Passes CX0 X E0 := fun _ _ _ _ _ _ _ h => h.elim
structure Fun (K : PySem.W.Frag) (x qual : Str) (st : Stmt) (f : Addr) (fd : FuncData) : Prop where
  ex : ∃ (oc : Value) (od : Option Addr) (kV doc pm : Value) (an : Option Addr) (cdv ct : Value) (osl : Array (Option Value)),
    fd = PySem.W.fnOf x qual (defArgs st) (defBody st) (defScope st) .none kV doc pm an cdv ct /\ K.lookup f = some ⟨oc, od, .func fd, osl⟩ /\ PySem.W.codeIn K cdv qual = true
  kp : PySem.W.keepIn K (.ref f) = true
section
variable {P : Program} {w : World} {K : PySem.W.Frag} {mg : Str -> Option Value} {base : Heap}
theorem Fun.ok {x qual : Str} {st : Stmt} {f : Addr} {fd : FuncData} {N ps : List Str} {k : Nat} {sp : Sp} (F : Fun K x qual st f fd) (S : FnScope N ps (defScope st)) (len : ∀ vs H Q E, sp vs H Q E -> vs.length = ps.length)
    (hbody : ∀ (cdv : Value) (A : Around) (outer : List Env) (s : Shared) (H : Hp) (vs : List V) (Q : VK) (E : XK), Room k (A.deeper (envOfC qual (defScope st) s.heap.objs.size f cdv)) -> sp vs H Q E ->
      ∃ t, PSs (cxOf CX0 P w K mg base N qual (defScope st) f cdv A outer s H E).nox (defBody st) t /\ t { nx := fun _ H' => Q .non H', rt := Q } (start N vs) H) : FnOk P w K mg base CX0 (k + 1) f fd ps sp := by
  obtain ⟨oc, od, kV, doc, pm, an, cdv, ct, osl, rfl, lk, hcd⟩ := F.ex
  refine fn_of lk hcd S len fun A outer s H vs Q E hr hsp => ?_
  obtain ⟨t, h, q⟩ := hbody cdv A outer s H vs Q E hr hsp
  exact ⟨t, h.nox, q⟩
theorem Fun.binds {x qual : Str} {st : Stmt} {f : Addr} {fd : FuncData} {ps : List Str} (F : Fun K x qual st f fd)
    (h : ∀ (kV doc pm : Value) (an : Option Addr) (cdv ct : Value) (us : List Value), us.length = ps.length -> bindArgs (PySem.W.fnOf x qual (defArgs st) (defBody st) (defScope st) .none kV doc pm an cdv ct) ⟨us, []⟩ = pure (ps.zip us)) : Binds K fd ps [] := by
  obtain ⟨oc, od, kV, doc, pm, an, cdv, ct, osl, rfl, lk, hcd⟩ := F.ex
  exact .all (h kV doc pm an cdv ct)
theorem fun_mk {x qual : Str} {st : Stmt} {f : Addr} {oc : Value} {od an : Option Addr} {osl : Array (Option Value)} {kV doc pm cdv ct : Value} (l : K.lookup f = some ⟨oc, od, .func (PySem.W.fnOf x qual (defArgs st) (defBody st) (defScope st) .none kV doc pm an cdv ct), osl⟩)
    (c : PySem.W.codeIn K cdv qual = true) (k : PySem.W.keepIn K (.ref f) = true) : Fun K x qual st f (PySem.W.fnOf x qual (defArgs st) (defBody st) (defScope st) .none kV doc pm an cdv ct) := ⟨⟨oc, od, kV, doc, pm, an, cdv, ct, osl, rfl, l, c⟩, k⟩
end
theorem hu_of {A : Around} {k : Nat} (hr : Room k A) : A.units + 1 < cLine := Nat.lt_of_le_of_lt (Nat.add_le_add_left (by decide : 1 <= 64) _) hr.units
section
variable {X : Cx}
theorem pv (i : Nat) {x : Str} {pos : Pos} (hN : X.N[i]? = some x := by rfl) (hv : Vis X.env.scope x := by first | exact Or.inl rfl | exact Or.inr (Or.inl rfl) | exact Or.inr (Or.inr rfl)) (hd : (x == ("__debug__" : Str)) = false := by decide)
    (hcd : (x == ("__classdict__" : Str)) = false := by decide) : PE X (.Name x pos) (tVar i) := pe_var hN hv hd hcd
end
theorem ite2 {c A B : Prop} [Decidable c] (h1 : c -> A) (h2 : ¬ c -> B) : if c then A else B := by
  by_cases h : c
  . rw [if_pos h]
    exact h1 h
  . rw [if_neg h]
    exact h2 h
def Same (H H' : Hp) : Prop := ∀ b o, H b = some o -> H' b = some o
theorem Same.refl (H : Hp) : Same H H := fun _ _ h => h
theorem Same.trans {H H1 H2 : Hp} (a : Same H H1) (b : Same H1 H2) : Same H H2 := fun c o h => b c o (a c o h)
theorem Same.free {H H' : Hp} (e : Same H H') {l : Addr} (h : H' l = Option.none) : H l = Option.none := by
  cases q : H l with
  | none => rfl
  | some o =>
    rw [e l o q] at h
    cases h
theorem Same.seq {K : PySem.W.Frag} {H H' : Hp} {a : Addr} {xs : List V} (e : Same H H') (h : SqL K H a xs) : SqL K H' a xs := by
  rcases h with (h | ⟨o, h⟩) | h
  . exact .inl (.inl (e _ _ h))
  . exact .inl (.inr ⟨o, e _ _ h⟩)
  . exact .inr h
end L2
set_option Elab.async false
set_option linter.all false
set_option maxRecDepth 100000
set_option maxHeartbeats 4000000
namespace L2
open PySem PySem.Spec PyProof.Rows
section
variable {κ : Type} [DecidableEq κ]
def valV (kvs : List (κ × V)) (k : κ) : Option V := (kvs.find? fun kv => decide (kv.1 = k)).map (·.2)
def putK (kvs : List (κ × V)) (k : κ) (v : V) : List (κ × V) :=
  if (kvs.any fun kv => decide (kv.1 = k)) = true then kvs.map (fun kv => if kv.1 = k then (kv.1, v) else kv) else kvs ++ [(k, v)]
theorem valV_pos {p : κ × V} {r : List (κ × V)} {k : κ} (e : p.1 = k) : valV (p :: r) k = some p.2 := by simp [valV, List.find?_cons, e]
theorem valV_neg {p : κ × V} {r : List (κ × V)} {k : κ} (e : ¬ p.1 = k) : valV (p :: r) k = valV r k := by simp [valV, List.find?_cons, e]
theorem valV_any (k : κ) : ∀ kvs : List (κ × V), (kvs.any fun kv => decide (kv.1 = k)) = (valV kvs k).isSome
  | [] => rfl
  | p :: r => by
    rw [List.any_cons]
    by_cases e : p.1 = k
    . simp only [valV_pos e, decide_eq_true e, Bool.true_or, Option.isSome_some]
    . rw [valV_neg e, decide_eq_false e, Bool.false_or]; exact valV_any k r
theorem length_putK (kvs : List (κ × V)) (k : κ) (v : V) : (putK kvs k v).length <= kvs.length + 1 := by
  unfold putK
  split
  . rw [List.length_map]; omega
  . rw [List.length_append, List.length_cons, List.length_nil]; omega
theorem putK_new {kvs : List (κ × V)} {k : κ} (v : V) (h : valV kvs k = none) : putK kvs k v = kvs ++ [(k, v)] := by
  unfold putK
  rw [valV_any, h]
  exact if_neg (by decide)
theorem RelO.isSome_eq {o : Option V} {u : Option Value} (r : RelO o u) : o.isSome = u.isSome := by
  cases o with
  | none => cases u with
    | none => rfl
    | some _ => exact (show False from r).elim
  | some _ => cases u with
    | none => exact (show False from r).elim
    | some _ => rfl
theorem KV.val {kvs : List (κ × V)} {vs : List (κ × Value)} (r : KV kvs vs) (k : κ) : RelO (valV kvs k) (valueAt vs k) := by
  unfold KV at r
  induction r with
  | nil => exact True.intro
  | @cons p q ps qs h t ih =>
    obtain ⟨h1, h2⟩ := h
    by_cases e : p.1 = k
    . have e' : q.1 = k := h1.symm.trans e
      have b : valueAt (q :: qs) k = some q.2 := by simp [valueAt, List.find?_cons, e']
      rw [valV_pos e, b]; exact h2
    . have e' : ¬ q.1 = k := fun z => e (h1.trans z)
      have b : valueAt (q :: qs) k = valueAt qs k := by simp [valueAt, List.find?_cons, e']
      rw [valV_neg e, b]; exact ih
theorem KV.any {kvs : List (κ × V)} {vs : List (κ × Value)} (r : KV kvs vs) (k : κ) : (kvs.any fun kv => decide (kv.1 = k)) = vs.any fun kv => decide (kv.1 = k) := by
  unfold KV at r
  induction r with
  | nil => rfl
  | cons h t ih => rw [List.any_cons, List.any_cons, ih, h.1]
theorem KV.repl {kvs : List (κ × V)} {vs : List (κ × Value)} (r : KV kvs vs) (k : κ) {y : V} {u : Value} (ry : RelV y u) :
    KV (kvs.map fun kv => if kv.1 = k then (kv.1, y) else kv) (vs.map fun kv => if kv.1 = k then (kv.1, u) else kv) := by
  unfold KV at r ⊢
  induction r with
  | nil => exact .nil
  | @cons p q ps qs h t ih =>
    rw [List.map_cons, List.map_cons]
    refine .cons ?_ ih
    obtain ⟨h1, h2⟩ := h
    by_cases e : p.1 = k
    . rw [if_pos e, if_pos (h1.symm.trans e)]; exact ⟨h1, ry⟩
    . rw [if_neg e, if_neg (fun z => e (h1.trans z))]; exact ⟨h1, h2⟩
theorem KV.put {kvs : List (κ × V)} {vs : List (κ × Value)} (r : KV kvs vs) (k : κ) {y : V} {u : Value} (ry : RelV y u) : KV (putK kvs k y) (stored vs k u) := by
  unfold putK stored
  rw [r.any k]
  by_cases e : (vs.any fun kv => decide (kv.1 = k)) = true
  . rw [if_pos e, if_pos e]; exact r.repl k ry
  . rw [if_neg e, if_neg e]; exact Paired.snoc r ⟨rfl, ry⟩
theorem KV.length {kvs : List (κ × V)} {vs : List (κ × Value)} (r : KV kvs vs) : kvs.length = vs.length := Paired.length r
end
theorem kV_is {P : Program} {w : World} {k : Key} {u : Value} (r : RelV (kV k) u) : (mixKind P w).is k u = true := by
  cases k with
  | inl i => obtain ⟨t, e⟩ := (show ∃ t, u = Value.int i t from r); subst e; exact mixKind_int P w i t
  | inr x => obtain ⟨t, e⟩ := (show ∃ t, u = Value.str x t from r); subst e; exact mixKind_str P w x t
theorem items_are {P : Program} {w : World} : ∀ {ks : List Key} {us : List Value}, Vals (ks.map kV) us -> ItemsAre (mixKind P w) ks us
  | [], _, r => by rw [List.map_nil] at r; cases r; exact .nil
  | k :: ks, _, r => by
    rw [List.map_cons] at r
    cases r with
    | cons h t => exact .cons (kV_is h) (items_are t)
abbrev KT (H : Hp) : List (List Key × V) -> List (List Key × Addr × Value) -> Prop := Paired fun p q => p.1 = q.1 /\ H q.2.1 = some (.tup (p.1.map kV)) /\ RelV p.2 q.2.2
theorem KT.val {H : Hp} {kvs : List (List Key × V)} {xs : List (List Key × Addr × Value)} (r : KT H kvs xs) (k : List Key) : RelO (valV kvs k) ((atKey xs k).map (·.2)) := by
  induction r with
  | nil => exact True.intro
  | @cons p q ps qs h t ih =>
    obtain ⟨h1, _, h2⟩ := h
    by_cases e : p.1 = k
    . have e' : q.1 = k := h1.symm.trans e
      have b : atKey (q :: qs) k = some q.2 := by simp [atKey, List.find?_cons, e']
      rw [valV_pos e, b]; exact h2
    . have e' : ¬ q.1 = k := fun z => e (h1.trans z)
      have b : atKey (q :: qs) k = atKey qs k := by simp [atKey, List.find?_cons, e']
      rw [valV_neg e, b]; exact ih
theorem KT.repl {H : Hp} {kvs : List (List Key × V)} {xs : List (List Key × Addr × Value)} (r : KT H kvs xs) (k : List Key) {y : V} {u : Value} (ry : RelV y u) :
    KT H (kvs.map fun kv => if kv.1 = k then (kv.1, y) else kv) (xs.map (putAt k u)) := by
  induction r with
  | nil => exact .nil
  | @cons p q ps qs h t ih =>
    rw [List.map_cons, List.map_cons]
    refine .cons ?_ ih
    obtain ⟨h1, h2, h3⟩ := h
    unfold putAt
    by_cases e : p.1 = k
    . rw [if_pos e, if_pos (h1.symm.trans e)]; exact ⟨h1, h2, ry⟩
    . rw [if_neg e, if_neg (fun z => e (h1.trans z))]; exact ⟨h1, h2, h3⟩
theorem KT.put {H : Hp} {kvs : List (List Key × V)} {xs : List (List Key × Addr × Value)} (r : KT H kvs xs) (k : List Key) {b : Addr} {y : V} {u : Value} (hb : H b = some (.tup (k.map kV))) (ry : RelV y u) :
    KT H (putK kvs k y) (storedH xs k b u) := by
  have e : (kvs.any fun kv => decide (kv.1 = k)) = (atKey xs k).isSome := by
    rw [valV_any, (r.val k).isSome_eq, Option.isSome_map]
  unfold putK storedH
  rw [e]
  by_cases q : (atKey xs k).isSome = true
  . rw [if_pos q, if_pos q]; exact r.repl k ry
  . rw [if_neg q, if_neg q]; exact Paired.snoc r ⟨rfl, hb, ry⟩
theorem KT.keeps {H H' : Hp} {kvs : List (List Key × V)} {xs : List (List Key × Addr × Value)} (r : KT H kvs xs) (ht : ∀ b ys, H b = some (.tup ys) -> H' b = some (.tup ys)) : KT H' kvs xs :=
  Paired.mapP r fun _ _ z => ⟨z.1, ht _ _ z.2.1, z.2.2⟩
section
variable {P : Program} {w : World} {H : Hp} {h : Heap} {a : Addr}
theorem rd_of {u : HO} (ok : HOk P w H h) (e : Rd H a u) : ObjOk P w H h a u := e.ok ok
theorem dk_rd {kvs : List (Key × V)} (ok : HOk P w H h) (e : Rd H a (.dK kvs)) : kvs.length <= sizeLine /\ (a == sysModules) = false /\ ∃ vs, KV kvs vs /\ h.DictOf (mixKind P w) a vs :=
  show ObjOk P w H h a (.dK kvs) from rd_of ok e
theorem dk_of {kvs : List (Key × V)} (ok : HOk P w H h) (e : H a = some (.dK kvs)) : kvs.length <= sizeLine /\ (a == sysModules) = false /\ ∃ vs, KV kvs vs /\ h.DictOf (mixKind P w) a vs := dk_rd ok (.inl e)
theorem key_of {ks : List Key} (ok : HOk P w H h) (e : H a = some (.tup (ks.map kV))) : (tupleKind (mixKind P w)).is h ks a := by
  obtain ⟨_, its, r, o, h1, h2, n, h3⟩ := (show ObjOk P w H h a (.tup (ks.map kV)) from ok a _ e)
  exact ⟨o, its.toArray, n, h1, h2, h3, by simpa using items_are r⟩
theorem dt_rd {kvs : List (List Key × V)} (ok : HOk P w H h) (e : Rd H a (.dT kvs)) : kvs.length <= sizeLine /\ (a == sysModules) = false /\
    ∃ xs, KT H kvs xs /\ h.DictOfH (tupleKind (mixKind P w)) a xs := by
  obtain ⟨z, y, xs, r, o, es, ep, h1, h2, h3, h4, h5⟩ := (show ObjOk P w H h a (.dT kvs) from rd_of ok e)
  refine ⟨z, y, xs, r, o, es, ep, h1, h2, h3, h4, fun x hx => ?_, h5⟩
  have all : ∀ {l : List (List Key × V)} {m : List (List Key × Addr × Value)}, KT H l m -> ∀ x ∈ m, (tupleKind (mixKind P w)).is h x.1 x.2.1 := by
    intro l m q
    induction q with
    | nil => intro x hx; exact nomatch hx
    | @cons p q ps qs hq t ih =>
      intro x hx
      rcases List.mem_cons.mp hx with e | hx
      . subst e
        exact key_of ok (by rw [<- hq.1]; exact hq.2.1)
      . exact ih x hx
  exact all r x hx
theorem dt_of {kvs : List (List Key × V)} (ok : HOk P w H h) (e : H a = some (.dT kvs)) : kvs.length <= sizeLine /\ (a == sysModules) = false /\
    ∃ xs, KT H kvs xs /\ h.DictOfH (tupleKind (mixKind P w)) a xs := dt_rd ok (.inl e)
end
def DGet (H : Hp) (a : Addr) (y : V) (r : Option V) : Prop :=
  (∃ kvs k, Rd H a (.dK kvs) /\ y = kV k /\ r = valV kvs k) \/ ∃ kvs k b, Rd H a (.dT kvs) /\ y = .ref b /\ H b = some (.tup (k.map kV)) /\ r = valV kvs k
def DPut (H : Hp) (a : Addr) (y v : V) (H' : Hp) : Prop :=
  (∃ kvs k, H a = some (.dK kvs) /\ y = kV k /\ kvs.length < sizeLine /\ H' = upd H a (.dK (putK kvs k v))) \/
  ∃ kvs k b, H a = some (.dT kvs) /\ y = .ref b /\ H b = some (.tup (k.map kV)) /\ kvs.length < sizeLine /\ H' = upd H a (.dT (putK kvs k v))
theorem DGet.t {H : Hp} {a b : Addr} {kvs : List (List Key × V)} {k : List Key} (e : H a = some (.dT kvs)) (eb : H b = some (.tup (k.map kV))) : DGet H a (.ref b) (valV kvs k) := .inr ⟨kvs, k, b, .inl e, rfl, eb, rfl⟩
theorem DPut.t {H : Hp} {a b : Addr} {kvs : List (List Key × V)} {k : List Key} {v : V} (e : H a = some (.dT kvs)) (eb : H b = some (.tup (k.map kV))) (hl : kvs.length < sizeLine) :
    DPut H a (.ref b) v (upd H a (.dT (putK kvs k v))) := .inr ⟨kvs, k, b, e, rfl, eb, hl, rfl⟩
section
variable {X : Cx} {pins : List (Addr × Obj)} {σ : St} {H : Hp} {s : Shared} {a : Addr} {y v : V} {u r : Value} {o : Option V} {A : Around} {E : Value -> Shared -> Prop}
theorem Inv.big (I : Inv X pins σ H s) : sysModules < s.heap.objs.size := by
  have h : mainGlobals < s.heap.objs.size := (I.mod.glob.keeps I.bk).lt
  exact Nat.lt_trans (by decide) h
theorem d_getItem {Q : Value -> Shared -> Prop} (hu : A.units + 1 < cLine) (I : Inv X pins σ H s) (g : DGet H a y (some v)) (ry : RelV y u) (h : ∀ w' s', Inv X pins σ H s' -> RelV v w' -> Q w' s') :
    wpAny (model X.prog X.w) A (getItem (.ref a) u) Q E s := by
  rcases g with ⟨kvs, k, e, ey, l⟩ | ⟨kvs, k, b, e, ey, eb, l⟩
  . subst ey
    obtain ⟨z, hd, vs, rel, dd⟩ := dk_rd I.hok e
    obtain ⟨w', hw, rw'⟩ := RelO.some_of (v := v) (o := valueAt vs k) (by rw [l]; exact rel.val k)
    exact wpAny_getItem_of (kV_is ry) dd.mapOf hw (h w' _ (I.tok _) rw')
  . subst ey
    cases (show u = Value.ref b from ry)
    obtain ⟨z, hd, xs, rel, dd⟩ := dt_rd I.hok e
    obtain ⟨w', hw, rw'⟩ := RelO.some_of (v := v) (o := (atKey xs k).map (·.2)) (by rw [l]; exact rel.val k)
    obtain ⟨p, hp, hp2⟩ := Option.map_eq_some_iff.mp hw
    refine wpAny_getItem_heap (tupleKind_room_in1 hu) (key_of I.hok eb) dd hp ?_
    rw [hp2]
    exact h w' _ (I.tok _) rw'
theorem d_notIn {Q : Value -> Shared -> Prop} (hu : A.units + 1 < cLine) (I : Inv X pins σ H s) (g : DGet H a y o) (ry : RelV y u) (h : ∀ s', Inv X pins σ H s' -> Q (.bool (!o.isSome)) s') :
    wpAny (model X.prog X.w) A (compareOp .NotIn u (.ref a)) Q E s := by
  rcases g with ⟨kvs, k, e, ey, l⟩ | ⟨kvs, k, b, e, ey, eb, l⟩
  . subst ey
    obtain ⟨z, hd, vs, rel, dd⟩ := dk_rd I.hok e
    refine wpAny_notIn_of (kV_is ry) hd dd.mapOf ?_
    rw [<- (rel.val k).isSome_eq, <- l]
    exact h _ (I.tok _)
  . subst ey
    cases (show u = Value.ref b from ry)
    obtain ⟨z, hd, xs, rel, dd⟩ := dt_rd I.hok e
    refine wpAny_notIn_heap (tupleKind_room_in1 hu) (key_of I.hok eb) hd dd ?_
    have q := (rel.val k).isSome_eq
    rw [Option.isSome_map] at q
    rw [<- q, <- l]
    exact h _ (I.tok _)
theorem d_write {h' : Heap} {t' : Nat} {ob : HO} (I : Inv X pins σ H s) (mu : Mut (H a)) (hs : Heap.SameBut a s.heap h') (he : ∃ q, h'.get? a = some q) (new : ObjOk X.prog X.w (upd H a ob) h' a ob) :
    Inv X pins σ (upd H a ob) { s with heap := h', toks := t' } :=
  I.write (x := a) (e := a) mu (.inl rfl) (fun b q hb z => (hs.2 b hb).trans z) he new
theorem dk_new {P : Program} {w : World} {H' : Hp} {h' : Heap} {kvs : List (Key × V)} {vs : List (Key × Value)} (z : kvs.length <= sizeLine) (hd : (a == sysModules) = false) (rel : KV kvs vs) (dd : h'.DictOf (mixKind P w) a vs) :
    ObjOk P w H' h' a (.dK kvs) := ⟨z, hd, vs, rel, dd⟩
theorem d_setItem {H' : Hp} {Q : Unit -> Shared -> Prop} (hu : A.units + 1 < cLine) (I : Inv X pins σ H s) (g : DPut H a y v H') (ry : RelV y u) (rv : RelV v r) (h : ∀ s', Inv X pins σ H' s' -> Q () s') :
    wpAny (model X.prog X.w) A (setItem (.ref a) u r) Q E s := by
  rcases g with ⟨kvs, k, e, ey, l, eH⟩ | ⟨kvs, k, b, e, ey, eb, l, eH⟩
  . subst ey eH
    obtain ⟨z, hd, vs, rel, dd⟩ := dk_of I.hok e
    have hz : vs.length <= sizeLine := by rw [<- rel.length]; exact z
    have hl : (putK kvs k v).length <= sizeLine := by have := length_putK kvs k v; omega
    refine wpAny_setItem_pairs (hsz := hz) (kV_is ry) dd fun h' dd' hs => h _ ?_
    have he : ∃ q, h'.get? a = some q := let ⟨q, _, _, hq, _⟩ := dd'; ⟨q, hq⟩
    exact d_write I (by rw [e]; exact True.intro) hs he (dk_new hl hd (rel.put k rv) dd')
  . subst ey eH
    cases (show u = Value.ref b from ry)
    obtain ⟨z, hd, xs, rel, dd⟩ := dt_of I.hok e
    have hz : xs.length <= sizeLine := by rw [<- Paired.length rel]; exact z
    have hl : (putK kvs k v).length <= sizeLine := by have := length_putK kvs k v; omega
    refine wpAny_setItem_heap (hsz := hz) (tupleKind_room_in1 hu) (key_of I.hok eb) dd fun h' dd' hs => h _ ?_
    obtain ⟨q, es, ep, hq, h2, h3, h4, _, h5⟩ := dd'
    refine d_write I (by rw [e]; exact True.intro) hs ⟨q, hq⟩ ⟨hl, hd, _, (rel.put k eb rv).keeps fun c ys ec => ?_, q, es, ep, hq, h2, h3, h4, h5⟩
    rw [upd_ne (ne_of ec e (fun z => nomatch z))]
    exact ec
end
section
variable {X : Cx} {pins : List (Addr × Obj)} {σ : St} {H : Hp} {s : Shared} {a : Addr} {kvs : List (Key × V)} {k : Key} {u : Value} {A : Around} {E : Value -> Shared -> Prop}
end
def NoSl (i : Expr) : Prop := ∀ ov iv, subscripted i false ov iv = operate [ov, iv] (getItem ov iv)
theorem subD_of {prog : Program} {w : World} {A : Around} {E : Value -> Shared -> Prop} {s : Shared} {env : Env} {value slice : Expr} {pos : Pos} {T id : String} {Q : Value -> Shared -> Prop}
    (hl : typeLookup (.type T) "__getitem__" = pure (some (.builtin id))) (hs : NoSl slice)
    (h : wpAny (model prog w) A (eval value env) (fun o s₁ => wpAny (model prog w) A (eval slice env) (fun i s₂ => s₂.TypeIs o T /\ wpAny (model prog w) A (getItem o i) Q E s₂) E s₁) E s) :
    wpAny (model prog w) A (eval (.Subscript value slice pos) env) Q E s := by
  refine Subscript_ (wpAny_mono h (fun o s₁ h₁ => wpAny_mono h₁ (fun i s₂ h₂ => ?_) fun _ _ x => x) fun _ _ x => x)
  obtain ⟨hT, h₂⟩ := h₂
  unfold subscriptTail
  refine wpAny_bind ?_
  rw [getitemInPython_of_ne hT.not_modules]
  refine wpAny_bind (wpAny_specialOf hT hl ?_)
  have fin : wpAny (model prog w) A (subscripted slice false o i) (fun r s₃ => wpAny (model prog w) A (letTemporaryGo value o r >>= fun _ => pure r) Q E s₃) E s₂ := by
    rw [hs o i]
    exact wpAny_operating (wpAny_mono h₂ (fun r s₃ h₃ => wpAny_bind (wpAny_letTemporaryGo (wpAny_pure h₃))) fun _ _ x => x)
  first
    | exact wpAny_pure (wpAny_bind fin)
    | exact wpAny_bind (wpAny_pure (wpAny_bind fin))
    | exact wpAny_bind fin
theorem dict_typeIs {X : Cx} {pins : List (Addr × Obj)} {σ : St} {H : Hp} {s : Shared} {a : Addr} {y : V} {o : Option V} (I : Inv X pins σ H s) (g : DGet H a y o) : s.TypeIs (.ref a) "dict" := by
  rcases g with ⟨kvs, k, e, _, _⟩ | ⟨kvs, k, b, e, _, _, _⟩
  . obtain ⟨_, _, vs, _, dd⟩ := dk_rd I.hok e
    exact dd.typeIs
  . obtain ⟨_, _, xs, _, dd⟩ := dt_rd I.hok e
    exact dd.typeIs
def tDGet (td ty : TE) : TE := fun σ H Q => td σ H fun x H1 => ty σ H1 fun y H2 => ∃ a v, x = .ref a /\ DGet H2 a y (some v) /\ Q v H2
def tDNotIn (ty td : TE) : TE := fun σ H Q => ty σ H fun y H1 => td σ H1 fun x H2 => ∃ a o, x = .ref a /\ DGet H2 a y o /\ Q (.bl (!o.isSome)) H2
def sDPut (td ty tv : TE) : TS := fun D σ H => tv σ H fun v H1 => td σ H1 fun x H2 => ty σ H2 fun y H3 => ∃ a H4, x = .ref a /\ DPut H3 a y v H4 /\ D.nx σ H4
section
variable {X : Cx} {o i e value : Expr} {pos pos' tpos : Pos} {td ty tv : TE}
theorem pe_dget (hu : X.A.units + 1 < cLine) (ho : PE X o td) (hi : PE X i ty) (hs : NoSl i) : PE X (.Subscript o i pos) (tDGet td ty) := by
  intro pins s σ H Q I h
  refine subD_of PySem.F.slot_dict_getitem.lookup hs (thn (ho pins s σ H _ I h) fun u s1 ⟨x, H1, I1, rx, q1⟩ => thn (hi pins s1 σ H1 _ I1 q1) fun iv s2 ⟨y, H2, I2, ry, a, v, ex, g, q2⟩ => ?_)
  subst ex
  obtain rfl : u = Value.ref a := rx
  exact ⟨dict_typeIs I2 g, d_getItem hu I2 g ry fun w' s3 I3 rw' => ⟨v, H2, I3, rw', q2⟩⟩
theorem pc_dnotin (hu : X.A.units + 1 < cLine) (hi : PE X i ty) (ho : PE X o td) : PC X .NotIn i o (tDNotIn ty td) := by
  intro pins s σ H Q I h
  refine thn (hi pins s σ H _ I h) fun iv s1 ⟨y, H1, I1, ry, q1⟩ => thn (ho pins s1 σ H1 _ I1 q1) fun u s2 ⟨x, H2, I2, rx, a, ov, ex, g, q2⟩ => ?_
  subst ex
  obtain rfl : u = Value.ref a := rx
  exact d_notIn hu I2 g ry fun s3 I3 => ⟨.bl (!ov.isSome), H2, I3, rfl, q2⟩
theorem ps_dput (hu : X.A.units + 1 < cLine) (ho : PE X o td) (hi : PE X i ty) (hv : PE X value tv) (hs : swapsWith value (some (.Subscript o i pos')) pos.line X.env = pure false) :
    PS X (.Assign [.Subscript o i pos'] value pos) (sDPut td ty tv) := by
  intro pins s σ H D I h
  refine wpAny_Assign_Subscript (thn (hv pins s σ H _ I h) fun r s1 ⟨v, H1, I1, rv, q1⟩ => thn (ho pins s1 σ H1 _ I1 q1) fun u s2 ⟨x, H2, I2, rx, q2⟩ => thn (hi pins s2 σ H2 _ I2 q2) fun iv s3 ⟨y, H3, I3, ry, a, H4, ex, g, q3⟩ => ?_) hs
  subst ex
  obtain rfl : u = Value.ref a := rx
  exact d_setItem hu I3 g ry rv fun s4 I4 => ⟨σ, H4, I4, q3⟩
end
theorem dt_empty {P : Program} {w : World} {H : Hp} (h : Heap) (hb : sysModules < h.objs.size) : ObjOk P w H (h.push { cls := .type "dict", data := .dict #[] }) h.objs.size (.dT []) :=
  ⟨Nat.zero_le _, beq_eq_false_iff_ne.mpr (Ne.symm (Nat.ne_of_lt hb)), [], .nil, _, #[], 0, Heap.get?_push_size _ rfl, ⟨rfl, rfl, rfl⟩, rfl, rfl, List.nodup_nil⟩
section
variable {X : Cx} {pos : Pos}
end
section
variable {X : Cx} {pins : List (Addr × Obj)} {σ : St} {H : Hp} {s : Shared} {a : Addr} {y d : V} {u r : Value} {o : Option V} {A : Around} {E : Value -> Shared -> Prop}
end
section
variable {X : Cx} {o e f : Expr} {apos cpos : Pos} {td ty tx : TE}
end
section
variable {X : Cx} {pins : List (Addr × Obj)} {σ : St} {H : Hp} {s : Shared} {a : Addr} {kvs : List (Key × V)} {A : Around} {E : Value -> Shared -> Prop}
end
section
variable {X : Cx} {pins : List (Addr × Obj)} {σ : St} {H : Hp} {s : Shared} {a : Addr} {y : V} {u : Value} {A : Around} {E : Value -> Shared -> Prop}
end
end L2
set_option Elab.async false
set_option linter.all false
set_option maxRecDepth 100000
set_option maxHeartbeats 4000000
namespace L2
open PySem PySem.Spec PyProof.Rows
def clOf (env : Env) : List (Str × NameKind) -> List (Str × Addr) -> List (Str × Addr)
  | [], acc => acc
  | (n, k) :: r, acc => if (k == .free) = true then clOf env r ((n, (env.cells.lookup n).getD 0) :: acc) else clOf env r acc
theorem closure_eq {env : Env} {scope : Scope} (h : ∀ p ∈ scope.names, p.2 = .free -> ∃ c, env.cells.lookup p.1 = some c) : closureFor scope env = pure (clOf env scope.names []) := by
  have go : ∀ (l : List (Str × NameKind)) (acc : List (Str × Addr)), (∀ p ∈ l, p.2 = .free -> ∃ c, env.cells.lookup p.1 = some c) ->
      (forIn l acc fun (x : Str × NameKind) (cs : List (Str × Addr)) => (if (x.2 == .free) = true then do let c <- cellOf env x.1; pure (ForInStep.yield ((x.1, c) :: cs)) else pure (ForInStep.yield cs) : Sem (ForInStep (List (Str × Addr))))) = (pure (clOf env l acc) : Sem (List (Str × Addr))) := by
    intro l
    induction l with
    | nil => intro acc _; rfl
    | cons p r ih =>
      intro acc hl
      obtain ⟨n, k⟩ := p
      rw [List.forIn_cons]
      by_cases hk : (k == .free) = true
      . obtain ⟨c, hc⟩ := hl (n, k) List.mem_cons_self (by simpa using hk)
        have e1 : cellOf env n = pure c := by unfold cellOf; rw [hc]
        have ih' := ih ((n, c) :: acc) fun q hq => hl q (List.mem_cons_of_mem _ hq)
        show ((if (k == .free) = true then do let c <- cellOf env n; pure (ForInStep.yield ((n, c) :: acc)) else pure (ForInStep.yield acc) : Sem _) >>= _) = _
        rw [if_pos hk, e1]
        show (forIn r ((n, c) :: acc) _ : Sem _) = _
        rw [clOf, if_pos hk, hc]
        exact ih'
      . have ih' := ih acc fun q hq => hl q (List.mem_cons_of_mem _ hq)
        show ((if (k == .free) = true then do let c <- cellOf env n; pure (ForInStep.yield ((n, c) :: acc)) else pure (ForInStep.yield acc) : Sem _) >>= _) = _
        rw [if_neg hk]
        show (forIn r acc _ : Sem _) = _
        rw [clOf, if_neg hk]
        exact ih'
  have e := go scope.names [] h
  unfold closureFor
  show (forIn scope.names [] _ >>= fun cs => pure cs : Sem _) = _
  have e2 : (forIn scope.names [] (fun (x : Str × NameKind) (r : List (Str × Addr)) => (match x with
      | (name, kind) => if (kind == .free) = true then do let c <- cellOf env name; pure (ForInStep.yield ((name, c) :: r)) else do pure PUnit.unit; pure (ForInStep.yield r) : Sem (ForInStep (List (Str × Addr)))))) = (pure (clOf env scope.names []) : Sem (List (Str × Addr))) := e
  exact congrArg (fun z => z >>= fun cs => pure cs) e2
theorem clOf_mem {env : Env} : ∀ (l : List (Str × NameKind)) (acc : List (Str × Addr)), (∀ p ∈ l, p.2 = .free -> ∃ c, env.cells.lookup p.1 = some c) -> (∀ q ∈ acc, env.cells.lookup q.1 = some q.2) -> ∀ q ∈ clOf env l acc, env.cells.lookup q.1 = some q.2
  | [], _, _, ha, q, hq => ha q hq
  | (n, k) :: r, acc, hl, ha, q, hq => by
    unfold clOf at hq
    by_cases hk : (k == .free) = true
    . rw [if_pos hk] at hq
      obtain ⟨c, hc⟩ := hl (n, k) List.mem_cons_self (by simpa using hk)
      refine clOf_mem r _ (fun p hp => hl p (List.mem_cons_of_mem _ hp)) (fun p hp => ?_) q hq
      rcases List.mem_cons.mp hp with rfl | hp
      . show env.cells.lookup n = some ((env.cells.lookup n).getD 0)
        rw [hc]; rfl
      . exact ha p hp
    . rw [if_neg hk] at hq
      exact clOf_mem r _ (fun p hp => hl p (List.mem_cons_of_mem _ hp)) ha q hq
theorem clOf_has {env : Env} : ∀ (l : List (Str × NameKind)) (acc : List (Str × Addr)) (x : Str), ((x, NameKind.free) ∈ l \/ ∃ c, (x, c) ∈ acc) -> ∃ c, (x, c) ∈ clOf env l acc
  | [], _, _, h => by
    rcases h with h | h
    . cases h
    . exact h
  | (n, k) :: r, acc, x, h => by
    unfold clOf
    by_cases hk : (k == .free) = true
    . rw [if_pos hk]
      refine clOf_has r _ x ?_
      rcases h with h | ⟨c, h⟩
      . rcases List.mem_cons.mp h with h | h
        . cases h
          exact .inr ⟨_, List.mem_cons_self⟩
        . exact .inl h
      . exact .inr ⟨c, List.mem_cons_of_mem _ h⟩
    . rw [if_neg hk]
      refine clOf_has r _ x ?_
      rcases h with h | h
      . rcases List.mem_cons.mp h with h | h
        . cases h
          exact absurd rfl hk
        . exact .inl h
      . exact .inr h
theorem lookup_some_of_mem {β : Type} : ∀ {l : List (Str × β)} {x : Str} {c : β}, (x, c) ∈ l -> ∃ c', l.lookup x = some c'
  | [], _, _, h => by cases h
  | (n, d) :: r, x, c, h => by
    by_cases hx : (x == n) = true
    . exact ⟨d, by rw [List.lookup_cons, hx]⟩
    . rcases List.mem_cons.mp h with h | h
      . cases h; exact absurd (beq_self_eq_true _) hx
      . obtain ⟨c', e⟩ := lookup_some_of_mem h
        exact ⟨c', by rw [List.lookup_cons]; simp only [Bool.not_eq_true] at hx; rw [hx]; exact e⟩
def relF (env : Env) : Str × NameKind -> Str × NameKind := fun (n, k) => if (k == NameKind.free && env.scope.kind == .function && env.kindOf n == some .cell) then (n, NameKind.cell) else (n, k)
theorem relF_yes {env : Env} {n : Str} {k : NameKind} (h : (k == NameKind.free && env.scope.kind == .function && env.kindOf n == some .cell) = true) : relF env (n, k) = (n, .cell) := if_pos h
theorem relF_no {env : Env} {n : Str} {k : NameKind} (h : ¬ (k == NameKind.free && env.scope.kind == .function && env.kindOf n == some .cell) = true) : relF env (n, k) = (n, k) := if_neg h
theorem relabel_kind {env : Env} : ∀ {names : List (Str × NameKind)} {x : Str} {k : NameKind}, (∀ y ∈ names, y.2 ≠ .cell) ->
    (names.map (relF env)).lookup x = some k -> (k = .cell \/ k = .free) -> (x, NameKind.free) ∈ names
  | [], _, _, _, h, _ => by simp at h
  | (n, k') :: r, x, k, hc, h, hk => by
    have ih := @relabel_kind env r x k (fun y hy => hc y (List.mem_cons_of_mem _ hy))
    rw [List.map_cons] at h
    by_cases hb : (k' == NameKind.free && env.scope.kind == .function && env.kindOf n == some .cell) = true
    . rw [relF_yes hb, List.lookup_cons] at h
      cases hx : x == n with
      | true =>
        have e : x = n := by simpa using hx
        subst e
        have e2 : k' = .free := by
          simp only [Bool.and_eq_true] at hb
          simpa using hb.1.1
        subst e2
        exact List.mem_cons_self
      | false =>
        rw [hx] at h
        exact List.mem_cons_of_mem _ (ih h hk)
    . rw [relF_no hb, List.lookup_cons] at h
      cases hx : x == n with
      | true =>
        rw [hx] at h
        have e : x = n := by simpa using hx
        subst e
        have e2 : k' = k := Option.some.inj h
        subst e2
        rcases hk with rfl | rfl
        . exact absurd rfl (hc _ List.mem_cons_self)
        . exact List.mem_cons_self
      | false =>
        rw [hx] at h
        exact List.mem_cons_of_mem _ (ih h hk)
theorem relabel_free {env : Env} : ∀ {names : List (Str × NameKind)} {x : Str}, names.lookup x = some .free ->
    ∃ k, (k = NameKind.cell \/ k = NameKind.free) /\ (names.map (relF env)).lookup x = some k
  | [], _, h => by simp at h
  | (n, k') :: r, x, h => by
    have ih := @relabel_free env r x
    rw [List.lookup_cons] at h
    rw [List.map_cons]
    cases hx : x == n with
    | true =>
      rw [hx] at h
      have e2 : k' = .free := Option.some.inj h
      subst e2
      by_cases hb : ((NameKind.free : NameKind) == NameKind.free && env.scope.kind == .function && env.kindOf n == some .cell) = true
      . exact ⟨.cell, .inl rfl, by rw [relF_yes hb, List.lookup_cons, hx]⟩
      . exact ⟨.free, .inr rfl, by rw [relF_no hb, List.lookup_cons, hx]⟩
    | false =>
      rw [hx] at h
      obtain ⟨k, hk, e⟩ := ih h
      refine ⟨k, hk, ?_⟩
      by_cases hb : (k' == NameKind.free && env.scope.kind == .function && env.kindOf n == some .cell) = true
      . rw [relF_yes hb, List.lookup_cons, hx]; exact e
      . rw [relF_no hb, List.lookup_cons, hx]; exact e
end L2
set_option Elab.async false
set_option linter.all false
set_option maxRecDepth 100000
set_option maxHeartbeats 4000000
namespace L2
open PySem PySem.Spec PyProof.Rows
section
variable {prog : Program} {w : World} {A : Around} {R : Result -> Shared -> Prop} {s : Shared}
abbrev cpW (prog : Program) (w : World) (A : Around) (R : Result -> Shared -> Prop) (env : Env) {α : Type} (m : Sem α) (Q : α -> Shared -> Prop) : Shared -> Prop := wpAny (model prog w) A m Q (notedBy (model prog w) A env fun e t => R (.error e) t)
theorem compLoop_gen {elt target iter : Expr} {ifs : List Expr} {scope : Scope} {pos : Pos} {it acc : Value} {env : Env} (I : Nat -> Shared -> Prop)
    (turn : ∀ n s, I n s -> cpW prog w A R env (pyNext it) (fun r s => match r with
      | none => R (.ok .next) s
      | some v => cpW prog w A R env (letOwnedTupleGo target it v) (fun _ => cpW prog w A R env (assign target env v) fun _ => cpW prog w A R env (forIn ifs true fun c r => if r = true then do let ok <- isTrue c env (eval c env); pure (ForInStep.yield ok) else pure (ForInStep.yield r)) fun ok s =>
          if ok = true then cpW prog w A R env (eval elt env) (fun x => cpW prog w A R env (call (.builtin "list.append") [acc, x]) fun _ t => ∃ m, m < n /\ I m t) s else ∃ m, m < n /\ I m s) s) s)
    (n : Nat) (h : I n s) : codeAny (model prog w) A (.compLoop (.ListComp elt [⟨target, iter, ifs, 0⟩] scope pos) 0 it acc env) R s := by
  have mono : ∀ {α β : Type} {m : Sem α} {f : α -> Sem β} {Q : α -> Shared -> Prop} {Q' : β -> Shared -> Prop} {s : Shared}, cpW prog w A R env m Q s -> (∀ a t, Q a t -> cpW prog w A R env (f a) Q' t) -> cpW prog w A R env (m >>= f) Q' s := fun h k => wpAny_bind (wpAny_mono h k fun _ _ e => e)
  refine codeAny_loop rfl I (fun n s hI => wpAny_noted ?_) n h
  rw [compTurn_list]
  refine wpAny_bind (wpAny_standAt (mono (turn n s hI) fun r s1 h1 => ?_))
  cases r with
  | none => exact wpAny_pure h1
  | some v =>
    refine mono h1 fun _ _ h2 => mono h2 fun _ _ h3 => mono h3 fun ok s4 h4 => ?_
    cases ok with
    | false => exact wpAny_pure ⟨rfl, h4⟩
    | true => exact wpAny_bind (mono h4 fun _ _ h5 => mono h5 fun _ _ h6 => wpAny_pure (wpAny_pure ⟨rfl, h6⟩))
end
abbrev Cx.blk (X : Cx) (N : List Str) (sc : Scope) (C : Addr) (s₀ : Shared) (H₀ : Hp) (ex : List Addr) : Cx :=
  { X with N := N, env := compEnvC sc (clOf X.env sc.names []) C X.env, outer := X.stack, s₀ := s₀, H₀ := H₀, ex := ex, fn := fun _ => false, pn := [], xe := fun _ _ => False }
structure BlkSc (X : Cx) (sc : Scope) : Prop where
  kind : sc.kind = .function
  nocell : ∀ y ∈ sc.names, y.2 ≠ .cell
  loc : ∀ y ∈ sc.names, y.2 = .local -> sc.names.lookup y.1 = some .local
  free : ∀ y ∈ sc.names, y.2 = .free -> X.env.kindOf y.1 = some .cell \/ X.env.kindOf y.1 = some .free
abbrev Caps := List (Str × Option Nat)
def Caps.names (c : Caps) : List Str := c.map (·.1)
def Caps.st (c : Caps) (σ : St) : St := c.map fun p => p.2.bind fun j => (σ[j]?).join
def CapsOk (N : List Str) (sc : Scope) : Caps -> Prop
  | [] => True
  | (_, none) :: r => CapsOk N sc r
  | (x, some j) :: r => (N[j]? = some x /\ sc.names.lookup x = some .free) /\ CapsOk N sc r
theorem CapsOk.get {N : List Str} {sc : Scope} : ∀ {c : Caps} {i : Nat} {x : Str} {j : Nat}, CapsOk N sc c -> c[i]? = some (x, some j) -> N[j]? = some x /\ sc.names.lookup x = some .free
  | [], _, _, _, _, h => by simp at h
  | (y, none) :: r, 0, x, j, _, h => by simp at h
  | (y, none) :: r, i + 1, x, j, ok, h => CapsOk.get (c := r) (i := i) ok (by simpa using h)
  | (y, some k) :: r, 0, x, j, ok, h => by
    simp only [List.getElem?_cons_zero, Option.some.injEq, Prod.mk.injEq] at h
    obtain ⟨rfl, rfl⟩ := h
    exact ok.1
  | (y, some k) :: r, i + 1, x, j, ok, h => CapsOk.get (c := r) (i := i) ok.2 (by simpa using h)
section
variable {X : Cx} {pins : List (Addr × Obj)} {σ : St} {H : Hp} {s : Shared} {sc : Scope} {fp : List Addr}
theorem blk_cells (I : Inv X pins σ H s) (S : BlkSc X sc) : ∀ p ∈ sc.names, p.2 = .free -> ∃ c, X.env.cells.lookup p.1 = some c := fun p hp e => I.ok.has p.1 (S.free p hp e)
theorem blk_lookup (I : Inv X pins σ H s) (S : BlkSc X sc) {x : Str} {c : Addr} (h : (clOf X.env sc.names []).lookup x = some c) : X.env.cells.lookup x = some c :=
  clOf_mem sc.names [] (blk_cells I S) (fun q hq => by cases hq) (x, c) (PySem.mem_of_lookup h)
theorem blk_ok {N : List Str} {C : Addr} (I : Inv X pins σ H s) (S : BlkSc X sc) (hC : s.heap.objs.size <= C) (hf : ∀ b ∈ fp, FpOk X pins H b) (ho : ∀ b ∈ fp, ∃ o, s.heap.get? b = some o) : (X.blk N sc C s H fp).Ok where
  mod := I.ok.mod
  kind := S.kind
  glob := I.ok.glob
  blt := I.ok.blt
  above := hC
  inj := fun x y c h1 h2 => I.ok.inj x y c (blk_lookup I S h1) (blk_lookup I S h2)
  has := fun x hx => by
    have hx' : (x, NameKind.free) ∈ sc.names := by
      rcases hx with hx | hx
      . exact relabel_kind (env := X.env) S.nocell hx (.inl rfl)
      . exact relabel_kind (env := X.env) S.nocell hx (.inr rfl)
    obtain ⟨c, hc⟩ := clOf_has (env := X.env) sc.names [] x (.inl hx')
    exact lookup_some_of_mem hc
  cab := fun x c h => absurd (show false = true from h) Bool.false_ne_true
  hd := I.ok.hd
  frames := I.ok.frames
  stk := .inl rfl
  exf := fun b hb => by
    obtain ⟨o, ho⟩ := ho b hb
    refine ⟨Nat.ne_of_lt (Nat.lt_of_lt_of_le (Heap.lt_size ho) hC), fun x c h => (hf b hb).2.2.2.2.1 x c (blk_lookup I S h)⟩
  bs := I.bs
  bsz := Nat.le_trans I.ok.bsz I.sz
  noex := fun b o e hb => by
    rcases (hf b hb).2.2.2.1 with z | z
    . exact I.ok.noex b o e z
    . exact absurd (Nat.lt_of_lt_of_le (Heap.lt_size (I.ok.bs b o e).1) z) (Nat.lt_irrefl _)
  exfs := fun b hb z => by
    rcases List.mem_cons.mp (I.stkSub b z) with e | e
    . exact (hf b hb).2.1 e
    . exact (hf b hb).2.2.1 e
  funs := I.stack
  frf := I.stkFree
theorem blk_start {c : Caps} {C : Addr} {s4 : Shared} {m : Str -> Option Value} (I : Inv X pins σ H s) (S : BlkSc X sc) (hc : CapsOk X.N sc c) (hC : s.heap.objs.size <= C) (hf : ∀ b ∈ fp, FpOk X pins H b) (ho : ∀ b ∈ fp, ∃ o, s.heap.get? b = some o)
    (hos : s4.os = s.os) (hb : s4.gens = s.gens) (hk : ∀ b o, s.heap.get? b = some o -> s4.heap.get? b = some o) (hn : s4.heap.Ns C m) : Inv (X.blk c.names sc C s H fp) [] (c.st σ) H s4 where
  ok := blk_ok I S hC hf ho
  os := hos
  bare := by rw [hb]; exact I.bare
  base := Un.kept hk
  loc := by
    refine ⟨m, hn, fun i x v h1 h2 hv => ?_⟩
    have h1' : (c.map (·.1))[i]? = some x := h1
    have h2' : (c.map fun p => p.2.bind fun j => (σ[j]?).join)[i]? = some (some v) := h2
    rw [List.getElem?_map] at h1' h2'
    cases e : c[i]? with
    | none => rw [e] at h1'; cases h1'
    | some p =>
      obtain ⟨y, oj⟩ := p
      rw [e] at h1' h2'
      have e1 : y = x := Option.some.inj h1'
      subst e1
      have e2 : (oj.bind fun j => (σ[j]?).join) = some v := Option.some.inj h2'
      cases oj with
      | none => cases e2
      | some j =>
        have e3 : (σ[j]?).join = some v := e2
        have e4 : σ[j]? = some (some v) := by
          cases q : σ[j]? with
          | none => rw [q] at e3; cases e3
          | some z => rw [q] at e3; exact congrArg some e3
        obtain ⟨k1, k2⟩ := CapsOk.get hc e
        have k3 : X.env.kindOf y = some .cell \/ X.env.kindOf y = some .free := S.free (y, .free) (PySem.mem_of_lookup k2) rfl
        have vis : Vis X.env.scope y := by
          rcases k3 with k | k
          . exact .inr (.inl k)
          . exact .inr (.inr k)
        obtain ⟨mX, hnX, hl⟩ := I.loc
        obtain ⟨u, r, l⟩ := hl j y v k1 e4 vis
        refine ⟨u, r, ?_⟩
        rcases l with ⟨k, _⟩ | ⟨_, ca, hca, z⟩
        . rcases k3 with k' | k' <;> (rw [k] at k'; cases k')
        . obtain ⟨kd, hkd, ek⟩ := relabel_free (env := X.env) k2
          have hk2 : (compEnvC sc (clOf X.env sc.names []) C X.env).kindOf y = some kd := ek
          obtain ⟨c', hc'⟩ := clOf_has (env := X.env) sc.names [] y (.inl (PySem.mem_of_lookup k2))
          obtain ⟨c2, hc2⟩ := lookup_some_of_mem hc'
          have e5 := blk_lookup I S hc2
          rw [hca] at e5
          have e6 : ca = c2 := Option.some.inj e5
          subst e6
          refine .inr ⟨?_, ca, hc2, ?_⟩
          . rcases hkd with rfl | rfl
            . exact .inl hk2
            . exact .inr hk2
          . obtain ⟨oc, hoc, hd⟩ := z
            exact ⟨oc, hk _ _ hoc, hd⟩
  cell := fun x ca h => by
    obtain ⟨v, oc, hoc, hd⟩ := I.cell x ca (blk_lookup I S h)
    exact ⟨v, oc, hk _ _ hoc, hd⟩
  free := I.hok.fresh hC
  freeC := fun x ca h => I.freeC x ca (blk_lookup I S h)
  pin := fun p hp => absurd (show p ∈ ([] : List (Addr × Obj)) from hp) (by simp)
  hok := I.hok.kept hk
  len := by show (c.map _).length = (c.map _).length; rw [List.length_map, List.length_map]
theorem HOk.track {P : Program} {w : World} {H : Hp} {h : Heap} {a : Addr} {o : HO} (x : HOk P w H h) (hn : H a = none) (new : ObjOk P w (upd H a o) h a o) : HOk P w (upd H a o) h := fun b u e => by
  by_cases hb : b = a
  . subst hb; rw [upd_same] at e; cases e; exact new
  . rw [upd_ne hb] at e
    exact (x b u e).stay (fun c v _ q => q) (fun c q => by rw [upd_ne (ne_of_none q hn)]; exact q) fun c xs q => by rw [upd_ne (ne_of_none q hn)]; exact q
theorem Un.track {fs ex : List Addr} {H H' : Hp} {h h' : Heap} {a : Addr} {o : HO} (u : Un fs ex H H' h h') (ha : h.objs.size <= a) (hn : H' a = none) : Un fs ex H (upd H' a o) h h' where
  keep := u.keep
  slot := u.slot
  free := fun b ob q n hx => by rw [upd_ne (Nat.ne_of_lt (Nat.lt_of_lt_of_le (Heap.lt_size q) ha))]; exact u.free b ob q n hx
  there := u.there
  tups := fun b xs q => by rw [upd_ne (ne_of_none (u.tups b xs q) hn)]; exact u.tups b xs q
  frzs := fun b ob xs q => by rw [upd_ne (ne_of_none (u.frzs b ob xs q) hn)]; exact u.frzs b ob xs q
  tbls := fun b ps q => by
    obtain ⟨more, e⟩ := u.tbls b ps q
    exact ⟨more, by rw [upd_ne (ne_of_none e hn)]; exact e⟩
theorem blk_end {c : Caps} {C D : Addr} {s' : Shared} {σ' : St} {H' : Hp} {o : HO} (I : Inv X pins σ H s) (J : Inv (X.blk c.names sc C s H fp) [] σ' H' s') (hf : ∀ b ∈ fp, FpOk X pins H b) (hD : s.heap.objs.size <= D) (hn : H' D = none)
    (new : ObjOk X.prog X.w (upd H' D o) s'.heap D o) : Inv X pins σ (upd H' D o) s' := by
  have u : Un (frs X.stack) fp H H' s.heap s'.heap := J.base
  exact I.call' J.os (u.track hD hn) (J.hok.track hn new) J.bare fun b hb => ⟨(hf b hb).2.2.2.1, (hf b hb).2.1, (hf b hb).2.2.2.2.1, (hf b hb).2.2.2.2.2⟩
end
def PF (X : Cx) (ifs : List Expr) (t : TT) : Prop :=
  ∀ (pins : List (Addr × Obj)) (s : Shared) (σ : St) (H : Hp) (Q : Bool -> Hp -> Prop), Inv X pins σ H s -> t σ H Q ->
    wpAny (model X.prog X.w) X.A (forIn ifs true fun c r => if r = true then do let ok <- isTrue c X.env (eval c X.env); pure (ForInStep.yield ok) else pure (ForInStep.yield r)) (TP X pins σ Q) X.xe s
def tTrue : TT := fun _ H Q => Q true H
theorem pf_nil {X : Cx} : PF X [] tTrue := fun _ _ _ H _ I h => wpAny_tests_nil ⟨H, I, h⟩
theorem pf_one {X : Cx} {c : Expr} {t : TT} (h : PT X c t) : PF X [c] t := fun pins s σ H Q I hw => wpAny_tests_one (h pins s σ H Q I hw)
def tComp (wi : TI) (cp : Caps) (g : TG) (tc : TT) (te : TE) : TE := fun σ H Q => wi σ H fun J H1 => ∃ W : Nat -> Nat -> List V -> St -> Hp -> Prop, (∃ m, W 0 m [] (cp.st σ) H1) /\ ∀ i m ys σ' H', W i m ys σ' H' ->
  ys.length < sizeLine /\ ((J.stop i H' /\ ∀ D, H' D = none -> Q (.ref D) (upd H' D (.lst ys))) \/ (J.go i H' /\ ∃ N : List V -> St -> Hp -> Prop, (∀ zs σ2 H2, N zs σ2 H2 -> ∃ m', m' < m /\ W (i + 1) m' zs σ2 H2) /\ ∀ x H2, J.yld i H' x H2 -> g x σ' H2 fun σ2 H3 => tc σ2 H3 fun b H4 =>
    if b = true then te σ2 H4 fun v H5 => N (ys ++ [v]) σ2 H5 else N ys σ2 H4))
section
variable {X : Cx} {tg iter elt : Expr} {ifs : List Expr} {sc : Scope} {pos : Pos} {wi : TI} {cp : Caps} {g : TG} {tc : TT} {te : TE}
theorem comp_core (hc : X.calm = true) (S : BlkSc X sc) (hcp : CapsOk X.N sc cp)
    (hg : ∀ C s₀ H₀ ex, PG (X.blk cp.names sc C s₀ H₀ ex) tg g) (hf : ∀ C s₀ H₀ ex, PF (X.blk cp.names sc C s₀ H₀ ex) ifs tc) (he : ∀ C s₀ H₀ ex, PE (X.blk cp.names sc C s₀ H₀ ex) elt te)
    {pins : List (Addr × Obj)} {σ : St} {H : Hp} {s : Shared} {J : It} {it : Addr} {fp : List Addr} {tn : Nat -> Heap -> Prop} {Q : VK} {RR : Value -> Addr -> Result -> Shared -> Prop} {E : Value -> Shared -> Prop}
    (I : Inv X pins σ H s) (T : Turn X.prog X.w X.K tg J fp it tn) (st : tn 0 s.heap) (fpo : ∀ b ∈ fp, FpOk X pins H b)
    (hw : ∃ W : Nat -> Nat -> List V -> St -> Hp -> Prop, (∃ m, W 0 m [] (cp.st σ) H) /\ ∀ i m ys σ' H', W i m ys σ' H' ->
      ys.length < sizeLine /\ ((J.stop i H' /\ ∀ D, H' D = none -> Q (.ref D) (upd H' D (.lst ys))) \/ (J.go i H' /\ ∃ N : List V -> St -> Hp -> Prop, (∀ zs σ2 H2, N zs σ2 H2 -> ∃ m', m' < m /\ W (i + 1) m' zs σ2 H2) /\ ∀ x H2, J.yld i H' x H2 -> g x σ' H2 fun σ2 H3 => tc σ2 H3 fun b H4 =>
        if b = true then te σ2 H4 fun v H5 => N (ys ++ [v]) σ2 H5 else N ys σ2 H4)))
    (hR : ∀ D C s' H' (m : Str -> Option Value), Inv X pins σ H' s' -> Q (.ref D) H' -> s'.heap.Ns C m -> H' C = none -> C ≠ X.env.locals -> X.s₀.heap.objs.size <= C -> (∀ x c, X.env.cells.lookup x = some c -> c ≠ C) -> (∀ p ∈ X.pn ++ pins, p.1 ≠ C) -> RR (.ref D) C (.ok .next) s') :
    wpAny (model X.prog X.w) X.A (newList []) (fun acc s₃ => wpAny (model X.prog X.w) X.A (newFunctionEnv sc X.env.globals (clOf X.env sc.names []) [] X.env.qual none .none (some X.env)) (fun cenv s₄ =>
      codeAny (model X.prog X.w) X.A (.compStart (.ListComp elt [⟨tg, iter, ifs, 0⟩] sc pos) 0 (.ref it) acc { cenv with scope := relabel sc X.env }) (RR acc cenv.locals) s₄) E s₃) E s := by
  obtain ⟨W, ⟨m0, w0⟩, turn⟩ := hw
  refine wpAny_newObj_type (wpAny_newFunctionEnv S.nocell (by intro y hy; simp at hy) (fun h₁ hns₁ hsb₁ => ?_) S.kind)
  dsimp only at hns₁ hsb₁ ⊢
  generalize hH2 : s.heap.push { cls := .type "list", dict := none, data := .seq ([] : List Value).toArray } = H2 at hns₁ hsb₁ ⊢
  have hC : H2.objs.size = s.heap.objs.size + 1 := by rw [<- hH2, Heap.size_push]
  have hDC : s.heap.objs.size ≠ H2.objs.size := by rw [hC]; exact Nat.ne_of_lt (Nat.lt_succ_self _)
  have hCle : s.heap.objs.size <= H2.objs.size := by rw [hC]; exact Nat.le_succ _
  have below : ∀ b, b < s.heap.objs.size -> b ≠ H2.objs.size := fun b hb => by rw [hC]; exact Nat.ne_of_lt (Nat.lt_succ_of_lt hb)
  have old : ∀ b o, s.heap.get? b = some o -> h₁.get? b = some o := fun b o e => hsb₁.extBut b o (below b (Heap.lt_size e)) (Heap.get?_push_of_some _ (hH2 ▸ Heap.get?_push_of_some _ e))
  have hacc : h₁.get? s.heap.objs.size = some { cls := .type "list", data := .seq ([] : List Value).toArray 0 } := hsb₁.extBut _ _ hDC (Heap.get?_push_of_some _ (hH2 ▸ Heap.get?_push_size _ rfl))
  have hst₁ : tn 0 h₁ := T.keep 0 _ _ st fun b _ o e => old b o e
  have hobj : ∀ b ∈ fp, ∃ o, s.heap.get? b = some o := fun b hb => let ⟨o, e, _⟩ := T.obj 0 _ st b hb; ⟨o, e⟩
  have J0 : Inv (X.blk cp.names sc H2.objs.size s H fp) [] (cp.st σ) H { s with heap := h₁, toks := s.toks + ([] : List (Str × Value)).length } := blk_start I S hcp hCle fpo hobj rfl rfl old hns₁
  have nfs : ∀ b, s.heap.objs.size <= b -> b ∉ frs X.stack := fun b hb z => by
    rcases List.mem_cons.mp (I.stkSub b z) with e | e
    . exact absurd (Nat.lt_of_lt_of_le I.lt (by rw [<- e]; exact hb)) (Nat.lt_irrefl _)
    . exact I.nofs hb e
  have ncell : ∀ b, s.heap.objs.size <= b -> ∀ x c, X.env.cells.lookup x = some c -> c ≠ b := fun b hb x c e z => by
    obtain ⟨v, q⟩ := I.cell x c e
    exact absurd (Nat.lt_of_lt_of_le q.lt (by rw [z]; exact hb)) (Nat.lt_irrefl _)
  have fpb : ∀ {pins' : List (Addr × Obj)} {H' : Hp}, (∀ b ∈ fp, H' b = none) -> (∀ p ∈ pins', p.1 ∉ fp) -> ∀ b ∈ fp, FpOk (X.blk cp.names sc H2.objs.size s H fp) pins' H' b := fun {pins' H'} hn hp b hb => by
    obtain ⟨o, e⟩ := hobj b hb
    refine ⟨hn b hb, below b (Heap.lt_size e), fun z => ?_, .inl hb, fun x c h => (fpo b hb).2.2.2.2.1 x c (blk_lookup I S h), fun p hp' z => ?_⟩
    . rcases List.mem_cons.mp (I.stkSub b z) with e | e
      . exact (fpo b hb).2.1 e
      . exact (fpo b hb).2.2.1 e
    . have hp'' : p ∈ pins' := by simpa using hp'
      exact hp p hp'' (by rw [z]; exact hb)
  have loop : ∀ s₃ : Shared, s₃ = { s with heap := h₁, toks := s.toks + ([] : List (Str × Value)).length } ->
      codeAny (model X.prog X.w) X.A (.compLoop (.ListComp elt [⟨tg, iter, ifs, 0⟩] sc pos) 0 (.ref it) (.ref s.heap.objs.size) (compEnvC sc (clOf X.env sc.names []) H2.objs.size X.env))
        (RR (.ref s.heap.objs.size) H2.objs.size) s₃ := by
    rintro s₃ rfl
    refine compLoop_gen (fun n s' => ∃ i σ' H' ys its k, Inv (X.blk cp.names sc H2.objs.size s H fp) [] σ' H' s' /\ tn i s'.heap /\ (∀ b ∈ fp, H' b = none) /\ H' s.heap.objs.size = none /\
      s'.heap.get? s.heap.objs.size = some { cls := .type "list", data := .seq its.toArray k } /\ Vals ys its /\ W i n ys σ' H') ?_ m0
      ⟨0, _, H, [], [], 0, J0, hst₁, fun b hb => (fpo b hb).1, I.hok.fresh (Nat.le_refl _), hacc, .nil, w0⟩
    rintro n s3 ⟨i, σ3, H3, ys, its, k, I3, st3, fr3, hD3, e3, rv, w3⟩
    obtain ⟨hz, tr⟩ := turn i n ys σ3 H3 w3
    have hlen := rv.length
    -- the accumulator stands still while anything else runs
    have dpin : ∀ p ∈ [(s.heap.objs.size, ({ cls := .type "list", data := .seq its.toArray k } : Obj))], p.1 ∉ fp := fun p hp z => by
      have e : p = _ := List.mem_singleton.mp hp
      subst e
      obtain ⟨o, e⟩ := hobj _ z
      exact absurd (Heap.lt_size e) (Nat.lt_irrefl _)
    have I3' : Inv (X.blk cp.names sc H2.objs.size s H fp) [(s.heap.objs.size, ({ cls := .type "list", data := .seq its.toArray k } : Obj))] σ3 H3 s3 := I3.pins_of fun p hp => by
      have e : p = _ := List.mem_singleton.mp hp
      subst e
      exact ⟨e3, hD3, hDC, nfs _ (Nat.le_refl _), fun v z => by cases z⟩
    have stat : ∀ b ∈ fp, FpOk (X.blk cp.names sc H2.objs.size s H fp) [(s.heap.objs.size, ({ cls := .type "list", data := .seq its.toArray k } : Obj))] H3 b := fpb fr3 dpin
    rcases tr with ⟨stop, qn⟩ | ⟨go, N, hN, step⟩
    . refine thn (T.done (X.blk cp.names sc H2.objs.size s H fp) rfl rfl rfl hc i _ s3 σ3 H3 _ I3' stat st3 stop) fun r s4 ⟨hr, I4⟩ => ?_
      subst hr
      obtain ⟨e4, n4, _⟩ := I4.pin (s.heap.objs.size, ({ cls := .type "list", data := .seq its.toArray k } : Obj)) (by simp)
      have new : ObjOk X.prog X.w (upd H3 s.heap.objs.size (.lst ys)) s4.heap s.heap.objs.size (.lst ys) := ⟨Nat.le_of_lt hz, its, k, rv, e4⟩
      obtain ⟨mC, hnC, _⟩ := I4.loc
      have I4' : Inv (X.blk cp.names sc H2.objs.size s H fp) [] σ3 H3 s4 := I4.pins_of fun p hp => by cases hp
      have I5 := blk_end I I4' fpo (Nat.le_refl _) n4 new
      refine hR _ _ s4 _ mC I5 (qn _ n4) hnC ?_ (Nat.ne_of_gt (Nat.lt_of_lt_of_le I.lt hCle)) (Nat.le_trans I.sz hCle) (ncell _ hCle) fun p hp z => ?_
      . rw [upd_ne (Ne.symm hDC)]; exact I4.free
      . exact absurd (Nat.lt_of_lt_of_le (Heap.lt_size (I.pin p hp).1) (by rw [z]; exact hCle)) (Nat.lt_irrefl _)
    . refine thn (T.item (X.blk cp.names sc H2.objs.size s H fp) rfl rfl rfl hc i _ s3 σ3 H3 _ I3' stat st3 go) fun r s4 ⟨u, hr, h4⟩ => ?_
      subst hr
      refine thn h4 fun _ s5 ⟨x, H5, I5, r5, y5, st5, fr5⟩ => ?_
      have I5' := I5.pinned (fpb fr5 dpin) (T.obj _ _ st5)
      have fin : ∀ {σ7 : St} {H7 : Hp} {s7 : Shared}, Inv (X.blk cp.names sc H2.objs.size s H fp) ([(s.heap.objs.size, ({ cls := .type "list", data := .seq its.toArray k } : Obj))] ++ pinsAt fp s5.heap) σ7 H7 s7 ->
          s7.heap.get? s.heap.objs.size = some { cls := .type "list", data := .seq its.toArray k } /\ H7 s.heap.objs.size = none /\ (∀ b ∈ fp, H7 b = none) /\ ∀ b ∈ fp, ∀ o, s5.heap.get? b = some o -> s7.heap.get? b = some o := fun {σ7 H7 s7} I7 => by
        obtain ⟨e7, n7, _⟩ := I7.pin (s.heap.objs.size, ({ cls := .type "list", data := .seq its.toArray k } : Obj)) (by simp)
        refine ⟨e7, n7, fun b hb => ?_, fun b hb o e => ?_⟩
        . obtain ⟨o, e, _⟩ := T.obj _ _ st5 b hb
          exact (I7.pin (b, o) (List.mem_append_right _ (List.mem_append_right _ (mem_pinsAt hb e)))).2.1
        . exact (I7.pin (b, o) (List.mem_append_right _ (List.mem_append_right _ (mem_pinsAt hb e)))).1
      refine wpAny_mono (hg _ _ _ _ _ s5 σ3 H5 x u _ I5' r5 (step x H5 y5)) (fun _ s6 ⟨σ6, H6, I6, q6⟩ => ?_) fun _ _ z => False.elim z
      refine wpAny_mono (hf _ _ _ _ _ s6 σ6 H6 _ I6 q6) (fun ok s7 ⟨H7, I7, q7⟩ => ?_) fun _ _ z => False.elim z
      cases ok with
      | false =>
        rw [if_neg Bool.false_ne_true]
        rw [if_neg Bool.false_ne_true] at q7
        obtain ⟨m', hm, w7⟩ := hN _ _ _ q7
        obtain ⟨e7, n7, fr7, k7⟩ := fin I7
        exact ⟨m', hm, i + 1, σ6, H7, ys, its, k, I7.pins_of (fun p hp => by cases hp), T.keep _ _ _ st5 k7, fr7, n7, e7, rv, w7⟩
      | true =>
        rw [if_pos rfl]
        rw [if_pos rfl] at q7
        refine wpAny_mono (he _ _ _ _ _ s7 σ6 H7 _ I7 q7) (fun v s8 ⟨y, H8, I8, r8, q8⟩ => ?_) fun _ _ z => False.elim z
        obtain ⟨m', hm, w8⟩ := hN _ _ _ q8
        obtain ⟨e8, n8, fr8, k8⟩ := fin I8
        refine call_meets F.slot_list_append ⟨_, e8, rfl⟩ F.entry_list_append (F.args_list_append_2 _ _) (PySem.list_append s.heap.objs.size its.toArray k v (by rw [List.size_toArray]; omega)) ⟨e8, ?_⟩
        obtain ⟨k', q⟩ : ∃ k', (s8.heap.update s.heap.objs.size (Obj.mapSeq fun x => x.push v)).get? s.heap.objs.size = some { cls := .type "list", data := .seq (its ++ [v]).toArray k' } := ⟨_, by
          have q := PySem.IsL.update e8 fun x => x.push v
          have e : (its ++ [v]).toArray = its.toArray.push v := by simp
          rw [e]
          exact q⟩
        have I8' : Inv (X.blk cp.names sc H2.objs.size s H fp) [] σ6 H8 s8 := I8.pins_of fun p hp => by cases hp
        have I9 : Inv (X.blk cp.names sc H2.objs.size s H fp) [] σ6 H8 { s8 with heap := s8.heap.update s.heap.objs.size (Obj.mapSeq fun x => x.push v), toks := s8.toks } :=
          I8'.turned (it := s.heap.objs.size) (fun b o hb e => (Heap.get?_update_other _ _ (Ne.symm hb)).trans e) n8 hDC (.inr (Nat.le_refl _)) (fun x c e => ncell _ (Nat.le_refl _) x c (blk_lookup I S e)) (fun p hp => by cases hp)
        refine ⟨m', hm, i + 1, σ6, H8, ys ++ [y], its ++ [v], k', I9, T.keep (i + 1) s5.heap _ st5 (fun b hb o e => ?_), fr8, n8, q, rv.append (.cons r8 .nil), w8⟩
        . refine (Heap.get?_update_other _ _ ?_).trans (k8 b hb o e)
          intro z
          obtain ⟨ob, eb⟩ := hobj b hb
          exact absurd (Heap.lt_size eb) (by rw [<- z]; exact Nat.lt_irrefl _)
  exact codeAny_compStart_list (loop _ rfl) (T.self _ 0 _ _ _ hst₁ (loop _ rfl))
theorem pe_comp (hc : X.calm = true) (S : BlkSc X sc) (hcp : CapsOk X.N sc cp) (hi : PI X tg iter wi)
    (hg : ∀ C s₀ H₀ ex, PG (X.blk cp.names sc C s₀ H₀ ex) tg g) (hf : ∀ C s₀ H₀ ex, PF (X.blk cp.names sc C s₀ H₀ ex) ifs tc) (he : ∀ C s₀ H₀ ex, PE (X.blk cp.names sc C s₀ H₀ ex) elt te)
    (hs : ∀ x, foldedSetIterable iter X.env x = pure x := by intro _; rfl) : PE X (.ListComp elt [⟨tg, iter, ifs, 0⟩] sc pos) (tComp wi cp g tc te) := by
  intro pins s σ H Q I h
  rw [eval_ListComp]
  refine wpAny_comprehension_free (use := none) rfl hs (closure_eq (blk_cells I S)) S.kind S.loc (thn (hi pins s σ H _ I h) fun xv s₁ h₁ => thn h₁ fun itv s₂ h₂ => ?_)
  obtain ⟨it, fp, tn, J, H2, e, I2, T, st2, f2, hw⟩ := h₂
  subst e
  refine comp_core (RR := fun acc C => compPost (model X.prog X.w) X.A X.xe none (EP X pins σ Q) acc C) hc S hcp hg hf he I2 T st2 f2 hw ?_
  intro D C s' H' m I' q hn hC hL hz hcl hp
  exact ⟨m, hn, fun h' hs' => ⟨.ref D, H', I'.turned (t' := s'.toks) (it := C) (fun b o hb e => hs'.extBut b o hb e) hC hL (.inr hz) hcl hp, rfl, q⟩⟩
theorem ps_setC {i : Nat} {x : Str} {px spos : Pos} (hN : X.N.Nodup) (hi : X.N[i]? = some x) (hx : X.env.scope.names.lookup x = some .local) (hc : X.calm = true) (S : BlkSc X sc) (hcp : CapsOk X.N sc cp) (hit : PI X tg iter wi)
    (hg : ∀ C s₀ H₀ ex, PG (X.blk cp.names sc C s₀ H₀ ex) tg g) (hf : ∀ C s₀ H₀ ex, PF (X.blk cp.names sc C s₀ H₀ ex) ifs tc) (he : ∀ C s₀ H₀ ex, PE (X.blk cp.names sc C s₀ H₀ ex) elt te)
    (hsw : swapsWith (.ListComp elt [⟨tg, iter, ifs, 0⟩] sc pos) (some (.Name x px)) spos.line X.env = pure true := by rfl)
    (hs : ∀ x, foldedSetIterable iter X.env x = pure x := by intro _; rfl) : PS X (.Assign [.Name x px] (.ListComp elt [⟨tg, iter, ifs, 0⟩] sc pos) spos) (tAsg (tComp wi cp g tc te) (gName i)) := by
  intro pins s σ H D I h
  rw [exec_Assign_Name_used _ _ _ _ hsw]
  refine wpAny_bind (wpAny_standAt (wpAny_bind ?_))
  show wpAny _ X.A (do let _ <- comprehension (.ListComp elt [⟨tg, iter, ifs, 0⟩] sc pos) sc X.env _ (newList []) false (eval iter X.env) (some (assign (.Name x px) X.env))) _ _ s
  refine wpAny_bind (wpAny_mono (wpAny_comprehension_free (use := some (assign (.Name x px) X.env)) (Q := fun _ s' => SP X pins D .next s') rfl hs (closure_eq (blk_cells I S)) S.kind S.loc
    (thn (hit pins s σ H _ I h) fun xv s₁ h₁ => thn h₁ fun itv s₂ h₂ => ?_)) (fun _ s' hq => wpAny_pure (wpAny_pure hq)) fun _ _ e => e)
  obtain ⟨it, fp, tn, J, H2, e, I2, T, st2, f2, hw⟩ := h₂
  subst e
  refine comp_core (RR := fun acc C => compPost (model X.prog X.w) X.A X.xe (some (assign (.Name x px) X.env)) (fun _ s' => SP X pins D .next s') acc C) (Q := fun v H1 => gName i v σ H1 D.nx) hc S hcp hg hf he I2 T st2 f2 hw ?_
  intro Dl C s' H' m I' q hn hC hL hz hcl hp
  show wpAny _ X.A (assign (.Name x px) X.env (.ref Dl)) _ _ _
  refine wpAny_assign_Name (store_ok2 I' hN hi (.inl hx) (v := .ref Dl) rfl (fun s'' I'' ⟨a, hsb, ha⟩ => ?_) (.inr hx))
  have hne : C ≠ a := by
    rcases ha with rfl | ha
    . exact hL
    . exact fun z => hcl _ _ ha z.symm
  refine ⟨m, hn.sameBut hsb hne, fun h' hs' => ⟨_, H', I''.turned (t' := s''.toks) (it := C) (fun b o hb e => hs'.extBut b o hb e) hC hL (.inr hz) hcl hp, q⟩⟩
end
theorem comp_tup {K : PySem.W.Frag} {a : Addr} {xs : List V} {g : TG} {tc : TT} {te : TE} {Q : VK} {σ : St} {H : Hp} (Pv : Nat -> List V -> St -> Hp -> Prop) (h0 : Pv 0 [] σ H) (hz : xs.length < sizeLine)
    (hl : ∀ i ys σ H, i <= xs.length -> Pv i ys σ H -> SqT K H a xs /\ ys.length <= i)
    (hs : ∀ i x ys σ H, xs[i]? = some x -> Pv i ys σ H -> g x σ H fun σ2 H2 => tc σ2 H2 fun b H3 => if b = true then te σ2 H3 fun v H4 => Pv (i + 1) (ys ++ [v]) σ2 H4 else Pv (i + 1) ys σ2 H3)
    (hd : ∀ ys σ H, Pv xs.length ys σ H -> ∀ D, H D = none -> Q (.ref D) (upd H D (.lst ys))) :
    ∃ W : Nat -> Nat -> List V -> St -> Hp -> Prop, (∃ m, W 0 m [] σ H) /\ ∀ i m ys σ' H', W i m ys σ' H' ->
      ys.length < sizeLine /\ (((Itt K a).stop i H' /\ ∀ D, H' D = none -> Q (.ref D) (upd H' D (.lst ys))) \/ ((Itt K a).go i H' /\ ∃ N : List V -> St -> Hp -> Prop, (∀ zs σ2 H2, N zs σ2 H2 -> ∃ m', m' < m /\ W (i + 1) m' zs σ2 H2) /\ ∀ x H2, (Itt K a).yld i H' x H2 -> g x σ' H2 fun σ2 H3 => tc σ2 H3 fun b H4 =>
        if b = true then te σ2 H4 fun v H5 => N (ys ++ [v]) σ2 H5 else N ys σ2 H4)) := by
  refine ⟨fun i m ys σ H => m = xs.length - i /\ i <= xs.length /\ Pv i ys σ H, ⟨xs.length, by simp, Nat.zero_le _, h0⟩, ?_⟩
  rintro i m ys σ H ⟨rfl, hi, p⟩
  obtain ⟨q, ly⟩ := hl i ys σ H hi p
  refine ⟨by omega, ?_⟩
  by_cases hlt : i < xs.length
  . refine .inr ⟨⟨xs, xs[i], q, by simp [hlt]⟩, Pv (i + 1), fun zs σ' H' p' => ⟨xs.length - (i + 1), by omega, rfl, hlt, p'⟩, fun x H' y => ?_⟩
    obtain ⟨e, y⟩ := y
    subst e
    exact hs i x ys σ _ (y xs q) p
  . have e : i = xs.length := by omega
    subst e
    exact .inl ⟨⟨xs, q, Nat.le_refl _⟩, hd ys σ H p⟩
theorem comp_range {lo : Int} {n : Nat} {g : TG} {tc : TT} {te : TE} {Q : VK} {σ : St} {H : Hp} (Pv : Nat -> List V -> St -> Hp -> Prop) (h0 : Pv 0 [] σ H) (hz : n < sizeLine)
    (hl : ∀ i ys σ H, i <= n -> Pv i ys σ H -> ys.length <= i)
    (hs : ∀ i ys σ H, i < n -> Pv i ys σ H -> g (.int (lo + i)) σ H fun σ2 H2 => tc σ2 H2 fun b H3 => if b = true then te σ2 H3 fun v H4 => Pv (i + 1) (ys ++ [v]) σ2 H4 else Pv (i + 1) ys σ2 H3)
    (hd : ∀ ys σ H, Pv n ys σ H -> ∀ D, H D = none -> Q (.ref D) (upd H D (.lst ys))) :
    ∃ W : Nat -> Nat -> List V -> St -> Hp -> Prop, (∃ m, W 0 m [] σ H) /\ ∀ i m ys σ' H', W i m ys σ' H' ->
      ys.length < sizeLine /\ (((Itr lo n).stop i H' /\ ∀ D, H' D = none -> Q (.ref D) (upd H' D (.lst ys))) \/ ((Itr lo n).go i H' /\ ∃ N : List V -> St -> Hp -> Prop, (∀ zs σ2 H2, N zs σ2 H2 -> ∃ m', m' < m /\ W (i + 1) m' zs σ2 H2) /\ ∀ x H2, (Itr lo n).yld i H' x H2 -> g x σ' H2 fun σ2 H3 => tc σ2 H3 fun b H4 =>
        if b = true then te σ2 H4 fun v H5 => N (ys ++ [v]) σ2 H5 else N ys σ2 H4)) := by
  refine ⟨fun i m ys σ H => m = n - i /\ i <= n /\ Pv i ys σ H, ⟨n, by simp, Nat.zero_le _, h0⟩, ?_⟩
  rintro i m ys σ H ⟨rfl, hi, p⟩
  have ly := hl i ys σ H hi p
  refine ⟨by omega, ?_⟩
  by_cases hlt : i < n
  . refine .inr ⟨hlt, Pv (i + 1), fun zs σ' H' p' => ⟨n - (i + 1), by omega, rfl, hlt, p'⟩, fun x H' y => ?_⟩
    obtain ⟨e, y⟩ := y
    subst e y
    exact hs i ys σ _ hlt p
  . have e : i = n := by omega
    subst e
    exact .inl ⟨Nat.le_refl _, hd ys σ H p⟩
end L2
set_option Elab.async false
set_option linter.all false
set_option maxRecDepth 100000
set_option maxHeartbeats 4000000
namespace L2
open PySem PySem.Spec PyProof.Rows
section
variable {X : Cx}
theorem vals_bool_get {bs : List Bool} {its : List Value} (r : Vals (bs.map V.bl) its) {i : Nat} {v : Value} (h : its[i]? = some v) : ∃ b, bs[i]? = some b /\ v = .bool b := by
  have hi : i < its.length := (List.getElem?_eq_some_iff.mp h).1
  have hl := r.length
  rw [List.length_map] at hl
  obtain ⟨u, hu, ru⟩ := r.get (i := i) (x := V.bl bs[i]) (by rw [List.getElem?_map]; simp [show i < bs.length by omega])
  rw [h] at hu
  cases hu
  exact ⟨bs[i], by simp [show i < bs.length by omega], ru⟩
theorem map_at (bs : List Bool) : (List.range bs.length).map (fun i => bs.getD i false) = bs :=
  List.ext_getElem (by simp) fun i _ h => by simp [h]
theorem range_all {bs : List Bool} : (List.range bs.length).all (fun i => bs.getD i false) = bs.all id := by
  have e := congrArg (fun l => l.all id) (map_at bs)
  rw [List.all_map] at e; exact e
theorem truth_bools {bs : List Bool} {its : List Value} {A : Around} {P : Program} {w : World} (r : Vals (bs.map V.bl) its) : TruthOf P w A (fun i v => its.toArray[i]? = some v) (fun i => bs.getD i false) := by
  intro i v s Q E hv hq
  obtain ⟨b, hb, e⟩ := vals_bool_get r (by simpa using hv)
  subst e
  refine wpAny_truthy_bool ?_
  have e : bs.getD i false = b := by rw [List.getD_eq_getElem?_getD, hb]; rfl
  have hq' : Q (bs.getD i false) s := hq
  rw [e] at hq'
  exact hq'
theorem call_all (hc : X.calm = true) : CallR X (.builtin "all") (fun xs H Q => ∃ (p : Addr) (bs : List Bool), xs = [.ref p] /\ SqL X.K H p (bs.map V.bl) /\ Q (.bl (bs.all id)) H) := by
  intro pins s σ H xs us Q I r h
  obtain ⟨p, bs, rfl, hq, q⟩ := h
  obtain ⟨u, rfl, ru⟩ := vals1 r
  cases ru
  obtain ⟨its, rv, pl, hz⟩ := I.list hq
  have hlen := rv.length
  rw [List.length_map] at hlen
  have hh : X.A.in1.handled = none := I.ok.hd hc
  obtain ⟨o, ho, _⟩ := id pl.isList
  have hne : p ≠ s.heap.objs.size := Nat.ne_of_lt (Heap.lt_size ho)
  refine call_all_walk (wpAny_pyIter_list pl.isList ?_)
  refine ⟨s.heap.objs.size, _, _, its.toArray.size, _, _, fun i => bs.getD i false, rfl, Walks.list hh _ p hne its.toArray, ⟨⟨_, Heap.get?_push_size _ rfl, rfl, rfl⟩, pl.isList.at fun o e => Heap.get?_push_of_some _ e⟩, truth_bools rv, fun h' tk hk => ?_⟩
  refine ⟨.bl (bs.all id), H, I.kept (t' := tk) fun b o e => hk b o ?_ (Heap.get?_push_of_some _ e), ?_, q⟩
  . intro hb
    have e' : b = s.heap.objs.size := by simpa using hb
    exact absurd (Heap.lt_size e) (by rw [e']; exact Nat.lt_irrefl _)
  . rw [List.size_toArray, <- hlen, range_all]; rfl
theorem call_isinst : CallR X (.builtin "isinstance") (fun xs H Q => ∃ x c cv t b, xs = [x, c] /\ TyOf X.K H x t /\ (∀ u, RelV c u -> u = cv) /\ PySem.W.kitOne X.K t cv = some b /\ Q (.bl b) H) := by
  intro pins s σ H xs us Q I r h
  obtain ⟨x, c, cv, t, b, rfl, ty, hc, hk, q⟩ := h
  obtain ⟨u, w', rfl, rx, rc⟩ := vals2 r
  rw [hc _ rc]
  exact isinst_ok I rx ty hk fun tk => ⟨.bl b, H, I.tok tk, rfl, q⟩
def EqD (K : PySem.W.Frag) (H : Hp) : Nat -> V -> V -> Bool -> Prop
  | 0, x, y, b => flatV x = true /\ flatV y = true /\ b = eqV x y
  | n + 1, x, y, b => (flatV x = true /\ flatV y = true /\ b = eqV x y) \/ ∃ a c xs ys, x = .ref a /\ y = .ref c /\ ((SqL K H a xs /\ SqL K H c ys) \/ (SqT K H a xs /\ SqT K H c ys)) /\ 
      ∃ e : Nat -> Bool, (∀ i x y, xs[i]? = some x -> ys[i]? = some y -> EqD K H n x y (e i)) /\ b = (decide (xs.length = ys.length) && (List.range (min xs.length ys.length)).all e)
theorem in1_units (A : Around) : A.in1.units = A.units + 1 := rfl
theorem eqV_self {x : V} (h : flatV x = true) : eqV x x = true := by
  cases x <;> first | rfl | (simp [eqV]; done) | exact absurd (show false = true from h) Bool.false_ne_true
theorem EqD.self {pins : List (Addr × Obj)} {s : Shared} {σ : St} {H : Hp} (I : Inv X pins σ H s) : ∀ (n : Nat) {x : V} {b : Bool}, EqD X.K H n x x b -> b = true := by
  intro n
  induction n with
  | zero =>
    rintro x b ⟨fx, _, rfl⟩
    exact eqV_self fx
  | succ n ih =>
    rintro x b (⟨fx, _, rfl⟩ | ⟨a, c, xs, ys, rfl, e2, hq, e, he, rfl⟩)
    . exact eqV_self fx
    . cases e2
      have exy : xs = ys := by
        rcases hq with ⟨h1, h2⟩ | ⟨h1, h2⟩
        . exact I.list_inj h1 h2
        . exact I.tuple_inj h1 h2
      subst exy
      simp only [decide_true, Bool.true_and, Nat.min_self, List.all_eq_true, List.mem_range]
      intro i hi
      exact ih (he i xs[i] xs[i] (by simp [hi]) (by simp [hi]))
theorem all_and {n m : Nat} {e : Nat -> Bool} : ((List.range (min n m)).all e && n == m) = (decide (n = m) && (List.range (min n m)).all e) := by
  rw [Bool.and_comm]
  congr 1
theorem EqD.at {pins : List (Addr × Obj)} {s : Shared} {σ : St} {H : Hp} (I : Inv X pins σ H s) : ∀ (n : Nat) (A : Around) {x y : V} {u v : Value} {b : Bool}, A.units + n < cLine -> RelV x u -> RelV y v -> EqD X.K H n x y b ->
    SeqAt.EqAt A s u v b /\ ∀ a c, x = .ref a -> y = .ref c -> SeqAt.RcAt A s u v b := by
  intro n
  induction n with
  | zero =>
    intro A x y u v b hu rx ry h
    obtain ⟨fx, fy, rfl⟩ := h
    refine ⟨eqAt_V rx ry fx fy, ?_⟩
    rintro a c rfl rfl
    exact absurd (show false = true from fx) Bool.false_ne_true
  | succ n ih =>
    intro A x y u v b hu rx ry h
    have hself := h
    rcases h with ⟨fx, fy, rfl⟩ | ⟨a, c, xs, ys, rfl, rfl, hq, e, he, rfl⟩
    . refine ⟨eqAt_V rx ry fx fy, ?_⟩
      rintro a c rfl rfl
      exact absurd (show false = true from fx) Bool.false_ne_true
    . cases rx
      cases ry
      have key : ∀ (its its2 : List Value), Vals xs its -> Vals ys its2 -> ∀ j (h1 : j < its.toArray.size) (h2 : j < its2.toArray.size), SeqAt.EqAt A.in1 s its.toArray[j] its2.toArray[j] (e j) := fun its its2 r1 r2 j h1 h2 => by
        have l1 := r1.length
        have l2 := r2.length
        rw [List.size_toArray] at h1 h2
        obtain ⟨u1, g1, q1⟩ := r1.get (i := j) (x := xs[j]'(by omega)) (by simp [show j < xs.length by omega])
        obtain ⟨u2, g2, q2⟩ := r2.get (i := j) (x := ys[j]'(by omega)) (by simp [show j < ys.length by omega])
        have k1 : its.toArray[j]'(by rw [List.size_toArray]; exact h1) = u1 := by
          have := (List.getElem?_eq_some_iff.mp g1).2
          simpa using this
        have k2 : its2.toArray[j]'(by rw [List.size_toArray]; exact h2) = u2 := by
          have := (List.getElem?_eq_some_iff.mp g2).2
          simpa using this
        rw [k1, k2]
        exact (ih A.in1 (by rw [in1_units]; omega) q1 q2 (he j _ _ (by simp [show j < xs.length by omega]) (by simp [show j < ys.length by omega]))).1
      have rc : SeqAt.RcAt A s (.ref a) (.ref c) (decide (xs.length = ys.length) && (List.range (min xs.length ys.length)).all e) := by
        rcases hq with ⟨h1, h2⟩ | ⟨h1, h2⟩
        . obtain ⟨its, r1, p1, _⟩ := I.list h1
          obtain ⟨its2, r2, p2, _⟩ := I.list h2
          have l1 := r1.length
          have l2 := r2.length
          by_cases hl : xs.length = ys.length
          . have := SeqAt.RcAt.lists (e := e) p1.isList p2.isList (by rw [List.size_toArray, List.size_toArray]; omega) (by omega) (key its its2 r1 r2)
            rw [List.size_toArray, <- l1] at this
            rw [decide_eq_true hl, Bool.true_and, <- hl, Nat.min_self]
            exact this
          . rw [decide_eq_false hl, Bool.false_and]
            exact SeqAt.RcAt.lists_lengths p1.isList p2.isList (by rw [List.size_toArray, List.size_toArray]; simp; omega) (by omega)
        . obtain ⟨its, r1, p1, _⟩ := I.tuple h1
          obtain ⟨its2, r2, p2, _⟩ := I.tuple h2
          have l1 := r1.length
          have l2 := r2.length
          have := SeqAt.RcAt.tuples (e := e) (show s.heap.IsTuple a its.toArray from p1) (show s.heap.IsTuple c its2.toArray from p2) (by omega) (key its its2 r1 r2)
          rw [List.size_toArray, List.size_toArray, <- l1, <- l2, all_and] at this
          exact this
      refine ⟨?_, fun a' c' _ _ => rc⟩
      by_cases hac : a = c
      . subst hac
        rw [EqD.self I (n + 1) hself]
        exact SeqAt.EqAt.same _
      . exact SeqAt.EqAt.of_refs hac rc
def rEqD (K : PySem.W.Frag) (n : Nat) : R2 := fun x y H Q => ∃ a c b, x = .ref a /\ y = .ref c /\ EqD K H n x y b /\ Q (.bl b) H
theorem op_eqD (n : Nat) (hu : X.A.units + n < cLine) : OpR X (compareOp .Eq) (rEqD X.K n) := by
  intro pins s σ H x y v u Q I rx ry h
  obtain ⟨a, c, b, ex, ey, h, q⟩ := h
  exact (EqD.at I n X.A hu rx ry h).2 a c ex ey _ _ _ _ ⟨.bl b, H, I, rfl, q⟩
theorem EqD.flat {K : PySem.W.Frag} {H : Hp} {a c : Addr} {xs ys : List V} (hq : (SqL K H a xs /\ SqL K H c ys) \/ (SqT K H a xs /\ SqT K H c ys)) (fx : ∀ x ∈ xs, flatV x = true) (fy : ∀ y ∈ ys, flatV y = true) (hi : ∀ x ∈ xs, ∀ y ∈ ys, eqV x y = decide (x = y)) (n : Nat) :
    EqD K H (n + 1) (.ref a) (.ref c) (decide (xs = ys)) := by
  have base : ∀ m i x y, xs[i]? = some x -> ys[i]? = some y -> EqD K H m x y (decide (x = y)) := fun m i x y h1 h2 => by
    have m1 := List.mem_of_getElem? h1
    have m2 := List.mem_of_getElem? h2
    cases m with
    | zero => exact ⟨fx _ m1, fy _ m2, (hi _ m1 _ m2).symm⟩
    | succ m => exact .inl ⟨fx _ m1, fy _ m2, (hi _ m1 _ m2).symm⟩
  refine .inr ⟨a, c, xs, ys, rfl, rfl, hq, fun i => match xs[i]?, ys[i]? with | some x, some y => decide (x = y) | _, _ => true, fun i x y h1 h2 => ?_, ?_⟩
  . simp only [h1, h2]
    exact base n i x y h1 h2
  . rw [Bool.eq_iff_iff]
    simp only [decide_eq_true_eq, Bool.and_eq_true, List.all_eq_true, List.mem_range]
    constructor
    . rintro rfl
      refine ⟨rfl, fun i hi => ?_⟩
      have hi : i < xs.length := by omega
      simp [hi]
    . rintro ⟨hl, h⟩
      refine List.ext_getElem? fun i => ?_
      by_cases hi : i < xs.length
      . have := h i (by omega)
        simp [hi, show i < ys.length by omega] at this
        simp [hi, show i < ys.length by omega, this]
      . rw [List.getElem?_eq_none (by omega), List.getElem?_eq_none (by omega)]
end
end L2
namespace L2
open PySem PySem.Spec PyProof.Rows
def blkOk (outer : List (Str × NameKind)) (sc : Scope) : Bool :=
  sc.kind == .function && sc.names.all (fun y => y.2 != .cell && (y.2 != .local || sc.names.lookup y.1 == some .local) && (y.2 != .free || outer.lookup y.1 == some .cell || outer.lookup y.1 == some .free))
theorem blk_mk {X : Cx} {sc : Scope} (h : blkOk X.env.scope.names sc = true) : BlkSc X sc := by
  unfold blkOk at h
  rw [Bool.and_eq_true, List.all_eq_true] at h
  obtain ⟨h1, h2⟩ := h
  refine ⟨by simpa using h1, fun y hy z => ?_, fun y hy z => ?_, fun y hy z => ?_⟩
  . have := h2 y hy
    simp only [Bool.and_eq_true] at this
    have := this.1.1
    rw [z] at this
    exact absurd this (by decide)
  . have := h2 y hy
    simp only [Bool.and_eq_true] at this
    have := this.1.2
    rw [z] at this
    simpa using this
  . have := h2 y hy
    simp only [Bool.and_eq_true] at this
    have := this.2
    rw [z] at this
    have t : (X.env.scope.names.lookup y.1 == some .cell || X.env.scope.names.lookup y.1 == some .free) = true := by simpa using this
    rw [Bool.or_eq_true] at t
    rcases t with t | t
    . exact .inl (by show X.env.scope.names.lookup y.1 = some .cell; simpa using t)
    . exact .inr (by show X.env.scope.names.lookup y.1 = some .free; simpa using t)
end L2
set_option Elab.async false
set_option linter.all false
set_option maxRecDepth 100000
set_option maxHeartbeats 4000000
namespace L2
open PySem PySem.Spec PyProof.Rows
section
variable {t u : TS} {te ta tb tc' : TE} {tt tu : TT} {A B : TA} {D : Ends} {σ : St} {H : Hp} {Q : VK} {R : Bool -> Hp -> Prop} {S : List V -> Hp -> Prop} {i : Nat} {v : V} {g : TG} {r r' : R2} {K : PySem.W.Frag} {wi : TI} {cp : Caps}
theorem r_seq : tSeq t u D σ H = t { D with nx := u D } σ H := rfl
theorem r_next : tNext D σ H = D.nx σ H := rfl
theorem r_asg : tAsg te g D σ H = te σ H fun x H1 => g x σ H1 D.nx := rfl
theorem r_gname {N : St -> Hp -> Prop} : gName i v σ H N = N (σ.set i (some v)) H := rfl
theorem r_var : tVar i σ H Q = ∃ v, σ[i]? = some (some v) /\ Q v H := rfl
theorem r_c : tC v σ H Q = Q v H := rfl
theorem r_op : tOp r ta tb σ H Q = ta σ H fun x H1 => tb σ H1 fun y H2 => r x y H2 Q := rfl
theorem r_un {f : V -> Hp -> VK -> Prop} : tUn f ta σ H Q = ta σ H fun x H1 => f x H1 Q := rfl
theorem r_I {C : Int -> Int -> Prop} {f : Int -> Int -> V} {x y : V} : rI C f x y H Q = ∃ i j, x = .int i /\ y = .int j /\ C i j /\ Q (f i j) H := rfl
theorem r_I0 {f : Int -> Int -> V} {x y : V} : rI0 f x y H Q = ∃ i j, x = .int i /\ y = .int j /\ Q (f i j) H := rfl
theorem r_U {f : Int -> V} {x : V} : rU f x H Q = ∃ i, x = .int i /\ Q (f i) H := rfl
theorem r_call {sp : Sp} {dvs : List V} {E : XK} : tCall sp dvs E A σ H Q = A σ H fun vs H1 => sp (vs ++ dvs) H1 Q E := rfl
theorem r_cons : tCons te A σ H S = te σ H fun x H1 => A σ H1 fun xs H2 => S (x :: xs) H2 := rfl
theorem r_nil : tNil σ H S = S [] H := rfl
theorem r_ret : tRet te D σ H = te σ H D.rt := rfl
theorem r_drop : tDrop te D σ H = te σ H fun _ H1 => D.nx σ H1 := rfl
theorem r_if : tIfS tt t u D σ H = tt σ H fun b H1 => if b = true then t D σ H1 else u D σ H1 := rfl
theorem r_B : tB te σ H R = te σ H fun x H1 => ∃ c, x = .bl c /\ R c H1 := rfl
theorem r_test : tTest te σ H R = te σ H fun x H1 => ∃ c, x = .bl c /\ R c H1 := rfl
theorem r_and : tAnd tt tu σ H R = tt σ H fun c H1 => if c = true then tu σ H1 R else R false H1 := rfl
theorem r_or : tOr tt tu σ H R = tt σ H fun c H1 => if c = true then R true H1 else tu σ H1 R := rfl
theorem r_not : tNot tt σ H R = tt σ H fun c H1 => R (!c) H1 := rfl
theorem r_andV : tAndV ta tb σ H Q = ta σ H fun x H1 => ∃ c, x = .bl c /\ if c = true then tb σ H1 Q else Q (.bl false) H1 := rfl
theorem r_notV : tNotV ta σ H Q = ta σ H fun x H1 => ∃ c, x = .bl c /\ Q (.bl (!c)) H1 := rfl
theorem r_chain : tChain r r' ta tb tc' σ H Q = ta σ H fun x H1 => tb σ H1 fun y H2 => r x y H2 fun z H3 => ∃ k, z = .bl k /\ (if k = true then tc' σ H3 fun w' H4 => r' y w' H4 Q else Q (.bl false) H3) := rfl
theorem r_CB {f : List V -> Hp -> VK -> Prop} : tCB f A σ H Q = A σ H fun vs H1 => f vs H1 Q := rfl
theorem r_lst : tLst A σ H Q = A σ H fun xs H1 => xs.length <= sizeLine /\ ∀ p, H1 p = none -> Q (.ref p) (upd H1 p (.lst xs)) := rfl
theorem r_tup : tTup A σ H Q = A σ H fun xs H1 => xs.length <= sizeLine /\ ∀ p, H1 p = none -> Q (.ref p) (upd H1 p (.tup xs)) := rfl
theorem r_ixL {x y : V} : rIxL K x y H Q = ∃ p xs i v, x = .ref p /\ y = .int i /\ SqL K H p xs /\ atI xs i = some v /\ Q v H := rfl
theorem r_ixT {x y : V} : rIxT K x y H Q = ∃ p xs i v, x = .ref p /\ y = .int i /\ SqT K H p xs /\ atI xs i = some v /\ Q v H := rfl
theorem r_sl {f : V -> Option Int -> Option Int -> Hp -> VK -> Prop} {tl th : TO} : tSl f te tl th σ H Q = te σ H fun x H1 => tl σ H1 fun l H2 => th σ H2 fun u H3 => f x l u H3 Q := rfl
theorem r_part {U : Option Int -> Hp -> Prop} : tPart te σ H U = te σ H fun x H1 => ∃ i, x = .int i /\ U (some i) H1 := rfl
theorem r_nopart {U : Option Int -> Hp -> Prop} : tNoPart σ H U = U none H := rfl
theorem r_BM {T : String} {f : V -> List V -> Hp -> VK -> Prop} : tBM K T f te A σ H Q = te σ H fun x H1 => tyV K T x H1 /\ A σ H1 fun xs H2 => f x xs H2 Q := rfl
theorem r_append {x : V} {vs : List V} : rAppend x vs H Q = ∃ l xs y, x = .ref l /\ vs = [y] /\ H l = some (.lst xs) /\ xs.length < sizeLine /\ Q .non (upd H l (.lst (xs ++ [y]))) := rfl
theorem r_Eq {x y : V} : rEq x y H Q = (scal x y = true /\ Q (.bl (decide (x = y))) H) := rfl
theorem r_Ne {x y : V} : rNe x y H Q = (scal x y = true /\ Q (.bl (!decide (x = y))) H) := rfl
theorem r_eqD {n : Nat} {x y : V} : rEqD K n x y H Q = ∃ a c b, x = .ref a /\ y = .ref c /\ EqD K H n x y b /\ Q (.bl b) H := rfl
theorem r_iList {Z : It -> Hp -> Prop} : iList K te σ H Z = te σ H fun x H1 => ∃ a, x = .ref a /\ (∃ xs, SqL K H1 a xs) /\ Z (Itl K a) H1 := rfl
theorem r_iTup {Z : It -> Hp -> Prop} : iTup K te σ H Z = te σ H fun x H1 => ∃ a, x = .ref a /\ (∃ xs, SqT K H1 a xs) /\ Z (Itt K a) H1 := rfl
theorem r_iRng1 {Z : It -> Hp -> Prop} : iRng1 A σ H Z = A σ H fun vs H1 => ∃ j : Int, vs = [.int j] /\ -(2 ^ 62) <= j /\ j < 2 ^ 62 /\ Z (Itr 0 j.toNat) H1 := rfl
theorem r_aug {ti : TIp} : tAug i te ti D σ H = ∃ x, σ[i]? = some (some x) /\ te σ H fun y H1 => ti x y H1 fun z H2 => D.nx (σ.set i (some z)) H2 := rfl
theorem r_ip {f : Int -> Int -> Int} {x y : V} : ipI f x y H Q = ∃ i j, x = .int i /\ y = .int j /\ Q (.int (f i j)) H := rfl
theorem r_true : tTrue σ H R = R true H := rfl
end
theorem Same.new {H : Hp} {p : Addr} {o : HO} (h : H p = none) : Same H (upd H p o) := fun b u e => by rw [upd_ne (ne_of_none e h)]; exact e
theorem Same.newT {H H' : Hp} {p : Addr} {o : HO} (s : Same H H') (h : H' p = none) : Same H (upd H' p o) := s.trans (Same.new h)
theorem Same.over {H H' : Hp} {p : Addr} {o : HO} (s : Same H H') (h : H p = none) : Same H (upd H' p o) := fun b u e => by rw [upd_ne (ne_of_none e h)]; exact s b u e
theorem none_of_upd {H : Hp} {p D : Addr} {o : HO} (h : upd H p o D = none) : H D = none /\ D ≠ p := by
  by_cases e : D = p
  . subst e; rw [upd_same] at h; cases h
  . rw [upd_ne e] at h; exact ⟨h, e⟩
theorem Same.seqT {K : PySem.W.Frag} {H H' : Hp} {a : Addr} {xs : List V} (e : Same H H') (h : SqT K H a xs) : SqT K H' a xs := by
  rcases h with (h | ⟨o, h⟩) | h
  . exact .inl (.inl (e _ _ h))
  . exact .inl (.inr ⟨o, e _ _ h⟩)
  . exact .inr h
theorem hu9 {k : Nat} {A : Around} (hr : Room k A) : A.units + 8 < cLine := by have := hr.units; omega
section
variable {K : PySem.W.Frag} {wi : TI} {cp : Caps} {g : TG} {tc : TT} {te : TE} {σ : St} {H : Hp} {Q : VK}
theorem r_cxK {CX : CXT} {P : Program} {w : World} {mg : Str -> Option Value} {base : Heap} {N : List Str} {qual : Str} {scope : Scope} {f : Addr} {cd : Value} {A : Around} {outer : List Env} {s : Shared} {E : XK} : (cxOf CX P w K mg base N qual scope f cd A outer s H E).K = K := rfl
def CompW (J : It) (cp : Caps) (g : TG) (tc : TT) (te : TE) (σ : St) (H1 : Hp) (Q : VK) : Prop := ∃ W : Nat -> Nat -> List V -> St -> Hp -> Prop, (∃ m, W 0 m [] (cp.st σ) H1) /\ ∀ i m ys σ' H', W i m ys σ' H' ->
  ys.length < sizeLine /\ ((J.stop i H' /\ ∀ D, H' D = none -> Q (.ref D) (upd H' D (.lst ys))) \/ (J.go i H' /\ ∃ N : List V -> St -> Hp -> Prop, (∀ zs σ2 H2, N zs σ2 H2 -> ∃ m', m' < m /\ W (i + 1) m' zs σ2 H2) /\ ∀ x H2, J.yld i H' x H2 -> g x σ' H2 fun σ2 H3 => tc σ2 H3 fun b H4 =>
    if b = true then te σ2 H4 fun v H5 => N (ys ++ [v]) σ2 H5 else N ys σ2 H4))
theorem r_comp : tComp wi cp g tc te σ H Q = wi σ H fun J H1 => CompW J cp g tc te σ H1 Q := rfl
def ForW (J : It) (g : TG) (tb : TS) (D : Ends) (σ : St) (H1 : Hp) : Prop := ∃ W : Nat -> Nat -> St -> Hp -> Prop, (∃ m, W 0 m σ H1) /\ ∀ i m σ H, W i m σ H ->
  (J.stop i H /\ D.nx σ H) \/ (J.go i H /\ ∃ N : St -> Hp -> Prop, (∀ σ' H', N σ' H' -> ∃ m', m' < m /\ W (i + 1) m' σ' H') /\ ∀ x H', J.yld i H x H' -> g x σ H' fun σ2 H2 => tb { D with nx := N, ct := N, bk := D.nx } σ2 H2)
theorem r_for {tb : TS} {D : Ends} : tFor wi g tb D σ H = wi σ H fun J H1 => ForW J g tb D σ H1 := rfl
theorem forL {a : Addr} {xs : List V} {g : TG} {tb : TS} {D : Ends} {σ : St} {H : Hp} (Pv : Nat -> St -> Hp -> Prop) (h0 : Pv 0 σ H) (hl : ∀ i σ H, i <= xs.length -> Pv i σ H -> SqL K H a xs)
    (hs : ∀ i x σ H, xs[i]? = some x -> Pv i σ H -> g x σ H fun σ2 H2 => tb { D with nx := Pv (i + 1), ct := Pv (i + 1), bk := D.nx } σ2 H2) (hd : ∀ σ H, Pv xs.length σ H -> D.nx σ H) : ForW (Itl K a) g tb D σ H := for_list Pv h0 hl hs hd
theorem forT {a : Addr} {xs : List V} {g : TG} {tb : TS} {D : Ends} {σ : St} {H : Hp} (Pv : Nat -> St -> Hp -> Prop) (h0 : Pv 0 σ H) (hl : ∀ i σ H, i <= xs.length -> Pv i σ H -> SqT K H a xs)
    (hs : ∀ i x σ H, xs[i]? = some x -> Pv i σ H -> g x σ H fun σ2 H2 => tb { D with nx := Pv (i + 1), ct := Pv (i + 1), bk := D.nx } σ2 H2) (hd : ∀ σ H, Pv xs.length σ H -> D.nx σ H) : ForW (Itt K a) g tb D σ H := for_tup Pv h0 hl hs hd
theorem forR {lo : Int} {n : Nat} {g : TG} {tb : TS} {D : Ends} {σ : St} {H : Hp} (Pv : Nat -> St -> Hp -> Prop) (h0 : Pv 0 σ H)
    (hs : ∀ i σ H, i < n -> Pv i σ H -> g (.int (lo + i)) σ H fun σ2 H2 => tb { D with nx := Pv (i + 1), ct := Pv (i + 1), bk := D.nx } σ2 H2) (hd : ∀ σ H, Pv n σ H -> D.nx σ H) : ForW (Itr lo n) g tb D σ H := for_range Pv h0 hs hd
theorem compT {a : Addr} {xs : List V} (Pv : Nat -> List V -> St -> Hp -> Prop) (h0 : Pv 0 [] (cp.st σ) H) (hz : xs.length < sizeLine)
    (hl : ∀ i ys σ H, i <= xs.length -> Pv i ys σ H -> SqT K H a xs /\ ys.length <= i)
    (hs : ∀ i x ys σ H, xs[i]? = some x -> Pv i ys σ H -> g x σ H fun σ2 H2 => tc σ2 H2 fun b H3 => if b = true then te σ2 H3 fun v H4 => Pv (i + 1) (ys ++ [v]) σ2 H4 else Pv (i + 1) ys σ2 H3)
    (hd : ∀ ys σ H, Pv xs.length ys σ H -> ∀ D, H D = none -> Q (.ref D) (upd H D (.lst ys))) : CompW (Itt K a) cp g tc te σ H Q := comp_tup Pv h0 hz hl hs hd
theorem compR {lo : Int} {n : Nat} (Pv : Nat -> List V -> St -> Hp -> Prop) (h0 : Pv 0 [] (cp.st σ) H) (hz : n < sizeLine)
    (hl : ∀ i ys σ H, i <= n -> Pv i ys σ H -> ys.length <= i)
    (hs : ∀ i ys σ H, i < n -> Pv i ys σ H -> g (.int (lo + i)) σ H fun σ2 H2 => tc σ2 H2 fun b H3 => if b = true then te σ2 H3 fun v H4 => Pv (i + 1) (ys ++ [v]) σ2 H4 else Pv (i + 1) ys σ2 H3)
    (hd : ∀ ys σ H, Pv n ys σ H -> ∀ D, H D = none -> Q (.ref D) (upd H D (.lst ys))) : CompW (Itr lo n) cp g tc te σ H Q := comp_range Pv h0 hz hl hs hd
theorem compMapT {a : Addr} {xs : List V} {σ' : St} (f : V -> V) (e : cp.st σ = none :: σ') (hl : SqT K H a xs) (hz : xs.length < sizeLine) (hs : ∀ x ∈ xs, ∀ R : VK, R (f x) H -> te (some x :: σ') H R) (hd : ∀ D, H D = none -> Q (.ref D) (upd H D (.lst (xs.map f)))) :
    CompW (Itt K a) cp (gName 0) tTrue te σ H Q := by
  refine compT (xs := xs) (fun i ys σ2 H2 => H2 = H /\ ys = (xs.take i).map f /\ ∃ o, σ2 = o :: σ') ⟨rfl, by simp, none, e⟩ hz (fun i ys σ2 H2 hi h => ?_) (fun i x ys σ2 H2 hx h => ?_) (fun ys σ2 H2 h => ?_)
  . obtain ⟨rfl, rfl, _⟩ := h
    exact ⟨hl, by rw [List.length_map, List.length_take]; omega⟩
  . obtain ⟨rfl, rfl, o, rfl⟩ := h
    refine hs x (List.mem_of_getElem? hx) _ ⟨rfl, ?_, some x, rfl⟩
    rw [List.take_add_one, hx]; simp
  . obtain ⟨rfl, rfl, _⟩ := h
    rw [List.take_length]
    exact hd
end
def tCut (t u : TS) : TS := fun D σ H => ∃ R : St -> Hp -> Prop, t { D with nx := R } σ H /\ ∀ σ' H', R σ' H' -> u D σ' H'
theorem pss_cut {X : Cx} {st : Stmt} {rest : List Stmt} {t u : TS} (h1 : PS X st t) (h2 : PSs X rest u) : PSs X (st :: rest) (tCut t u) := by
  intro pins s σ H D I h
  obtain ⟨R, ha, hb⟩ := h
  refine wpAny_execs_cons (thn (h1 pins s σ H { D with nx := R } I ha) fun f s1 q => ?_)
  cases f with
  | next =>
    obtain ⟨σ', H', I', q⟩ := q
    exact h2 pins s1 σ' H' D I' (hb σ' H' q)
  | ret v => exact q
  | brk => exact q
  | cont => exact q
theorem line1000 : 1000000 < sizeLine := by rw [sizeLine_eq]; decide
theorem mem_mapI {ns : List Int} {x : V} (h : x ∈ ns.map V.int) : ∃ n, n ∈ ns /\ x = .int n := by
  obtain ⟨n, hn, e⟩ := List.mem_map.mp h
  exact ⟨n, hn, e.symm⟩
theorem get_mapI {ns : List Int} {i : Nat} {x : V} (h : (ns.map V.int)[i]? = some x) : ∃ n, ns[i]? = some n /\ x = .int n := by
  rw [List.getElem?_map] at h
  cases e : ns[i]? with
  | none => rw [e] at h; cases h
  | some n => rw [e] at h; exact ⟨n, rfl, (Option.some.inj h).symm⟩
theorem atI_of {α : Type} {xs : List α} {i : Int} {v : α} (h0 : 0 <= i) (h : xs[i.toNat]? = some v) : atI xs i = some v := by
  have := atI_nat h
  rwa [show ((i.toNat : Nat) : Int) = i by omega] at this
theorem kit_self {K : PySem.W.Frag} {t : Value} : PySem.W.kitOne K t t = some true := by unfold PySem.W.kitOne; rw [if_pos (by simp)]
theorem kit_int_bool {K : PySem.W.Frag} : PySem.W.kitOne K (.type "int") (.type "bool") = some false := by
  first | rfl | decide +kernel | (unfold PySem.W.kitOne; kernel_rfl)
theorem rel_ty {n : String} : ∀ u, RelV (V.ty n) u -> u = .type n := fun _ h => h
theorem rel_ref {a : Addr} : ∀ u, RelV (V.ref a) u -> u = .ref a := fun _ h => h
end L2
set_option Elab.async false
set_option linter.all false
set_option maxRecDepth 100000
set_option maxHeartbeats 4000000
namespace L2
open PySem PySem.W PySem.Spec PySem.Calls PyProof.Rows
section
variable {prog : Program} {w : World} {A : Around} {E : Value -> Shared -> Prop} {s : Shared} {K : Frag} {x D : Addr} {ox : Obj}
structure ExcCls (K : Frag) (D : Addr) : Prop where
  ga : findIn K (.ref D) "__getattribute__" = some (some (.builtin "BaseException.__getattribute__"))
  hk : findIn K (.ref D) "__getattr__" = some none
  cl : (clsIn K D).isSome = true
  ca : findIn K (.ref D) "__class__" = some (some (.builtin "object.__class__"))
  gs : specialIn K (.builtin "object.__class__") "__get__" = some (some (.builtin "getset_descriptor.__get__"))
  tk : takesIn K (.builtin "object.__class__") = some true
  mo : mroIn K D (.type "object") = some true
  mb : mroIn K D (.type "BaseException") = some true
def ExcAt (x D : Addr) (h : Heap) : Prop := ∃ ox, h.get? x = some ox /\ ox.cls = .ref D
theorem ExcAt.type {M : Model} {h : Heap} (I : ExcAt x D h) : Looks M h (typeOf (.ref x)) (.ref D) := by
  obtain ⟨ox, h1, h2⟩ := I
  exact h2 ▸ (Looks.ld h1).andThen .now
theorem exc_find {M : Model} {h : Heap} (X : K.In h) (C : ExcCls K D) : Looks M h (Builtin.ObjectAttr.find (.ref x) (.ref D) "__class__") (.bind (.builtin "getset_descriptor.__get__") (.builtin "object.__class__")) :=
  (looks_findIn X C.ca).andThen ((show Looks M h (Builtin.ObjectAttr.getOf (some (.builtin "object.__class__"))) _ from looks_specialIn X C.gs).andThen
    ((show Looks M h (Builtin.ObjectAttr.dataDescriptor? (some (.builtin "object.__class__")) (some (.builtin "getset_descriptor.__get__"))) (some (.builtin "getset_descriptor.__get__", .builtin "object.__class__")) from (looks_takesIn X C.tk).andThen .now).andThen (Looks.tag .now)))
open Builtin Builtin.ObjectAttr Builtin.Getset_descriptor in
theorem exc_get {R : Result -> Shared -> Prop} {tp : Value} (X : K.In s.heap) (I : ExcAt x D s.heap) (hm : mroIn K D (.type "object") = some true) (h : R (.ok (.ret (.ref D))) s) : codeAny (model prog w) A (.call (.builtin "getset_descriptor.__get__") ⟨[.builtin "object.__class__", .ref x, tp], []⟩) R s := by
  have l0 := I.type (M := model prog w)
  have l1 := looks_mroIn (M := model prog w) X hm
  obtain ⟨_, _, _, _, _⟩ := s
  have sg := KF.slot_gs
  refine codeAny_call_builtin sg.plain KF.entry_gs (sg.check _ _ _ _ _ _ _ _ KF.type_class (KF.args_gs _ _ _) ?_)
  unfold Builtin.«getset_descriptor.__get__» descrGet
  rw [dga_obj]
  unfold descrGetter descrCheckInstance isInstance descrNameAndClass
  refine wpAny_bind (wpAny_pure ?_)
  simp only [KF.owner_class]
  repeat lk
  refine ⟨Code.quiet_builtin _ (by decide +kernel), codeAny_builtin KF.entry_class ?_⟩
  unfold Builtin.«object.__class__» shownTypeOf
  repeat lk
  exact h
theorem exc_check {M : Model} {nameV : Value} {Q : Unit -> Shared -> Prop} (X : K.In s.heap) (I : ExcAt x D s.heap) (C : ExcCls K D) (hq : Q () s) : wpAny M A (checkBuiltinCall "BaseException.__getattribute__" ⟨[.ref x, nameV], []⟩) Q E s := by
  have a1 := F.args_bexc_ga (.ref x) nameV
  have l0 := I.type (M := M)
  have l1 := looks_mroIn (M := M) X C.mb
  obtain ⟨_, _, _, _, _⟩ := s
  simp only [checkBuiltinCall, show builtinKind "BaseException.__getattribute__" = some .slot by decide +kernel, show splitId "BaseException.__getattribute__" = some ("BaseException", "__getattribute__") by decide +kernel, isInstance]
  repeat (first | lk | wp_step)
  exact hq
theorem exc_entry {tk : Tok} {Q : Fin -> Shared -> Prop} (X : K.In s.heap) (I : ExcAt x D s.heap) (C : ExcCls K D) (hq : Q (.done (.ret (.ref D))) s) : wpAny (model prog w) A (Builtin.«object.__getattribute__» ⟨[.ref x, .str "__class__" tk], []⟩) Q E s := by
  obtain ⟨hh, g, d, t, os⟩ := s
  have L0 := I.type (M := model prog w)
  have L1 := exc_find (M := model prog w) (x := x) X C
  unfold Builtin.«object.__getattribute__»
  refine wpAny_bind (wpAny_pure ?_)
  refine wpAny_bind (wpAny_pure ?_)
  refine wpAny_bind (L0.at ?_)
  refine wpAny_bind (L1.at ?_)
  show wpAny _ _ (Builtin.ObjectAttr.bindTo _ _ _ _) _ _ _
  unfold Builtin.ObjectAttr.bindTo
  dsimp only
  refine wpAny_bind (wpAny_holding (wpAny_call (exc_get (K := K) (s := ⟨hh, g, d, t, os⟩) X I C.mo ?_)))
  exact wpAny_pure hq
theorem exc_class {Q : Option Value -> Shared -> Prop} (X : K.In s.heap) (I : ExcAt x D s.heap) (C : ExcCls K D) (h : Q (some (.ref D)) { s with toks := s.toks + 1 }) : wpAny (model prog w) A (getAttr? (.ref x) "__class__") Q E s := by
  obtain ⟨hh, g, d, t, os⟩ := s
  have L0 := I.type (M := model prog w)
  have L1 := looks_findIn (M := model prog w) X C.ga
  have L2 := looks_findIn (M := model prog w) X C.hk
  unfold getAttr? getAttrBy? getAttrBy
  refine wpAny_bind (wpAny_mkText (wpAny_bind (wpAny_attempt (wpAny_holding (wpAny_bind (L0.at (wpAny_bind (L1.at ?_))))))))
  show wpAny _ _ (getAttrByItsOwn _ _ _ _ _ _) _ _ _
  unfold getAttrByItsOwn hookBefore
  refine wpAny_bind ?_
  rw [if_pos (by rfl)]
  refine L2.at (wpAny_bind (wpAny_attempt (wpAny_holding ?_)))
  unfold callGetattribute
  rw [if_neg (by decide)]
  unfold boundAndCalled
  have f3 := PySem.F.attr_ValueError.ga.bind (.ref x)
  refine wpAny_bind (wpAny_of_eq f3 ?_)
  refine wpAny_call (codeAny_call_builtin PySem.F.attr_ValueError.ga.plain F.entry_bexc_ga (exc_check (K := K) (s := ⟨hh, g, d, t + 1, os⟩) X I C (exc_entry (K := K) (s := ⟨hh, g, d, t + 1, os⟩) X I C ?_)))
  exact wpAny_pure (wpAny_pure h)
theorem kitx_exc (C : ExcCls K D) : KitX K (.ref x) (.ref D) (ExcAt x D) := by
  have cl := C.cl
  unfold clsIn at cl
  refine ⟨fun _ _ _ I => I.type, fun _ _ X _ => ?_, fun h tp dd its n sl X htp => ?_, fun X I k => exc_class X I C k⟩
  . split at cl
    . rename_i ho
      intro A' Q' E' s' k q
      exact wpAny_bind (wpAny_loadPart (k _ _ (X _ _ ho)) (wpAny_pure q))
    . cases cl
  . split at cl
    . rename_i ho
      cases hb : (Value.ref D == Value.ref tp) with
      | false => rfl
      | true =>
        obtain rfl : D = tp := Value.ref.inj (beq_iff_eq.mp hb)
        cases (X _ _ ho).symm.trans htp
    . cases cl
end
section
variable {P : Program} {w : World}
theorem ObjOk.there {H : Hp} {h : Heap} {a : Addr} {o : HO} (x : ObjOk P w H h a o) : ∃ ob, h.get? a = some ob := by
  induction o with
  | lst xs => obtain ⟨_, _, _, _, e⟩ := x; exact ⟨_, e⟩
  | tup xs => obtain ⟨_, _, _, ob, e, _⟩ := x; exact ⟨_, e⟩
  | dK kvs => obtain ⟨_, _, _, _, o, _, _, e, _⟩ := x; exact ⟨_, e⟩
  | dT kvs => obtain ⟨_, _, _, _, o, _, _, e, _⟩ := x; exact ⟨_, e⟩
  | set S n => obtain ⟨o, _, _, _, e, _⟩ := x; exact ⟨_, e⟩
  | ins C dx fs => obtain ⟨_, _, _, e, _⟩ := x; exact ⟨_, e⟩
  | own y => obtain ⟨_, e⟩ := x; exact ⟨_, e⟩
  | xd fs => obtain ⟨_, ⟨_, _, _, e, _⟩, _⟩ := x; exact ⟨_, e⟩
  | rng lo hi => obtain ⟨_, _, _, e⟩ := x; exact ⟨_, e⟩
  | frz ob u ih => obtain ⟨e, _⟩ := x; exact ⟨_, e⟩
  | tbl ps => exact ⟨_, (show h.get? a = some _ from x)⟩
  | met f y => exact ⟨_, (show h.get? a = some _ from x)⟩
  | ext φ => obtain ⟨_, ⟨_, e⟩, _⟩ := x; exact ⟨_, e⟩
structure Fly (P : Program) (w : World) (fs : List Addr) (H1 H' : Hp) (h1 g B : Heap) : Prop where
  un : Un fs [] H1 H' h1 g
  hok : HOk P w H' g
  cov : ∀ b o, g.get? b = some o -> (H' b ≠ none \/ ∃ o', h1.get? b = some o') -> b ∉ fs -> B.get? b = some o
theorem Fly.move {fs : List Addr} {H1 H' : Hp} {h1 g B h2 : Heap} (x : Fly P w fs H1 H' h1 g B) (frees : ∀ b ∈ fs, H' b = none) (st : B.StaysIn h2) (up : ∀ b ∈ fs, ∀ o, g.get? b = some o -> ∃ sl, h2.get? b = some { o with slots := sl }) : Fly P w fs H1 H' h1 h2 B := by
  have keep : ∀ b o, g.get? b = some o -> (H' b ≠ none \/ ∃ o', h1.get? b = some o') -> b ∉ fs -> h2.get? b = some o := fun b o e h n => st b o (x.cov b o e h n)
  have nfs : ∀ b u, H' b = some u -> b ∉ fs := fun b u e z => by rw [frees b z] at e; cases e
  refine ⟨⟨fun b o e n hb hx => ?_, fun b o e n hb hx => ?_, fun b o e n hx => x.un.free b o e n hx, fun b o e hx => ?_, x.un.tups, x.un.frzs, x.un.tbls⟩, fun b u e => ?_, fun b o e h n => ?_⟩
  . exact keep b o (x.un.keep b o e n hb hx) (.inr ⟨o, e⟩) hb
  . obtain ⟨sl, e1⟩ := x.un.slot b o e n hb hx
    obtain ⟨sl', e2⟩ := up b hb _ e1
    exact ⟨sl', e2⟩
  . obtain ⟨o', e1⟩ := x.un.there b o e hx
    by_cases hb : b ∈ fs
    . obtain ⟨sl', e2⟩ := up b hb _ e1
      exact ⟨_, e2⟩
    . exact ⟨o', keep b o' e1 (.inr ⟨o, e⟩) hb⟩
  . refine (x.hok b u e).stay (fun c v hc q => ?_) (fun _ q => q) fun _ _ q => q
    rcases hc with rfl | hc
    . exact keep c v q (.inl (by rw [e]; simp)) (nfs c u e)
    . exact keep c v q (.inl (by rw [hc]; simp)) (nfs c _ hc)
  . -- B has it still
    have ⟨o1, e1⟩ : ∃ o1, g.get? b = some o1 := by
      rcases h with h | ⟨o', h⟩
      . cases q : H' b with
        | none => exact absurd q h
        | some u => exact (x.hok b u q).there
      . exact x.un.there b o' h (by simp)
    have e2 := x.cov b o1 e1 h n
    have e3 := st b o1 e2
    rw [e] at e3
    cases e3
    exact e2
def CXe (P : Program) (w : World) : CXT := fun outer H s E e s' => ∃ (ea : Addr) (cls a0 : Value) (H' : Hp) (B : Heap), e = .ref ea /\ s'.os = s.os /\ AllBare s'.gens /\ Fly P w (frs outer) H H' s.heap s'.heap B /\ Heap.FlyingW B outer ea cls a0 s'.heap /\ E cls none H'
theorem fly_frees {X : Cx} {pins : List (Addr × Obj)} {σ : St} {H1 H' : Hp} {s1 : Shared} {g B : Heap} (I : Inv X pins σ H1 s1) (x : Fly P w (frs X.stack) H1 H' s1.heap g B) : ∀ b ∈ frs X.stack, H' b = none := fun b hb => by
  obtain ⟨_, o, ho, _⟩ := I.stack.mem hb
  exact x.un.free b o ho (I.stkFree b hb) (by simp)
theorem passE {K : PySem.W.Frag} {mg : Str -> Option Value} {base : Heap} {N : List Str} {qual : Str} {scope : Scope} {f : Addr} {cd : Value} {A : Around} {outer : List Env} {s : Shared} {H : Hp} {E E' : XK} (hE : ∀ c d H', E' c d H' -> E c d H') :
    Passes (CXe P w) (cxOf (CXe P w) P w K mg base N qual scope f cd A outer s H E) E' := by
  intro pins σ H1 s1 e s' I hc
  obtain ⟨ea, cls, a0, H', B, rfl, os, bare, fl, fw, q⟩ := hc
  have fr : (cxOf (CXe P w) P w K mg base N qual scope f cd A outer s H E).A.frames = some (envOfC qual scope s.heap.objs.size f cd :: outer) := I.ok.frames
  refine wpAny_leaves_onW fr rfl fw fun h' fw' ups => ?_
  have fl2 := fl.move (fly_frees I fl) fw'.1 (fun b hb o e => by
    obtain ⟨_, o', ho', nf⟩ := fw.2.2.1.mem hb
    rw [e] at ho'; cases ho'
    exact ups b o e nf)
  have I2 : Inv (cxOf (CXe P w) P w K mg base N qual scope f cd A outer s H E) pins σ H' { s' with heap := h' } := I.call' (s' := { s' with heap := h' }) os fl2.un fl2.hok bare (fun b hb => by cases hb)
  refine ⟨ea, cls, a0, H', B, rfl, I2.os, I2.bare, ⟨I2.base, I2.hok, fun b o e h n => fl2.cov b o e ?_ (fun z => ?_)⟩, fw', hE _ _ _ q⟩
  . rcases h with h | ⟨o', h⟩
    . exact .inl h
    . obtain ⟨o2, e2⟩ := I.base.there b o' h (by show b ∉ ([] : List Addr); simp)
      exact .inr ⟨o2, e2⟩
  . rcases List.mem_cons.mp (I.stkSub b z) with e' | e'
    . rcases h with h | ⟨o', h⟩
      . exact h (by rw [e']; exact I2.free)
      . have := Heap.lt_size h
        rw [e'] at this
        exact absurd (Nat.lt_of_lt_of_le this I.ok.above) (Nat.lt_irrefl _)
    . exact n e'
theorem raiseE {K : PySem.W.Frag} {mg : Str -> Option Value} {base : Heap} {N : List Str} {qual : Str} {scope : Scope} {f : Addr} {cd : Value} {A : Around} {outer : List Env} {s : Shared} {H : Hp} {E : XK}
    {pins : List (Addr × Obj)} {σ : St} {H1 : Hp} {s1 : Shared} {h' : Heap} {ea : Addr} {cls : Value} {vs : List Value}
    (I : Inv (cxOf (CXe P w) P w K mg base N qual scope f cd A outer s H E) pins σ H1 s1) (hx : Heap.MadeExcOf s1.heap h' ea cls vs) (q : E cls none H1) :
    (cxOf (CXe P w) P w K mg base N qual scope f cd A outer s H E).xe (.ref ea) { s1 with heap := h' } := by
  have fr : (cxOf (CXe P w) P w K mg base N qual scope f cd A outer s H E).A.frames = some (envOfC qual scope s.heap.objs.size f cd :: outer) := I.ok.frames
  have hin : ∀ env ∈ (envOfC qual scope s.heap.objs.size f cd :: outer), ∀ b, env.frame = some b -> b ∈ frs (envOfC qual scope s.heap.objs.size f cd :: outer) := fun env he b hb => List.mem_filterMap.mpr ⟨env, he, hb⟩
  have stk := I.stack
  have fl : Fly P w (frs (envOfC qual scope s.heap.objs.size f cd :: outer)) H1 H1 s1.heap s1.heap (PySem.W.hideAll s1.heap (frs (envOfC qual scope s.heap.objs.size f cd :: outer))) := ⟨Un.refl, I.hok, fun b o e _ n => PySem.W.hideAll_get _ e n⟩
  refine wpAny_leaves_madeW (base := PySem.W.hideAll s1.heap (frs (envOfC qual scope s.heap.objs.size f cd :: outer))) (h := s1.heap) fr rfl (fun b o q => PySem.W.of_hideAll _ q) ?_ hx fun h'' t fw' ht hnt ups => ?_
  . exact PySem.W.funFrames_hide stk hin
  . have fl2 := fl.move (fly_frees (X := cxOf (CXe P w) P w K mg base N qual scope f cd A outer s H E) I fl) fw'.1 (fun b hb o e => by
      obtain ⟨_, o', ho', nf⟩ := stk.mem hb
      rw [e] at ho'; cases ho'
      exact ups b o (hx.keeps b o e) nf)
    have I2 : Inv (cxOf (CXe P w) P w K mg base N qual scope f cd A outer s H E) pins σ H1 { s1 with heap := h'' } := I.call' (s' := { s1 with heap := h'' }) rfl fl2.un fl2.hok I.bare (fun b hb => by cases hb)
    refine ⟨ea, cls, .ref t, H1, _, rfl, I2.os, I2.bare, ⟨I2.base, I2.hok, fun b o e h n => fl2.cov b o e ?_ (fun z => ?_)⟩, fw', q⟩
    . rcases h with h | ⟨o', h⟩
      . exact .inl h
      . obtain ⟨o2, e2⟩ := I.base.there b o' h (by show b ∉ ([] : List Addr); simp)
        exact .inr ⟨o2, e2⟩
    . rcases List.mem_cons.mp (I.stkSub b z) with e' | e'
      . rcases h with h | ⟨o', h⟩
        . exact h (by rw [e']; exact I2.free)
        . have := Heap.lt_size h
          rw [e'] at this
          exact absurd (Nat.lt_of_lt_of_le this I.ok.above) (Nat.lt_irrefl _)
      . exact n e'
end
theorem exc_obj {K : Frag} {h : Heap} {C : Addr} {bmB : List Value} {newId : String} (X : K.In h) (q : excIn K C bmB newId = true) :
    ∃ bm N nm q bs hdct sn sub ab col dd k0 k1 k2 k3 k5 mN, h.get? C = some (excClassObj nm q C N bs bm hdct sn sub ab col dd k0 k1 k2 k3 k5 newId) /\ h.Ns N mN /\ mN "__init__" = none /\ OwnTail h bmB bm := by
  delta excIn at q
  split at q
  case h_2 => cases q
  rename_i d0 c0 s0 hl
  split at q
  case h_2 => cases q
  rename_i B tl a0 a1 a2 a3 id0 a5 em es
  have g := X C _ hl
  repeat rw [Bool.and_eq_true] at q
  rcases q with ⟨⟨⟨⟨⟨e1, e2⟩, e3⟩, e4⟩, e5⟩, e6⟩
  cases eq_of_beq e1
  cases eq_of_beq e2
  rcases s0 with ⟨l0⟩
  cases es
  rcases c0 with ⟨f0, f1, f2, f3, f4, f5, f6, f7, f8, f9, f10⟩
  cases em
  cases f10
  . exact ⟨tl, f3, f0, f4, f1, f5, f6, f7, f8, f9, d0, a0, a1, a2, a3, a5, h.nsMap f3, g, .of_isNs (isNs_of_in X e5), nsMap_none_of_in X e5 (eq_of_beq e6), tail_of_in X e4⟩
  . cases e3
def bmV : List Value := [.type "ValueError", .type "Exception", .type "BaseException", .type "object"]
section
variable {P : Program} {w : World} {K : PySem.W.Frag} {mg : Str -> Option Value} {base : Heap} {N : List Str} {qual : Str} {scope : Scope} {f : Addr} {cd : Value} {A : Around} {outer : List Env} {s : Shared} {H : Hp} {E : XK}
def tRaise (C : Addr) (E : XK) (ta : TA) : TS := fun _ σ H => ta σ H fun vs H1 => vs.length <= sizeLine /\ E (.ref C) none H1
theorem ps_raise {x : Str} {C : Addr} {newId : String} {np cpos pos : Pos} {e₀ : Expr} {rest : List Expr} {ta : TA} (hm : mg x = some (.ref C)) (hx : excIn K C bmV newId = true) (hg : Gl (cxOf (CXe P w) P w K mg base N qual scope f cd A outer s H E) x)
    (hn : newId = "ValueError.__new__") (ha : PA (cxOf (CXe P w) P w K mg base N qual scope f cd A outer s H E) (e₀ :: rest) ta)
    (he : starEach (e₀ :: rest) (cxOf (CXe P w) P w K mg base N qual scope f cd A outer s H E).env = (false, eval e₀ (cxOf (CXe P w) P w K mg base N qual scope f cd A outer s H E).env) :: starEach rest (cxOf (CXe P w) P w K mg base N qual scope f cd A outer s H E).env := by rfl)
    (hplain : (backTo cpos (starEach rest (cxOf (CXe P w) P w K mg base N qual scope f cd A outer s H E).env)).any (·.1) = false := by rfl) (hd : (x == ("__debug__" : Str)) = false := by decide) :
    PS (cxOf (CXe P w) P w K mg base N qual scope f cd A outer s H E) (.Raise (some (.Call (.Name x np) (e₀ :: rest) [] cpos)) none pos) (tRaise C E ta) := by
  intro pins s1 σ H1 D I h
  subst hn
  obtain ⟨bm, Nc, nm, q, bs, hdct, sn, sub, ab, col, dd, k0, k1, k2, k3, k5, mN, hC, hN, hni, T⟩ := exc_obj I.mod.kin hx
  refine wpAny_Raise_call_subU (C := C) (nm := nm) (q := q) (N := Nc) (bs := bs) (bm := bm) (hdct := hdct) (sn := sn) (sub := sub) (ab := ab) (col := col) (dd := dd) (k0 := k0) (k1 := k1) (k2 := k2) (k3 := k3) (k5 := k5)
    PySem.F.excBase_ValueError (bmB := bmV) (by decide +kernel) PySem.F.excBase_ValueError (mN := mN) (T.hasType PySem.F.excBase_ValueError.hasBase) (I.ok.hd rfl) (by rw [he]; show (false || (backTo cpos (starEach rest _)).any (·.1)) = false; rw [hplain]; rfl) hni (ld_glob I hg hm ⟨rfl, ?_⟩ hd)
  have hA := ha cpos pins s1 σ H1 _ I h
  rw [he] at hA ⊢
  refine Calls.evalArgs_plain (thn hA fun us s2 ⟨vs, H2, I2, r2, hz, q2⟩ => ⟨rfl, by rw [<- r2.length]; exact hz, I2.bk _ _ hC, hN.keeps I2.bk, T.keeps I2.bk, fun h' e hm => raiseE I2 hm q2⟩)
end
end L2
set_option Elab.async false
set_option linter.all false
set_option maxRecDepth 100000
set_option maxHeartbeats 4000000
namespace L2
open PySem PySem.Spec PyProof.Rows
abbrev Cx.body (X : Cx) (xe : Value -> Shared -> Prop) (pn : List (Addr × Obj)) : Cx := { X with xe := xe, pn := pn }
abbrev Cx.suite (X : Cx) (ea : Addr) (pn : List (Addr × Obj)) : Cx := { X with A := X.A.mark (some (.ref ea)), calm := false, xe := fun _ _ => False, pn := pn }
section
variable {X : Cx} {pins pins' : List (Addr × Obj)} {σ : St} {H : Hp} {s : Shared} {xe xe' : Value -> Shared -> Prop} {ea : Addr}
theorem Inv.toBody (I : Inv X pins σ H s) : Inv (X.body xe (X.pn ++ pins)) [] σ H s :=
  ⟨⟨I.ok.mod, I.ok.kind, I.ok.glob, I.ok.blt, I.ok.above, I.ok.inj, I.ok.has, I.ok.cab, I.ok.hd, I.ok.frames, I.ok.stk, I.ok.exf, I.ok.bs, I.ok.bsz, I.ok.noex, I.ok.exfs, I.ok.funs, I.ok.frf⟩, I.os, I.bare, I.base, I.loc, I.cell, I.free, I.freeC, fun p hp => I.pin p (by simpa using hp), I.hok, I.len⟩
theorem Inv.ofBody (I : Inv (X.body xe (X.pn ++ pins)) pins' σ H s) : Inv X pins σ H s :=
  ⟨⟨I.ok.mod, I.ok.kind, I.ok.glob, I.ok.blt, I.ok.above, I.ok.inj, I.ok.has, I.ok.cab, I.ok.hd, I.ok.frames, I.ok.stk, I.ok.exf, I.ok.bs, I.ok.bsz, I.ok.noex, I.ok.exfs, I.ok.funs, I.ok.frf⟩, I.os, I.bare, I.base, I.loc, I.cell, I.free, I.freeC, fun p hp => I.pin p (List.mem_append_left _ hp), I.hok, I.len⟩
theorem Inv.reBody {pn : List (Addr × Obj)} (I : Inv (X.body xe pn) pins' σ H s) : Inv (X.body xe' pn) pins' σ H s :=
  ⟨⟨I.ok.mod, I.ok.kind, I.ok.glob, I.ok.blt, I.ok.above, I.ok.inj, I.ok.has, I.ok.cab, I.ok.hd, I.ok.frames, I.ok.stk, I.ok.exf, I.ok.bs, I.ok.bsz, I.ok.noex, I.ok.exfs, I.ok.funs, I.ok.frf⟩, I.os, I.bare, I.base, I.loc, I.cell, I.free, I.freeC, I.pin, I.hok, I.len⟩
theorem Inv.toSuite (I : Inv X pins σ H s) : Inv (X.suite ea (X.pn ++ pins)) [] σ H s :=
  ⟨⟨I.ok.mod, I.ok.kind, I.ok.glob, I.ok.blt, I.ok.above, I.ok.inj, I.ok.has, I.ok.cab, fun z => absurd (show false = true from z) Bool.false_ne_true, I.ok.frames, I.ok.stk, I.ok.exf, I.ok.bs, I.ok.bsz, I.ok.noex, I.ok.exfs, I.ok.funs, I.ok.frf⟩, I.os, I.bare, I.base, I.loc, I.cell, I.free, I.freeC, fun p hp => I.pin p (by simpa using hp), I.hok, I.len⟩
theorem Inv.ofSuite (hd : X.calm = true -> X.A.handled = none) (I : Inv (X.suite ea (X.pn ++ pins)) pins' σ H s) : Inv X pins σ H s :=
  ⟨⟨I.ok.mod, I.ok.kind, I.ok.glob, I.ok.blt, I.ok.above, I.ok.inj, I.ok.has, I.ok.cab, hd, I.ok.frames, I.ok.stk, I.ok.exf, I.ok.bs, I.ok.bsz, I.ok.noex, I.ok.exfs, I.ok.funs, I.ok.frf⟩, I.os, I.bare, I.base, I.loc, I.cell, I.free, I.freeC, fun p hp => I.pin p (List.mem_append_left _ hp), I.hok, I.len⟩
theorem Inv.forget {i : Nat} {n : Str} {m : Str -> Option Value} {v : Option Value} {h' : Heap} {t' : Nat} (I : Inv X pins σ H s) (hN : X.N.Nodup) (hi : X.N[i]? = some n) (hx : X.env.scope.names.lookup n = some .local)
    (hl : ∀ (i : Nat) (x : Str) (v : V), X.N[i]? = some x -> σ[i]? = some (some v) -> Vis X.env.scope x -> ∃ u, RelV v u /\ Look X.env s.heap m x u) (hn : s.heap.Ns X.env.locals m)
    (hn' : h'.Ns X.env.locals (fun x => if x = n then v else m x)) (hs : Heap.SameBut X.env.locals s.heap h') : Inv X pins (σ.set i none) H { s with heap := h', toks := t' } := by
  have cne := I.cne
  obtain ⟨oL, _, _, hoL, _⟩ := id hn
  have tracked : HOk X.prog X.w H h' := fun b ob e => by
    refine (I.hok b ob e).stay (fun c w' hc q => (hs.2 c ?_).trans q) (fun _ q => q) fun _ _ q => q
    rintro rfl
    rcases hc with rfl | hc
    . rw [I.free] at e; cases e
    . rw [I.free] at hc; cases hc
  refine ⟨I.ok, I.os, I.bare, ⟨fun b o e n hb hx => ?_, fun b o e n hb hx => ?_, I.base.free, fun b o e hx => ?_, I.base.tups, I.base.frzs, I.base.tbls⟩, ⟨_, hn', fun j y v' e1 e2 e3 => ?_⟩, fun y c e => ?_, I.free, I.freeC, fun p hp => ?_, tracked, by simpa using I.len⟩
  . exact (hs.2 b (Nat.ne_of_lt (Nat.lt_of_lt_of_le (Heap.lt_size e) I.ok.above))).trans (I.base.keep b o e n hb hx)
  . obtain ⟨sl, e1⟩ := I.base.slot b o e n hb hx
    exact ⟨sl, (hs.2 b (Nat.ne_of_lt (Nat.lt_of_lt_of_le (Heap.lt_size e) I.ok.above))).trans e1⟩
  . obtain ⟨o', e1⟩ := I.base.there b o e hx
    exact ⟨o', (hs.2 b (Nat.ne_of_lt (Nat.lt_of_lt_of_le (Heap.lt_size e) I.ok.above))).trans e1⟩
  . by_cases hj : j = i
    . subst hj
      have hlt : j < σ.length := by
        have := (List.getElem?_eq_some_iff.mp e2).1
        simpa using this
      rw [List.getElem?_set_self hlt] at e2
      cases e2
    . rw [List.getElem?_set_ne (Ne.symm hj)] at e2
      obtain ⟨u', r', q⟩ := hl j y v' e1 e2 e3
      refine ⟨u', r', ?_⟩
      rcases q with ⟨k, e⟩ | ⟨k, c, e, z⟩
      . refine .inl ⟨k, ?_⟩
        have : y ≠ n := fun e => hj (nodup_ix hN e1 (e ▸ hi))
        simp [this, e]
      . exact .inr ⟨k, c, e, z.sameBut hs (cne y c e)⟩
  . obtain ⟨w', z⟩ := I.cell y c e
    exact ⟨w', z.sameBut hs (cne y c e)⟩
  . obtain ⟨e, n, ne, nf, d⟩ := I.pin p hp
    exact ⟨(hs.2 p.1 ne).trans e, n, ne, nf, d⟩
end
def PassesAt (CX : CXT) (X : Cx) (σ : St) (E : XK) : Prop := ∀ (pins : List (Addr × Obj)) (H : Hp) (s : Shared) (e : Value) (s' : Shared), Inv X pins σ H s -> CX X.stack H s E e s' -> X.xe e s'
def tCallE (sp : Sp) (dvs : List V) (E : St -> XK) (t : TA) : TE := fun σ H Q => t σ H fun vs H1 => sp (vs ++ dvs) H1 Q (E σ)
section
variable {X : Cx} {CX : CXT} {k : Nat} {f C : Addr} {fd : FuncData} {ps : List Str} {sp : Sp} {dvs : List V} {ds : List Value} {E : St -> XK} {x : Str} {p pos : Pos} {e : Expr} {es : List Expr} {t : TA}
theorem run_fnE {pins : List (Addr × Obj)} {σ : St} {H : Hp} {s : Shared} {Q : VK} {us : List Value} {vs : List V} {E : XK} (F : FnOk X.prog X.w X.K X.mg X.base CX k f fd ps sp) (hr : Room k X.A) (hb : Binds X.K fd ps ds) (hd : Vals dvs ds) (hx : PassesAt CX X σ E)
    (I : Inv X pins σ H s) (r : Vals vs us) (h : sp (vs ++ dvs) H Q E) : wpAny (model X.prog X.w) X.A (call (.ref f) us) (EP X pins σ Q) X.xe s := by
  have r2 : Vals (vs ++ dvs) (us ++ ds) := r.append hd
  have hl : (us ++ ds).length = ps.length := by rw [<- r2.length]; exact F.len _ _ _ _ h
  refine wpAny_call (codeAny_mono (F.run X.A X.stack s H ⟨us, []⟩ (us ++ ds) (vs ++ dvs) Q E hr I.env0 (hb s us I.kIn hl) r2 h) fun r s' hq => ?_)
  cases r with
  | error e => exact hx pins H s e s' I hq
  | ok fl =>
    cases fl with
    | ret u => exact I.after hq
    | next => exact False.elim hq
    | brk => exact False.elim hq
    | cont => exact False.elim hq
theorem pe_callE (F : FnOk X.prog X.w X.K X.mg X.base CX k f fd ps sp) (hr : Room k X.A) (hg : Gl X x) (hm : X.mg x = some (.ref f)) (hk : PySem.W.keepIn X.K (.ref f) = true) (hb : Binds X.K fd ps ds) (hd : Vals dvs ds) (hx : ∀ σ, PassesAt CX X σ (E σ))
    (ha : PA X (e :: es) t) (hdb : (x == ("__debug__" : Str)) = false := by decide) (he : starEach (e :: es) X.env = (false, eval e X.env) :: starEach es X.env := by rfl) (hpl : (backTo pos (starEach es X.env)).any (·.1) = false := by rfl) :
    PE X (.Call (.Name x p) (e :: es) [] pos) (tCallE sp dvs E t) := by
  intro pins s σ H Q I h
  refine wpAny_Call_Name_kw (ld_glob I hg hm ?_ hdb)
  refine PySem.W.callWith_K (h₀ := X.base) I.ok.mod.kin hk (thn (ha pos pins s σ H _ I h) fun us s1 ⟨vs, H1, I1, r, q⟩ => ⟨I1.kIn, ?_⟩) he hpl
  exact run_fnE F hr hb hd (hx σ) I1 r q
end
def excO (ea C : Addr) : HO := .ext (ExcAt ea C)
def Ends.un (D : Ends) (i : Nat) : Ends := { nx := fun σ H => D.nx (σ.set i none) H, rt := D.rt, bk := fun σ H => D.bk (σ.set i none) H, ct := fun σ H => D.ct (σ.set i none) H }
def tTry (K : PySem.W.Frag) (Ca : Addr) (i : Nat) (E : St -> XK) (tb ts : TS) : TS := fun D σ H => tb D σ H /\ ∀ σ' cls H', E σ' cls none H' ->
  ∃ C, cls = .ref C /\ PySem.W.exmOne K (.ref C) (.ref Ca) = some true /\ ∀ ea, H' ea = none -> ts (D.un i) (σ'.set i (some (.ref ea))) (upd H' ea (excO ea C))
theorem ps_try {X : Cx} {body : List Stmt} {c n : Str} {Ca : Addr} {np hpos pos : Pos} {b₀ : Stmt} {suite : List Stmt} {i : Nat} {E : St -> XK} {tb ts : TS} (hN : X.N.Nodup) (hi : X.N[i]? = some n) (hn : X.env.scope.names.lookup n = some .local)
    (hg : Gl X c) (hm : X.mg c = some (.ref Ca)) (hst : X.stack = X.env :: X.outer) (hL : X.env.frame = some X.env.locals) (hex : X.ex = [])
    (hb : ∀ xe pn, (∀ σ, PassesAt (CXe X.prog X.w) (X.body xe pn) σ (E σ)) -> PSs (X.body xe pn) body tb) (hs : ∀ ea pn, PSs (X.suite ea pn) (b₀ :: suite) ts) (hd : (c == ("__debug__" : Str)) = false := by decide) :
    PS X (.Try body [.ExceptHandler (some (.Name c np)) (some n) (b₀ :: suite) hpos] [] [] pos) (tTry X.K Ca i E tb ts) := by
  intro pins s σ H D I h
  obtain ⟨hbody, hhand⟩ := h
  have hB := hb (fun e s' => ∃ pins' σ' H1 s1, Inv (X.body (fun _ _ => True) (X.pn ++ pins)) pins' σ' H1 s1 /\ CXe X.prog X.w X.stack H1 s1 (E σ') e s') (X.pn ++ pins) (fun σ pins' H s e s' I' hcx => ⟨pins', σ, H, s, I'.reBody, hcx⟩) [] s σ H D I.toBody hbody
  refine wpAny_Try_except (wpAny_mono hB (fun f s1 q => ?_) fun e s1 q => ?_)
  . cases f with
    | next => obtain ⟨σ1, H1, I1, q1⟩ := q; exact wpAny_execs_nil ⟨σ1, H1, I1.ofBody, q1⟩
    | brk => obtain ⟨σ1, H1, I1, q1⟩ := q; exact ⟨σ1, H1, I1.ofBody, q1⟩
    | cont => obtain ⟨σ1, H1, I1, q1⟩ := q; exact ⟨σ1, H1, I1.ofBody, q1⟩
    | ret v => obtain ⟨x1, σ1, H1, I1, r1, q1⟩ := q; exact ⟨x1, σ1, H1, I1.ofBody, r1, q1⟩
  . obtain ⟨pins', σ', H1, s2, I2, ea, cls, a0, H', B, rfl, os, bare, fl, fw, hE⟩ := q
    obtain ⟨C, rfl, hexm, hts⟩ := hhand σ' cls H' hE
    have I2' : Inv X pins σ' H1 s2 := I2.ofBody
    have fr : X.A.frames = some (X.env :: X.outer) := by rw [I.ok.frames, hst]
    have frees := fly_frees I2' fl
    have fw0 := fw
    rw [hst] at fw
    have invAt : ∀ h', Heap.FlyingW B (X.env :: X.outer) ea (.ref C) a0 h' -> s1.heap.UpToSlots h' -> Inv X pins σ' H' { s1 with heap := h' } := fun h' fw' ups => by
      have fl2 := fl.move frees fw'.1 (fun b hb o e => by
        obtain ⟨_, o', ho', nf⟩ := fw0.2.2.1.mem hb
        rw [e] at ho'; cases ho'
        exact ups b o e nf)
      exact I2'.call' (s' := { s1 with heap := h' }) os fl2.un fl2.hok bare (fun b hb => by cases hb)
    refine wpAny_looks_onW fr hL fw fun h4 held4 up4 => ?_
    refine wpAny_landsW held4 fun h5 fw5 up5 => ?_
    have I5 := invAt h5 fw5 (up4.trans up5)
    have I5m : Inv (X.suite ea (X.pn ++ pins)) [] σ' H' { s1 with heap := h5 } := I5.toSuite
    refine wpAny_handleBy_cons (codeAny_handlers_test (ld_glob (X := X.suite ea (X.pn ++ pins)) I5m hg hm ?_ hd)) (by intro q; cases q)
    have LT : PySem.W.Looks (model X.prog X.w) h5 (typeOf (.ref ea)) (.ref C) := by
      obtain ⟨ob, hob, hoc⟩ := fw5.there
      exact hoc ▸ (PySem.W.Looks.ld hob).andThen .now
    refine (PySem.W.exm_one (K := X.K) (M := model X.prog X.w) I5.kIn LT hexm) _ _ _ _ (fun b o e => e) ?_
    refine codeAny_handlers_suite_as ?_
    refine lands_againW fw5 fun h6 fw6 up6 => ?_
    have I6 := invAt h6 fw6 ((up4.trans up5).trans up6)
    -- the exception's object is not tracked yet
    have hne : H' ea = none := by
      cases q : H' ea with
      | none => rfl
      | some u =>
        have nfs : ea ∉ frs X.stack := fun z => by rw [frees ea z] at q; cases q
        obtain ⟨o, ho⟩ := (fl.hok ea u q).there
        have := fl.cov ea o ho (.inl (by rw [q]; simp)) nfs
        rw [fw.2.1] at this
        cases this
    have new : ObjOk X.prog X.w (upd H' ea (excO ea C)) h6 ea (excO ea C) := by
      obtain ⟨ob, hob, hoc⟩ := fw6.there
      refine ⟨⟨ob, hob, hoc⟩, ⟨ob, hob⟩, fun g1 g2 ⟨o1, e1, c1⟩ k => ⟨o1, k o1 e1, c1⟩⟩
    have hsz : s2.heap.get? ea = none := by
      cases q : s2.heap.get? ea with
      | none => rfl
      | some o =>
        by_cases z : ea ∈ frs X.stack
        . obtain ⟨_, o', ho', nf⟩ := fw0.2.2.1.mem z
          obtain ⟨oe, vs, hoe, _, hdt, _⟩ := fw.first
          rw [ho'] at hoe; cases hoe
          exact absurd hdt (nf vs)
        . obtain ⟨o', e'⟩ := fl.un.there ea o q (by simp)
          have := fl.cov ea o' e' (.inr ⟨o, q⟩) z
          rw [fw.2.1] at this
          cases this
    have I6t : Inv X pins σ' (upd H' ea (excO ea C)) { s1 with heap := h6 } := by
      refine ⟨I6.ok, I6.os, I6.bare, ?_, I6.loc, I6.cell, ?_, fun x c e => ?_, fun p hp => ?_, I6.hok.track hne new, I6.len⟩
      . -- newer than the entry
        have h0 : X.s₀.heap.get? ea = none := by
          cases q : X.s₀.heap.get? ea with
          | none => rfl
          | some o =>
            obtain ⟨o', e'⟩ := I2'.base.there ea o q (by rw [hex]; simp)
            rw [hsz] at e'; cases e'
        refine ⟨I6.base.keep, I6.base.slot, fun b o e n hx => ?_, I6.base.there, fun b xs q => ?_, fun b ob xs q => ?_, fun b ps q => ?_⟩
        . rw [upd_ne (fun z => by rw [z, h0] at e; cases e)]; exact I6.base.free b o e n hx
        . have := I6.base.tups b xs q; rw [upd_ne (ne_of_none this hne)]; exact this
        . have := I6.base.frzs b ob xs q; rw [upd_ne (ne_of_none this hne)]; exact this
        . obtain ⟨more, e⟩ := I6.base.tbls b ps q
          exact ⟨more, by rw [upd_ne (ne_of_none e hne)]; exact e⟩
      . rw [upd_ne (fun z => ?_)]
        . exact I6.free
        . have := I2'.lt
          obtain ⟨m, ⟨o, _, _, ho, _⟩, _⟩ := I2'.loc
          rw [z, hsz] at ho; cases ho
      . rw [upd_ne (fun z => ?_)]
        . exact I6.freeC x c e
        . obtain ⟨v, o, ho, _⟩ := I2'.cell x c e
          rw [z, hsz] at ho; cases ho
      . obtain ⟨e, n, r⟩ := I6.pin p hp
        refine ⟨e, ?_, r⟩
        rw [upd_ne (fun z => ?_)]
        . exact n
        . have := (I2'.pin p hp).1
          rw [z, hsz] at this; cases this
    have I6m : Inv (X.suite ea (X.pn ++ pins)) [] σ' (upd H' ea (excO ea C)) { s1 with heap := h6 } := I6t.toSuite
    refine store_ok (X := X.suite ea (X.pn ++ pins)) I6m hN hi (.inl hn) (v := .ref ea) rfl (fun s7 I7 => ?_) (.inr hn)
    refine wpAny_mono (hs ea (X.pn ++ pins) [] s7 _ _ (D.un i) I7 (hts ea hne)) (fun f s8 q8 => ?_) (fun _ _ z => False.elim z)
    have hcl : (X.env.scope.kind == .class || (X.env.scope.kind == .module && X.env.locals != X.env.globals)) = false := by rw [I.ok.kind]; rfl
    have goes : ∀ {σ8 : St} {H8 : Hp}, Inv (X.suite ea (X.pn ++ pins)) [] σ8 H8 s8 -> ∀ (R : Unit -> Shared -> Prop), (∀ s9, Inv X pins (σ8.set i none) H8 s9 -> R () s9) ->
        wpAny (model X.prog X.w) X.A (do bindName X.env n .none; unbindBehindTheSuite X.env n hpos) R X.xe s8 := fun {σ8 H8} I8 R hR => by
      have I8' : Inv X pins σ8 H8 s8 := I8.ofSuite I.ok.hd
      obtain ⟨m, hns, hl⟩ := I8'.loc
      exact wpAny_nameGoes_keeps hn hns hcl fun h9 v hn9 sb => hR _ (I8'.forget hN hi hn hl hns hn9 sb)
    cases f with
    | next => obtain ⟨σ8, H8, I8, q⟩ := q8; exact goes I8 _ fun s9 I9 => ⟨_, H8, I9, q⟩
    | brk => obtain ⟨σ8, H8, I8, q⟩ := q8; exact goes I8 _ fun s9 I9 => ⟨_, H8, I9, q⟩
    | cont => obtain ⟨σ8, H8, I8, q⟩ := q8; exact goes I8 _ fun s9 I9 => ⟨_, H8, I9, q⟩
    | ret v => obtain ⟨x8, σ8, H8, I8, r8, q⟩ := q8; exact goes I8 _ fun s9 I9 => ⟨x8, _, H8, I9, r8, q⟩
theorem call_isinstE {X : Cx} : CallR X (.builtin "isinstance") (fun xs H Q => ∃ ea C c cv b, xs = [.ref ea, c] /\ H ea = some (excO ea C) /\ ExcCls X.K C /\ (∀ u, RelV c u -> u = cv) /\ PySem.W.kitOne X.K (.ref C) cv = some b /\ Q (.bl b) H) := by
  intro pins s σ H xs us Q I r h
  obtain ⟨ea, C, c, cv, b, rfl, hea, hC, hc, hk, q⟩ := h
  obtain ⟨u, w', rfl, rx, rc⟩ := vals2 r
  rw [hc _ rc]
  cases rx
  obtain ⟨p, _, _⟩ := (show ObjOk X.prog X.w H s.heap ea (.ext (ExcAt ea C)) from I.hok ea _ hea)
  exact PySem.W.kia_one (kitx_exc hC) I.kIn p hk (fun z => nomatch z) fun tk => ⟨.bl b, H, I.tok tk, rfl, q⟩
end L2
set_option Elab.async false
set_option linter.all false
set_option maxRecDepth 100000
set_option maxHeartbeats 4000000
namespace HT
open PySem PySem.Spec PyProof.Rows
open PySem.AutoSeq1 (wpAny_loadPart')
section
open PySem.SeqAt PySem.MeetsSeq PySem.MeetsSeq2 PySem.MeetsSeq3
end
end HT
namespace L2
open PySem PySem.Spec PyProof.Rows
section
variable {X : Cx}
def rCatT2 (K : PySem.W.Frag) : R2 := fun x y H Q => ∃ a b xs ys, x = .ref a /\ y = .ref b /\ SqT K H a xs /\ SqT K H b ys /\ xs.length + ys.length <= sizeLine /\
  (xs = [] -> Q (.ref b) H) /\ (xs ≠ [] -> ys = [] -> Q (.ref a) H) /\ (xs ≠ [] -> ys ≠ [] -> ∀ p, H p = none -> Q (.ref p) (upd H p (.tup (xs ++ ys))))
theorem op_catT2 : OpR X (binaryOp .Add) (rCatT2 X.K) := by
  intro pins s σ H x y v u Q I rx ry h
  obtain ⟨a, b, xs, ys, rfl, rfl, ha, hb, hz, q0, q1, q2⟩ := h
  by_cases hx : xs = []
  . subst hx
    cases rx
    cases ry
    obtain ⟨its, r1, p1, _⟩ := I.tuple ha
    obtain ⟨its2, r2, p2, _⟩ := I.tuple hb
    have : its = [] := r1.nil_iff.mpr rfl
    subst this
    obtain ⟨⟨cls, dd, data, sl⟩, ho, hc, n, hd⟩ := id p1
    obtain ⟨⟨cls2, dd2, data2, sl2⟩, ho2, hc2, n2, hd2⟩ := id p2
    simp only at hc hd hc2 hd2
    subst hc hd hc2 hd2
    exact concat_meets ⟨_, ho, rfl⟩ ⟨_, ho2, rfl⟩ noFill_tuple_add seq_tuple_add PySem.F.slot_tuple_add PySem.F.entry_tuple_add (PySem.F.args_tuple_add_2 _ _)
      (PyProof.Rows.tuple_addW0 a b _ _ n n2 dd dd2 sl sl2 rfl) ⟨ho, ho2, ⟨.ref b, H, I, rfl, q0 rfl⟩⟩
  . exact op_catT pins s σ H _ _ v u Q I rx ry ⟨a, b, xs, ys, rfl, rfl, ha, hb, hx, hz, q1 hx, q2 hx⟩
end
theorem whileW {c : TT} {tb : TS} {D : Ends} {σ : St} {H : Hp} (Pv : Nat -> St -> Hp -> Prop) (h0 : ∃ m, Pv m σ H)
    (hs : ∀ m σ H, Pv m σ H -> c σ H fun b H1 => if b = true then ∃ N : St -> Hp -> Prop, (∀ σ' H', N σ' H' -> ∃ m', m' < m /\ Pv m' σ' H') /\ tb { D with nx := N, ct := N, bk := D.nx } σ H1 else D.nx σ H1) : tWhile c tb D σ H := ⟨Pv, h0, hs⟩
section
variable {K : PySem.W.Frag} {H : Hp} {Q : VK}
theorem rCatT2.of {a b : Addr} {xs ys : List V} (ha : SqT K H a xs) (hb : SqT K H b ys) (hz : xs.length + ys.length <= sizeLine) (h : ∀ p H', Same H H' -> SqT K H' p (xs ++ ys) -> Q (.ref p) H') : rCatT2 K (.ref a) (.ref b) H Q := by
  refine ⟨a, b, xs, ys, rfl, rfl, ha, hb, hz, fun e => ?_, fun _ e => ?_, fun _ _ p hp => h p _ (Same.new hp) (SqT.of upd_same)⟩
  . subst e; exact h b H (Same.refl _) (by simpa using hb)
  . subst e; exact h a H (Same.refl _) (by simpa using ha)
end
theorem r_slT {K : PySem.W.Frag} {H : Hp} {Q : VK} {x : V} {lo hi : Option Int} : rSlT K x lo hi H Q = ∃ a xs, x = .ref a /\ SqT K H a xs /\
  ¬ (HT.sIx xs.length 0 lo = 0 /\ HT.sIx xs.length xs.length hi = xs.length) /\ ∀ p, H p = none -> Q (.ref p) (upd H p (.tup (cutV xs lo hi))) := rfl
inductive TyW (K : PySem.W.Frag) (H : Hp) : V -> Value -> Prop where
  | non : TyW K H .non (.type "NoneType")
  | bl (x : Bool) : TyW K H (.bl x) (.type "bool")
  | int (i : Int) : TyW K H (.int i) (.type "int")
  | str (x : Str) : TyW K H (.str x) (.type "str")
  | lst {a : Addr} {xs : List V} (e : SqL K H a xs) : TyW K H (.ref a) (.type "list")
  | tup {a : Addr} {xs : List V} (e : SqT K H a xs) : TyW K H (.ref a) (.type "tuple")
  | exc {a C : Addr} (e : H a = some (excO a C)) (c : ExcCls K C) : TyW K H (.ref a) (.ref C)
theorem call_isinstW {X : Cx} : CallR X (.builtin "isinstance") (fun xs H Q => ∃ x c cv t b, xs = [x, c] /\ TyW X.K H x t /\ (∀ u, RelV c u -> u = cv) /\ PySem.W.kitOne X.K t cv = some b /\ Q (.bl b) H) := by
  intro pins s σ H xs us Q I r h
  obtain ⟨x, c, cv, t, b, rfl, ty, hc, hk, q⟩ := h
  cases ty with
  | non => exact call_isinst pins s σ H _ us Q I r ⟨_, c, cv, _, b, rfl, .non, hc, hk, q⟩
  | bl y => exact call_isinst pins s σ H _ us Q I r ⟨_, c, cv, _, b, rfl, .bl y, hc, hk, q⟩
  | int y => exact call_isinst pins s σ H _ us Q I r ⟨_, c, cv, _, b, rfl, .int y, hc, hk, q⟩
  | str y => exact call_isinst pins s σ H _ us Q I r ⟨_, c, cv, _, b, rfl, .str y, hc, hk, q⟩
  | exc e hC => exact call_isinstE pins s σ H _ us Q I r ⟨_, _, c, cv, b, rfl, e, hC, hc, hk, q⟩
  | @lst a xs e =>
    obtain ⟨u, w', rfl, rx, rc⟩ := vals2 r
    rw [hc _ rc]
    cases rx
    obtain ⟨its, _, pl, _⟩ := I.list e
    obtain ⟨o, ho, hcl, _⟩ := pl.isList
    exact PySem.W.kia_one PySem.W.kitx_list I.kIn ⟨o, ho, hcl⟩ hk (fun z => nomatch z) fun tk => ⟨.bl b, H, I.tok tk, rfl, q⟩
  | @tup a xs e =>
    obtain ⟨u, w', rfl, rx, rc⟩ := vals2 r
    rw [hc _ rc]
    cases rx
    obtain ⟨its, _, ⟨o, ho, hcl, _⟩, _⟩ := I.tuple e
    exact PySem.W.kia_one PySem.W.kitx_tuple I.kIn ⟨o, ho, hcl⟩ hk (fun z => nomatch z) fun tk => ⟨.bl b, H, I.tok tk, rfl, q⟩
end L2
set_option Elab.async false
set_option linter.all false
set_option maxRecDepth 100000
set_option maxHeartbeats 4000000
namespace GW
def placeR (L : Int) : List Int -> Int
  | [] => 0
  | x :: r => placeR L r * L + x + 1
def place (L : Int) (w : List Int) : Int := placeR L w.reverse
def inW (L x : Int) : Bool := decide (0 <= x) && decide (x < L)
def isW (L : Int) (ws : List Int) : Bool := ws.all (inW L)
theorem inW_iff {L x : Int} : inW L x = true ↔ 0 <= x /\ x < L := by simp [inW]
theorem isW_iff {L : Int} {ws : List Int} : isW L ws = true ↔ ∀ x ∈ ws, 0 <= x /\ x < L := by simp [isW, inW_iff]
def many (L : Int) : Nat -> Int
  | 0 => 0
  | k + 1 => many L k * L + 1
theorem many_nonneg {L : Int} (hL : 0 < L) : ∀ k, 0 <= many L k
  | 0 => Int.le_refl _
  | k + 1 => by
    have := Int.mul_nonneg (many_nonneg hL k) (Int.le_of_lt hL)
    show 0 <= many L k * L + 1
    omega
theorem placeR_bounds {L : Int} (hL : 0 < L) : ∀ {l : List Int}, (∀ x ∈ l, 0 <= x /\ x < L) -> many L l.length <= placeR L l /\ placeR L l < many L (l.length + 1)
  | [], _ => by simp [placeR, many]
  | x :: r, h => by
    have hx := h x List.mem_cons_self
    obtain ⟨h1, h2⟩ := placeR_bounds hL (l := r) fun y hy => h y (List.mem_cons_of_mem _ hy)
    show many L r.length * L + 1 <= placeR L r * L + x + 1 /\ placeR L r * L + x + 1 < many L (r.length + 1) * L + 1
    have a1 := Int.mul_le_mul_of_nonneg_right h1 (Int.le_of_lt hL)
    have a2 := Int.mul_le_mul_of_nonneg_right (show placeR L r + 1 <= many L (r.length + 1) by omega) (Int.le_of_lt hL)
    rw [Int.add_mul] at a2
    omega
theorem place_bounds {L : Int} (hL : 0 < L) {w : List Int} (h : isW L w = true) : many L w.length <= place L w /\ place L w < many L (w.length + 1) := by
  have := placeR_bounds hL (l := w.reverse) (fun x hx => isW_iff.mp h x (List.mem_reverse.mp hx))
  rw [List.length_reverse] at this
  exact this
theorem many_mono {L : Int} (hL : 0 < L) {j k : Nat} (h : j <= k) : many L j <= many L k := by
  induction h with
  | refl => exact Int.le_refl _
  | step _ ih =>
    rename_i m _
    refine Int.le_trans ih ?_
    show many L m <= many L m * L + 1
    have : many L m * 1 <= many L m * L := Int.mul_le_mul_of_nonneg_left (by omega) (many_nonneg hL m)
    omega
theorem length_iff {L : Int} (hL : 0 < L) {w : List Int} (h : isW L w = true) (k : Nat) : w.length <= k ↔ place L w < many L (k + 1) := by
  obtain ⟨h1, h2⟩ := place_bounds hL h
  constructor
  . intro hk
    exact Int.lt_of_lt_of_le h2 (many_mono hL (by omega))
  . intro hp
    refine Nat.le_of_not_lt fun hk => ?_
    have := many_mono hL (show k + 1 <= w.length from hk)
    omega
theorem place_snoc (L : Int) (w : List Int) (x : Int) : place L (w ++ [x]) = place L w * L + x + 1 := by
  unfold place
  rw [List.reverse_append]; rfl
end GW
set_option Elab.async false
set_option linter.all false
set_option maxRecDepth 100000
set_option maxHeartbeats 4000000
namespace PySem
section
variable {prog : Program} {w : World} {A : Around} {E : Value -> Shared -> Prop} {s : Shared}
abbrev lsO (acc : Array Value) (c : Nat) : Obj := { cls := .type "list", dict := none, data := .seq acc c, slots := #[] }
def KP (wr : Addr -> Prop) (h h' : Heap) : Prop := ∀ b o, ¬ wr b -> h.get? b = some o -> h'.get? b = some o
structure Gat (prog : Program) (w : World) (s : Shared) (r I : Addr) (T : String) (n : Nat) (wr : Addr -> Prop) (J : Nat -> List Value -> Heap -> Prop) (Fn : List Value -> Heap -> Prop) : Prop where
  type : s.TypeIs (.ref r) T
  nl : (Value.type T == Value.type "list") = false
  nt : (Value.type T == Value.type "tuple") = false
  le : n <= sizeLine
  hint : ∀ (A : Around) (t : Shared) (Q : Bool -> Shared -> Prop) (E : Value -> Shared -> Prop), (∀ b o, s.heap.get? b = some o -> t.heap.get? b = some o) -> (∀ b tk, Q b { t with toks := tk }) -> wpAny (model prog w) A (Builtin.List.listLengthHint (.ref r)) Q E t
  iter : ∀ (A : Around) (h1 : Heap) (Q : Value -> Shared -> Prop) (E : Value -> Shared -> Prop), (∀ b o, s.heap.get? b = some o -> h1.get? b = some o) -> h1.objs.size = s.heap.objs.size + 1 -> (∀ h', J 0 [] h' -> (∀ b o, h1.get? b = some o -> h'.get? b = some o) -> Q (.ref I) { s with heap := h' }) -> wpAny (model prog w) A (pyIter (.ref r)) Q E { s with heap := h1 }
  next : ∀ (A : Around) i acc (t : Shared) (Q : Option Value -> Shared -> Prop) (E : Value -> Shared -> Prop), A.handled = none -> J i acc t.heap -> acc.length = i -> i <= n -> s.heap.objs.size < t.heap.objs.size ->
    (∀ v h' tk, i < n -> J (i + 1) (acc ++ [v]) h' -> KP wr t.heap h' -> Q (some v) { t with heap := h', toks := tk }) -> (∀ h' tk, i = n -> Fn acc h' -> KP wr t.heap h' -> Q none { t with heap := h', toks := tk }) -> wpAny (model prog w) A (pyNext (.ref I)) Q E t
  frame : ∀ i acc h h', J i acc h -> (∀ b o, b ≠ s.heap.objs.size -> h.get? b = some o -> h'.get? b = some o) -> J i acc h'
  nw : ¬ wr s.heap.objs.size
variable {I r : Addr} {T : String} {n : Nat} {wr : Addr -> Prop} {J : Nat -> List Value -> Heap -> Prop} {Fn : List Value -> Heap -> Prop} {R : Result -> Shared -> Prop} {res : Value}
theorem Gat.loop (G : Gat prog w s r I T n wr J Fn) (hh : A.handled = none)
    (hR : ∀ h' tk acc c, Fn acc h' -> acc.length = n -> h'.get? s.heap.objs.size = some (lsO acc.toArray c) -> KP wr s.heap h' -> R (.ok (.ret res)) { s with heap := h', toks := tk }) :
    ∀ (k : Nat) (h : Heap) (tk c : Nat) (acc : List Value), n - acc.length = k -> acc.length <= n -> J acc.length acc h -> h.get? s.heap.objs.size = some (lsO acc.toArray c) -> KP wr s.heap h -> codeAny (model prog w) A (.builtin "list.extend.loop" ⟨[.ref s.heap.objs.size, .ref I, res], []⟩) R { s with heap := h, toks := tk } := by
  intro k
  induction k with
  | zero =>
    intro h tk c acc hk hi j hS kp
    refine codeAny_builtin F.entry_extend_loop ?_
    rw [Around.under_plainId F.plain_extend_loop _]
    refine wpAny_bind (G.next A.in1 _ acc { s with heap := h, toks := tk } _ _ hh j rfl hi (Heap.lt_size hS) (fun v h' tk l => by omega) fun h' tk e j' kk => ?_)
    exact wpAny_pure (hR h' tk acc c j' (by omega) (kk _ _ G.nw hS) fun b o m q => kk b o m (kp b o m q))
  | succ k ih =>
    intro h tk c acc hk hi j hS kp
    refine codeAny_builtin F.entry_extend_loop ?_
    rw [Around.under_plainId F.plain_extend_loop _]
    refine wpAny_bind (G.next A.in1 _ acc { s with heap := h, toks := tk } _ _ hh j rfl hi (Heap.lt_size hS) (fun v h' tk l j' kk => ?_) fun h' tk e => by omega)
    have hS' := kk _ _ G.nw hS
    have up : ∀ b o, b ≠ s.heap.objs.size -> h'.get? b = some o -> (h'.update s.heap.objs.size (Obj.mapSeq (·.push v))).get? b = some o := fun b o m q => (Heap.get?_update_other _ _ (Ne.symm m)).trans q
    have hl : (acc ++ [v]).length = acc.length + 1 := by simp
    have := G.le
    obtain ⟨c', hS2⟩ : ∃ c', (h'.update s.heap.objs.size (Obj.mapSeq (·.push v))).get? s.heap.objs.size = some (lsO (acc ++ [v]).toArray c') := ⟨_, by rw [<- List.push_toArray]; exact Heap.get?_update_self _ hS' rfl⟩
    exact wpAny_bind (wpAny_updateSeq hS' rfl (wpAny_pure ⟨plainId_quiet F.plain_extend_loop _, ih _ tk c' (acc ++ [v]) (by omega) (by omega) (by rw [hl]; exact G.frame _ _ _ _ j' up) hS2 fun b o m q => up b o (Nat.ne_of_lt (Heap.lt_size q)) (kk b o m (kp b o m q))⟩) (by simp; omega))
theorem Gat.extend {Z : Fin -> Shared -> Prop} {c₀ : Nat} {h1 : Heap} (G : Gat prog w s r I T n wr J Fn) (hh : A.handled = none) (k1 : ∀ b o, s.heap.get? b = some o -> h1.get? b = some o) (hz : h1.objs.size = s.heap.objs.size + 1) (hS : h1.get? s.heap.objs.size = some (lsO #[] c₀))
    (hZ : ∀ c t, c.quiet = true -> codeAny (model prog w) A c R t -> Z (.again c) t)
    (hR : ∀ h' tk acc c, Fn acc h' -> acc.length = n -> h'.get? s.heap.objs.size = some (lsO acc.toArray c) -> KP wr s.heap h' -> R (.ok (.ret res)) { s with heap := h', toks := tk }) :
    wpAny (model prog w) A.in1 (Builtin.List.listExtendWith (.ref s.heap.objs.size) (.ref r) res) Z E { s with heap := h1 } := by
  have hr : r < s.heap.objs.size := let ⟨_, ho, _⟩ := G.type; Heap.lt_size ho
  have e1 : Builtin.List.listSameRef (.ref s.heap.objs.size) (.ref r) = false := by simp [Builtin.List.listSameRef, Nat.ne_of_gt hr]
  have hT : Shared.TypeIs { s with heap := h1 } (.ref r) T := let ⟨o, ho, x⟩ := G.type; ⟨o, k1 _ _ ho, x⟩
  have oth : ∀ (h : Heap) f b o, b ≠ s.heap.objs.size -> h.get? b = some o -> (h.update s.heap.objs.size f).get? b = some o := fun h f b o n q => (Heap.get?_update_other _ _ (Ne.symm n)).trans q
  have go : ∀ (h : Heap) c tk, J 0 [] h -> h.get? s.heap.objs.size = some (lsO #[] c) -> (∀ b o, b ≠ s.heap.objs.size -> h1.get? b = some o -> h.get? b = some o) -> Z (.again (.builtin "list.extend.loop" ⟨[.ref s.heap.objs.size, .ref I, res], []⟩)) { s with heap := h, toks := tk } := fun h c tk j q k =>
    hZ _ _ (plainId_quiet F.plain_extend_loop _) (G.loop hh hR n h tk c [] rfl (Nat.zero_le _) j q fun b o _ x => k b o (Nat.ne_of_lt (Heap.lt_size x)) (k1 b o x))
  unfold Builtin.List.listExtendWith
  refine wpAny_bind (wpAny_typeOf hT ?_)
  simp only [e1, G.nl, G.nt, Bool.or_false, Bool.false_eq_true, if_false]
  refine wpAny_bind (G.iter A.in1 h1 _ _ k1 hz fun h' j kk => wpAny_bind (wpAny_holding (G.hint A.in1 _ _ _ (fun b o q => kk b o (k1 b o q)) fun bb tk => ?_)))
  have hS' := kk _ _ hS
  refine wpAny_ite_split (fun _ => ?_) fun _ => wpAny_pure (go h' c₀ tk j hS' fun b o _ q => kk b o q)
  wp_walk
  exact go _ _ tk (G.frame _ _ _ _ (G.frame _ _ _ _ j fun b o m q => oth _ _ b o m q) fun b o m q => oth _ _ b o m q) (Heap.get?_update_self _ (Heap.get?_update_self _ hS' rfl) rfl) fun b o m q => oth _ _ b o m (oth _ _ b o m (kk b o q))
theorem Gat.collect {Q : List Value -> Shared -> Prop} (G : Gat prog w s r I T n wr J Fn) (hh : A.handled = none) (hQ : ∀ h' tk acc, Fn acc h' -> acc.length = n -> KP wr s.heap h' -> Q acc { s with heap := h', toks := tk }) : wpAny (model prog w) A (collect (.ref r)) Q E s := by
  have hS : (s.heap.push (lsO #[] 0)).get? s.heap.objs.size = some (lsO #[] 0) := Heap.get?_push_size _ rfl
  unfold PySem.collect
  refine wpAny_bind (wpAny_runValue (codeAny_builtin F.entry_proto_collect ?_))
  rw [Around.under_plainId F.plain_proto_collect _]
  wp_walk
  refine ⟨plainId_quiet F.plain_list_iadd _, codeAny_builtin F.entry_list_iadd ?_⟩
  rw [Around.under_plainId F.plain_list_iadd _]
  refine G.extend hh (fun b o e => Heap.get?_push_of_some _ e) (Heap.size_push ..) hS (fun _ _ a b => ⟨a, b⟩) fun h' tk acc c k1 k2 k3 k4 => ?_
  exact wpAny_bind (wpAny_load k3 (wpAny_pure (hQ h' tk acc k1 k2 k4)))
theorem Gat.tuple {Q : Value -> Shared -> Prop} (G : Gat prog w s r I T n wr J Fn) (hh : A.handled = none)
    (hQ : ∀ (h' : Heap) tk acc, Fn acc h' -> acc.length = n -> KP wr s.heap h' -> Q (.ref h'.objs.size) { s with heap := h'.push { cls := .type "tuple", data := .seq acc.toArray }, toks := tk }) : wpAny (model prog w) A (call (.type "tuple") [.ref r]) Q E s := by
  have hsub := sub_tuple_self
  have hinit := init_tuple_lookup
  have hmh := madeHere_tuple
  have hT := G.type
  refine callType_codes (Q₁ := fun obj s₁ => s₁.TypeIs obj "tuple" /\ Q obj s₁) F.called_tuple (F.typeCall_tuple_1 _) F.entry_object_init ?_ fun obj s₁ h₁ => ⟨h₁.1, F.args_object_init_2 obj _, object_init_meets F.called_tuple.init.lookup F.called_tuple.made (by decide) prog w A.in1 _ s₁ ⟨h₁.1, rfl, h₁.2⟩⟩
  refine codeAny_of_tree (wpAny_bind (wpAny_of_eq (F.newCall_tuple_1 _) (wpAny_pure ⟨plainId_quiet F.plain_tuple_new _, codeAny_builtin F.entry_tuple_new ?_⟩)))
  rw [Around.under_plainId F.plain_tuple_new _]
  have h2 : A.in1.in1.handled = none := hh
  have n1 := G.nl
  have n2 := G.nt
  wp_walk using wpAny_typeOf hT, G.collect h2
  intro h' tk acc k1 k2 k3
  have hl : acc.length <= sizeLine := k2 ▸ G.le
  have q := hQ h' tk acc k1 k2 k3
  clear k2
  wp_walk
  exact ⟨⟨_, Heap.get?_push_size _ rfl, rfl⟩, q⟩
theorem Gat.ofWalks {fp wl : List Addr} {P : Nat -> Value -> Prop} {St : Nat -> Heap -> Prop} (W : ∀ A : Around, A.handled = none -> Walks prog w A I fp wl n P St) (hh : A.handled = none) (hf : s.heap.objs.size ∉ fp) (ty : s.TypeIs (.ref r) T) (nl : (Value.type T == Value.type "list") = false) (nt : (Value.type T == Value.type "tuple") = false) (le : n <= sizeLine)
    (hint : ∀ (A : Around) (t : Shared) (Q : Bool -> Shared -> Prop) (E : Value -> Shared -> Prop), (∀ b o, s.heap.get? b = some o -> t.heap.get? b = some o) -> (∀ b tk, Q b { t with toks := tk }) -> wpAny (model prog w) A (Builtin.List.listLengthHint (.ref r)) Q E t)
    (iter : ∀ (A : Around) (h1 : Heap) (Q : Value -> Shared -> Prop) (E : Value -> Shared -> Prop), (∀ b o, s.heap.get? b = some o -> h1.get? b = some o) -> h1.objs.size = s.heap.objs.size + 1 -> (∀ h', St 0 h' -> (∀ b o, h1.get? b = some o -> h'.get? b = some o) -> Q (.ref I) { s with heap := h' }) -> wpAny (model prog w) A (pyIter (.ref r)) Q E { s with heap := h1 }) :
    Gat prog w s r I T n (· ∈ wl) (fun i acc h => St i h /\ ∀ (j : Nat) v, acc[j]? = some v -> P j v) (fun acc _ => ∀ (j : Nat) v, acc[j]? = some v -> P j v) where
  type := ty
  nl := nl
  nt := nt
  le := le
  hint := hint
  iter := fun A h1 Q E k z q => iter A h1 Q E k z fun h' st => q h' ⟨st, fun j v e => by simp at e⟩
  next := fun A i acc t Q E hh j hl hi _ q1 q2 => by
    have W := W A hh
    rcases Nat.lt_or_ge i n with l | l
    . refine W.item i t Q E l j.1 fun v h' tk p st' k => q1 v h' tk l ⟨st', fun m u e => ?_⟩ k
      rcases Nat.lt_or_ge m acc.length with a | a
      . rw [List.getElem?_append_left a] at e
        exact j.2 m u e
      . have := (List.getElem?_eq_some_iff.mp e).1
        obtain rfl : m = i := by simp at this; omega
        rw [List.getElem?_append_right a, hl, Nat.sub_self] at e
        exact (show v = u by simpa using e) ▸ p
    . obtain rfl : i = n := by omega
      exact W.done t Q E j.1 fun h' tk k => q2 h' tk rfl j.2 k
  frame := fun i acc h h' j k => ⟨(W A hh).frame _ _ _ j.1 fun b hb o q => k b o (fun z => hf (z ▸ hb)) q, j.2⟩
  nw := fun m => hf ((W A hh).sub _ m)
end
end PySem
set_option Elab.async false
set_option linter.all false
set_option maxRecDepth 100000
set_option maxHeartbeats 4000000
namespace PySem
open Sem (wp)
open AutoSeq1 (wpAny_loadPart')
namespace F
theorem lri_no_len : typeLookup (.type "list_reverseiterator") "__len__" = pure none := by rw [typeLookup_type, builtinLookup_eq_fast]; kernel_rfl
theorem lri_hint : typeLookup (.type "list_reverseiterator") "__length_hint__" = pure (some (.builtin "list_reverseiterator.__length_hint__")) := by rw [typeLookup_type, builtinLookup_eq_fast]; kernel_rfl
end F
section
variable {prog : Program} {w : World} {A : Around} {E : Value -> Shared -> Prop} {s : Shared}
theorem wpAny_hint_rev {I l : Addr} {i : Int} {Q : Bool -> Shared -> Prop} (hit : s.heap.IsRevIter I l i) (h : Q false s) : wpAny (model prog w) A (Builtin.List.listLengthHint (.ref I)) Q E s := by
  unfold Builtin.List.listLengthHint
  refine wpAny_bind (wpAny_specialOf hit.typeIs F.lri_no_len ?_)
  show wpAny _ A (specialOf (Value.ref I) (Str.ofString "__length_hint__") >>= _) _ _ _
  refine wpAny_bind (wpAny_specialOf hit.typeIs F.lri_hint ?_)
  generalize hid : ("list_reverseiterator.__length_hint__" : String) = id0
  wp_delta
  rw [show splitId id0 = some ("list_reverseiterator", "__length_hint__") from by subst hid; decide +kernel]
  subst hid
  refine wpAny_bind (wpAny_isInstance (T := "list_reverseiterator") (b := true) hit.typeIs (by rw [isSubtype_type]; kernel_rfl) ?_)
  refine wpAny_ite_split (fun hab => absurd hab (by decide)) (fun _ => ?_)
  refine wpAny_ite_split (fun _ => ?_) (fun hab => absurd (by decide +kernel) hab)
  refine wpAny_ite_split (fun hab => absurd hab (by decide +kernel)) (fun _ => ?_)
  exact wpAny_pure h
theorem rev_gat {I l : Addr} {items : Array Value} (hh : A.handled = none) (hit : s.heap.IsRevIter I l ((items.size : Int) - 1)) (hl : s.heap.IsList l items) (hz : items.size <= sizeLine) :
    Gat prog w s I I "list_reverseiterator" items.size (· ∈ [I]) (fun i acc h => (i <= items.size /\ h.IsRevIter I l ((items.size : Int) - 1 - (i : Int)) /\ h.IsList l items) /\ ∀ (j : Nat) v, acc[j]? = some v -> items[items.size - 1 - j]? = some v) (fun acc _ => ∀ (j : Nat) v, acc[j]? = some v -> items[items.size - 1 - j]? = some v) := by
  obtain ⟨oi, e1, e2, e3⟩ := id hit
  obtain ⟨ol, f1, f2, f3⟩ := id hl
  have ne : l ≠ I := fun z => by
    subst z
    rw [e1] at f1
    cases f1
    rw [e2] at f2
    exact absurd f2 (by decide)
  refine Gat.ofWalks (fun A h => Walks.listRev h I l ne items) hh (fun m => ?_) hit.typeIs (by decide) (by decide) hz (fun A t Q E k q => wpAny_hint_rev (hit.at fun o z => k _ o z) (q false t.toks)) fun A h1 Q E k _ q => ?_
  . rcases List.mem_cons.mp m with z | z
    . exact absurd (Heap.lt_size e1) (by rw [<- z]; exact Nat.lt_irrefl _)
    . exact absurd (Heap.lt_size f1) (by rw [<- List.mem_singleton.mp z]; exact Nat.lt_irrefl _)
  . exact wpAny_pyIter_revIter (hit.at (h' := h1) fun o z => k _ o z) (q h1 ⟨Nat.zero_le _, by simpa using hit.at (h' := h1) fun o z => k _ o z, hl.at fun o z => k _ o z⟩ fun b o z => z)
theorem rev_items {items : Array Value} {acc : List Value} (l : acc.length = items.size) (h : ∀ (j : Nat) v, acc[j]? = some v -> items[items.size - 1 - j]? = some v) : ItemsOf (fun i v => items[items.size - 1 - i]? = some v) acc.toArray items.size := ⟨by simpa using l, fun i v e => h i v (by simpa using e)⟩
theorem call_tuple_rev {Q : Value -> Shared -> Prop} {I l : Addr} {items : Array Value} (hh : A.handled = none) (hit : s.heap.IsRevIter I l ((items.size : Int) - 1)) (hl : s.heap.IsList l items) (hz : items.size <= sizeLine)
    (hQ : ∀ (h' : Heap) (tk : Nat) (acc' : Array Value), (∀ b o, b ≠ I -> s.heap.get? b = some o -> h'.get? b = some o) -> ItemsOf (fun i v => items[items.size - 1 - i]? = some v) acc' items.size -> Q (.ref h'.objs.size) { s with heap := h'.push { cls := .type "tuple", data := .seq acc' }, toks := tk }) :
    wpAny (model prog w) A (call (.type "tuple") [.ref I]) Q E s :=
  (rev_gat hh hit hl hz).tuple hh fun h' tk acc f l k4 => hQ h' tk acc.toArray (fun b o n q => k4 b o (fun z => n (List.mem_singleton.mp z)) q) (rev_items l f)
end
end PySem
namespace L2
open PySem PySem.Spec PyProof.Rows
theorem boot_ValueError : bootBuiltins "ValueError" = some (.type "ValueError") := by decide +kernel
section
variable {P : Program} {w : World} {K : PySem.W.Frag} {mg : Str -> Option Value} {base : Heap}
theorem Fun.okE {x qual : Str} {st : Stmt} {f : Addr} {fd : FuncData} {N ps : List Str} {k : Nat} {sp : Sp} (F : Fun K x qual st f fd) (S : FnScope N ps (defScope st)) (len : ∀ vs H Q E, sp vs H Q E -> vs.length = ps.length)
    (hbody : ∀ (cdv : Value) (A : Around) (outer : List Env) (s : Shared) (H : Hp) (vs : List V) (Q : VK) (E : XK), Room k (A.deeper (envOfC qual (defScope st) s.heap.objs.size f cdv)) -> sp vs H Q E ->
      ∃ t, PSs (cxOf (CXe P w) P w K mg base N qual (defScope st) f cdv A outer s H E) (defBody st) t /\ t { nx := fun _ H' => Q .non H', rt := Q } (start N vs) H) : FnOk P w K mg base (CXe P w) (k + 1) f fd ps sp := by
  obtain ⟨oc, od, kV, doc, pm, an, cdv, ct, osl, rfl, lk, hcd⟩ := F.ex
  exact fn_of lk hcd S len fun A outer s H vs Q E hr hsp => hbody cdv A outer s H vs Q E hr hsp
theorem passNev {X : Cx} : Passes (CXe P w) X E0 := fun _ _ _ _ _ _ _ h => by
  obtain ⟨_, _, _, _, _, _, _, _, _, _, q⟩ := h
  exact q.elim
end
section
variable {te ta tb : TE} {A : TA} {D : Ends} {σ : St} {H : Hp} {Q : VK} {K : PySem.W.Frag} {tbd ts : TS}
theorem r_cat {x y : V} : rCat x y H Q = ∃ l b xs zs, x = .ref l /\ y = .ref b /\ H l = some (.lst xs) /\ H b = some (.lst zs) /\ xs.length + zs.length <= sizeLine /\ ∀ p, H p = none -> Q (.ref p) (upd H p (.lst (xs ++ zs))) := rfl
theorem r_raise {C : Addr} {E : XK} : tRaise C E A D σ H = A σ H fun vs H1 => vs.length <= sizeLine /\ E (.ref C) none H1 := rfl
theorem r_callE {sp : Sp} {dvs : List V} {E : St -> XK} : tCallE sp dvs E A σ H Q = A σ H fun vs H1 => sp (vs ++ dvs) H1 Q (E σ) := rfl
theorem r_try {Ca : Addr} {i : Nat} {E : St -> XK} : tTry K Ca i E tbd ts D σ H = (tbd D σ H /\ ∀ σ' cls H', E σ' cls none H' ->
  ∃ C, cls = .ref C /\ PySem.W.exmOne K (.ref C) (.ref Ca) = some true /\ ∀ ea, H' ea = none -> ts (D.un i) (σ'.set i (some (.ref ea))) (upd H' ea (excO ea C))) := rfl
theorem r_unnx {i : Nat} : (Ends.un D i).nx σ H = D.nx (σ.set i none) H := rfl
theorem r_unrt {i : Nat} {v : V} : (Ends.un D i).rt v H = D.rt v H := rfl
end
section
variable {X : Cx} {tg : Expr}
theorem items_rev {xs : List V} {its : List Value} {acc : Array Value} (rv : Vals xs its) (h : ItemsOf (fun i v => its.toArray[its.toArray.size - 1 - i]? = some v) acc its.toArray.size) : Vals xs.reverse acc.toList := by
  have hl := rv.length
  have e : acc.toList = its.reverse := by
    apply List.ext_getElem?
    intro i
    by_cases hi : i < its.length
    . have hs : acc.size = its.length := by rw [h.1, List.size_toArray]
      have := h.2 i acc[i] (by simp [hs, hi])
      rw [List.size_toArray] at this
      rw [List.getElem?_reverse hi]
      have z : its[its.length - 1 - i]? = some acc[i] := by simpa using this
      rw [z]; simp [hs, hi]
    . have hs : acc.size = its.length := by rw [h.1, List.size_toArray]
      rw [List.getElem?_eq_none (by simp; omega), List.getElem?_eq_none (by simp; omega)]
  rw [e]
  exact rv.reverse
def tTupRev (K : PySem.W.Frag) (te : TE) : TE := fun σ H Q => te σ H fun x H1 => ∃ a xs, x = .ref a /\ SqL K H1 a xs /\ ∀ p, H1 p = none -> Q (.ref p) (upd H1 p (.tup xs.reverse))
theorem r_tupRev {K : PySem.W.Frag} {te : TE} {σ : St} {H : Hp} {Q : VK} : tTupRev K te σ H Q = te σ H fun x H1 => ∃ a xs, x = .ref a /\ SqL K H1 a xs /\ ∀ p, H1 p = none -> Q (.ref p) (upd H1 p (.tup xs.reverse)) := rfl
theorem rev_arg {e : Expr} {te : TE} {p pos pos1 : Pos} {pins : List (Addr × Obj)} {σ : St} {H : Hp} {s : Shared} {W : Hp -> Addr -> List V -> Prop} {QQ : List Value -> Shared -> Prop} (hg : Gl X "reversed") (hm : X.mg "reversed" = none) (he : PE X e te) (I : Inv X pins σ H s)
    (h : te σ H fun x H1 => ∃ a xs, x = .ref a /\ SqL X.K H1 a xs /\ W H1 a xs) (hs1 : starEach [.Call (.Name "reversed" p) [e] [] pos] X.env = [(false, eval (.Call (.Name "reversed" p) [e] [] pos) X.env)]) (hs : starEach [e] X.env = [(false, eval e X.env)])
    (k : ∀ s1 H1 a xs its, Inv X pins σ H1 s1 -> Vals xs its -> s1.heap.IsList a its.toArray -> xs.length <= sizeLine -> H1 a ≠ none \/ True -> W H1 a xs -> QQ [.ref s1.heap.objs.size] { s1 with heap := s1.heap.push (revObj a ((its.toArray.size : Int) - 1)) }) :
    wpAny (model X.prog X.w) X.A (spliced (backTo pos1 (starEach [.Call (.Name "reversed" p) [e] [] pos] X.env))) QQ X.xe s := by
  rw [hs1]
  refine Calls.spliced_cons ?_
  refine Call_ (ld_blt I hg hm boot_reversed (PyProof.Rows.callWith_type1 (thn (pa_cons he pa_nil hs pos pins s σ H (fun vs H1 => ∃ a xs, vs = [.ref a] /\ SqL X.K H1 a xs /\ W H1 a xs) I ?_) fun us s1 ⟨vs, H1, I1, r1, q1⟩ => ?_) hs rfl))
  . show te σ H _
    have : (fun x H1 => ∃ a xs, x = V.ref a /\ SqL X.K H1 a xs /\ W H1 a xs) = (fun x H1 => tNil σ H1 fun xs H2 => ∃ a ys, x :: xs = [V.ref a] /\ SqL X.K H2 a ys /\ W H2 a ys) := by
      funext x H1
      simp [tNil]
    rw [<- this]
    exact h
  . obtain ⟨a, xs, rfl, hq, q⟩ := q1
    cases r1 with
    | cons r rr =>
      cases rr
      cases r
      obtain ⟨its, rv, p, hz⟩ := I1.list hq
      refine call_reversed_list p.isList ?_
      exact Calls.spliced_nil (k s1 H1 a xs its I1 rv p.isList hz (.inr trivial) q)
theorem pe_tupleRev {e : Expr} {te : TE} {p p2 pos pos2 : Pos} (hc : X.calm = true) (hg : Gl X "tuple") (hm : X.mg "tuple" = none) (hg2 : Gl X "reversed") (hm2 : X.mg "reversed" = none) (he : PE X e te)
    (hs1 : starEach [.Call (.Name "reversed" p2) [e] [] pos2] X.env = [(false, eval (.Call (.Name "reversed" p2) [e] [] pos2) X.env)] := by rfl) (hs : starEach [e] X.env = [(false, eval e X.env)] := by rfl) :
    PE X (.Call (.Name "tuple" p) [.Call (.Name "reversed" p2) [e] [] pos2] [] pos) (tTupRev X.K te) := by
  intro pins s σ H Q I h
  refine wpAny_Call_Name_kw (ld_blt I hg hm boot_tuple ?_)
  refine PyProof.Rows.callWith_type1 (rev_arg (W := fun H1 a xs => ∀ p, H1 p = none -> Q (.ref p) (upd H1 p (.tup xs.reverse))) hg2 hm2 he I h hs1 hs fun s1 H1 a xs its I1 rv pl hz _ q => ?_) hs1 rfl
  have hl := rv.length
  refine call_tuple_rev (items := its.toArray) (I.ok.hd hc) ⟨_, Heap.get?_push_size _ rfl, rfl, rfl⟩ (pl.at fun o e => Heap.get?_push_of_some _ e) (by rw [List.size_toArray, <- hl]; exact hz) fun h' tk acc' hk hacc => ?_
  have kp : ∀ b o, s1.heap.get? b = some o -> h'.get? b = some o := fun b o e => hk b o (Nat.ne_of_lt (Heap.lt_size e)) (Heap.get?_push_of_some _ e)
  have I2 : Inv X pins σ H1 { s1 with heap := h', toks := tk } := I1.kept kp
  refine ⟨.ref h'.objs.size, _, I2.laid (t' := tk) (fun b o e => Heap.get?_push_of_some _ e) (Nat.le_refl _) (show ObjOk X.prog X.w _ _ _ (.tup xs.reverse) from ⟨by rw [List.length_reverse]; exact hz, acc'.toList, items_rev rv hacc, by simpa using IsTup.new _ _⟩), rfl, q _ (I2.hok.fresh (Nat.le_refl _))⟩
end
end L2
namespace L2
open PySem PySem.Spec PyProof.Rows
theorem eqV_int (x y : Int) : eqV (.int x) (.int y) = decide (V.int x = V.int y) := by
  by_cases h : x = y
  . subst h; simp [eqV]
  . rw [decide_eq_false (fun z => h (by injection z))]; simp [eqV, h]
theorem EqD.ints {K : PySem.W.Frag} {H : Hp} {a c : Addr} {xs ys : List Int} (hq : (SqL K H a (xs.map V.int) /\ SqL K H c (ys.map V.int)) \/ (SqT K H a (xs.map V.int) /\ SqT K H c (ys.map V.int))) (n : Nat) : EqD K H (n + 1) (.ref a) (.ref c) (decide (xs = ys)) := by
  have := EqD.flat hq (fun x hx => by obtain ⟨_, _, rfl⟩ := mem_mapI hx; rfl) (fun x hx => by obtain ⟨_, _, rfl⟩ := mem_mapI hx; rfl) (fun x hx y hy => by obtain ⟨_, _, rfl⟩ := mem_mapI hx; obtain ⟨_, _, rfl⟩ := mem_mapI hy; exact eqV_int _ _) n
  have e : decide (xs.map V.int = ys.map V.int) = decide (xs = ys) := by
    rw [Bool.eq_iff_iff]
    simp only [decide_eq_true_eq]
    constructor
    . intro h
      exact (List.map_inj_right (fun a b h => by injection h)).mp h
    . intro h; rw [h]
  rw [e] at this
  exact this
end L2
namespace GW
end GW
namespace GW
end GW
namespace L2
open PySem PySem.Spec PyProof.Rows
end L2
namespace GW
theorem place_inj {L : Int} (hL : 0 < L) : ∀ {xs ys : List Int}, isW L xs = true -> isW L ys = true -> place L xs = place L ys -> xs = ys := by
  have key : ∀ {l m : List Int}, (∀ x ∈ l, 0 <= x /\ x < L) -> (∀ x ∈ m, 0 <= x /\ x < L) -> placeR L l = placeR L m -> l = m := by
    intro l
    induction l with
    | nil =>
      intro m _ hm h
      cases m with
      | nil => rfl
      | cons y s =>
        have hy := hm y List.mem_cons_self
        have := (placeR_bounds hL (l := s) fun z hz => hm z (List.mem_cons_of_mem _ hz)).1
        have h0 := many_nonneg hL s.length
        have hp := Int.mul_nonneg (show 0 <= placeR L s by omega) (Int.le_of_lt hL)
        have h' : (0 : Int) = placeR L s * L + y + 1 := h
        omega
    | cons x r ih =>
      intro m hl hm h
      have hx := hl x List.mem_cons_self
      cases m with
      | nil =>
        have := (placeR_bounds hL (l := r) fun z hz => hl z (List.mem_cons_of_mem _ hz)).1
        have h0 := many_nonneg hL r.length
        have hp := Int.mul_nonneg (show 0 <= placeR L r by omega) (Int.le_of_lt hL)
        have h' : placeR L r * L + x + 1 = (0 : Int) := h
        omega
      | cons y s =>
        have hy := hm y List.mem_cons_self
        have h' : placeR L r * L + x + 1 = placeR L s * L + y + 1 := h
        have e1 : placeR L r = placeR L s := by
          rcases Int.lt_trichotomy (placeR L r) (placeR L s) with hlt | he | hlt
          . have := Int.mul_le_mul_of_nonneg_right (show placeR L r + 1 <= placeR L s by omega) (Int.le_of_lt hL)
            rw [Int.add_mul] at this; omega
          . exact he
          . have := Int.mul_le_mul_of_nonneg_right (show placeR L s + 1 <= placeR L r by omega) (Int.le_of_lt hL)
            rw [Int.add_mul] at this; omega
        rw [e1] at h'
        rw [ih (fun z hz => hl z (List.mem_cons_of_mem _ hz)) (fun z hz => hm z (List.mem_cons_of_mem _ hz)) e1, show x = y by omega]
  intro xs ys hx hy h
  have := key (l := xs.reverse) (m := ys.reverse) (fun x h => isW_iff.mp hx x (List.mem_reverse.mp h)) (fun x h => isW_iff.mp hy x (List.mem_reverse.mp h)) h
  exact List.reverse_inj.mp this
end GW
namespace L2
open PySem PySem.Spec PyProof.Rows
end L2
namespace L2
open PySem PySem.Spec PyProof.Rows
theorem call_isinstK {X : Cx} {K : PySem.W.Frag} (hK : X.K = K) : CallR X (.builtin "isinstance") (fun xs H Q => ∃ x c cv t b, xs = [x, c] /\ TyW K H x t /\ (∀ u, RelV c u -> u = cv) /\ PySem.W.kitOne K t cv = some b /\ Q (.bl b) H) := by
  subst hK
  exact call_isinstW
end L2
namespace L2
open PySem PySem.Spec PyProof.Rows
section
variable {X : Cx} {K : PySem.W.Frag}
theorem ix_tupK (h : X.K = K) : IxR X (rIxT K) := by subst h; exact ix_tup
theorem ix_listK (h : X.K = K) : IxR X (rIxL K) := by subst h; exact ix_list
end
end L2
set_option Elab.async false
set_option linter.all false
set_option maxRecDepth 100000
set_option maxHeartbeats 4000000
namespace GW
def stepW (ways : List (List Int)) (r x : Int) : Int := (ways.getD r.toNat []).getD x.toNat 0
def walkW (ways : List (List Int)) (ws : List Int) : Int := ws.foldl (stepW ways) 0
def trailW (ways : List (List Int)) (ws : List Int) : List Int := (List.range (ws.length + 1)).map fun j => walkW ways (ws.take j)
structure Wf (L : Int) (marks : List Int) (ways : List (List Int)) : Prop where
  l1 : 1 <= L
  l6 : L <= 6
  n1 : 1 <= marks.length
  n40 : marks.length <= 40
  len : ways.length = marks.length
  rows : ∀ row ∈ ways, (row.length : Int) = L /\ ∀ x ∈ row, 0 <= x /\ x < marks.length
  mks : ∀ m ∈ marks, 0 <= m /\ m <= 1000000000
theorem stepW_of {ways : List (List Int)} {r x : Int} {row : List Int} {g : Int} (h1 : ways[r.toNat]? = some row) (h2 : row[x.toNat]? = some g) : stepW ways r x = g := by
  unfold stepW
  have e : ways.getD r.toNat [] = row := by rw [List.getD_eq_getElem?_getD, h1]; rfl
  rw [e, List.getD_eq_getElem?_getD, h2]; rfl
theorem Wf.row {L : Int} {marks : List Int} {ways : List (List Int)} (wf : Wf L marks ways) {r : Int} (h0 : 0 <= r) (h1 : r < marks.length) : ∃ row, ways[r.toNat]? = some row /\ row ∈ ways /\ (row.length : Int) = L := by
  have hlt : r.toNat < ways.length := by rw [wf.len]; omega
  exact ⟨ways[r.toNat], by simp [hlt], List.getElem_mem hlt, (wf.rows _ (List.getElem_mem hlt)).1⟩
theorem Wf.step {L : Int} {marks : List Int} {ways : List (List Int)} (wf : Wf L marks ways) {r x : Int} (h0 : 0 <= r) (h1 : r < marks.length) (x0 : 0 <= x) (x1 : x < L) : ∃ row g, ways[r.toNat]? = some row /\ row[x.toNat]? = some g /\ stepW ways r x = g /\ 0 <= g /\ g < marks.length := by
  obtain ⟨row, hr, hm, hl⟩ := wf.row h0 h1
  have hlt : x.toNat < row.length := by omega
  have hg : row[x.toNat]? = some row[x.toNat] := by simp [hlt]
  exact ⟨row, row[x.toNat], hr, hg, stepW_of hr hg, (wf.rows row hm).2 _ (List.getElem_mem hlt)⟩
theorem walkW_snoc (ways : List (List Int)) (ws : List Int) (x : Int) : walkW ways (ws ++ [x]) = stepW ways (walkW ways ws) x := by
  unfold walkW
  rw [List.foldl_append]; rfl
theorem walkW_take {ways : List (List Int)} {ws : List Int} {i : Nat} {x : Int} (h : ws[i]? = some x) : walkW ways (ws.take (i + 1)) = stepW ways (walkW ways (ws.take i)) x := by
  rw [List.take_add_one, h]
  exact walkW_snoc _ _ _
theorem Wf.walk {L : Int} {marks : List Int} {ways : List (List Int)} (wf : Wf L marks ways) {ws : List Int} (hw : isW L ws = true) : ∀ i, 0 <= walkW ways (ws.take i) /\ walkW ways (ws.take i) < marks.length := by
  intro i
  induction i with
  | zero => have := wf.n1; simp [walkW]; omega
  | succ i ih =>
    cases e : ws[i]? with
    | none =>
      have hle := List.getElem?_eq_none_iff.mp e
      rw [List.take_of_length_le (by omega)]
      rw [List.take_of_length_le hle] at ih
      exact ih
    | some x =>
      rw [walkW_take e]
      have hx := isW_iff.mp hw x (List.mem_of_getElem? e)
      obtain ⟨_, g, _, _, h, h0, h1⟩ := wf.step ih.1 ih.2 hx.1 hx.2
      rw [h]; exact ⟨h0, h1⟩
theorem trailW_length (ways : List (List Int)) (ws : List Int) : (trailW ways ws).length = ws.length + 1 := by simp [trailW]
theorem trailW_get {ways : List (List Int)} {ws : List Int} {i : Nat} (h : i <= ws.length) : (trailW ways ws)[i]? = some (walkW ways (ws.take i)) := by
  unfold trailW
  rw [List.getElem?_map, List.getElem?_range (by omega)]; rfl
theorem trailW_last (ways : List (List Int)) (ws : List Int) : (trailW ways ws)[ws.length]? = some (walkW ways ws) := by
  rw [trailW_get (Nat.le_refl _), List.take_length]
end GW
namespace L2
open PySem PySem.Spec PyProof.Rows GW
def Rows (K : PySem.W.Frag) (H : Hp) (w : Addr) (ways : List (List Int)) : Prop := ∃ ts : List Addr, SqT K H w (ts.map V.ref) /\ ts.length = ways.length /\ ∀ (i : Nat) (t : Addr) (row : List Int), ts[i]? = some t -> ways[i]? = some row -> SqT K H t (row.map V.int)
theorem Rows.mono {K : PySem.W.Frag} {H H' : Hp} {w : Addr} {ways : List (List Int)} (h : Rows K H w ways) (e : Same H H') : Rows K H' w ways := by
  obtain ⟨ts, h1, h2, h3⟩ := h
  exact ⟨ts, e.seqT h1, h2, fun i t r a b => e.seqT (h3 i t r a b)⟩
theorem Rows.at {K : PySem.W.Frag} {H : Hp} {w : Addr} {ways : List (List Int)} (h : Rows K H w ways) {i : Nat} {row : List Int} (hr : ways[i]? = some row) : ∃ xs t, SqT K H w xs /\ atI xs (i : Int) = some (V.ref t) /\ SqT K H t (row.map V.int) := by
  obtain ⟨ts, h1, h2, h3⟩ := h
  have hlt : i < ts.length := by rw [h2]; exact (List.getElem?_eq_some_iff.mp hr).1
  have ht : ts[i]? = some ts[i] := by simp [hlt]
  exact ⟨_, ts[i], h1, atI_nat (by rw [List.getElem?_map, ht]; rfl), h3 i _ _ ht hr⟩
theorem Rows.atZ {K : PySem.W.Frag} {H : Hp} {w : Addr} {ways : List (List Int)} (h : Rows K H w ways) {r : Int} {row : List Int} (h0 : 0 <= r) (hr : ways[r.toNat]? = some row) : ∃ xs t, SqT K H w xs /\ atI xs r = some (V.ref t) /\ SqT K H t (row.map V.int) := by
  obtain ⟨xs, t, a, b, c⟩ := h.at hr
  exact ⟨xs, t, a, by rw [<- b]; congr 1; omega, c⟩
theorem atI_end {α : Type} {xs : List α} {v : α} (h : xs[xs.length - 1]? = some v) : atI xs (-1) = some v := by
  have hlt := (List.getElem?_eq_some_iff.mp h).1
  unfold atI ixN
  rw [if_neg (by omega), if_pos (by omega)]
  show xs[(-1 + (xs.length : Int)).toNat]? = some v
  rw [show (-1 + (xs.length : Int)).toNat = xs.length - 1 by omega]
  exact h
theorem atI_int {ns : List Int} {i : Int} {v : Int} (h0 : 0 <= i) (h : ns[i.toNat]? = some v) : atI (ns.map V.int) i = some (V.int v) := atI_of h0 (by rw [List.getElem?_map, h]; rfl)
end L2
namespace L2
open PySem PySem.Spec PyProof.Rows GW
theorem seqT_off {K : PySem.W.Frag} {H : Hp} {p t : Addr} {xs ys zs : List V} (hp : H p = some (.lst zs)) (h : SqT K H t xs) : SqT K (upd H p (.lst ys)) t xs := by
  rcases h with (q | ⟨o, q⟩) | q
  . refine .inl (.inl ?_)
    rw [upd_ne (fun z => by rw [z, hp] at q; cases q)]; exact q
  . refine .inl (.inr ⟨o, ?_⟩)
    rw [upd_ne (fun z => by rw [z, hp] at q; cases q)]; exact q
  . exact .inr q
def TupsL (K : PySem.W.Frag) (H : Hp) (l : Addr) (ws : List (List Int)) : Prop := ∃ ts : List Addr, H l = some (.lst (ts.map V.ref)) /\ ts.length = ws.length /\ ∀ (i : Nat) (t : Addr) (w : List Int), ts[i]? = some t -> ws[i]? = some w -> SqT K H t (w.map V.int)
theorem TupsL.mono {K : PySem.W.Frag} {H H' : Hp} {l : Addr} {ws : List (List Int)} (h : TupsL K H l ws) (e : Same H H') : TupsL K H' l ws := by
  obtain ⟨ts, h1, h2, h3⟩ := h
  exact ⟨ts, e _ _ h1, h2, fun i t w a b => e.seqT (h3 i t w a b)⟩
theorem TupsL.off {K : PySem.W.Frag} {H : Hp} {l p : Addr} {ws : List (List Int)} {zs ys : List V} (h : TupsL K H l ws) (hp : H p = some (.lst zs)) (ne : l ≠ p) : TupsL K (upd H p (.lst ys)) l ws := by
  obtain ⟨ts, h1, h2, h3⟩ := h
  exact ⟨ts, by rw [upd_ne ne]; exact h1, h2, fun i t w a b => seqT_off hp (h3 i t w a b)⟩
theorem TupsL.push {K : PySem.W.Frag} {H : Hp} {l t : Addr} {ws : List (List Int)} {w : List Int} (h : TupsL K H l ws) (hw : SqT K H t (w.map V.int)) : ∃ xs, H l = some (.lst xs) /\ xs.length = ws.length /\ TupsL K (upd H l (.lst (xs ++ [V.ref t]))) l (ws ++ [w]) := by
  obtain ⟨ts, h1, h2, h3⟩ := h
  refine ⟨ts.map V.ref, h1, by rw [List.length_map, h2], ts ++ [t], by rw [upd_same, List.map_append]; rfl, by simp [h2], fun i t' w' a b => seqT_off h1 ?_⟩
  by_cases hi : i < ts.length
  . rw [List.getElem?_append_left hi] at a
    rw [List.getElem?_append_left (by omega)] at b
    exact h3 i t' w' a b
  . have ht := (List.getElem?_eq_some_iff.mp a).1
    rw [List.length_append, List.length_singleton] at ht
    have e : i = ts.length := by omega
    subst e
    rw [List.getElem?_append_right (Nat.le_refl _), Nat.sub_self] at a
    rw [List.getElem?_append_right (by omega), h2, Nat.sub_self] at b
    simp at a b
    subst a b
    exact hw
theorem TupsL.nil {K : PySem.W.Frag} {H : Hp} {l : Addr} (h : H l = some (.lst [])) : TupsL K H l [] := ⟨[], h, rfl, fun i t w a _ => by simp at a⟩
theorem TupsL.rows {K : PySem.W.Frag} {H : Hp} {l : Addr} {ws : List (List Int)} (h : TupsL K H l ws) : ∃ xs, H l = some (.lst xs) /\ ∀ t, H t = none -> Rows K (upd H t (.tup xs)) t ws := by
  obtain ⟨ts, h1, h2, h3⟩ := h
  exact ⟨_, h1, fun t ht => ⟨ts, SqT.of upd_same, h2, fun i t' w a b => (Same.new ht).seqT (h3 i t' w a b)⟩⟩
end L2
set_option Elab.async false
set_option linter.all false
set_option maxRecDepth 100000
set_option maxHeartbeats 4000000
namespace PySem
open Sem (wp)
open AutoSeq1 (wpAny_loadPart')
section
variable {prog : Program} {w : World} {A : Around} {E : Value -> Shared -> Prop} {s : Shared}
end
end PySem
namespace L2
open PySem PySem.Spec PyProof.Rows
section
variable {X : Cx} {pins : List (Addr × Obj)} {σ : St} {H : Hp} {s : Shared}
end
section
variable {td ty tv tx : TE} {D : Ends} {σ : St} {H : Hp} {Q : VK}
theorem r_dget : tDGet td ty σ H Q = td σ H fun x H1 => ty σ H1 fun y H2 => ∃ a v, x = .ref a /\ DGet H2 a y (some v) /\ Q v H2 := rfl
theorem r_dnotin : tDNotIn ty td σ H Q = ty σ H fun y H1 => td σ H1 fun x H2 => ∃ a o, x = .ref a /\ DGet H2 a y o /\ Q (.bl (!o.isSome)) H2 := rfl
theorem r_dput : sDPut td ty tv D σ H = tv σ H fun v H1 => td σ H1 fun x H2 => ty σ H2 fun y H3 => ∃ a H4, x = .ref a /\ DPut H3 a y v H4 /\ D.nx σ H4 := rfl
end
end L2
namespace HT
open PySem PySem.Spec PyProof.Rows
section
open PySem.SeqAt PySem.MeetsSeq PySem.MeetsSeq2 PySem.MeetsSeq3
open PySem.AutoSeq1 (wpAny_loadPart')
end
end HT
namespace L2
open PySem PySem.Spec PyProof.Rows
end L2
set_option Elab.async false
set_option linter.all false
set_option maxRecDepth 100000
set_option maxHeartbeats 4000000
namespace GW
def addRow (w : List Int) : List (Int × List Int) -> Nat -> List Int -> List (Int × List Int)
  | ents, _, [] => ents
  | ents, x, g :: r => addRow w (if g ∈ ents.map (·.1) then ents else ents ++ [(g, w ++ [(x : Int)])]) (x + 1) r
def bfs (ways : List (List Int)) : Nat -> List (Int × List Int) -> Nat -> List (Int × List Int)
  | 0, ents, _ => ents
  | f + 1, ents, i => match ents[i]? with
    | none => ents
    | some e => bfs ways f (addRow e.2 ents 0 (ways.getD e.1.toNat [])) (i + 1)
def wordsIn (ways : List (List Int)) : List (Int × List Int) := bfs ways (ways.length + 1) [(0, [])] 0
theorem nodup_len : ∀ (n : Nat) {l : List Int}, l.Nodup -> (∀ x ∈ l, 0 <= x /\ x < (n : Int)) -> l.length <= n
  | 0, l, _, h => by
    cases l with
    | nil => simp
    | cons x r => have := h x List.mem_cons_self; omega
  | n + 1, l, hn, h => by
    by_cases hm : (n : Int) ∈ l
    . have e := List.length_erase_of_mem hm
      have := nodup_len n (l := l.erase (n : Int)) (hn.erase _) (fun x hx => by
        have h1 := (hn.mem_erase_iff).mp hx
        have h2 := h x h1.2
        have h3 := h1.1
        omega)
      omega
    . have := nodup_len n hn (fun x hx => by
        have h2 := h x hx
        have : x ≠ n := fun z => hm (z ▸ hx)
        omega)
      omega
end GW
namespace L2
open PySem PySem.Spec PyProof.Rows GW
end L2
namespace L2
end L2
namespace L2
open PySem PySem.Spec PyProof.Rows
def ups (n : Nat) : List Int := (List.range n).map fun i : Nat => (i : Int)
def tListRng (te : TE) : TE := fun σ H Q => te σ H fun x H1 => ∃ j : Int, x = .int j /\ 0 <= j /\ j <= 100000 /\ ∀ p, H1 p = none -> Q (.ref p) (upd H1 p (.lst ((ups j.toNat).map V.int)))
theorem r_listRng {te : TE} {σ : St} {H : Hp} {Q : VK} : tListRng te σ H Q = te σ H fun x H1 => ∃ j : Int, x = .int j /\ 0 <= j /\ j <= 100000 /\ ∀ p, H1 p = none -> Q (.ref p) (upd H1 p (.lst ((ups j.toNat).map V.int))) := rfl
theorem items_ups {n : Nat} {acc : Array Value} (h : ItemsOf (fun i v => ∃ t, v = .int ((0 : Int) + (i : Nat) * 1) t) acc n) : Vals ((ups n).map V.int) acc.toList := by
  have hs := h.1
  have key : ∀ (l : List Value) (k : Nat), (∀ i v, l[i]? = some v -> ∃ t, v = Value.int ((k + i : Nat) : Int) t) -> Vals (((List.range l.length).map fun i => ((k + i : Nat) : Int)).map V.int) l := by
    intro l
    induction l with
    | nil => intro k _; exact .nil
    | cons u r ih =>
      intro k hk
      rw [List.length_cons, List.range_succ_eq_map, List.map_cons, List.map_cons]
      refine .cons ?_ ?_
      . obtain ⟨t, e⟩ := hk 0 u (by simp)
        exact ⟨t, by simpa using e⟩
      . have := ih (k + 1) (fun i v hv => by
          obtain ⟨t, e⟩ := hk (i + 1) v (by simpa using hv)
          exact ⟨t, by rw [e]; congr 1; push_cast; omega⟩)
        have e : ((List.map Nat.succ (List.range r.length)).map fun i => ((k + i : Nat) : Int)) = ((List.range r.length).map fun i => ((k + 1 + i : Nat) : Int)) := by
          rw [List.map_map]
          apply List.map_congr_left
          intro i _
          show ((k + (i + 1) : Nat) : Int) = _
          congr 1; omega
        rw [e]
        exact this
  have := key acc.toList 0 (fun i v hv => by
    obtain ⟨t, e⟩ := h.2 i v (by simpa using hv)
    exact ⟨t, by rw [e]; congr 1; push_cast; omega⟩)
  have hl : acc.toList.length = n := by simpa using hs
  rw [hl] at this
  have e2 : ((List.range n).map fun i => ((0 + i : Nat) : Int)) = ups n := by
    unfold ups
    apply List.map_congr_left
    intro i _
    congr 1; omega
  rw [e2] at this
  exact this
theorem pe_listRng {X : Cx} {e : Expr} {te : TE} {p p2 pos pos2 : Pos} (hc : X.calm = true) (hg : Gl X "list") (hm : X.mg "list" = none) (hg2 : Gl X "range") (hm2 : X.mg "range" = none) (he : PE X e te)
    (hs1 : starEach [.Call (.Name "range" p2) [e] [] pos2] X.env = [(false, eval (.Call (.Name "range" p2) [e] [] pos2) X.env)] := by rfl) (hs : starEach [e] X.env = [(false, eval e X.env)] := by rfl) :
    PE X (.Call (.Name "list" p) [.Call (.Name "range" p2) [e] [] pos2] [] pos) (tListRng te) := by
  intro pins s σ H Q I h
  refine wpAny_Call_Name_kw (ld_blt I hg hm boot_list ?_)
  refine PyProof.Rows.callWith_type1 ?_ hs1 rfl
  rw [hs1]
  refine Calls.spliced_cons ?_
  refine Call_ (ld_blt I hg2 hm2 boot_range (PyProof.Rows.callWith_type1 (thn (pa_cons he pa_nil hs pos2 pins s σ H (fun vs H1 => ∃ j : Int, vs = [.int j] /\ 0 <= j /\ j <= 100000 /\ ∀ p, H1 p = none -> Q (.ref p) (upd H1 p (.lst ((ups j.toNat).map V.int)))) I ?_) fun us s1 ⟨vs, H1, I1, r1, q1⟩ => ?_) hs rfl))
  . show te σ H _
    have : (fun x H1 => ∃ j : Int, x = V.int j /\ 0 <= j /\ j <= 100000 /\ ∀ p, H1 p = none -> Q (.ref p) (upd H1 p (.lst ((ups j.toNat).map V.int)))) = (fun x H1 => tNil σ H1 fun xs H2 => ∃ j : Int, x :: xs = [V.int j] /\ 0 <= j /\ j <= 100000 /\ ∀ p, H2 p = none -> Q (.ref p) (upd H2 p (.lst ((ups j.toNat).map V.int)))) := by
      funext x H1
      simp [tNil]
    rw [<- this]
    exact h
  . obtain ⟨j, rfl, h0, h1, q⟩ := q1
    cases r1 with
    | cons r rr =>
      cases rr
      obtain ⟨t, rfl⟩ := r
      refine call_range_1 ?_
      refine Calls.spliced_nil ?_
      refine call_list_range (n := j.toNat) (I.ok.hd hc) (IsRange.new ..) (small_one (by omega) (by omega) (by omega) (by omega)) ?_ (by omega) fun h' tk acc' c' hk hS hacc => ?_
      . rw [rangeSize_one]; split <;> omega
      . have kp : ∀ b o, s1.heap.get? b = some o -> h'.get? b = some o := fun b o e => hk b o (Heap.get?_push_of_some _ e)
        have hz : (ups j.toNat).length = j.toNat := by simp [ups]
        have hl := line1000
        refine ⟨.ref _, _, I1.laid (t' := tk) kp (by rw [Heap.size_push]; exact Nat.le_succ _) (show ObjOk X.prog X.w _ h' _ (.lst ((ups j.toNat).map V.int)) from ⟨by rw [List.length_map, hz]; omega, acc'.toList, c', items_ups hacc, by simpa using hS⟩), rfl, q _ (I1.hok.fresh (by rw [Heap.size_push]; exact Nat.le_succ _))⟩
end L2
namespace L2
open PySem PySem.Spec PyProof.Rows
def rNeD (K : PySem.W.Frag) (n : Nat) : R2 := fun x y H Q => ∃ a c b, x = .ref a /\ y = .ref c /\ EqD K H n x y b /\ Q (.bl (!b)) H
theorem r_neD {K : PySem.W.Frag} {n : Nat} {x y : V} {H : Hp} {Q : VK} : rNeD K n x y H Q = ∃ a c b, x = .ref a /\ y = .ref c /\ EqD K H n x y b /\ Q (.bl (!b)) H := rfl
theorem op_neD {X : Cx} (n : Nat) (hu : X.A.units + n < cLine) : OpR X (compareOp .NotEq) (rNeD X.K n) := by
  intro pins s σ H x y v u Q I rx ry h
  obtain ⟨a, c, b, rfl, rfl, h, q⟩ := h
  cases rx
  cases ry
  cases n with
  | zero => exact absurd (show false = true from h.1) Bool.false_ne_true
  | succ n =>
    rcases h with ⟨fx, _⟩ | ⟨a', c', xs, ys, e1, e2, hq, e, he, rfl⟩
    . exact absurd (show false = true from fx) Bool.false_ne_true
    . cases e1
      cases e2
      have key : ∀ (its its2 : List Value), Vals xs its -> Vals ys its2 -> ∀ j (h1 : j < its.toArray.size) (h2 : j < its2.toArray.size), SeqAt.EqAt X.A.in1 s its.toArray[j] its2.toArray[j] (e j) := fun its its2 r1 r2 j h1 h2 => by
        have l1 := r1.length
        have l2 := r2.length
        rw [List.size_toArray] at h1 h2
        obtain ⟨u1, g1, q1⟩ := r1.get (i := j) (x := xs[j]'(by omega)) (by simp [show j < xs.length by omega])
        obtain ⟨u2, g2, q2⟩ := r2.get (i := j) (x := ys[j]'(by omega)) (by simp [show j < ys.length by omega])
        have k1 : its.toArray[j]'(by rw [List.size_toArray]; exact h1) = u1 := by
          have := (List.getElem?_eq_some_iff.mp g1).2
          simpa using this
        have k2 : its2.toArray[j]'(by rw [List.size_toArray]; exact h2) = u2 := by
          have := (List.getElem?_eq_some_iff.mp g2).2
          simpa using this
        rw [k1, k2]
        exact (EqD.at I n X.A.in1 (by rw [in1_units]; omega) q1 q2 (he j _ _ (by simp [show j < xs.length by omega]) (by simp [show j < ys.length by omega]))).1
      have fin : EP X pins σ Q (.bool (!(decide (xs.length = ys.length) && (List.range (min xs.length ys.length)).all e))) s := ⟨.bl _, H, I, rfl, q⟩
      rcases hq with ⟨h1, h2⟩ | ⟨h1, h2⟩
      . obtain ⟨its, r1, p1, _⟩ := I.list h1
        obtain ⟨its2, r2, p2, _⟩ := I.list h2
        have l1 := r1.length
        have l2 := r2.length
        by_cases hl : xs.length = ys.length
        . have := SeqAt.RcNeAt.lists (e := e) p1.isList p2.isList (by rw [List.size_toArray, List.size_toArray]; omega) (by omega) (key its its2 r1 r2)
          rw [List.size_toArray, <- l1] at this
          rw [decide_eq_true hl, Bool.true_and, <- hl, Nat.min_self] at fin
          exact this _ _ _ _ fin
        . have := SeqAt.RcNeAt.lists_lengths (A := X.A) p1.isList p2.isList (by rw [List.size_toArray, List.size_toArray]; simp; omega) (by omega)
          rw [decide_eq_false hl, Bool.false_and] at fin
          exact this _ _ _ _ fin
      . obtain ⟨its, r1, p1, _⟩ := I.tuple h1
        obtain ⟨its2, r2, p2, _⟩ := I.tuple h2
        have l1 := r1.length
        have l2 := r2.length
        have := SeqAt.RcNeAt.tuples (e := e) (show s.heap.IsTuple a its.toArray from p1) (show s.heap.IsTuple c its2.toArray from p2) (by omega) (key its its2 r1 r2)
        rw [List.size_toArray, List.size_toArray, <- l1, <- l2, all_and] at this
        exact this _ _ _ _ fin
end L2
namespace L2
open PySem PySem.Spec PyProof.Rows
end L2
namespace L2
open PySem PySem.Spec PyProof.Rows
end L2
namespace GW
end GW
namespace L2
end L2
namespace L2
open PySem GW
end L2
namespace GW
end GW
namespace L2
open PySem GW
end L2
namespace GW
end GW
set_option Elab.async false
set_option linter.all false
set_option maxRecDepth 100000
set_option maxHeartbeats 4000000
namespace L2
open PySem PySem.Spec PyProof.Rows
end L2
namespace HT
open PySem PyProof.Rows
section
open PySem.SeqAt
open PySem.AutoSeq1 (wpAny_loadPart')
open PySem.MeetsSeq PySem.MeetsSeq2 PySem.MeetsSeq3
end
end HT
namespace L2
open PySem PySem.Spec PyProof.Rows
end L2
namespace L2
end L2
namespace GW
end GW
set_option Elab.async false
set_option linter.all false
set_option maxRecDepth 100000
set_option maxHeartbeats 4000000
namespace L2
open PySem PySem.Spec PyProof.Rows
end L2
namespace L2
open PySem PySem.Spec PyProof.Rows
def rng (i j : Int) : List Int := (List.range (j - i).toNat).map fun k : Nat => i + (k : Int)
end L2
namespace GW
open L2
def ordW (o : List Int) (r : Int) : Int := o.getD r.toNat 0
theorem ordW_at {o : List Int} {r : Int} (h0 : 0 <= r) (h1 : r < o.length) : o[r.toNat]? = some (ordW o r) := by
  unfold ordW
  rw [List.getD_eq_getElem?_getD, List.getElem?_eq_getElem (by omega)]; rfl
end GW
namespace GW
end GW
namespace GW
open L2
end GW
namespace L2
open PySem PySem.Spec PyProof.Rows GW
end L2
namespace L2
end L2
namespace L2
end L2
namespace L2
open PySem PySem.Spec PyProof.Rows GW
end L2
namespace GW
end GW
namespace GW
open L2
end GW
set_option Elab.async false
set_option linter.all false
set_option maxRecDepth 100000
set_option maxHeartbeats 4000000
namespace GW
open L2
end GW
set_option Elab.async false
set_option linter.all false
set_option maxRecDepth 100000
set_option maxHeartbeats 4000000
namespace PySem
open Sem (wp)
def Heap.DEnt (h : Heap) (d : Addr) (es : Array DictEntry) (ep : Nat) : Prop := ∃ o, h.get? d = some o /\ o.ExactDict /\ o.data = .dict es ep
section
variable {prog : Program} {w : World} {A : Around} {E : Value -> Shared -> Prop} {s : Shared} {d it : Addr} {es : Array DictEntry} {i ep : Nat}
theorem Heap.DEnt.typeIs (h : s.heap.DEnt d es ep) : s.TypeIs (.ref d) "dict" := let ⟨o, ho, hc, _⟩ := h; ⟨o, ho, hc.1⟩
theorem pyIter_dent {Q : Value -> Shared -> Prop} (hd : (d == sysModules) = false) (hm : s.heap.DEnt d es ep)
    (hQ : Q (.ref s.heap.objs.size) { s with heap := s.heap.push { cls := .type "dict_keyiterator", data := .fields #[.ref d, .int 0 0, .int es.size 0, .int ep 0] } }) : wpAny (model prog w) A (pyIter (.ref d)) Q E s := by
  have hT := hm.typeIs
  obtain ⟨o, ho, hc, hdat⟩ := id hm
  refine wpAny_pyIter_slot hT F.slot_dict_iter (wpAny_call_entry F.slot_dict_iter hT F.entry_dict_iter (?_ : wpAny _ _ (Builtin.«dict.__iter__» _) _ _ s) (F.args_dict_iter_1 _))
  unfold Builtin.«dict.__iter__»; refine wpAny_bind ?_
  unfold Builtin.Dict.dictSlotNone; refine wpAny_bind (wpAny_notOrdered_dict hT ?_)
  show wpAny _ _ (pure (Value.ref d)) _ _ s; refine wpAny_pure ?_
  show wpAny _ _ (Builtin.Dict.showsAll d >>= _) _ _ s; unfold Builtin.Dict.showsAll
  rw [if_neg (fun z => by rw [hd] at z; cases z)]
  refine wpAny_bind (wpAny_pure (wpAny_bind (wpAny_dictEntries ho hdat (wpAny_bind (wpAny_dictEpoch ho hdat ?_)))))
  refine wpAny_bind (wpAny_newObj_type (wpAny_pure ⟨_, rfl, "dict_keyiterator", _, ⟨_, Heap.get?_push_size _ rfl, rfl⟩, F.slot_dict_keyiterator_next.lookup, ?_⟩)); simpa [rawInt] using hQ
theorem pyNext_dent_item {Q : Option Value -> Shared -> Prop} (hit : s.heap.IsKeyIter it d i es.size ep) (hm : s.heap.DEnt d es ep) (hlt : i < es.size)
    (hQ : ∀ h', h'.IsKeyIter it d (i + 1) es.size ep -> Heap.SameBut it s.heap h' -> Q (some es[i].key) { s with heap := h' }) : wpAny (model prog w) A (pyNext (.ref it)) Q E s := by
  obtain ⟨o, ho, hc, hd⟩ := id hit
  obtain ⟨od, hod, hcd, hdd⟩ := id hm
  have hown : Builtin.Dict_items.ownsTuple "dict_keyiterator" = false := by decide
  unfold pyNext
  refine wpAny_bind (wpAny_attempt (wpAny_callSpecial?_slot (name := Str.ofString "__next__") hit.typeIs F.slot_dict_keyiterator_next (wpAny_call_entry F.slot_dict_keyiterator_next hit.typeIs F.entry_dict_keyiterator_next ?_ (F.args_dict_keyiterator_next_1 _))))
  refine wpAny_bind (wpAny_pure (wpAny_bind (wpAny_bind ?_)))
  first | refine wpAny_bind (wpAny_typeNameOfWhole_keyiter hit.typeIs (wpAny_pure (wpAny_bind (wpAny_fieldsOf ho hd ?_)))) | refine wpAny_bind (wpAny_typeNameOf_keyiter hit.typeIs (wpAny_pure (wpAny_bind (wpAny_fieldsOf ho hd ?_))))
  simp only [hown, Bool.false_eq_true, if_false]; show wpAny _ _ (if (Value.ref d == Value.none) = true then _ else _) _ _ s
  rw [if_neg (show ¬ ((Value.ref d == Value.none) = true) from fun z => Bool.false_ne_true z)]
  refine wpAny_bind (wpAny_pure (wpAny_bind (wpAny_dictEntries hod hdd ?_)))
  rw [if_neg (by simp)]; refine wpAny_bind (wpAny_pure (wpAny_bind (wpAny_dictEpoch hod hdd ?_)))
  rw [if_neg (by simp)]; refine wpAny_pure ?_
  simp only [show ¬ ((i : Int) < 0) from by omega, if_false, Int.toNat_natCast, Array.getElem?_eq_getElem hlt]; refine wpAny_bind ?_
  first | refine wpAny_bind (wpAny_typeNameOfWhole_keyiter hit.typeIs (wpAny_pure (wpAny_bind (wpAny_isOneOf_keyiter hit.typeIs ?_)))) | refine wpAny_bind (wpAny_typeNameOf_keyiter hit.typeIs (wpAny_pure (wpAny_bind (wpAny_isOneOf_keyiter hit.typeIs ?_))))
  show wpAny _ _ (setField (.ref it) 1 (rawInt ((i : Int) + 1)) >>= _) _ _ s; refine wpAny_bind (wpAny_setField ho hd (by simp) ?_)
  have hit' : (s.heap.update it (Obj.mapFields (·.setIfInBounds 1 (rawInt ((i : Int) + 1))))).IsKeyIter it d (i + 1) es.size ep := ⟨_, Heap.get?_update_self _ ho (Obj.isFreed_of_fields (Obj.data_mapFields hd _)), (Obj.cls_mapFields ..).trans hc, by rw [Obj.data_mapFields hd]; simp [rawInt]⟩
  refine wpAny_bind (wpAny_holding (wpAny_bind (wpAny_isOneOf_keyiter (s := { s with heap := s.heap.update it (Obj.mapFields (·.setIfInBounds 1 (rawInt ((i : Int) + 1)))) }) hit'.typeIs ?_)))
  show wpAny _ _ (pure es[i].key) _ _ _; exact wpAny_pure (wpAny_pure ⟨_, rfl, wpAny_pure (hQ _ hit' (Heap.SameBut.update ..))⟩)
theorem pyNext_dent_end {Q : Option Value -> Shared -> Prop} (hh : A.handled = none) (hit : s.heap.IsKeyIter it d i es.size ep) (hm : s.heap.DEnt d es ep) (hge : es.size <= i)
    (hQ : ∀ h', Heap.ExtBut it s.heap h' -> Q none { s with heap := h' }) : wpAny (model prog w) A (pyNext (.ref it)) Q E s := by
  obtain ⟨o, ho, hc, hd⟩ := id hit
  obtain ⟨od, hod, hcd, hdd⟩ := id hm
  have hown : Builtin.Dict_items.ownsTuple "dict_keyiterator" = false := by decide
  unfold pyNext
  refine wpAny_bind (wpAny_attempt (wpAny_callSpecial?_slot (name := Str.ofString "__next__") hit.typeIs F.slot_dict_keyiterator_next (wpAny_call_entry F.slot_dict_keyiterator_next hit.typeIs F.entry_dict_keyiterator_next ?_ (F.args_dict_keyiterator_next_1 _))))
  refine wpAny_bind (wpAny_pure (wpAny_bind (wpAny_bind ?_)))
  first | refine wpAny_bind (wpAny_typeNameOfWhole_keyiter hit.typeIs (wpAny_pure (wpAny_bind (wpAny_fieldsOf ho hd ?_)))) | refine wpAny_bind (wpAny_typeNameOf_keyiter hit.typeIs (wpAny_pure (wpAny_bind (wpAny_fieldsOf ho hd ?_))))
  simp only [hown, Bool.false_eq_true, if_false]; show wpAny _ _ (if (Value.ref d == Value.none) = true then _ else _) _ _ s
  rw [if_neg (show ¬ ((Value.ref d == Value.none) = true) from fun z => Bool.false_ne_true z)]
  refine wpAny_bind (wpAny_pure (wpAny_bind (wpAny_dictEntries hod hdd ?_)))
  rw [if_neg (by simp)]; refine wpAny_bind (wpAny_pure (wpAny_bind (wpAny_dictEpoch hod hdd ?_)))
  rw [if_neg (by simp)]; refine wpAny_pure ?_
  simp only [show ¬ ((i : Int) < 0) from by omega, if_false, Int.toNat_natCast, Array.getElem?_eq_none hge]; refine wpAny_bind ?_
  first | refine wpAny_bind (wpAny_typeNameOfWhole_keyiter hit.typeIs (wpAny_pure ?_)) | refine wpAny_bind (wpAny_typeNameOf_keyiter hit.typeIs (wpAny_pure ?_))
  show wpAny _ _ (setField (.ref it) 0 .none >>= _) _ _ s; refine wpAny_bind (wpAny_setField ho hd (by simp) ?_)
  show wpAny _ _ (newExc (.type "StopIteration") [] >>= _) _ _ _; refine wpAny_bind ?_
  simp only [newExc, newTuple]; refine wpAny_bind (wpAny_newObj_type ?_ (by size_fits))
  refine wpAny_bind (m := firstArgMember _ _) (wpAny_of_eq (a := Value.none) (by first | rfl | (simp only [firstArgMember]; rfl)) (wpAny_newObj_type ?_ (by size_fits)))
  simp only [raiseNew]; refine wpAny_bind (wpAny_handled ?_)
  rw [show A.in1.handled = none from hh]; refine wpAny_bind (wpAny_pure (wpAny_throw ?_))
  refine wpAny_bind (wpAny_isInstance (T := "StopIteration") (b := true) ⟨_, Heap.get?_push_size _ rfl, rfl⟩ isSubtype_stop (wpAny_pure (hQ _ (((Heap.SameBut.update ..).extBut.push _).push _))))
end
end PySem
namespace L2
open PySem PySem.Spec PyProof.Rows
theorem paired_get {α β : Type} {F : α -> β -> Prop} : ∀ {l : List α} {m : List β} {i : Nat} {a : α}, Paired F l m -> l[i]? = some a -> ∃ b, m[i]? = some b /\ F a b
  | _, _, _, _, .nil, e => by simp at e
  | _, _, 0, _, .cons r _, e => by simp at e; subst e; exact ⟨_, rfl, r⟩
  | _, _, i + 1, a, .cons _ t, e => by
    obtain ⟨b, h1, h2⟩ := paired_get (i := i) (a := a) t (by simpa using e)
    exact ⟨b, by simpa using h1, h2⟩
theorem dent_of {P : Program} {w : World} {H : Hp} {h : Heap} {a : Addr} {kvs : List (List Key × V)} (ok : HOk P w H h) (e : Rd H a (.dT kvs)) :
    ∃ o es ep, h.get? a = some o /\ o.ExactDict /\ o.data = .dict es ep /\ es.size = kvs.length /\ (a == sysModules) = false /\ kvs.length <= sizeLine /\
      ∀ (i : Nat) (k : List Key) (v : V), kvs[i]? = some (k, v) -> ∃ b en, es[i]? = some en /\ en.key = .ref b /\ H b = some (.tup (k.map kV)) := by
  obtain ⟨z, y, xs, r, o, es, ep, h1, h2, h3, h4, h5⟩ := (show ObjOk P w H h a (.dT kvs) from rd_of ok e)
  have hl := Paired.length r
  have hs : es.size = kvs.length := by rw [<- Array.length_toList, h4, List.length_map, hl]
  refine ⟨o, es, ep, h1, h2, h3, hs, y, z, fun i k v hk => ?_⟩
  obtain ⟨q, hq, e1, e2, _⟩ := paired_get r hk
  refine ⟨q.2.1, entryOfKey (tupleKind (mixKind P w)) q, ?_, rfl, e2⟩
  rw [<- Array.getElem?_toList, h4, List.getElem?_map, hq]; rfl
section
variable {X : Cx} {pins : List (Addr × Obj)} {σ : St} {H : Hp} {s : Shared} {a : Addr}
theorem Inv.freeze {kvs : List (List Key × V)} {o : Obj} (I : Inv X pins σ H s) (e : H a = some (.dT kvs)) (ho : s.heap.get? a = some o) : Inv X pins σ (upd H a (.frz o (.dT kvs))) s := by
  refine d_write (h' := s.heap) (t' := s.toks) I (by rw [e]; exact True.intro) ⟨rfl, fun _ _ => rfl⟩ ⟨o, ho⟩ ?_
  obtain ⟨z, y, xs, r, q⟩ := (show ObjOk X.prog X.w H s.heap a (.dT kvs) from I.hok a _ e)
  refine ⟨ho, z, y, xs, Paired.mapP r fun p x hx => ⟨hx.1, ?_, hx.2.2⟩, q⟩
  rw [upd_ne (fun z => by have h1 := hx.2.1; rw [z, e] at h1; cases h1)]
  exact hx.2.1
end
def Itd (o : Obj) (a : Addr) (kvs : List (List Key × V)) : It := ⟨fun i H => i < kvs.length /\ H a = some (.frz o (.dT kvs)), fun i H x H' => H' = H /\ ∃ b k v, kvs[i]? = some (k, v) /\ x = .ref b /\ H b = some (.tup (k.map kV)), fun i H => kvs.length <= i /\ H a = some (.frz o (.dT kvs))⟩
theorem turn_dictT {P : Program} {w : World} {K : PySem.W.Frag} {tg : Expr} {o : Obj} {a it : Addr} {kvs : List (List Key × V)} {es : Array DictEntry} {ep : Nat} (hai : a ≠ it) (hc : o.ExactDict) (hd : o.data = .dict es ep) (hs : es.size = kvs.length) :
    Turn P w K tg (Itd o a kvs) [it] it (fun i h => h.IsKeyIter it a i es.size ep) where
  mem := by simp
  obj := fun i h st b hb => by
    have e : b = it := by simpa using hb
    subst e
    obtain ⟨o, e, c, d⟩ := st
    exact ⟨o, e, fun v z => by rw [d] at z; cases z⟩
  keep := fun i h h' st k => st.at fun o e => k it (by simp) o e
  item := by
    intro X hP hw hK hcm i pins s σ H E I hf st hg
    subst hP hw hK
    obtain ⟨hi, hq⟩ := hg
    obtain ⟨hko, _⟩ := (show ObjOk X.prog X.w H s.heap a (.frz o (.dT kvs)) from I.hok a _ hq)
    obtain ⟨o', es', ep', g1, g2, g3, g4, g5, g6, g7⟩ := dent_of I.hok (.inr ⟨o, hq⟩)
    rw [hko] at g1
    cases g1
    rw [hd] at g3
    cases g3
    obtain ⟨kv, hkv⟩ : ∃ kv, kvs[i]? = some kv := ⟨kvs[i], by simp [hi]⟩
    obtain ⟨k, v⟩ := kv
    obtain ⟨b, en, e1, e2, e3⟩ := g7 i k v hkv
    obtain ⟨f0, f1, f2, f3, f4, f5⟩ := hf it (by simp)
    have hlt : i < es.size := by omega
    have ee : es[i] = en := by rw [Array.getElem?_eq_getElem hlt] at e1; exact Option.some.inj e1
    refine pyNext_dent_item st ⟨o, hko, hc, hd⟩ hlt fun h' st' sb => ?_
    have I1 : Inv X pins σ H { s with heap := h' } := I.turned (t' := s.toks) (fun b o hb e => (sb.2 b hb).trans e) f0 f1 f3 f4 f5
    obtain ⟨io, e, c, d⟩ := id st'
    exact ⟨_, rfl, go_of (s := { s with heap := h' }) e c d (by decide) ⟨.ref b, H, I1, (by rw [ee, e2]; rfl), ⟨rfl, b, k, v, hkv, rfl, e3⟩, st', fun b hb => (hf b hb).1⟩⟩
  done := by
    intro X hP hw hK hcm i pins s σ H E I hf st hg
    subst hP hw hK
    obtain ⟨hi, hq⟩ := hg
    obtain ⟨hko, _⟩ := (show ObjOk X.prog X.w H s.heap a (.frz o (.dT kvs)) from I.hok a _ hq)
    obtain ⟨f0, f1, f2, f3, f4, f5⟩ := hf it (by simp)
    exact pyNext_dent_end (I.ok.hd hcm) st ⟨o, hko, hc, hd⟩ (by omega) fun h' eb => ⟨rfl, I.turned (t' := s.toks) (fun b o hb e => eb b o hb e) f0 f1 f3 f4 f5⟩
  self := fun _ _ _ _ _ st h => wpAny_pyIter_keyiter st h
def iDictT (td : TE) : TI := fun σ H R => td σ H fun x H1 => ∃ a kvs, x = .ref a /\ H1 a = some (.dT kvs) /\ ∀ o, R (Itd o a kvs) (upd H1 a (.frz o (.dT kvs)))
theorem r_iDictT {te : TE} {σ : St} {H : Hp} {Z : It -> Hp -> Prop} : iDictT te σ H Z = te σ H fun x H1 => ∃ a kvs, x = .ref a /\ H1 a = some (.dT kvs) /\ ∀ o, Z (Itd o a kvs) (upd H1 a (.frz o (.dT kvs))) := rfl
theorem pi_dictT {X : Cx} {tg : Expr} {l : Expr} {tl : TE} (hl : PE X l tl) : PI X tg l (iDictT tl) := by
  intro pins s σ H R I h
  refine thn (hl pins s σ H _ I h) fun v s1 ⟨x, H1, I1, r1, q1⟩ => ?_
  obtain ⟨a, kvs, e, hq, q⟩ := q1
  subst e
  cases r1
  obtain ⟨o, es, ep, g1, g2, g3, g4, g5, g6, g7⟩ := dent_of I1.hok (.inl hq)
  have I2 := I1.freeze hq g1
  refine pyIter_dent g5 ⟨o, g1, g2, g3⟩ ?_
  refine ⟨s1.heap.objs.size, [s1.heap.objs.size], _, _, _, rfl, I2.kept (t' := s1.toks) fun b o e => Heap.get?_push_of_some _ e, turn_dictT (o := o) (kvs := kvs) (Nat.ne_of_lt (Heap.lt_size g1)) g2 g3 g4, ⟨_, Heap.get?_push_size _ rfl, rfl, rfl⟩, fun b hb => ?_, q o⟩
  have e : b = s1.heap.objs.size := by simpa using hb
  subst e
  exact I2.fpOk (Nat.le_refl _) (I2.hok.fresh (Nat.le_refl _))
theorem forD {o : Obj} {a : Addr} {kvs : List (List Key × V)} {g : TG} {tb : TS} {D : Ends} {σ : St} {H : Hp} (Pv : Nat -> St -> Hp -> Prop) (h0 : Pv 0 σ H) (hl : ∀ i σ H, i <= kvs.length -> Pv i σ H -> H a = some (.frz o (.dT kvs)))
    (hs : ∀ i k v b σ H, kvs[i]? = some (k, v) -> Pv i σ H -> H b = some (.tup (k.map kV)) -> g (.ref b) σ H fun σ2 H2 => tb { D with nx := Pv (i + 1), ct := Pv (i + 1), bk := D.nx } σ2 H2) (hd : ∀ σ H, Pv kvs.length σ H -> D.nx σ H) : ForW (Itd o a kvs) g tb D σ H := by
  refine ⟨fun i m σ H => m + i = kvs.length /\ Pv i σ H, ⟨kvs.length, by omega, h0⟩, fun i m σ H ⟨hm, hp⟩ => ?_⟩
  have hq := hl i σ H (by omega) hp
  by_cases hi : i < kvs.length
  . refine .inr ⟨⟨hi, hq⟩, Pv (i + 1), fun σ' H' h => ⟨m - 1, by omega, by omega, h⟩, fun x H' hy => ?_⟩
    obtain ⟨rfl, b, k, v, hk, rfl, hb⟩ := hy
    exact hs i k v b σ _ hk hp hb
  . have e : i = kvs.length := by omega
    subst e
    exact .inl ⟨⟨Nat.le_refl _, hq⟩, hd σ H hp⟩
def tDispT1 (tk tv : TE) : TE := fun σ H Q => ∀ p, H p = none -> tk σ (upd H p (.dT [])) fun x H1 => tv σ H1 fun y H2 => H2 p = some (.dT []) /\ ∃ b k, x = .ref b /\ H2 b = some (.tup (k.map kV)) /\ Q (.ref p) (upd H2 p (.dT [(k, y)]))
theorem r_dispT1 {tk tv : TE} {σ : St} {H : Hp} {Q : VK} : tDispT1 tk tv σ H Q = ∀ p, H p = none -> tk σ (upd H p (.dT [])) fun x H1 => tv σ H1 fun y H2 => H2 p = some (.dT []) /\ ∃ b k, x = .ref b /\ H2 b = some (.tup (k.map kV)) /\ Q (.ref p) (upd H2 p (.dT [(k, y)])) := rfl
theorem pe_dispT1 {X : Cx} {pos : Pos} {k v : Expr} {tk tv : TE} (hu : X.A.units + 1 < cLine) (hk : PE X k tk) (hv : PE X v tv) : PE X (.Dict [some k] [v] pos) (tDispT1 tk tv) := by
  intro pins s σ H Q I q
  have hn := I.hok.fresh (Nat.le_refl s.heap.objs.size)
  have I1 := I.laid (a := s.heap.objs.size) (o := .dT []) (h' := s.heap.push { cls := .type "dict", data := .dict #[] }) (t' := s.toks) (fun _ _ q => Heap.get?_push_of_some _ q) (Nat.le_refl _) (dt_empty s.heap I.big)
  refine wpAny_Dict_any rfl rfl (by intro z; cases z) (by show 1 <= 15; decide) (pairTrees_cons_walk (thn (hk pins _ σ _ _ I1 (q _ hn)) fun u s1 ⟨x, H1, J1, rx, q1⟩ => thn (hv pins s1 σ H1 _ J1 q1) fun w2 s2 ⟨y, H2, J2, ry, q2⟩ => pairTrees_nil_walk ?_))
  obtain ⟨e, b, ks, rfl, hb, q3⟩ := q2
  obtain rfl : u = Value.ref b := rx
  obtain ⟨z, hd, xs, rel, dd⟩ := dt_of J2.hok e
  cases rel
  unfold storeAll
  rw [List.forIn_cons]
  refine wpAny_bind (wpAny_bind (wpAny_dictSet_heap (hsz := by simp) (show (tupleKind (mixKind X.prog X.w)).room X.A from (show X.A.units < cLine by omega)) (key_of J2.hok hb) dd fun h' dd' hs => wpAny_pure ?_))
  show wpAny _ _ (forIn [] PUnit.unit _) _ _ _
  rw [List.forIn_nil]
  refine wpAny_pure ⟨.ref s.heap.objs.size, _, ?_, rfl, q3⟩
  obtain ⟨qo, es, ep, hq, h2, h3, h4, _, h5⟩ := dd'
  have hl : ([(ks, y)] : List (List Key × V)).length <= sizeLine := by rw [sizeLine_eq]; simp
  refine d_write J2 (by rw [e]; exact True.intro) hs ⟨qo, hq⟩ ⟨hl, hd, _, KT.keeps (.cons ⟨rfl, hb, ry⟩ .nil) fun c ys ec => ?_, qo, es, ep, hq, h2, h3, h4, h5⟩
  rw [upd_ne (ne_of ec e (fun z => nomatch z))]
  exact ec
theorem ps_setDT {X : Cx} {i : Nat} {x : Str} {k v : Expr} {tk tv : TE} {pos pos' dpos : Pos} (hu : X.A.units + 1 < cLine) (hN : X.N.Nodup) (hi : X.N[i]? = some x) (hx : Loc X.env.scope x) (hk : PE X k tk) (hv : PE X v tv) (hs : swapsWith (.Dict [some k] [v] dpos) (some (.Name x pos')) pos.line X.env = pure false)
    (hf : X.fn x = true \/ X.env.scope.names.lookup x = some .local) : PS X (.Assign [.Name x pos'] (.Dict [some k] [v] dpos) pos) (tAsg (tDispT1 tk tv) (gName i)) := ps_set hN hi hx (pe_dispT1 hu hk hv) hs hf
end L2
namespace HT
open PySem PyProof.Rows
section
open PySem.SeqAt
open PySem.AutoSeq1 (wpAny_loadPart')
open PySem.MeetsSeq PySem.MeetsSeq2 PySem.MeetsSeq3
end
end HT
namespace L2
open PySem PySem.Spec PyProof.Rows
end L2
set_option Elab.async false
set_option linter.all false
set_option maxRecDepth 100000
set_option maxHeartbeats 4000000
namespace GB
open GW
variable {α : Type} [DecidableEq α]
def walkF (step : α -> Int -> α) (a : α) (ws : List Int) : α := ws.foldl step a
theorem walkF_snoc (step : α -> Int -> α) (a : α) (ws : List Int) (x : Int) : walkF step a (ws ++ [x]) = step (walkF step a ws) x := by
  unfold walkF
  rw [List.foldl_append]; rfl
theorem walkF_cons (step : α -> Int -> α) (a : α) (ws : List Int) (x : Int) : walkF step a (x :: ws) = walkF step (step a x) ws := rfl
def put (step : α -> Int -> α) (r : α) (w : List Int) (ents : List (α × List Int)) (x : Nat) : List (α × List Int) := if step r x ∈ ents.map (·.1) then ents else ents ++ [(step r x, w ++ [(x : Int)])]
def addF (step : α -> Int -> α) (r : α) (w : List Int) : Nat -> Nat -> List (α × List Int) -> List (α × List Int)
  | 0, _, ents => ents
  | m + 1, x, ents => addF step r w m (x + 1) (put step r w ents x)
def bfsF (step : α -> Int -> α) (m : Nat) : Nat -> List (α × List Int) -> Nat -> List (α × List Int)
  | 0, ents, _ => ents
  | f + 1, ents, i => match ents[i]? with
    | none => ents
    | some e => bfsF step m f (addF step e.1 e.2 m 0 ents) (i + 1)
theorem bfsF_stop {step : α -> Int -> α} {m : Nat} {ents : List (α × List Int)} {i : Nat} (h : ents[i]? = none) : ∀ f, bfsF step m f ents i = ents
  | 0 => rfl
  | f + 1 => by rw [bfsF, h]
theorem bfsF_step {step : α -> Int -> α} {m : Nat} {ents : List (α × List Int)} {i : Nat} {e : α × List Int} (h : ents[i]? = some e) (f : Nat) : bfsF step m (f + 1) ents i = bfsF step m f (addF step e.1 e.2 m 0 ents) (i + 1) := by rw [bfsF, h]
theorem addF_zero (step : α -> Int -> α) (r : α) (w : List Int) (x : Nat) (ents : List (α × List Int)) : addF step r w 0 x ents = ents := rfl
theorem addF_succ (step : α -> Int -> α) (r : α) (w : List Int) (m x : Nat) (ents : List (α × List Int)) : addF step r w (m + 1) x ents = addF step r w m (x + 1) (put step r w ents x) := rfl
structure B (L : Int) (step : α -> Int -> α) (st : α) (ok : α -> Prop) (ents : List (α × List Int)) (i : Nat) (top : Int) : Prop where
  hd : ents[0]? = some (st, [])
  il : i <= ents.length
  sh : ∀ (j : Nat) (e : α × List Int), ents[j]? = some e -> e.2.length <= j
  nod : (ents.map (·.1)).Nodup
  rng : ∀ e ∈ ents, ok e.1
  wd : ∀ e ∈ ents, isW L e.2 = true /\ walkF step st e.2 = e.1
  inc : ∀ (j k : Nat) (a b : α × List Int), j < k -> ents[j]? = some a -> ents[k]? = some b -> place L a.2 < place L b.2
  bnd : ∀ e ∈ ents, place L e.2 < top
  don : ∀ j, j < i -> ∀ e, ents[j]? = some e -> ∀ x : Int, 0 <= x -> x < L -> ∃ e' ∈ ents, e'.1 = step e.1 x /\ place L e'.2 <= place L (e.2 ++ [x])
variable {L : Int} {step : α -> Int -> α} {st : α} {ok : α -> Prop} {ents : List (α × List Int)} {i : Nat} {top : Int}
theorem B.start (L : Int) (step : α -> Int -> α) {st : α} {ok : α -> Prop} (h : ok st) : B L step st ok [(st, [])] 0 1 := by
  refine ⟨rfl, by simp, (fun j e he => by cases j with | zero => (simp at he; subst he; simp) | succ j => simp at he), by simp, fun e he => ?_, fun e he => ?_, fun j k a b h h1 h2 => ?_, fun e he => ?_, fun j hj => absurd hj (Nat.not_lt_zero _)⟩
  . simp at he; subst he; exact h
  . simp at he; subst he; exact ⟨rfl, rfl⟩
  . have := (List.getElem?_eq_some_iff.mp h2).1; simp at this; omega
  . simp at he; subst he; simp [place, placeR]
theorem B.up {top' : Int} (h : B L step st ok ents i top) (ht : top <= top') : B L step st ok ents i top' :=
  ⟨h.hd, h.il, h.sh, h.nod, h.rng, h.wd, h.inc, fun e he => Int.lt_of_lt_of_le (h.bnd e he) ht, h.don⟩
theorem B.add (h : B L step st ok ents i top) {w : List Int} {r : α} {x : Int} (hw : (r, w) ∈ ents) (hx : 0 <= x /\ x < L) (ht : top <= place L w * L + x + 1)
    (hgr : ok (step r x)) (hno : step r x ∉ ents.map (·.1)) : B L step st ok (ents ++ [(step r x, w ++ [x])]) i (place L w * L + x + 2) := by
  obtain ⟨v1, v2⟩ := h.wd _ hw
  have hp := place_snoc L w x
  have hlen : 0 < ents.length := by have := (List.getElem?_eq_some_iff.mp h.hd).1; omega
  refine ⟨?_, by have := h.il; simp; omega, fun j e he => ?_, ?_, fun e he => ?_, fun e he => ?_, fun j k a b hjk h1 h2 => ?_, fun e he => ?_, fun j hj e he y hy0 hy1 => ?_⟩
  . rw [List.getElem?_append_left hlen]; exact h.hd
  . have hj := (List.getElem?_eq_some_iff.mp he).1
    rw [List.length_append, List.length_singleton] at hj
    by_cases hjl : j < ents.length
    . rw [List.getElem?_append_left hjl] at he
      exact h.sh j e he
    . have e1 : j = ents.length := by omega
      subst e1
      rw [List.getElem?_append_right (Nat.le_refl _), Nat.sub_self] at he
      simp at he
      subst he
      obtain ⟨j', hj', ej⟩ := List.getElem_of_mem hw
      have := h.sh j' (r, w) (by rw [List.getElem?_eq_getElem hj', ej])
      have this' : w.length <= j' := this
      show (w ++ [x]).length <= ents.length
      simp; omega
  . rw [List.map_append, List.nodup_append]
    refine ⟨h.nod, by simp, fun a ha b hb => ?_⟩
    simp at hb
    subst hb
    exact fun z => hno (z ▸ ha)
  . rcases List.mem_append.mp he with he | he
    . exact h.rng e he
    . rw [List.mem_singleton.mp he]; exact hgr
  . rcases List.mem_append.mp he with he | he
    . exact h.wd e he
    . rw [List.mem_singleton.mp he]
      refine ⟨?_, ?_⟩
      . rw [isW_iff] at v1 ⊢
        intro z hz
        rcases List.mem_append.mp hz with hz | hz
        . exact v1 z hz
        . rw [List.mem_singleton.mp hz]; exact hx
      . show walkF step st (w ++ [x]) = step r x
        rw [walkF_snoc]
        have v2' : walkF step st w = r := v2
        rw [v2']
  . have hk := (List.getElem?_eq_some_iff.mp h2).1
    rw [List.length_append, List.length_singleton] at hk
    by_cases hkl : k < ents.length
    . rw [List.getElem?_append_left hkl] at h2
      rw [List.getElem?_append_left (by omega)] at h1
      exact h.inc j k a b hjk h1 h2
    . have hke : k = ents.length := by omega
      subst hke
      rw [List.getElem?_append_left (by omega)] at h1
      rw [List.getElem?_append_right (Nat.le_refl _), Nat.sub_self] at h2
      simp at h2
      subst h2
      have := h.bnd a (List.mem_of_getElem? h1)
      show place L a.2 < place L (w ++ [x])
      rw [hp]; omega
  . rcases List.mem_append.mp he with he | he
    . have := h.bnd e he; omega
    . rw [List.mem_singleton.mp he]
      show place L (w ++ [x]) < _
      rw [hp]; omega
  . have hjl : j < ents.length \/ j = ents.length := by
      have := (List.getElem?_eq_some_iff.mp he).1
      rw [List.length_append, List.length_singleton] at this
      omega
    rcases hjl with hjl | hjl
    . rw [List.getElem?_append_left hjl] at he
      obtain ⟨e', m, q⟩ := h.don j hj e he y hy0 hy1
      exact ⟨e', List.mem_append_left _ m, q⟩
    . exact absurd hjl (by have := h.il; omega)
def SeenF (L : Int) (step : α -> Int -> α) (ents : List (α × List Int)) (r : α) (w : List Int) (x : Nat) : Prop := ∀ y : Int, 0 <= y -> y < x -> ∃ e' ∈ ents, e'.1 = step r y /\ place L e'.2 <= place L (w ++ [y])
theorem B.letter {x : Nat} {w : List Int} {r : α} (h : B L step st ok ents i (place L w * L + x + 1)) (hs : SeenF L step ents r w x) (hw : (r, w) ∈ ents) (hx : (x : Int) < L)
    (hgr : ok (step r x)) : B L step st ok (put step r w ents x) i (place L w * L + ((x + 1 : Nat) : Int) + 1) /\ SeenF L step (put step r w ents x) r w (x + 1) := by
  unfold put
  by_cases hm : step r x ∈ ents.map (·.1)
  . rw [if_pos hm]
    refine ⟨h.up (by push_cast; omega), fun y hy0 hy1 => ?_⟩
    by_cases hyx : y < x
    . exact hs y hy0 hyx
    . have e : y = x := by push_cast at hy1; omega
      subst e
      obtain ⟨e', he', e1⟩ := List.mem_map.mp hm
      refine ⟨e', he', e1, ?_⟩
      have := h.bnd e' he'
      rw [place_snoc]; omega
  . rw [if_neg hm]
    refine ⟨(h.add hw ⟨by omega, hx⟩ (Int.le_refl _) hgr hm).up (by push_cast; omega), fun y hy0 hy1 => ?_⟩
    by_cases hyx : y < x
    . obtain ⟨e', m, q⟩ := hs y hy0 hyx
      exact ⟨e', List.mem_append_left _ m, q⟩
    . have e : y = x := by push_cast at hy1; omega
      subst e
      exact ⟨_, List.mem_append_right _ List.mem_cons_self, rfl, Int.le_refl _⟩
theorem B.next (hL : 0 < L) {m : Nat} {w : List Int} {r : α} (h : B L step st ok ents i (place L w * L + m + 1)) (hm : (m : Int) = L) (hs : SeenF L step ents r w m) (hw : ents[i]? = some (r, w)) :
    B L step st ok ents (i + 1) (place L w * L + L + 1) /\ ∀ e, ents[i + 1]? = some e -> place L w * L + L + 1 <= place L e.2 * L + 1 := by
  have hi := (List.getElem?_eq_some_iff.mp hw).1
  rw [hm] at h
  refine ⟨⟨h.hd, hi, h.sh, h.nod, h.rng, h.wd, h.inc, h.bnd, fun j hj e he x h0 h1 => ?_⟩, fun e he => ?_⟩
  . by_cases hji : j < i
    . exact h.don j hji e he x h0 h1
    . have e1 : j = i := by omega
      subst e1
      rw [hw] at he
      cases he
      exact hs x h0 (by omega)
  . have := h.inc i (i + 1) _ _ (Nat.lt_succ_self _) hw he
    have h2 := Int.mul_le_mul_of_nonneg_right (show place L w + 1 <= place L e.2 from this) (Int.le_of_lt hL)
    rw [Int.add_mul] at h2
    omega
theorem put_keep {r : α} {w : List Int} {x j : Nat} {e : α × List Int} (h : ents[j]? = some e) : (put step r w ents x)[j]? = some e := by
  unfold put
  split
  . exact h
  . rw [List.getElem?_append_left (List.getElem?_eq_some_iff.mp h).1]; exact h
theorem B.least (h : B L step st ok ents ents.length top) {ws : List Int} (hv : isW L ws = true) : ∀ i, i <= ws.length -> ∃ w', (walkF step st (ws.take i), w') ∈ ents /\ place L w' <= place L (ws.take i)
  | 0, _ => ⟨[], by simpa [walkF] using List.mem_of_getElem? h.hd, by simp⟩
  | i + 1, hi => by
    obtain ⟨w', m, hp⟩ := B.least h hv i (by omega)
    have hwi : ws[i]? = some ws[i] := by simp
    have hin := isW_iff.mp hv ws[i] (List.getElem_mem _)
    obtain ⟨j, hj, ej⟩ := List.getElem_of_mem m
    obtain ⟨e', me, e1, e2⟩ := h.don j hj _ (by rw [List.getElem?_eq_getElem hj, ej]) ws[i] hin.1 hin.2
    obtain ⟨g, v⟩ := e'
    have e1 : g = step (walkF step st (ws.take i)) ws[i] := e1
    have e2 : place L v <= place L (w' ++ [ws[i]]) := e2
    have et : ws.take (i + 1) = ws.take i ++ [ws[i]] := by rw [List.take_add_one, hwi]; rfl
    have hL : 0 <= L := by omega
    refine ⟨v, ?_, ?_⟩
    . rw [et, walkF_snoc, <- e1]; exact me
    . rw [et]
      rw [place_snoc] at e2 ⊢
      have := Int.mul_le_mul_of_nonneg_right hp hL
      omega
theorem B.leastW (h : B L step st ok ents ents.length top) {ws : List Int} (hv : isW L ws = true) : ∃ w', (walkF step st ws, w') ∈ ents /\ place L w' <= place L ws := by
  have := h.least hv ws.length (Nat.le_refl _)
  rwa [List.take_length] at this
def stepP (w1 w2 : List (List Int)) (p : Int × Int) (x : Int) : Int × Int := (stepW w1 p.1 x, stepW w2 p.2 x)
def okP (n m : Nat) (p : Int × Int) : Prop := (0 <= p.1 /\ p.1 < (n : Int)) /\ (0 <= p.2 /\ p.2 < (m : Int))
def walkR (ways : List (List Int)) (r : Int) (ws : List Int) : Int := ws.foldl (stepW ways) r
theorem walkR_cons (ways : List (List Int)) (r x : Int) (ws : List Int) : walkR ways r (x :: ws) = walkR ways (stepW ways r x) ws := rfl
theorem walkP (w1 w2 : List (List Int)) : ∀ (ws : List Int) (p : Int × Int), walkF (stepP w1 w2) p ws = (walkR w1 p.1 ws, walkR w2 p.2 ws)
  | [], p => rfl
  | x :: ws, p => by rw [walkF_cons, walkP w1 w2 ws, walkR_cons, walkR_cons]; rfl
theorem pair_len (n m : Nat) {l : List (Int × Int)} (hn : l.Nodup) (h : ∀ p ∈ l, okP n m p) : l.length <= n * m := by
  have hk : ∀ p ∈ l.map (fun p : Int × Int => p.1 * m + p.2), 0 <= p /\ p < ((n * m : Nat) : Int) := fun q hq => by
    obtain ⟨p, hp, rfl⟩ := List.mem_map.mp hq
    obtain ⟨⟨a0, a1⟩, b0, b1⟩ := h p hp
    have h1 := Int.mul_nonneg a0 (show (0 : Int) <= m by omega)
    have h2 := Int.mul_le_mul_of_nonneg_right (show p.1 <= (n : Int) - 1 by omega) (show (0 : Int) <= m by omega)
    rw [Int.sub_mul] at h2
    push_cast
    exact ⟨by show 0 <= p.1 * m + p.2; omega, by show p.1 * m + p.2 < _; omega⟩
  have hd : (l.map (fun p : Int × Int => p.1 * m + p.2)).Nodup := by
    refine List.pairwise_map.mpr (List.Pairwise.imp_of_mem (fun {a b} ha hb hab z => hab ?_) hn)
    obtain ⟨⟨a0, a1⟩, b0, b1⟩ := h a ha
    obtain ⟨⟨c0, c1⟩, d0, d1⟩ := h b hb
    have z : a.1 * m + a.2 = b.1 * m + b.2 := z
    have e1 : a.1 = b.1 := by
      have q1 : (a.1 * m + a.2) / m = a.1 := by rw [Int.add_comm, Int.add_mul_ediv_right _ _ (by omega), Int.ediv_eq_zero_of_lt b0 b1]; omega
      have q2 : (b.1 * m + b.2) / m = b.1 := by rw [Int.add_comm, Int.add_mul_ediv_right _ _ (by omega), Int.ediv_eq_zero_of_lt d0 d1]; omega
      rw [<- q1, <- q2, z]
    rw [e1] at z
    exact Prod.ext e1 (by omega)
  have := nodup_len (n * m) hd hk
  simpa using this
theorem B.lenP {n m : Nat} {w1 w2 : List (List Int)} {st : Int × Int} {ents : List ((Int × Int) × List Int)} {i : Nat} {top : Int} (h : B L (stepP w1 w2) st (okP n m) ents i top) : ents.length <= n * m := by
  have := pair_len n m h.nod (fun p hp => by
    obtain ⟨e, he, rfl⟩ := List.mem_map.mp hp
    exact h.rng e he)
  simpa using this
end GB
namespace L2
open PySem PySem.Spec PyProof.Rows GW GB
def TK (H H' : Hp) : Prop := ∀ b xs, H b = some (.tup xs) -> H' b = some (.tup xs)
theorem TK.of {H H' : Hp} (s : Same H H') : TK H H' := fun b xs h => s b _ h
theorem TK.new {H : Hp} {p : Addr} {o : HO} (h : H p = none) : TK H (upd H p o) := TK.of (Same.new h)
theorem TK.lst {H : Hp} {p : Addr} {o : HO} {xs : List V} (h : H p = some (.lst xs)) : TK H (upd H p o) := fun b ys e => by rw [upd_ne (fun z => by rw [z, h] at e; cases e)]; exact e
theorem TK.dT {H : Hp} {p : Addr} {o : HO} {kvs : List (List Key × V)} (h : H p = some (.dT kvs)) : TK H (upd H p o) := fun b ys e => by rw [upd_ne (fun z => by rw [z, h] at e; cases e)]; exact e
def keyP (p : Int × Int) : List Key := [Sum.inl p.1, Sum.inl p.2]
theorem keyP_inj {p q : Int × Int} (h : keyP p = keyP q) : p = q := by
  unfold keyP at h
  injection h with h1 h2
  injection h2 with h2 _
  injection h1 with h1
  injection h2 with h2
  exact Prod.ext h1 h2
def StepsT (H : Hp) (ents : List ((Int × Int) × List Int)) (kvs : List (List Key × V)) : Prop := kvs.length = ents.length /\ ∀ (i : Nat) (e : (Int × Int) × List Int), ents[i]? = some e -> ∃ v, kvs[i]? = some (keyP e.1, v) /\
  ((v = .non /\ e.2 = []) \/ ∃ (t p : Addr) (x : Int) (e' : (Int × Int) × List Int), v = .ref t /\ H t = some (.tup [.ref p, .int x]) /\ H p = some (.tup [.int e'.1.1, .int e'.1.2]) /\ e' ∈ ents /\ e.2 = e'.2 ++ [x])
theorem StepsT.mono {H H' : Hp} {ents : List ((Int × Int) × List Int)} {kvs : List (List Key × V)} (h : StepsT H ents kvs) (k : TK H H') : StepsT H' ents kvs := by
  refine ⟨h.1, fun i e he => ?_⟩
  obtain ⟨v, h1, h2⟩ := h.2 i e he
  refine ⟨v, h1, ?_⟩
  rcases h2 with h2 | ⟨t, p, x, e', a, b, c, d⟩
  . exact .inl h2
  . exact .inr ⟨t, p, x, e', a, k _ _ b, k _ _ c, d⟩
theorem StepsT.no {H : Hp} {ents : List ((Int × Int) × List Int)} {kvs : List (List Key × V)} (h : StepsT H ents kvs) {g : Int × Int} (hg : g ∉ ents.map (·.1)) : valV kvs (keyP g) = none := by
  unfold valV
  rw [Option.map_eq_none_iff, List.find?_eq_none]
  intro kv hkv
  obtain ⟨i, hi, e⟩ := List.getElem_of_mem hkv
  have hie : i < ents.length := by rw [<- h.1]; exact hi
  obtain ⟨v, h1, _⟩ := h.2 i ents[i] (by simp [hie])
  rw [List.getElem?_eq_getElem hi, e] at h1
  cases h1
  simp only [decide_eq_true_eq]
  intro z
  exact hg (List.mem_map.mpr ⟨ents[i], List.getElem_mem _, keyP_inj z⟩)
theorem valV_at {κ : Type} [DecidableEq κ] {kvs : List (κ × V)} {i : Nat} {k : κ} {v : V} (hn : (kvs.map (·.1)).Nodup) (h : kvs[i]? = some (k, v)) : valV kvs k = some v := by
  induction kvs generalizing i with
  | nil => simp at h
  | cons p r ih =>
    rw [List.map_cons, List.nodup_cons] at hn
    cases i with
    | zero => simp at h; subst h; exact valV_pos rfl
    | succ i =>
      have h' : r[i]? = some (k, v) := by simpa using h
      rw [valV_neg (fun z => hn.1 (List.mem_map.mpr ⟨(k, v), List.mem_of_getElem? h', z.symm⟩))]
      exact ih hn.2 h'
theorem StepsT.nod {H : Hp} {ents : List ((Int × Int) × List Int)} {kvs : List (List Key × V)} (h : StepsT H ents kvs) (hn : (ents.map (·.1)).Nodup) : (kvs.map (·.1)).Nodup := by
  have e : kvs.map (·.1) = (ents.map (·.1)).map keyP := by
    refine List.ext_getElem? fun i => ?_
    rw [List.getElem?_map, List.getElem?_map, List.getElem?_map]
    cases he : ents[i]? with
    | none =>
      rw [List.getElem?_eq_none (by rw [h.1]; exact List.getElem?_eq_none_iff.mp he)]; rfl
    | some e =>
      obtain ⟨v, h1, _⟩ := h.2 i e he
      rw [h1]; rfl
  rw [e]
  exact List.Pairwise.map (R := (· ≠ ·)) _ (fun a b hab z => hab (keyP_inj z)) hn
theorem StepsT.yes {H : Hp} {ents : List ((Int × Int) × List Int)} {kvs : List (List Key × V)} (h : StepsT H ents kvs) (hn : (ents.map (·.1)).Nodup) {e : (Int × Int) × List Int} (he : e ∈ ents) : ∃ v, valV kvs (keyP e.1) = some v /\
    ((v = .non /\ e.2 = []) \/ ∃ (t p : Addr) (x : Int) (e' : (Int × Int) × List Int), v = .ref t /\ H t = some (.tup [.ref p, .int x]) /\ H p = some (.tup [.int e'.1.1, .int e'.1.2]) /\ e' ∈ ents /\ e.2 = e'.2 ++ [x]) := by
  obtain ⟨i, hi, ei⟩ := List.getElem_of_mem he
  obtain ⟨v, h1, h2⟩ := h.2 i e (by rw [List.getElem?_eq_getElem hi, ei])
  exact ⟨v, valV_at (h.nod hn) h1, h2⟩
theorem StepsT.put {H : Hp} {ents : List ((Int × Int) × List Int)} {kvs : List (List Key × V)} (h : StepsT H ents kvs) {g : Int × Int} (hg : g ∉ ents.map (·.1)) {t p : Addr} {x : Int} {e' : (Int × Int) × List Int} (ht : H t = some (.tup [.ref p, .int x])) (hp : H p = some (.tup [.int e'.1.1, .int e'.1.2])) (he : e' ∈ ents) :
    StepsT H (ents ++ [(g, e'.2 ++ [x])]) (putK kvs (keyP g) (.ref t)) := by
  rw [putK_new _ (h.no hg)]
  refine ⟨by rw [List.length_append, List.length_append, h.1]; rfl, fun i e hi => ?_⟩
  by_cases hil : i < ents.length
  . rw [List.getElem?_append_left hil] at hi
    rw [List.getElem?_append_left (by rw [h.1]; exact hil)]
    obtain ⟨v, h1, h2⟩ := h.2 i e hi
    refine ⟨v, h1, ?_⟩
    rcases h2 with h2 | ⟨t, p, x, e', a, b, c, d, f⟩
    . exact .inl h2
    . exact .inr ⟨t, p, x, e', a, b, c, List.mem_append_left _ d, f⟩
  . have := (List.getElem?_eq_some_iff.mp hi).1
    rw [List.length_append, List.length_singleton] at this
    have ei : i = ents.length := by omega
    subst ei
    rw [List.getElem?_append_right (Nat.le_refl _), Nat.sub_self] at hi
    simp at hi
    subst hi
    refine ⟨.ref t, ?_, .inr ⟨t, p, x, e', rfl, ht, hp, List.mem_append_left _ he, rfl⟩⟩
    rw [List.getElem?_append_right (by rw [h.1]; exact Nat.le_refl _), h.1, Nat.sub_self]; rfl
def FoundT (H : Hp) (ps : List (Int × Int)) (rs : List V) : Prop := rs.length = ps.length /\ ∀ (i : Nat) (p : Int × Int), ps[i]? = some p -> ∃ b, rs[i]? = some (.ref b) /\ H b = some (.tup [.int p.1, .int p.2])
theorem FoundT.mono {H H' : Hp} {ps : List (Int × Int)} {rs : List V} (h : FoundT H ps rs) (k : TK H H') : FoundT H' ps rs := by
  refine ⟨h.1, fun i p hp => ?_⟩
  obtain ⟨b, h1, h2⟩ := h.2 i p hp
  exact ⟨b, h1, k _ _ h2⟩
theorem FoundT.snoc {H : Hp} {ps : List (Int × Int)} {rs : List V} (h : FoundT H ps rs) {p : Int × Int} {b : Addr} (hb : H b = some (.tup [.int p.1, .int p.2])) : FoundT H (ps ++ [p]) (rs ++ [.ref b]) := by
  refine ⟨by rw [List.length_append, List.length_append, h.1]; rfl, fun i q hi => ?_⟩
  by_cases hil : i < ps.length
  . rw [List.getElem?_append_left hil] at hi
    rw [List.getElem?_append_left (by rw [h.1]; exact hil)]
    exact h.2 i q hi
  . have := (List.getElem?_eq_some_iff.mp hi).1
    rw [List.length_append, List.length_singleton] at this
    have ei : i = ps.length := by omega
    subst ei
    rw [List.getElem?_append_right (Nat.le_refl _), Nat.sub_self] at hi
    simp at hi
    subst hi
    refine ⟨b, ?_, hb⟩
    rw [List.getElem?_append_right (by rw [h.1]; exact Nat.le_refl _), h.1, Nat.sub_self]; rfl
end L2
namespace L2
end L2
namespace GB
open GW
end GB
set_option Elab.async false
set_option linter.all false
set_option maxRecDepth 100000
set_option maxHeartbeats 4000000
namespace GB
open GW
end GB
namespace L2
open GW
end L2
namespace L2
open PySem PySem.Spec PyProof.Rows GW
theorem Same.none {H H' : Hp} (s : Same H H') {p : Addr} (h : H' p = none) : H p = none := by
  cases e : H p with
  | none => rfl
  | some u => rw [s _ _ e] at h; cases h
end L2
namespace GW
end GW
namespace L2
open PySem GW
end L2
set_option Elab.async false
set_option linter.all false
set_option maxRecDepth 100000
set_option maxHeartbeats 4000000
namespace L2
open PySem PySem.Spec PyProof.Rows
section
variable {X : Cx} {pins : List (Addr × Obj)} {σ : St} {H : Hp} {s : Shared} {sc : Scope} {fp : List Addr}
end
section
variable {X : Cx} {tg iter elt : Expr} {ifs : List Expr} {sc : Scope} {pos : Pos} {wi : TI} {cp : Caps} {g : TG} {tc : TT} {te : TE}
end
end L2
namespace L2
open PySem PySem.Spec PyProof.Rows GW GB
end L2
namespace GB
open GW
end GB
set_option Elab.async false
set_option linter.all false
set_option maxRecDepth 100000
set_option maxHeartbeats 4000000
namespace L2
open PySem PySem.Spec PyProof.Rows GW
def WordsT (K : PySem.W.Frag) (H : Hp) (xs : List V) (ws : List (List Int)) : Prop := xs.length = ws.length /\ ∀ (i : Nat) (w : List Int), ws[i]? = some w -> ∃ t, xs[i]? = some (.ref t) /\ H t = some (.tup (w.map V.int))
theorem WordsT.nil {K : PySem.W.Frag} {H : Hp} : WordsT K H [] [] := ⟨rfl, fun i w h => by simp at h⟩
theorem WordsT.mono {K : PySem.W.Frag} {H H' : Hp} {xs : List V} {ws : List (List Int)} (h : WordsT K H xs ws) (k : TK H H') : WordsT K H' xs ws := by
  refine ⟨h.1, fun i w hw => ?_⟩
  obtain ⟨t, a, b⟩ := h.2 i w hw
  exact ⟨t, a, k _ _ b⟩
theorem WordsT.snoc {K : PySem.W.Frag} {H : Hp} {xs : List V} {ws : List (List Int)} (h : WordsT K H xs ws) {t : Addr} {w : List Int} (ht : H t = some (.tup (w.map V.int))) : WordsT K H (xs ++ [.ref t]) (ws ++ [w]) := by
  refine ⟨by rw [List.length_append, List.length_append, h.1]; rfl, fun i v hi => ?_⟩
  by_cases hil : i < ws.length
  . rw [List.getElem?_append_left hil] at hi
    rw [List.getElem?_append_left (by rw [h.1]; exact hil)]
    exact h.2 i v hi
  . have := (List.getElem?_eq_some_iff.mp hi).1
    rw [List.length_append, List.length_singleton] at this
    have ei : i = ws.length := by omega
    subst ei
    rw [List.getElem?_append_right (Nat.le_refl _), Nat.sub_self] at hi
    simp at hi
    subst hi
    refine ⟨t, ?_, ht⟩
    rw [List.getElem?_append_right (by rw [h.1]; exact Nat.le_refl _), h.1, Nat.sub_self]; rfl
theorem WordsT.at {K : PySem.W.Frag} {H : Hp} {xs : List V} {ws : List (List Int)} (h : WordsT K H xs ws) {i : Nat} {x : V} (hx : xs[i]? = some x) : ∃ t w, ws[i]? = some w /\ x = .ref t /\ H t = some (.tup (w.map V.int)) := by
  have hi : i < ws.length := by rw [<- h.1]; exact (List.getElem?_eq_some_iff.mp hx).1
  obtain ⟨t, a, b⟩ := h.2 i ws[i] (by simp [hi])
  rw [hx] at a
  exact ⟨t, ws[i], by simp [hi], Option.some.inj a, b⟩
def rInW (K : PySem.W.Frag) (neg : Bool) : R2 := fun x y H Q => ∃ p t xs w ws, y = .ref p /\ x = .ref t /\ SqL K H p xs /\ WordsT K H xs ws /\ SqT K H t (w.map V.int) /\ Q (.bl (if neg then !decide (w ∈ ws) else decide (w ∈ ws))) H
theorem r_inW {K : PySem.W.Frag} {neg : Bool} {x y : V} {H : Hp} {Q : VK} : rInW K neg x y H Q = ∃ p t xs w ws, y = .ref p /\ x = .ref t /\ SqL K H p xs /\ WordsT K H xs ws /\ SqT K H t (w.map V.int) /\ Q (.bl (if neg then !decide (w ∈ ws) else decide (w ∈ ws))) H := rfl
theorem inW_core {X : Cx} {pins : List (Addr × Obj)} {σ : St} {H : Hp} {s : Shared} {p t : Addr} {xs : List V} {w : List Int} {ws : List (List Int)} (hu : X.A.units + 8 < cLine) (I : Inv X pins σ H s) (hp : SqL X.K H p xs) (hw : WordsT X.K H xs ws) (ht : SqT X.K H t (w.map V.int)) :
    ∃ (its : Array Value) (e : Value -> Bool), s.heap.IsList p its /\ (∀ y, y ∈ its -> SeqAt.EqAt X.A.in1 s y (.ref t) (e y)) /\ its.any e = decide (w ∈ ws) := by
  obtain ⟨its, r, pl, _⟩ := I.list hp
  have hl := r.length
  let e : Value -> Bool := fun y => @decide (∃ (i : Nat) (a : Addr), y = .ref a /\ xs[i]? = some (.ref a) /\ ws[i]? = some w) (Classical.propDecidable _)
  have ee : ∀ (i : Nat) (a : Addr) (v : List Int), xs[i]? = some (.ref a) -> ws[i]? = some v -> e (.ref a) = decide (v = w) := fun i a v hx hv => by
    obtain ⟨a', a1, a2⟩ := hw.2 i v hv
    rw [hx] at a1
    cases a1
    rw [Bool.eq_iff_iff]
    show @decide _ (Classical.propDecidable _) = true ↔ _
    rw [@decide_eq_true_iff _ (Classical.propDecidable _), decide_eq_true_eq]
    constructor
    . rintro ⟨j, b, hb, hxj, hwj⟩
      cases hb
      obtain ⟨b', b1, b2⟩ := hw.2 j w hwj
      rw [hxj] at b1
      cases b1
      rw [a2] at b2
      have := Option.some.inj b2
      injection this with this
      exact (List.map_inj_right (fun x y z => V.int.inj z)).mp this
    . rintro rfl
      exact ⟨i, a, rfl, hx, hv⟩
  refine ⟨its.toArray, e, pl.isList, fun y hy => ?_, ?_⟩
  . have hy' : y ∈ its := by simpa using hy
    obtain ⟨i, hi, ei⟩ := List.getElem_of_mem hy'
    have hix : i < xs.length := by omega
    obtain ⟨u, hu', ru⟩ := r.get (i := i) (x := xs[i]) (by simp [hix])
    rw [List.getElem?_eq_getElem hi, ei] at hu'
    cases hu'
    obtain ⟨a, v, e1, e2, e3⟩ := hw.at (i := i) (x := xs[i]) (by simp [hix])
    rw [e2] at ru
    cases ru
    rw [ee i a v (by rw [List.getElem?_eq_getElem hix, e2]) e1]
    exact (EqD.at (x := V.ref a) (y := V.ref t) I 2 X.A.in1 (by rw [in1_units]; omega) rfl rfl (EqD.ints (xs := v) (ys := w) (.inr ⟨SqT.of e3, ht⟩) 1)).1
  . rw [Bool.eq_iff_iff, decide_eq_true_eq]
    rw [show its.toArray.any e = its.any e by simp, List.any_eq_true]
    constructor
    . rintro ⟨y, hy, hey⟩
      obtain ⟨j, b, _, _, hwj⟩ := (@decide_eq_true_iff _ (Classical.propDecidable _)).mp hey
      exact List.mem_of_getElem? hwj
    . intro hm
      obtain ⟨i, hi, ei⟩ := List.getElem_of_mem hm
      obtain ⟨a, a1, a2⟩ := hw.2 i w (by rw [List.getElem?_eq_getElem hi, ei])
      obtain ⟨u, hu', ru⟩ := r.get a1
      cases ru
      refine ⟨.ref a, List.mem_of_getElem? hu', ?_⟩
      rw [ee i a w a1 (by rw [List.getElem?_eq_getElem hi, ei])]
      simp
theorem op_notInW {X : Cx} (hu : X.A.units + 8 < cLine) : OpR X (compareOp .NotIn) (rInW X.K true) := by
  intro pins s σ H x y v u Q I rx ry h
  obtain ⟨p, t, xs, w, ws, rfl, rfl, hp, hw, ht, q⟩ := h
  cases ry
  cases rx
  obtain ⟨its, e, h1, h2, h3⟩ := inW_core hu I hp hw ht
  refine SeqAt.notIn_listAt e h1 h2 ⟨.bl _, H, I, rfl, ?_⟩
  rw [h3]
  exact q
theorem rCatT2.ofS {K : PySem.W.Frag} {H : Hp} {Q : VK} {a b : Addr} {xs ys : List V} (ha : H a = some (.tup xs)) (hb : H b = some (.tup ys)) (hz : xs.length + ys.length <= sizeLine) (h : ∀ p H', Same H H' -> H' p = some (.tup (xs ++ ys)) -> Q (.ref p) H') : rCatT2 K (.ref a) (.ref b) H Q := by
  refine ⟨a, b, xs, ys, rfl, rfl, SqT.of ha, SqT.of hb, hz, fun e => ?_, fun _ e => ?_, fun _ _ p hp => h p _ (Same.new hp) upd_same⟩
  . subst e; exact h b H (Same.refl _) (by simpa using hb)
  . subst e; exact h a H (Same.refl _) (by simpa using ha)
end L2
namespace L2
open PySem PySem.Spec PyProof.Rows GW
end L2
namespace GW
def ins (s : List (List Int)) (w : List Int) : List (List Int) := if w ∈ s then s else s ++ [w]
end GW
namespace L2
open PySem PySem.Spec PyProof.Rows GW
def wkey (w : List Int) : List Key := w.map Sum.inl
end L2
set_option Elab.async false
set_option linter.all false
set_option maxRecDepth 100000
set_option maxHeartbeats 4000000
namespace L2
open PySem PySem.Spec PyProof.Rows
section
variable {M : Model} {A : Around} {E : Value -> Shared -> Prop} {s : Shared}
end
section
variable {X : Cx} {N : List Str} {sc : Scope} {C : Addr} {s₀ : Shared} {H₀ : Hp} {ex : List Addr} {xe : Value -> Shared -> Prop} {pins : List (Addr × Obj)} {σ : St} {H : Hp} {s : Shared}
end
section
variable {X : Cx} {tg iter elt : Expr} {ifs : List Expr} {sc : Scope} {pos : Pos} {wi : TI} {cp : Caps} {g : TG} {tc : TT} {te : TE}
end
end L2
set_option Elab.async false
set_option linter.all false
set_option maxRecDepth 100000
set_option maxHeartbeats 4000000
namespace PySem.W
open PySem PySem.Calls PyProof.Rows PyProof.V PySem.Spec
section
variable {prog : Program} {w : World} {A : Around} {E : Value -> Shared -> Prop} {s : Shared}
end
section
variable {prog : Program} {w : World} {A : Around} {E : Value -> Shared -> Prop} {s : Shared} {r d : Addr} {es : Array DictEntry} {ep : Nat} {od : Obj}
end
end PySem.W
set_option Elab.async false
set_option linter.all false
set_option maxRecDepth 100000
set_option maxHeartbeats 4000000
namespace L2
open PySem PySem.Spec PyProof.Rows
end L2
set_option Elab.async false
set_option linter.all false
set_option maxRecDepth 100000
set_option maxHeartbeats 4000000
namespace L2
open PySem PySem.Spec PyProof.Rows
section
variable {K : PySem.W.Frag} {ta tv td ty tx : TE} {t : TA} {f m : Str} {σ : St} {H : Hp} {Q : VK} {D : Ends} {C : Addr} {sp : Sp} {dvs : List V} {E : XK}
end
def ents (es : List (List Int × Int)) : List (List Key × V) := es.map fun e => (wkey e.1, V.int e.2)
end L2
set_option Elab.async false
set_option linter.all false
set_option maxRecDepth 100000
set_option maxHeartbeats 4000000
namespace L2
open PySem PySem.Spec PyProof.Rows
def rLIndex : V -> List V -> Hp -> VK -> Prop := fun x vs H Q => ∃ l xs y j, x = .ref l /\ vs = [y] /\ H l = some (.lst xs) /\ flatV y = true /\ xs.all flatV = true /\ j < 1000000 /\ (∃ z, xs[j]? = some z /\ eqV z y = true) /\ (∀ m z, m < j -> xs[m]? = some z -> eqV z y = false) /\ Q (.int (j : Nat)) H
theorem r_lindex {x : V} {vs : List V} {H : Hp} {Q : VK} : rLIndex x vs H Q = ∃ l xs y j, x = .ref l /\ vs = [y] /\ H l = some (.lst xs) /\ flatV y = true /\ xs.all flatV = true /\ j < 1000000 /\ (∃ z, xs[j]? = some z /\ eqV z y = true) /\ (∀ m z, m < j -> xs[m]? = some z -> eqV z y = false) /\ Q (.int (j : Nat)) H := rfl
theorem eqU_rel {x z : V} {u : Value} (r : RelV z u) (f : flatV z = true) : eqU x u = eqV z x := by
  have := any_eqU (x := x) (xs := [z]) (us := [u]) (.cons r .nil) (by simp [f])
  simpa using this
theorem mt_lindex {X : Cx} : MtM X "list.index" rLIndex := by
  intro pins s σ H x vs v us Q I rx rv h
  obtain ⟨l, xs, y, j, rfl, rfl, hH, fy, fs, hj, ⟨z, hz1, hz2⟩, hno, q⟩ := h
  cases rx
  obtain ⟨u, rfl, ry⟩ := vals1 rv
  obtain ⟨zz, its, n, r, hl, e⟩ := I.lstM hH
  have get : ∀ (m : Nat) (hm : m < its.toArray.size) (w : V), xs[m]? = some w -> flatV w = true -> eqU y its.toArray[m] = eqV w y := fun m hm w hw fw => by
    obtain ⟨w', e1, e2⟩ := r.get hw
    have e3 : its.toArray[m] = w' := by
      have : its[m]? = some its.toArray[m] := by simp at hm; simp [hm]
      rw [e1] at this
      exact (Option.some.inj this).symm
    rw [e3]
    exact eqU_rel e2 fw
  have fl : ∀ (m : Nat) (w : V), xs[m]? = some w -> flatV w = true := fun m w hw => List.all_eq_true.mp fs w (List.mem_of_getElem? hw)
  have hjx := (List.getElem?_eq_some_iff.mp hz1).1
  have hjs : j < its.toArray.size := by rw [List.size_toArray]; omega
  refine call_meets F.slot_list_index ⟨_, e, rfl⟩ F.entry_list_index (F.args_list_index_2 _ _) (SeqAt.list_indexAt l its.toArray n none #[] u (eqU y) j hjs (by omega) ?_ fun m hm hmj => ?_) ⟨e, fun w hw => mem_eqAt ry fy r fs w (by simpa using hw), ?_⟩
  . rw [get j hjs z hz1 (fl j z hz1)]; exact hz2
  . have hmx : xs[m]? = some xs[m] := by simp [show m < xs.length by omega]
    rw [get m hm _ hmx (fl m _ hmx)]
    exact hno m _ hmj hmx
  . exact ⟨.int (j : Nat), H, I.tok _, ⟨_, rfl⟩, q⟩
end L2
set_option Elab.async false
set_option linter.all false
set_option maxRecDepth 100000
set_option maxHeartbeats 4000000
namespace L2
open PySem PySem.W PySem.Spec PySem.Calls PyProof.Rows
def tTryN (K : PySem.W.Frag) (Ca : Addr) (E : St -> XK) (tb ts : TS) : TS := fun D σ H => tb D σ H /\ ∀ σ' cls H', E σ' cls none H' -> ∃ C, cls = .ref C /\ PySem.W.exmOne K (.ref C) (.ref Ca) = some true /\ ts D σ' H'
theorem r_tryN {K : PySem.W.Frag} {Ca : Addr} {E : St -> XK} {tb ts : TS} {D : Ends} {σ : St} {H : Hp} : tTryN K Ca E tb ts D σ H = (tb D σ H /\ ∀ σ' cls H', E σ' cls none H' -> ∃ C, cls = .ref C /\ PySem.W.exmOne K (.ref C) (.ref Ca) = some true /\ ts D σ' H') := rfl
theorem ps_tryN {X : Cx} {body : List Stmt} {c : Str} {Ca : Addr} {np hpos pos : Pos} {b₀ : Stmt} {suite : List Stmt} {E : St -> XK} {tb ts : TS} (hg : Gl X c) (hm : X.mg c = some (.ref Ca)) (hst : X.stack = X.env :: X.outer) (hL : X.env.frame = some X.env.locals) (hex : X.ex = [])
    (hb : ∀ xe pn, (∀ σ, PassesAt (CXe X.prog X.w) (X.body xe pn) σ (E σ)) -> PSs (X.body xe pn) body tb) (hs : ∀ ea pn, PSs (X.suite ea pn) (b₀ :: suite) ts) (hd : (c == ("__debug__" : Str)) = false := by decide) :
    PS X (.Try body [.ExceptHandler (some (.Name c np)) none (b₀ :: suite) hpos] [] [] pos) (tTryN X.K Ca E tb ts) := by
  intro pins s σ H D I h
  obtain ⟨hbody, hhand⟩ := h
  have hB := hb (fun e s' => ∃ pins' σ' H1 s1, Inv (X.body (fun _ _ => True) (X.pn ++ pins)) pins' σ' H1 s1 /\ CXe X.prog X.w X.stack H1 s1 (E σ') e s') (X.pn ++ pins) (fun σ pins' H s e s' I' hcx => ⟨pins', σ, H, s, I'.reBody, hcx⟩) [] s σ H D I.toBody hbody
  refine wpAny_Try_except (wpAny_mono hB (fun f s1 q => ?_) fun e s1 q => ?_)
  . cases f with
    | next => obtain ⟨σ1, H1, I1, q1⟩ := q; exact wpAny_execs_nil ⟨σ1, H1, I1.ofBody, q1⟩
    | brk => obtain ⟨σ1, H1, I1, q1⟩ := q; exact ⟨σ1, H1, I1.ofBody, q1⟩
    | cont => obtain ⟨σ1, H1, I1, q1⟩ := q; exact ⟨σ1, H1, I1.ofBody, q1⟩
    | ret v => obtain ⟨x1, σ1, H1, I1, r1, q1⟩ := q; exact ⟨x1, σ1, H1, I1.ofBody, r1, q1⟩
  . obtain ⟨pins', σ', H1, s2, I2, ea, cls, a0, H', B, rfl, os, bare, fl, fw, hE⟩ := q
    obtain ⟨C, rfl, hexm, hts⟩ := hhand σ' cls H' hE
    have I2' : Inv X pins σ' H1 s2 := I2.ofBody
    have fr : X.A.frames = some (X.env :: X.outer) := by rw [I.ok.frames, hst]
    have frees := fly_frees I2' fl
    have fw0 := fw
    rw [hst] at fw
    have invAt : ∀ h', Heap.FlyingW B (X.env :: X.outer) ea (.ref C) a0 h' -> s1.heap.UpToSlots h' -> Inv X pins σ' H' { s1 with heap := h' } := fun h' fw' ups => by
      have fl2 := fl.move frees fw'.1 (fun b hb o e => by
        obtain ⟨_, o', ho', nf⟩ := fw0.2.2.1.mem hb
        rw [e] at ho'; cases ho'
        exact ups b o e nf)
      exact I2'.call' (s' := { s1 with heap := h' }) os fl2.un fl2.hok bare (fun b hb => by cases hb)
    refine wpAny_looks_onW fr hL fw fun h4 held4 up4 => ?_
    refine wpAny_landsW held4 fun h5 fw5 up5 => ?_
    have I5 := invAt h5 fw5 (up4.trans up5)
    have I5m : Inv (X.suite ea (X.pn ++ pins)) [] σ' H' { s1 with heap := h5 } := I5.toSuite
    refine wpAny_handleBy_cons (codeAny_handlers_test (ld_glob (X := X.suite ea (X.pn ++ pins)) I5m hg hm ?_ hd)) (by intro q; cases q)
    have LT : PySem.W.Looks (model X.prog X.w) h5 (typeOf (.ref ea)) (.ref C) := by
      obtain ⟨ob, hob, hoc⟩ := fw5.there
      exact hoc ▸ (PySem.W.Looks.ld hob).andThen .now
    refine (PySem.W.exm_one (K := X.K) (M := model X.prog X.w) I5.kIn LT hexm) _ _ _ _ (fun b o e => e) ?_
    refine codeAny_handlers_suite ?_
    refine lands_againW fw5 fun h6 fw6 up6 => ?_
    have I6 := invAt h6 fw6 ((up4.trans up5).trans up6)
    refine wpAny_mono (hs ea (X.pn ++ pins) [] _ _ _ D I6.toSuite hts) (fun f s8 q8 => ?_) (fun _ _ z => False.elim z)
    cases f with
    | next => obtain ⟨σ8, H8, I8, q⟩ := q8; exact ⟨σ8, H8, I8.ofSuite I.ok.hd, q⟩
    | brk => obtain ⟨σ8, H8, I8, q⟩ := q8; exact ⟨σ8, H8, I8.ofSuite I.ok.hd, q⟩
    | cont => obtain ⟨σ8, H8, I8, q⟩ := q8; exact ⟨σ8, H8, I8.ofSuite I.ok.hd, q⟩
    | ret v => obtain ⟨x8, σ8, H8, I8, r8, q⟩ := q8; exact ⟨x8, σ8, H8, I8.ofSuite I.ok.hd, r8, q⟩
end L2
set_option linter.all false
namespace PrimeO
end PrimeO
set_option Elab.async false
set_option linter.all false
set_option maxRecDepth 100000
set_option maxHeartbeats 4000000
namespace L2
open PySem PySem.Spec PyProof.Rows
section
variable {X : Cx} {CX CX' : CXT} {k k' : Nat} {f f' : Addr} {fd fd' : FuncData} {ps ps' : List Str} {sp sp' : Sp} {dvs dvs' : List V} {ds ds' : List Value} {x : Str} {p pos : Pos} {e : Expr} {es : List Expr} {t : TA}
end
end L2
set_option Elab.async false
set_option linter.all false
set_option maxRecDepth 100000
set_option maxHeartbeats 4000000
namespace PySem
open Sem (wp)
open PySem.F
section
variable {prog : Program} {w : World} {A : Around} {E : Value -> Shared -> Prop} {s : Shared}
end
section
variable {prog : Program} {w : World} {A : Around} {E : Value -> Shared -> Prop} {s : Shared}
end
end PySem
set_option Elab.async false
set_option linter.all false
set_option maxRecDepth 100000
set_option maxHeartbeats 4000000
namespace PySem
section
variable {prog : Program} {w : World} {A : Around} {E : Value -> Shared -> Prop} {s : Shared}
end
section
variable {prog : Program} {w : World} {s : Shared}
end
end PySem
set_option Elab.async false
set_option linter.all false
set_option maxRecDepth 100000
set_option maxHeartbeats 4000000
namespace L2
open PySem PySem.Spec PyProof.Rows GW
end L2
set_option linter.all false
namespace Nest
def sl (row : List Int) (b i : Nat) : List Int := (row.take i).drop b
def outF (p e : Int) (s : List Int × Int) (x : Int) : List Int × Int := if x = e then (s.1, s.2 - 1) else (if s.2 = 0 then s.1 ++ [x] else s.1, if p <= x then s.2 + 1 else s.2)
def outS (p e : Int) (l : List Int) : List Int × Int := l.foldl (outF p e) ([], 0)
def outW (p e : Int) (l : List Int) : List Int := (outS p e l).1
def wd (p e : Int) (row : List Int) (i a : Nat) : List Int := outW p e (sl row (a + 1) i)
end Nest
set_option Elab.async false
set_option linter.all false
set_option maxRecDepth 100000
set_option maxHeartbeats 4000000
namespace L2
open PySem PySem.Spec PyProof.Rows GW
end L2
namespace HT
open PySem PySem.Spec PyProof.Rows L2
section
variable {prog : Program} {w : World} {A : Around} {E : Value -> Shared -> Prop} {s : Shared}
theorem getItem_tuple_whole {t sl : Addr} {items : Array Value} {vl vu : Value} {lo hi : Option Int} {Q : Value -> Shared -> Prop} (ht : IsTup s.heap t items) (hs : s.heap.IsSliceOf sl vl vu .none) (pl : IsPart vl lo) (pu : IsPart vu hi)
    (hw : sIx items.size 0 lo = 0 /\ sIx items.size items.size hi = items.size) (h : Q (.ref t) s) : wpAny (model prog w) A (getItem (.ref t) (.ref sl)) Q E s := by
  obtain ⟨os, hos, hcs, hds⟩ := id hs
  have hTs : s.TypeIs (.ref sl) "slice" := ⟨os, hos, hcs⟩
  unfold getItem
  try with_reducible refine wpAny_holding ?_
  first | refine wpAny_bind (wpAny_pure ?_) | skip
  refine wpAny_bind (wpAny_sequenceKey ht.typeIs (by decide) ?_)
  refine wpAny_bind (wpAny_callSpecial?_slot (name := Str.ofString "__getitem__") ht.typeIs PyProof.Rows.slot_tuple_getitem
    (wpAny_call_entry PyProof.Rows.slot_tuple_getitem ht.typeIs entry_tuple_getitem ?_ (args_tuple_getitem _ _)))
  show wpAny _ _ (Builtin.Tuple.tupleItemsOf (.ref t) >>= _) _ _ s
  refine wpAny_bind (tupleItemsOf_ ht ?_)
  refine wpAny_bind (wpAny_typeOf hTs ?_)
  rw [if_pos (by decide)]
  refine wpAny_bind (sliceApplied_gen hs pl pu ?_)
  rw [hw.1, hw.2]
  show wpAny _ _ (if ((((0 : Nat) : Int) == 0 && (1 : Int) == 1 && (items.size - 0) == items.size) = true) then _ else _) _ _ s
  rw [if_pos (by simp)]
  refine wpAny_bind ?_
  unfold Builtin.Tuple.tupleIsExact
  refine wpAny_bind (wpAny_typeOf ht.typeIs (wpAny_pure ?_))
  rw [if_pos (by decide)]
  refine wpAny_bind (wpAny_rule ?_)
  exact wpAny_pure ⟨_, rfl, wpAny_pure h⟩
end
end HT
namespace L2
open PySem PySem.Spec PyProof.Rows GW
def rSlT2 (K : PySem.W.Frag) : V -> Option Int -> Option Int -> Hp -> VK -> Prop := fun x lo hi H Q => ∃ a xs, x = .ref a /\ SqT K H a xs /\ ∀ p H', Same H H' -> SqT K H' p (cutV xs lo hi) -> Q (.ref p) H'
theorem r_slT2 {K : PySem.W.Frag} {x : V} {lo hi : Option Int} {H : Hp} {Q : VK} : rSlT2 K x lo hi H Q = ∃ a xs, x = .ref a /\ SqT K H a xs /\ ∀ p H', Same H H' -> SqT K H' p (cutV xs lo hi) -> Q (.ref p) H' := rfl
theorem sl_tup2 {X : Cx} : SlR X (rSlT2 X.K) := by
  intro pins s σ H x v vl vu lo hi sl Q I rx hs pl pu h
  obtain ⟨a, xs, rfl, hx, q⟩ := h
  by_cases hw : HT.sIx xs.length 0 lo = 0 /\ HT.sIx xs.length xs.length hi = xs.length
  . cases rx
    obtain ⟨its, r, ht, hz⟩ := I.tuple hx
    have hlen : its.toArray.size = xs.length := by rw [List.size_toArray]; exact r.length.symm
    refine ⟨"tuple", _, PyProof.Rows.slot_tuple_getitem.lookup, ht.typeIs, ?_⟩
    refine HT.getItem_tuple_whole ht hs pl pu (by rw [hlen]; exact hw) ⟨.ref a, H, I, rfl, q a H (Same.refl _) ?_⟩
    unfold cutV
    rw [hw.1, hw.2, List.drop_zero, Nat.sub_zero, List.take_length]
    exact hx
  . exact sl_tup pins s σ H (.ref a) v vl vu lo hi sl Q I rx hs pl pu ⟨a, xs, rfl, hx, hw, fun p hp => q p _ (Same.new hp) (SqT.of upd_same)⟩
end L2
namespace Nest
end Nest
set_option linter.all false
namespace Nest
end Nest
namespace L2
open PySem PySem.Spec PyProof.Rows
end L2
set_option Elab.async false
set_option linter.all false
set_option maxRecDepth 100000
set_option maxHeartbeats 4000000
namespace L2
open PySem PySem.W PySem.Spec PySem.Calls PyProof.Rows
end L2
set_option Elab.async false
set_option linter.all false
set_option maxRecDepth 100000
set_option maxHeartbeats 1000000
namespace L2
open PySem PySem.Spec PyProof.Rows
section
variable {K : PySem.W.Frag} {x : V} {xs : List V} {lo hi : Option Int} {H : Hp} {Q : VK}
end
end L2
set_option Elab.async false
set_option linter.all false
set_option maxRecDepth 100000
set_option maxHeartbeats 4000000
namespace L2
open PySem PySem.W PySem.Spec PySem.Calls PyProof.Rows
end L2
namespace L2
open PySem PySem.W PySem.Spec PySem.Calls PyProof.Rows
end L2
namespace L2
open PySem
section
variable {prog : Program} {w : World} {κ : Type} [DecidableEq κ] {knd : HeapKind prog w κ} {A : Around} {E : Value -> Shared -> Prop} {s : Shared}
end
end L2
namespace L2
open PySem PySem.W PySem.Spec PySem.Calls PyProof.Rows
end L2
set_option Elab.async false
set_option linter.all false
set_option maxRecDepth 100000
namespace L2
section
variable {α : Type} [DecidableEq α]
def ins1 (acc : List α) (x : α) : List α := if x ∈ acc then acc else acc ++ [x]
def firstsA (acc row : List α) : List α := row.foldl ins1 acc
def firsts (row : List α) : List α := firstsA [] row
def num (row : List α) : List Int := row.map fun x => ((firsts row).idxOf x : Int)
def ncl (row : List α) : Nat := (firsts row).length
end
def rowB (n : Nat) (b : List Int -> Nat -> Int) (w : List Int) : List Int := (List.range n).map (b w)
section
variable {L : Int} {n : Nat} {b : List Int -> Nat -> Int} {words : List (List Int)} {c : List Int} {w : List Int} {x : Int}
end
abbrev StC := List (List Int) × List Int
def stepC (n : Nat) (b : List Int -> Nat -> Int) (w : List Int) (st : StC) (x : Nat) : StC := if ncl st.2 < ncl (st.2.zip (rowB n b ((x : Int) :: w))) then (st.1 ++ [(x : Int) :: w], num (st.2.zip (rowB n b ((x : Int) :: w)))) else st
def innerC (n : Nat) (b : List Int -> Nat -> Int) (w : List Int) (L : Nat) (st : StC) : StC := (List.range L).foldl (stepC n b w) st
def outerC (n : Nat) (b : List Int -> Nat -> Int) (L : Nat) : Nat -> Nat -> StC -> StC
  | 0, _, st => st
  | f + 1, k, st => if k < st.1.length then outerC n b L f (k + 1) (innerC n b (st.1.getD k []) L st) else st
section
variable {n L : Nat} {b : List Int -> Nat -> Int} {w : List Int} {st : StC}
def wcOf (n L : Nat) (b : List Int -> Nat -> Int) : StC := outerC n b L 41 0 ([[]], num (rowB n b []))
end
end L2
set_option Elab.async false
set_option linter.all false
set_option maxRecDepth 100000
set_option maxHeartbeats 4000000
namespace L2
open PySem PySem.W PySem.Spec PySem.Calls PyProof.Rows
end L2
set_option Elab.async false
set_option linter.all false
set_option maxRecDepth 100000
namespace L2
open GW GB
def bW (marks : List Int) (ways : List (List Int)) (w : List Int) (r : Nat) : Int := marks.getD (walkR ways (r : Int) w).toNat 0
def cf (c : List Int) (r : Int) : Int := c.getD r.toNat 0
def hm (c R : List Int) (r : Int) : Int := (((firsts (R.map (cf c))).idxOf (cf c r) : Nat) : Int)
def frstep (c acc : List Int) (r : Int) : List Int := if cf c r ∈ acc.map (cf c) then acc else acc ++ [r]
def FR (c R : List Int) : List Int := R.foldl (frstep c) []
def hrow (c R : List Int) (ways : List (List Int)) (r : Int) : List Int := (ways.getD r.toNat []).map (hm c R)
section
variable {L : Nat} {marks : List Int} {ways : List (List Int)}
end
def cOf (L : Nat) (marks : List Int) (ways : List (List Int)) : List Int := (wcOf marks.length L (bW marks ways)).2
def rOf (ways : List (List Int)) : List Int := (wordsIn ways).map (·.1)
def sF (L : Nat) (marks : List Int) (ways : List (List Int)) : List Int := FR (cOf L marks ways) (rOf ways)
def hO (L : Nat) (marks : List Int) (ways : List (List Int)) (r : Int) : Int := hm (cOf L marks ways) (rOf ways) r
section
variable {L : Nat} {marks : List Int} {ways : List (List Int)}
def wi (ways : List (List Int)) (r : Int) : List Int := (((wordsIn ways).find? fun e => decide (e.1 = r)).map (·.2)).getD []
end
section
variable {L : Nat} {m1 m2 : List Int} {w1 w2 : List (List Int)}
end
end L2
set_option Elab.async false
set_option linter.all false
set_option maxRecDepth 100000
set_option maxHeartbeats 4000000
namespace L2
open PySem PySem.Spec PyProof.Rows GW GB
end L2
set_option Elab.async false
set_option linter.all false
set_option maxRecDepth 100000
set_option maxHeartbeats 1000000
namespace L2
open PySem PySem.Spec PyProof.Rows
def nt (n : Int) : Str := Str.ofString (toString n)
end L2
set_option Elab.async false
set_option linter.all false
set_option maxRecDepth 100000
set_option maxHeartbeats 1000000
namespace L2
open PySem PySem.Spec PyProof.Rows
end L2
set_option Elab.async false
set_option linter.all false
set_option maxRecDepth 100000
set_option maxHeartbeats 4000000
namespace PySem
open Sem (wp)
namespace F
end F
section
variable {prog : Program} {w : World} {A : Around} {E : Value -> Shared -> Prop} {s : Shared}
end
section
open PyProof.Rows
variable {prog : Program} {w : World} {A : Around} {E : Value -> Shared -> Prop} {s : Shared}
end
end PySem
namespace L2
open PySem PySem.Spec PyProof.Rows
section
variable {X : Cx}
end
end L2
set_option Elab.async false
set_option linter.all false
set_option maxRecDepth 100000
set_option maxHeartbeats 4000000
namespace PySem
section
variable {prog : Program} {w : World} {A : Around} {R : Result -> Shared -> Prop} {I : Addr} {fp wr : List Addr} {n : Nat} {P : Nat -> Value -> Prop} {St : Nat -> Heap -> Prop} {d : Int} {td : Tok}
end
end PySem
set_option Elab.async false
set_option linter.all false
set_option maxRecDepth 100000
set_option maxHeartbeats 4000000
namespace L2
open PySem PySem.Spec PyProof.Rows
section
variable {X : Cx} {pins : List (Addr × Obj)} {σ : St} {H : Hp} {s : Shared} {a : Addr}
end
theorem call_tuple_L {X : Cx} : CallR X (.type "tuple") (fun xs H Q => ∃ p ys, xs = [.ref p] /\ ((SqL X.K H p ys /\ ∀ l, H l = none -> Q (.ref l) (upd H l (.tup ys))) \/ False)) := fun pins s σ H xs us Q I r h => by
  obtain ⟨p, ys, e, h | h⟩ := h
  . exact call_tuple_of pins s σ H xs us Q I r ⟨p, ys, e, .inl h⟩
  . exact h.elim
theorem len1 {α : Type} {us : List α} (h : us.length = 1) : ∃ a, us = [a] := by match us, h with | [a], _ => exact ⟨a, rfl⟩
theorem len2 {α : Type} {us : List α} (h : us.length = 2) : ∃ a b, us = [a, b] := by match us, h with | [a, b], _ => exact ⟨a, b, rfl⟩
theorem len3 {α : Type} {us : List α} (h : us.length = 3) : ∃ a b c, us = [a, b, c] := by match us, h with | [a, b, c], _ => exact ⟨a, b, c, rfl⟩
theorem len4 {α : Type} {us : List α} (h : us.length = 4) : ∃ a b c d, us = [a, b, c, d] := by match us, h with | [a, b, c, d], _ => exact ⟨a, b, c, d, rfl⟩
section
variable {σ : St} {H : Hp} {Q : VK} {K : PySem.W.Frag}
end
section
variable {a : Addr} {n : Int} {b : Bool}
end
def tLater (u : TS) (D : Ends) : St -> Hp -> Prop := u D
def tLazy (t u : TS) : TS := fun D σ H => t { D with nx := tLater u D } σ H
theorem r_lazy {t u : TS} {D : Ends} {σ : St} {H : Hp} : tLazy t u D σ H = t { D with nx := tLater u D } σ H := rfl
theorem later_of {u : TS} {D : Ends} {σ : St} {H : Hp} (h : u D σ H) : tLater u D σ H := h
theorem pss_lazy {X : Cx} {st : Stmt} {rest : List Stmt} {t u : TS} (h1 : PS X st t) (h2 : PSs X rest u) : PSs X (st :: rest) (tLazy t u) := pss_cons h1 h2
end L2
set_option Elab.async false
set_option linter.all false
set_option maxRecDepth 100000
set_option maxHeartbeats 4000000
namespace L2
open PySem PySem.Spec PyProof.Rows
end L2
set_option Elab.async false
set_option linter.all false
set_option maxRecDepth 100000
set_option maxHeartbeats 1000000
namespace L2
open PySem PySem.W PySem.Spec PySem.Calls PyProof.Rows
section
variable {X : Cx} {es : List Expr} {t : TA}
end
end L2
set_option Elab.async false
set_option linter.all false
set_option maxRecDepth 100000
set_option maxHeartbeats 4000000
namespace PySem.W
open PySem PySem.Calls PyProof.Rows PyProof.V PySem.Spec
section
variable {prog : Program} {w : World} {A : Around} {E : Value -> Shared -> Prop} {s : Shared} {r d : Addr} {es : Array DictEntry} {ep : Nat} {od : Obj}
end
section
variable {prog : Program} {w : World} {r d : Addr} {es : Array DictEntry} {ep : Nat} {od : Obj}
end
end PySem.W
set_option Elab.async false
set_option linter.all false
set_option maxRecDepth 100000
set_option maxHeartbeats 4000000
namespace L2
open PySem PySem.Spec PyProof.Rows
end L2
set_option Elab.async false
set_option linter.all false
set_option maxRecDepth 100000
set_option maxHeartbeats 4000000
namespace L2
open PySem PySem.Spec PyProof.Rows
end L2
set_option Elab.async false
set_option linter.all false
namespace L2
open PySem PySem.Spec PyProof.Rows
end L2
set_option Elab.async false
set_option linter.all false
set_option maxRecDepth 100000
set_option maxHeartbeats 4000000
namespace PySem
open Sem (wp)
namespace Heap
end Heap
section
variable {M : Model} {A : Around} {E : Value -> Shared -> Prop} {s : Shared}
end
end PySem
set_option Elab.async false
set_option linter.all false
set_option maxRecDepth 100000
set_option maxHeartbeats 4000000
namespace L2
open PySem PySem.W PySem.Spec PySem.Calls PyProof.Rows
section
variable {P : Program} {w : World}
end
section
variable {P : Program} {w : World} {K : PySem.W.Frag} {mg : Str -> Option Value} {base : Heap} {N : List Str} {qual : Str} {scope : Scope} {f : Addr} {cd : Value} {A : Around} {outer : List Env} {s : Shared} {H : Hp} {E : XK}
end
section
variable {P : Program} {w : World} {K : PySem.W.Frag} {mg : Str -> Option Value} {base : Heap}
end
end L2
set_option Elab.async false
set_option linter.all false
set_option maxRecDepth 100000
set_option maxHeartbeats 4000000
namespace PySem
open Sem (wp)
section
variable {M : Model} {A : Around} {E : Value -> Shared -> Prop} {env : Env}
variable {nm q : Str} {C N : Addr} {bs bm : List Value} {hdct : Bool} {sn : List Str} {sub : List Value} {ab : Bool} {col : Option Bool} {dd : Option Addr} {k0 k1 k2 k3 k5 : Option Value} {newId : String}
end
section
variable {prog : Program} {w : World} {A : Around} {E : Value -> Shared -> Prop} {s : Shared} {env : Env}
variable {nm q : Str} {C N : Addr} {bs bm bmB : List Value} {hdct : Bool} {sn : List Str} {sub : List Value} {ab : Bool} {col : Option Bool} {dd : Option Addr} {k0 k1 k2 k3 k5 : Option Value} {B Bn newId nid initId inN : String} {bmN : List Value}
end
end PySem
set_option Elab.async false
set_option linter.all false
set_option maxRecDepth 100000
set_option maxHeartbeats 4000000
namespace L2
open PySem PySem.W PySem.Spec PySem.Calls PyProof.Rows
section
variable {P : Program} {w : World} {K : PySem.W.Frag} {mg : Str -> Option Value} {base : Heap} {N : List Str} {qual : Str} {scope : Scope} {f : Addr} {cd : Value} {A : Around} {outer : List Env} {s : Shared} {H : Hp} {Eo : XK}
end
end L2
set_option Elab.async false
set_option linter.all false
set_option maxRecDepth 100000
set_option maxHeartbeats 4000000
namespace L2
open PySem PySem.W PySem.Spec PySem.Calls PyProof.Rows
section
variable {X : Cx} {pins : List (Addr × Obj)} {σ : St} {H : Hp} {s : Shared} {cp : Caps} {sc : Scope} {tg : Expr} {iter elt : Expr} {ifs : List Expr} {pos : Pos} {wi : TI} {g : TG} {tc : TT} {te : TE}
end
end L2
set_option Elab.async false
set_option linter.all false
set_option maxRecDepth 100000
set_option maxHeartbeats 4000000
namespace L2
open PySem PySem.W PySem.Spec PySem.Calls PyProof.Rows
section
variable {X : Cx} {CX : CXT} {k : Nat} {f C : Addr} {fd : FuncData} {ps : List Str} {sp : Sp} {dvs : List V} {ds : List Value} {E : XK} {x m : Str} {np apos pos : Pos} {e : Expr} {es : List Expr} {t : TA}
end
end L2
set_option Elab.async false
set_option linter.all false
set_option maxRecDepth 100000
set_option maxHeartbeats 4000000
namespace L2
open PySem PySem.Spec PyProof.Rows
end L2
set_option Elab.async false
set_option linter.all false
set_option maxRecDepth 100000
namespace L2
open PySem
def EqO (K : PySem.W.Frag) (n : Nat) (x y : V) (H : Hp) (b : Bool) : Prop := (scal x y = true /\ b = decide (x = y)) \/ (∃ a c, x = .ref a /\ y = .ref c /\ EqD K H n x y b)
def rEqO (K : PySem.W.Frag) (n : Nat) : R2 := fun x y H Q => ∃ b, EqO K n x y H b /\ Q (.bl b) H
def rNeO (K : PySem.W.Frag) (n : Nat) : R2 := fun x y H Q => ∃ b, EqO K n x y H b /\ Q (.bl (!b)) H
theorem r_eqO {K : PySem.W.Frag} {n : Nat} {x y : V} {H : Hp} {Q : VK} : rEqO K n x y H Q = ∃ b, EqO K n x y H b /\ Q (.bl b) H := rfl
theorem r_neO {K : PySem.W.Frag} {n : Nat} {x y : V} {H : Hp} {Q : VK} : rNeO K n x y H Q = ∃ b, EqO K n x y H b /\ Q (.bl (!b)) H := rfl
theorem op_eqO {X : Cx} (n : Nat) (hu : X.A.units + n < cLine) : OpR X (compareOp .Eq) (rEqO X.K n) := by
  intro pins s σ H x y v u Q I rx ry h
  obtain ⟨b, ⟨h1, rfl⟩ | ⟨a, c, h1, h2, h3⟩, q⟩ := h
  . exact op_eq pins s σ H x y v u Q I rx ry ⟨h1, q⟩
  . exact op_eqD n hu pins s σ H x y v u Q I rx ry ⟨a, c, b, h1, h2, h3, q⟩
theorem op_neO {X : Cx} (n : Nat) (hu : X.A.units + n < cLine) : OpR X (compareOp .NotEq) (rNeO X.K n) := by
  intro pins s σ H x y v u Q I rx ry h
  obtain ⟨b, ⟨h1, rfl⟩ | ⟨a, c, h1, h2, h3⟩, q⟩ := h
  . exact op_ne pins s σ H x y v u Q I rx ry ⟨h1, q⟩
  . exact op_neD n hu pins s σ H x y v u Q I rx ry ⟨a, c, b, h1, h2, h3, q⟩
end L2
set_option Elab.async false
set_option linter.all false
set_option maxRecDepth 100000
set_option maxHeartbeats 4000000
namespace L2
open PySem PySem.W PySem.Spec PySem.Calls PyProof.Rows
end L2
set_option Elab.async false
set_option linter.all false
set_option maxRecDepth 100000
set_option maxHeartbeats 4000000
namespace L2
open PySem PySem.W PySem.Spec PySem.Calls PyProof.Rows
def vD : Option (Option V) -> (V -> Prop) -> Prop
  | some (some v), q => q v
  | _, _ => False
theorem vD_some {v : V} {q : V -> Prop} : vD (some (some v)) q = q v := rfl
theorem vD_ex {o : Option (Option V)} {q : V -> Prop} (h : vD o q) : ∃ v, o = some (some v) /\ q v := by
  match o, h with
  | some (some v), h => exact ⟨v, rfl, h⟩
def tVarD (i : Nat) : TE := fun σ H Q => vD σ[i]? fun v => Q v H
theorem r_varD {i : Nat} {σ : St} {H : Hp} {Q : VK} : tVarD i σ H Q = vD σ[i]? fun v => Q v H := rfl
theorem pvD {X : Cx} (i : Nat) {x : Str} {pos : Pos} (hN : X.N[i]? = some x := by rfl) (hv : Vis X.env.scope x := by first | exact Or.inl rfl | exact Or.inr (Or.inl rfl) | exact Or.inr (Or.inr rfl)) (hd : (x == ("__debug__" : Str)) = false := by decide)
    (hcd : (x == ("__classdict__" : Str)) = false := by decide) : PE X (.Name x pos) (tVarD i) := fun pins s σ H Q I h => pv i hN hv hd hcd pins s σ H Q I (vD_ex h)
def iD : V -> V -> (Int -> Int -> Prop) -> Prop
  | .int i, .int j, q => q i j
  | x, y, q => ∃ i j, x = .int i /\ y = .int j /\ q i j
theorem iD_int {i j : Int} {q : Int -> Int -> Prop} : iD (.int i) (.int j) q = q i j := rfl
theorem iD_ex {x y : V} {q : Int -> Int -> Prop} : iD x y q = ∃ i j, x = .int i /\ y = .int j /\ q i j := by
  cases x <;> cases y <;> first | rfl | (simp [iD])
def rID (C : Int -> Int -> Prop) (g : Int -> Int -> V) : R2 := fun x y H Q => iD x y fun i j => C i j /\ Q (g i j) H
def rI0D (g : Int -> Int -> V) : R2 := fun x y H Q => iD x y fun i j => Q (g i j) H
theorem r_ID {C : Int -> Int -> Prop} {f : Int -> Int -> V} {x y : V} {H : Hp} {Q : VK} : rID C f x y H Q = iD x y fun i j => C i j /\ Q (f i j) H := rfl
theorem r_I0D {f : Int -> Int -> V} {x y : V} {H : Hp} {Q : VK} : rI0D f x y H Q = iD x y fun i j => Q (f i j) H := rfl
theorem rID_eq {C : Int -> Int -> Prop} {g : Int -> Int -> V} : rID C g = rI C g := by
  funext x y H Q; exact iD_ex
theorem rI0D_eq {g : Int -> Int -> V} : rI0D g = rI0 g := by
  funext x y H Q; exact iD_ex
theorem opD {X : Cx} {f : Value -> Value -> Sem Value} {C : Int -> Int -> Prop} {g : Int -> Int -> V} (h : OpR X f (rI C g)) : OpR X f (rID C g) := by rw [rID_eq]; exact h
theorem opD0 {X : Cx} {f : Value -> Value -> Sem Value} {g : Int -> Int -> V} (h : OpR X f (rI0 g)) : OpR X f (rI0D g) := by rw [rI0D_eq]; exact h
def bD : V -> (Bool -> Prop) -> Prop
  | .bl c, q => q c
  | x, q => ∃ c, x = .bl c /\ q c
theorem bD_bl {c : Bool} {q : Bool -> Prop} : bD (.bl c) q = q c := rfl
theorem bD_ex {x : V} {q : Bool -> Prop} : bD x q = ∃ c, x = .bl c /\ q c := by
  cases x <;> first | rfl | (simp [bD])
def tBD (t : TE) : TT := fun σ H Q => t σ H fun x H1 => bD x fun c => Q c H1
theorem r_BD {te : TE} {σ : St} {H : Hp} {R : Bool -> Hp -> Prop} : tBD te σ H R = te σ H fun x H1 => bD x fun c => R c H1 := rfl
theorem tBD_eq {t : TE} : tBD t = tB t := by
  funext σ H Q
  show t σ H _ = t σ H _
  congr 1
  funext x H1; exact bD_ex
theorem tBD_eqT {t : TE} : tBD t = tTest t := tBD_eq
theorem ptB {X : Cx} {e : Expr} {t : TE} (h : PT X e (tB t)) : PT X e (tBD t) := by rw [tBD_eq]; exact h
theorem ptT {X : Cx} {e : Expr} {t : TE} (h : PT X e (tTest t)) : PT X e (tBD t) := by rw [tBD_eqT]; exact h
def eD : V -> V -> Prop -> Prop
  | .int _, .int _, q => q
  | .str _, .str _, q => q
  | .non, .non, q => q
  | .bl _, .bl _, q => q
  | x, y, q => scal x y = true /\ q
theorem eD_int {i j : Int} {q : Prop} : eD (.int i) (.int j) q = q := rfl
theorem eD_str {i j : Str} {q : Prop} : eD (.str i) (.str j) q = q := rfl
theorem eD_non {q : Prop} : eD .non .non q = q := rfl
theorem eD_bl {i j : Bool} {q : Prop} : eD (.bl i) (.bl j) q = q := rfl
theorem eD_ex {x y : V} {q : Prop} : eD x y q = (scal x y = true /\ q) := by
  cases x <;> cases y <;> first | rfl | (simp [eD, scal])
def rEqF : R2 := fun x y H Q => eD x y (Q (.bl (decide (x = y))) H)
def rNeF : R2 := fun x y H Q => eD x y (Q (.bl (!decide (x = y))) H)
theorem r_EqF {x y : V} {H : Hp} {Q : VK} : rEqF x y H Q = eD x y (Q (.bl (decide (x = y))) H) := rfl
theorem r_NeF {x y : V} {H : Hp} {Q : VK} : rNeF x y H Q = eD x y (Q (.bl (!decide (x = y))) H) := rfl
theorem rEqF_eq : rEqF = rEq := by funext x y H Q; exact eD_ex
theorem rNeF_eq : rNeF = rNe := by funext x y H Q; exact eD_ex
theorem opE {X : Cx} {f : Value -> Value -> Sem Value} (h : OpR X f rEq) : OpR X f rEqF := by rw [rEqF_eq]; exact h
theorem opN {X : Cx} {f : Value -> Value -> Sem Value} (h : OpR X f rNe) : OpR X f rNeF := by rw [rNeF_eq]; exact h
def aD : V -> (Addr -> Prop) -> Prop
  | .ref a, q => q a
  | x, q => ∃ a, x = .ref a /\ q a
theorem aD_ref {a : Addr} {q : Addr -> Prop} : aD (.ref a) q = q a := rfl
theorem aD_ex {x : V} {q : Addr -> Prop} : aD x q = ∃ a, x = .ref a /\ q a := by
  cases x <;> first | rfl | (simp [aD])
def nD : V -> (Int -> Prop) -> Prop
  | .int a, q => q a
  | x, q => ∃ a, x = .int a /\ q a
theorem nD_int {a : Int} {q : Int -> Prop} : nD (.int a) q = q a := rfl
theorem nD_ex {x : V} {q : Int -> Prop} : nD x q = ∃ a, x = .int a /\ q a := by
  cases x <;> first | rfl | (simp [nD])
def rIxTD (K : PySem.W.Frag) : R2 := fun x y H Q => aD x fun p => ∃ xs, nD y fun i => SqT K H p xs /\ ∃ v, atI xs i = some v /\ Q v H
def rIxLD (K : PySem.W.Frag) : R2 := fun x y H Q => aD x fun p => ∃ xs, nD y fun i => SqL K H p xs /\ ∃ v, atI xs i = some v /\ Q v H
theorem r_ixTD {K : PySem.W.Frag} {x y : V} {H : Hp} {Q : VK} : rIxTD K x y H Q = aD x fun p => ∃ xs, nD y fun i => SqT K H p xs /\ ∃ v, atI xs i = some v /\ Q v H := rfl
theorem r_ixLD {K : PySem.W.Frag} {x y : V} {H : Hp} {Q : VK} : rIxLD K x y H Q = aD x fun p => ∃ xs, nD y fun i => SqL K H p xs /\ ∃ v, atI xs i = some v /\ Q v H := rfl
theorem rIxTD_eq {K : PySem.W.Frag} : rIxTD K = rIxT K := by
  funext x y H Q
  show aD x _ = ∃ p xs i v, _
  rw [aD_ex]
  refine propext ⟨fun ⟨p, e, h⟩ => ?_, fun ⟨p, xs, i, v, e1, e2, e3, e4, e5⟩ => ⟨p, e1, ?_⟩⟩
  . obtain ⟨xs, h⟩ := h
    rw [nD_ex] at h
    obtain ⟨i, e2, e3, v, e4, e5⟩ := h
    exact ⟨p, xs, i, v, e, e2, e3, e4, e5⟩
  . refine ⟨xs, ?_⟩
    rw [nD_ex]
    exact ⟨i, e2, e3, v, e4, e5⟩
theorem rIxLD_eq {K : PySem.W.Frag} : rIxLD K = rIxL K := by
  funext x y H Q
  show aD x _ = ∃ p xs i v, _
  rw [aD_ex]
  refine propext ⟨fun ⟨p, e, h⟩ => ?_, fun ⟨p, xs, i, v, e1, e2, e3, e4, e5⟩ => ⟨p, e1, ?_⟩⟩
  . obtain ⟨xs, h⟩ := h
    rw [nD_ex] at h
    obtain ⟨i, e2, e3, v, e4, e5⟩ := h
    exact ⟨p, xs, i, v, e, e2, e3, e4, e5⟩
  . refine ⟨xs, ?_⟩
    rw [nD_ex]
    exact ⟨i, e2, e3, v, e4, e5⟩
theorem ixTD {X : Cx} {K : PySem.W.Frag} (h : IxR X (rIxT K)) : IxR X (rIxTD K) := by rw [rIxTD_eq]; exact h
theorem ixLD {X : Cx} {K : PySem.W.Frag} (h : IxR X (rIxL K)) : IxR X (rIxLD K) := by rw [rIxLD_eq]; exact h
def lD1 : List V -> (V -> Prop) -> Prop
  | [x], q => q x
  | xs, q => ∃ x, xs = [x] /\ q x
theorem lD1_one {x : V} {q : V -> Prop} : lD1 [x] q = q x := rfl
theorem lD1_ex {xs : List V} {q : V -> Prop} : lD1 xs q = ∃ x, xs = [x] /\ q x := by
  match xs with
  | [] => rfl
  | [x] => simp [lD1]
  | x :: y :: r => rfl
def rLenD (K : PySem.W.Frag) : List V -> Hp -> VK -> Prop := fun xs H Q => lD1 xs fun x => aD x fun p => ∃ ys, (SqL K H p ys \/ SqT K H p ys) /\ Q (.int ys.length) H
theorem r_lenD {K : PySem.W.Frag} {xs : List V} {H : Hp} {Q : VK} : rLenD K xs H Q = lD1 xs fun x => aD x fun p => ∃ ys, (SqL K H p ys \/ SqT K H p ys) /\ Q (.int ys.length) H := rfl
theorem lenD {X : Cx} {K : PySem.W.Frag} {f : Value} (h : CallR X f (fun xs H Q => ∃ p ys, xs = [.ref p] /\ (SqL K H p ys \/ SqT K H p ys) /\ Q (.int ys.length) H)) : CallR X f (rLenD K) := by
  have e : rLenD K = fun xs H Q => ∃ p ys, xs = [.ref p] /\ (SqL K H p ys \/ SqT K H p ys) /\ Q (.int ys.length) H := by
    funext xs H Q
    show lD1 xs _ = _
    rw [lD1_ex]
    refine propext ⟨fun ⟨x, e, h⟩ => ?_, fun ⟨p, ys, e, h1, h2⟩ => ⟨_, e, ys, h1, h2⟩⟩
    rw [aD_ex] at h
    obtain ⟨p, rfl, ys, h1, h2⟩ := h
    exact ⟨p, ys, e, h1, h2⟩
  rw [e]; exact h
theorem ps_setL {X : Cx} {i : Nat} {x : Str} {e : Expr} {te : TE} {pos pos' : Pos} (hN : X.N.Nodup) (he : PE X e te) (hi : X.N[i]? = some x := by rfl) (hx : Loc X.env.scope x := by exact Or.inl rfl) (hs : swapsWith e (some (.Name x pos')) pos.line X.env = pure false := by rfl) (hf : X.fn x = true \/ X.env.scope.names.lookup x = some .local := by first | exact .inl rfl | exact .inr rfl | assumption) : PS X (.Assign [.Name x pos'] e pos) (tAsg te (gName i)) := ps_set hN hi hx he hs hf
theorem pe_ixA {X : Cx} {r : R2} {a b : Expr} {ta tb : TE} {pos : Pos} (hr : IxR X r) (ha : PE X a ta) (hb : PE X b tb) (hs : PlainIx b := by exact fun _ _ => rfl) : PE X (.Subscript a b pos) (tOp r ta tb) := pe_ix hr ha hb hs
end L2
set_option Elab.async false
set_option linter.all false
set_option maxRecDepth 100000
set_option maxHeartbeats 4000000
namespace Mine
open PySem L2 GW GB
local macro_rules | `(tactic| walk_at "rd") => `(tactic| (try dsimp only [↓r_varD, vD_some, ↓r_ID, ↓r_I0D, iD_int, ↓r_BD, bD_bl, ↓r_EqF, ↓r_NeF, eD_int, eD_str, eD_non, eD_bl, ↓r_ixTD, ↓r_ixLD, aD_ref, nD_int, ↓r_lenD, lD1_one, ↓r_seq, ↓r_next, ↓r_asg, ↓r_gname, ↓r_var, ↓r_c, ↓r_op, ↓r_un, ↓r_I, ↓r_I0, ↓r_U, ↓r_call, ↓r_cons, ↓r_nil, ↓r_ret, ↓r_drop, ↓r_if, ↓r_B, ↓r_test, ↓r_and, ↓r_or, ↓r_not, ↓r_andV, ↓r_notV, ↓r_chain, ↓r_CB, ↓r_lst, ↓r_tup, ↓r_ixL, ↓r_ixT, ↓r_sl, ↓r_part, ↓r_nopart, ↓r_slT, ↓r_BM, ↓r_append, ↓r_Eq, ↓r_Ne, ↓r_eqD, ↓r_iList, ↓r_iTup, ↓r_iRng1, ↓r_aug, ↓r_ip, ↓r_true, ↓r_comp, ↓r_for, ↓r_cat, ↓r_raise, ↓r_callE, ↓r_try, ↓r_unnx, ↓r_unrt, ↓r_neD, ↓r_eqO, ↓r_neO, ↓r_listRng, ↓r_dget, ↓r_dnotin, ↓r_dput, ↓r_tupRev, ↓r_lazy, ↓r_iDictT, ↓r_dispT1, ↓r_inW, ↓r_lindex, ↓r_tryN, ↓r_slT2, r_cxK, L2.start, List.map_cons, List.map_nil, List.length_cons, List.length_nil, List.cons_append, List.nil_append, List.replicate, List.getElem?_cons_zero, List.getElem?_cons_succ, List.set_cons_zero, List.set_cons_succ, scal]) <;> (try simp only [↓r_varD, vD_some, ↓r_ID, ↓r_I0D, iD_int, ↓r_BD, bD_bl, ↓r_EqF, ↓r_NeF, eD_int, eD_str, eD_non, eD_bl, ↓r_ixTD, ↓r_ixLD, aD_ref, nD_int, ↓r_lenD, lD1_one, iD_ex, bD_ex, eD_ex, aD_ex, nD_ex, ↓r_seq, ↓r_next, ↓r_asg, ↓r_gname, ↓r_var, ↓r_c, ↓r_op, ↓r_un, ↓r_I, ↓r_I0, ↓r_U, ↓r_call, ↓r_cons, ↓r_nil, ↓r_ret, ↓r_drop, ↓r_if, ↓r_B, ↓r_test, ↓r_and, ↓r_or, ↓r_not, ↓r_andV, ↓r_notV, ↓r_chain, ↓r_CB, ↓r_lst, ↓r_tup, ↓r_ixL, ↓r_ixT, ↓r_sl, ↓r_part, ↓r_nopart, ↓r_slT, ↓r_BM, ↓r_append, ↓r_Eq, ↓r_Ne, ↓r_eqD, ↓r_iList, ↓r_iTup, ↓r_iRng1, ↓r_aug, ↓r_ip, ↓r_true, ↓r_comp, ↓r_for, ↓r_cat, ↓r_raise, ↓r_callE, ↓r_try, ↓r_unnx, ↓r_unrt, ↓r_neD, ↓r_eqO, ↓r_neO, ↓r_listRng, ↓r_dget, ↓r_dnotin, ↓r_dput, ↓r_tupRev, ↓r_lazy, ↓r_iDictT, ↓r_dispT1, ↓r_inW, ↓r_lindex, ↓r_tryN, ↓r_slT2, r_cxK, L2.start, List.map_cons, List.map_nil, List.length_cons, List.length_nil, List.cons_append, List.nil_append, List.append_nil, List.replicate, List.getElem?_cons_zero, List.getElem?_cons_succ, List.set_cons_zero, List.set_cons_succ, Option.some.injEq, V.int.injEq, V.str.injEq, V.ref.injEq, V.bl.injEq, List.cons.injEq, and_true, true_and, and_assoc, exists_and_left, exists_eq_left', exists_eq_left, exists_eq_right, exists_eq, if_true, if_false, Bool.false_eq_true, decide_eq_true_eq, scal, Nat.reduceAdd, Nat.reduceSub, reduceCtorEq, Bool.not_true, Bool.not_false]))
local macro_rules | `(tactic| walk_at "sc") => `(tactic| exact ⟨rfl, rfl, rfl, by decide +kernel, rfl, by decide +kernel, by decide +kernel⟩)
def top (i : Nat) : Stmt := PySem.Challenge.pw_guessroom_k55_whole_says_difference.main.body.getD i (.Pass ⟨0, 0, 0, 0⟩)
abbrev s_is_word : Stmt := top 5
theorem sc_is_word : FnScope ["letters", "word"] ["letters", "word"] (defScope s_is_word) := by walk_at "sc"
abbrev s_check_word : Stmt := top 6
theorem sc_check_word : FnScope ["letters", "word"] ["letters", "word"] (defScope s_check_word) := by walk_at "sc"
abbrev s_trail : Stmt := top 8
theorem sc_trail : FnScope ["house", "word", "ways", "rooms", "letter"] ["house", "word"] (defScope s_trail) := by walk_at "sc"
abbrev s_room_behind : Stmt := top 9
theorem sc_room_behind : FnScope ["house", "word"] ["house", "word"] (defScope s_room_behind) := by walk_at "sc"
abbrev s_check_as_many_letters : Stmt := top 11
theorem sc_check_as_many_letters : FnScope ["house", "other"] ["house", "other"] (defScope s_check_as_many_letters) := by walk_at "sc"
abbrev s_steps_from : Stmt := top 12
theorem sc_steps_from : FnScope ["house", "other", "start", "steps", "found", "walked", "pair", "letter", "goal"] ["house", "other", "start"] (defScope s_steps_from) := by walk_at "sc"
abbrev s_word_to : Stmt := top 13
theorem sc_word_to : FnScope ["steps", "pair", "backwards", "step"] ["steps", "pair"] (defScope s_word_to) := by walk_at "sc"
abbrev s_least_word_apart : Stmt := top 14
theorem sc_least_word_apart : FnScope ["house", "other", "start", "steps", "pair"] ["house", "other", "start"] (defScope s_least_word_apart) := by walk_at "sc"
abbrev s_difference : Stmt := top 15
theorem sc_difference : FnScope ["house", "other"] ["house", "other"] (defScope s_difference) := by walk_at "sc"
abbrev s_says_difference : Stmt := top 17
theorem sc_says_difference : FnScope ["house", "other", "word", "one", "two", "unlike"] ["house", "other"] (defScope s_says_difference) := by walk_at "sc"
abbrev s__law_cell : Stmt := top 19
theorem sc__law_cell : FnScope ["script", "k"] ["script", "k"] (defScope s__law_cell) := by walk_at "sc"
abbrev s__law_whole : Stmt := top 20
theorem sc__law_whole : FnScope ["found"] ["found"] (defScope s__law_whole) := by walk_at "sc"
abbrev s__law_big : Stmt := top 21
theorem sc__law_big : FnScope ["script", "k", "many"] ["script", "k"] (defScope s__law_big) := by walk_at "sc"
abbrev s__law_mark : Stmt := top 22
theorem sc__law_mark : FnScope ["cell"] ["cell"] (defScope s__law_mark) := by walk_at "sc"
abbrev s__law_says : Stmt := top 23
theorem sc__law_says : FnScope ["script", "at", "letters", "rooms", "says", "ways", "room", "base"] ["script", "at", "letters", "rooms"] (defScope s__law_says) := by walk_at "sc"
abbrev s__law_is_word : Stmt := top 24
theorem sc__law_is_word : FnScope ["found", "letters", "letter"] ["found", "letters"] (defScope s__law_is_word) := by walk_at "sc"
abbrev s__law_doubled : Stmt := top 25
theorem sc__law_doubled : FnScope ["house", "cell", "rooms", "room", "ways", "k", "row", "turned_row", "letter", "ahead"] ["house", "cell"] (defScope s__law_doubled) := by walk_at "sc"
abbrev s__law_order : Stmt := top 26
theorem sc__law_order : FnScope ["rooms", "cell", "order", "shift"] ["rooms", "cell"] (defScope s__law_order) := by walk_at "sc"
abbrev s__law_renumbered : Stmt := top 27
theorem sc__law_renumbered : FnScope ["house", "order", "rooms", "says", "ways", "k", "old"] ["house", "order"] (defScope s__law_renumbered) := by walk_at "sc"
abbrev s__law_another : Stmt := top 28
theorem sc__law_another : FnScope ["house", "cell"] ["house", "cell"] (defScope s__law_another) := by walk_at "sc"
abbrev s__law_pairs : Stmt := top 29
theorem sc__law_pairs : FnScope ["one", "two", "couples", "words", "k", "letter", "pair"] ["one", "two"] (defScope s__law_pairs) := by walk_at "sc"
abbrev s__law_unlike_words : Stmt := top 30
theorem sc__law_unlike_words : FnScope ["one", "two", "found", "spot", "letter"] ["one", "two"] (defScope s__law_unlike_words) := by walk_at "sc"
abbrev s__law_first_unlike : Stmt := top 31
theorem sc__law_first_unlike : FnScope ["one", "two", "most", "longest", "size", "longer", "spot", "letter", "ahead"] ["one", "two", "most"] (defScope s__law_first_unlike) := by walk_at "sc"
abbrev s__law_put : Stmt := top 32
theorem sc__law_put : FnScope ["row", "place", "thing"] ["row", "place", "thing"] (defScope s__law_put) := by walk_at "sc"
abbrev s__law_beside : Stmt := top 33
theorem sc__law_beside : FnScope ["one", "script", "at", "way", "letters", "rooms", "two", "room", "letter", "row"] ["one", "script", "at", "way"] (defScope s__law_beside) := by walk_at "sc"
abbrev s__law_refused : Stmt := top 34
theorem sc__law_refused : FnScope ["one", "two", "refused"] ["one", "two"] (defScope s__law_refused) := by walk_at "sc"
abbrev s__law_refused_by_any : Stmt := top 35
theorem sc__law_refused_by_any : FnScope ["one", "two", "told", "e"] ["one", "two"] (defScope s__law_refused_by_any) := by walk_at "sc"
abbrev s__law_wide : Stmt := top 36
theorem sc__law_wide : FnScope ["cell", "rooms", "says", "ways", "room", "second"] ["cell"] (defScope s__law_wide) := by walk_at "sc"
abbrev s__law_wide_good : Stmt := top 37
theorem sc__law_wide_good : FnScope ["cell", "one", "rooms", "two", "room", "letter", "row", "due", "word", "found"] ["cell"] (defScope s__law_wide_good) := by walk_at "sc"
abbrev s_law : Stmt := top 38
theorem sc_law : FnScope ["script", "letters", "rooms", "one", "way", "two", "found", "three"] ["script"] (defScope s_law) := by walk_at "sc"
def c_is_word_0 : Caps := [("letter", none), ("letters", some 0)]
theorem nd_c_is_word_0 : (Caps.names c_is_word_0).Nodup := by decide +kernel
def c_says_difference_0 : Caps := [("letter", none), ("one", some 3), ("two", some 4)]
theorem nd_c_says_difference_0 : (Caps.names c_says_difference_0).Nodup := by decide +kernel
def c__law_says_3 : Caps := [("k", none), ("script", some 0), ("base", some 7)]
theorem nd_c__law_says_3 : (Caps.names c__law_says_3).Nodup := by decide +kernel
def c__law_says_8 : Caps := [("k", none), ("rooms", some 3), ("script", some 0), ("base", some 7), ("letters", some 2)]
theorem nd_c__law_says_8 : (Caps.names c__law_says_8).Nodup := by decide +kernel
def c__law_order_0 : Caps := [("k", none), ("shift", some 3), ("rooms", some 0)]
theorem nd_c__law_order_0 : (Caps.names c__law_order_0).Nodup := by decide +kernel
def c__law_renumbered_3 : Caps := [("ahead", none), ("order", some 1)]
theorem nd_c__law_renumbered_3 : (Caps.names c__law_renumbered_3).Nodup := by decide +kernel
def c__law_pairs_0 : Caps := [("k", none), ("words", some 3), ("couples", some 2)]
theorem nd_c__law_pairs_0 : (Caps.names c__law_pairs_0).Nodup := by decide +kernel
def c__law_wide_3 : Caps := [("letter", none), ("cell", some 0), ("room", some 4)]
theorem nd_c__law_wide_3 : (Caps.names c__law_wide_3).Nodup := by decide +kernel
structure Txt (mg : Str -> Option Value) : Prop where
  ValueError : mg "ValueError" = none
  all : mg "all" = none
  bool : mg "bool" = none
  int : mg "int" = none
  isinstance : mg "isinstance" = none
  len : mg "len" = none
  list : mg "list" = none
  max : mg "max" = none
  range : mg "range" = none
  reversed : mg "reversed" = none
  tuple : mg "tuple" = none
structure Exs (K : PySem.W.Frag) (mg : Str -> Option Value) (C_AskError C_BadHouse C_BadWord : Addr) : Prop where
  m_AskError : mg "AskError" = some (.ref C_AskError)
  m_BadHouse : mg "BadHouse" = some (.ref C_BadHouse)
  m_BadWord : mg "BadWord" = some (.ref C_BadWord)
  x_BadHouse : PySem.W.excIn K C_BadHouse bmV "ValueError.__new__" = true
  c_BadHouse : ExcCls K C_BadHouse
  e_BadHouse : PySem.W.exmOne K (.ref C_BadHouse) (.ref C_AskError) = some true
  v_BadHouse : PySem.W.kitOne K (.ref C_BadHouse) (.type "ValueError") = some true
  ee_BadHouse : PySem.W.exmOne K (.ref C_BadHouse) (.ref C_BadHouse) = some true
  k_BadHouse_AskError : PySem.W.kitOne K (.ref C_BadHouse) (.ref C_AskError) = some true
  k_BadHouse_BadHouse : PySem.W.kitOne K (.ref C_BadHouse) (.ref C_BadHouse) = some true
  k_BadHouse_BadWord : PySem.W.kitOne K (.ref C_BadHouse) (.ref C_BadWord) = some false
  x_BadWord : PySem.W.excIn K C_BadWord bmV "ValueError.__new__" = true
  c_BadWord : ExcCls K C_BadWord
  e_BadWord : PySem.W.exmOne K (.ref C_BadWord) (.ref C_AskError) = some true
  v_BadWord : PySem.W.kitOne K (.ref C_BadWord) (.type "ValueError") = some true
  ee_BadWord : PySem.W.exmOne K (.ref C_BadWord) (.ref C_BadWord) = some true
  k_BadWord_AskError : PySem.W.kitOne K (.ref C_BadWord) (.ref C_AskError) = some true
  k_BadWord_BadHouse : PySem.W.kitOne K (.ref C_BadWord) (.ref C_BadHouse) = some false
  k_BadWord_BadWord : PySem.W.kitOne K (.ref C_BadWord) (.ref C_BadWord) = some true
section
variable {P : Program} {w : World} {K : PySem.W.Frag} {mg : Str -> Option Value} {base : Heap}
variable {C_AskError C_BadHouse C_BadWord : Addr}
set_option pp.deepTerms true
set_option pp.maxSteps 100000
def SaysH (K : PySem.W.Frag) (H : Hp) (h : Addr) (L : Int) (says ways : List (List Int)) : Prop := ∃ m wv : Addr, SqT K H h [.int L, .ref m, .ref wv] /\ Rows K H m says /\ Rows K H wv ways
theorem SaysH.mono {K : PySem.W.Frag} {H H' : Hp} {h : Addr} {L : Int} {says ways : List (List Int)} (x : SaysH K H h L says ways) (e : Same H H') : SaysH K H' h L says ways := by
  obtain ⟨m, wv, h1, h2, h3⟩ := x
  exact ⟨m, wv, e.seqT h1, h2.mono e, h3.mono e⟩
structure WfS (L : Int) (says ways : List (List Int)) : Prop where
  wf : Wf L (List.replicate says.length 0) ways
  sr : ∀ row ∈ says, (row.length : Int) = L
theorem WfS.at {L : Int} {says ways : List (List Int)} (h : WfS L says ways) {r x : Int} (r0 : 0 <= r) (r1 : r < says.length) (x0 : 0 <= x) (x1 : x < L) : ∃ row, says[r.toNat]? = some row /\ row[x.toNat]? = some (stepW says r x) := by
  have hr : r.toNat < says.length := by omega
  refine ⟨says[r.toNat], by simp [hr], ?_⟩
  have hl := h.sr _ (List.getElem_mem hr)
  have hx : x.toNat < (says[r.toNat]).length := by omega
  have e : says.getD r.toNat [] = says[r.toNat] := by rw [List.getD_eq_getElem?_getD, List.getElem?_eq_getElem hr]; rfl
  unfold stepW
  rw [e, List.getD_eq_getElem?_getD, List.getElem?_eq_getElem hx]; rfl
theorem WfS.walk {L : Int} {says ways : List (List Int)} (h : WfS L says ways) {ws : List Int} (hw : isW L ws = true) (i : Nat) : 0 <= walkW ways (ws.take i) /\ walkW ways (ws.take i) < says.length := by
  have := h.wf.walk hw i
  rw [List.length_replicate] at this
  exact this
def sp_isw55 (K : PySem.W.Frag) : Sp := fun vs H Q _ => ∃ (L : Int) (a : Addr) (ws : List Int), vs = [.int L, .ref a] /\ SqT K H a (ws.map V.int) /\ ws.length <= 1700 /\ ∀ H', Same H H' -> Q (.bl (isW L ws)) H'
theorem ok_is_word {f : Addr} {fd : FuncData} (F : Fun K "is_word" "is_word" s_is_word f fd) (T : Txt mg)
    (Z : Exs K mg C_AskError C_BadHouse C_BadWord)
    : FnOk P w K mg base CX0 1 f fd ["letters", "word"] (sp_isw55 K) := by
  refine F.ok sc_is_word (fun vs H Q E h => ?_) (fun cdv A outer s H vs Q E hr h => ?_)
  . obtain ⟨L, a, ws, rfl, _⟩ := h; rfl
  . obtain ⟨L, a, ws, rfl, hw, hz, k⟩ := h
    have hl := line1000
    refine ⟨_, (pss_one (ps_ret (pe_callB (call_all rfl) rfl T.all PyProof.Rows.boot_all (pa_cons (pe_comp rfl (blk_mk rfl) (cp := c_is_word_0) ⟨⟨rfl, rfl⟩, True.intro⟩ (pi_tup (pvD 1)) (fun _ _ _ _ => (pg_name (i := 0) nd_c_is_word_0 rfl (Or.inl rfl))) (fun _ _ _ _ => pf_nil) (fun _ _ _ _ => (pe_chain op_le op_lt pe_int (pvD 0) (pvD 1)))) pa_nil)))), ?_⟩
    walk_at "rd"
    refine ⟨⟨_, hw⟩, compMapT (σ' := [some (.int L)]) (fun x => match x with | .int n => .bl (inW L n) | _ => .non) rfl hw (by rw [List.length_map]; omega) (fun x hx R hR => ?_) (fun D hD => ?_)⟩
    . obtain ⟨n, _, rfl⟩ := mem_mapI hx
      walk_at "rd"
      by_cases h0 : 0 <= n
      . simp only [h0, if_true]
        simpa [inW, h0] using hR
      . simp only [h0, if_false]
        simpa [inW, h0] using hR
    . refine ⟨D, rfl, ws.map (inW L), .inl (.inl ?_), ?_⟩
      . rw [upd_same, List.map_map, List.map_map]; rfl
      . have := k _ (Same.new hD (o := .lst ((ws.map V.int).map fun x => match x with | .int n => .bl (inW L n) | _ => .non)))
        simpa [isW, List.all_map] using this
def sp_check55 (K : PySem.W.Frag) (BW : Addr) : Sp := fun vs H Q E => ∃ (L : Int) (a : Addr) (ws : List Int), vs = [.int L, .ref a] /\ SqT K H a (ws.map V.int) /\ ws.length <= 1700 /\ (isW L ws = true -> ∀ H', Same H H' -> Q .non H') /\ (isW L ws = false -> ∀ H', Same H H' -> E (.ref BW) none H')
theorem ok_check_word {f : Addr} {fd : FuncData} (F : Fun K "check_word" "check_word" s_check_word f fd) (T : Txt mg)
    (Z : Exs K mg C_AskError C_BadHouse C_BadWord)
    {f_is_word : Addr} {fd_is_word : FuncData} (g_is_word : FnOk P w K mg base CX0 1 f_is_word fd_is_word ["letters", "word"] (sp_isw55 K)) (F_is_word : Fun K "is_word" "is_word" s_is_word f_is_word fd_is_word) (b_is_word : Binds K fd_is_word ["letters", "word"] []) (m_is_word : mg "is_word" = some (.ref f_is_word))
    : FnOk P w K mg base (CXe P w) 2 f fd ["letters", "word"] (sp_check55 K C_BadWord) := by
  refine F.okE sc_check_word (fun vs H Q E h => ?_) (fun cdv A outer s H vs Q E hr h => ?_)
  . obtain ⟨L, a, ws, rfl, _⟩ := h; rfl
  . obtain ⟨L, a, ws, rfl, hw, hz, k, kE⟩ := h
    have hl := line1000
    refine ⟨_, (pss_one (ps_if (pt_not (ptB (pt_val (pe_call g_is_word (hr.mono (by decide)) rfl m_is_word F_is_word.kp b_is_word .nil pass0 (pa_cons (pvD 0) (pa_cons (pvD 1) pa_nil))))))
      (pss_one (ps_raise Z.m_BadWord Z.x_BadWord rfl rfl (pa_cons pe_str pa_nil)))
      pss_nil)), ?_⟩
    walk_at "rd"
    refine ⟨L, a, ws, rfl, hw, hz, fun H' s' => ?_⟩
    walk_at "rd"
    cases hv : isW L ws with
    | true =>
      simp only [Bool.not_true, Bool.false_eq_true, if_false]
      exact k hv H' s'
    | false =>
      simp only [Bool.not_false, if_true]
      exact ⟨by omega, kE hv H' s'⟩
def sp_trail55 (K : PySem.W.Frag) (BW : Addr) : Sp := fun vs H Q E => ∃ (h a m wv : Addr) (L : Int) (marks : List Int) (ways : List (List Int)) (ws : List Int), vs = [.ref h, .ref a] /\ SqT K H h [.int L, .ref m, .ref wv] /\ Rows K H wv ways /\ Wf L marks ways /\ SqT K H a (ws.map V.int) /\ ws.length <= 1700 /\ (isW L ws = true -> ∀ p H', Same H H' -> H p = none -> H' p = some (.lst ((trailW ways ws).map V.int)) -> Q (.ref p) H') /\ (isW L ws = false -> ∀ H', Same H H' -> E (.ref BW) none H')
theorem ok_trail {f : Addr} {fd : FuncData} (F : Fun K "trail" "trail" s_trail f fd) (T : Txt mg)
    (Z : Exs K mg C_AskError C_BadHouse C_BadWord)
    {f_check_word : Addr} {fd_check_word : FuncData} (g_check_word : FnOk P w K mg base (CXe P w) 2 f_check_word fd_check_word ["letters", "word"] (sp_check55 K C_BadWord)) (F_check_word : Fun K "check_word" "check_word" s_check_word f_check_word fd_check_word) (b_check_word : Binds K fd_check_word ["letters", "word"] []) (m_check_word : mg "check_word" = some (.ref f_check_word))
    : FnOk P w K mg base (CXe P w) 3 f fd ["house", "word"] (sp_trail55 K C_BadWord) := by
  refine F.okE sc_trail (fun vs H Q E h => ?_) (fun cdv A outer s H vs Q E hr h => ?_)
  . obtain ⟨h, a, m, wv, L, marks, ways, ws, rfl, _⟩ := h; rfl
  . obtain ⟨h, a, m, wv, L, marks, ways, ws, rfl, h1, h3, wf, hw, hz, k, kE⟩ := h
    have hl := line1000
    refine ⟨_, (pss_cons (ps_expr (pe_call g_check_word (hr.mono (by decide)) rfl m_check_word F_check_word.kp b_check_word .nil (passE fun _ _ _ h => h) (pa_cons (pe_ixA (ixTD ix_tup) (pvD 0) pe_int) (pa_cons (pvD 1) pa_nil))))
      (PSs.nox (pss_cons (ps_setL (i := 2) sc_trail.nd (pe_ixA (ixTD ix_tup) (pvD 0) pe_int))
      (pss_cons (ps_setL (i := 3) sc_trail.nd (pe_lst (pa_cons pe_int pa_nil)))
      (pss_cons (ps_for PassesOwn.never rfl (pi_tup (pvD 1)) (pg_name (i := 4) sc_trail.nd rfl (Or.inl rfl))
      (pss_one (ps_expr (pe_bm PySem.F.plainAttrs_list PySem.F.slot_list_append PySem.F.type_list_append mt_append (pvD 3) (pa_cons (pe_ixA (ixTD ix_tup) (pe_ixA (ixTD ix_tup) (pvD 2) (pe_ixA (ixLD ix_list) (pvD 3) (pe_un un_neg pe_int))) (pvD 4)) pa_nil)))))
      (pss_one (ps_ret (pvD 3)))))))), ?_⟩
    walk_at "rd"
    refine ⟨_, h1, _, rfl, L, a, ws, rfl, hw, by omega, fun hv H1 s1 => ?_, kE⟩
    walk_at "rd"
    have hw1 := s1.seqT hw
    have h3' := h3.mono s1
    refine ⟨_, s1.seqT h1, _, rfl, by omega, fun p hp => ?_⟩
    have s2 := Same.new hp (o := .lst [V.int 0])
    refine ⟨⟨_, s2.seqT hw1⟩, forT (xs := ws.map V.int) (fun i σ2 H2 => Same H1 H2 /\ H2 p = some (.lst (((List.range (i + 1)).map fun j => walkW ways (ws.take j)).map V.int)) /\ ∃ o, σ2 = [some (.ref h), some (.ref a), some (.ref wv), some (.ref p), o]) ⟨s2, by rw [upd_same]; simp [walkW], none, rfl⟩ (fun i σ2 H2 _ h => h.1.seqT hw1) (fun i x σ2 H2 hx h => ?_) (fun σ2 H2 h => ?_)⟩
    . obtain ⟨s3, hp3, o, rfl⟩ := h
      obtain ⟨n, hn, rfl⟩ := get_mapI hx
      have hi := (List.getElem?_eq_some_iff.mp hn).1
      have hx := isW_iff.mp hv n (List.mem_of_getElem? hn)
      have hwk := wf.walk hv i
      obtain ⟨row, g, r1, r2, r3, r4, r5⟩ := wf.step hwk.1 hwk.2 hx.1 hx.2
      obtain ⟨xs, t, q1, q2, q3⟩ := (h3'.mono s3).atZ hwk.1 r1
      walk_at "rd"
      refine ⟨.inl ⟨rfl, _, SqL.of hp3⟩, _, SqL.of hp3, _, atI_end (v := V.int (walkW ways (ws.take i))) (by simp), ?_⟩
      walk_at "rd"
      refine ⟨_, q1, _, q2, ?_⟩
      walk_at "rd"
      refine ⟨_, q3, _, atI_int hx.1 r2, _, hp3, by simp; omega, s3.over hp, ?_, _, rfl⟩
      rw [upd_same, show List.range (i + 1 + 1) = List.range (i + 1) ++ [i + 1] from List.range_succ, List.map_append, List.map_append, <- r3, <- walkW_take hn]
      rfl
    . obtain ⟨s3, hp3, o, rfl⟩ := h
      walk_at "rd"
      rw [List.length_map] at hp3
      exact k hv p H2 (s1.trans s3) (s1.free hp) hp3
def sp_room55 (K : PySem.W.Frag) (BW : Addr) : Sp := fun vs H Q E => ∃ (h a m wv : Addr) (L : Int) (marks : List Int) (ways : List (List Int)) (ws : List Int), vs = [.ref h, .ref a] /\ SqT K H h [.int L, .ref m, .ref wv] /\ Rows K H wv ways /\ Wf L marks ways /\ SqT K H a (ws.map V.int) /\ ws.length <= 1700 /\ (isW L ws = true -> ∀ H', Same H H' -> Q (.int (walkW ways ws)) H') /\ (isW L ws = false -> ∀ H', Same H H' -> E (.ref BW) none H')
theorem ok_room_behind {f : Addr} {fd : FuncData} (F : Fun K "room_behind" "room_behind" s_room_behind f fd) (T : Txt mg)
    (Z : Exs K mg C_AskError C_BadHouse C_BadWord)
    {f_trail : Addr} {fd_trail : FuncData} (g_trail : FnOk P w K mg base (CXe P w) 3 f_trail fd_trail ["house", "word"] (sp_trail55 K C_BadWord)) (F_trail : Fun K "trail" "trail" s_trail f_trail fd_trail) (b_trail : Binds K fd_trail ["house", "word"] []) (m_trail : mg "trail" = some (.ref f_trail))
    : FnOk P w K mg base (CXe P w) 4 f fd ["house", "word"] (sp_room55 K C_BadWord) := by
  refine F.okE sc_room_behind (fun vs H Q E h => ?_) (fun cdv A outer s H vs Q E hr h => ?_)
  . obtain ⟨h, a, m, wv, L, marks, ways, ws, rfl, _⟩ := h; rfl
  . obtain ⟨h, a, m, wv, L, marks, ways, ws, rfl, hh, hr0, wf, hw, hz, k, kE⟩ := h
    have hl := line1000
    refine ⟨_, (pss_one (ps_ret (pe_ixA (ixLD ix_list) (pe_call g_trail (hr.mono (by decide)) rfl m_trail F_trail.kp b_trail .nil (passE fun _ _ _ h => h) (pa_cons (pvD 0) (pa_cons (pvD 1) pa_nil))) (pe_un un_neg pe_int)))), ?_⟩
    walk_at "rd"
    refine ⟨h, a, m, wv, L, marks, ways, ws, rfl, hh, hr0, wf, hw, hz, fun hv p H1 s1 _ hp => ?_, kE⟩
    walk_at "rd"
    refine ⟨_, SqL.of hp, _, atI_end (v := V.int (walkW ways ws)) ?_, k hv H1 s1⟩
    rw [List.getElem?_map, List.length_map, trailW_length, show ws.length + 1 - 1 = ws.length by omega, trailW_last]; rfl
def pairEnts (w1 w2 : List (List Int)) (L : Int) (n m : Nat) (a b : Int) : List ((Int × Int) × List Int) := bfsF (stepP w1 w2) L.toNat (n * m + 1) [((a, b), [])] 0
def sp_steps55 (K : PySem.W.Frag) : Sp := fun vs H Q _ => ∃ (h h2 st : Addr) (L : Int) (marks marks2 : List Int) (says says2 ways ways2 : List (List Int)) (a b : Int), vs = [.ref h, .ref h2, .ref st] /\ SaysH K H h L says ways /\ Wf L marks ways /\ SaysH K H h2 L says2 ways2 /\ Wf L marks2 ways2 /\ H st = some (.tup [.int a, .int b]) /\ okP marks.length marks2.length (a, b) /\
  ∀ d top kvs H', Same H H' -> H d = none -> H' d = some (.dT kvs) -> StepsT H' (pairEnts ways ways2 L marks.length marks2.length a b) kvs -> B L (stepP ways ways2) (a, b) (okP marks.length marks2.length) (pairEnts ways ways2 L marks.length marks2.length a b) (pairEnts ways ways2 L marks.length marks2.length a b).length top -> Q (.ref d) H'
theorem ok_steps_from {f : Addr} {fd : FuncData} (F : Fun K "steps_from" "steps_from" s_steps_from f fd) (T : Txt mg)
    (Z : Exs K mg C_AskError C_BadHouse C_BadWord)
    : FnOk P w K mg base CX0 1 f fd ["house", "other", "start"] (sp_steps55 K) := by
  refine F.ok sc_steps_from (fun vs H Q E h => ?_) (fun cdv A outer s H vs Q E hr h => ?_)
  . obtain ⟨h, h2, st, L, marks, marks2, says, says2, ways, ways2, a, b, rfl, _⟩ := h; rfl
  . obtain ⟨h, h2, st, L, marks, marks2, says, says2, ways, ways2, a, b, rfl, hh, wf, hh2, wf2, hst, hok, k⟩ := h
    have hl := line1000
    have hL1 := wf.l1
    have hL6 := wf.l6
    have hn40 := wf.n40
    have hm40 := wf2.n40
    refine ⟨_, (@pss_cons _ _ _ _ _ (@ps_setDT _ 3 _ _ _ _ _ _ _ _ (hu_of hr) sc_steps_from.nd rfl (Or.inl rfl) (pvD 2) pe_non rfl (Or.inl rfl))
      (pss_cons (ps_setL (i := 4) sc_steps_from.nd (pe_lst (pa_cons (pvD 2) pa_nil)))
      (pss_cons (ps_setL (i := 5) sc_steps_from.nd pe_int)
      (pss_cons (ps_while PassesOwn.never (ptT (pt_cmpR (opD0 op_lt) (pvD 5) (pe_callB (lenD call_len_seq) (by rfl) T.len PySem.boot_len (pa_cons (pvD 4) pa_nil)) (nomark _)))
      (pss_cons (ps_setL (i := 6) sc_steps_from.nd (pe_ixA (ixLD ix_list) (pvD 4) (pvD 5)))
      (pss_cons (ps_for PassesOwn.never rfl (pi_range1 rfl T.range (pa_cons (pe_ixA (ixTD ix_tup) (pvD 0) pe_int) pa_nil)) (pg_name (i := 7) sc_steps_from.nd rfl (Or.inl rfl))
      (pss_cons (ps_setL (i := 8) sc_steps_from.nd (pe_tup (pa_cons (pe_ixA (ixTD ix_tup) (pe_ixA (ixTD ix_tup) (pe_ixA (ixTD ix_tup) (pvD 0) pe_int) (pe_ixA (ixTD ix_tup) (pvD 6) pe_int)) (pvD 7)) (pa_cons (pe_ixA (ixTD ix_tup) (pe_ixA (ixTD ix_tup) (pe_ixA (ixTD ix_tup) (pvD 1) pe_int) (pe_ixA (ixTD ix_tup) (pvD 6) pe_int)) (pvD 7)) pa_nil))))
      (pss_one (ps_if (pt_cmp (pc_dnotin (hu_of hr) (pvD 8) (pvD 3)))
      (pss_cons (ps_dput (hu_of hr) (pvD 3) (pvD 8) (pe_tup (pa_cons (pvD 6) (pa_cons (pvD 7) pa_nil))) rfl)
      (pss_one (ps_expr (pe_bm PySem.F.plainAttrs_list PySem.F.slot_list_append PySem.F.type_list_append mt_append (pvD 4) (pa_cons (pvD 8) pa_nil)))))
      pss_nil))))
      (pss_one (ps_aug (i := 5) sc_steps_from.nd rfl (Or.inl rfl) pe_int ip_add)))))
      (pss_one (ps_ret (pvD 3))))))), ?_⟩
    walk_at "rd"
    intro p hp
    have hpst : st ≠ p := fun z => by rw [z, hp] at hst; cases hst
    refine ⟨upd_same, keyP (a, b), (Same.new hp) _ _ hst, by omega, fun p2 hp2 => ?_⟩
    have hne2 : p2 ≠ p := (none_of_upd hp2).2
    have hp2n : H p2 = none := (none_of_upd (none_of_upd hp2).1).1
    have s0 : Same H (upd (upd (upd H p (.dT [])) p (.dT [(keyP (a, b), V.non)])) p2 (.lst [V.ref st])) := ((Same.new hp).over hp).newT hp2
    have en0 : upd (upd (upd H p (.dT [])) p (.dT [(keyP (a, b), V.non)])) p2 (.lst [V.ref st]) p = some (.dT [(keyP (a, b), V.non)]) := Same.new hp2 _ _ upd_same
    have hr0 : upd (upd (upd H p (.dT [])) p (.dT [(keyP (a, b), V.non)])) p2 (.lst [V.ref st]) p2 = some (.lst [V.ref st]) := upd_same
    have st0 : StepsT (upd (upd (upd H p (.dT [])) p (.dT [(keyP (a, b), V.non)])) p2 (.lst [V.ref st])) [((a, b), [])] [(keyP (a, b), V.non)] := ⟨rfl, fun i e he => by
      cases i with
      | zero => simp at he; subst he; exact ⟨_, rfl, .inl ⟨rfl, rfl⟩⟩
      | succ i => simp at he⟩
    have fo0 : FoundT (upd (upd (upd H p (.dT [])) p (.dT [(keyP (a, b), V.non)])) p2 (.lst [V.ref st])) (([((a, b), [])] : List ((Int × Int) × List Int)).map (·.1)) [V.ref st] := ⟨rfl, fun i q hq => by
      cases i with
      | zero => simp at hq; subst hq; exact ⟨st, rfl, s0 _ _ hst⟩
      | succ i => simp at hq⟩
    generalize upd (upd (upd H p (.dT [])) p (.dT [(keyP (a, b), V.non)])) p2 (.lst [V.ref st]) = H0 at s0 en0 hr0 st0 fo0 ⊢
    clear hp2
    obtain ⟨Pv, hPv⟩ : ∃ Pv : Nat -> St -> Hp -> Prop, ∀ m σ2 H2, Pv m σ2 H2 ↔ (∃ (ents : List ((Int × Int) × List Int)) (kvs : List (List Key × V)) (rs : List V) (i : Nat) (top : Int) (o6 o7 o8 : Option V), m = marks.length * marks2.length + 1 - i /\ Same H H2 /\ H2 p = some (.dT kvs) /\ H2 p2 = some (.lst rs) /\ StepsT H2 ents kvs /\ FoundT H2 (ents.map (·.1)) rs /\ B L (stepP ways ways2) (a, b) (okP marks.length marks2.length) ents i top /\ (∀ e, ents[i]? = some e -> top <= place L e.2 * L + 1) /\ bfsF (stepP ways ways2) L.toNat (marks.length * marks2.length + 1 - i) ents i = pairEnts ways ways2 L marks.length marks2.length a b /\ σ2 = [some (.ref h), some (.ref h2), some (.ref st), some (.ref p), some (.ref p2), some (.int i), o6, o7, o8]) := ⟨_, fun _ _ _ => Iff.rfl⟩
    refine whileW Pv ⟨_, (hPv _ _ _).mpr ⟨_, _, _, 0, 1, none, none, none, rfl, s0, en0, hr0, st0, fo0, B.start L _ hok, fun e he => ?_, rfl, rfl⟩⟩ ?_
    . simp at he; subst he; simp [place, placeR]
    intro m σ2 H2 hpv
    obtain ⟨ents, kvs, rs, i, top, o6, o7, o8, rfl, s2, en2, hr2, st2, fo2, bf, htop, hbfs, rfl⟩ := (hPv _ _ _).mp hpv
    have hbl := bf.lenP
    have hnm : marks.length * marks2.length <= 1600 := Nat.mul_le_mul hn40 hm40
    walk_at "rd"
    refine ⟨_, .inl (SqL.of hr2), ?_⟩
    have hrl : rs.length = ents.length := by rw [fo2.1, List.length_map]
    rw [hrl]
    refine ite2 (fun hlt => ?_) (fun hge => ?_)
    . have hi : i < ents.length := by omega
      obtain ⟨e, he⟩ : ∃ e, ents[i]? = some e := ⟨ents[i], by simp [hi]⟩
      obtain ⟨⟨ra, rb⟩, w⟩ := e
      have hmem := List.mem_of_getElem? he
      have hr' : okP marks.length marks2.length (ra, rb) := bf.rng _ hmem
      obtain ⟨⟨ra0, ra1⟩, rb0, rb1⟩ := id hr'
      have htop' : top <= place L w * L + 1 := htop _ he
      obtain ⟨row, hrow, hrm, hrowl⟩ := wf.row ra0 ra1
      obtain ⟨row2, hrow2, hrm2, hrowl2⟩ := wf2.row rb0 rb1
      obtain ⟨mm, wv, q1, q2, q3⟩ := id hh
      obtain ⟨mm', wv', q1', q2', q3'⟩ := id hh2
      obtain ⟨xs, t, z1, z2, z3⟩ := q3.atZ ra0 hrow
      obtain ⟨xs', t', z1', z2', z3'⟩ := q3'.atZ rb0 hrow2
      obtain ⟨bp, hbp1, hbp2⟩ := fo2.2 i (ra, rb) (by rw [List.getElem?_map, he]; rfl)
      refine ⟨Pv (marks.length * marks2.length + 1 - (i + 1)), fun σ' H' h => ⟨_, by omega, h⟩, ?_⟩
      refine ⟨_, SqL.of hr2, _, atI_of (v := V.ref bp) (by omega) (by rw [Int.toNat_natCast]; exact hbp1), ?_⟩
      walk_at "rd"
      refine ⟨_, s2.seqT q1, _, rfl, ?_⟩
      walk_at "rd"
      refine ⟨by omega, by omega, ?_⟩
      obtain ⟨Pn, hPn⟩ : ∃ Pn : Nat -> St -> Hp -> Prop, ∀ x σ3 H3, Pn x σ3 H3 ↔ (∃ (ents' : List ((Int × Int) × List Int)) (kvs' : List (List Key × V)) (rs' : List V) (o7 o8 : Option V), Same H H3 /\ H3 p = some (.dT kvs') /\ H3 p2 = some (.lst rs') /\ StepsT H3 ents' kvs' /\ FoundT H3 (ents'.map (·.1)) rs' /\ H3 bp = some (.tup [.int ra, .int rb]) /\ B L (stepP ways ways2) (a, b) (okP marks.length marks2.length) ents' i (place L w * L + (x : Int) + 1) /\ SeenF L (stepP ways ways2) ents' (ra, rb) w x /\ ents'[i]? = some ((ra, rb), w) /\ addF (stepP ways ways2) (ra, rb) w (L.toNat - x) x ents' = addF (stepP ways ways2) (ra, rb) w L.toNat 0 ents /\ σ3 = [some (.ref h), some (.ref h2), some (.ref st), some (.ref p), some (.ref p2), some (.int i), some (.ref bp), o7, o8]) := ⟨_, fun _ _ _ => Iff.rfl⟩
      refine forR Pn ((hPn _ _ _).mpr ⟨ents, kvs, rs, o7, o8, s2, en2, hr2, st2, fo2, hbp2, bf.up (by push_cast; omega), (fun y h0 h1 => absurd h1 (by push_cast; omega)), he, rfl, rfl⟩) (fun x σ3 H3 hx h3 => ?_) (fun σ3 H3 h3 => ?_)
      . obtain ⟨ents', kvs', rs', o7, o8, s3, en3, hr3, st3, fo3, hb3, bf3, se3, he3, had, rfl⟩ := (hPn _ _ _).mp h3
        have ex : (0 : Int) + (x : Nat) = (x : Int) := by omega
        rw [ex]
        have hxL : (x : Int) < L := by omega
        obtain ⟨rw1, g1, c1, c2, c3, c4, c5⟩ := wf.step ra0 ra1 (show (0 : Int) <= (x : Int) by omega) hxL
        obtain ⟨rw2, g2, d1, d2, d3, d4, d5⟩ := wf2.step rb0 rb1 (show (0 : Int) <= (x : Int) by omega) hxL
        rw [hrow] at c1; cases c1
        rw [hrow2] at d1; cases d1
        have hgo : stepP ways ways2 (ra, rb) (x : Int) = (g1, g2) := by show (stepW ways ra x, stepW ways2 rb x) = _; rw [c3, d3]
        have hmem3 := List.mem_of_getElem? he3
        obtain ⟨bf4, se4⟩ := bf3.letter se3 hmem3 hxL (by rw [hgo]; exact ⟨⟨c4, c5⟩, d4, d5⟩)
        have he4 := put_keep (step := stepP ways ways2) (r := (ra, rb)) (w := w) (x := x) he3
        rw [show L.toNat - x = (L.toNat - (x + 1)) + 1 by omega, addF_succ] at had
        walk_at "rd"
        refine ⟨_, s3.seqT q1, _, rfl, ?_⟩
        walk_at "rd"
        refine ⟨_, SqT.of hb3, _, rfl, ?_⟩
        walk_at "rd"
        refine ⟨_, s3.seqT z1, _, z2, ?_⟩
        walk_at "rd"
        refine ⟨_, s3.seqT z3, _, atI_int (by omega) c2, _, s3.seqT q1', _, rfl, _, SqT.of hb3, _, rfl, _, rfl, _, _, rfl, s3.seqT z1', _, z2', _, rfl, _, s3.seqT z3', _, atI_int (by omega) d2, by omega, fun p3 hp3 => ?_⟩
        have sT := s3.newT hp3 (o := .tup [V.int g1, V.int g2])
        have kT : TK H3 (upd H3 p3 (.tup [V.int g1, V.int g2])) := TK.new hp3
        have enT := Same.new hp3 (o := .tup [V.int g1, V.int g2]) _ _ en3
        have hrT := Same.new hp3 (o := .tup [V.int g1, V.int g2]) _ _ hr3
        have hbT := Same.new hp3 (o := .tup [V.int g1, V.int g2]) _ _ hb3
        have stT := st3.mono kT
        have foT := fo3.mono kT
        have hp3T : upd H3 p3 (.tup [V.int g1, V.int g2]) p3 = some (.tup ((keyP (g1, g2)).map kV)) := upd_same
        generalize upd H3 p3 (.tup [V.int g1, V.int g2]) = HT' at sT kT enT hrT hbT stT foT hp3T ⊢
        refine ⟨_, DGet.t enT hp3T, ?_⟩
        by_cases hm : (g1, g2) ∈ ents'.map (·.1)
        . have hput : put (stepP ways ways2) (ra, rb) w ents' x = ents' := by unfold put; rw [hgo, if_pos hm]
          rw [hput] at bf4 se4 he4 had
          obtain ⟨e', he', e1⟩ := List.mem_map.mp hm
          obtain ⟨v, hv, _⟩ := stT.yes bf3.nod he'
          rw [e1] at hv
          rw [hv, if_neg (by simp)]
          exact (hPn _ _ _).mpr ⟨ents', kvs', rs', _, _, sT, enT, hrT, stT, foT, hbT, bf4, se4, he4, had, rfl⟩
        . have hput : put (stepP ways ways2) (ra, rb) w ents' x = ents' ++ [((g1, g2), w ++ [(x : Int)])] := by unfold put; rw [hgo, if_neg hm]
          rw [hput] at bf4 se4 he4 had
          rw [stT.no hm, if_pos (by simp)]
          refine ⟨by omega, fun p4 hp4 => ?_⟩
          have sU := sT.newT hp4 (o := .tup [V.ref bp, V.int x])
          have kU : TK HT' (upd HT' p4 (.tup [V.ref bp, V.int x])) := TK.new hp4
          have enU := Same.new hp4 (o := .tup [V.ref bp, V.int x]) _ _ enT
          have hrU := Same.new hp4 (o := .tup [V.ref bp, V.int x]) _ _ hrT
          have hbU := kU _ _ hbT
          have hp3U := kU _ _ hp3T
          have hp4U : upd HT' p4 (.tup [V.ref bp, V.int x]) p4 = some (.tup [V.ref bp, V.int x]) := upd_same
          have stU := (stT.mono kU).put hm hp4U (e' := ((ra, rb), w)) hbU hmem3
          have foU := foT.mono kU
          generalize upd HT' p4 (.tup [V.ref bp, V.int x]) = HU at sU kU enU hrU hbU hp3U hp4U stU foU ⊢
          have hlen3 := bf3.lenP
          walk_at "rd"
          refine ⟨_, DPut.t (k := keyP (g1, g2)) enU hp3U (by rw [st3.1]; omega), ?_⟩
          have kV' : TK HU (upd HU p (.dT (putK kvs' (keyP (g1, g2)) (V.ref p4)))) := TK.dT enU
          have hrV : upd HU p (.dT (putK kvs' (keyP (g1, g2)) (V.ref p4))) p2 = some (.lst rs') := by rw [upd_ne hne2]; exact hrU
          refine ⟨.inl ⟨rfl, _, SqL.of hrV⟩, _, hrV, by rw [fo3.1, List.length_map]; omega, (hPn _ _ _).mpr ⟨_, _, _, _, _, (sU.over hp).over hp2n, ?_, upd_same, (stU.mono kV').mono (TK.lst hrV), ?_, TK.lst hrV _ _ (kV' _ _ hbU), bf4, se4, he4, had, rfl⟩⟩
          . rw [upd_ne (Ne.symm hne2)]; exact upd_same
          . have := ((foU.mono kV').mono (TK.lst (o := .lst (rs' ++ [V.ref p3])) hrV)).snoc (p := (g1, g2)) (b := p3) (TK.lst hrV _ _ (kV' _ _ hp3U))
            simpa using this
      . obtain ⟨ents', kvs', rs', o7, o8, s3, en3, hr3, st3, fo3, hb3, bf3, se3, he3, had, rfl⟩ := (hPn _ _ _).mp h3
        rw [Nat.sub_self, addF_zero] at had
        walk_at "rd"
        obtain ⟨bf4, htop4⟩ := bf3.next (by omega) (by omega) se3 he3
        refine (hPv _ _ _).mpr ⟨ents', kvs', rs', i + 1, _, _, _, _, rfl, s3, en3, hr3, st3, fo3, bf4, htop4, ?_, by push_cast; rfl⟩
        rw [show marks.length * marks2.length + 1 - i = (marks.length * marks2.length + 1 - (i + 1)) + 1 by omega, bfsF_step he] at hbfs
        rw [had]
        exact hbfs
    . have hi : i = ents.length := by have := bf.il; omega
      subst hi
      rw [bfsF_stop (by simp)] at hbfs
      rw [<- hbfs] at k
      exact k p top kvs H2 s2 hp en2 st2 bf
def sp_wordto (K : PySem.W.Frag) : Sp := fun vs H Q _ => ∃ (d b : Addr) (ents : List ((Int × Int) × List Int)) (kvs : List (List Key × V)) (e : (Int × Int) × List Int), vs = [.ref d, .ref b] /\ Rd H d (.dT kvs) /\ StepsT H ents kvs /\ (ents.map (·.1)).Nodup /\ e ∈ ents /\ H b = some (.tup [.int e.1.1, .int e.1.2]) /\ e.2.length <= 2000 /\ ∀ t H', Same H H' -> H' t = some (.tup (e.2.map V.int)) -> Q (.ref t) H'
theorem ok_word_to {f : Addr} {fd : FuncData} (F : Fun K "word_to" "word_to" s_word_to f fd) (T : Txt mg)
    (Z : Exs K mg C_AskError C_BadHouse C_BadWord)
    : FnOk P w K mg base CX0 1 f fd ["steps", "pair"] (sp_wordto K) := by
  refine F.ok sc_word_to (fun vs H Q E h => ?_) (fun cdv A outer s H vs Q E hr h => ?_)
  . obtain ⟨d, b, ents, kvs, e, rfl, _⟩ := h; rfl
  . obtain ⟨d, b, ents, kvs, e, rfl, hd, hst, nod, he, hb, hlen, k⟩ := h
    have hl := line1000
    refine ⟨_, (pss_cons (ps_setL (i := 2) sc_word_to.nd (pe_lst pa_nil))
      (pss_cons (ps_setL (i := 3) sc_word_to.nd (pe_dget (hu_of hr) (pvD 0) (pvD 1) (fun _ _ => rfl)))
      (pss_cons (ps_while PassesOwn.never (ptT (pt_cmpR op_notN (pvD 3) pe_non (nomark _)))
      (pss_cons (ps_expr (pe_bm PySem.F.plainAttrs_list PySem.F.slot_list_append PySem.F.type_list_append mt_append (pvD 2) (pa_cons (pe_ixA (ixTD ix_tup) (pvD 3) pe_int) pa_nil)))
      (pss_one (ps_setL (i := 3) sc_word_to.nd (pe_dget (hu_of hr) (pvD 0) (pe_ixA (ixTD ix_tup) (pvD 3) pe_int) (fun _ _ => rfl))))))
      (pss_one (ps_ret (pe_tupleRev rfl rfl T.tuple rfl T.reversed (pvD 2))))))), ?_⟩
    walk_at "rd"
    have rdm : ∀ {H2 : Hp}, Same H H2 -> Rd H2 d (.dT kvs) := fun {H2} s => by
      rcases hd with hd | ⟨o, hd⟩
      . exact .inl (s _ _ hd)
      . exact .inr ⟨o, s _ _ hd⟩
    have get : ∀ {H2 : Hp} {e' : (Int × Int) × List Int} {b' : Addr} {v : V}, Same H H2 -> H2 b' = some (.tup [.int e'.1.1, .int e'.1.2]) -> valV kvs (keyP e'.1) = some v -> DGet H2 d (.ref b') (some v) := fun {H2 e' b' v} s hb hv => .inr ⟨kvs, keyP e'.1, b', rdm s, rfl, hb, hv.symm⟩
    refine ⟨by omega, fun p hp => ?_⟩
    obtain ⟨v0, hv0, hi0⟩ := hst.yes nod he
    refine ⟨v0, get (Same.new hp) (Same.new hp _ _ hb) hv0, ?_⟩
    obtain ⟨Pv, hPv⟩ : ∃ Pv : Nat -> St -> Hp -> Prop, ∀ m σ2 H2, Pv m σ2 H2 ↔ (∃ (ec : (Int × Int) × List Int) (suf : List Int) (v : V), m = ec.2.length /\ ec ∈ ents /\ e.2 = ec.2 ++ suf /\ valV kvs (keyP ec.1) = some v /\ Same H H2 /\ H2 p = some (.lst (suf.reverse.map V.int)) /\ σ2 = [some (.ref d), some (.ref b), some (.ref p), some v]) := ⟨_, fun _ _ _ => Iff.rfl⟩
    refine whileW Pv ⟨_, (hPv _ _ _).mpr ⟨e, [], v0, rfl, he, by simp, hv0, Same.new hp, by rw [upd_same]; rfl, rfl⟩⟩ ?_
    intro m σ2 H2 hpv
    obtain ⟨ec, suf, v, rfl, hec, hsuf, hv, s2, hp2, rfl⟩ := (hPv _ _ _).mp hpv
    obtain ⟨v', hv', hi⟩ := hst.yes nod hec
    rw [hv] at hv'
    cases hv'
    rcases hi with ⟨rfl, hnil⟩ | ⟨t, q, x, e', rfl, ht, hq, he', hsn⟩
    . walk_at "rd"
      refine ⟨_, SqL.of hp2, fun r hr => ?_⟩
      rw [<- List.map_reverse, List.reverse_reverse]
      rw [hnil, List.nil_append] at hsuf
      exact k r _ (s2.newT hr) (by rw [upd_same, hsuf])
    . obtain ⟨v2, hv2, _⟩ := hst.yes nod he'
      have hlsuf : suf.length <= 2000 := by rw [hsuf, List.length_append] at hlen; omega
      walk_at "rd"
      refine ⟨Pv e'.2.length, fun σ' H' h => ⟨_, by rw [hsn, List.length_append, List.length_singleton]; omega, h⟩, ?_⟩
      have s3 : Same H (upd H2 p (.lst (suf.reverse.map V.int ++ [V.int x]))) := s2.over hp
      refine ⟨.inl ⟨rfl, _, SqL.of hp2⟩, _, SqT.of (s2 _ _ ht), _, rfl, _, hp2, by simp; omega, _, SqT.of (s3 _ _ ht), _, rfl, v2, get s3 (s3 _ _ hq) hv2, (hPv _ _ _).mpr ⟨e', x :: suf, v2, rfl, he', by rw [hsuf, hsn]; simp, hv2, s3, by rw [upd_same]; simp, rfl⟩⟩
def rwS (says : List (List Int)) (r : Int) : List Int := says.getD r.toNat []
theorem rwS_at {says : List (List Int)} {r : Int} (r0 : 0 <= r) (r1 : r < says.length) : says[r.toNat]? = some (rwS says r) := by
  have hr : r.toNat < says.length := by omega
  unfold rwS; rw [List.getD_eq_getElem?_getD, List.getElem?_eq_getElem hr]; rfl
def tells (w1 w2 : List (List Int)) (m1 m2 : List (List Int)) (a b : Int) (ws : List Int) : Prop := rwS m1 (walkR w1 a ws) ≠ rwS m2 (walkR w2 b ws)
def sp_lwa55 (K : PySem.W.Frag) : Sp := fun vs H Q _ => ∃ (h h2 st : Addr) (L : Int) (says says2 ways ways2 : List (List Int)) (a b : Int), vs = [.ref h, .ref h2, .ref st] /\ SaysH K H h L says ways /\ WfS L says ways /\ SaysH K H h2 L says2 ways2 /\ WfS L says2 ways2 /\ H st = some (.tup [.int a, .int b]) /\ okP says.length says2.length (a, b) /\
  (∀ H', Same H H' -> (∀ ws, isW L ws = true -> ¬ tells ways ways2 says says2 a b ws) -> Q .non H') /\
  ∀ t w H', Same H H' -> H' t = some (.tup (w.map V.int)) -> isW L w = true -> w.length <= 1700 -> tells ways ways2 says says2 a b w -> (∀ ws, isW L ws = true -> tells ways ways2 says says2 a b ws -> place L w <= place L ws) -> Q (.ref t) H'
theorem ok_least_word_apart {f : Addr} {fd : FuncData} (F : Fun K "least_word_apart" "least_word_apart" s_least_word_apart f fd) (T : Txt mg)
    (Z : Exs K mg C_AskError C_BadHouse C_BadWord)
    {f_steps_from : Addr} {fd_steps_from : FuncData} (g_steps_from : FnOk P w K mg base CX0 1 f_steps_from fd_steps_from ["house", "other", "start"] (sp_steps55 K)) (F_steps_from : Fun K "steps_from" "steps_from" s_steps_from f_steps_from fd_steps_from) (b_steps_from : Binds K fd_steps_from ["house", "other", "start"] []) (m_steps_from : mg "steps_from" = some (.ref f_steps_from))
    {f_word_to : Addr} {fd_word_to : FuncData} (g_word_to : FnOk P w K mg base CX0 1 f_word_to fd_word_to ["steps", "pair"] (sp_wordto K)) (F_word_to : Fun K "word_to" "word_to" s_word_to f_word_to fd_word_to) (b_word_to : Binds K fd_word_to ["steps", "pair"] []) (m_word_to : mg "word_to" = some (.ref f_word_to))
    : FnOk P w K mg base CX0 2 f fd ["house", "other", "start"] (sp_lwa55 K) := by
  refine F.ok sc_least_word_apart (fun vs H Q E h => ?_) (fun cdv A outer s H vs Q E hr h => ?_)
  . obtain ⟨h, h2, st, L, says, says2, ways, ways2, a, b, rfl, _⟩ := h; rfl
  . obtain ⟨h, h2, st, L, says, says2, ways, ways2, a, b, rfl, hh, wf, hh2, wf2, hst, hok, kN, kS⟩ := h
    have hl := line1000
    have hwf := wf
    have hwf2 := wf2
    obtain ⟨marks, hml, wf⟩ : ∃ marks : List Int, says.length = marks.length /\ Wf L marks ways := ⟨_, by rw [List.length_replicate], hwf.wf⟩
    obtain ⟨marks2, hml2, wf2⟩ : ∃ marks2 : List Int, says2.length = marks2.length /\ Wf L marks2 ways2 := ⟨_, by rw [List.length_replicate], hwf2.wf⟩
    have hn40 := wf.n40
    have hm40 := wf2.n40
    refine ⟨_, (pss_cons (ps_setL (i := 3) sc_least_word_apart.nd (pe_call g_steps_from (hr.mono (by decide)) rfl m_steps_from F_steps_from.kp b_steps_from .nil pass0 (pa_cons (pvD 0) (pa_cons (pvD 1) (pa_cons (pvD 2) pa_nil)))))
      (pss_cons (ps_for PassesOwn.never rfl (pi_dictT (pvD 3)) (pg_name (i := 4) sc_least_word_apart.nd rfl (Or.inl rfl))
      (pss_one (ps_if (ptT (pt_cmpR (op_neD 8 (hu9 hr)) (pe_ixA (ixTD ix_tup) (pe_ixA (ixTD ix_tup) (pvD 0) pe_int) (pe_ixA (ixTD ix_tup) (pvD 4) pe_int)) (pe_ixA (ixTD ix_tup) (pe_ixA (ixTD ix_tup) (pvD 1) pe_int) (pe_ixA (ixTD ix_tup) (pvD 4) pe_int)) (nomark _)))
      (pss_one (ps_ret (pe_call g_word_to (hr.mono (by decide)) rfl m_word_to F_word_to.kp b_word_to .nil pass0 (pa_cons (pvD 3) (pa_cons (pvD 4) pa_nil)))))
      pss_nil)))
      (pss_one (ps_ret pe_non)))), ?_⟩
    walk_at "rd"
    refine ⟨h, h2, st, L, marks, marks2, says, says2, ways, ways2, a, b, rfl, hh, wf, hh2, wf2, hst, by rw [<- hml, <- hml2]; exact hok, fun d top kvs H1 s1 hdn hd stp bf => ?_⟩
    generalize pairEnts ways ways2 L marks.length marks2.length a b = ents at stp bf
    walk_at "rd"
    refine ⟨kvs, hd, fun o => ?_⟩
    have sF : Same H (upd H1 d (.frz o (.dT kvs))) := s1.over hdn
    have stF := stp.mono (TK.dT (o := .frz o (.dT kvs)) hd)
    have dF : upd H1 d (.frz o (.dT kvs)) d = some (.frz o (.dT kvs)) := upd_same
    generalize upd H1 d (.frz o (.dT kvs)) = HF at sF stF dF ⊢
    have hmk : ∀ e ∈ ents, walkR ways a e.2 = e.1.1 /\ walkR ways2 b e.2 = e.1.2 := fun e he => by
      have := (bf.wd e he).2
      rw [walkP] at this
      exact ⟨congrArg Prod.fst this, congrArg Prod.snd this⟩
    refine forD (fun i σ2 H2 => H2 = HF /\ (∀ j, j < i -> ∀ e, ents[j]? = some e -> rwS says e.1.1 = rwS says2 e.1.2) /\ ∃ o4, σ2 = [some (.ref h), some (.ref h2), some (.ref st), some (.ref d), o4]) ⟨rfl, fun j hj => absurd hj (Nat.not_lt_zero _), none, rfl⟩ (fun i σ2 H2 _ h => by rw [h.1]; exact dF) (fun i kk v bp σ2 H2 hkv h hbp => ?_) (fun σ2 H2 h => ?_)
    . obtain ⟨rfl, hsame, o4, rfl⟩ := h
      have hi : i < ents.length := by rw [<- stF.1]; exact (List.getElem?_eq_some_iff.mp hkv).1
      have hei : ents[i]? = some ents[i] := by simp [hi]
      have hem := List.mem_of_getElem? hei
      obtain ⟨v', hv', _⟩ := stF.2 i _ hei
      rw [hkv] at hv'
      cases hv'
      have hbp' : H2 bp = some (.tup [.int ents[i].1.1, .int ents[i].1.2]) := hbp
      obtain ⟨⟨a0, a1⟩, b0, b1⟩ := bf.rng _ hem
      obtain ⟨mm, wv, q1, q2, q3⟩ := hh.mono sF
      obtain ⟨mm', wv', q1', q2', q3'⟩ := hh2.mono sF
      walk_at "rd"
      refine ⟨_, q1, _, rfl, ?_⟩
      walk_at "rd"
      refine ⟨_, SqT.of hbp', _, rfl, ?_⟩
      walk_at "rd"
      have a1' : ents[i].1.1 < says.length := by rw [hml]; exact a1
      have b1' : ents[i].1.2 < says2.length := by rw [hml2]; exact b1
      obtain ⟨xs, t, z1, z2, z3⟩ := q2.atZ a0 (rwS_at a0 a1')
      obtain ⟨xs', t', z1', z2', z3'⟩ := q2'.atZ b0 (rwS_at b0 b1')
      refine ⟨_, z1, _, z2, _, q1', _, rfl, _, SqT.of hbp', _, rfl, _, rfl, _, _, rfl, z1', _, z2', _, rfl, _, rfl, _, EqD.ints (.inr ⟨z3, z3'⟩) 7, ?_⟩
      by_cases hne : rwS says ents[i].1.1 = rwS says2 ents[i].1.2
      . rw [if_neg (by rw [decide_eq_true hne]; decide)]
        refine ⟨fun j hj e he => ?_, _, rfl⟩
        by_cases hji : j < i
        . exact hsame j hji e he
        . have : j = i := by omega
          subst this
          rw [hei] at he
          cases he
          exact hne
      . rw [if_pos (by rw [decide_eq_false hne]; decide)]
        have hbl := bf.lenP
        have hnm : marks.length * marks2.length <= 1600 := Nat.mul_le_mul hn40 hm40
        have hsh := bf.sh i _ hei
        refine ⟨d, bp, ents, kvs, ents[i], rfl, .inr ⟨o, dF⟩, stF, bf.nod, hem, hbp', by omega, fun t H3 s3 ht => ?_⟩
        refine kS t _ H3 (sF.trans s3) ht (bf.wd _ hem).1 (by omega) ?_ fun ws hw htl => ?_
        . show rwS says (walkR ways a ents[i].2) ≠ rwS says2 (walkR ways2 b ents[i].2)
          rw [(hmk _ hem).1, (hmk _ hem).2]
          exact hne
        . obtain ⟨w', hm, hple⟩ := bf.leastW hw
          obtain ⟨j, hj, ej⟩ := List.getElem_of_mem hm
          have hej : ents[j]? = some (walkF (stepP ways ways2) (a, b) ws, w') := by rw [List.getElem?_eq_getElem hj, ej]
          have hij : i <= j := Nat.le_of_not_lt fun hlt => by
            have := hsame j hlt _ hej
            rw [walkP] at this
            exact htl this
          by_cases he : i = j
          . subst he
            rw [hei] at hej
            have := congrArg Prod.snd (Option.some.inj hej)
            rw [this]; exact hple
          . have := bf.inc i j _ _ (by omega) hei hej
            exact Int.le_trans (Int.le_of_lt this) hple
    . obtain ⟨rfl, hsame, o4, rfl⟩ := h
      walk_at "rd"
      refine kN _ sF fun ws hw ht => ?_
      obtain ⟨w', hm, _⟩ := bf.leastW hw
      obtain ⟨j, hj, ej⟩ := List.getElem_of_mem hm
      have := hsame j (by rw [stF.1]; exact hj) _ (by rw [List.getElem?_eq_getElem hj, ej])
      rw [walkP] at this
      exact ht this
def sp_chk55 (K : PySem.W.Frag) (BH : Addr) : Sp := fun vs H Q E => ∃ (h h2 : Addr) (L L2 : Int) (says says2 ways ways2 : List (List Int)), vs = [.ref h, .ref h2] /\ SaysH K H h L says ways /\ SaysH K H h2 L2 says2 ways2 /\ (L = L2 -> Q .non H) /\ (L ≠ L2 -> E (.ref BH) none H)
theorem ok_check_as_many_letters {f : Addr} {fd : FuncData} (F : Fun K "check_as_many_letters" "check_as_many_letters" s_check_as_many_letters f fd) (T : Txt mg)
    (Z : Exs K mg C_AskError C_BadHouse C_BadWord)
    : FnOk P w K mg base (CXe P w) 1 f fd ["house", "other"] (sp_chk55 K C_BadHouse) := by
  refine F.okE sc_check_as_many_letters (fun vs H Q E h => ?_) (fun cdv A outer s H vs Q E hr h => ?_)
  . obtain ⟨h, h2, L, L2, says, says2, ways, ways2, rfl, _⟩ := h; rfl
  . obtain ⟨h, h2, L, L2, says, says2, ways, ways2, rfl, hh, hh2, k, kE⟩ := h
    have hl := line1000
    refine ⟨_, (pss_one (ps_if (ptT (pt_cmpR (opN op_ne) (pe_ixA (ixTD ix_tup) (pvD 0) pe_int) (pe_ixA (ixTD ix_tup) (pvD 1) pe_int) (nomark _)))
      (pss_one (ps_raise Z.m_BadHouse Z.x_BadHouse rfl rfl (pa_cons pe_str pa_nil)))
      pss_nil)), ?_⟩
    walk_at "rd"
    obtain ⟨m, wv, q1, q2, q3⟩ := hh
    obtain ⟨m', wv', q1', q2', q3'⟩ := hh2
    refine ⟨_, q1, _, rfl, ?_⟩
    walk_at "rd"
    refine ⟨_, q1', _, rfl, rfl, ?_⟩
    by_cases e : L = L2
    . rw [if_neg (by rw [decide_eq_true (congrArg V.int e)]; decide)]
      exact k e
    . rw [if_pos (by rw [decide_eq_false (fun z => e (V.int.inj z))]; decide)]
      exact ⟨by omega, kE e⟩
def sp_diff55 (K : PySem.W.Frag) (BH : Addr) : Sp := fun vs H Q E => ∃ (h h2 : Addr) (L M : Int) (says says2 ways ways2 : List (List Int)), vs = [.ref h, .ref h2] /\ SaysH K H h L says ways /\ WfS L says ways /\ SaysH K H h2 M says2 ways2 /\ WfS M says2 ways2 /\
  (L = M -> (∀ H', Same H H' -> (∀ ws, isW L ws = true -> ¬ tells ways ways2 says says2 0 0 ws) -> Q .non H') /\
    ∀ t w H', Same H H' -> H' t = some (.tup (w.map V.int)) -> isW L w = true -> w.length <= 1700 -> tells ways ways2 says says2 0 0 w -> (∀ ws, isW L ws = true -> tells ways ways2 says says2 0 0 ws -> place L w <= place L ws) -> Q (.ref t) H') /\ (L ≠ M -> ∀ H', Same H H' -> E (.ref BH) none H')
theorem ok_difference {f : Addr} {fd : FuncData} (F : Fun K "difference" "difference" s_difference f fd) (T : Txt mg)
    (Z : Exs K mg C_AskError C_BadHouse C_BadWord)
    {f_check_as_many_letters : Addr} {fd_check_as_many_letters : FuncData} (g_check_as_many_letters : FnOk P w K mg base (CXe P w) 1 f_check_as_many_letters fd_check_as_many_letters ["house", "other"] (sp_chk55 K C_BadHouse)) (F_check_as_many_letters : Fun K "check_as_many_letters" "check_as_many_letters" s_check_as_many_letters f_check_as_many_letters fd_check_as_many_letters) (b_check_as_many_letters : Binds K fd_check_as_many_letters ["house", "other"] []) (m_check_as_many_letters : mg "check_as_many_letters" = some (.ref f_check_as_many_letters))
    {f_least_word_apart : Addr} {fd_least_word_apart : FuncData} (g_least_word_apart : FnOk P w K mg base CX0 2 f_least_word_apart fd_least_word_apart ["house", "other", "start"] (sp_lwa55 K)) (F_least_word_apart : Fun K "least_word_apart" "least_word_apart" s_least_word_apart f_least_word_apart fd_least_word_apart) (b_least_word_apart : Binds K fd_least_word_apart ["house", "other", "start"] []) (m_least_word_apart : mg "least_word_apart" = some (.ref f_least_word_apart))
    : FnOk P w K mg base (CXe P w) 3 f fd ["house", "other"] (sp_diff55 K C_BadHouse) := by
  refine F.okE sc_difference (fun vs H Q E h => ?_) (fun cdv A outer s H vs Q E hr h => ?_)
  . obtain ⟨h, h2, L, M, says, says2, ways, ways2, rfl, _⟩ := h; rfl
  . obtain ⟨h, h2, L, M, says, says2, ways, ways2, rfl, hh, wf, hh2, wf2, k, kE⟩ := h
    have hl := line1000
    have hn1 := wf.wf.n1
    have hm1 := wf2.wf.n1
    rw [List.length_replicate] at hn1 hm1
    refine ⟨_, (pss_cons (ps_expr (pe_call g_check_as_many_letters (hr.mono (by decide)) rfl m_check_as_many_letters F_check_as_many_letters.kp b_check_as_many_letters .nil (passE fun _ _ _ h => h) (pa_cons (pvD 0) (pa_cons (pvD 1) pa_nil))))
      (PSs.nox (pss_one (ps_ret (pe_call g_least_word_apart (hr.mono (by decide)) rfl m_least_word_apart F_least_word_apart.kp b_least_word_apart .nil pass0 (pa_cons (pvD 0) (pa_cons (pvD 1) (pa_cons (pe_tup (pa_cons pe_int (pa_cons pe_int pa_nil))) pa_nil)))))))), ?_⟩
    walk_at "rd"
    refine ⟨h, h2, L, M, says, says2, ways, ways2, rfl, hh, hh2, fun e => ?_, fun e => kE e H (Same.refl _)⟩
    subst e
    obtain ⟨kN, kS⟩ := k rfl
    walk_at "rd"
    refine ⟨by omega, fun p hp => ?_⟩
    have sp := Same.new (o := .tup [V.int 0, V.int 0]) hp
    exact ⟨h, h2, p, L, says, says2, ways, ways2, 0, 0, rfl, hh.mono sp, wf, hh2.mono sp, wf2, upd_same, ⟨⟨by omega, by show (0 : Int) < _; omega⟩, by omega, by show (0 : Int) < _; omega⟩, fun H' s h => kN H' (sp.trans s) h, fun t w H' s => kS t w H' (sp.trans s)⟩
def fstU (r1 r2 : List Int) (L : Nat) : Option Nat := (List.range L).find? fun x => decide (r1.getD x 0 ≠ r2.getD x 0)
theorem fstU_some {r1 r2 : List Int} {L : Nat} (h1 : r1.length = L) (h2 : r2.length = L) (h : r1 ≠ r2) : ∃ x, fstU r1 r2 L = some x := by
  cases e : fstU r1 r2 L with
  | some x => exact ⟨x, rfl⟩
  | none =>
    exfalso
    apply h
    refine List.ext_getElem? fun i => ?_
    unfold fstU at e
    rw [List.find?_eq_none] at e
    by_cases hi : i < L
    . have := e i (List.mem_range.mpr hi)
      simp only [ne_eq, decide_not, Bool.not_eq_eq_eq_not, Bool.not_true, decide_eq_false_iff_not, Decidable.not_not] at this
      rw [List.getD_eq_getElem?_getD, List.getD_eq_getElem?_getD, List.getElem?_eq_getElem (by omega), List.getElem?_eq_getElem (by omega)] at this
      rw [List.getElem?_eq_getElem (by omega), List.getElem?_eq_getElem (by omega)]
      exact congrArg some this
    . rw [List.getElem?_eq_none (by omega), List.getElem?_eq_none (by omega)]
theorem fstU_head {r1 r2 : List Int} {L : Nat} {x : Nat} (h : fstU r1 r2 L = some x) : x < L /\ ((List.range L).filter fun x => decide (r1.getD x 0 ≠ r2.getD x 0))[0]? = some x := by
  unfold fstU at h
  refine ⟨List.mem_range.mp (List.mem_of_find?_eq_some h), ?_⟩
  rw [<- List.head?_eq_getElem?, List.head?_filter]
  exact h
def SDiff (L : Int) (w1 w2 s1 s2 : List (List Int)) (u : List Int) : Prop := ∃ (w : List Int) (x : Nat), u = w ++ [(x : Int)] /\ isW L w = true /\ w.length <= 1700 /\ tells w1 w2 s1 s2 0 0 w /\ (∀ ws, isW L ws = true -> tells w1 w2 s1 s2 0 0 ws -> place L w <= place L ws) /\ fstU (rwS s1 (walkR w1 0 w)) (rwS s2 (walkR w2 0 w)) L.toNat = some x
def sp_sd55 (K : PySem.W.Frag) (BH : Addr) : Sp := fun vs H Q E => ∃ (h h2 : Addr) (L M : Int) (says says2 ways ways2 : List (List Int)), vs = [.ref h, .ref h2] /\ SaysH K H h L says ways /\ WfS L says ways /\ SaysH K H h2 M says2 ways2 /\ WfS M says2 ways2 /\
  (L = M -> (∀ H', Same H H' -> (∀ ws, isW L ws = true -> ¬ tells ways ways2 says says2 0 0 ws) -> Q .non H') /\
    ∀ t u H', Same H H' -> SqT K H' t (u.map V.int) -> SDiff L ways ways2 says says2 u -> Q (.ref t) H') /\ (L ≠ M -> ∀ H', Same H H' -> E (.ref BH) none H')
theorem ok_says_difference {f : Addr} {fd : FuncData} (F : Fun K "says_difference" "says_difference" s_says_difference f fd) (T : Txt mg)
    (Z : Exs K mg C_AskError C_BadHouse C_BadWord)
    {f_room_behind : Addr} {fd_room_behind : FuncData} (g_room_behind : FnOk P w K mg base (CXe P w) 4 f_room_behind fd_room_behind ["house", "word"] (sp_room55 K C_BadWord)) (F_room_behind : Fun K "room_behind" "room_behind" s_room_behind f_room_behind fd_room_behind) (b_room_behind : Binds K fd_room_behind ["house", "word"] []) (m_room_behind : mg "room_behind" = some (.ref f_room_behind))
    {f_difference : Addr} {fd_difference : FuncData} (g_difference : FnOk P w K mg base (CXe P w) 3 f_difference fd_difference ["house", "other"] (sp_diff55 K C_BadHouse)) (F_difference : Fun K "difference" "difference" s_difference f_difference fd_difference) (b_difference : Binds K fd_difference ["house", "other"] []) (m_difference : mg "difference" = some (.ref f_difference))
    : FnOk P w K mg base (CXe P w) 5 f fd ["house", "other"] (sp_sd55 K C_BadHouse) := by
  refine F.okE sc_says_difference (fun vs H Q E h => ?_) (fun cdv A outer s H vs Q E hr h => ?_)
  . obtain ⟨h, h2, L, M, says, says2, ways, ways2, rfl, _⟩ := h; rfl
  . obtain ⟨h, h2, L, M, says, says2, ways, ways2, rfl, hh, wf, hh2, wf2, k, kE⟩ := h
    have hl := line1000
    refine ⟨_, (pss_cons (ps_setL (i := 2) sc_says_difference.nd (pe_call g_difference (hr.mono (by decide)) rfl m_difference F_difference.kp b_difference .nil (passE fun _ _ _ h => h) (pa_cons (pvD 0) (pa_cons (pvD 1) pa_nil))))
      (pss_cons (ps_if (ptT (pt_cmpR op_isN (pvD 2) pe_non (nomark _)))
      (pss_one (ps_ret pe_non))
      pss_nil)
      (pss_cons (ps_set (i := 3) sc_says_difference.nd rfl (Or.inr rfl) (pe_ixA (ixTD ix_tup) (pe_ixA (ixTD ix_tup) (pvD 0) pe_int) (pe_call g_room_behind (hr.mono (by decide)) rfl m_room_behind F_room_behind.kp b_room_behind .nil (passE fun _ _ _ h => h) (pa_cons (pvD 0) (pa_cons (pvD 2) pa_nil)))))
      (pss_cons (ps_set (i := 4) sc_says_difference.nd rfl (Or.inr rfl) (pe_ixA (ixTD ix_tup) (pe_ixA (ixTD ix_tup) (pvD 1) pe_int) (pe_call g_room_behind (hr.mono (by decide)) rfl m_room_behind F_room_behind.kp b_room_behind .nil (passE fun _ _ _ h => h) (pa_cons (pvD 1) (pa_cons (pvD 2) pa_nil)))))
      (pss_cons (ps_setC (i := 5) sc_says_difference.nd rfl rfl rfl (blk_mk rfl) (cp := c_says_difference_0) ⟨⟨rfl, rfl⟩, ⟨⟨rfl, rfl⟩, True.intro⟩⟩ (pi_range1 rfl T.range (pa_cons (pe_ixA (ixTD ix_tup) (pvD 0) pe_int) pa_nil)) (fun _ _ _ _ => (pg_name (i := 0) nd_c_says_difference_0 rfl (Or.inl rfl))) (fun _ _ _ _ => (pf_one (ptT (pt_cmpR (opN op_ne) (pe_ixA (ixTD (ix_tupK (K := K) rfl)) (pvD 1) (pvD 0)) (pe_ixA (ixTD (ix_tupK (K := K) rfl)) (pvD 2) (pvD 0)) (nomark _))))) (fun _ _ _ _ => (pvD 0)))
      (pss_one (ps_ret (pe_op op_catT2 (pvD 2) (pe_tup (pa_cons (pe_ixA (ixLD ix_list) (pvD 5) pe_int) pa_nil)))))))))), ?_⟩
    walk_at "rd"
    refine ⟨h, h2, L, M, says, says2, ways, ways2, rfl, hh, wf, hh2, wf2, fun e => ⟨fun H1 s1 hno => ?_, fun t wd H1 s1 ht hwd hwl htl hle => ?_⟩, kE⟩
    . subst e
      walk_at "rd"
      exact (k rfl).1 H1 s1 hno
    . subst e
      walk_at "rd"
      obtain ⟨m, wv, q1, q2, q3⟩ := hh.mono s1
      obtain ⟨m2, wv2, p1, p2, p3⟩ := hh2.mono s1
      have htw : SqT K H1 t (wd.map V.int) := SqT.of ht
      have hw0 := wf.walk hwd wd.length
      have hw2 := wf2.walk hwd wd.length
      rw [List.take_length] at hw0 hw2
      have hL1 := wf.wf.l1
      have hL6 := wf.wf.l6
      refine ⟨_, q1, _, rfl, h, t, m, wv, L, _, ways, wd, rfl, q1, q3, wf.wf, htw, hwl, fun _ H2 s2 => ?_, fun z => by rw [hwd] at z; cases z⟩
      obtain ⟨xs, r, z1, z2, z3⟩ := (q2.mono s2).atZ hw0.1 (rwS_at hw0.1 hw0.2)
      refine ⟨_, rfl, _, _, rfl, z1, _, z2, _, s2.seqT p1, _, rfl, h2, t, m2, wv2, L, _, ways2, wd, rfl, s2.seqT p1, p3.mono s2, wf2.wf, s2.seqT htw, hwl, fun _ H3 s3 => ?_, fun z => by rw [hwd] at z; cases z⟩
      obtain ⟨xs', r', y1, y2, y3⟩ := (p2.mono (s2.trans s3)).atZ hw2.1 (rwS_at hw2.1 hw2.2)
      refine ⟨_, rfl, _, _, rfl, y1, _, y2, _, (s2.trans s3).seqT q1, _, rfl, _, rfl, by omega, by omega, ?_⟩
      have z3' := s3.seqT z3
      have hr1 : (rwS says (walkW ways wd)).length = L.toNat := by have := wf.sr _ (List.mem_of_getElem? (rwS_at hw0.1 hw0.2)); omega
      have hr2 : (rwS says2 (walkW ways2 wd)).length = L.toNat := by have := wf2.sr _ (List.mem_of_getElem? (rwS_at hw2.1 hw2.2)); omega
      have hne : rwS says (walkW ways wd) ≠ rwS says2 (walkW ways2 wd) := htl
      obtain ⟨x, hx⟩ := fstU_some hr1 hr2 hne
      have hx' := hx
      generalize rwS says (walkW ways wd) = r1 at z3' hr1 hne hx
      generalize rwS says2 (walkW ways2 wd) = r2 at y3 hr2 hne hx
      obtain ⟨Pv, hPv⟩ : ∃ Pv : Nat -> List V -> St -> Hp -> Prop, ∀ i zs σ4 H4, Pv i zs σ4 H4 ↔ (H4 = H3 /\ zs = (((List.range i).filter fun x => decide (r1.getD x 0 ≠ r2.getD x 0)).map Int.ofNat).map V.int /\ ∃ o, σ4 = [o, some (.ref r), some (.ref r')]) := ⟨_, fun _ _ _ _ => Iff.rfl⟩
      refine compR Pv ((hPv _ _ _ _).mpr ⟨rfl, rfl, none, rfl⟩) (by omega) (fun i zs σ4 H4 hi h4 => ?_) (fun i zs σ4 H4 hi h4 => ?_) (fun zs σ4 H4 h4 D hD => ?_)
      . obtain ⟨_, rfl, _⟩ := (hPv _ _ _ _).mp h4
        rw [List.length_map, List.length_map]
        exact Nat.le_trans (List.length_filter_le _ _) (by rw [List.length_range]; exact Nat.le_refl _)
      . obtain ⟨rfl, rfl, o, rfl⟩ := (hPv _ _ _ _).mp h4
        rw [Int.zero_add]
        walk_at "rd"
        refine ⟨_, z3', _, atI_int (v := r1.getD i 0) (by omega) ?_, _, y3, _, atI_int (v := r2.getD i 0) (by omega) ?_, rfl, ?_⟩
        . rw [Int.toNat_natCast, List.getD_eq_getElem?_getD, List.getElem?_eq_getElem (by omega)]; rfl
        . rw [Int.toNat_natCast, List.getD_eq_getElem?_getD, List.getElem?_eq_getElem (by omega)]; rfl
        by_cases e : r1.getD i 0 = r2.getD i 0
        . rw [if_neg (by rw [decide_eq_true (congrArg V.int e)]; decide)]
          refine (hPv _ _ _ _).mpr ⟨rfl, ?_, _, rfl⟩
          rw [List.range_succ, List.filter_append, List.filter_cons_of_neg (by simp only [ne_eq, e, not_true, decide_false]; decide), List.filter_nil, List.append_nil]
        . rw [if_pos (by rw [decide_eq_false (fun z => e (V.int.inj z))]; decide)]
          refine (hPv _ _ _ _).mpr ⟨rfl, ?_, _, rfl⟩
          rw [List.range_succ, List.filter_append, List.filter_cons_of_pos (by simp only [ne_eq, e, not_false_eq_true, decide_true]), List.filter_nil, List.map_append, List.map_append]
          rfl
      . obtain ⟨rfl, rfl, o, rfl⟩ := (hPv _ _ _ _).mp h4
        have hh0 := fstU_head hx
        refine ⟨D, rfl, _, SqL.of upd_same, V.int x, ?_, by omega, fun p hp => ?_⟩
        . refine atI_int (by omega) ?_
          rw [List.getElem?_map, show Int.toNat 0 = 0 from rfl, hh0.2]; rfl
        . have sD := (Same.new hD (o := .lst ((((List.range L.toNat).filter fun x => decide (r1.getD x 0 ≠ r2.getD x 0)).map Int.ofNat).map V.int))).newT hp (o := .tup [V.int (x : Int)])
          have hs23 := s2.trans s3
          refine rCatT2.of ((hs23.trans sD).seqT htw) (SqT.of upd_same) (by rw [List.length_map, List.length_singleton]; omega) fun q H5 s5 hq => ?_
          exact (k rfl).2 q (wd ++ [(x : Int)]) H5 (s1.trans (hs23.trans (sD.trans s5))) (by rw [List.map_append]; exact hq) ⟨wd, x, rfl, hwd, hwl, htl, hle, hx'⟩
def cell (ns : List Int) (k : Nat) : Int := ns.getD k 0
def sp_cell (K : PySem.W.Frag) : Sp := fun vs H Q _ => ∃ (a : Addr) (ns : List Int) (k : Nat), vs = [.ref a, .int k] /\ SqL K H a (ns.map V.int) /\ Q (.int (cell ns k)) H
theorem ok__law_cell {f : Addr} {fd : FuncData} (F : Fun K "_law_cell" "_law_cell" s__law_cell f fd) (T : Txt mg)
    (Z : Exs K mg C_AskError C_BadHouse C_BadWord)
    : FnOk P w K mg base CX0 1 f fd ["script", "k"] (sp_cell K) := by
  refine F.ok sc__law_cell (fun vs H Q E h => ?_) (fun cdv A outer s H vs Q E hr h => ?_)
  . obtain ⟨a, ns, k, rfl, _⟩ := h; rfl
  . obtain ⟨a, ns, k, rfl, hs, q⟩ := h
    refine ⟨_, (pss_cons (ps_if (ptT (pt_cmpR (opD0 op_lt) (pvD 1) (pe_callB (lenD call_len_seq) (by rfl) T.len PySem.boot_len (pa_cons (pvD 0) pa_nil)) (nomark _)))
      (pss_one (ps_ret (pe_ixA (ixLD ix_list) (pvD 0) (pvD 1))))
      pss_nil)
      (pss_one (ps_ret pe_int))), ?_⟩
    walk_at "rd"
    refine ⟨_, .inl hs, ?_⟩
    rw [List.length_map]
    refine ite2 (fun hk => ?_) (fun hk => ?_)
    . have hk' : k < ns.length := by simpa using hk
      refine ⟨_, hs, V.int (cell ns k), ?_, q⟩
      refine atI_nat ?_
      rw [List.getElem?_map]
      unfold cell
      rw [List.getD_eq_getElem?_getD]
      simp [hk']
    . have hk' : ¬ k < ns.length := by simpa using hk
      have : cell ns k = 0 := by
        unfold cell
        rw [List.getD_eq_getElem?_getD, List.getElem?_eq_none (by omega)]; rfl
      rw [<- this]
      exact q
def sp_whole : Sp := fun vs H Q _ => ∃ n : Int, vs = [.int n] /\ Q (.bl true) H
theorem ok__law_whole {f : Addr} {fd : FuncData} (F : Fun K "_law_whole" "_law_whole" s__law_whole f fd) (T : Txt mg)
    (Z : Exs K mg C_AskError C_BadHouse C_BadWord)
    : FnOk P w K mg base CX0 1 f fd ["found"] (sp_whole) := by
  refine F.ok sc__law_whole (fun vs H Q E h => ?_) (fun cdv A outer s H vs Q E hr h => ?_)
  . obtain ⟨n, rfl, _⟩ := h; rfl
  . obtain ⟨n, rfl, q⟩ := h
    refine ⟨_, (pss_one (ps_ret (pe_and (pe_callB call_isinstW rfl T.isinstance PyProof.Rows.boot_isinstance (pa_cons (pvD 0) (pa_cons (pe_bltn (v := .ty "int") rfl T.int PyProof.Rows.boot_int rfl) pa_nil))) (pe_one (pe_not (pe_callB call_isinstW rfl T.isinstance PyProof.Rows.boot_isinstance (pa_cons (pvD 0) (pa_cons (pe_bltn (v := .ty "bool") rfl T.bool PyProof.Rows.boot_bool rfl) pa_nil)))))))), ?_⟩
    walk_at "rd"
    refine ⟨_, _, .int _, rel_ty, _, kit_self, ?_⟩
    rw [if_pos rfl]
    refine ⟨_, _, .int _, rel_ty, _, kit_int_bool, ?_⟩
    exact q
def sp_big (K : PySem.W.Frag) : Sp := fun vs H Q _ => ∃ (a : Addr) (ns : List Int) (k : Int), vs = [.ref a, .int k] /\ SqL K H a (ns.map V.int) /\ ns.length <= 63 /\ 0 <= k /\ k <= 100000 /\ ∀ x, Q (.int x) H
theorem ok__law_big {f : Addr} {fd : FuncData} (F : Fun K "_law_big" "_law_big" s__law_big f fd) (T : Txt mg)
    (Z : Exs K mg C_AskError C_BadHouse C_BadWord)
    {f__law_cell : Addr} {fd__law_cell : FuncData} (g__law_cell : FnOk P w K mg base CX0 1 f__law_cell fd__law_cell ["script", "k"] (sp_cell K)) (F__law_cell : Fun K "_law_cell" "_law_cell" s__law_cell f__law_cell fd__law_cell) (b__law_cell : Binds K fd__law_cell ["script", "k"] []) (m__law_cell : mg "_law_cell" = some (.ref f__law_cell))
    : FnOk P w K mg base CX0 2 f fd ["script", "k"] (sp_big K) := by
  refine F.ok sc__law_big (fun vs H Q E h => ?_) (fun cdv A outer s H vs Q E hr h => ?_)
  . obtain ⟨a, ns, k, rfl, _⟩ := h; rfl
  . obtain ⟨a, ns, k, rfl, hs, hz, k0, k1, q⟩ := h
    refine ⟨_, (pss_cons (ps_if (ptT (pt_cmpR (opD0 op_lt) (pvD 1) (pe_callB (lenD call_len_seq) (by rfl) T.len PySem.boot_len (pa_cons (pvD 0) pa_nil)) (nomark _)))
      (pss_one (ps_ret (pe_ixA (ixLD ix_list) (pvD 0) (pvD 1))))
      pss_nil)
      (pss_cons (ps_setL (i := 2) sc__law_big.nd (pe_callB (call_max2 rfl) rfl T.max PyProof.Rows.boot_max (pa_cons pe_int (pa_cons (pe_callB (lenD call_len_seq) (by rfl) T.len PySem.boot_len (pa_cons (pvD 0) pa_nil)) pa_nil))))
      (pss_one (ps_ret (pe_op (opD op_mod) (pe_op (opD0 op_add) (pe_op (opD0 op_add) (pe_op (opD op_mul) (pe_op (opD op_mod) (pe_call g__law_cell (hr.mono (by decide)) rfl m__law_cell F__law_cell.kp b__law_cell .nil pass0 (pa_cons (pvD 0) (pa_cons (pe_op (opD op_mod) (pvD 1) (pvD 2)) pa_nil))) pe_int) pe_int) (pe_op (opD op_mul) (pe_op (opD op_mul) (pvD 1) (pvD 1)) pe_int)) (pe_op (opD op_mul) pe_int (pvD 1))) pe_int))))), ?_⟩
    walk_at "rd"
    refine ⟨_, .inl hs, ?_⟩
    rw [List.length_map]
    refine ite2 (fun hk => ?_) (fun hk => ?_)
    . have hk' : k.toNat < ns.length := by omega
      exact ⟨_, hs, _, atI_int k0 (v := ns[k.toNat]) (by simp [hk']), q _⟩
    . have hm : (0 : Int) < if ((ns.map V.int).length : Int) > 1 then ((ns.map V.int).length : Int) else 1 := by split <;> omega
      have r0 := Int.emod_nonneg k (show (if ((ns.map V.int).length : Int) > 1 then ((ns.map V.int).length : Int) else 1) ≠ 0 by omega)
      refine ⟨_, .inl hs, hm, a, ns, (k % if ((ns.map V.int).length : Int) > 1 then ((ns.map V.int).length : Int) else 1).toNat, by rw [Int.toNat_of_nonneg r0], hs, _, rfl, by decide, .inr ⟨by decide, by decide⟩, .inl ⟨by omega, by omega⟩, .inr ⟨by decide, by decide⟩, .inl ⟨by decide, by decide⟩, by decide, q _⟩
def sp_mark53 : Sp := fun vs H Q _ => ∃ c : Int, vs = [.int c] /\ ∀ x, 0 <= x -> x <= 1000000000 -> Q (.int x) H
theorem ok__law_mark {f : Addr} {fd : FuncData} (F : Fun K "_law_mark" "_law_mark" s__law_mark f fd) (T : Txt mg)
    (Z : Exs K mg C_AskError C_BadHouse C_BadWord)
    : FnOk P w K mg base CX0 1 f fd ["cell"] (sp_mark53) := by
  refine F.ok sc__law_mark (fun vs H Q E h => ?_) (fun cdv A outer s H vs Q E hr h => ?_)
  . obtain ⟨c, rfl, _⟩ := h; rfl
  . obtain ⟨c, rfl, k⟩ := h
    refine ⟨_, (pss_cons (ps_if (ptT (pt_cmpR (opE op_eq) (pe_op (opD op_mod) (pvD 0) pe_int) pe_int (nomark _)))
      (pss_one (ps_ret pe_int))
      pss_nil)
      (pss_cons (ps_if (ptT (pt_cmpR (opE op_eq) (pe_op (opD op_mod) (pvD 0) pe_int) pe_int (nomark _)))
      (pss_one (ps_ret (pe_op (opD op_mod) (pe_op (opD op_fdiv) (pvD 0) pe_int) pe_int)))
      pss_nil)
      (pss_one (ps_ret (pe_op (opD op_mod) (pe_op (opD op_fdiv) (pvD 0) pe_int) pe_int))))), ?_⟩
    walk_at "rd"
    have a0 := Int.emod_nonneg (c / 4) (show (1000000001 : Int) ≠ 0 by decide)
    have a1 := Int.emod_lt_of_pos (c / 4) (show (0 : Int) < 1000000001 by decide)
    have b0 := Int.emod_nonneg (c / 4) (show (2 : Int) ≠ 0 by decide)
    have b1 := Int.emod_lt_of_pos (c / 4) (show (0 : Int) < 2 by decide)
    exact ⟨by decide, ite2 (fun _ => k _ (by omega) (by omega)) (fun _ => ⟨by decide, ite2 (fun _ => ⟨⟨by decide, by decide⟩, by decide, k _ a0 (by omega)⟩) (fun _ => ⟨⟨by decide, by decide⟩, by decide, k _ b0 (by omega)⟩)⟩)⟩
def sp_says53 (K : PySem.W.Frag) : Sp := fun vs H Q _ => ∃ (a : Addr) (ns : List Int) (c : Int) (L n : Nat), vs = [.ref a, .int c, .int L, .int n] /\ SqL K H a (ns.map V.int) /\ ns.length <= 63 /\ 0 <= c /\ c <= 1000 /\ 1 <= L /\ L <= 6 /\ 1 <= n /\ n <= 40 /\ ∀ h says ways H', Same H H' -> SaysH K H' h L says ways -> WfS L says ways -> says.length = n -> (∀ row ∈ says, ∀ x ∈ row, 0 <= x /\ x <= 1000000000) -> Q (.ref h) H'
theorem ok__law_says {f : Addr} {fd : FuncData} (F : Fun K "_law_says" "_law_says" s__law_says f fd) (T : Txt mg)
    (Z : Exs K mg C_AskError C_BadHouse C_BadWord)
    {f__law_big : Addr} {fd__law_big : FuncData} (g__law_big : FnOk P w K mg base CX0 2 f__law_big fd__law_big ["script", "k"] (sp_big K)) (F__law_big : Fun K "_law_big" "_law_big" s__law_big f__law_big fd__law_big) (b__law_big : Binds K fd__law_big ["script", "k"] []) (m__law_big : mg "_law_big" = some (.ref f__law_big))
    {f__law_mark : Addr} {fd__law_mark : FuncData} (g__law_mark : FnOk P w K mg base CX0 1 f__law_mark fd__law_mark ["cell"] (sp_mark53)) (F__law_mark : Fun K "_law_mark" "_law_mark" s__law_mark f__law_mark fd__law_mark) (b__law_mark : Binds K fd__law_mark ["cell"] []) (m__law_mark : mg "_law_mark" = some (.ref f__law_mark))
    : FnOk P w K mg base CX0 3 f fd ["script", "at", "letters", "rooms"] (sp_says53 K) := by
  refine F.ok sc__law_says (fun vs H Q E h => ?_) (fun cdv A outer s H vs Q E hr h => ?_)
  . obtain ⟨a, ns, c, L, n, rfl, _⟩ := h; rfl
  . obtain ⟨a, ns, c, L, n, rfl, hs, hz, c0, c1, hL1, hL6, hn1, hn40, k⟩ := h
    have hl := line1000
    refine ⟨_, (pss_cons (ps_setL (i := 4) sc__law_says.nd (pe_lst pa_nil))
      (pss_cons (ps_setL (i := 5) sc__law_says.nd (pe_lst pa_nil))
      (pss_cons (ps_for PassesOwn.never rfl (pi_range1 rfl T.range (pa_cons (pvD 3) pa_nil)) (pg_name (i := 6) sc__law_says.nd rfl (Or.inl rfl))
      (pss_cons (ps_set (i := 7) sc__law_says.nd rfl (Or.inr rfl) (pe_op (opD0 op_add) (pvD 1) (pe_op (opD op_mul) (pe_op (opD op_mul) pe_int (pvD 2)) (pvD 6))))
      (pss_cons (ps_expr (pe_bm PySem.F.plainAttrs_list PySem.F.slot_list_append PySem.F.type_list_append mt_append (pvD 4) (pa_cons (pe_callTy call_tuple_L rfl T.tuple PyProof.Rows.boot_tuple (pa_cons (pe_comp rfl (blk_mk rfl) (cp := c__law_says_3) ⟨⟨rfl, rfl⟩, ⟨⟨rfl, rfl⟩, True.intro⟩⟩ (pi_range1 rfl T.range (pa_cons (pvD 2) pa_nil)) (fun _ _ _ _ => (pg_name (i := 0) nd_c__law_says_3 rfl (Or.inl rfl))) (fun _ _ _ _ => pf_nil) (fun _ _ _ _ => (pe_call g__law_mark (hr.mono (by decide)) rfl m__law_mark F__law_mark.kp b__law_mark .nil pass0 (pa_cons (pe_call g__law_big (hr.mono (by decide)) rfl m__law_big F__law_big.kp b__law_big .nil pass0 (pa_cons (pvD 1) (pa_cons (pe_op (opD0 op_add) (pvD 2) (pvD 0)) pa_nil))) pa_nil)))) pa_nil)) pa_nil)))
      (pss_one (ps_expr (pe_bm PySem.F.plainAttrs_list PySem.F.slot_list_append PySem.F.type_list_append mt_append (pvD 5) (pa_cons (pe_callTy call_tuple_L rfl T.tuple PyProof.Rows.boot_tuple (pa_cons (pe_comp rfl (blk_mk rfl) (cp := c__law_says_8) ⟨⟨rfl, rfl⟩, ⟨⟨rfl, rfl⟩, ⟨⟨rfl, rfl⟩, ⟨⟨rfl, rfl⟩, True.intro⟩⟩⟩⟩ (pi_range1 rfl T.range (pa_cons (pvD 2) pa_nil)) (fun _ _ _ _ => (pg_name (i := 0) nd_c__law_says_8 rfl (Or.inl rfl))) (fun _ _ _ _ => pf_nil) (fun _ _ _ _ => (pe_op (opD op_mod) (pe_call g__law_big (hr.mono (by decide)) rfl m__law_big F__law_big.kp b__law_big .nil pass0 (pa_cons (pvD 2) (pa_cons (pe_op (opD0 op_add) (pe_op (opD0 op_add) (pvD 3) (pvD 4)) (pvD 0)) pa_nil))) (pvD 1)))) pa_nil)) pa_nil)))))))
      (pss_one (ps_ret (pe_tup (pa_cons (pvD 2) (pa_cons (pe_callTy call_tuple_L rfl T.tuple PyProof.Rows.boot_tuple (pa_cons (pvD 4) pa_nil)) (pa_cons (pe_callTy call_tuple_L rfl T.tuple PyProof.Rows.boot_tuple (pa_cons (pvD 5) pa_nil)) pa_nil))))))))), ?_⟩
    walk_at "rd"
    refine ⟨by omega, fun ps hps => ⟨by omega, fun pw hpw => ⟨by omega, by omega, ?_⟩⟩⟩
    rw [Int.toNat_natCast]
    have hpp : pw ≠ ps := (none_of_upd hpw).2
    have hpw0 : H pw = none := (none_of_upd hpw).1
    obtain ⟨Pv, hPv⟩ : ∃ Pv : Nat -> St -> Hp -> Prop, ∀ i σ' H', Pv i σ' H' ↔ (∃ (says ways : List (List Int)) (o o' : Option V), Same H H' /\ TupsL K H' ps says /\ TupsL K H' pw ways /\ says.length = i /\ ways.length = i /\ (∀ row ∈ says, row.length = L /\ ∀ x ∈ row, 0 <= x /\ x <= 1000000000) /\ (∀ row ∈ ways, row.length = L /\ ∀ x ∈ row, 0 <= x /\ x < (n : Int)) /\ σ' = [some (.ref a), some (.int c), some (.int L), some (.int n), some (.ref ps), some (.ref pw), o, o']) := ⟨_, fun _ _ _ => Iff.rfl⟩
    refine forR Pv ((hPv _ _ _).mpr ⟨[], [], none, none, (Same.new hps).newT hpw, TupsL.nil ((Same.new hpw) _ _ upd_same), TupsL.nil upd_same, rfl, rfl, by simp, by simp, rfl⟩) (fun i σ2 H2 hi h2 => ?_) (fun σ2 H2 h2 => ?_)
    . obtain ⟨says, ways, o, o', s2, hS, hW, hsl, hwl, hsr, hwr, rfl⟩ := (hPv _ _ _).mp h2
      obtain ⟨ts, ht1, _⟩ := id hS
      obtain ⟨us, hu1, _⟩ := id hW
      rw [Int.zero_add]
      walk_at "rd"
      have hb : 0 <= (L : Int) * (i : Int) /\ (L : Int) * (i : Int) <= 240 := by
        have h1 : L * i <= 6 * 40 := Nat.mul_le_mul (by omega) (by omega)
        have h2 : (L : Int) * (i : Int) = ((L * i : Nat) : Int) := by rw [Int.natCast_mul]
        omega
      have hcc : 0 <= c + 2 * (L : Int) * (i : Int) /\ c + 2 * (L : Int) * (i : Int) <= 2000 := by
        rw [Int.mul_assoc]; omega
      refine ⟨.inl ⟨by decide, by decide⟩, .inr ⟨by omega, by omega⟩, .inl ⟨rfl, _, SqL.of ht1⟩, by omega, by omega, ?_⟩
      generalize c + 2 * (L : Int) * (i : Int) = bs at hcc ⊢
      rw [Int.toNat_natCast]
      obtain ⟨Pm, hPm⟩ : ∃ Pc : Nat -> List V -> St -> Hp -> Prop, ∀ j ys σ4 H4, Pc j ys σ4 H4 ↔ (H4 = H2 /\ ∃ (row : List Int) (o : Option V), ys = row.map V.int /\ row.length = j /\ (∀ x ∈ row, 0 <= x /\ x <= 1000000000) /\ σ4 = [o, some (.ref a), some (.int bs)]) := ⟨_, fun _ _ _ _ => Iff.rfl⟩
      refine compR Pm ((hPm _ _ _ _).mpr ⟨rfl, [], none, rfl, rfl, (fun x hx => by cases hx), rfl⟩) (by omega) (fun j ys σ4 H4 _ h4 => ?_) (fun j ys σ4 H4 hj h4 => ?_) (fun ys σ4 H4 h4 D hD => ?_)
      . obtain ⟨_, row, o, rfl, hrl, _⟩ := (hPm _ _ _ _).mp h4
        rw [List.length_map]; omega
      . obtain ⟨rfl, row, o, rfl, hrl, hrr, rfl⟩ := (hPm _ _ _ _).mp h4
        rw [Int.zero_add]
        walk_at "rd"
        refine ⟨a, ns, bs + j, rfl, s2.seq hs, hz, by omega, by omega, fun x => ⟨x, rfl, fun y y0 y1 => (hPm _ _ _ _).mpr ⟨rfl, row ++ [y], _, by simp, by simp [hrl], fun z hz' => ?_, rfl⟩⟩⟩
        rcases List.mem_append.mp hz' with h | h
        . exact hrr z h
        . rw [List.mem_singleton.mp h]; exact ⟨y0, y1⟩
      obtain ⟨rfl, srow, o1, rfl, hsrl, hsrr, rfl⟩ := (hPm _ _ _ _).mp h4
      refine ⟨D, rfl, _, .inl ⟨SqL.of upd_same, fun t ht => ?_⟩⟩
      have sDt := (Same.new hD (o := .lst (srow.map V.int))).newT ht (o := .tup (srow.map V.int))
      obtain ⟨xs, e1, e2, e3⟩ := (hS.mono sDt).push (w := srow) (t := t) (SqT.of upd_same)
      have hWt := (hW.mono sDt).off e1 (ys := xs ++ [V.ref t]) hpp
      have s5 : Same H (upd (upd (upd H4 D (.lst (srow.map V.int))) t (.tup (srow.map V.int))) ps (.lst (xs ++ [V.ref t]))) := (s2.trans sDt).over hps
      refine ⟨xs, e1, by omega, ?_⟩
      generalize upd (upd (upd H4 D (.lst (srow.map V.int))) t (.tup (srow.map V.int))) ps (.lst (xs ++ [V.ref t])) = H5 at e3 hWt s5 ⊢
      obtain ⟨us, hu1, _⟩ := id hWt
      refine ⟨.inl ⟨rfl, _, SqL.of hu1⟩, by omega, by omega, ?_⟩
      obtain ⟨Pc, hPc⟩ : ∃ Pc : Nat -> List V -> St -> Hp -> Prop, ∀ j ys σ4 H6, Pc j ys σ4 H6 ↔ (H6 = H5 /\ ∃ (row : List Int) (o : Option V), ys = row.map V.int /\ row.length = j /\ (∀ x ∈ row, 0 <= x /\ x < (n : Int)) /\ σ4 = [o, some (.int n), some (.ref a), some (.int bs), some (.int L)]) := ⟨_, fun _ _ _ _ => Iff.rfl⟩
      refine compR Pc ((hPc _ _ _ _).mpr ⟨rfl, [], none, rfl, rfl, (fun x hx => by cases hx), rfl⟩) (by omega) (fun j ys σ4 H6 _ h6 => ?_) (fun j ys σ4 H6 hj h6 => ?_) (fun ys σ4 H6 h6 D2 hD2 => ?_)
      . obtain ⟨_, row, o, rfl, hrl, _⟩ := (hPc _ _ _ _).mp h6
        rw [List.length_map]; omega
      . obtain ⟨rfl, row, o, rfl, hrl, hrr, rfl⟩ := (hPc _ _ _ _).mp h6
        rw [Int.zero_add]
        walk_at "rd"
        refine ⟨a, ns, bs + L + j, rfl, s5.seq hs, hz, by omega, by omega, fun x => ⟨x, rfl, by omega, (hPc _ _ _ _).mpr ⟨rfl, row ++ [x % n], _, by simp, by simp [hrl], fun z hz' => ?_, rfl⟩⟩⟩
        rcases List.mem_append.mp hz' with h | h
        . exact hrr z h
        . rw [List.mem_singleton.mp h]; exact ⟨Int.emod_nonneg _ (by omega), Int.emod_lt_of_pos _ (by omega)⟩
      obtain ⟨rfl, wrow, o2, rfl, hwrl, hwrr, rfl⟩ := (hPc _ _ _ _).mp h6
      refine ⟨D2, rfl, _, .inl ⟨SqL.of upd_same, fun t2 ht2 => ?_⟩⟩
      have sDt2 := (Same.new hD2 (o := .lst (wrow.map V.int))).newT ht2 (o := .tup (wrow.map V.int))
      obtain ⟨ys2, f1, f2, f3⟩ := (hWt.mono sDt2).push (w := wrow) (t := t2) (SqT.of upd_same)
      have hSt := (e3.mono sDt2).off f1 (ys := ys2 ++ [V.ref t2]) (Ne.symm hpp)
      refine ⟨ys2, f1, by omega, (hPv _ _ _).mpr ⟨says ++ [srow], ways ++ [wrow], _, _, (s5.trans sDt2).over hpw0, hSt, f3, by simp [hsl], by simp [hwl], fun r hr => ?_, fun r hr => ?_, rfl⟩⟩
      . rcases List.mem_append.mp hr with h | h
        . exact hsr r h
        . rw [List.mem_singleton.mp h]; exact ⟨hsrl, hsrr⟩
      . rcases List.mem_append.mp hr with h | h
        . exact hwr r h
        . rw [List.mem_singleton.mp h]; exact ⟨hwrl, hwrr⟩
    . obtain ⟨says, ways, o, o', s2, hS, hW, hsl, hwl, hsr, hwr, rfl⟩ := (hPv _ _ _).mp h2
      walk_at "rd"
      obtain ⟨xs, hx1, hrs⟩ := hS.rows
      refine ⟨xs, .inl ⟨SqL.of hx1, fun t1 ht1 => ?_⟩⟩
      obtain ⟨ys, hy1, hrw⟩ := (hW.mono (Same.new ht1 (o := .tup xs))).rows
      refine ⟨ys, .inl ⟨SqL.of hy1, fun t2 ht2 => ⟨by omega, fun hh hhh => ?_⟩⟩⟩
      exact k hh says ways _ (((s2.newT ht1).newT ht2).newT hhh) ⟨t1, t2, SqT.of upd_same, (hrs t1 ht1).mono ((Same.new ht2).newT hhh), (hrw t2 ht2).mono (Same.new hhh)⟩
        ⟨⟨by omega, by omega, by rw [List.length_replicate]; omega, by rw [List.length_replicate]; omega, by rw [List.length_replicate]; omega, fun row hr => ⟨by have := (hwr row hr).1; omega, fun x hx => by rw [List.length_replicate]; have := (hwr row hr).2 x hx; omega⟩, fun m hm => by rw [List.eq_of_mem_replicate hm]; omega⟩, fun row hr => by have := (hsr row hr).1; omega⟩ hsl fun row hr => (hsr row hr).2
def WdL (H : Hp) (ents : List ((Int × Int) × List Int)) (us : List V) : Prop := us.length = ents.length /\ ∀ (i : Nat) (e : (Int × Int) × List Int), ents[i]? = some e -> ∃ t, us[i]? = some (.ref t) /\ H t = some (.tup (e.2.map V.int))
theorem WdL.mono {H H' : Hp} {ents : List ((Int × Int) × List Int)} {us : List V} (h : WdL H ents us) (k : TK H H') : WdL H' ents us := ⟨h.1, fun i e he => by
  obtain ⟨t, h1, h2⟩ := h.2 i e he
  exact ⟨t, h1, k _ _ h2⟩⟩
theorem WdL.snoc {H : Hp} {ents : List ((Int × Int) × List Int)} {us : List V} (h : WdL H ents us) {g : Int × Int} {w : List Int} {t : Addr} (ht : H t = some (.tup (w.map V.int))) : WdL H (ents ++ [(g, w)]) (us ++ [.ref t]) := by
  refine ⟨by rw [List.length_append, List.length_append, h.1]; rfl, fun i e hi => ?_⟩
  by_cases hil : i < ents.length
  . rw [List.getElem?_append_left hil] at hi
    obtain ⟨t', h1, h2⟩ := h.2 i e hi
    exact ⟨t', by rw [List.getElem?_append_left (by rw [h.1]; exact hil)]; exact h1, h2⟩
  . have hl := (List.getElem?_eq_some_iff.mp hi).1
    rw [List.length_append, List.length_singleton] at hl
    have e1 : i = ents.length := by omega
    subst e1
    rw [List.getElem?_append_right (Nat.le_refl _), Nat.sub_self] at hi
    have : (g, w) = e := by simpa using hi
    subst this
    exact ⟨t, by rw [<- h.1, List.getElem?_append_right (Nat.le_refl _), Nat.sub_self]; rfl, ht⟩
def SpotL (H : Hp) (ents : List ((Int × Int) × List Int)) (ss : List V) : Prop := ss.length = ents.length /\ ∀ (i : Nat) (e : (Int × Int) × List Int), ents[i]? = some e -> ∃ t u, ss[i]? = some (.ref t) /\ H t = some (.tup [.ref u, .int e.1.1, .int e.1.2]) /\ H u = some (.tup (e.2.map V.int))
theorem SpotL.mono {H H' : Hp} {ents : List ((Int × Int) × List Int)} {ss : List V} (h : SpotL H ents ss) (k : TK H H') : SpotL H' ents ss := ⟨h.1, fun i e he => by
  obtain ⟨t, u, h1, h2, h3⟩ := h.2 i e he
  exact ⟨t, u, h1, k _ _ h2, k _ _ h3⟩⟩
theorem SpotL.snoc {H : Hp} {ents : List ((Int × Int) × List Int)} {ss : List V} (h : SpotL H ents ss) {e : (Int × Int) × List Int} {t u : Addr} (ht : H t = some (.tup [.ref u, .int e.1.1, .int e.1.2])) (hu : H u = some (.tup (e.2.map V.int))) : SpotL H (ents ++ [e]) (ss ++ [.ref t]) := by
  refine ⟨by rw [List.length_append, List.length_append, h.1]; rfl, fun i e' hi => ?_⟩
  by_cases hil : i < ents.length
  . rw [List.getElem?_append_left hil] at hi
    obtain ⟨t', u', h1, h2⟩ := h.2 i e' hi
    exact ⟨t', u', by rw [List.getElem?_append_left (by rw [h.1]; exact hil)]; exact h1, h2⟩
  . have hl := (List.getElem?_eq_some_iff.mp hi).1
    rw [List.length_append, List.length_singleton] at hl
    have e1 : i = ents.length := by omega
    subst e1
    rw [List.getElem?_append_right (Nat.le_refl _), Nat.sub_self] at hi
    have : e = e' := by simpa using hi
    subst this
    exact ⟨t, u, by rw [<- h.1, List.getElem?_append_right (Nat.le_refl _), Nat.sub_self]; rfl, ht, hu⟩
theorem ftWords {K : PySem.W.Frag} {H : Hp} {ps : List (Int × Int)} {rs : List V} (h : FoundT H ps rs) : WordsT K H rs (ps.map fun p => [p.1, p.2]) := by
  refine ⟨by rw [h.1, List.length_map], fun i w hw => ?_⟩
  rw [List.getElem?_map] at hw
  cases hp : ps[i]? with
  | none => rw [hp] at hw; cases hw
  | some p =>
    rw [hp] at hw
    cases hw
    exact h.2 i p hp
theorem pair_in {g1 g2 : Int} {ps : List (Int × Int)} : [g1, g2] ∈ (ps.map fun p => [p.1, p.2]) ↔ (g1, g2) ∈ ps := by
  rw [List.mem_map]
  constructor
  . rintro ⟨⟨a, b⟩, hm, e⟩
    simp only [List.cons.injEq, and_true] at e
    obtain ⟨rfl, rfl⟩ := e
    exact hm
  . intro hm
    exact ⟨_, hm, rfl⟩
def sp_pairs55 (K : PySem.W.Frag) : Sp := fun vs H Q _ => ∃ (h h2 : Addr) (L : Int) (says says2 ways ways2 : List (List Int)), vs = [.ref h, .ref h2] /\ SaysH K H h L says ways /\ WfS L says ways /\ SaysH K H h2 L says2 ways2 /\ WfS L says2 ways2 /\ ∀ l ents ss top H', Same H H' -> H l = none -> H' l = some (.lst ss) -> SpotL H' ents ss -> B L (stepP ways ways2) (0, 0) (okP says.length says2.length) ents ents.length top -> Q (.ref l) H'
theorem ok__law_pairs {f : Addr} {fd : FuncData} (F : Fun K "_law_pairs" "_law_pairs" s__law_pairs f fd) (T : Txt mg)
    (Z : Exs K mg C_AskError C_BadHouse C_BadWord)
    : FnOk P w K mg base CX0 1 f fd ["one", "two"] (sp_pairs55 K) := by
  refine F.ok sc__law_pairs (fun vs H Q E h => ?_) (fun cdv A outer s H vs Q E hr h => ?_)
  . obtain ⟨h, h2, L, says, says2, ways, ways2, rfl, _⟩ := h; rfl
  . obtain ⟨h, h2, L, says, says2, ways, ways2, rfl, hh, wf, hh2, wf2, k⟩ := h
    have hl := line1000
    have hwf := wf
    have hwf2 := wf2
    obtain ⟨marks, hml, wf⟩ : ∃ marks : List Int, says.length = marks.length /\ Wf L marks ways := ⟨_, by rw [List.length_replicate], hwf.wf⟩
    obtain ⟨marks2, hml2, wf2⟩ : ∃ marks2 : List Int, says2.length = marks2.length /\ Wf L marks2 ways2 := ⟨_, by rw [List.length_replicate], hwf2.wf⟩
    rw [hml, hml2] at k
    have hL1 := wf.l1
    have hL6 := wf.l6
    have hn40 := wf.n40
    have hm40 := wf2.n40
    have hn1 := wf.n1
    have hm1 := wf2.n1
    have hnm : marks.length * marks2.length <= 1600 := Nat.mul_le_mul hn40 hm40
    obtain ⟨mm, wv, q1, q2, q3⟩ := id hh
    obtain ⟨mm', wv', q1', q2', q3'⟩ := id hh2
    refine ⟨_, (pss_cons (ps_set (i := 2) sc__law_pairs.nd rfl (Or.inr rfl) (pe_lst (pa_cons (pe_tup (pa_cons pe_int (pa_cons pe_int pa_nil))) pa_nil)))
      (pss_cons (ps_set (i := 3) sc__law_pairs.nd rfl (Or.inr rfl) (pe_lst (pa_cons (pe_tup pa_nil) pa_nil)))
      (pss_cons (ps_for PassesOwn.never rfl (pi_range1 rfl T.range (pa_cons (pe_op (opD op_mul) (pe_callB (lenD call_len_seq) (by rfl) T.len PySem.boot_len (pa_cons (pe_ixA (ixTD ix_tup) (pvD 0) pe_int) pa_nil)) (pe_callB (lenD call_len_seq) (by rfl) T.len PySem.boot_len (pa_cons (pe_ixA (ixTD ix_tup) (pvD 1) pe_int) pa_nil))) pa_nil)) (pg_name (i := 4) sc__law_pairs.nd rfl (Or.inl rfl))
      (pss_one (ps_if (ptT (pt_cmpR (opD0 op_lt) (pvD 4) (pe_callB (lenD call_len_seq) (by rfl) T.len PySem.boot_len (pa_cons (pvD 2) pa_nil)) (nomark _)))
      (pss_one (ps_for PassesOwn.never rfl (pi_range1 rfl T.range (pa_cons (pe_ixA (ixTD ix_tup) (pvD 0) pe_int) pa_nil)) (pg_name (i := 5) sc__law_pairs.nd rfl (Or.inl rfl))
      (pss_cons (ps_setL (i := 6) sc__law_pairs.nd (pe_tup (pa_cons (pe_ixA (ixTD ix_tup) (pe_ixA (ixTD ix_tup) (pe_ixA (ixTD ix_tup) (pvD 0) pe_int) (pe_ixA (ixTD ix_tup) (pe_ixA (ixLD ix_list) (pvD 2) (pvD 4)) pe_int)) (pvD 5)) (pa_cons (pe_ixA (ixTD ix_tup) (pe_ixA (ixTD ix_tup) (pe_ixA (ixTD ix_tup) (pvD 1) pe_int) (pe_ixA (ixTD ix_tup) (pe_ixA (ixLD ix_list) (pvD 2) (pvD 4)) pe_int)) (pvD 5)) pa_nil))))
      (pss_one (ps_if (ptT (pt_cmpR (op_notInW (hu9 hr)) (pvD 6) (pvD 2) rfl))
      (pss_cons (ps_expr (pe_bm PySem.F.plainAttrs_list PySem.F.slot_list_append PySem.F.type_list_append mt_append (pvD 2) (pa_cons (pvD 6) pa_nil)))
      (pss_one (ps_expr (pe_bm PySem.F.plainAttrs_list PySem.F.slot_list_append PySem.F.type_list_append mt_append (pvD 3) (pa_cons (pe_op op_catT2 (pe_ixA (ixLD ix_list) (pvD 3) (pvD 4)) (pe_tup (pa_cons (pvD 5) pa_nil))) pa_nil)))))
      pss_nil)))))
      pss_nil)))
      (pss_one (ps_ret (pe_comp rfl (blk_mk rfl) (cp := c__law_pairs_0) ⟨⟨rfl, rfl⟩, ⟨⟨rfl, rfl⟩, True.intro⟩⟩ (pi_range1 rfl T.range (pa_cons (pe_callB (lenD call_len_seq) (by rfl) T.len PySem.boot_len (pa_cons (pvD 2) pa_nil)) pa_nil)) (fun _ _ _ _ => (pg_name (i := 0) nd_c__law_pairs_0 rfl (Or.inl rfl))) (fun _ _ _ _ => pf_nil) (fun _ _ _ _ => (pe_tup (pa_cons (pe_ixA (ixLD (ix_listK (K := K) rfl)) (pvD 1) (pvD 0)) (pa_cons (pe_ixA (ixTD (ix_tupK (K := K) rfl)) (pe_ixA (ixLD (ix_listK (K := K) rfl)) (pvD 2) (pvD 0)) pe_int) (pa_cons (pe_ixA (ixTD (ix_tupK (K := K) rfl)) (pe_ixA (ixLD (ix_listK (K := K) rfl)) (pvD 2) (pvD 0)) pe_int) pa_nil))))))))))), ?_⟩
    walk_at "rd"
    refine ⟨by omega, fun p0 hp0 => ⟨by omega, fun p hp => ⟨by omega, fun p2 hp2 => ⟨by omega, fun p4 hp4 => ?_⟩⟩⟩⟩
    have hpn : H p = none := (none_of_upd hp).1
    have hp4n : H p4 = none := (none_of_upd (none_of_upd (none_of_upd hp4).1).1).1
    have hp4p : p4 ≠ p := (none_of_upd (none_of_upd hp4).1).2
    have s0 := (((Same.new hp0 (o := .tup [V.int 0, V.int 0])).newT hp (o := .lst [V.ref p0])).newT hp2 (o := .tup [])).newT hp4 (o := .lst [V.ref p2])
    have hr0 := ((Same.new hp2 (o := .tup [])).newT hp4 (o := .lst [V.ref p2])) _ _ (show upd (upd H p0 (.tup [V.int 0, V.int 0])) p (.lst [V.ref p0]) p = _ from upd_same)
    have c0 := (((Same.new hp (o := .lst [V.ref p0])).newT hp2 (o := .tup [])).newT hp4 (o := .lst [V.ref p2])) _ _ (show upd H p0 (.tup [V.int 0, V.int 0]) p0 = _ from upd_same)
    have hu0 : upd (upd (upd (upd H p0 (.tup [V.int 0, V.int 0])) p (.lst [V.ref p0])) p2 (.tup [])) p4 (.lst [V.ref p2]) p4 = some (.lst [V.ref p2]) := upd_same
    have w0 := Same.new hp4 (o := .lst [V.ref p2]) _ _ (show upd (upd (upd H p0 (.tup [V.int 0, V.int 0])) p (.lst [V.ref p0])) p2 (.tup []) p2 = _ from upd_same)
    generalize upd (upd (upd (upd H p0 (.tup [V.int 0, V.int 0])) p (.lst [V.ref p0])) p2 (.tup [])) p4 (.lst [V.ref p2]) = H0 at s0 hr0 c0 hu0 w0 ⊢
    have st0 : WdL H0 [((0, 0), [])] [V.ref p2] := ⟨rfl, fun i e he => by
      cases i with
      | zero => simp at he; subst he; exact ⟨p2, rfl, w0⟩
      | succ i => simp at he⟩
    have fo0 : FoundT H0 (([((0, 0), [])] : List ((Int × Int) × List Int)).map (·.1)) [V.ref p0] := ⟨rfl, fun i q hq => by
      cases i with
      | zero => simp at hq; subst hq; exact ⟨p0, rfl, c0⟩
      | succ i => simp at hq⟩
    have hok : okP marks.length marks2.length (0, 0) := ⟨⟨by omega, by show (0 : Int) < _; omega⟩, by omega, by show (0 : Int) < _; omega⟩
    obtain ⟨ts, qa, qb, qc⟩ := id q2
    obtain ⟨ts', qa', qb', qc'⟩ := id q2'
    have hnl : ((ts.map V.ref).length : Int) * ((ts'.map V.ref).length : Int) = ((marks.length * marks2.length : Nat) : Int) := by rw [List.length_map, List.length_map, qb, qb', hml, hml2, Int.natCast_mul]
    refine ⟨_, s0.seqT q1, _, rfl, _, rfl, _, .inr (s0.seqT qa), _, s0.seqT q1', _, rfl, _, rfl, _, .inr (s0.seqT qa'), ?_⟩
    rw [hnl, Int.toNat_natCast]
    refine ⟨by rw [List.length_map, List.length_map, qb, qb', hml, hml2]; exact .inl ⟨by omega, by omega⟩, by omega, by omega, ?_⟩
    obtain ⟨Pv, hPv⟩ : ∃ Pv : Nat -> St -> Hp -> Prop, ∀ m σ2 H2, Pv m σ2 H2 ↔ (∃ (ents : List ((Int × Int) × List Int)) (us rs : List V) (i : Nat) (top : Int) (o6 o7 o8 : Option V), (i = m \/ (i = ents.length /\ ents.length <= m)) /\ Same H H2 /\ H2 p = some (.lst rs) /\ H2 p4 = some (.lst us) /\ WdL H2 ents us /\ FoundT H2 (ents.map (·.1)) rs /\ B L (stepP ways ways2) (0, 0) (okP marks.length marks2.length) ents i top /\ (∀ e, ents[i]? = some e -> top <= place L e.2 * L + 1) /\ σ2 = [some (.ref h), some (.ref h2), some (.ref p), some (.ref p4), o6, o7, o8]) := ⟨_, fun _ _ _ => Iff.rfl⟩
    refine forR Pv ((hPv _ _ _).mpr ⟨_, _, _, 0, 1, none, none, none, .inl rfl, s0, hr0, hu0, st0, fo0, B.start L _ hok, fun e he => ?_, rfl⟩) (fun m σ2 H2 hm hpv => ?_) (fun σ2 H2 hpv => ?_)
    . simp at he; subst he; simp [place, placeR]
    . obtain ⟨ents, us, rs, i, top, o6, o7, o8, him, s2, hr2, hu2, st2, fo2, bf, htop, rfl⟩ := (hPv _ _ _).mp hpv
      rw [Int.zero_add]
      have hbl := bf.lenP
      have hil := bf.il
      have hrl : rs.length = ents.length := by rw [fo2.1, List.length_map]
      walk_at "rd"
      refine ⟨_, .inl (SqL.of hr2), ?_⟩
      rw [hrl]
      refine ite2 (fun hlt => ?_) (fun hge => ?_)
      . have e1 : i = m := by omega
        subst e1
        have hi : i < ents.length := by omega
        obtain ⟨e, he⟩ : ∃ e, ents[i]? = some e := ⟨ents[i], by simp [hi]⟩
        obtain ⟨⟨ra, rb⟩, w⟩ := e
        have hmem := List.mem_of_getElem? he
        have hr' : okP marks.length marks2.length (ra, rb) := bf.rng _ hmem
        obtain ⟨⟨ra0, ra1⟩, rb0, rb1⟩ := id hr'
        have htop' : top <= place L w * L + 1 := htop _ he
        obtain ⟨row, hrow, hrm, hrowl⟩ := wf.row ra0 ra1
        obtain ⟨row2, hrow2, hrm2, hrowl2⟩ := wf2.row rb0 rb1
        obtain ⟨xs, t, z1, z2, z3⟩ := q3.atZ ra0 hrow
        obtain ⟨xs', t', z1', z2', z3'⟩ := q3'.atZ rb0 hrow2
        refine ⟨_, s2.seqT q1, _, rfl, _, rfl, by omega, by omega, ?_⟩
        obtain ⟨Pn, hPn⟩ : ∃ Pn : Nat -> St -> Hp -> Prop, ∀ x σ3 H3, Pn x σ3 H3 ↔ (∃ (ents' : List ((Int × Int) × List Int)) (us' rs' : List V) (o7 o8 : Option V), Same H H3 /\ H3 p = some (.lst rs') /\ H3 p4 = some (.lst us') /\ WdL H3 ents' us' /\ FoundT H3 (ents'.map (·.1)) rs' /\ B L (stepP ways ways2) (0, 0) (okP marks.length marks2.length) ents' i (place L w * L + (x : Int) + 1) /\ SeenF L (stepP ways ways2) ents' (ra, rb) w x /\ ents'[i]? = some ((ra, rb), w) /\ σ3 = [some (.ref h), some (.ref h2), some (.ref p), some (.ref p4), some (.int i), o7, o8]) := ⟨_, fun _ _ _ => Iff.rfl⟩
        refine forR Pn ((hPn _ _ _).mpr ⟨ents, us, rs, o7, o8, s2, hr2, hu2, st2, fo2, bf.up (by push_cast; omega), (fun y h0 h1 => absurd h1 (by push_cast; omega)), he, rfl⟩) (fun x σ3 H3 hx h3 => ?_) (fun σ3 H3 h3 => ?_)
        . obtain ⟨ents', us', rs', o7, o8, s3, hr3, hu3, st3, fo3, bf3, se3, he3, rfl⟩ := (hPn _ _ _).mp h3
          have ex : (0 : Int) + (x : Nat) = (x : Int) := by omega
          rw [ex]
          have hxL : (x : Int) < L := by omega
          obtain ⟨rw1, g1, c1, c2, c3, c4, c5⟩ := wf.step ra0 ra1 (show (0 : Int) <= (x : Int) by omega) hxL
          obtain ⟨rw2, g2, d1, d2, d3, d4, d5⟩ := wf2.step rb0 rb1 (show (0 : Int) <= (x : Int) by omega) hxL
          rw [hrow] at c1; cases c1
          rw [hrow2] at d1; cases d1
          have hgo : stepP ways ways2 (ra, rb) (x : Int) = (g1, g2) := by show (stepW ways ra x, stepW ways2 rb x) = _; rw [c3, d3]
          have hmem3 := List.mem_of_getElem? he3
          obtain ⟨bf4, se4⟩ := bf3.letter se3 hmem3 hxL (by rw [hgo]; exact ⟨⟨c4, c5⟩, d4, d5⟩)
          have he4 := put_keep (step := stepP ways ways2) (r := (ra, rb)) (w := w) (x := x) he3
          have hi3 := (List.getElem?_eq_some_iff.mp he3).1
          obtain ⟨bp, hbp1, hbp2⟩ := fo3.2 i (ra, rb) (by rw [List.getElem?_map, he3]; rfl)
          obtain ⟨tw, htw1, htw2⟩ := st3.2 i _ he3
          walk_at "rd"
          have hbI : atI rs' (i : Int) = some (V.ref bp) := atI_of (by omega) (by rw [Int.toNat_natCast]; exact hbp1)
          refine ⟨_, s3.seqT q1, _, rfl, _, SqL.of hr3, _, hbI, _, rfl, _, SqT.of hbp2, _, rfl, _, rfl, _, _, rfl, s3.seqT z1, _, z2, _, rfl, _, s3.seqT z3, _, atI_int (by omega) c2, _, s3.seqT q1', _, rfl, _, SqL.of hr3, _, hbI, _, rfl, _, SqT.of hbp2, _, rfl, _, rfl, _, _, rfl, s3.seqT z1', _, z2', _, rfl, _, s3.seqT z3', _, atI_int (by omega) d2, by omega, fun p5 hp5 => ?_⟩
          have sT := s3.newT hp5 (o := .tup [V.int g1, V.int g2])
          have kT : TK H3 (upd H3 p5 (.tup [V.int g1, V.int g2])) := TK.new hp5
          have hrT := Same.new hp5 (o := .tup [V.int g1, V.int g2]) _ _ hr3
          have huT := Same.new hp5 (o := .tup [V.int g1, V.int g2]) _ _ hu3
          have stT := st3.mono kT
          have foT := fo3.mono kT
          have htwT := kT _ _ htw2
          have hp5T : upd H3 p5 (.tup [V.int g1, V.int g2]) p5 = some (.tup [V.int g1, V.int g2]) := upd_same
          generalize upd H3 p5 (.tup [V.int g1, V.int g2]) = HT' at sT kT hrT huT stT foT htwT hp5T ⊢
          refine ⟨_, SqL.of hrT, [g1, g2], _, ftWords foT, SqT.of hp5T, ?_⟩
          have hlen3 := bf3.lenP
          have hwl : w.length <= i := bf3.sh i _ he3
          by_cases hm : (g1, g2) ∈ ents'.map (·.1)
          . have hput : put (stepP ways ways2) (ra, rb) w ents' x = ents' := by unfold put; rw [hgo, if_pos hm]
            rw [hput] at bf4 se4 he4
            rw [if_neg (by rw [decide_eq_true (pair_in.mpr hm)]; decide)]
            exact (hPn _ _ _).mpr ⟨ents', us', rs', _, _, sT, hrT, huT, stT, foT, bf4, se4, he4, rfl⟩
          . have hput : put (stepP ways ways2) (ra, rb) w ents' x = ents' ++ [((g1, g2), w ++ [(x : Int)])] := by unfold put; rw [hgo, if_neg hm]
            rw [hput] at bf4 se4 he4
            rw [if_pos (by rw [decide_eq_false (fun z => hm (pair_in.mp z))]; decide)]
            have huV : upd HT' p (.lst (rs' ++ [V.ref p5])) p4 = some (.lst us') := by rw [upd_ne hp4p]; exact huT
            have kV := TK.lst (o := .lst (rs' ++ [V.ref p5])) hrT
            refine ⟨.inl ⟨rfl, _, SqL.of hrT⟩, _, hrT, by rw [fo3.1, List.length_map]; omega, .inl ⟨rfl, _, SqL.of huV⟩, _, SqL.of huV, _, atI_of (v := V.ref tw) (by omega) (by rw [Int.toNat_natCast]; exact htw1), by omega, fun p6 hp6 => rCatT2.ofS (Same.new hp6 _ _ (kV _ _ htwT)) upd_same (by simp; omega) fun q HU sU' hq => ?_⟩
            have hq : HU q = some (.tup ((w ++ [(x : Int)]).map V.int)) := by rw [List.map_append]; exact hq
            have sTU := (Same.new hp6 (o := .tup [V.int x])).trans sU'
            have huU := sTU _ _ huV
            have hrU := sTU _ _ (show upd HT' p (.lst (rs' ++ [V.ref p5])) p = _ from upd_same)
            have stU := ((stT.mono kV).mono (TK.of sTU)).snoc (g := (g1, g2)) hq
            have foU := ((foT.mono kV).mono (TK.of sTU)).snoc (p := (g1, g2)) (b := p5) (sTU _ _ (kV _ _ hp5T))
            have kU := TK.lst (o := .lst (us' ++ [V.ref q])) huU
            refine ⟨us', huU, by rw [st3.1]; omega, (hPn _ _ _).mpr ⟨ents' ++ [((g1, g2), w ++ [(x : Int)])], us' ++ [V.ref q], rs' ++ [V.ref p5], _, _, ((sT.over hpn).trans sTU).over hp4n, ?_, upd_same, stU.mono kU, ?_, bf4, se4, he4, rfl⟩⟩
            . rw [upd_ne (Ne.symm hp4p)]; exact hrU
            . have := foU.mono kU
              rw [List.map_append]; exact this
        . obtain ⟨ents', us', rs', o7, o8, s3, hr3, hu3, st3, fo3, bf3, se3, he3, rfl⟩ := (hPn _ _ _).mp h3
          obtain ⟨bf4, htop4⟩ := bf3.next (by omega) (by omega) se3 he3
          exact (hPv _ _ _).mpr ⟨ents', us', rs', i + 1, _, _, _, _, .inl rfl, s3, hr3, hu3, st3, fo3, bf4, htop4, rfl⟩
      . refine (hPv _ _ _).mpr ⟨ents, us, rs, i, top, _, _, _, .inr ⟨by omega, by omega⟩, s2, hr2, hu2, st2, fo2, bf, htop, rfl⟩
    . obtain ⟨ents, us, rs, i, top, o6, o7, o8, him, s2, hr2, hu2, st2, fo2, bf, htop, rfl⟩ := (hPv _ _ _).mp hpv
      have hbl := bf.lenP
      have hil := bf.il
      have e1 : i = ents.length := by omega
      subst e1
      walk_at "rd"
      have hrl : rs.length = ents.length := by rw [fo2.1, List.length_map]
      refine ⟨_, .inl (SqL.of hr2), by omega, by omega, ?_⟩
      rw [hrl, Int.toNat_natCast]
      obtain ⟨Pc, hPc⟩ : ∃ Pc : Nat -> List V -> St -> Hp -> Prop, ∀ j ys σ4 H4, Pc j ys σ4 H4 ↔ (Same H2 H4 /\ SpotL H4 (ents.take j) ys /\ ∃ o, σ4 = [o, some (.ref p4), some (.ref p)]) := ⟨_, fun _ _ _ _ => Iff.rfl⟩
      refine compR Pc ((hPc _ _ _ _).mpr ⟨Same.refl _, ⟨rfl, fun i e h => by simp at h⟩, none, rfl⟩) (by omega) (fun j ys σ4 H4 hj h4 => ?_) (fun j ys σ4 H4 hj h4 => ?_) (fun ys σ4 H4 h4 D hD => ?_)
      . obtain ⟨_, hS, _⟩ := (hPc _ _ _ _).mp h4
        rw [hS.1, List.length_take]; omega
      . obtain ⟨s4, hS, o, rfl⟩ := (hPc _ _ _ _).mp h4
        rw [Int.zero_add]
        have hej : ents[j]? = some ents[j] := by simp [hj]
        have et : ents.take (j + 1) = ents.take j ++ [ents[j]] := by rw [List.take_add_one, hej]; rfl
        obtain ⟨bp, hbp1, hbp2⟩ := fo2.2 j _ (by rw [List.getElem?_map, hej]; rfl)
        obtain ⟨tw, htw1, htw2⟩ := st2.2 j _ hej
        walk_at "rd"
        have hbI : atI rs (j : Int) = some (V.ref bp) := atI_of (by omega) (by rw [Int.toNat_natCast]; exact hbp1)
        refine ⟨_, SqL.of (s4 _ _ hu2), _, atI_of (v := V.ref tw) (by omega) (by rw [Int.toNat_natCast]; exact htw1), _, SqL.of (s4 _ _ hr2), _, hbI, _, rfl, _, SqT.of (s4 _ _ hbp2), _, rfl, _, SqL.of (s4 _ _ hr2), _, hbI, _, rfl, _, SqT.of (s4 _ _ hbp2), _, rfl, by omega, fun pp hpp => (hPc _ _ _ _).mpr ⟨s4.newT hpp, ?_, _, rfl⟩⟩
        rw [et]
        exact (hS.mono (TK.new hpp)).snoc upd_same (Same.new hpp _ _ (s4 _ _ htw2))
      . obtain ⟨s4, hS, o, rfl⟩ := (hPc _ _ _ _).mp h4
        rw [List.take_length] at hS
        exact k D ents ys top _ (s2.trans (s4.newT hD)) (s2.none (s4.none hD)) upd_same (hS.mono (TK.new hD)) bf
def unlE (says says2 : List (List Int)) (L : Nat) (e : (Int × Int) × List Int) : List (List Int) := ((List.range L).filter fun (x : Nat) => decide (stepW says e.1.1 x ≠ stepW says2 e.1.2 x)).map fun x => e.2 ++ [Int.ofNat x]
def unlL (says says2 : List (List Int)) (L : Nat) (ents : List ((Int × Int) × List Int)) : List (List Int) := ents.flatMap (unlE says says2 L)
theorem unlE_len (says says2 : List (List Int)) (L : Nat) (e : (Int × Int) × List Int) : (unlE says says2 L e).length <= L := by
  unfold unlE
  rw [List.length_map]
  exact Nat.le_trans (List.length_filter_le _ _) (by rw [List.length_range]; exact Nat.le_refl _)
theorem unlL_len (says says2 : List (List Int)) (L : Nat) (ents : List ((Int × Int) × List Int)) : (unlL says says2 L ents).length <= ents.length * L := by
  induction ents with
  | nil => simp [unlL]
  | cons e es ih =>
    have := unlE_len says says2 L e
    show (unlE says says2 L e ++ unlL says says2 L es).length <= _
    rw [List.length_append, List.length_cons, Nat.succ_mul]
    omega
def sp_unl55 (K : PySem.W.Frag) : Sp := fun vs H Q _ => ∃ (h h2 : Addr) (L : Int) (says says2 ways ways2 : List (List Int)), vs = [.ref h, .ref h2] /\ SaysH K H h L says ways /\ WfS L says ways /\ SaysH K H h2 L says2 ways2 /\ WfS L says2 ways2 /\ ∀ l ents us top H', Same H H' -> H' l = some (.lst us) -> WordsT K H' us (unlL says says2 L.toNat ents) -> B L (stepP ways ways2) (0, 0) (okP says.length says2.length) ents ents.length top -> us.length <= 10000 -> Q (.ref l) H'
theorem ok__law_unlike_words {f : Addr} {fd : FuncData} (F : Fun K "_law_unlike_words" "_law_unlike_words" s__law_unlike_words f fd) (T : Txt mg)
    (Z : Exs K mg C_AskError C_BadHouse C_BadWord)
    {f__law_pairs : Addr} {fd__law_pairs : FuncData} (g__law_pairs : FnOk P w K mg base CX0 1 f__law_pairs fd__law_pairs ["one", "two"] (sp_pairs55 K)) (F__law_pairs : Fun K "_law_pairs" "_law_pairs" s__law_pairs f__law_pairs fd__law_pairs) (b__law_pairs : Binds K fd__law_pairs ["one", "two"] []) (m__law_pairs : mg "_law_pairs" = some (.ref f__law_pairs))
    : FnOk P w K mg base CX0 2 f fd ["one", "two"] (sp_unl55 K) := by
  refine F.ok sc__law_unlike_words (fun vs H Q E h => ?_) (fun cdv A outer s H vs Q E hr h => ?_)
  . obtain ⟨h, h2, L, says, says2, ways, ways2, rfl, _⟩ := h; rfl
  . obtain ⟨h, h2, L, says, says2, ways, ways2, rfl, hh, wf, hh2, wf2, k⟩ := h
    have hl := line1000
    have hL1 := wf.wf.l1
    have hL6 := wf.wf.l6
    have hn40 := wf.wf.n40
    have hm40 := wf2.wf.n40
    rw [List.length_replicate] at hn40 hm40
    have hnm : says.length * says2.length <= 1600 := Nat.mul_le_mul hn40 hm40
    refine ⟨_, (pss_cons (ps_setL (i := 2) sc__law_unlike_words.nd (pe_lst pa_nil))
      (pss_cons (ps_for PassesOwn.never rfl (pi_list (pe_call g__law_pairs (hr.mono (by decide)) rfl m__law_pairs F__law_pairs.kp b__law_pairs .nil pass0 (pa_cons (pvD 0) (pa_cons (pvD 1) pa_nil)))) (pg_name (i := 3) sc__law_unlike_words.nd rfl (Or.inl rfl))
      (pss_one (ps_for PassesOwn.never rfl (pi_range1 rfl T.range (pa_cons (pe_ixA (ixTD ix_tup) (pvD 0) pe_int) pa_nil)) (pg_name (i := 4) sc__law_unlike_words.nd rfl (Or.inl rfl))
      (pss_one (ps_if (ptT (pt_cmpR (opN op_ne) (pe_ixA (ixTD ix_tup) (pe_ixA (ixTD ix_tup) (pe_ixA (ixTD ix_tup) (pvD 0) pe_int) (pe_ixA (ixTD ix_tup) (pvD 3) pe_int)) (pvD 4)) (pe_ixA (ixTD ix_tup) (pe_ixA (ixTD ix_tup) (pe_ixA (ixTD ix_tup) (pvD 1) pe_int) (pe_ixA (ixTD ix_tup) (pvD 3) pe_int)) (pvD 4)) (nomark _)))
      (pss_one (ps_expr (pe_bm PySem.F.plainAttrs_list PySem.F.slot_list_append PySem.F.type_list_append mt_append (pvD 2) (pa_cons (pe_op op_catT2 (pe_ixA (ixTD ix_tup) (pvD 3) pe_int) (pe_tup (pa_cons (pvD 4) pa_nil))) pa_nil))))
      pss_nil)))))
      (pss_one (ps_ret (pvD 2))))), ?_⟩
    walk_at "rd"
    refine ⟨by omega, fun p hp => ⟨h, h2, L, says, says2, ways, ways2, rfl, hh.mono (Same.new hp), wf, hh2.mono (Same.new hp), wf2, fun l ents ss top H1 s1 hln hl1 hS bf => ⟨_, rfl, ⟨_, SqL.of hl1⟩, ?_⟩⟩⟩
    have hp1 := s1 _ _ (show upd H p (.lst []) p = _ from upd_same)
    have sH1 : Same H H1 := (Same.new hp).trans s1
    have hbl := bf.lenP
    have hlp : l ≠ p := (none_of_upd hln).2
    obtain ⟨Pv, hPv⟩ : ∃ Pv : Nat -> St -> Hp -> Prop, ∀ i σ2 H2, Pv i σ2 H2 ↔ (∃ (us : List V) (o3 o4 : Option V), Same H H2 /\ H2 p = some (.lst us) /\ H2 l = some (.lst ss) /\ SpotL H2 ents ss /\ WordsT K H2 us (unlL says says2 L.toNat (ents.take i)) /\ σ2 = [some (.ref h), some (.ref h2), some (.ref p), o3, o4]) := ⟨_, fun _ _ _ => Iff.rfl⟩
    refine forL (xs := ss) Pv ((hPv _ _ _).mpr ⟨[], none, none, sH1, hp1, hl1, hS, WordsT.nil, rfl⟩) (fun i σ2 H2 _ h' => by obtain ⟨us, o3, o4, _, _, hq, _⟩ := (hPv _ _ _).mp h'; exact SqL.of hq) (fun i v σ2 H2 hv h' => ?_) (fun σ2 H2 h' => ?_)
    . obtain ⟨us, o3, o4, s2, hp2, hl2, hS2, hW2, rfl⟩ := (hPv _ _ _).mp h'
      have hi : i < ents.length := by rw [<- hS.1]; exact (List.getElem?_eq_some_iff.mp hv).1
      have hei : ents[i]? = some ents[i] := by simp [hi]
      obtain ⟨t, u, e1, e2, e3⟩ := hS2.2 i _ hei
      rw [hv] at e1
      cases e1
      have et : ents.take (i + 1) = ents.take i ++ [ents[i]] := by rw [List.take_add_one, hei]; rfl
      have hmem := List.mem_of_getElem? hei
      have hr' : okP says.length says2.length ents[i].1 := bf.rng _ hmem
      have hsh := bf.sh i _ hei
      generalize ents[i] = e at e2 e3 et hmem hr' hsh
      obtain ⟨⟨ra, rb⟩, w⟩ := e
      have hwl : w.length <= i := hsh
      obtain ⟨⟨ra0, ra1⟩, rb0, rb1⟩ := id hr'
      obtain ⟨m, wv, q1, q2, q3⟩ := id hh
      obtain ⟨m', wv', q1', q2', q3'⟩ := id hh2
      walk_at "rd"
      refine ⟨_, s2.seqT q1, _, rfl, _, rfl, by omega, by omega, ?_⟩
      obtain ⟨Pn, hPn⟩ : ∃ Pn : Nat -> St -> Hp -> Prop, ∀ x σ3 H3, Pn x σ3 H3 ↔ (∃ (us : List V) (o4 : Option V), Same H H3 /\ H3 p = some (.lst us) /\ H3 l = some (.lst ss) /\ SpotL H3 ents ss /\ H3 t = some (.tup [.ref u, .int ra, .int rb]) /\ H3 u = some (.tup (w.map V.int)) /\ WordsT K H3 us (unlL says says2 L.toNat (ents.take i) ++ unlE says says2 x ((ra, rb), w)) /\ σ3 = [some (.ref h), some (.ref h2), some (.ref p), some (.ref t), o4]) := ⟨_, fun _ _ _ => Iff.rfl⟩
      refine forR Pn ((hPn _ _ _).mpr ⟨us, o4, s2, hp2, hl2, hS2, e2, e3, by rw [show unlE says says2 0 ((ra, rb), w) = [] from rfl, List.append_nil]; exact hW2, rfl⟩) (fun x σ3 H3 hx h3 => ?_) (fun σ3 H3 h3 => ?_)
      . obtain ⟨us, o4, s3, hp3, hl3, hS3, ht3, hu3, hW3, rfl⟩ := (hPn _ _ _).mp h3
        rw [Int.zero_add]
        obtain ⟨r1, c1, c2⟩ := wf.at ra0 ra1 (show (0 : Int) <= (x : Int) by omega) (by omega)
        obtain ⟨r2, d1, d2⟩ := wf2.at rb0 rb1 (show (0 : Int) <= (x : Int) by omega) (by omega)
        obtain ⟨xs, a, z1, z2, z3⟩ := q2.atZ ra0 c1
        obtain ⟨xs', a', z1', z2', z3'⟩ := q2'.atZ rb0 d1
        walk_at "rd"
        refine ⟨_, s3.seqT q1, _, rfl, _, SqT.of ht3, _, rfl, _, rfl, _, _, rfl, s3.seqT z1, _, z2, _, rfl, _, s3.seqT z3, _, atI_int (by omega) c2, _, s3.seqT q1', _, rfl, _, SqT.of ht3, _, rfl, _, rfl, _, _, rfl, s3.seqT z1', _, z2', _, rfl, _, s3.seqT z3', _, atI_int (by omega) d2, rfl, ?_⟩
        have hus : us.length <= 10000 := by
          rw [hW3.1, List.length_append]
          have a1 := unlL_len says says2 L.toNat (ents.take i)
          have a2 := unlE_len says says2 x ((ra, rb), w)
          have h6 : (ents.take i).length * L.toNat <= 1600 * 6 := Nat.mul_le_mul (by rw [List.length_take]; omega) (by omega)
          omega
        by_cases e : stepW says ra x = stepW says2 rb x
        . rw [if_neg (by rw [decide_eq_true (congrArg V.int e)]; decide)]
          refine (hPn _ _ _).mpr ⟨us, _, s3, hp3, hl3, hS3, ht3, hu3, ?_, rfl⟩
          rw [show unlE says says2 (x + 1) ((ra, rb), w) = unlE says says2 x ((ra, rb), w) by
            unfold unlE
            rw [List.range_succ, List.filter_append, List.filter_cons_of_neg (by simp only [ne_eq, e, not_true, decide_false]; decide), List.filter_nil, List.append_nil]]
          exact hW3
        . rw [if_pos (by rw [decide_eq_false (fun z => e (V.int.inj z))]; decide)]
          refine ⟨.inl ⟨rfl, _, SqL.of hp3⟩, _, SqT.of ht3, _, rfl, by omega, fun p6 hp6 => rCatT2.ofS (Same.new hp6 _ _ hu3) upd_same (by simp; omega) fun q HU sU' hq => ?_⟩
          have hq : HU q = some (.tup ((w ++ [(x : Int)]).map V.int)) := by rw [List.map_append]; exact hq
          have sU := (Same.new hp6 (o := .tup [V.int x])).trans sU'
          have kU := TK.lst (o := .lst (us ++ [V.ref q])) (sU _ _ hp3)
          refine ⟨us, sU _ _ hp3, by omega, (hPn _ _ _).mpr ⟨us ++ [V.ref q], _, (s3.trans sU).over hp, upd_same, by rw [upd_ne hlp]; exact sU _ _ hl3, (hS3.mono (TK.of sU)).mono kU, kU _ _ (sU _ _ ht3), kU _ _ (sU _ _ hu3), ?_, rfl⟩⟩
          rw [show unlE says says2 (x + 1) ((ra, rb), w) = unlE says says2 x ((ra, rb), w) ++ [w ++ [(x : Int)]] by
            unfold unlE
            rw [List.range_succ, List.filter_append, List.filter_cons_of_pos (by simp only [ne_eq, e, not_false_eq_true, decide_true]), List.filter_nil, List.map_append]; rfl, <- List.append_assoc]
          exact ((hW3.mono (TK.of sU)).mono kU).snoc (kU _ _ hq)
      . obtain ⟨us, o4, s3, hp3, hl3, hS3, ht3, hu3, hW3, rfl⟩ := (hPn _ _ _).mp h3
        refine (hPv _ _ _).mpr ⟨us, _, _, s3, hp3, hl3, hS3, ?_, rfl⟩
        rw [et, show unlL says says2 L.toNat (ents.take i ++ [((ra, rb), w)]) = unlL says says2 L.toNat (ents.take i) ++ unlE says says2 L.toNat ((ra, rb), w) by unfold unlL; rw [List.flatMap_append, List.flatMap_cons, List.flatMap_nil, List.append_nil]]
        exact hW3
    . obtain ⟨us, o3, o4, s2, hp2, hl2, hS2, hW2, rfl⟩ := (hPv _ _ _).mp h'
      rw [hS.1, List.take_length] at hW2
      walk_at "rd"
      refine k p ents us top H2 s2 hp2 hW2 bf ?_
      rw [hW2.1]
      have := unlL_len says says2 L.toNat ents
      have h6 : ents.length * L.toNat <= 1600 * 6 := Nat.mul_le_mul (by omega) (by omega)
      omega
def Alk (L : Int) (s1 w1 s2 w2 : List (List Int)) : Prop := ∀ ws, isW L ws = true -> rwS s1 (walkR w1 0 ws) = rwS s2 (walkR w2 0 ws)
theorem Alk.symm {L : Int} {s1 w1 s2 w2 : List (List Int)} (h : Alk L s1 w1 s2 w2) : Alk L s2 w2 s1 w1 := fun ws hw => (h ws hw).symm
theorem Alk.trans {L : Int} {s1 w1 s2 w2 s3 w3 : List (List Int)} (h : Alk L s1 w1 s2 w2) (g : Alk L s2 w2 s3 w3) : Alk L s1 w1 s3 w3 := fun ws hw => (h ws hw).trans (g ws hw)
theorem alk_of {L n : Int} {s1 w1 s2 w2 : List (List Int)} (φ : Int -> Int) (h0 : φ 0 = 0) (hn : 0 < n) (hr : ∀ r, 0 <= r -> r < n -> rwS s2 (φ r) = rwS s1 r) (hs : ∀ r x, 0 <= r -> r < n -> 0 <= x -> x < L -> (0 <= stepW w1 r x /\ stepW w1 r x < n) /\ stepW w2 (φ r) x = φ (stepW w1 r x)) : Alk L s1 w1 s2 w2 := by
  have key : ∀ ws : List Int, (∀ x ∈ ws, 0 <= x /\ x < L) -> ∀ r, 0 <= r -> r < n -> (0 <= walkR w1 r ws /\ walkR w1 r ws < n) /\ walkR w2 (φ r) ws = φ (walkR w1 r ws) := fun ws => by
    induction ws with
    | nil => intro _ r r0 r1; exact ⟨⟨r0, r1⟩, rfl⟩
    | cons x ws ih =>
      intro hw r r0 r1
      have hx := hw x (List.mem_cons_self)
      obtain ⟨⟨a, b⟩, c⟩ := hs r x r0 r1 hx.1 hx.2
      have := ih (fun y hy => hw y (List.mem_cons_of_mem _ hy)) _ a b
      refine ⟨this.1, ?_⟩
      show walkR w2 (stepW w2 (φ r) x) ws = φ (walkR w1 (stepW w1 r x) ws)
      rw [c]
      exact this.2
  intro ws hw
  have := key ws (fun x hx => isW_iff.mp hw x hx) 0 (Int.le_refl _) hn
  rw [h0] at this
  rw [this.2, hr _ this.1.1 this.1.2]
structure OrdOk (n : Nat) (ord : List Int) : Prop where
  len : ord.length = n
  z : ord[0]? = some 0
  rg : ∀ (i : Nat) (x : Int), ord[i]? = some x -> 0 <= x /\ x < (n : Int)
  inj : ∀ (i j : Nat) (x : Int), ord[i]? = some x -> ord[j]? = some x -> i = j
  sur : ∀ k : Nat, k < n -> ∃ i : Nat, ord[i]? = some (k : Int)
theorem OrdOk.idx {n : Nat} {ord : List Int} (h : OrdOk n ord) {k : Nat} (hk : k < n) : ord[ord.idxOf (k : Int)]? = some (k : Int) /\ ord.idxOf (k : Int) < n := by
  obtain ⟨i, hi⟩ := h.sur k hk
  have hm := List.mem_of_getElem? hi
  have hl := List.idxOf_lt_length_of_mem hm
  exact ⟨by rw [List.getElem?_eq_getElem hl, List.getElem_idxOf], by rw [<- h.len]; exact hl⟩
def ordF (n s : Nat) (k : Nat) : Int := if k = 0 then 0 else if k + s < n then (k : Int) + s else (k : Int) + s + 1 - n
def ordW (n s : Nat) : List Int := (List.range n).map (ordF n s)
theorem ordW_at {n s i : Nat} {x : Int} (h : (ordW n s)[i]? = some x) : i < n /\ x = ordF n s i := by
  unfold ordW at h
  rw [List.getElem?_map] at h
  by_cases hi : i < n
  . rw [List.getElem?_range hi] at h; exact ⟨hi, (Option.some.inj h).symm⟩
  . rw [List.getElem?_eq_none (by rw [List.length_range]; omega)] at h; cases h
theorem ordW_get {n s i : Nat} (h : i < n) : (ordW n s)[i]? = some (ordF n s i) := by
  unfold ordW
  rw [List.getElem?_map, List.getElem?_range h]; rfl
theorem ordW_ok {n s : Nat} (hn : 1 <= n) (hs : s + 1 < n \/ n = 1) : OrdOk n (ordW n s) := by
  refine ⟨by unfold ordW; rw [List.length_map, List.length_range], by rw [ordW_get (by omega)]; rfl, fun i x h => ?_, fun i j x h g => ?_, fun k hk => ?_⟩
  . obtain ⟨hi, rfl⟩ := ordW_at h
    unfold ordF
    split
    . omega
    . split <;> omega
  . obtain ⟨hi, rfl⟩ := ordW_at h
    obtain ⟨hj, e⟩ := ordW_at g
    unfold ordF at e
    repeat' (split at e)
    all_goals omega
  . by_cases h0 : k = 0
    . exact ⟨0, by rw [ordW_get (by omega), h0]; rfl⟩
    . by_cases h1 : s < k
      . refine ⟨k - s, ?_⟩
        rw [ordW_get (by omega)]
        unfold ordF
        rw [if_neg (by omega), if_pos (by omega)]
        congr 1; omega
      . refine ⟨k + (n - 1) - s, ?_⟩
        rw [ordW_get (by omega)]
        unfold ordF
        rw [if_neg (by omega), if_neg (by omega)]
        congr 1; omega
def renS (ord : List Int) (says : List (List Int)) (n : Nat) : List (List Int) := (List.range n).map fun k : Nat => says.getD (ord.idxOf (k : Int)) []
def renW (ord : List Int) (ways : List (List Int)) (n : Nat) : List (List Int) := (List.range n).map fun k : Nat => (ways.getD (ord.idxOf (k : Int)) []).map fun g => ord.getD g.toNat 0
theorem renS_get {ord : List Int} {says : List (List Int)} {n k : Nat} (h : k < n) : (renS ord says n)[k]? = some (says.getD (ord.idxOf (k : Int)) []) := by
  unfold renS
  rw [List.getElem?_map, List.getElem?_range h]; rfl
theorem renW_get {ord : List Int} {ways : List (List Int)} {n k : Nat} (h : k < n) : (renW ord ways n)[k]? = some ((ways.getD (ord.idxOf (k : Int)) []).map fun g => ord.getD g.toNat 0) := by
  unfold renW
  rw [List.getElem?_map, List.getElem?_range h]; rfl
theorem OrdOk.getD {n : Nat} {ord : List Int} (h : OrdOk n ord) {r : Int} (r0 : 0 <= r) (r1 : r < n) : ord[r.toNat]? = some (ord.getD r.toNat 0) /\ 0 <= ord.getD r.toNat 0 /\ ord.getD r.toNat 0 < (n : Int) /\ ord.idxOf (ord.getD r.toNat 0) = r.toNat := by
  have hl : r.toNat < ord.length := by rw [h.len]; omega
  have e : ord[r.toNat]? = some (ord.getD r.toNat 0) := by rw [List.getD_eq_getElem?_getD, List.getElem?_eq_getElem hl]; rfl
  have hr := h.rg _ _ e
  refine ⟨e, hr.1, hr.2, ?_⟩
  have := (h.idx (k := (ord.getD r.toNat 0).toNat) (by omega)).1
  rw [Int.toNat_of_nonneg hr.1] at this
  exact h.inj _ _ _ this e
theorem ren_wf {L : Int} {ord : List Int} {says ways : List (List Int)} (wf : WfS L says ways) (ho : OrdOk says.length ord) : WfS L (renS ord says says.length) (renW ord ways says.length) /\ Alk L says ways (renS ord says says.length) (renW ord ways says.length) := by
  have hn1 := wf.wf.n1
  have hn40 := wf.wf.n40
  have hlen := wf.wf.len
  rw [List.length_replicate] at hn1 hn40 hlen
  have hls : (renS ord says says.length).length = says.length := by unfold renS; rw [List.length_map, List.length_range]
  have hlw : (renW ord ways says.length).length = says.length := by unfold renW; rw [List.length_map, List.length_range]
  have hmem : ∀ k, k < says.length -> ways.getD (ord.idxOf (k : Int)) [] ∈ ways := fun k hk => by
    have hi : ord.idxOf (k : Int) < ways.length := by rw [hlen]; exact (ho.idx hk).2
    rw [List.getD_eq_getElem?_getD, List.getElem?_eq_getElem hi]
    exact List.getElem_mem hi
  have hmem2 : ∀ k, k < says.length -> says.getD (ord.idxOf (k : Int)) [] ∈ says := fun k hk => by
    have hi : ord.idxOf (k : Int) < says.length := (ho.idx hk).2
    rw [List.getD_eq_getElem?_getD, List.getElem?_eq_getElem hi]
    exact List.getElem_mem hi
  refine ⟨⟨⟨wf.wf.l1, wf.wf.l6, by rw [List.length_replicate, hls]; exact hn1, by rw [List.length_replicate, hls]; exact hn40, by rw [List.length_replicate, hls, hlw], fun row hr => ?_, fun m hm => by rw [List.eq_of_mem_replicate hm]; omega⟩, fun row hr => ?_⟩, ?_⟩
  . obtain ⟨k, hk, rfl⟩ := List.mem_map.mp hr
    have hk := List.mem_range.mp hk
    have hw := wf.wf.rows _ (hmem k hk)
    refine ⟨by rw [List.length_map]; exact hw.1, fun x hx => ?_⟩
    obtain ⟨g, hg, rfl⟩ := List.mem_map.mp hx
    have hgr := hw.2 g hg
    rw [List.length_replicate] at hgr
    have := ho.getD hgr.1 hgr.2
    rw [List.length_replicate, hls]
    exact ⟨this.2.1, this.2.2.1⟩
  . obtain ⟨k, hk, rfl⟩ := List.mem_map.mp hr
    exact wf.sr _ (hmem2 k (List.mem_range.mp hk))
  . refine alk_of (n := says.length) (fun r => ord.getD r.toNat 0) ?_ (by omega) (fun r r0 r1 => ?_) (fun r x r0 r1 x0 x1 => ?_)
    . show ord.getD 0 0 = 0
      rw [List.getD_eq_getElem?_getD, ho.z]; rfl
    . have h := ho.getD r0 r1
      unfold rwS
      have e := renS_get (ord := ord) (says := says) (n := says.length) (k := (ord.getD r.toNat 0).toNat) (by omega)
      rw [Int.toNat_of_nonneg h.2.1, h.2.2.2] at e
      show (renS ord says says.length).getD (ord.getD r.toNat 0).toNat [] = _
      rw [List.getD_eq_getElem?_getD, e]; rfl
    . have h := ho.getD r0 r1
      obtain ⟨row, g, c1, c2, c3, c4, c5⟩ := wf.wf.step r0 (by rw [List.length_replicate]; exact r1) x0 x1
      rw [List.length_replicate] at c5
      rw [c3]
      refine ⟨⟨c4, c5⟩, ?_⟩
      have e := renW_get (ord := ord) (ways := ways) (n := says.length) (k := (ord.getD r.toNat 0).toNat) (by omega)
      rw [Int.toNat_of_nonneg h.2.1, h.2.2.2] at e
      refine stepW_of e ?_
      rw [List.getElem?_map, List.getD_eq_getElem?_getD, c1]
      show (row[x.toNat]?).map _ = _
      rw [c2]; rfl
def sp_order55 (K : PySem.W.Frag) : Sp := fun vs H Q _ => ∃ (n : Nat) (c : Int), vs = [.int n, .int c] /\ 1 <= n /\ n <= 40 /\ 0 <= c /\ ∀ p s H', Same H H' -> (s + 1 < n \/ n = 1) -> H' p = some (.lst ((ordW n s).map V.int)) -> Q (.ref p) H'
theorem ok__law_order {f : Addr} {fd : FuncData} (F : Fun K "_law_order" "_law_order" s__law_order f fd) (T : Txt mg)
    (Z : Exs K mg C_AskError C_BadHouse C_BadWord)
    : FnOk P w K mg base CX0 1 f fd ["rooms", "cell"] (sp_order55 K) := by
  refine F.ok sc__law_order (fun vs H Q E h => ?_) (fun cdv A outer s H vs Q E hr h => ?_)
  . obtain ⟨n, c, rfl, _⟩ := h; rfl
  . obtain ⟨n, c, rfl, n1, n40, c0, k⟩ := h
    have hl := line1000
    refine ⟨_, (pss_cons (ps_setL (i := 2) sc__law_order.nd (pe_listRng rfl rfl T.list rfl T.range (pvD 0)))
      (pss_cons (ps_if (ptT (pt_cmpR (opD0 op_lt) (pvD 0) pe_int (nomark _)))
      (pss_one (ps_ret (pvD 2)))
      pss_nil)
      (pss_cons (ps_set (i := 3) sc__law_order.nd rfl (Or.inr rfl) (pe_op (opD op_mod) (pvD 1) (pe_op (opD0 op_sub) (pvD 0) pe_int)))
      (pss_one (ps_ret (pe_op op_cat (pe_lst (pa_cons pe_int pa_nil)) (pe_comp rfl (blk_mk rfl) (cp := c__law_order_0) ⟨⟨rfl, rfl⟩, ⟨⟨rfl, rfl⟩, True.intro⟩⟩ (pi_range1 rfl T.range (pa_cons (pe_op (opD0 op_sub) (pvD 0) pe_int) pa_nil)) (fun _ _ _ _ => (pg_name (i := 0) nd_c__law_order_0 rfl (Or.inl rfl))) (fun _ _ _ _ => pf_nil) (fun _ _ _ _ => (pe_op (opD0 op_add) pe_int (pe_op (opD op_mod) (pe_op (opD0 op_add) (pvD 0) (pvD 1)) (pe_op (opD0 op_sub) (pvD 2) pe_int))))))))))), ?_⟩
    walk_at "rd"
    refine ⟨by omega, by omega, fun p hp => ite2 (fun hlt => ?_) (fun hge => ?_)⟩
    . have e : n = 1 := by omega
      subst e
      exact k p 0 _ (Same.new hp) (.inr rfl) upd_same
    . refine ⟨by omega, by omega, fun q hq => ⟨by omega, by omega, ?_⟩⟩
      have s0 := (Same.new hp (o := .lst ((ups ((n : Int)).toNat).map V.int))).newT hq (o := .lst [V.int 0])
      generalize hH2 : upd (upd H p (.lst ((ups ((n : Int)).toNat).map V.int))) q (.lst [V.int 0]) = H2 at s0 ⊢
      have hq2 : H2 q = some (.lst [V.int 0]) := by rw [<- hH2]; exact upd_same
      clear hH2 hq
      have c1 := Int.emod_nonneg c (show (n : Int) - 1 ≠ 0 by omega)
      have c2 := Int.emod_lt_of_pos c (show (0 : Int) < (n : Int) - 1 by omega)
      obtain ⟨s, hs⟩ : ∃ s : Nat, c % ((n : Int) - 1) = s := ⟨_, (Int.toNat_of_nonneg c1).symm⟩
      rw [hs] at c2 ⊢
      obtain ⟨Pc, hPc⟩ : ∃ Pc : Nat -> List V -> St -> Hp -> Prop, ∀ j ys σ4 H4, Pc j ys σ4 H4 ↔ (H4 = H2 /\ ys = ((List.range j).map fun k => ordF n s (k + 1)).map V.int /\ ∃ o, σ4 = [o, some (.int s), some (.int n)]) := ⟨_, fun _ _ _ _ => Iff.rfl⟩
      refine compR Pc ((hPc _ _ _ _).mpr ⟨rfl, rfl, none, rfl⟩) (by omega) (fun j ys σ4 H4 hj h4 => ?_) (fun j ys σ4 H4 hj h4 => ?_) (fun ys σ4 H4 h4 D hD => ?_)
      . obtain ⟨_, rfl, _⟩ := (hPc _ _ _ _).mp h4
        rw [List.length_map, List.length_map, List.length_range]; exact Nat.le_refl _
      . obtain ⟨rfl, rfl, o, rfl⟩ := (hPc _ _ _ _).mp h4
        rw [Int.zero_add]
        walk_at "rd"
        refine ⟨by omega, (hPc _ _ _ _).mpr ⟨rfl, ?_, _, rfl⟩⟩
        rw [List.range_succ, List.map_append, List.map_append]
        have e : 1 + ((j : Int) + s) % ((n : Int) - 1) = ordF n s (j + 1) := by
          unfold ordF
          rw [if_neg (by omega)]
          by_cases hc : j + 1 + s < n
          . rw [if_pos hc, Int.emod_eq_of_lt (by omega) (by omega)]; push_cast; omega
          . rw [if_neg hc]
            have : ((j : Int) + s) % ((n : Int) - 1) = ((j : Int) + s - ((n : Int) - 1)) % ((n : Int) - 1) := by rw [Int.sub_emod_right]
            rw [this, Int.emod_eq_of_lt (by omega) (by omega)]; push_cast; omega
        rw [e]; rfl
      . obtain ⟨rfl, rfl, o, rfl⟩ := (hPc _ _ _ _).mp h4
        have sD := Same.new hD (o := .lst (((List.range ((n : Int) - 1).toNat).map fun k => ordF n s (k + 1)).map V.int))
        refine ⟨D, rfl, _, sD _ _ hq2, _, upd_same, by simp; omega, fun r hr => ?_⟩
        refine k r s _ (s0.trans (sD.newT hr)) (.inl (by omega)) ?_
        rw [upd_same]
        have : ordW n s = 0 :: (List.range ((n : Int) - 1).toNat).map fun k => ordF n s (k + 1) := by
          unfold ordW
          rw [show n = ((n : Int) - 1).toNat + 1 by omega, List.range_succ_eq_map, List.map_cons, List.map_map]
          rw [show ((n : Int) - 1).toNat + 1 = n by omega]
          rfl
        rw [this]; rfl
def sp_renum55 (K : PySem.W.Frag) : Sp := fun vs H Q _ => ∃ (h a : Addr) (L : Int) (says ways : List (List Int)) (ord : List Int), vs = [.ref h, .ref a] /\ SaysH K H h L says ways /\ WfS L says ways /\ H a = some (.lst (ord.map V.int)) /\ OrdOk says.length ord /\ ∀ g H', Same H H' -> SaysH K H' g L (renS ord says says.length) (renW ord ways says.length) -> Q (.ref g) H'
theorem ok__law_renumbered {f : Addr} {fd : FuncData} (F : Fun K "_law_renumbered" "_law_renumbered" s__law_renumbered f fd) (T : Txt mg)
    (Z : Exs K mg C_AskError C_BadHouse C_BadWord)
    : FnOk P w K mg base CX0 1 f fd ["house", "order"] (sp_renum55 K) := by
  refine F.ok sc__law_renumbered (fun vs H Q E h => ?_) (fun cdv A outer s H vs Q E hr h => ?_)
  . obtain ⟨h, a, L, says, ways, ord, rfl, _⟩ := h; rfl
  . obtain ⟨h, a, L, says, ways, ord, rfl, hh, wf, ha, ho, k⟩ := h
    have hl := line1000
    have hL1 := wf.wf.l1
    have hL6 := wf.wf.l6
    have hn40 := wf.wf.n40
    have hlen := wf.wf.len
    rw [List.length_replicate] at hn40 hlen
    obtain ⟨m, wv, q1, q2, q3⟩ := id hh
    obtain ⟨ts, qa, qb, qc⟩ := id q2
    refine ⟨_, (pss_cons (ps_setL (i := 2) sc__law_renumbered.nd (pe_callB (lenD call_len_seq) (by rfl) T.len PySem.boot_len (pa_cons (pe_ixA (ixTD ix_tup) (pvD 0) pe_int) pa_nil)))
      (pss_cons (ps_setL (i := 3) sc__law_renumbered.nd (pe_lst pa_nil))
      (pss_cons (ps_setL (i := 4) sc__law_renumbered.nd (pe_lst pa_nil))
      (pss_cons (ps_for PassesOwn.never rfl (pi_range1 rfl T.range (pa_cons (pvD 2) pa_nil)) (pg_name (i := 5) sc__law_renumbered.nd rfl (Or.inl rfl))
      (pss_cons (ps_setL (i := 6) sc__law_renumbered.nd (pe_bm PySem.F.plainAttrs_list PySem.F.slot_list_index PySem.F.type_list_index mt_lindex (pvD 1) (pa_cons (pvD 5) pa_nil)))
      (pss_cons (ps_expr (pe_bm PySem.F.plainAttrs_list PySem.F.slot_list_append PySem.F.type_list_append mt_append (pvD 3) (pa_cons (pe_ixA (ixTD ix_tup) (pe_ixA (ixTD ix_tup) (pvD 0) pe_int) (pvD 6)) pa_nil)))
      (pss_one (ps_expr (pe_bm PySem.F.plainAttrs_list PySem.F.slot_list_append PySem.F.type_list_append mt_append (pvD 4) (pa_cons (pe_callTy call_tuple_L rfl T.tuple PyProof.Rows.boot_tuple (pa_cons (pe_comp rfl (blk_mk rfl) (cp := c__law_renumbered_3) ⟨⟨rfl, rfl⟩, True.intro⟩ (pi_tup (pe_ixA (ixTD ix_tup) (pe_ixA (ixTD ix_tup) (pvD 0) pe_int) (pvD 6))) (fun _ _ _ _ => (pg_name (i := 0) nd_c__law_renumbered_3 rfl (Or.inl rfl))) (fun _ _ _ _ => pf_nil) (fun _ _ _ _ => (pe_ixA (ixLD (ix_listK (K := K) rfl)) (pvD 1) (pvD 0)))) pa_nil)) pa_nil)))))))
      (pss_one (ps_ret (pe_tup (pa_cons (pe_ixA (ixTD ix_tup) (pvD 0) pe_int) (pa_cons (pe_callTy call_tuple_L rfl T.tuple PyProof.Rows.boot_tuple (pa_cons (pvD 3) pa_nil)) (pa_cons (pe_callTy call_tuple_L rfl T.tuple PyProof.Rows.boot_tuple (pa_cons (pvD 4) pa_nil)) pa_nil)))))))))), ?_⟩
    walk_at "rd"
    refine ⟨_, q1, _, rfl, _, rfl, _, .inr qa, by omega, fun ps hps => ⟨by omega, fun pw hpw => ?_⟩⟩
    rw [List.length_map, qb, Int.toNat_natCast]
    refine ⟨by omega, by omega, ?_⟩
    have hpp : pw ≠ ps := (none_of_upd hpw).2
    have hpw0 : H pw = none := (none_of_upd hpw).1
    obtain ⟨Pv, hPv⟩ : ∃ Pv : Nat -> St -> Hp -> Prop, ∀ i σ' H', Pv i σ' H' ↔ (∃ (o o' : Option V), Same H H' /\ TupsL K H' ps (renS ord says i) /\ TupsL K H' pw (renW ord ways i) /\ σ' = [some (.ref h), some (.ref a), some (.int says.length), some (.ref ps), some (.ref pw), o, o']) := ⟨_, fun _ _ _ => Iff.rfl⟩
    refine forR Pv ((hPv _ _ _).mpr ⟨none, none, (Same.new hps).newT hpw, TupsL.nil ((Same.new hpw) _ _ upd_same), TupsL.nil upd_same, rfl⟩) (fun i σ2 H2 hi h2 => ?_) (fun σ2 H2 h2 => ?_)
    . obtain ⟨o, o', s2, hS, hW, rfl⟩ := (hPv _ _ _).mp h2
      rw [Int.zero_add]
      walk_at "rd"
      obtain ⟨hj, hjn⟩ := ho.idx hi
      obtain ⟨r1, hr1⟩ : ∃ r1, says[ord.idxOf (i : Int)]? = some r1 := ⟨says[ord.idxOf (i : Int)], by simp [hjn]⟩
      obtain ⟨r2, hr2⟩ : ∃ r2, ways[ord.idxOf (i : Int)]? = some r2 := ⟨ways[ord.idxOf (i : Int)]'(by omega), by simp [show ord.idxOf (i : Int) < ways.length by omega]⟩
      have eS : renS ord says (i + 1) = renS ord says i ++ [r1] := by
        unfold renS
        rw [List.range_succ, List.map_append, List.map_cons, List.map_nil, List.getD_eq_getElem?_getD, hr1]; rfl
      have eW : renW ord ways (i + 1) = renW ord ways i ++ [r2.map fun g => ord.getD g.toNat 0] := by
        unfold renW
        rw [List.range_succ, List.map_append, List.map_cons, List.map_nil, List.getD_eq_getElem?_getD, hr2]; rfl
      have hw2 := wf.wf.rows _ (List.mem_of_getElem? hr2)
      rw [List.length_replicate] at hw2
      have hls : (renS ord says i).length = i := by unfold renS; rw [List.length_map, List.length_range]
      have hlw : (renW ord ways i).length = i := by unfold renW; rw [List.length_map, List.length_range]
      generalize hjj : ord.idxOf (i : Int) = j at hj hjn hr1 hr2
      have ha2 := s2 _ _ ha
      obtain ⟨xs1, t1, z1, z2, z3⟩ := (q2.mono s2).atZ (r := (j : Int)) (by omega) (by rw [Int.toNat_natCast]; exact hr1)
      obtain ⟨xs, e1, e2, e3⟩ := hS.push (w := r1) (t := t1) z3
      have hWt := hW.off e1 (ys := xs ++ [V.ref t1]) hpp
      have s5 : Same H (upd H2 ps (.lst (xs ++ [V.ref t1]))) := s2.over hps
      refine ⟨.inl ⟨rfl, _, SqL.of ha2⟩, _, ha2, rfl, ?_, j, by omega, ⟨V.int (i : Int), by rw [List.getElem?_map, hj]; rfl, by rw [eqV_int]; simp⟩, fun m' z' hm hz' => ?_, .inl ⟨rfl, _, SqL.of e1⟩, _, s2.seqT q1, _, rfl, _, rfl, _, z1, _, z2, xs, e1, by omega, ?_⟩
      . rw [List.all_eq_true]
        intro x hx
        obtain ⟨n', _, rfl⟩ := List.mem_map.mp hx
        rfl
      . obtain ⟨n', hn', rfl⟩ := get_mapI hz'
        rw [eqV_int]
        refine decide_eq_false fun z => ?_
        cases z
        have := ho.inj _ _ _ hn' hj
        omega
      obtain ⟨xs2, t2, y1, y2, y3⟩ := (q3.mono s5).atZ (r := (j : Int)) (by omega) (by rw [Int.toNat_natCast]; exact hr2)
      have ha5 := s5 _ _ ha
      generalize upd H2 ps (.lst (xs ++ [V.ref t1])) = H5 at e3 hWt s5 y1 y3 ha5 ⊢
      obtain ⟨us, hu1, _⟩ := id hWt
      refine ⟨.inl ⟨rfl, _, SqL.of hu1⟩, _, s5.seqT q1, _, rfl, _, rfl, _, y1, _, y2, _, rfl, ⟨_, y3⟩, ?_⟩
      refine compMapT (xs := r2.map V.int) (σ' := [some (V.ref a)]) (fun v => match v with | .int g => .int (ord.getD g.toNat 0) | v => v) rfl y3 (by rw [List.length_map]; omega) (fun x hx R hR => ?_) (fun D hD => ?_)
      . obtain ⟨g, hg, rfl⟩ := List.mem_map.mp hx
        have hgr := hw2.2 g hg
        walk_at "rd"
        exact ⟨_, SqL.of ha5, _, atI_int hgr.1 (ho.getD hgr.1 hgr.2).1, hR⟩
      refine ⟨D, rfl, _, .inl ⟨SqL.of upd_same, fun t ht => ?_⟩⟩
      have em : (r2.map V.int).map (fun v => match v with | .int g => .int (ord.getD g.toNat 0) | v => v) = (r2.map fun g => ord.getD g.toNat 0).map V.int := by
        rw [List.map_map, List.map_map]; rfl
      rw [em] at ht ⊢
      have sDt2 := (Same.new hD (o := .lst ((r2.map fun g => ord.getD g.toNat 0).map V.int))).newT ht (o := .tup ((r2.map fun g => ord.getD g.toNat 0).map V.int))
      obtain ⟨ys2, f1, f2, f3⟩ := (hWt.mono sDt2).push (w := r2.map fun g => ord.getD g.toNat 0) (t := t) (SqT.of upd_same)
      have hSt := (e3.mono sDt2).off f1 (ys := ys2 ++ [V.ref t]) (Ne.symm hpp)
      refine ⟨ys2, f1, by omega, (hPv _ _ _).mpr ⟨_, _, (s5.trans sDt2).over hpw0, by rw [eS]; exact hSt, by rw [eW]; exact f3, rfl⟩⟩
    . obtain ⟨o, o', s2, hS, hW, rfl⟩ := (hPv _ _ _).mp h2
      walk_at "rd"
      obtain ⟨xs, hx1, hrs⟩ := hS.rows
      refine ⟨_, s2.seqT q1, _, rfl, xs, .inl ⟨SqL.of hx1, fun t1 ht1 => ?_⟩⟩
      obtain ⟨ys, hy1, hrw⟩ := (hW.mono (Same.new ht1 (o := .tup xs))).rows
      refine ⟨ys, .inl ⟨SqL.of hy1, fun t2 ht2 => ⟨by omega, fun hh hhh => ?_⟩⟩⟩
      exact k hh _ (((s2.newT ht1).newT ht2).newT hhh) ⟨t1, t2, SqT.of upd_same, (hrs t1 ht1).mono ((Same.new ht2).newT hhh), (hrw t2 ht2).mono (Same.new hhh)⟩
def sp_dbl55 (K : PySem.W.Frag) : Sp := fun vs H Q _ => ∃ (h : Addr) (L c : Int) (says ways : List (List Int)), vs = [.ref h, .int c] /\ SaysH K H h L says ways /\ WfS L says ways /\ says.length < 40 /\ 0 <= c /\ ∀ g says' ways' H', Same H H' -> SaysH K H' g L says' ways' -> WfS L says' ways' -> says'.length = says.length + 1 -> Alk L says ways says' ways' -> Q (.ref g) H'
theorem ok__law_doubled {f : Addr} {fd : FuncData} (F : Fun K "_law_doubled" "_law_doubled" s__law_doubled f fd) (T : Txt mg)
    (Z : Exs K mg C_AskError C_BadHouse C_BadWord)
    : FnOk P w K mg base CX0 1 f fd ["house", "cell"] (sp_dbl55 K) := by
  refine F.ok sc__law_doubled (fun vs H Q E h => ?_) (fun cdv A outer s H vs Q E hr h => ?_)
  . obtain ⟨h, L, c, says, ways, rfl, _⟩ := h; rfl
  . obtain ⟨h, L, c, says, ways, rfl, hh, wf, h40, c0, k⟩ := h
    have hl := line1000
    have hL1 := wf.wf.l1
    have hL6 := wf.wf.l6
    have hn1 := wf.wf.n1
    have hlen := wf.wf.len
    rw [List.length_replicate] at hn1 hlen
    obtain ⟨m, wv, q1, q2, q3⟩ := id hh
    obtain ⟨ts, qa, qb, qc⟩ := id q2
    have r0 := Int.emod_nonneg c (show (says.length : Int) ≠ 0 by omega)
    have r1 := Int.emod_lt_of_pos c (show (0 : Int) < (says.length : Int) by omega)
    refine ⟨_, (pss_cons (ps_setL (i := 2) sc__law_doubled.nd (pe_callB (lenD call_len_seq) (by rfl) T.len PySem.boot_len (pa_cons (pe_ixA (ixTD ix_tup) (pvD 0) pe_int) pa_nil)))
      (pss_cons (ps_setL (i := 3) sc__law_doubled.nd (pe_op (opD op_mod) (pvD 1) (pvD 2)))
      (pss_cons (ps_setL (i := 4) sc__law_doubled.nd (pe_lst pa_nil))
      (pss_cons (ps_for PassesOwn.never rfl (pi_range1 rfl T.range (pa_cons (pe_op (opD0 op_add) (pvD 2) pe_int) pa_nil)) (pg_name (i := 5) sc__law_doubled.nd rfl (Or.inl rfl))
      (pss_cons (ps_setL (i := 6) sc__law_doubled.nd (pe_ixA (ixTD ix_tup) (pe_ixA (ixTD ix_tup) (pvD 0) pe_int) (pe_op (opD op_mod) (pvD 5) (pvD 2))))
      (pss_cut (ps_if (ptT (pt_cmpR (opE op_eq) (pvD 5) (pvD 2) (nomark _)))
      (pss_one (ps_setL (i := 6) sc__law_doubled.nd (pe_ixA (ixTD ix_tup) (pe_ixA (ixTD ix_tup) (pvD 0) pe_int) (pvD 3))))
      pss_nil)
      (pss_cons (ps_setL (i := 7) sc__law_doubled.nd (pe_lst pa_nil))
      (pss_cons (ps_for PassesOwn.never rfl (pi_range1 rfl T.range (pa_cons (pe_ixA (ixTD ix_tup) (pvD 0) pe_int) pa_nil)) (pg_name (i := 8) sc__law_doubled.nd rfl (Or.inl rfl))
      (pss_cons (ps_setL (i := 9) sc__law_doubled.nd (pe_ixA (ixTD ix_tup) (pvD 6) (pvD 8)))
      (pss_cut (ps_if (PW.pt (pw_and (ptT (pt_cmpR (opE op_eq) (pvD 9) (pvD 3) (nomark _))) (pw_and1 (ptT (pt_cmpR (opE op_eq) (pe_op (opD op_mod) (pe_op (opD0 op_add) (pe_op (opD0 op_add) (pe_op (opD op_fdiv) (pvD 1) pe_int) (pvD 5)) (pvD 8)) pe_int) pe_int (nomark _))))))
      (pss_one (ps_setL (i := 9) sc__law_doubled.nd (pvD 2)))
      pss_nil)
      (pss_one (ps_expr (pe_bm PySem.F.plainAttrs_list PySem.F.slot_list_append PySem.F.type_list_append mt_append (pvD 7) (pa_cons (pvD 9) pa_nil)))))))
      (pss_one (ps_expr (pe_bm PySem.F.plainAttrs_list PySem.F.slot_list_append PySem.F.type_list_append mt_append (pvD 4) (pa_cons (pe_callTy call_tuple_L rfl T.tuple PyProof.Rows.boot_tuple (pa_cons (pvD 7) pa_nil)) pa_nil)))))))))
      (pss_one (ps_ret (pe_tup (pa_cons (pe_ixA (ixTD ix_tup) (pvD 0) pe_int) (pa_cons (pe_op op_catT2 (pe_ixA (ixTD ix_tup) (pvD 0) pe_int) (pe_tup (pa_cons (pe_ixA (ixTD ix_tup) (pe_ixA (ixTD ix_tup) (pvD 0) pe_int) (pvD 3)) pa_nil))) (pa_cons (pe_callTy call_tuple_L rfl T.tuple PyProof.Rows.boot_tuple (pa_cons (pvD 4) pa_nil)) pa_nil)))))))))), ?_⟩
    walk_at "rd"
    refine ⟨_, q1, _, rfl, _, rfl, _, .inr qa, ?_⟩
    rw [List.length_map, qb]
    refine ⟨by omega, by omega, fun pw hpw => ⟨by omega, by omega, ?_⟩⟩
    obtain ⟨rm, hrm⟩ : ∃ rm : Nat, c % (says.length : Int) = rm := ⟨_, (Int.toNat_of_nonneg r0).symm⟩
    rw [hrm] at r1 ⊢
    have hrn : rm < says.length := by omega
    rw [show ((says.length : Int) + 1).toNat = says.length + 1 by omega]
    -- the old room of a room
    obtain ⟨ps, hps⟩ : ∃ ps : Int -> Int, ∀ r, ps r = if r = says.length then (rm : Int) else r := ⟨_, fun _ => rfl⟩
    obtain ⟨Pv, hPv⟩ : ∃ Pv : Nat -> St -> Hp -> Prop, ∀ i σ' H', Pv i σ' H' ↔ (∃ (ws : List (List Int)) (o1 o2 o3 o4 o5 : Option V), Same H H' /\ TupsL K H' pw ws /\ ws.length = i /\ (∀ (j : Nat) (row : List Int), ws[j]? = some row -> (row.length : Int) = L /\ ∀ (x : Nat) (g : Int), row[x]? = some g -> 0 <= g /\ g < says.length + 1 /\ ps g = stepW ways (ps j) x) /\ σ' = [some (.ref h), some (.int c), some (.int says.length), some (.int rm), some (.ref pw), o1, o2, o3, o4, o5]) := ⟨_, fun _ _ _ => Iff.rfl⟩
    refine forR Pv ((hPv _ _ _).mpr ⟨[], none, none, none, none, none, Same.new hpw, TupsL.nil upd_same, rfl, fun j row hj => by simp at hj, rfl⟩) (fun i σ2 H2 hi h2 => ?_) (fun σ2 H2 h2 => ?_)
    . obtain ⟨ws, o1, o2, o3, o4, o5, s2, hW, hwl, hwr, rfl⟩ := (hPv _ _ _).mp h2
      rw [Int.zero_add]
      walk_at "rd"
      -- the row of the old room
      have hpi0 : 0 <= ps i /\ ps i < says.length := by rw [hps]; split <;> omega
      obtain ⟨row, hrow, hrm', hrowl⟩ := wf.wf.row hpi0.1 (by rw [List.length_replicate]; exact hpi0.2)
      have hm0 := Int.emod_nonneg (i : Int) (show (says.length : Int) ≠ 0 by omega)
      have hm1 := Int.emod_lt_of_pos (i : Int) (show (0 : Int) < (says.length : Int) by omega)
      obtain ⟨rowx, hrowx, _, _⟩ := wf.wf.row hm0 (by rw [List.length_replicate]; exact hm1)
      obtain ⟨xs, t, z1, z2, z3⟩ := (q3.mono s2).atZ hm0 hrowx
      refine ⟨_, s2.seqT q1, _, rfl, by omega, _, rfl, _, z1, _, z2, ?_⟩
      obtain ⟨xs', t', y1, y2, y3⟩ := (q3.mono s2).atZ hpi0.1 hrow
      refine ⟨fun σ3 H3 => ∃ t', H3 = H2 /\ SqT K H2 t' (row.map V.int) /\ σ3 = [some (.ref h), some (.int c), some (.int says.length), some (.int rm), some (.ref pw), some (.int i), some (.ref t'), o3, o4, o5], ?_, ?_⟩
      . walk_at "rd"
        refine ite2 (fun e => ?_) (fun e => ?_)
        . have e2 : ps i = rm := by rw [hps, if_pos e]
          rw [e2] at y2
          exact ⟨_, s2.seqT q1, _, rfl, _, rfl, _, y1, _, y2, _, y3, rfl⟩
        . have e2 : ps i = (i : Int) % says.length := by rw [hps, if_neg e, Int.emod_eq_of_lt (by omega) (by omega)]
          rw [e2, hrowx] at hrow
          cases hrow
          exact ⟨t, z3, rfl⟩
      clear y1 y2 y3 t' xs'
      rintro σ3 H3 ⟨t', rfl, hrt, rfl⟩
      walk_at "rd"
      refine ⟨by omega, fun pt hpt => ⟨_, (s2.newT hpt).seqT q1, _, rfl, L, rfl, by omega, by omega, ?_⟩⟩
      have s3 := Same.new hpt (o := .lst [])
      obtain ⟨Pn, hPn⟩ : ∃ Pn : Nat -> St -> Hp -> Prop, ∀ x σ4 H4, Pn x σ4 H4 ↔ (∃ (tr : List Int) (o4 o5 : Option V), Same H3 H4 /\ H4 pt = some (.lst (tr.map V.int)) /\ tr.length = x /\ (∀ (y : Nat) (g : Int), tr[y]? = some g -> 0 <= g /\ g < says.length + 1 /\ ps g = stepW ways (ps i) y) /\ σ4 = [some (.ref h), some (.int c), some (.int says.length), some (.int rm), some (.ref pw), some (.int i), some (.ref t'), some (.ref pt), o4, o5]) := ⟨_, fun _ _ _ => Iff.rfl⟩
      refine forR Pn ((hPn _ _ _).mpr ⟨[], o4, o5, s3, upd_same, rfl, fun y g hy => by simp at hy, rfl⟩) (fun x σ4 H4 hx h4 => ?_) (fun σ4 H4 h4 => ?_)
      . obtain ⟨tr, o4, o5, s4, hp4, htl, htr, rfl⟩ := (hPn _ _ _).mp h4
        rw [Int.zero_add]
        obtain ⟨row', g, c1, c2, c3, c4, c5⟩ := wf.wf.step hpi0.1 (by rw [List.length_replicate]; exact hpi0.2) (show (0 : Int) <= (x : Int) by omega) (show (x : Int) < L by omega)
        rw [hrow] at c1
        cases c1
        rw [List.length_replicate] at c5
        walk_at "rd"
        refine ⟨_, s4.seqT hrt, _, atI_int (by omega) c2, ?_⟩
        refine ⟨fun σ5 H5 => ∃ g', H5 = H4 /\ 0 <= g' /\ g' < (says.length : Int) + 1 /\ ps g' = stepW ways (ps i) x /\ σ5 = [some (.ref h), some (.int c), some (.int says.length), some (.int rm), some (.ref pw), some (.int i), some (.ref t'), some (.ref pt), some (.int x), some (.int g')], ?_, ?_⟩
        . walk_at "rd"
          have hg1 : 0 <= g /\ g < (says.length : Int) + 1 /\ ps g = stepW ways (ps i) x := ⟨c4, by omega, by rw [hps, if_neg (by omega), c3]⟩
          refine ite2 (fun e => ⟨⟨by decide, by decide⟩, by decide, ite2 (fun e2 => ?_) (fun _ => ⟨g, hg1.1, hg1.2.1, hg1.2.2, rfl⟩)⟩) (fun _ => ⟨g, hg1.1, hg1.2.1, hg1.2.2, rfl⟩)
          exact ⟨_, by omega, by omega, by rw [hps, if_pos rfl, c3, e], rfl⟩
        . rintro σ5 H5 ⟨g', rfl, g0, g1, g2, rfl⟩
          walk_at "rd"
          refine ⟨.inl ⟨rfl, _, SqL.of hp4⟩, _, hp4, by rw [List.length_map]; omega, (hPn _ _ _).mpr ⟨tr ++ [g'], _, _, s4.over hpt, by rw [upd_same, List.map_append]; rfl, by rw [List.length_append, htl]; rfl, fun y g hy => ?_, rfl⟩⟩
          by_cases hyl : y < tr.length
          . rw [List.getElem?_append_left hyl] at hy
            exact htr y g hy
          . have hl' := (List.getElem?_eq_some_iff.mp hy).1
            rw [List.length_append, List.length_singleton] at hl'
            have e1 : y = tr.length := by omega
            rw [e1, List.getElem?_append_right (Nat.le_refl _), Nat.sub_self] at hy
            have : g' = g := by simpa using hy
            subst this
            rw [e1, htl]
            exact ⟨g0, g1, g2⟩
      . obtain ⟨tr, o4, o5, s4, hp4, htl, htr, rfl⟩ := (hPn _ _ _).mp h4
        walk_at "rd"
        obtain ⟨us, hu1, _⟩ := hW.mono s4
        refine ⟨.inl ⟨rfl, _, SqL.of hu1⟩, _, .inl ⟨SqL.of hp4, fun t ht => ?_⟩⟩
        have sT := s4.newT ht (o := .tup (tr.map V.int))
        obtain ⟨us', f1, f2, f3⟩ := (hW.mono sT).push (w := tr) (t := t) (SqT.of upd_same)
        refine ⟨us', f1, by omega, (hPv _ _ _).mpr ⟨ws ++ [tr], _, _, _, _, _, (s2.trans sT).over hpw, f3, by simp [hwl], fun j row hj => ?_, rfl⟩⟩
        by_cases hjl : j < ws.length
        . rw [List.getElem?_append_left hjl] at hj
          exact hwr j row hj
        . have hl' := (List.getElem?_eq_some_iff.mp hj).1
          rw [List.length_append, List.length_singleton] at hl'
          have e1 : j = ws.length := by omega
          rw [e1, List.getElem?_append_right (Nat.le_refl _), Nat.sub_self] at hj
          have : tr = row := by simpa using hj
          subst this
          rw [e1, hwl]
          exact ⟨by rw [htl]; omega, htr⟩
    . obtain ⟨ws, o1, o2, o3, o4, o5, s2, hW, hwl, hwr, rfl⟩ := (hPv _ _ _).mp h2
      walk_at "rd"
      obtain ⟨xs, t, z1, z2, z3⟩ := (q2.mono s2).atZ (r := (rm : Int)) (by omega) (rwS_at (by omega) r1)
      have qa2 := s2.seqT qa
      refine ⟨_, s2.seqT q1, _, rfl, _, s2.seqT q1, _, rfl, _, s2.seqT q1, _, rfl, _, rfl, _, z1, _, z2, by omega, fun p hp => rCatT2.of ((Same.new hp).seqT qa2) (SqT.of upd_same) (by simp; omega) fun q H3 s3' hq => ?_⟩
      have s3 := (Same.new hp (o := .tup [V.ref t])).trans s3'
      obtain ⟨us, hu1, hrw⟩ := (hW.mono s3).rows
      refine ⟨us, .inl ⟨SqL.of hu1, fun l hl' => ⟨by omega, fun g hg => ?_⟩⟩⟩
      have s4 := (Same.new hl' (o := .tup us)).newT hg (o := .tup [V.int L, V.ref q, V.ref l])
      have hs' : (says ++ [rwS says rm]).length = says.length + 1 := by simp
      refine k g (says ++ [rwS says rm]) ws _ (s2.trans (s3.trans s4)) ⟨q, l, SqT.of upd_same, ?_, (hrw l hl').mono (Same.new hg)⟩ ⟨⟨hL1, hL6, by rw [List.length_replicate, hs']; omega, by rw [List.length_replicate, hs']; omega, by rw [List.length_replicate, hs', hwl], fun row hr' => ?_, fun m hm => by rw [List.eq_of_mem_replicate hm]; omega⟩, fun row hr' => ?_⟩ hs' (Alk.symm (alk_of (n := says.length + 1) ps ?_ (by omega) (fun r r0 r1' => ?_) (fun r x r0 r1' x0 x1 => ?_)))
      . refine ⟨ts ++ [t], by rw [List.map_append]; exact s4.seqT hq, by rw [List.length_append, List.length_append, qb]; rfl, fun i' t0 w0 h1 h2 => ?_⟩
        by_cases hil : i' < says.length
        . rw [List.getElem?_append_left (by rw [qb]; exact hil)] at h1
          rw [List.getElem?_append_left hil] at h2
          exact (s2.trans (s3.trans s4)).seqT (qc i' t0 w0 h1 h2)
        . have hl'' := (List.getElem?_eq_some_iff.mp h2).1
          rw [List.length_append, List.length_singleton] at hl''
          have e1 : i' = says.length := by omega
          subst e1
          rw [<- qb, List.getElem?_append_right (Nat.le_refl _), Nat.sub_self] at h1
          rw [List.getElem?_append_right (Nat.le_refl _), Nat.sub_self] at h2
          have f1 : t = t0 := by simpa using h1
          have f2 : rwS says rm = w0 := by simpa using h2
          rw [<- f1, <- f2]
          exact (s3.trans s4).seqT z3
      . obtain ⟨j, hj⟩ := List.getElem?_of_mem hr'
        have := hwr j row hj
        refine ⟨this.1, fun x hx => ?_⟩
        obtain ⟨y, hy⟩ := List.getElem?_of_mem hx
        have := this.2 y x hy
        rw [List.length_replicate, hs']
        push_cast
        exact ⟨this.1, this.2.1⟩
      . rcases List.mem_append.mp hr' with h' | h'
        . exact wf.sr _ h'
        . rw [List.mem_singleton.mp h']
          exact wf.sr _ (List.mem_of_getElem? (rwS_at (by omega) r1))
      . rw [hps, if_neg (by omega)]
      . rw [hps]
        unfold rwS
        split
        . rename_i e
          rw [e, show ((says.length : Nat) : Int).toNat = says.length from rfl, List.getD_eq_getElem?_getD, List.getD_eq_getElem?_getD, List.getElem?_append_right (Nat.le_refl _), Nat.sub_self]; rfl
        . rw [List.getD_eq_getElem?_getD, List.getD_eq_getElem?_getD, List.getElem?_append_left (by omega)]
      . have hrl : r.toNat < ws.length := by omega
        have hj : ws[r.toNat]? = some ws[r.toNat] := by simp [hrl]
        have h1 := hwr _ _ hj
        have hxl : x.toNat < (ws[r.toNat]).length := by omega
        have hg : (ws[r.toNat])[x.toNat]? = some (ws[r.toNat])[x.toNat] := by simp [hxl]
        have h2 := h1.2 _ _ hg
        rw [stepW_of hj hg]
        refine ⟨⟨h2.1, h2.2.1⟩, ?_⟩
        rw [h2.2.2, Int.toNat_of_nonneg r0, Int.toNat_of_nonneg x0]
def sp_another55 (K : PySem.W.Frag) : Sp := fun vs H Q _ => ∃ (h : Addr) (L c : Int) (says ways : List (List Int)), vs = [.ref h, .int c] /\ SaysH K H h L says ways /\ WfS L says ways /\ says.length < 40 /\ 0 <= c /\ ∀ g says' ways' H', Same H H' -> SaysH K H' g L says' ways' -> WfS L says' ways' -> says'.length = says.length + 1 -> Alk L says ways says' ways' -> Q (.ref g) H'
theorem ok__law_another {f : Addr} {fd : FuncData} (F : Fun K "_law_another" "_law_another" s__law_another f fd) (T : Txt mg)
    (Z : Exs K mg C_AskError C_BadHouse C_BadWord)
    {f__law_doubled : Addr} {fd__law_doubled : FuncData} (g__law_doubled : FnOk P w K mg base CX0 1 f__law_doubled fd__law_doubled ["house", "cell"] (sp_dbl55 K)) (F__law_doubled : Fun K "_law_doubled" "_law_doubled" s__law_doubled f__law_doubled fd__law_doubled) (b__law_doubled : Binds K fd__law_doubled ["house", "cell"] []) (m__law_doubled : mg "_law_doubled" = some (.ref f__law_doubled))
    {f__law_order : Addr} {fd__law_order : FuncData} (g__law_order : FnOk P w K mg base CX0 1 f__law_order fd__law_order ["rooms", "cell"] (sp_order55 K)) (F__law_order : Fun K "_law_order" "_law_order" s__law_order f__law_order fd__law_order) (b__law_order : Binds K fd__law_order ["rooms", "cell"] []) (m__law_order : mg "_law_order" = some (.ref f__law_order))
    {f__law_renumbered : Addr} {fd__law_renumbered : FuncData} (g__law_renumbered : FnOk P w K mg base CX0 1 f__law_renumbered fd__law_renumbered ["house", "order"] (sp_renum55 K)) (F__law_renumbered : Fun K "_law_renumbered" "_law_renumbered" s__law_renumbered f__law_renumbered fd__law_renumbered) (b__law_renumbered : Binds K fd__law_renumbered ["house", "order"] []) (m__law_renumbered : mg "_law_renumbered" = some (.ref f__law_renumbered))
    : FnOk P w K mg base CX0 2 f fd ["house", "cell"] (sp_another55 K) := by
  refine F.ok sc__law_another (fun vs H Q E h => ?_) (fun cdv A outer s H vs Q E hr h => ?_)
  . obtain ⟨h, L, c, says, ways, rfl, _⟩ := h; rfl
  . obtain ⟨h, L, c, says, ways, rfl, hh, wf, h40, c0, k⟩ := h
    have hl := line1000
    refine ⟨_, (pss_cons (ps_setL (i := 0) sc__law_another.nd (pe_call g__law_doubled (hr.mono (by decide)) rfl m__law_doubled F__law_doubled.kp b__law_doubled .nil pass0 (pa_cons (pvD 0) (pa_cons (pvD 1) pa_nil))))
      (pss_one (ps_ret (pe_call g__law_renumbered (hr.mono (by decide)) rfl m__law_renumbered F__law_renumbered.kp b__law_renumbered .nil pass0 (pa_cons (pvD 0) (pa_cons (pe_call g__law_order (hr.mono (by decide)) rfl m__law_order F__law_order.kp b__law_order .nil pass0 (pa_cons (pe_callB (lenD call_len_seq) (by rfl) T.len PySem.boot_len (pa_cons (pe_ixA (ixTD ix_tup) (pvD 0) pe_int) pa_nil)) (pa_cons (pe_op (opD op_fdiv) (pvD 1) pe_int) pa_nil))) pa_nil)))))), ?_⟩
    walk_at "rd"
    refine ⟨h, L, c, says, ways, rfl, hh, wf, h40, c0, fun g says' ways' H1 s1 hh' wf' hl' ak => ?_⟩
    walk_at "rd"
    obtain ⟨m, wv, q1, q2, q3⟩ := id hh'
    obtain ⟨ts, qa, qb, qc⟩ := id q2
    refine ⟨_, q1, _, rfl, _, rfl, _, .inr qa, ⟨by decide, by decide⟩, ?_⟩
    rw [List.length_map, qb]
    refine ⟨says'.length, c / 11, rfl, by omega, by omega, by omega, fun p s H2 s2 hs hp => ?_⟩
    have ho := ordW_ok (n := says'.length) (s := s) (by omega) hs
    refine ⟨g, p, L, says', ways', _, rfl, hh'.mono s2, wf', hp, ho, fun r H3 s3 hr => ?_⟩
    obtain ⟨w3, a3⟩ := ren_wf wf' ho
    exact k r _ _ H3 (s1.trans (s2.trans s3)) hr w3 (by unfold renS; rw [List.length_map, List.length_range]; exact hl') (ak.trans a3)
theorem cutV_take55 (xs : List V) (m : Nat) : cutV xs none (some (m : Int)) = xs.take m := by
  unfold cutV
  rw [HT.sIx_nat, HT.sIx_none, List.drop_zero, Nat.sub_zero, List.take_eq_take_iff]
  omega
theorem cutV_drop55 (xs : List V) (m : Nat) : cutV xs (some (m : Int)) none = xs.drop m := by
  unfold cutV
  rw [HT.sIx_nat, HT.sIx_none]
  rcases Nat.le_total m xs.length with h | h
  . rw [Nat.min_eq_left h]
    exact List.take_of_length_le (by rw [List.length_drop]; exact Nat.le_refl _)
  . rw [Nat.min_eq_right h, List.drop_of_length_le h, List.drop_length, List.take_nil]
def sp_put55 (K : PySem.W.Frag) : Sp := fun vs H Q _ => ∃ (a : Addr) (i : Nat) (v : V) (xs : List V), vs = [.ref a, .int i, v] /\ SqT K H a xs /\ i < xs.length /\ xs.length <= 100 /\ ∀ q H', Same H H' -> SqT K H' q (xs.set i v) -> Q (.ref q) H'
theorem ok__law_put {f : Addr} {fd : FuncData} (F : Fun K "_law_put" "_law_put" s__law_put f fd) (T : Txt mg)
    (Z : Exs K mg C_AskError C_BadHouse C_BadWord)
    : FnOk P w K mg base CX0 1 f fd ["row", "place", "thing"] (sp_put55 K) := by
  refine F.ok sc__law_put (fun vs H Q E h => ?_) (fun cdv A outer s H vs Q E hr h => ?_)
  . obtain ⟨a, i, v, xs, rfl, _⟩ := h; rfl
  . obtain ⟨a, i, v, xs, rfl, ha, hi, hx, k⟩ := h
    have hl := line1000
    refine ⟨_, (pss_one (ps_ret (pe_op op_catT2 (pe_op op_catT2 (pe_slice sl_tup2 (pvD 0) po_none (po_some (pvD 1))) (pe_tup (pa_cons (pvD 2) pa_nil))) (pe_slice sl_tup2 (pvD 0) (po_some (pe_op (opD0 op_add) (pvD 1) pe_int)) po_none)))), ?_⟩
    walk_at "rd"
    refine ⟨_, ha, fun p H1 s1 hp => ⟨by omega, fun p1 hp1 => ?_⟩⟩
    have s2 := Same.new hp1 (o := .tup [v])
    have e1 : cutV xs none (some (i : Int)) = xs.take i := cutV_take55 xs i
    have e2 : cutV xs (some ((i : Int) + 1)) none = xs.drop (i + 1) := by
      have := cutV_drop55 xs (i + 1)
      push_cast at this
      exact this
    rw [e1] at hp
    refine rCatT2.of (s2.seqT hp) (SqT.of upd_same) (by rw [List.length_take, List.length_singleton]; omega) fun q H2 s3 hq => ⟨_, (s1.trans (s2.trans s3)).seqT ha, fun p2 H3 s4 hp2 => ?_⟩
    rw [e2] at hp2
    refine rCatT2.of (s4.seqT hq) hp2 (by simp; omega) fun q' H4 s5 hq' => k q' H4 (s1.trans (s2.trans (s3.trans (s4.trans s5)))) ?_
    rw [List.set_eq_take_append_cons_drop, if_pos hi]
    rw [List.append_assoc] at hq'
    exact hq'
def sp_wide55 (K : PySem.W.Frag) : Sp := fun vs H Q _ => ∃ (c : Int), vs = [.int c] /\ 0 <= c /\ c < 1000000000000 /\ ∀ g says ways H', Same H H' -> 14 <= says.length -> SaysH K H' g 3 says ways -> WfS 3 says ways -> Q (.ref g) H'
theorem ok__law_wide {f : Addr} {fd : FuncData} (F : Fun K "_law_wide" "_law_wide" s__law_wide f fd) (T : Txt mg)
    (Z : Exs K mg C_AskError C_BadHouse C_BadWord)
    : FnOk P w K mg base CX0 1 f fd ["cell"] (sp_wide55 K) := by
  refine F.ok sc__law_wide (fun vs H Q E h => ?_) (fun cdv A outer s H vs Q E hr h => ?_)
  . obtain ⟨c, rfl, _⟩ := h; rfl
  . obtain ⟨c, rfl, c0, c1, k⟩ := h
    have hl := line1000
    have m0 := Int.emod_nonneg c (show (27 : Int) ≠ 0 by decide)
    have m1 := Int.emod_lt_of_pos c (show (0 : Int) < 27 by decide)
    refine ⟨_, (pss_cons (ps_setL (i := 1) sc__law_wide.nd (pe_op (opD0 op_add) pe_int (pe_op (opD op_mod) (pvD 0) pe_int)))
      (pss_cons (ps_setL (i := 2) sc__law_wide.nd (pe_lst pa_nil))
      (pss_cons (ps_setL (i := 3) sc__law_wide.nd (pe_lst pa_nil))
      (pss_cons (ps_for PassesOwn.never rfl (pi_range1 rfl T.range (pa_cons (pvD 1) pa_nil)) (pg_name (i := 4) sc__law_wide.nd rfl (Or.inr rfl))
      (pss_cons (ps_expr (pe_bm PySem.F.plainAttrs_list PySem.F.slot_list_append PySem.F.type_list_append mt_append (pvD 2) (pa_cons (pe_callTy call_tuple_L rfl T.tuple PyProof.Rows.boot_tuple (pa_cons (pe_comp rfl (blk_mk rfl) (cp := c__law_wide_3) ⟨⟨rfl, rfl⟩, ⟨⟨rfl, rfl⟩, True.intro⟩⟩ (pi_range1 rfl T.range (pa_cons pe_int pa_nil)) (fun _ _ _ _ => (pg_name (i := 0) nd_c__law_wide_3 rfl (Or.inl rfl))) (fun _ _ _ _ => pf_nil) (fun _ _ _ _ => (pe_op (opD0 op_add) (pe_op (opD op_mul) pe_int (pe_op (opD0 op_add) (pe_op (opD op_mul) pe_int (pvD 2)) (pvD 0))) (pe_op (opD op_mod) (pvD 1) pe_int)))) pa_nil)) pa_nil)))
      (pss_cons (ps_setL (i := 5) sc__law_wide.nd (pe_op (opD op_mod) (pe_op (opD0 op_add) (pe_op (opD op_mul) (pvD 4) (pe_op (opD0 op_add) pe_int (pe_op (opD op_mod) (pe_op (opD op_fdiv) (pvD 0) pe_int) pe_int))) (pe_op (opD op_fdiv) (pvD 0) pe_int)) (pvD 1)))
      (pss_one (ps_expr (pe_bm PySem.F.plainAttrs_list PySem.F.slot_list_append PySem.F.type_list_append mt_append (pvD 3) (pa_cons (pe_tup (pa_cons (pe_op (opD op_mod) (pe_op (opD0 op_add) (pvD 4) pe_int) (pvD 1)) (pa_cons (pvD 5) (pa_cons (pe_op (opD op_mod) (pe_op (opD0 op_add) (pe_op (opD op_mul) (pvD 4) (pvD 4)) (pe_op (opD op_fdiv) (pvD 0) pe_int)) (pvD 1)) pa_nil)))) pa_nil)))))))
      (pss_one (ps_ret (pe_tup (pa_cons pe_int (pa_cons (pe_callTy call_tuple_L rfl T.tuple PyProof.Rows.boot_tuple (pa_cons (pvD 2) pa_nil)) (pa_cons (pe_callTy call_tuple_L rfl T.tuple PyProof.Rows.boot_tuple (pa_cons (pvD 3) pa_nil)) pa_nil)))))))))), ?_⟩
    walk_at "rd"
    obtain ⟨n, hn⟩ : ∃ n : Nat, 14 + c % 27 = n := ⟨(14 + c % 27).toNat, by omega⟩
    rw [hn]
    refine ⟨by decide, by omega, fun ps hps => ⟨by omega, fun pw hpw => ⟨by omega, by omega, ?_⟩⟩⟩
    rw [Int.toNat_natCast]
    have hpp : pw ≠ ps := (none_of_upd hpw).2
    have hpw0 : H pw = none := (none_of_upd hpw).1
    obtain ⟨Pv, hPv⟩ : ∃ Pv : Nat -> St -> Hp -> Prop, ∀ i σ' H', Pv i σ' H' ↔ (∃ (says ways : List (List Int)) (o o' : Option V), Same H H' /\ TupsL K H' ps says /\ TupsL K H' pw ways /\ says.length = i /\ ways.length = i /\ (∀ row ∈ says, row.length = 3) /\ (∀ row ∈ ways, row.length = 3 /\ ∀ x ∈ row, 0 <= x /\ x < (n : Int)) /\ σ' = [some (.int c), some (.int n), some (.ref ps), some (.ref pw), o, o']) := ⟨_, fun _ _ _ => Iff.rfl⟩
    refine forR Pv ((hPv _ _ _).mpr ⟨[], [], none, none, (Same.new hps).newT hpw, TupsL.nil ((Same.new hpw) _ _ upd_same), TupsL.nil upd_same, rfl, rfl, by simp, by simp, rfl⟩) (fun i σ2 H2 hi h2 => ?_) (fun σ2 H2 h2 => ?_)
    . obtain ⟨says, ways, o, o', s2, hS, hW, hsl, hwl, hsr, hwr, rfl⟩ := (hPv _ _ _).mp h2
      obtain ⟨ts, ht1, _⟩ := id hS
      obtain ⟨us, hu1, _⟩ := id hW
      rw [Int.zero_add]
      walk_at "rd"
      refine ⟨.inl ⟨rfl, _, SqL.of ht1⟩, by decide, by decide, ?_⟩
      rw [show Int.toNat 3 = 3 from rfl]
      obtain ⟨Pm, hPm⟩ : ∃ Pc : Nat -> List V -> St -> Hp -> Prop, ∀ j ys σ4 H4, Pc j ys σ4 H4 ↔ (H4 = H2 /\ ∃ (row : List Int) (o : Option V), ys = row.map V.int /\ row.length = j /\ σ4 = [o, some (.int c), some (.int i)]) := ⟨_, fun _ _ _ _ => Iff.rfl⟩
      refine compR Pm ((hPm _ _ _ _).mpr ⟨rfl, [], none, rfl, rfl, rfl⟩) (by omega) (fun j ys σ4 H4 _ h4 => ?_) (fun j ys σ4 H4 hj h4 => ?_) (fun ys σ4 H4 h4 D hD => ?_)
      . obtain ⟨_, row, o, rfl, hrl, _⟩ := (hPm _ _ _ _).mp h4
        rw [List.length_map]; omega
      . obtain ⟨rfl, row, o, rfl, hrl, rfl⟩ := (hPm _ _ _ _).mp h4
        rw [Int.zero_add]
        walk_at "rd"
        exact ⟨.inl ⟨by decide, by decide⟩, .inl ⟨by decide, by decide⟩, by decide, (hPm _ _ _ _).mpr ⟨rfl, row ++ [_], _, by rw [List.map_append]; rfl, by simp [hrl], rfl⟩⟩
      obtain ⟨rfl, srow, o1, rfl, hsrl, rfl⟩ := (hPm _ _ _ _).mp h4
      refine ⟨D, rfl, _, .inl ⟨SqL.of upd_same, fun t ht => ?_⟩⟩
      have sDt := (Same.new hD (o := .lst (srow.map V.int))).newT ht (o := .tup (srow.map V.int))
      obtain ⟨xs, e1, e2, e3⟩ := (hS.mono sDt).push (w := srow) (t := t) (SqT.of upd_same)
      have hWt := (hW.mono sDt).off e1 (ys := xs ++ [V.ref t]) hpp
      have s5 : Same H (upd (upd (upd H4 D (.lst (srow.map V.int))) t (.tup (srow.map V.int))) ps (.lst (xs ++ [V.ref t]))) := (s2.trans sDt).over hps
      refine ⟨xs, e1, by omega, ⟨by decide, by decide⟩, by decide, .inl ⟨by omega, by omega⟩, ⟨by decide, by decide⟩, by omega, ?_⟩
      generalize upd (upd (upd H4 D (.lst (srow.map V.int))) t (.tup (srow.map V.int))) ps (.lst (xs ++ [V.ref t])) = H5 at e3 hWt s5 ⊢
      obtain ⟨us, hu1, _⟩ := id hWt
      refine ⟨.inl ⟨rfl, _, SqL.of hu1⟩, by omega, .inl ⟨by omega, by omega⟩, ⟨by decide, by decide⟩, by omega, by omega, fun t2 ht2 => ?_⟩
      have hn0 : (0 : Int) < n := by omega
      have sDt2 := Same.new ht2 (o := .tup ([((i : Int) + 1) % n, ((i : Int) * (1 + c / 27 % 5) + c / 135) % n, ((i : Int) * i + c / 1009) % n].map V.int))
      obtain ⟨ys2, f1, f2, f3⟩ := (hWt.mono sDt2).push (w := [((i : Int) + 1) % n, ((i : Int) * (1 + c / 27 % 5) + c / 135) % n, ((i : Int) * i + c / 1009) % n]) (t := t2) (SqT.of upd_same)
      have hSt := (e3.mono sDt2).off f1 (ys := ys2 ++ [V.ref t2]) (Ne.symm hpp)
      refine ⟨ys2, f1, by omega, (hPv _ _ _).mpr ⟨says ++ [srow], ways ++ [_], _, _, (s5.trans sDt2).over hpw0, hSt, f3, by simp [hsl], by simp [hwl], fun r hr => ?_, fun r hr => ?_, rfl⟩⟩
      . rcases List.mem_append.mp hr with h | h
        . exact hsr r h
        . rw [List.mem_singleton.mp h]; exact hsrl
      . rcases List.mem_append.mp hr with h | h
        . exact hwr r h
        . rw [List.mem_singleton.mp h]
          refine ⟨rfl, fun x hx => ?_⟩
          simp only [List.mem_cons, List.not_mem_nil, or_false] at hx
          rcases hx with rfl | rfl | rfl <;> exact ⟨Int.emod_nonneg _ (by omega), Int.emod_lt_of_pos _ hn0⟩
    . obtain ⟨says, ways, o, o', s2, hS, hW, hsl, hwl, hsr, hwr, rfl⟩ := (hPv _ _ _).mp h2
      walk_at "rd"
      obtain ⟨xs, hx1, hrs⟩ := hS.rows
      refine ⟨xs, .inl ⟨SqL.of hx1, fun t1 ht1 => ?_⟩⟩
      obtain ⟨ys, hy1, hrw⟩ := (hW.mono (Same.new ht1 (o := .tup xs))).rows
      refine ⟨ys, .inl ⟨SqL.of hy1, fun t2 ht2 => ⟨by omega, fun hh hhh => ?_⟩⟩⟩
      exact k hh says ways _ (((s2.newT ht1).newT ht2).newT hhh) (by omega) ⟨t1, t2, SqT.of upd_same, (hrs t1 ht1).mono ((Same.new ht2).newT hhh), (hrw t2 ht2).mono (Same.new hhh)⟩
        ⟨⟨by omega, by omega, by rw [List.length_replicate]; omega, by rw [List.length_replicate]; omega, by rw [List.length_replicate]; omega, fun row hr => ⟨by have := (hwr row hr).1; omega, fun x hx => by rw [List.length_replicate]; have := (hwr row hr).2 x hx; omega⟩, fun m hm => by rw [List.eq_of_mem_replicate hm]; omega⟩, fun row hr => by have := hsr row hr; omega⟩
theorem rows_set55 {K : PySem.W.Frag} {H : Hp} {q t : Addr} {i : Nat} {ts : List Addr} {says : List (List Int)} {r : List Int} (qb : ts.length = says.length) (qc : ∀ (j : Nat) (t : Addr) (w : List Int), ts[j]? = some t -> says[j]? = some w -> SqT K H t (w.map V.int)) (hq : SqT K H q ((ts.map V.ref).set i (V.ref t))) (ht : SqT K H t (r.map V.int)) : Rows K H q (says.set i r) := by
  refine ⟨ts.set i t, by rw [List.map_set]; exact hq, by rw [List.length_set, List.length_set]; exact qb, fun j t0 w0 h1 h2 => ?_⟩
  by_cases e : i = j
  . subst e
    have hl1 := (List.getElem?_eq_some_iff.mp h1).1
    have hl2 := (List.getElem?_eq_some_iff.mp h2).1
    rw [List.length_set] at hl1 hl2
    rw [List.getElem?_set_self hl1] at h1
    rw [List.getElem?_set_self hl2] at h2
    cases h1
    cases h2
    exact ht
  . rw [List.getElem?_set_ne e] at h1 h2
    exact qc j t0 w0 h1 h2
theorem mem_set55 {α : Type} {xs : List α} {i : Nat} {r x : α} (h : x ∈ xs.set i r) : x ∈ xs \/ x = r := List.mem_or_eq_of_mem_set h
theorem wf_setS55 {L : Int} {says ways : List (List Int)} {i : Nat} {r : List Int} (wf : WfS L says ways) (hr : (r.length : Int) = L) : WfS L (says.set i r) ways := ⟨by rw [List.length_set]; exact wf.wf, fun row h => by
  rcases mem_set55 h with h | rfl
  . exact wf.sr _ h
  . exact hr⟩
theorem wf_setW55 {L : Int} {says ways : List (List Int)} {i : Nat} {r : List Int} (wf : WfS L says ways) (hr : (r.length : Int) = L) (hx : ∀ x ∈ r, 0 <= x /\ x < (says.length : Int)) : WfS L says (ways.set i r) := ⟨⟨wf.wf.l1, wf.wf.l6, wf.wf.n1, wf.wf.n40, by rw [List.length_set]; exact wf.wf.len, fun row h => by
  rcases mem_set55 h with h | rfl
  . exact wf.wf.rows _ h
  . exact ⟨hr, fun x h => by rw [List.length_replicate]; exact hx x h⟩, wf.wf.mks⟩, wf.sr⟩
def sp_bes55 (K : PySem.W.Frag) : Sp := fun vs H Q _ => ∃ (h a : Addr) (L : Nat) (at_ : Nat) (wy : Int) (ns : List Int) (says ways : List (List Int)), vs = [.ref h, .ref a, .int at_, .int wy] /\ SaysH K H h L says ways /\ WfS L says ways /\ SqL K H a (ns.map V.int) /\ ns.length <= 63 /\ at_ <= 1000 /\ says.length < 40 /\ 0 <= wy /\ ∀ g says' ways' H', Same H H' -> SaysH K H' g L says' ways' -> WfS L says' ways' -> says'.length <= says.length + 1 -> (wy % 4 = 1 -> Alk L says ways says' ways') -> Q (.ref g) H'
theorem ok__law_beside {f : Addr} {fd : FuncData} (F : Fun K "_law_beside" "_law_beside" s__law_beside f fd) (T : Txt mg)
    (Z : Exs K mg C_AskError C_BadHouse C_BadWord)
    {f__law_cell : Addr} {fd__law_cell : FuncData} (g__law_cell : FnOk P w K mg base CX0 1 f__law_cell fd__law_cell ["script", "k"] (sp_cell K)) (F__law_cell : Fun K "_law_cell" "_law_cell" s__law_cell f__law_cell fd__law_cell) (b__law_cell : Binds K fd__law_cell ["script", "k"] []) (m__law_cell : mg "_law_cell" = some (.ref f__law_cell))
    {f__law_says : Addr} {fd__law_says : FuncData} (g__law_says : FnOk P w K mg base CX0 3 f__law_says fd__law_says ["script", "at", "letters", "rooms"] (sp_says53 K)) (F__law_says : Fun K "_law_says" "_law_says" s__law_says f__law_says fd__law_says) (b__law_says : Binds K fd__law_says ["script", "at", "letters", "rooms"] []) (m__law_says : mg "_law_says" = some (.ref f__law_says))
    {f__law_another : Addr} {fd__law_another : FuncData} (g__law_another : FnOk P w K mg base CX0 2 f__law_another fd__law_another ["house", "cell"] (sp_another55 K)) (F__law_another : Fun K "_law_another" "_law_another" s__law_another f__law_another fd__law_another) (b__law_another : Binds K fd__law_another ["house", "cell"] []) (m__law_another : mg "_law_another" = some (.ref f__law_another))
    {f__law_put : Addr} {fd__law_put : FuncData} (g__law_put : FnOk P w K mg base CX0 1 f__law_put fd__law_put ["row", "place", "thing"] (sp_put55 K)) (F__law_put : Fun K "_law_put" "_law_put" s__law_put f__law_put fd__law_put) (b__law_put : Binds K fd__law_put ["row", "place", "thing"] []) (m__law_put : mg "_law_put" = some (.ref f__law_put))
    : FnOk P w K mg base CX0 4 f fd ["one", "script", "at", "way"] (sp_bes55 K) := by
  refine F.ok sc__law_beside (fun vs H Q E h => ?_) (fun cdv A outer s H vs Q E hr h => ?_)
  . obtain ⟨h, a, L, at_, wy, ns, says, ways, rfl, _⟩ := h; rfl
  . obtain ⟨h, a, L, at_, wy, ns, says, ways, rfl, hh, wf, ha, hz, hat, h40, y0, k⟩ := h
    have hl := line1000
    have hL1 := wf.wf.l1
    have hL6 := wf.wf.l6
    have hn1 := wf.wf.n1
    rw [List.length_replicate] at hn1
    obtain ⟨m, wv, q1, q2, q3⟩ := id hh
    obtain ⟨ts, qa, qb, qc⟩ := id q2
    refine ⟨_, (pss_cons (ps_setL (i := 4) sc__law_beside.nd (pe_ixA (ixTD ix_tup) (pvD 0) pe_int))
      (pss_cons (ps_setL (i := 5) sc__law_beside.nd (pe_callB (lenD call_len_seq) (by rfl) T.len PySem.boot_len (pa_cons (pe_ixA (ixTD ix_tup) (pvD 0) pe_int) pa_nil)))
      (pss_cons (ps_if (ptT (pt_cmpR (opE op_eq) (pe_op (opD op_mod) (pvD 3) pe_int) pe_int (nomark _)))
      (pss_one (ps_ret (pe_call g__law_says (hr.mono (by decide)) rfl m__law_says F__law_says.kp b__law_says .nil pass0 (pa_cons (pvD 1) (pa_cons (pvD 2) (pa_cons (pvD 4) (pa_cons (pvD 5) pa_nil)))))))
      pss_nil)
      (pss_cons (ps_setL (i := 6) sc__law_beside.nd (pe_call g__law_another (hr.mono (by decide)) rfl m__law_another F__law_another.kp b__law_another .nil pass0 (pa_cons (pvD 0) (pa_cons (pe_op (opD op_mod) (pe_call g__law_cell (hr.mono (by decide)) rfl m__law_cell F__law_cell.kp b__law_cell .nil pass0 (pa_cons (pvD 1) (pa_cons pe_int pa_nil))) (pe_op (opD op_pow) pe_int pe_int)) pa_nil))))
      (pss_cons (ps_if (ptT (pt_cmpR (opE op_eq) (pe_op (opD op_mod) (pvD 3) pe_int) pe_int (nomark _)))
      (pss_one (ps_ret (pvD 6)))
      pss_nil)
      (pss_cons (ps_setL (i := 7) sc__law_beside.nd (pe_op (opD op_mod) (pe_op (opD op_fdiv) (pvD 3) pe_int) (pe_op (opD0 op_add) (pvD 5) pe_int)))
      (pss_cons (ps_setL (i := 8) sc__law_beside.nd (pe_op (opD op_mod) (pe_op (opD op_fdiv) (pvD 3) pe_int) (pvD 4)))
      (pss_cons (ps_if (ptT (pt_cmpR (opE op_eq) (pe_op (opD op_mod) (pvD 3) pe_int) pe_int (nomark _)))
      (pss_cons (ps_setL (i := 9) sc__law_beside.nd (pe_call g__law_put (hr.mono (by decide)) rfl m__law_put F__law_put.kp b__law_put .nil pass0 (pa_cons (pe_ixA (ixTD ix_tup) (pe_ixA (ixTD ix_tup) (pvD 6) pe_int) (pvD 7)) (pa_cons (pvD 8) (pa_cons (pe_op (opD op_mod) (pe_op (opD0 op_add) (pe_ixA (ixTD ix_tup) (pe_ixA (ixTD ix_tup) (pe_ixA (ixTD ix_tup) (pvD 6) pe_int) (pvD 7)) (pvD 8)) pe_int) pe_int) pa_nil)))))
      (pss_one (ps_ret (pe_tup (pa_cons (pvD 4) (pa_cons (pe_call g__law_put (hr.mono (by decide)) rfl m__law_put F__law_put.kp b__law_put .nil pass0 (pa_cons (pe_ixA (ixTD ix_tup) (pvD 6) pe_int) (pa_cons (pvD 7) (pa_cons (pvD 9) pa_nil)))) (pa_cons (pe_ixA (ixTD ix_tup) (pvD 6) pe_int) pa_nil)))))))
      pss_nil)
      (pss_cons (ps_setL (i := 9) sc__law_beside.nd (pe_call g__law_put (hr.mono (by decide)) rfl m__law_put F__law_put.kp b__law_put .nil pass0 (pa_cons (pe_ixA (ixTD ix_tup) (pe_ixA (ixTD ix_tup) (pvD 6) pe_int) (pvD 7)) (pa_cons (pvD 8) (pa_cons (pe_op (opD op_mod) (pe_op (opD op_fdiv) (pvD 3) pe_int) (pe_op (opD0 op_add) (pvD 5) pe_int)) pa_nil)))))
      (pss_one (ps_ret (pe_tup (pa_cons (pvD 4) (pa_cons (pe_ixA (ixTD ix_tup) (pvD 6) pe_int) (pa_cons (pe_call g__law_put (hr.mono (by decide)) rfl m__law_put F__law_put.kp b__law_put .nil pass0 (pa_cons (pe_ixA (ixTD ix_tup) (pvD 6) pe_int) (pa_cons (pvD 7) (pa_cons (pvD 9) pa_nil)))) pa_nil))))))))))))))), ?_⟩
    walk_at "rd"
    refine ⟨_, q1, _, rfl, _, q1, _, rfl, _, rfl, _, .inr qa, by decide, ?_⟩
    rw [List.length_map, qb]
    refine ite2 (fun e => ?_) (fun e => ?_)
    . exact ⟨a, ns, at_, L, says.length, rfl, ha, hz, by omega, by omega, by omega, by omega, by omega, by omega, fun g says' ways' H1 s1 h1 w1 l1 _ => k g says' ways' H1 s1 h1 w1 (by omega) (fun z => by omega)⟩
    . refine ⟨a, ns, 4, rfl, ha, ⟨by decide, by decide⟩, _, rfl, by decide, h, L, _, says, ways, rfl, hh, wf, h40, Int.emod_nonneg _ (by decide), fun g says' ways' H1 s1 hh' wf' hl' ak => ⟨by decide, ite2 (fun e1 => k g says' ways' H1 s1 hh' wf' (by omega) (fun _ => ak)) (fun e1 => ?_)⟩⟩
      obtain ⟨m', wv', p1, p2, p3⟩ := id hh'
      obtain ⟨us, pa, pb, pc⟩ := id p2
      obtain ⟨vs, pa', pb', pc'⟩ := id p3
      have hlen := wf'.wf.len
      rw [List.length_replicate] at hlen
      have a0 := Int.emod_nonneg (wy / 4) (show (says.length : Int) + 1 ≠ 0 by omega)
      have a1 := Int.emod_lt_of_pos (wy / 4) (show (0 : Int) < (says.length : Int) + 1 by omega)
      have b0 := Int.emod_nonneg (wy / 40) (show (L : Int) ≠ 0 by omega)
      have b1 := Int.emod_lt_of_pos (wy / 40) (show (0 : Int) < (L : Int) by omega)
      refine ⟨⟨by decide, by decide⟩, by omega, ⟨by decide, by decide⟩, _, rfl, by omega, by decide, ?_⟩
      obtain ⟨rm, hrm⟩ : ∃ rm : Nat, wy / 4 % ((says.length : Int) + 1) = rm := ⟨_, (Int.toNat_of_nonneg a0).symm⟩
      obtain ⟨lt, hlt⟩ : ∃ lt : Nat, wy / 40 % (L : Int) = lt := ⟨_, (Int.toNat_of_nonneg b0).symm⟩
      rw [hrm, hlt] 
      rw [hrm] at a1
      rw [hlt] at b1
      obtain ⟨row, c1, c2⟩ := wf'.at (r := rm) (x := lt) (by omega) (by omega) (by omega) b1
      obtain ⟨xs, t, z1, z2, z3⟩ := p2.atZ (r := (rm : Int)) (by omega) c1
      have hrl := wf'.sr _ (List.mem_of_getElem? c1)
      refine ite2 (fun e2 => ?_) (fun e2 => ?_)
      . refine ⟨_, rfl, _, p1, _, rfl, _, rfl, _, z1, _, z2, _, rfl, _, p1, _, rfl, _, rfl, _, z1, _, z2, _, rfl, _, z3, _, atI_int (by omega) c2, _, rfl, by decide, t, lt, _, _, rfl, z3, by rw [List.length_map]; omega, by rw [List.length_map]; omega, fun q H2 s2 hq => ?_⟩
        rw [show ∀ v : Int, (row.map V.int).set lt (V.int v) = (row.set lt v).map V.int from fun v => by rw [List.map_set]] at hq
        refine ⟨_, rfl, _, s2.seqT p1, _, rfl, m', rm, _, _, rfl, s2.seqT pa, by rw [List.length_map]; omega, by rw [List.length_map]; omega, fun q3 H3 s3 hq3 => ⟨_, rfl, _, (s2.trans s3).seqT p1, _, rfl, by omega, fun p hp => ?_⟩⟩
        have s4 := Same.new hp (o := .tup [V.int L, V.ref q3, V.ref wv'])
        refine k p (says'.set rm _) ways' _ (s1.trans (s2.trans (s3.trans s4))) ⟨q3, wv', SqT.of upd_same, rows_set55 pb (fun j t w h1 h2 => (s2.trans (s3.trans s4)).seqT (pc j t w h1 h2)) (s4.seqT hq3) ((s3.trans s4).seqT hq), p3.mono (s2.trans (s3.trans s4))⟩ (wf_setS55 wf' (by rw [List.length_set]; exact hrl)) (by rw [List.length_set]; omega) (fun z => absurd z e1)
      . obtain ⟨row2, d1, d2, d3⟩ := wf'.wf.row (r := rm) (by omega) (by rw [List.length_replicate]; omega)
        obtain ⟨xs2, t2, y1, y2, y3⟩ := p3.atZ (r := (rm : Int)) (by omega) d1
        have hw2 := wf'.wf.rows _ d2
        have g0 := Int.emod_nonneg (wy / 200) (show (says.length : Int) + 1 ≠ 0 by omega)
        have g1 := Int.emod_lt_of_pos (wy / 200) (show (0 : Int) < (says.length : Int) + 1 by omega)
        refine ⟨_, rfl, _, p1, _, rfl, _, rfl, _, y1, _, y2, ⟨by decide, by decide⟩, by omega, t2, lt, _, _, rfl, y3, by rw [List.length_map]; omega, by rw [List.length_map]; omega, fun q H2 s2 hq => ?_⟩
        rw [show ∀ v : Int, (row2.map V.int).set lt (V.int v) = (row2.set lt v).map V.int from fun v => by rw [List.map_set]] at hq
        refine ⟨_, rfl, _, s2.seqT p1, _, rfl, _, rfl, _, s2.seqT p1, _, rfl, wv', rm, _, _, rfl, s2.seqT pa', by rw [List.length_map]; omega, by rw [List.length_map]; omega, fun q3 H3 s3 hq3 => ⟨by omega, fun p hp => ?_⟩⟩
        have s4 := Same.new hp (o := .tup [V.int L, V.ref m', V.ref q3])
        refine k p says' (ways'.set rm _) _ (s1.trans (s2.trans (s3.trans s4))) ⟨m', q3, SqT.of upd_same, p2.mono (s2.trans (s3.trans s4)), rows_set55 pb' (fun j t w h1 h2 => (s2.trans (s3.trans s4)).seqT (pc' j t w h1 h2)) (s4.seqT hq3) ((s3.trans s4).seqT hq)⟩ (wf_setW55 wf' (by rw [List.length_set]; exact d3) fun x hx => ?_) (by omega) (fun z => absurd z e1)
        rcases mem_set55 hx with h | rfl
        . have := hw2.2 x h
          rw [List.length_replicate] at this
          exact this
        . rw [hl']; push_cast; exact ⟨g0, g1⟩
def sp_refused55 (K : PySem.W.Frag) : Sp := fun vs H Q _ => ∃ (h a : Addr) (L M : Int) (says says2 ways ways2 : List (List Int)), vs = [.ref h, .ref a] /\ SaysH K H h L says ways /\ WfS L says ways /\ SaysH K H a M says2 ways2 /\ WfS M says2 ways2 /\ L ≠ M /\ ∀ H', Same H H' -> Q (.bl true) H'
theorem ok__law_refused {f : Addr} {fd : FuncData} (F : Fun K "_law_refused" "_law_refused" s__law_refused f fd) (T : Txt mg)
    (Z : Exs K mg C_AskError C_BadHouse C_BadWord)
    {f_says_difference : Addr} {fd_says_difference : FuncData} (g_says_difference : FnOk P w K mg base (CXe P w) 5 f_says_difference fd_says_difference ["house", "other"] (sp_sd55 K C_BadHouse)) (F_says_difference : Fun K "says_difference" "says_difference" s_says_difference f_says_difference fd_says_difference) (b_says_difference : Binds K fd_says_difference ["house", "other"] []) (m_says_difference : mg "says_difference" = some (.ref f_says_difference))
    : FnOk P w K mg base CX0 6 f fd ["one", "two"] (sp_refused55 K) := by
  refine F.ok sc__law_refused (fun vs H Q E h => ?_) (fun cdv A outer s H vs Q E hr h => ?_)
  . obtain ⟨h, a, L, M, says, says2, ways, ways2, rfl, _⟩ := h; rfl
  . obtain ⟨h, a, L, M, says, says2, ways, ways2, rfl, hh, wf, hh2, wf2, hb, k⟩ := h
    refine ⟨_, (pss_cons (ps_setL (i := 2) sc__law_refused.nd pe_bl)
      (pss_cut (ps_tryN (E := (fun σ cls _ H1 => σ = [some (.ref h), some (.ref a), some (.bl false)] /\ cls = .ref C_BadHouse /\ Same H H1)) rfl Z.m_BadHouse rfl rfl rfl (fun xe pn hx => (pss_one (ps_expr (pe_callE g_says_difference (hr.mono (by decide)) rfl m_says_difference F_says_difference.kp b_says_difference .nil hx (pa_cons (pvD 0) (pa_cons (pvD 1) pa_nil))))))
      (fun ea pn => (pss_one (ps_setL (i := 2) sc__law_refused.nd pe_bl))))
      (pss_one (ps_ret (pvD 2))))), ?_⟩
    walk_at "rd"
    refine ⟨fun σ' H' => σ' = [some (.ref h), some (.ref a), some (.bl true)] /\ Same H H', ?_, ?_⟩
    . walk_at "rd"
      refine ⟨?_, fun σ1 cls H1 h1 => ?_⟩
      . exact ⟨h, a, L, M, says, says2, ways, ways2, rfl, hh, wf, hh2, wf2, fun z => absurd z hb, fun _ H1 s1 => ⟨rfl, s1⟩⟩
      . obtain ⟨rfl, rfl, s1⟩ := h1
        exact ⟨C_BadHouse, rfl, Z.ee_BadHouse, rfl, s1⟩
    . rintro σ' H' ⟨rfl, s'⟩
      walk_at "rd"
      exact k _ s'
theorem ok__law_refused_by_any {f : Addr} {fd : FuncData} (F : Fun K "_law_refused_by_any" "_law_refused_by_any" s__law_refused_by_any f fd) (T : Txt mg)
    (Z : Exs K mg C_AskError C_BadHouse C_BadWord)
    {f_says_difference : Addr} {fd_says_difference : FuncData} (g_says_difference : FnOk P w K mg base (CXe P w) 5 f_says_difference fd_says_difference ["house", "other"] (sp_sd55 K C_BadHouse)) (F_says_difference : Fun K "says_difference" "says_difference" s_says_difference f_says_difference fd_says_difference) (b_says_difference : Binds K fd_says_difference ["house", "other"] []) (m_says_difference : mg "says_difference" = some (.ref f_says_difference))
    : FnOk P w K mg base CX0 6 f fd ["one", "two"] (sp_refused55 K) := by
  refine F.ok sc__law_refused_by_any (fun vs H Q E h => ?_) (fun cdv A outer s H vs Q E hr h => ?_)
  . obtain ⟨h, a, L, M, says, says2, ways, ways2, rfl, _⟩ := h; rfl
  . obtain ⟨h, a, L, M, says, says2, ways, ways2, rfl, hh, wf, hh2, wf2, hb, k⟩ := h
    refine ⟨_, (pss_cons (ps_setL (i := 2) sc__law_refused_by_any.nd pe_bl)
      (pss_cut (ps_try (i := 3) (E := (fun σ cls _ H1 => σ = [some (.ref h), some (.ref a), some (.bl false), none] /\ cls = .ref C_BadHouse /\ Same H H1)) sc__law_refused_by_any.nd rfl rfl rfl Z.m_AskError rfl rfl rfl (fun xe pn hx => (pss_one (ps_expr (pe_callE g_says_difference (hr.mono (by decide)) rfl m_says_difference F_says_difference.kp b_says_difference .nil hx (pa_cons (pvD 0) (pa_cons (pvD 1) pa_nil))))))
      (fun ea pn => (pss_one (ps_setL (i := 2) sc__law_refused_by_any.nd (pe_and (pe_callB (call_isinstK (K := K) rfl) rfl T.isinstance PyProof.Rows.boot_isinstance (pa_cons (pvD 3) (pa_cons (pe_bltn (v := .ty "ValueError") rfl T.ValueError L2.boot_ValueError rfl) pa_nil))) (pe_one (pe_not (pe_callB (call_isinstK (K := K) rfl) rfl T.isinstance PyProof.Rows.boot_isinstance (pa_cons (pvD 3) (pa_cons (pe_glob (v := .ref C_BadWord) rfl Z.m_BadWord rfl) pa_nil))))))))))
      (pss_one (ps_ret (pvD 2))))), ?_⟩
    walk_at "rd"
    refine ⟨fun σ' H' => σ' = [some (.ref h), some (.ref a), some (.bl true), none] /\ Same H H', ?_, ?_⟩
    . walk_at "rd"
      refine ⟨?_, fun σ1 cls H1 h1 => ?_⟩
      . exact ⟨h, a, L, M, says, says2, ways, ways2, rfl, hh, wf, hh2, wf2, fun z => absurd z hb, fun _ H1 s1 => ⟨rfl, s1⟩⟩
      . obtain ⟨rfl, rfl, s1⟩ := h1
        refine ⟨C_BadHouse, rfl, Z.e_BadHouse, fun ea hea => ?_⟩
        walk_at "rd"
        refine ⟨_, _, .exc upd_same Z.c_BadHouse, rel_ty, _, Z.v_BadHouse, ?_⟩
        rw [if_pos rfl]
        refine ⟨_, _, .exc upd_same Z.c_BadHouse, rel_ref, _, Z.k_BadHouse_BadWord, rfl, s1.newT hea⟩
    . rintro σ' H' ⟨rfl, s'⟩
      walk_at "rd"
      exact k _ s'
theorem nodup_subG41 {α : Type} [DecidableEq α] {l k : List α} (h : l.Nodup) (hs : ∀ x ∈ l, x ∈ k) : l.length <= k.length := by
  induction l generalizing k with
  | nil => simp
  | cons a l ih =>
    rw [List.nodup_cons] at h
    have ha := hs a List.mem_cons_self
    have h1 : ∀ x ∈ l, x ∈ k.erase a := fun x hx => by
      refine (List.mem_erase_of_ne ?_).mpr (hs x (List.mem_cons_of_mem _ hx))
      intro z; subst z; exact h.1 hx
    have := ih h.2 h1
    rw [List.length_erase_of_mem ha] at this
    have hp := List.length_pos_of_mem ha
    rw [List.length_cons]; omega
section
variable {rs : List Int} {E : Nat -> Int -> Int -> Prop}
def Rep41 (rs : List Int) (E : Nat -> Int -> Int -> Prop) (k i : Nat) : Prop := ∀ a, rs[i]? = some a -> ∀ j b, j < i -> rs[j]? = some b -> ¬ E k b a
open Classical in
noncomputable def cnt41 (rs : List Int) (E : Nat -> Int -> Int -> Prop) (k : Nat) : List Nat := (List.range rs.length).filter fun i => decide (Rep41 rs E k i)
open Classical in
theorem mem_cnt41 {k i : Nat} : i ∈ cnt41 rs E k ↔ i < rs.length /\ Rep41 rs E k i := by
  unfold cnt41
  rw [List.mem_filter, List.mem_range, decide_eq_true_eq]
theorem cnt_nodup41 (k : Nat) : (cnt41 rs E k).Nodup := List.nodup_range.filter _
theorem rep_of41 (rf : ∀ k a, E k a a) (sy : ∀ k a b, E k a b -> E k b a) (tr : ∀ k a b c, E k a b -> E k b c -> E k a c) (k : Nat) : ∀ (n i : Nat) (a : Int), i <= n -> rs[i]? = some a -> ∃ j b, rs[j]? = some b /\ E k b a /\ Rep41 rs E k j := by
  intro n
  induction n with
  | zero =>
    intro i a hi ha
    have : i = 0 := by omega
    subst this
    exact ⟨0, a, ha, rf k a, fun a' _ j b hj => absurd hj (Nat.not_lt_zero _)⟩
  | succ n ih =>
    intro i a hi ha
    by_cases h : Rep41 rs E k i
    . exact ⟨i, a, ha, rf k a, h⟩
    . unfold Rep41 at h
      simp only [Classical.not_forall] at h
      obtain ⟨a', e', j, b, hj, hb, hE⟩ := h
      rw [ha] at e'
      cases e'
      have hE : E k b a := Classical.not_not.mp hE
      obtain ⟨j', b', h1, h2, h3⟩ := ih j b (by omega) hb
      exact ⟨j', b', h1, tr k _ _ _ h2 hE, h3⟩
theorem grow41 (rf : ∀ k a, E k a a) (sy : ∀ k a b, E k a b -> E k b a) (tr : ∀ k a b c, E k a b -> E k b c -> E k a c) (mo : ∀ k a b, E (k + 1) a b -> E k a b) {k : Nat} {a b : Int} (ha : a ∈ rs) (hb : b ∈ rs) (h : E k a b) (hn : ¬ E (k + 1) a b) : (cnt41 rs E k).length + 1 <= (cnt41 rs E (k + 1)).length := by
  have sub : ∀ i ∈ cnt41 rs E k, i ∈ cnt41 rs E (k + 1) := fun i hi => by
    obtain ⟨h1, h2⟩ := mem_cnt41.mp hi
    exact mem_cnt41.mpr ⟨h1, fun a ha j b hj hb hE => h2 a ha j b hj hb (mo k _ _ hE)⟩
  obtain ⟨i, hi, hni⟩ : ∃ i, i ∈ cnt41 rs E (k + 1) /\ i ∉ cnt41 rs E k := by
    refine Classical.byContradiction fun hc => hn ?_
    have hall : ∀ i, i ∈ cnt41 rs E (k + 1) -> i ∈ cnt41 rs E k := fun i hi => Classical.byContradiction fun z => hc ⟨i, hi, z⟩
    obtain ⟨ia, hia⟩ := List.mem_iff_getElem?.mp ha
    obtain ⟨ib, hib⟩ := List.mem_iff_getElem?.mp hb
    obtain ⟨j1, c1, p1, p2, p3⟩ := rep_of41 (rs := rs) rf sy tr (k + 1) ia ia a (Nat.le_refl _) hia
    obtain ⟨j2, c2, r1, r2, r3⟩ := rep_of41 (rs := rs) rf sy tr (k + 1) ib ib b (Nat.le_refl _) hib
    have g1 := (mem_cnt41.mp (hall j1 (mem_cnt41.mpr ⟨(List.getElem?_eq_some_iff.mp p1).1, p3⟩))).2
    have g2 := (mem_cnt41.mp (hall j2 (mem_cnt41.mpr ⟨(List.getElem?_eq_some_iff.mp r1).1, r3⟩))).2
    have e12 : E k c1 c2 := tr k _ _ _ (mo k _ _ p2) (tr k _ _ _ h (sy k _ _ (mo k _ _ r2)))
    have ej : j1 = j2 := by
      refine Classical.byContradiction fun hne => ?_
      rcases Nat.lt_or_gt_of_ne hne with hlt | hlt
      . exact g2 c2 r1 j1 c1 hlt p1 e12
      . exact g1 c1 p1 j2 c2 hlt r1 (sy k _ _ e12)
    subst ej
    rw [p1] at r1
    cases r1
    exact tr _ _ _ _ (sy _ _ _ p2) r2
  have := nodup_subG41 (l := i :: cnt41 rs E k) (k := cnt41 rs E (k + 1)) (by rw [List.nodup_cons]; exact ⟨hni, cnt_nodup41 k⟩) fun y hy => by
    rcases List.mem_cons.mp hy with rfl | hy
    . exact hi
    . exact sub y hy
  simpa using this
end
theorem rest55 {rs : List Int} {E : Nat -> Int -> Int -> Prop} (rf : ∀ k a, E k a a) (sy : ∀ k a b, E k a b -> E k b a) (tr : ∀ k a b c, E k a b -> E k b c -> E k a c) (mo : ∀ k a b, E (k + 1) a b -> E k a b) (st : ∀ k, (∀ a ∈ rs, ∀ b ∈ rs, E k a b -> E (k + 1) a b) -> ∀ a ∈ rs, ∀ b ∈ rs, E (k + 1) a b -> E (k + 2) a b) (h0 : 0 < rs.length) {a b : Int} (ha : a ∈ rs) (hb : b ∈ rs) (h : E (rs.length - 1) a b) (j : Nat) : E j a b := by
  have key : ∀ k, (∃ k', k' < k /\ ∀ a ∈ rs, ∀ b ∈ rs, E k' a b -> E (k' + 1) a b) \/ k + 1 <= (cnt41 rs E k).length := by
    intro k
    induction k with
    | zero =>
      right
      have : 0 ∈ cnt41 rs E 0 := mem_cnt41.mpr ⟨h0, fun a _ j b hj => absurd hj (Nat.not_lt_zero _)⟩
      exact List.length_pos_of_mem this
    | succ k ih =>
      rcases ih with ⟨k', h1, h2⟩ | ih
      . exact .inl ⟨k', by omega, h2⟩
      . by_cases hs : ∀ a ∈ rs, ∀ b ∈ rs, E k a b -> E (k + 1) a b
        . exact .inl ⟨k, by omega, hs⟩
        . simp only [Classical.not_forall] at hs
          obtain ⟨a, ha, b, hb, h1, h2⟩ := hs
          right
          have := grow41 rf sy tr mo ha hb h1 h2
          omega
  have hle : (cnt41 rs E rs.length).length <= rs.length := by
    have := nodup_subG41 (l := cnt41 rs E rs.length) (k := List.range rs.length) (cnt_nodup41 _) fun i hi => List.mem_range.mpr (mem_cnt41.mp hi).1
    simpa using this
  rcases key rs.length with ⟨k', h1, h2⟩ | h1
  . have up : ∀ d, ∀ a ∈ rs, ∀ b ∈ rs, E (k' + d) a b -> E (k' + d + 1) a b := by
      intro d
      induction d with
      | zero => exact h2
      | succ d ih => exact st _ ih
    have far : ∀ d, E (rs.length - 1 + d) a b := by
      intro d
      induction d with
      | zero => exact h
      | succ d ih =>
        have := up (rs.length - 1 + d - k') a ha b hb (by rw [show k' + (rs.length - 1 + d - k') = rs.length - 1 + d by omega]; exact ih)
        rw [show k' + (rs.length - 1 + d - k') + 1 = rs.length - 1 + (d + 1) by omega] at this
        exact this
    have down : ∀ d i, E (i + d) a b -> E i a b := by
      intro d
      induction d with
      | zero => exact fun i h => h
      | succ d ih => exact fun i h => ih i (mo _ _ _ h)
    exact down (rs.length - 1) j (by rw [Nat.add_comm]; exact far j)
  . omega
section
variable (n : Int) (s1 w1 s2 w2 : List (List Int))
def rowC55 (a : Int) (v : List Int) : List Int := if a < n then rwS s1 (walkR w1 a v) else rwS s2 (walkR w2 (a - n) v)
def stC55 (a x : Int) : Int := if a < n then stepW w1 a x else n + stepW w2 (a - n) x
end
theorem short55 {L : Int} {s1 w1 s2 w2 : List (List Int)} (wf : WfS L s1 w1) (wf2 : WfS L s2 w2) {w : List Int} (hw : isW L w = true) (ht : tells w1 w2 s1 s2 0 0 w) : ∃ v, isW L v = true /\ v.length + 1 <= s1.length + s2.length /\ tells w1 w2 s1 s2 0 0 v := by
  have hn1 := wf.wf.n1
  have hm1 := wf2.wf.n1
  rw [List.length_replicate] at hn1 hm1
  refine Classical.byContradiction fun hno => ht ?_
  have hmem : ∀ a : Int, a ∈ ups (s1.length + s2.length) ↔ 0 <= a /\ a < s1.length + s2.length := fun a => by
    unfold ups
    rw [List.mem_map]
    constructor
    . rintro ⟨i, hi, rfl⟩
      have := List.mem_range.mp hi
      omega
    . intro h
      exact ⟨a.toNat, List.mem_range.mpr (by omega), by omega⟩
  have hul : (ups (s1.length + s2.length)).length = s1.length + s2.length := by unfold ups; rw [List.length_map, List.length_range]
  have cl : ∀ a ∈ ups (s1.length + s2.length), ∀ x : Int, 0 <= x -> x < L -> stC55 s1.length w1 w2 a x ∈ ups (s1.length + s2.length) /\ ∀ v, rowC55 s1.length s1 w1 s2 w2 a (x :: v) = rowC55 s1.length s1 w1 s2 w2 (stC55 s1.length w1 w2 a x) v := fun a ha x x0 x1 => by
    have ha := (hmem a).mp ha
    unfold stC55 rowC55
    split
    . obtain ⟨row, g, c1, c2, c3, c4, c5⟩ := wf.wf.step ha.1 (by rw [List.length_replicate]; assumption) x0 x1
      rw [List.length_replicate] at c5
      refine ⟨(hmem _).mpr ⟨by omega, by omega⟩, fun v => ?_⟩
      rw [if_pos (by omega)]; rfl
    . obtain ⟨row, g, c1, c2, c3, c4, c5⟩ := wf2.wf.step (r := a - s1.length) (by omega) (by rw [List.length_replicate]; omega) x0 x1
      rw [List.length_replicate] at c5
      refine ⟨(hmem _).mpr ⟨by omega, by omega⟩, fun v => ?_⟩
      rw [if_neg (by omega), show (s1.length : Int) + stepW w2 (a - s1.length) x - s1.length = stepW w2 (a - s1.length) x by omega]; rfl
  have := rest55 (rs := ups (s1.length + s2.length)) (E := fun k a b => ∀ v, isW L v = true -> v.length <= k -> rowC55 s1.length s1 w1 s2 w2 a v = rowC55 s1.length s1 w1 s2 w2 b v) (fun _ _ _ _ _ => rfl) (fun _ _ _ h v hv hl => (h v hv hl).symm) (fun _ _ _ _ h g v hv hl => (h v hv hl).trans (g v hv hl)) (fun _ _ _ h v hv hl => h v hv (by omega)) (fun k hs a ha b hb h v hv hl => by
    cases v with
    | nil => exact h [] hv (by simp)
    | cons x v =>
      have hx := isW_iff.mp hv x List.mem_cons_self
      have hv' : isW L v = true := isW_iff.mpr fun y hy => isW_iff.mp hv y (List.mem_cons_of_mem _ hy)
      obtain ⟨a1, a2⟩ := cl a ha x hx.1 hx.2
      obtain ⟨b1, b2⟩ := cl b hb x hx.1 hx.2
      rw [a2, b2]
      refine hs _ a1 _ b1 (fun u hu hul' => ?_) v hv' (by rw [List.length_cons] at hl; omega)
      rw [<- a2, <- b2]
      exact h (x :: u) (isW_iff.mpr fun y hy => by
        rcases List.mem_cons.mp hy with rfl | hy
        . exact hx
        . exact isW_iff.mp hu y hy) (by rw [List.length_cons]; omega)) (by rw [hul]; omega) (a := 0) (b := s1.length) ((hmem _).mpr ⟨by omega, by omega⟩) ((hmem _).mpr ⟨by omega, by omega⟩) (fun v hv hl => by
    rw [hul] at hl
    unfold rowC55
    rw [if_pos (by omega), if_neg (by omega), Int.sub_self]
    exact Classical.byContradiction fun z => hno ⟨v, hv, by omega, z⟩) w.length w hw (Nat.le_refl _)
  unfold rowC55 at this
  rw [if_pos (by omega), if_neg (by omega), Int.sub_self] at this
  exact this
def wdN (L : Nat) : Nat -> List (List Int)
  | 0 => [[]]
  | k + 1 => (wdN L k).flatMap fun v => (List.range L).map fun x : Nat => v ++ [(x : Int)]
def entF (w1 w2 : List (List Int)) (v : List Int) : (Int × Int) × List Int := ((walkR w1 0 v, walkR w2 0 v), v)
theorem isW_snoc55 {L : Int} {v : List Int} {x : Int} : isW L (v ++ [x]) = true ↔ isW L v = true /\ 0 <= x /\ x < L := by
  rw [isW_iff, isW_iff]
  constructor
  . intro h
    exact ⟨fun y hy => h y (List.mem_append_left _ hy), h x (List.mem_append_right _ (List.mem_singleton.mpr rfl))⟩
  . rintro ⟨h1, h2⟩ y hy
    rcases List.mem_append.mp hy with h | h
    . exact h1 y h
    . rw [List.mem_singleton.mp h]; exact h2
theorem wdN_mem {L : Nat} : ∀ {k : Nat} {v : List Int}, v ∈ wdN L k ↔ v.length = k /\ isW L v = true
  | 0, v => by
    constructor
    . intro h
      rw [List.mem_singleton.mp h]; exact ⟨rfl, rfl⟩
    . intro h
      rw [List.eq_nil_of_length_eq_zero h.1]; exact List.mem_singleton.mpr rfl
  | k + 1, v => by
    show v ∈ (wdN L k).flatMap _ ↔ _
    rw [List.mem_flatMap]
    constructor
    . rintro ⟨u, hu, hv⟩
      obtain ⟨x, hx, rfl⟩ := List.mem_map.mp hv
      have hx := List.mem_range.mp hx
      obtain ⟨h1, h2⟩ := wdN_mem.mp hu
      exact ⟨by rw [List.length_append, h1]; rfl, isW_snoc55.mpr ⟨h2, by omega, by omega⟩⟩
    . rintro ⟨h1, h2⟩
      rcases List.eq_nil_or_concat v with rfl | ⟨u, x, rfl⟩
      . simp at h1
      . rw [List.concat_eq_append] at h1 h2 ⊢
        obtain ⟨h3, h4, h5⟩ := isW_snoc55.mp h2
        rw [List.length_append, List.length_singleton] at h1
        refine ⟨u, wdN_mem.mpr ⟨by omega, h3⟩, List.mem_map.mpr ⟨x.toNat, List.mem_range.mpr (by omega), ?_⟩⟩
        rw [Int.toNat_of_nonneg h4]
theorem wdN_len {L : Nat} : ∀ {k : Nat}, (wdN L k).length = L ^ k
  | 0 => rfl
  | k + 1 => by
    show ((wdN L k).flatMap _).length = _
    rw [List.length_flatMap]
    simp only [List.length_map, List.length_range]
    rw [List.map_const', List.sum_replicate_nat, wdN_len, Nat.pow_succ]
theorem wdN_sorted {L : Nat} (hL : 0 < L) : ∀ {k : Nat}, (wdN L k).Pairwise fun a b => place L a < place L b
  | 0 => List.pairwise_singleton _ _
  | k + 1 => by
    show ((wdN L k).flatMap _).Pairwise _
    rw [List.pairwise_flatMap]
    refine ⟨fun a ha => ?_, (wdN_sorted hL).imp fun {a b} hab x hx y hy => ?_⟩
    . rw [List.pairwise_map]
      refine List.pairwise_lt_range.imp fun {x y} hxy => ?_
      rw [place_snoc, place_snoc]; omega
    . obtain ⟨x', hx', rfl⟩ := List.mem_map.mp hx
      obtain ⟨y', hy', rfl⟩ := List.mem_map.mp hy
      have := List.mem_range.mp hx'
      rw [place_snoc, place_snoc]
      have h2 : (place L a + 1) * (L : Int) <= place L b * L := Int.mul_le_mul_of_nonneg_right (by omega) (by omega)
      rw [Int.add_mul] at h2
      omega
theorem fstU_at {r1 r2 : List Int} {L x : Nat} (h : fstU r1 r2 L = some x) : r1.getD x 0 ≠ r2.getD x 0 /\ ∀ y, y < x -> r1.getD y 0 = r2.getD y 0 := by
  unfold fstU at h
  obtain ⟨h1, i, hi, e, h2⟩ := List.find?_eq_some_iff_getElem.mp h
  rw [List.getElem_range] at e
  subst e
  refine ⟨by simpa using h1, fun y hy => ?_⟩
  have := h2 y hy
  rw [List.getElem_range] at this
  simpa using this
def sp_fu55 (K : PySem.W.Frag) : Sp := fun vs H Q _ => ∃ (h h2 : Addr) (L : Int) (u : List Int) (says says2 ways ways2 : List (List Int)), vs = [.ref h, .ref h2, .int u.length] /\ SaysH K H h L says ways /\ WfS L says ways /\ SaysH K H h2 L says2 ways2 /\ WfS L says2 ways2 /\ SDiff L ways ways2 says says2 u /\ L.toNat ^ u.length <= 1000 /\ ∀ t H', Same H H' -> SqT K H' t (u.map V.int) -> Q (.ref t) H'
theorem ok__law_first_unlike {f : Addr} {fd : FuncData} (F : Fun K "_law_first_unlike" "_law_first_unlike" s__law_first_unlike f fd) (T : Txt mg)
    (Z : Exs K mg C_AskError C_BadHouse C_BadWord)
    : FnOk P w K mg base CX0 1 f fd ["one", "two", "most"] (sp_fu55 K) := by
  refine F.ok sc__law_first_unlike (fun vs H Q E h => ?_) (fun cdv A outer s H vs Q E hr h => ?_)
  . obtain ⟨h, h2, L, u, says, says2, ways, ways2, rfl, _⟩ := h; rfl
  . obtain ⟨h, g2, L, u, says, says2, ways, ways2, rfl, hh, wf, hh2, wf2, hd, hpw, k⟩ := h
    have hl := line1000
    have hL1 := wf.wf.l1
    have hL6 := wf.wf.l6
    obtain ⟨w, x, rfl, hw, hwl, htl, hle, hx⟩ := hd
    refine ⟨_, (pss_cons (ps_setL (i := 3) sc__law_first_unlike.nd (pe_lst (pa_cons (pe_tup (pa_cons (pe_tup pa_nil) (pa_cons pe_int (pa_cons pe_int pa_nil)))) pa_nil)))
      (pss_cons (ps_for PassesOwn.never rfl (pi_range1 rfl T.range (pa_cons (pvD 2) pa_nil)) (pg_name (i := 4) sc__law_first_unlike.nd rfl (Or.inl rfl))
      (pss_cons (ps_setL (i := 5) sc__law_first_unlike.nd (pe_lst pa_nil))
      (pss_cons (ps_for PassesOwn.never rfl (pi_list (pvD 3)) (pg_name (i := 6) sc__law_first_unlike.nd rfl (Or.inl rfl))
      (pss_one (ps_for PassesOwn.never rfl (pi_range1 rfl T.range (pa_cons (pe_ixA (ixTD ix_tup) (pvD 0) pe_int) pa_nil)) (pg_name (i := 7) sc__law_first_unlike.nd rfl (Or.inl rfl))
      (pss_cons (ps_if (ptT (pt_cmpR (opN op_ne) (pe_ixA (ixTD ix_tup) (pe_ixA (ixTD ix_tup) (pe_ixA (ixTD ix_tup) (pvD 0) pe_int) (pe_ixA (ixTD ix_tup) (pvD 6) pe_int)) (pvD 7)) (pe_ixA (ixTD ix_tup) (pe_ixA (ixTD ix_tup) (pe_ixA (ixTD ix_tup) (pvD 1) pe_int) (pe_ixA (ixTD ix_tup) (pvD 6) pe_int)) (pvD 7)) (nomark _)))
      (pss_one (ps_ret (pe_op op_catT2 (pe_ixA (ixTD ix_tup) (pvD 6) pe_int) (pe_tup (pa_cons (pvD 7) pa_nil)))))
      pss_nil)
      (pss_cons (ps_setL (i := 8) sc__law_first_unlike.nd (pe_ixA (ixTD ix_tup) (pe_ixA (ixTD ix_tup) (pe_ixA (ixTD ix_tup) (pvD 0) pe_int) (pe_ixA (ixTD ix_tup) (pvD 6) pe_int)) (pvD 7)))
      (pss_one (ps_expr (pe_bm PySem.F.plainAttrs_list PySem.F.slot_list_append PySem.F.type_list_append mt_append (pvD 5) (pa_cons (pe_tup (pa_cons (pe_op op_catT2 (pe_ixA (ixTD ix_tup) (pvD 6) pe_int) (pe_tup (pa_cons (pvD 7) pa_nil))) (pa_cons (pvD 8) (pa_cons (pe_ixA (ixTD ix_tup) (pe_ixA (ixTD ix_tup) (pe_ixA (ixTD ix_tup) (pvD 1) pe_int) (pe_ixA (ixTD ix_tup) (pvD 6) pe_int)) (pvD 7)) pa_nil)))) pa_nil)))))))))
      (pss_one (ps_setL (i := 3) sc__law_first_unlike.nd (pvD 5))))))
      (pss_one (ps_ret pe_non)))), ?_⟩
    walk_at "rd"
    obtain ⟨hxne, hxlt⟩ := fstU_at hx
    have hxL := (fstU_head hx).1
    obtain ⟨N, rfl⟩ : ∃ N : Nat, L = N := ⟨L.toNat, by omega⟩
    rw [Int.toNat_natCast] at hxL hpw
    have hlw : ((w ++ [(x : Int)]).length : Int) = (w.length : Int) + 1 := by simp
    have hlw' : (w ++ [(x : Int)]).length = w.length + 1 := by simp
    rw [hlw'] at hpw
    refine ⟨by omega, fun p0 hp0 => ⟨by omega, fun p1 hp1 => ⟨by omega, fun p2 hp2 => ⟨by omega, by omega, ?_⟩⟩⟩⟩
    rw [hlw, show ((w.length : Int) + 1).toNat = w.length + 1 by omega]
    have s0 := ((Same.new hp0 (o := .tup [])).newT hp1 (o := .tup [V.ref p0, V.int 0, V.int 0])).newT hp2 (o := .lst [V.ref p1])
    have c0 := ((Same.new hp1 (o := .tup [V.ref p0, V.int 0, V.int 0])).newT hp2 (o := .lst [V.ref p1])) _ _ (show upd H p0 (.tup []) p0 = _ from upd_same)
    have c1 := Same.new hp2 (o := .lst [V.ref p1]) _ _ (show upd (upd H p0 (.tup [])) p1 (.tup [V.ref p0, V.int 0, V.int 0]) p1 = _ from upd_same)
    have c2 : upd (upd (upd H p0 (.tup [])) p1 (.tup [V.ref p0, V.int 0, V.int 0])) p2 (.lst [V.ref p1]) p2 = some (.lst [V.ref p1]) := upd_same
    generalize upd (upd (upd H p0 (.tup [])) p1 (.tup [V.ref p0, V.int 0, V.int 0])) p2 (.lst [V.ref p1]) = H0 at s0 c0 c1 c2 ⊢
    obtain ⟨Pv, hPv⟩ : ∃ Pv : Nat -> St -> Hp -> Prop, ∀ i σ2 H2, Pv i σ2 H2 ↔ (∃ (l : Addr) (ss : List V) (o4 o5 o6 o7 o8 : Option V), i <= w.length /\ Same H H2 /\ H2 l = some (.lst ss) /\ SpotL H2 ((wdN N i).map (entF ways ways2)) ss /\ σ2 = [some (.ref h), some (.ref g2), some (.int ((w.length : Int) + 1)), some (.ref l), o4, o5, o6, o7, o8]) := ⟨_, fun _ _ _ => Iff.rfl⟩
    refine forR Pv ((hPv _ _ _).mpr ⟨p2, [V.ref p1], none, none, none, none, none, by omega, s0, c2, ⟨rfl, fun i e he => ?_⟩, rfl⟩) (fun i σ2 H2 hi h2 => ?_) (fun σ2 H2 h2 => ?_)
    . cases i with
      | zero => simp [wdN, entF] at he; subst he; exact ⟨p1, p0, rfl, c1, c0⟩
      | succ i => simp [wdN] at he
    . obtain ⟨l, ss, o4, o5, o6, o7, o8, hiw, s2, hl2, hS2, rfl⟩ := (hPv _ _ _).mp h2
      rw [Int.zero_add]
      walk_at "rd"
      refine ⟨by omega, fun p hp => ⟨⟨_, SqL.of (Same.new hp _ _ hl2)⟩, ?_⟩⟩
      have hwlen : (wdN N i).length = N ^ i := wdN_len
      have hpow : N ^ i * N <= 1000 := by
        rw [<- Nat.pow_succ]
        exact Nat.le_trans (Nat.pow_le_pow_right (by omega) (by omega)) hpw
      have hlp : l ≠ p := fun z => by rw [z, hp] at hl2; cases hl2
      have hpn : H p = none := s2.none hp
      obtain ⟨Pn, hPn⟩ : ∃ Pn : Nat -> St -> Hp -> Prop, ∀ j σ3 H3, Pn j σ3 H3 ↔ (∃ (ls : List V) (o6 o7 o8 : Option V), Same H2 H3 /\ H3 p = some (.lst ls) /\ SpotL H3 ((((wdN N i).take j).flatMap fun v => (List.range N).map fun y : Nat => v ++ [(y : Int)]).map (entF ways ways2)) ls /\ (∀ v ∈ (wdN N i).take j, place N v < place N w) /\ σ3 = [some (.ref h), some (.ref g2), some (.int ((w.length : Int) + 1)), some (.ref l), some (.int i), some (.ref p), o6, o7, o8]) := ⟨_, fun _ _ _ => Iff.rfl⟩
      refine forL (xs := ss) Pn ((hPn _ _ _).mpr ⟨[], o6, o7, o8, Same.new hp, upd_same, ⟨rfl, fun i e he => by simp at he⟩, fun v hv => by simp at hv, rfl⟩) (fun j σ3 H3 _ h3 => by obtain ⟨ls, o6, o7, o8, s3, _⟩ := (hPn _ _ _).mp h3; exact SqL.of (s3 _ _ hl2)) (fun j vv σ3 H3 hvv h3 => ?_) (fun σ3 H3 h3 => ?_)
      . obtain ⟨ls, o6, o7, o8, s3, hp3, hL3, hlt, rfl⟩ := (hPn _ _ _).mp h3
        have hj : j < (wdN N i).length := by
          have := (List.getElem?_eq_some_iff.mp hvv).1
          rw [hS2.1, List.length_map] at this
          exact this
        have hvj : (wdN N i)[j]? = some (wdN N i)[j] := by simp [hj]
        have et : (wdN N i).take (j + 1) = (wdN N i).take j ++ [(wdN N i)[j]] := by rw [List.take_add_one, hvj]; rfl
        obtain ⟨t, tu, e1, e2, e3⟩ := hS2.2 j (entF ways ways2 (wdN N i)[j]) (by rw [List.getElem?_map, hvj]; rfl)
        rw [hvv] at e1
        cases e1
        have hvm := List.mem_of_getElem? hvj
        obtain ⟨hvl, hvw⟩ := wdN_mem.mp hvm
        -- the word stands at the least one, or before it
        have hcase : (wdN N i)[j] = w \/ place N (wdN N i)[j] < place N w := by
          by_cases hc : place N (wdN N i)[j] < place N w
          . exact .inr hc
          . left
            have hge : w.length <= (wdN N i)[j].length := (length_iff (by omega) hw _).mpr (by have := (place_bounds (L := (N : Int)) (by omega) hvw).2; omega)
            have hwi : i = w.length := by omega
            have hwm : w ∈ wdN N i := wdN_mem.mpr ⟨hwi.symm, hw⟩
            obtain ⟨j0, hj0, ej⟩ := List.getElem_of_mem hwm
            have hsort := List.pairwise_iff_getElem.mp (wdN_sorted (L := N) (by omega) (k := i))
            rcases Nat.lt_trichotomy j0 j with h1 | h1 | h1
            . have := hlt w (by
                rw [List.mem_take_iff_getElem]
                exact ⟨j0, by omega, ej⟩)
              omega
            . subst h1; exact ej
            . have := hsort j j0 hj hj0 h1
              rw [ej] at this
              exact absurd this hc
        generalize (wdN N i)[j] = v at et e2 e3 hvm hvl hvw hcase
        have hwk := wf.walk hvw v.length
        have hwk2 := wf2.walk hvw v.length
        rw [List.take_length] at hwk hwk2
        have e2 : H2 t = some (.tup [.ref tu, .int (walkW ways v), .int (walkW ways2 v)]) := e2
        have e3 : H2 tu = some (.tup (v.map V.int)) := e3
        have hbase : (((wdN N i).take j).flatMap fun v => (List.range N).map fun y : Nat => v ++ [(y : Int)]).length <= 1000 := by
          rw [List.length_flatMap]
          simp only [List.length_map, List.length_range]
          rw [List.map_const', List.sum_replicate_nat]
          exact Nat.le_trans (Nat.mul_le_mul_right _ (by rw [List.length_take, hwlen]; omega)) hpow
        obtain ⟨m, wv, q1, q2, q3⟩ := id hh
        obtain ⟨m', wv', q1', q2', q3'⟩ := id hh2
        have s23 := s2.trans s3
        walk_at "rd"
        refine ⟨_, s23.seqT q1, _, rfl, _, rfl, by omega, by omega, ?_⟩
        rw [Int.toNat_natCast]
        generalize hB : ((wdN N i).take j).flatMap (fun v => (List.range N).map fun y : Nat => v ++ [(y : Int)]) = Bs at hL3 hbase
        obtain ⟨Pm, hPm⟩ : ∃ Pm : Nat -> St -> Hp -> Prop, ∀ y σ4 H4, Pm y σ4 H4 ↔ (∃ (ls : List V) (o7 o8 : Option V), Same H2 H4 /\ H4 p = some (.lst ls) /\ SpotL H4 ((Bs ++ (List.range y).map fun y : Nat => v ++ [(y : Int)]).map (entF ways ways2)) ls /\ (v = w -> y <= x) /\ σ4 = [some (.ref h), some (.ref g2), some (.int ((w.length : Int) + 1)), some (.ref l), some (.int i), some (.ref p), some (.ref t), o7, o8]) := ⟨_, fun _ _ _ => Iff.rfl⟩
        refine forR Pm ((hPm _ _ _).mpr ⟨ls, o7, o8, s3, hp3, by rw [show (List.range 0).map (fun y : Nat => v ++ [(y : Int)]) = [] from rfl, List.append_nil]; exact hL3, fun _ => Nat.zero_le _, rfl⟩) (fun y σ4 H4 hy h4 => ?_) (fun σ4 H4 h4 => ?_)
        . obtain ⟨ls, o7, o8, s4, hp4, hL4, hyx, rfl⟩ := (hPm _ _ _).mp h4
          rw [Int.zero_add]
          have s24 := s2.trans s4
          obtain ⟨r1, c1, c2⟩ := wf.at hwk.1 hwk.2 (show (0 : Int) <= (y : Int) by omega) (by omega)
          obtain ⟨r2, d1, d2⟩ := wf2.at hwk2.1 hwk2.2 (show (0 : Int) <= (y : Int) by omega) (by omega)
          obtain ⟨xs, a, z1, z2, z3⟩ := (q2.mono s24).atZ hwk.1 c1
          obtain ⟨xs', a', z1', z2', z3'⟩ := (q2'.mono s24).atZ hwk2.1 d1
          have ht4 := s4 _ _ e2
          have hu4 := s4 _ _ e3
          walk_at "rd"
          refine ⟨_, s24.seqT q1, _, rfl, _, SqT.of ht4, _, rfl, _, rfl, _, _, rfl, z1, _, z2, _, rfl, _, z3, _, atI_int (by omega) c2, _, s24.seqT q1', _, rfl, _, SqT.of ht4, _, rfl, _, rfl, _, _, rfl, z1', _, z2', _, rfl, _, z3', _, atI_int (by omega) d2, rfl, ?_⟩
          have hvlen : v.length <= 1700 := by omega
          have hstep : stepW says (walkW ways v) (y : Int) = (rwS says (walkW ways v)).getD y 0 := rfl
          have hstep2 : stepW says2 (walkW ways2 v) (y : Int) = (rwS says2 (walkW ways2 v)).getD y 0 := rfl
          by_cases e : stepW says (walkW ways v) (y : Int) = stepW says2 (walkW ways2 v) (y : Int)
          . rw [if_neg (by rw [decide_eq_true (congrArg V.int e)]; decide)]
            obtain ⟨row, g, f1, f2, f3, f4, f5⟩ := wf.wf.step hwk.1 (by rw [List.length_replicate]; exact hwk.2) (show (0 : Int) <= (y : Int) by omega) (show (y : Int) < (N : Int) by omega)
            obtain ⟨row', g', f1', f2', f3', f4', f5'⟩ := wf2.wf.step hwk2.1 (by rw [List.length_replicate]; exact hwk2.2) (show (0 : Int) <= (y : Int) by omega) (show (y : Int) < (N : Int) by omega)
            obtain ⟨xs2, b, b1, b2, b3⟩ := (q3.mono s24).atZ hwk.1 f1
            refine ⟨_, s24.seqT q1, _, rfl, _, SqT.of ht4, _, rfl, _, rfl, _, _, rfl, b1, _, b2, _, rfl, _, b3, _, atI_int (by omega) f2, .inl ⟨rfl, _, SqL.of hp4⟩, _, SqT.of ht4, _, rfl, by omega, fun p6 hp6 => rCatT2.ofS (Same.new hp6 _ _ hu4) upd_same (by simp; omega) fun q H5 s5' hq => ?_⟩
            have hq : H5 q = some (.tup ((v ++ [(y : Int)]).map V.int)) := by rw [List.map_append]; exact hq
            have s5 := (Same.new hp6 (o := .tup [V.int (y : Int)])).trans s5'
            have s25 := s24.trans s5
            obtain ⟨xs3, b', b1', b2', b3'⟩ := (q3'.mono s25).atZ hwk2.1 f1'
            refine ⟨_, s25.seqT q1', _, rfl, _, SqT.of (s5 _ _ ht4), _, rfl, _, rfl, _, _, rfl, b1', _, b2', _, rfl, _, b3', _, atI_int (by omega) f2', by omega, fun p7 hp7 => ?_⟩
            have s6 := s5.newT hp7 (o := .tup [V.ref q, V.int g, V.int g'])
            have hp6' := s6 _ _ hp4
            have hlsl : ls.length < sizeLine := by
              rw [hL4.1, List.length_map, List.length_append, List.length_map, List.length_range]
              omega
            have kU := TK.lst (o := .lst (ls ++ [V.ref p7])) hp6'
            refine ⟨ls, hp6', hlsl, (hPm _ _ _).mpr ⟨_, _, _, (s4.trans s6).over hp, upd_same, ?_, fun z => ?_, rfl⟩⟩
            . rw [show Bs ++ (List.range (y + 1)).map (fun y : Nat => v ++ [(y : Int)]) = (Bs ++ (List.range y).map fun y : Nat => v ++ [(y : Int)]) ++ [v ++ [(y : Int)]] by rw [List.range_succ, List.map_append, List.append_assoc]; rfl, List.map_append]
              refine ((hL4.mono (TK.of s6)).mono kU).snoc (kU _ _ ?_) (kU _ _ (Same.new hp7 _ _ hq))
              have w1e : walkR ways 0 (v ++ [(y : Int)]) = g := by
                unfold walkR; rw [List.foldl_append]; exact f3
              have w2e : walkR ways2 0 (v ++ [(y : Int)]) = g' := by
                unfold walkR; rw [List.foldl_append]; exact f3'
              show upd H5 p7 (.tup [V.ref q, V.int g, V.int g']) p7 = some (.tup [V.ref q, V.int (walkR ways 0 (v ++ [(y : Int)])), V.int (walkR ways2 0 (v ++ [(y : Int)]))])
              rw [w1e, w2e]; exact upd_same
            . have h1 := hyx z
              have h2 : y ≠ x := fun z2 => by
                subst z; subst z2
                exact hxne e
              omega
          . rw [if_pos (by rw [decide_eq_false (fun z => e (V.int.inj z))]; decide)]
            have hv : v = w := hcase.resolve_right fun z => by
              have htv : tells ways ways2 says says2 0 0 v := fun z2 => e (by
                rw [hstep, hstep2]
                exact congrArg (fun r => r.getD y 0) z2)
              have := hle v hvw htv
              omega
            subst hv
            have hyx' : y = x := by
              have h1 := hyx rfl
              by_cases h2 : y < x
              . exact absurd (hxlt y h2) e
              . omega
            subst hyx'
            refine ⟨_, SqT.of ht4, _, rfl, by omega, fun p6 hp6 => rCatT2.ofS (Same.new hp6 _ _ hu4) upd_same (by simp; omega) fun q H5 s5' hq => ?_⟩
            exact k q H5 (s24.trans ((Same.new hp6).trans s5')) (SqT.of (by rw [List.map_append]; exact hq))
        . obtain ⟨ls, o7, o8, s4, hp4, hL4, hyx, rfl⟩ := (hPm _ _ _).mp h4
          have hvne : v ≠ w := fun z => by have := hyx z; omega
          refine (hPn _ _ _).mpr ⟨ls, _, _, _, s4, hp4, ?_, fun v' hv' => ?_, rfl⟩
          . rw [et, List.flatMap_append, List.flatMap_cons, List.flatMap_nil, List.append_nil, hB]
            exact hL4
          . rw [et] at hv'
            rcases List.mem_append.mp hv' with h' | h'
            . exact hlt v' h'
            . rw [List.mem_singleton.mp h']
              exact hcase.resolve_left hvne
      . obtain ⟨ls, o6, o7, o8, s3, hp3, hL3, hlt, rfl⟩ := (hPn _ _ _).mp h3
        rw [hS2.1, List.length_map, List.take_length] at hL3 hlt
        walk_at "rd"
        refine (hPv _ _ _).mpr ⟨p, ls, _, _, _, _, _, ?_, s2.trans s3, hp3, hL3, rfl⟩
        refine Nat.lt_of_le_of_ne hiw fun z => ?_
        have := hlt w (wdN_mem.mpr ⟨z.symm, hw⟩)
        omega
    . obtain ⟨l, ss, o4, o5, o6, o7, o8, hiw, s2, hl2, hS2, rfl⟩ := (hPv _ _ _).mp h2
      omega
def sp_isword67 (K : PySem.W.Frag) : Sp := fun vs H Q _ => ∃ (a : Addr) (L : Int) (ws : List Int), vs = [.ref a, .int L] /\ SqT K H a (ws.map V.int) /\ isW L ws = true /\ Q (.bl true) H
theorem ok__law_is_word {f : Addr} {fd : FuncData} (F : Fun K "_law_is_word" "_law_is_word" s__law_is_word f fd) (T : Txt mg)
    (Z : Exs K mg C_AskError C_BadHouse C_BadWord)
    {f__law_whole : Addr} {fd__law_whole : FuncData} (g__law_whole : FnOk P w K mg base CX0 1 f__law_whole fd__law_whole ["found"] (sp_whole)) (F__law_whole : Fun K "_law_whole" "_law_whole" s__law_whole f__law_whole fd__law_whole) (b__law_whole : Binds K fd__law_whole ["found"] []) (m__law_whole : mg "_law_whole" = some (.ref f__law_whole))
    : FnOk P w K mg base CX0 2 f fd ["found", "letters"] (sp_isword67 K) := by
  refine F.ok sc__law_is_word (fun vs H Q E h => ?_) (fun cdv A outer s H vs Q E hr h => ?_)
  . obtain ⟨a, L, ws, rfl, _⟩ := h; rfl
  . obtain ⟨a, L, ws, rfl, ha, hw, k⟩ := h
    have hl := line1000
    refine ⟨_, (pss_cons (ps_if (pt_not (ptB (pt_val (pe_callB call_isinstW rfl T.isinstance PyProof.Rows.boot_isinstance (pa_cons (pvD 0) (pa_cons (pe_bltn (v := .ty "tuple") rfl T.tuple PyProof.Rows.boot_tuple rfl) pa_nil))))))
      (pss_one (ps_ret pe_bl))
      pss_nil)
      (pss_cons (ps_for PassesOwn.never rfl (pi_tup (pvD 0)) (pg_name (i := 2) sc__law_is_word.nd rfl (Or.inl rfl))
      (pss_one (ps_if (PW.pt (pw_or (pt_not (ptB (pt_val (pe_call g__law_whole (hr.mono (by decide)) rfl m__law_whole F__law_whole.kp b__law_whole .nil pass0 (pa_cons (pvD 2) pa_nil))))) (pw_or (ptT (pt_cmpR (opD0 op_lt) (pvD 2) pe_int (nomark _))) (pw_or1 (ptT (pt_cmpR (opD0 op_ge) (pvD 2) (pvD 1) (nomark _)))))))
      (pss_one (ps_ret pe_bl))
      pss_nil)))
      (pss_one (ps_ret pe_bl)))), ?_⟩
    walk_at "rd"
    refine ⟨_, _, .tup ha, rel_ty, _, kit_self, ?_⟩
    rw [if_neg (by decide)]
    refine ⟨⟨_, ha⟩, ?_⟩
    obtain ⟨Pv, hPv⟩ : ∃ Pv : Nat -> St -> Hp -> Prop, ∀ m σ' H', Pv m σ' H' ↔ (H' = H /\ ∃ o, σ' = [some (.ref a), some (.int L), o]) := ⟨_, fun _ _ _ => Iff.rfl⟩
    refine forT (xs := ws.map V.int) Pv ((hPv _ _ _).mpr ⟨rfl, none, rfl⟩) (fun i σ' H' _ h' => by obtain ⟨rfl, _⟩ := (hPv _ _ _).mp h'; exact ha) (fun i x σ' H' hx h' => ?_) (fun σ' H' h' => ?_)
    . obtain ⟨rfl, o, rfl⟩ := (hPv _ _ _).mp h'
      obtain ⟨g, hg, rfl⟩ := get_mapI hx
      have hb := isW_iff.mp hw g (List.mem_of_getElem? hg)
      walk_at "rd"
      refine ⟨g, rfl, _, rfl, ?_⟩
      rw [if_neg (by decide), if_neg (by omega), if_neg (by omega)]
      exact (hPv _ _ _).mpr ⟨rfl, _, rfl⟩
    . obtain ⟨rfl, o, rfl⟩ := (hPv _ _ _).mp h'
      walk_at "rd"
      exact k
theorem unl_first55 {L : Int} {says says2 ways ways2 : List (List Int)} {ents : List ((Int × Int) × List Int)} {top : Int} (wf : WfS L says ways) (wf2 : WfS L says2 ways2) (bf : B L (stepP ways ways2) (0, 0) (okP says.length says2.length) ents ents.length top) {u : List Int} (hd : SDiff L ways ways2 says says2 u) : ∃ rest, unlL says says2 L.toNat ents = u :: rest := by
  have hmk : ∀ e ∈ ents, isW L e.2 = true /\ walkR ways 0 e.2 = e.1.1 /\ walkR ways2 0 e.2 = e.1.2 := fun e he => by
    have h0 := bf.wd e he
    have := h0.2
    rw [walkP] at this
    exact ⟨h0.1, congrArg Prod.fst this, congrArg Prod.snd this⟩
  have hL1 := wf.wf.l1
  obtain ⟨w, x, rfl, h1, h2, h3, h4, h5⟩ := hd
  obtain ⟨w', hm, hple⟩ := bf.leastW h1
  rw [walkP] at hm
  obtain ⟨m1, m2, m3⟩ := hmk _ hm
  have m2 : walkR ways 0 w' = walkR ways 0 w := m2
  have m3 : walkR ways2 0 w' = walkR ways2 0 w := m3
  have e1 : w' = w := place_inj (by omega) m1 h1 (Int.le_antisymm hple (h4 w' m1 (by
    show rwS says (walkR ways 0 w') ≠ rwS says2 (walkR ways2 0 w')
    rw [m2, m3]; exact h3)))
  rw [e1] at hm
  obtain ⟨j, hj, ej⟩ := List.getElem_of_mem hm
  have hej : ents[j]? = some ((walkR ways 0 w, walkR ways2 0 w), w) := by rw [List.getElem?_eq_getElem hj, ej]
  have hsp : ents = ents.take j ++ ((walkR ways 0 w, walkR ways2 0 w), w) :: ents.drop (j + 1) := by
    rw [<- ej, <- List.drop_eq_getElem_cons hj, List.take_append_drop]
  have hnil : unlL says says2 L.toNat (ents.take j) = [] := by
    unfold unlL
    rw [List.flatMap_eq_nil_iff]
    intro e he
    obtain ⟨i, hi, ei⟩ := List.mem_take_iff_getElem.mp he
    have hei : ents[i]? = some e := by rw [List.getElem?_eq_getElem (by omega), ei]
    have hlt : place L e.2 < place L w := bf.inc i j _ _ (by omega) hei hej
    obtain ⟨a1, a2, a3⟩ := hmk e (List.mem_of_getElem? hei)
    unfold unlE
    rw [List.map_eq_nil_iff, List.filter_eq_nil_iff]
    intro y _
    have : rwS says e.1.1 = rwS says2 e.1.2 := by
      rw [<- a2, <- a3]
      exact Classical.byContradiction fun z => by
        have := h4 e.2 a1 z
        omega
    have e' : stepW says e.1.1 (y : Int) = stepW says2 e.1.2 (y : Int) := congrArg (fun r => r.getD y 0) this
    simp [e']
  have hhd := (fstU_head h5).2
  rw [hsp]
  unfold unlL at hnil ⊢
  rw [List.flatMap_append, hnil, List.nil_append, List.flatMap_cons]
  unfold unlE
  have hf : ((List.range L.toNat).filter fun (x : Nat) => decide (stepW says (walkR ways 0 w) x ≠ stepW says2 (walkR ways2 0 w) x))[0]? = some x := hhd
  show ∃ rest, ((List.range L.toNat).filter fun (x : Nat) => decide (stepW says (walkR ways 0 w) x ≠ stepW says2 (walkR ways2 0 w) x)).map (fun x => w ++ [Int.ofNat x]) ++ _ = _
  generalize ((List.range L.toNat).filter fun (x : Nat) => decide (stepW says (walkR ways 0 w) x ≠ stepW says2 (walkR ways2 0 w) x)) = fl at hf ⊢
  cases fl with
  | nil => simp at hf
  | cons y fl =>
    have : y = x := by simpa using hf
    subst this
    exact ⟨_, rfl⟩
theorem unl_none55 {L : Int} {says says2 ways ways2 : List (List Int)} {ents : List ((Int × Int) × List Int)} {top : Int} (wf : WfS L says ways) (wf2 : WfS L says2 ways2) (bf : B L (stepP ways ways2) (0, 0) (okP says.length says2.length) ents ents.length top) (hd : ∀ ws, isW L ws = true -> ¬ tells ways ways2 says says2 0 0 ws) : unlL says says2 L.toNat ents = [] := by
  have hmk : ∀ e ∈ ents, isW L e.2 = true /\ walkR ways 0 e.2 = e.1.1 /\ walkR ways2 0 e.2 = e.1.2 := fun e he => by
    have h0 := bf.wd e he
    have := h0.2
    rw [walkP] at this
    exact ⟨h0.1, congrArg Prod.fst this, congrArg Prod.snd this⟩
  unfold unlL
  rw [List.flatMap_eq_nil_iff]
  intro e he
  obtain ⟨h1, h2, h3⟩ := hmk e he
  unfold unlE
  rw [List.map_eq_nil_iff, List.filter_eq_nil_iff]
  intro x _
  have : rwS says e.1.1 = rwS says2 e.1.2 := by
    rw [<- h2, <- h3]
    exact Classical.byContradiction fun z => hd e.2 h1 z
  have e' : stepW says e.1.1 (x : Int) = stepW says2 e.1.2 (x : Int) := congrArg (fun r => r.getD x 0) this
  simp [e']
theorem sd_symm55 {L : Int} {says says2 ways ways2 : List (List Int)} {u : List Int} (hd : SDiff L ways ways2 says says2 u) : SDiff L ways2 ways says2 says u := by
  obtain ⟨w, x, rfl, h1, h2, h3, h4, h5⟩ := hd
  refine ⟨w, x, rfl, h1, h2, fun z => h3 z.symm, fun ws hw ht => h4 ws hw fun z => ht z.symm, ?_⟩
  unfold fstU at h5 ⊢
  rw [<- h5]
  congr 1
  funext y
  simp only [ne_eq, decide_not]
  rw [show decide ((rwS says2 (walkR ways2 0 w)).getD y 0 = (rwS says (walkR ways 0 w)).getD y 0) = decide ((rwS says (walkR ways 0 w)).getD y 0 = (rwS says2 (walkR ways2 0 w)).getD y 0) from decide_eq_decide.mpr eq_comm]
theorem sd_uniq55 {L : Int} (hL : 0 < L) {says says2 ways ways2 : List (List Int)} {u u' : List Int} (hd : SDiff L ways ways2 says says2 u) (hd' : SDiff L ways ways2 says says2 u') : u = u' := by
  obtain ⟨w, x, rfl, h1, h2, h3, h4, h5⟩ := hd
  obtain ⟨w', x', rfl, h1', h2', h3', h4', h5'⟩ := hd'
  have : w = w' := place_inj hL h1 h1' (Int.le_antisymm (h4 _ h1' h3') (h4' _ h1 h3))
  subst this
  rw [h5] at h5'
  cases h5'
  rfl
theorem sd_len55 {L : Int} {says says2 ways ways2 : List (List Int)} {u : List Int} (wf : WfS L says ways) (wf2 : WfS L says2 ways2) (hd : SDiff L ways ways2 says says2 u) : u.length <= says.length + says2.length /\ 1 <= u.length /\ isW L u = true := by
  obtain ⟨w, x, rfl, h1, h2, h3, h4, h5⟩ := hd
  obtain ⟨v, v1, v2, v3⟩ := short55 wf wf2 h1 h3
  have hL1 := wf.wf.l1
  have := h4 v v1 v3
  have hb := (place_bounds (L := L) (by omega) v1).2
  have hw : w.length <= v.length := (length_iff (by omega) h1 _).mpr (by omega)
  have hx := (fstU_head h5).1
  refine ⟨by rw [List.length_append, List.length_singleton]; omega, by rw [List.length_append, List.length_singleton]; omega, isW_snoc55.mpr ⟨h1, by omega, by omega⟩⟩
def sp_wg55 (K : PySem.W.Frag) : Sp := fun vs H Q _ => ∃ (c : Int), vs = [.int c] /\ 0 <= c /\ c < 1000000000000 /\ ∀ H', Q (.bl true) H'
theorem ok__law_wide_good {f : Addr} {fd : FuncData} (F : Fun K "_law_wide_good" "_law_wide_good" s__law_wide_good f fd) (T : Txt mg)
    (Z : Exs K mg C_AskError C_BadHouse C_BadWord)
    {f_says_difference : Addr} {fd_says_difference : FuncData} (g_says_difference : FnOk P w K mg base (CXe P w) 5 f_says_difference fd_says_difference ["house", "other"] (sp_sd55 K C_BadHouse)) (F_says_difference : Fun K "says_difference" "says_difference" s_says_difference f_says_difference fd_says_difference) (b_says_difference : Binds K fd_says_difference ["house", "other"] []) (m_says_difference : mg "says_difference" = some (.ref f_says_difference))
    {f__law_is_word : Addr} {fd__law_is_word : FuncData} (g__law_is_word : FnOk P w K mg base CX0 2 f__law_is_word fd__law_is_word ["found", "letters"] (sp_isword67 K)) (F__law_is_word : Fun K "_law_is_word" "_law_is_word" s__law_is_word f__law_is_word fd__law_is_word) (b__law_is_word : Binds K fd__law_is_word ["found", "letters"] []) (m__law_is_word : mg "_law_is_word" = some (.ref f__law_is_word))
    {f__law_order : Addr} {fd__law_order : FuncData} (g__law_order : FnOk P w K mg base CX0 1 f__law_order fd__law_order ["rooms", "cell"] (sp_order55 K)) (F__law_order : Fun K "_law_order" "_law_order" s__law_order f__law_order fd__law_order) (b__law_order : Binds K fd__law_order ["rooms", "cell"] []) (m__law_order : mg "_law_order" = some (.ref f__law_order))
    {f__law_renumbered : Addr} {fd__law_renumbered : FuncData} (g__law_renumbered : FnOk P w K mg base CX0 1 f__law_renumbered fd__law_renumbered ["house", "order"] (sp_renum55 K)) (F__law_renumbered : Fun K "_law_renumbered" "_law_renumbered" s__law_renumbered f__law_renumbered fd__law_renumbered) (b__law_renumbered : Binds K fd__law_renumbered ["house", "order"] []) (m__law_renumbered : mg "_law_renumbered" = some (.ref f__law_renumbered))
    {f__law_unlike_words : Addr} {fd__law_unlike_words : FuncData} (g__law_unlike_words : FnOk P w K mg base CX0 2 f__law_unlike_words fd__law_unlike_words ["one", "two"] (sp_unl55 K)) (F__law_unlike_words : Fun K "_law_unlike_words" "_law_unlike_words" s__law_unlike_words f__law_unlike_words fd__law_unlike_words) (b__law_unlike_words : Binds K fd__law_unlike_words ["one", "two"] []) (m__law_unlike_words : mg "_law_unlike_words" = some (.ref f__law_unlike_words))
    {f__law_put : Addr} {fd__law_put : FuncData} (g__law_put : FnOk P w K mg base CX0 1 f__law_put fd__law_put ["row", "place", "thing"] (sp_put55 K)) (F__law_put : Fun K "_law_put" "_law_put" s__law_put f__law_put fd__law_put) (b__law_put : Binds K fd__law_put ["row", "place", "thing"] []) (m__law_put : mg "_law_put" = some (.ref f__law_put))
    {f__law_wide : Addr} {fd__law_wide : FuncData} (g__law_wide : FnOk P w K mg base CX0 1 f__law_wide fd__law_wide ["cell"] (sp_wide55 K)) (F__law_wide : Fun K "_law_wide" "_law_wide" s__law_wide f__law_wide fd__law_wide) (b__law_wide : Binds K fd__law_wide ["cell"] []) (m__law_wide : mg "_law_wide" = some (.ref f__law_wide))
    : FnOk P w K mg base CX0 6 f fd ["cell"] (sp_wg55 K) := by
  refine F.ok sc__law_wide_good (fun vs H Q E h => ?_) (fun cdv A outer s H vs Q E hr h => ?_)
  . obtain ⟨c, rfl, _⟩ := h; rfl
  . obtain ⟨c, rfl, c0, c1, k⟩ := h
    have hl := line1000
    refine ⟨_, (pss_lazy (ps_setL (i := 1) sc__law_wide_good.nd (pe_call g__law_wide (hr.mono (by decide)) rfl m__law_wide F__law_wide.kp b__law_wide .nil pass0 (pa_cons (pvD 0) pa_nil)))
      (pss_lazy (ps_setL (i := 2) sc__law_wide_good.nd (pe_callB (lenD call_len_seq) (by rfl) T.len PySem.boot_len (pa_cons (pe_ixA (ixTD ix_tup) (pvD 1) pe_int) pa_nil)))
      (pss_lazy (ps_setL (i := 3) sc__law_wide_good.nd (pe_call g__law_renumbered (hr.mono (by decide)) rfl m__law_renumbered F__law_renumbered.kp b__law_renumbered .nil pass0 (pa_cons (pvD 1) (pa_cons (pe_call g__law_order (hr.mono (by decide)) rfl m__law_order F__law_order.kp b__law_order .nil pass0 (pa_cons (pvD 2) (pa_cons (pe_op (opD op_fdiv) (pvD 0) pe_int) pa_nil))) pa_nil))))
      (pss_cut (ps_if (ptT (pt_cmpR (opE op_eq) (pe_op (opD op_mod) (pe_op (opD op_fdiv) (pvD 0) pe_int) pe_int) pe_int (nomark _)))
      (pss_cons (ps_setL (i := 4) sc__law_wide_good.nd (pe_op (opD op_mod) (pe_op (opD op_fdiv) (pvD 0) pe_int) (pvD 2)))
      (pss_cons (ps_setL (i := 5) sc__law_wide_good.nd (pe_op (opD op_mod) (pe_op (opD op_fdiv) (pvD 0) pe_int) pe_int))
      (pss_cons (ps_setL (i := 6) sc__law_wide_good.nd (pe_call g__law_put (hr.mono (by decide)) rfl m__law_put F__law_put.kp b__law_put .nil pass0 (pa_cons (pe_ixA (ixTD ix_tup) (pe_ixA (ixTD ix_tup) (pvD 3) pe_int) (pvD 4)) (pa_cons (pvD 5) (pa_cons (pe_op (opD0 op_add) (pe_ixA (ixTD ix_tup) (pe_ixA (ixTD ix_tup) (pe_ixA (ixTD ix_tup) (pvD 3) pe_int) (pvD 4)) (pvD 5)) pe_int) pa_nil)))))
      (pss_one (ps_setL (i := 3) sc__law_wide_good.nd (pe_tup (pa_cons pe_int (pa_cons (pe_call g__law_put (hr.mono (by decide)) rfl m__law_put F__law_put.kp b__law_put .nil pass0 (pa_cons (pe_ixA (ixTD ix_tup) (pvD 3) pe_int) (pa_cons (pvD 4) (pa_cons (pvD 6) pa_nil)))) (pa_cons (pe_ixA (ixTD ix_tup) (pvD 3) pe_int) pa_nil)))))))))
      pss_nil)
      (pss_lazy (ps_setL (i := 7) sc__law_wide_good.nd pe_non)
      (pss_lazy (ps_for PassesOwn.never rfl (pi_list (pe_call g__law_unlike_words (hr.mono (by decide)) rfl m__law_unlike_words F__law_unlike_words.kp b__law_unlike_words .nil pass0 (pa_cons (pvD 1) (pa_cons (pvD 3) pa_nil)))) (pg_name (i := 8) sc__law_wide_good.nd rfl (Or.inl rfl))
      (pss_one (ps_if (ptT (pt_cmpR op_isN (pvD 7) pe_non (nomark _)))
      (pss_one (ps_setL (i := 7) sc__law_wide_good.nd (pvD 8)))
      pss_nil)))
      (pss_lazy (ps_setL (i := 9) sc__law_wide_good.nd (pe_call g_says_difference (hr.mono (by decide)) rfl m_says_difference F_says_difference.kp b_says_difference .nil (passNev (P := P) (w := w)) (pa_cons (pvD 1) (pa_cons (pvD 3) pa_nil))))
      (pss_cons (ps_if (PW.pt (pw_and (ptT (pt_cmpR op_notN (pvD 7) pe_non (nomark _))) (pw_and1 (pt_not (ptB (pt_val (pe_call g__law_is_word (hr.mono (by decide)) rfl m__law_is_word F__law_is_word.kp b__law_is_word .nil pass0 (pa_cons (pvD 9) (pa_cons pe_int pa_nil)))))))))
      (pss_one (ps_ret pe_bl))
      pss_nil)
      (pss_one (ps_ret (pe_and (pe_cmpR (op_eqO 8 (hu9 hr)) (pvD 9) (pvD 7) (nomark _)) (pe_one (pe_cmpR (op_eqO 8 (hu9 hr)) (pe_call g_says_difference (hr.mono (by decide)) rfl m_says_difference F_says_difference.kp b_says_difference .nil (passNev (P := P) (w := w)) (pa_cons (pvD 3) (pa_cons (pvD 1) pa_nil))) (pvD 7) (nomark _)))))))))))))), ?_⟩
    walk_at "rd"
    refine ⟨c, rfl, c0, c1, fun h says ways H1 s1 hn14 hh wf => ?_⟩
    have hn40 := wf.wf.n40
    rw [List.length_replicate] at hn40
    refine later_of ?_
    walk_at "rd"
    obtain ⟨m, wv, q1, q2, q3⟩ := id hh
    obtain ⟨ts, qa, qb, qc⟩ := id q2
    refine ⟨_, q1, _, rfl, _, rfl, _, .inr qa, ?_⟩
    rw [List.length_map, qb]
    refine later_of ?_
    walk_at "rd"
    refine ⟨⟨by decide, by decide⟩, says.length, c / 7, rfl, by omega, by omega, by omega, fun po s H2 s2 hs hpo => ?_⟩
    have ho := ordW_ok (n := says.length) (s := s) (by omega) hs
    refine ⟨h, po, 3, says, ways, _, rfl, hh.mono s2, wf, hpo, ho, fun g H3 s3 hg => ?_⟩
    obtain ⟨wf2, _⟩ := ren_wf wf ho
    have hls : (renS (ordW says.length s) says says.length).length = says.length := by unfold renS; rw [List.length_map, List.length_range]
    generalize renS (ordW says.length s) says says.length = says2 at hg wf2 hls
    generalize renW (ordW says.length s) ways says.length = ways2 at hg wf2
    have hh3 := hh.mono (s2.trans s3)
    clear hh q1 q2 q3 qa qb qc hpo ho
    refine later_of ?_
    obtain ⟨R1, hR1⟩ : ∃ R1 : St -> Hp -> Prop, ∀ σ' H', R1 σ' H' ↔ (∃ (g : Addr) (says2 ways2 : List (List Int)) (o4 o5 o6 : Option V), SaysH K H' h 3 says ways /\ SaysH K H' g 3 says2 ways2 /\ WfS 3 says2 ways2 /\ σ' = [some (.int c), some (.ref h), some (.int says.length), some (.ref g), o4, o5, o6, none, none, none]) := ⟨_, fun _ _ => Iff.rfl⟩
    refine ⟨R1, ?_, fun σ4 H4 h4 => ?_⟩
    . walk_at "rd"
      have a0 := Int.emod_nonneg (c / 29) (show (says.length : Int) ≠ 0 by omega)
      have a1 := Int.emod_lt_of_pos (c / 29) (show (0 : Int) < (says.length : Int) by omega)
      have b0 := Int.emod_nonneg (c / 31) (show (3 : Int) ≠ 0 by omega)
      have b1 := Int.emod_lt_of_pos (c / 31) (show (0 : Int) < 3 by omega)
      refine ⟨⟨by decide, by decide⟩, by decide, ite2 (fun _ => ⟨⟨by decide, by decide⟩, by omega, ⟨by decide, by decide⟩, by decide, ?_⟩) (fun _ => (hR1 _ _).mpr ⟨g, says2, ways2, _, _, _, hh3, hg, wf2, rfl⟩)⟩
      obtain ⟨rm, hrm⟩ : ∃ rm : Nat, c / 29 % (says.length : Int) = rm := ⟨_, (Int.toNat_of_nonneg a0).symm⟩
      obtain ⟨lt, hlt⟩ : ∃ lt : Nat, c / 31 % (3 : Int) = lt := ⟨_, (Int.toNat_of_nonneg b0).symm⟩
      rw [hrm, hlt]
      rw [hrm] at a1
      rw [hlt] at b1
      obtain ⟨m', wv', p1, p2, p3⟩ := id hg
      obtain ⟨us, pa, pb, pc⟩ := id p2
      obtain ⟨row, c1', c2'⟩ := wf2.at (r := rm) (x := lt) (by omega) (by omega) (by omega) b1
      obtain ⟨xs, t, z1, z2, z3⟩ := p2.atZ (r := (rm : Int)) (by omega) c1'
      have hrl := wf2.sr _ (List.mem_of_getElem? c1')
      refine ⟨_, p1, _, rfl, _, rfl, _, z1, _, z2, _, p1, _, rfl, _, rfl, _, z1, _, z2, _, rfl, _, z3, _, atI_int (by omega) c2', _, rfl, t, lt, _, _, rfl, z3, by rw [List.length_map]; omega, by rw [List.length_map]; omega, fun q H4 s4 hq => ?_⟩
      rw [show ∀ v : Int, (row.map V.int).set lt (V.int v) = (row.set lt v).map V.int from fun v => by rw [List.map_set]] at hq
      refine ⟨_, s4.seqT p1, _, rfl, m', rm, _, _, rfl, s4.seqT pa, by rw [List.length_map]; omega, by rw [List.length_map]; omega, fun q3 H5 s5 hq3 => ⟨_, (s4.trans s5).seqT p1, _, rfl, by omega, fun p hp => ?_⟩⟩
      have s6 := Same.new hp (o := .tup [V.int 3, V.ref q3, V.ref wv'])
      exact (hR1 _ _).mpr ⟨p, says2.set rm _, ways2, _, _, _, hh3.mono (s4.trans (s5.trans s6)), ⟨q3, wv', SqT.of upd_same, rows_set55 pb (fun j t w h1 h2 => (s4.trans (s5.trans s6)).seqT (pc j t w h1 h2)) (s6.seqT hq3) ((s5.trans s6).seqT hq), p3.mono (s4.trans (s5.trans s6))⟩, wf_setS55 wf2 (by rw [List.length_set]; exact hrl), rfl⟩
    obtain ⟨g, says2, ways2, o4, o5, o6, hh4, hg4, wf2, rfl⟩ := (hR1 _ _).mp h4
    walk_at "rd"
    refine later_of ?_
    walk_at "rd"
    refine ⟨h, g, 3, says, says2, ways, ways2, rfl, hh4, wf, hg4, wf2, fun l ents us top H5 s5 hl5 hW bf hul => ⟨_, rfl, ⟨_, SqL.of hl5⟩, ?_⟩⟩
    obtain ⟨Pv, hPv⟩ : ∃ Pv : Nat -> St -> Hp -> Prop, ∀ i σ2 H2, Pv i σ2 H2 ↔ (H2 = H5 /\ ∃ (o8 : Option V), σ2 = [some (.int c), some (.ref h), some (.int says.length), some (.ref g), o4, o5, o6, some (if i = 0 then V.non else us.headD .non), o8, none]) := ⟨_, fun _ _ _ => Iff.rfl⟩
    refine forL (xs := us) Pv ((hPv _ _ _).mpr ⟨rfl, none, rfl⟩) (fun i σ2 H2 _ h' => by rw [((hPv _ _ _).mp h').1]; exact SqL.of hl5) (fun i v σ2 H2 hv h' => ?_) (fun σ2 H2 h' => ?_)
    . obtain ⟨rfl, o8, rfl⟩ := (hPv _ _ _).mp h'
      walk_at "rd"
      have hne : us.headD .non ≠ V.non := by
        cases us with
        | nil => simp at hv
        | cons v0 us =>
          obtain ⟨t, w0, _, e, _⟩ := hW.at (i := 0) (x := v0) rfl
          rw [e]
          intro z
          cases z
      cases i with
      | zero =>
        have e : us.headD .non = v := by
          cases us with
          | nil => simp at hv
          | cons v0 us => simpa using hv
        rw [if_pos rfl, if_pos rfl]
        exact (hPv _ _ _).mpr ⟨rfl, _, by rw [if_neg (by omega), e]⟩
      | succ i =>
        have e0 : (if i + 1 = 0 then V.non else us.headD V.non) = us.headD .non := if_neg (by omega)
        rw [e0, if_neg hne]
        exact (hPv _ _ _).mpr ⟨rfl, _, by rw [if_neg (show ¬ (i + 1 + 1 = 0) by omega)]⟩
    obtain ⟨rfl, o8, rfl⟩ := (hPv _ _ _).mp h'
    have hh5 := hh4.mono s5
    have hg5 := hg4.mono s5
    walk_at "rd"
    refine later_of ?_
    walk_at "rd"
    refine ⟨h, g, 3, 3, says, says2, ways, ways2, rfl, hh5, wf, hg5, wf2, fun _ => ⟨fun H6 s6 hno => ?_, fun t u H6 s6 ht hd => ?_⟩, fun z => absurd rfl z⟩
    . have hn := unl_none55 wf wf2 bf hno
      rw [hn] at hW
      have e0 : us = [] := List.eq_nil_of_length_eq_zero hW.1
      subst e0
      refine later_of ?_
      walk_at "rd"
      rw [if_neg (by decide)]
      refine ⟨true, .inl ⟨rfl, rfl⟩, ?_⟩
      rw [if_pos rfl]
      refine ⟨g, h, 3, 3, says2, says, ways2, ways, rfl, hg5.mono s6, wf2, hh5.mono s6, wf, fun _ => ⟨fun H7 s7 _ => ⟨true, .inl ⟨rfl, rfl⟩, k _⟩, fun t u H7 s7 ht hd => ?_⟩, fun z => absurd rfl z⟩
      obtain ⟨w, x, rfl, h1, h2, h3, _⟩ := hd
      exact absurd (fun z => h3 z.symm) (hno w h1)
    . obtain ⟨rest, hu⟩ := unl_first55 wf wf2 bf hd
      rw [hu] at hW
      obtain ⟨t0, e1, e2⟩ := hW.2 0 u rfl
      obtain ⟨v0, us', rfl⟩ : ∃ v0 us', us = v0 :: us' := by
        cases us with
        | nil => simp at e1
        | cons v0 us' => exact ⟨v0, us', rfl⟩
      have e1 : v0 = V.ref t0 := by simpa using e1
      subst e1
      refine later_of ?_
      walk_at "rd"
      rw [show (V.ref t0 :: us').headD V.non = V.ref t0 from rfl]
      rw [if_pos (by rw [decide_eq_false (fun z => by cases z)]; rfl)]
      have eqs : ∀ {H7 : Hp} {a b : Addr}, SqT K H7 a (u.map V.int) -> SqT K H7 b (u.map V.int) -> EqO K 8 (.ref a) (.ref b) H7 true := fun {H7 a b} ha hb => by
        have := EqD.ints (K := K) (H := H7) (.inr ⟨ha, hb⟩) 7
        rw [decide_eq_true rfl] at this
        exact .inr ⟨a, b, rfl, rfl, this⟩
      have ht0 := s6 _ _ e2
      refine ⟨t, 3, u, rfl, ht, (sd_len55 wf wf2 hd).2.2, true, rfl, ?_⟩
      rw [if_neg (by decide)]
      refine ⟨true, eqs ht (SqT.of ht0), ?_⟩
      rw [if_pos rfl]
      refine ⟨g, h, 3, 3, says2, says, ways2, ways, rfl, hg5.mono s6, wf2, hh5.mono s6, wf, fun _ => ⟨fun H7 s7 hno => ?_, fun t2 u2 H7 s7 ht2 hd2 => ?_⟩, fun z => absurd rfl z⟩
      . obtain ⟨w, x, rfl, h1, h2, h3, _⟩ := hd
        exact absurd (fun z => h3 z.symm) (hno w h1)
      . have e3 := sd_uniq55 (by decide) (sd_symm55 hd2) hd
        subst e3
        exact ⟨true, eqs ht2 (SqT.of (s7 _ _ ht0)), k _⟩
theorem tab55 {N : Nat} (h1 : 1 <= N) (h6 : N <= 6) : ∃ b : Nat, atI [V.int 5, V.int 3, V.int 2, V.int 1, V.int 1, V.int 1] ((N : Int) - 1) = some (V.int b) /\ 1 <= b /\ b <= 5 /\ N ^ (2 * b + 1) <= 1000 := by
  obtain rfl | rfl | rfl | rfl | rfl | rfl : N = 1 \/ N = 2 \/ N = 3 \/ N = 4 \/ N = 5 \/ N = 6 := by omega
  . exact ⟨5, rfl, by decide, by decide, by decide⟩
  . exact ⟨3, rfl, by decide, by decide, by decide⟩
  . exact ⟨2, rfl, by decide, by decide, by decide⟩
  . exact ⟨1, rfl, by decide, by decide, by decide⟩
  . exact ⟨1, rfl, by decide, by decide, by decide⟩
  . exact ⟨1, rfl, by decide, by decide, by decide⟩
def spLaw (K : PySem.W.Frag) : Sp := fun vs H Q _ => ∃ (a : Addr) (ns : List Int), vs = [.ref a] /\ SqL K H a (ns.map V.int) /\ ns.length <= 63 /\ ∀ H', Q (.bl true) H'
theorem ok_law {f : Addr} {fd : FuncData} (F : Fun K "law" "law" s_law f fd) (T : Txt mg)
    (Z : Exs K mg C_AskError C_BadHouse C_BadWord)
    {f_says_difference : Addr} {fd_says_difference : FuncData} (g_says_difference : FnOk P w K mg base (CXe P w) 5 f_says_difference fd_says_difference ["house", "other"] (sp_sd55 K C_BadHouse)) (F_says_difference : Fun K "says_difference" "says_difference" s_says_difference f_says_difference fd_says_difference) (b_says_difference : Binds K fd_says_difference ["house", "other"] []) (m_says_difference : mg "says_difference" = some (.ref f_says_difference))
    {f__law_cell : Addr} {fd__law_cell : FuncData} (g__law_cell : FnOk P w K mg base CX0 1 f__law_cell fd__law_cell ["script", "k"] (sp_cell K)) (F__law_cell : Fun K "_law_cell" "_law_cell" s__law_cell f__law_cell fd__law_cell) (b__law_cell : Binds K fd__law_cell ["script", "k"] []) (m__law_cell : mg "_law_cell" = some (.ref f__law_cell))
    {f__law_says : Addr} {fd__law_says : FuncData} (g__law_says : FnOk P w K mg base CX0 3 f__law_says fd__law_says ["script", "at", "letters", "rooms"] (sp_says53 K)) (F__law_says : Fun K "_law_says" "_law_says" s__law_says f__law_says fd__law_says) (b__law_says : Binds K fd__law_says ["script", "at", "letters", "rooms"] []) (m__law_says : mg "_law_says" = some (.ref f__law_says))
    {f__law_is_word : Addr} {fd__law_is_word : FuncData} (g__law_is_word : FnOk P w K mg base CX0 2 f__law_is_word fd__law_is_word ["found", "letters"] (sp_isword67 K)) (F__law_is_word : Fun K "_law_is_word" "_law_is_word" s__law_is_word f__law_is_word fd__law_is_word) (b__law_is_word : Binds K fd__law_is_word ["found", "letters"] []) (m__law_is_word : mg "_law_is_word" = some (.ref f__law_is_word))
    {f__law_unlike_words : Addr} {fd__law_unlike_words : FuncData} (g__law_unlike_words : FnOk P w K mg base CX0 2 f__law_unlike_words fd__law_unlike_words ["one", "two"] (sp_unl55 K)) (F__law_unlike_words : Fun K "_law_unlike_words" "_law_unlike_words" s__law_unlike_words f__law_unlike_words fd__law_unlike_words) (b__law_unlike_words : Binds K fd__law_unlike_words ["one", "two"] []) (m__law_unlike_words : mg "_law_unlike_words" = some (.ref f__law_unlike_words))
    {f__law_first_unlike : Addr} {fd__law_first_unlike : FuncData} (g__law_first_unlike : FnOk P w K mg base CX0 1 f__law_first_unlike fd__law_first_unlike ["one", "two", "most"] (sp_fu55 K)) (F__law_first_unlike : Fun K "_law_first_unlike" "_law_first_unlike" s__law_first_unlike f__law_first_unlike fd__law_first_unlike) (b__law_first_unlike : Binds K fd__law_first_unlike ["one", "two", "most"] []) (m__law_first_unlike : mg "_law_first_unlike" = some (.ref f__law_first_unlike))
    {f__law_beside : Addr} {fd__law_beside : FuncData} (g__law_beside : FnOk P w K mg base CX0 4 f__law_beside fd__law_beside ["one", "script", "at", "way"] (sp_bes55 K)) (F__law_beside : Fun K "_law_beside" "_law_beside" s__law_beside f__law_beside fd__law_beside) (b__law_beside : Binds K fd__law_beside ["one", "script", "at", "way"] []) (m__law_beside : mg "_law_beside" = some (.ref f__law_beside))
    {f__law_refused : Addr} {fd__law_refused : FuncData} (g__law_refused : FnOk P w K mg base CX0 6 f__law_refused fd__law_refused ["one", "two"] (sp_refused55 K)) (F__law_refused : Fun K "_law_refused" "_law_refused" s__law_refused f__law_refused fd__law_refused) (b__law_refused : Binds K fd__law_refused ["one", "two"] []) (m__law_refused : mg "_law_refused" = some (.ref f__law_refused))
    {f__law_refused_by_any : Addr} {fd__law_refused_by_any : FuncData} (g__law_refused_by_any : FnOk P w K mg base CX0 6 f__law_refused_by_any fd__law_refused_by_any ["one", "two"] (sp_refused55 K)) (F__law_refused_by_any : Fun K "_law_refused_by_any" "_law_refused_by_any" s__law_refused_by_any f__law_refused_by_any fd__law_refused_by_any) (b__law_refused_by_any : Binds K fd__law_refused_by_any ["one", "two"] []) (m__law_refused_by_any : mg "_law_refused_by_any" = some (.ref f__law_refused_by_any))
    {f__law_wide_good : Addr} {fd__law_wide_good : FuncData} (g__law_wide_good : FnOk P w K mg base CX0 6 f__law_wide_good fd__law_wide_good ["cell"] (sp_wg55 K)) (F__law_wide_good : Fun K "_law_wide_good" "_law_wide_good" s__law_wide_good f__law_wide_good fd__law_wide_good) (b__law_wide_good : Binds K fd__law_wide_good ["cell"] []) (m__law_wide_good : mg "_law_wide_good" = some (.ref f__law_wide_good))
    : FnOk P w K mg base CX0 7 f fd ["script"] (spLaw K) := by
  refine F.ok sc_law (fun vs H Q E h => ?_) (fun cdv A outer s H vs Q E hr h => ?_)
  . obtain ⟨a, ns, rfl, _⟩ := h; rfl
  . obtain ⟨a, ns, rfl, hs, hz, k⟩ := h
    have hl := line1000
    refine ⟨_, (pss_lazy (ps_if (ptT (pt_cmpR (opE op_eq) (pe_op (opD op_mod) (pe_op (opD op_fdiv) (pe_call g__law_cell (hr.mono (by decide)) rfl m__law_cell F__law_cell.kp b__law_cell .nil pass0 (pa_cons (pvD 0) (pa_cons pe_int pa_nil))) pe_int) pe_int) pe_int (nomark _)))
      (pss_one (ps_ret (pe_call g__law_wide_good (hr.mono (by decide)) rfl m__law_wide_good F__law_wide_good.kp b__law_wide_good .nil pass0 (pa_cons (pe_op (opD op_mod) (pe_call g__law_cell (hr.mono (by decide)) rfl m__law_cell F__law_cell.kp b__law_cell .nil pass0 (pa_cons (pvD 0) (pa_cons pe_int pa_nil))) (pe_op (opD op_pow) pe_int pe_int)) pa_nil))))
      pss_nil)
      (pss_lazy (ps_setL (i := 1) sc_law.nd (pe_op (opD0 op_add) (pe_op (opD0 op_add) pe_int (pe_op (opD op_mod) (pe_call g__law_cell (hr.mono (by decide)) rfl m__law_cell F__law_cell.kp b__law_cell .nil pass0 (pa_cons (pvD 0) (pa_cons pe_int pa_nil))) pe_int)) (pe_op (opD op_mul) (pe_op (opD op_fdiv) (pe_op (opD op_mod) (pe_op (opD op_fdiv) (pe_call g__law_cell (hr.mono (by decide)) rfl m__law_cell F__law_cell.kp b__law_cell .nil pass0 (pa_cons (pvD 0) (pa_cons pe_int pa_nil))) pe_int) pe_int) pe_int) pe_int)))
      (pss_lazy (ps_setL (i := 2) sc_law.nd (pe_op (opD0 op_add) pe_int (pe_op (opD op_mod) (pe_call g__law_cell (hr.mono (by decide)) rfl m__law_cell F__law_cell.kp b__law_cell .nil pass0 (pa_cons (pvD 0) (pa_cons pe_int pa_nil))) (pe_ixA (ixLD ix_list) (pe_lst (pa_cons pe_int (pa_cons pe_int (pa_cons pe_int (pa_cons pe_int (pa_cons pe_int (pa_cons pe_int pa_nil))))))) (pe_op (opD0 op_sub) (pvD 1) pe_int)))))
      (pss_lazy (ps_setL (i := 3) sc_law.nd (pe_call g__law_says (hr.mono (by decide)) rfl m__law_says F__law_says.kp b__law_says .nil pass0 (pa_cons (pvD 0) (pa_cons pe_int (pa_cons (pvD 1) (pa_cons (pvD 2) pa_nil))))))
      (pss_lazy (ps_setL (i := 4) sc_law.nd (pe_op (opD op_mod) (pe_call g__law_cell (hr.mono (by decide)) rfl m__law_cell F__law_cell.kp b__law_cell .nil pass0 (pa_cons (pvD 0) (pa_cons pe_int pa_nil))) (pe_op (opD op_pow) pe_int pe_int)))
      (pss_lazy (ps_setL (i := 5) sc_law.nd (pe_call g__law_beside (hr.mono (by decide)) rfl m__law_beside F__law_beside.kp b__law_beside .nil pass0 (pa_cons (pvD 3) (pa_cons (pvD 0) (pa_cons (pe_op (opD0 op_add) pe_int (pe_op (opD op_mul) (pe_op (opD op_mul) pe_int (pvD 1)) (pvD 2))) (pa_cons (pvD 4) pa_nil))))))
      (pss_lazy (ps_setL (i := 6) sc_law.nd (pe_call g_says_difference (hr.mono (by decide)) rfl m_says_difference F_says_difference.kp b_says_difference .nil (passNev (P := P) (w := w)) (pa_cons (pvD 3) (pa_cons (pvD 5) pa_nil))))
      (pss_lazy (ps_if (ptT (pt_cmpR (op_neO 8 (hu9 hr)) (pe_call g_says_difference (hr.mono (by decide)) rfl m_says_difference F_says_difference.kp b_says_difference .nil (passNev (P := P) (w := w)) (pa_cons (pvD 5) (pa_cons (pvD 3) pa_nil))) (pvD 6) (nomark _)))
      (pss_one (ps_ret pe_bl))
      pss_nil)
      (pss_cut (ps_if (ptT (pt_cmpR op_isN (pvD 6) pe_non (nomark _)))
      (pss_one (ps_if (ptT (pt_cmpR (opN op_ne) (pe_callB (lenD call_len_seq) (by rfl) T.len PySem.boot_len (pa_cons (pe_call g__law_unlike_words (hr.mono (by decide)) rfl m__law_unlike_words F__law_unlike_words.kp b__law_unlike_words .nil pass0 (pa_cons (pvD 3) (pa_cons (pvD 5) pa_nil))) pa_nil)) pe_int (nomark _)))
      (pss_one (ps_ret pe_bl))
      pss_nil))
      (pss_one (ps_if (PW.pt (pw_or (pt_not (ptB (pt_val (pe_call g__law_is_word (hr.mono (by decide)) rfl m__law_is_word F__law_is_word.kp b__law_is_word .nil pass0 (pa_cons (pvD 6) (pa_cons (pvD 1) pa_nil)))))) (pw_or (ptT (pt_cmpR (opE op_eq) (pe_callB (lenD call_len_seq) (by rfl) T.len PySem.boot_len (pa_cons (pvD 6) pa_nil)) pe_int (nomark _))) (pw_or1 (ptT (pt_cmpR (opE op_eq) (pe_op (opD op_mod) (pvD 4) pe_int) pe_int (nomark _)))))))
      (pss_one (ps_ret pe_bl))
      (pss_one (ps_if (PW.pt (pw_or (ptT (pt_cmpR (opD0 op_gt) (pe_callB (lenD call_len_seq) (by rfl) T.len PySem.boot_len (pa_cons (pvD 6) pa_nil)) (pe_op (opD0 op_add) (pe_callB (lenD call_len_seq) (by rfl) T.len PySem.boot_len (pa_cons (pe_ixA (ixTD ix_tup) (pvD 3) pe_int) pa_nil)) (pe_callB (lenD call_len_seq) (by rfl) T.len PySem.boot_len (pa_cons (pe_ixA (ixTD ix_tup) (pvD 5) pe_int) pa_nil))) (nomark _))) (pw_or1 (ptT (pt_cmpR (op_neO 8 (hu9 hr)) (pe_call g__law_first_unlike (hr.mono (by decide)) rfl m__law_first_unlike F__law_first_unlike.kp b__law_first_unlike .nil pass0 (pa_cons (pvD 3) (pa_cons (pvD 5) (pa_cons (pe_callB (lenD call_len_seq) (by rfl) T.len PySem.boot_len (pa_cons (pvD 6) pa_nil)) pa_nil)))) (pvD 6) (nomark _))))))
      (pss_one (ps_ret pe_bl))
      pss_nil)))))
      (pss_lazy (ps_setL (i := 7) sc_law.nd (pe_call g__law_says (hr.mono (by decide)) rfl m__law_says F__law_says.kp b__law_says .nil pass0 (pa_cons (pvD 0) (pa_cons pe_int (pa_cons (pe_op (opD0 op_add) (pe_op (opD op_mod) (pvD 1) pe_int) pe_int) (pa_cons (pe_op (opD0 op_add) pe_int (pe_op (opD op_mod) (pe_call g__law_cell (hr.mono (by decide)) rfl m__law_cell F__law_cell.kp b__law_cell .nil pass0 (pa_cons (pvD 0) (pa_cons pe_int pa_nil))) pe_int)) pa_nil))))))
      (pss_one (ps_ret (pe_and (pe_call g__law_refused (hr.mono (by decide)) rfl m__law_refused F__law_refused.kp b__law_refused .nil pass0 (pa_cons (pvD 3) (pa_cons (pvD 7) pa_nil))) (pe_one (pe_call g__law_refused_by_any (hr.mono (by decide)) rfl m__law_refused_by_any F__law_refused_by_any.kp b__law_refused_by_any .nil pass0 (pa_cons (pvD 7) (pa_cons (pvD 5) pa_nil))))))))))))))))), ?_⟩
    walk_at "rd"
    refine ⟨a, ns, 0, rfl, hs, _, rfl, ⟨by decide, by decide⟩, by decide, ite2 (fun _ => ?_) (fun _ => ?_)⟩
    . exact ⟨a, ns, 4, rfl, hs, ⟨by decide, by decide⟩, _, rfl, by decide, _, rfl, Int.emod_nonneg _ (by decide), Int.emod_lt_of_pos _ (by decide), k⟩
    refine later_of ?_
    walk_at "rd"
    refine ⟨a, ns, 0, rfl, hs, _, rfl, by decide, a, ns, 0, rfl, hs, _, rfl, ⟨by decide, by decide⟩, by decide, ⟨by decide, by decide⟩, .inr ⟨by decide, by decide⟩, ?_⟩
    obtain ⟨N, hN, hN1, hN6⟩ : ∃ N : Nat, 1 + cell ns 0 % 3 + cell ns 0 / 3 % 4 / 3 * 3 = (N : Int) /\ 1 <= N /\ N <= 6 := by
      have a0 := Int.emod_nonneg (cell ns 0) (show (3 : Int) ≠ 0 by decide)
      have a1 := Int.emod_lt_of_pos (cell ns 0) (show (0 : Int) < 3 by decide)
      have b0 := Int.emod_nonneg (cell ns 0 / 3) (show (4 : Int) ≠ 0 by decide)
      have b1 := Int.emod_lt_of_pos (cell ns 0 / 3) (show (0 : Int) < 4 by decide)
      exact ⟨(1 + cell ns 0 % 3 + cell ns 0 / 3 % 4 / 3 * 3).toNat, by omega, by omega, by omega⟩
    rw [hN]
    obtain ⟨b, hb, hb1, hb5, hbp⟩ := tab55 hN1 hN6
    refine later_of ?_
    walk_at "rd"
    refine ⟨a, ns, 1, rfl, hs, by omega, fun t0 ht0 => ⟨_, SqL.of upd_same, _, hb, ?_⟩⟩
    have s0 := Same.new ht0 (o := .lst [V.int 5, V.int 3, V.int 2, V.int 1, V.int 1, V.int 1])
    generalize upd H t0 (.lst [V.int 5, V.int 3, V.int 2, V.int 1, V.int 1, V.int 1]) = H0 at s0 ⊢
    have r0 := Int.emod_nonneg (cell ns 1) (show (b : Int) ≠ 0 by omega)
    have r1 := Int.emod_lt_of_pos (cell ns 1) (show (0 : Int) < (b : Int) by omega)
    obtain ⟨n, hn⟩ : ∃ n : Nat, 1 + cell ns 1 % (b : Int) = n := ⟨(1 + cell ns 1 % (b : Int)).toNat, by omega⟩
    refine ⟨_, rfl, _, rfl, by omega, ?_⟩
    rw [hn]
    have hNn : N * n <= 6 * 5 := Nat.mul_le_mul hN6 (by omega)
    refine later_of ?_
    walk_at "rd"
    refine ⟨a, ns, 5, N, n, rfl, s0.seq hs, hz, by omega, by omega, hN1, hN6, by omega, by omega, fun h says ways H1 s1 hh wf hln _ => ?_⟩
    refine later_of ?_
    walk_at "rd"
    refine ⟨a, ns, 2, rfl, (s0.trans s1).seq hs, ⟨by decide, by decide⟩, _, rfl, by decide, ?_⟩
    have y0 := Int.emod_nonneg (cell ns 2) (show (10 : Int) ^ Int.toNat 9 ≠ 0 by decide)
    generalize cell ns 2 % 10 ^ Int.toNat 9 = wy at y0 ⊢
    refine later_of ?_
    walk_at "rd"
    refine ⟨.inl ⟨by decide, by decide⟩, .inr ⟨by omega, by omega⟩, h, a, N, 5 + 2 * N * n, wy, ns, says, ways, by push_cast; rfl, hh, wf, (s0.trans s1).seq hs, hz, by rw [Nat.mul_assoc]; omega, by omega, y0, fun g says2 ways2 H2 s2 hg wf2 hl2 hak => ?_⟩
    have hh2 := hh.mono s2
    have hs2 := (s0.trans (s1.trans s2)).seq hs
    clear hh hs s0 s1 s2
    refine later_of ?_
    walk_at "rd"
    obtain ⟨m, wv, q1, q2, q3⟩ := id hh2
    obtain ⟨ts, qa, qb, qc⟩ := id q2
    obtain ⟨m', wv', p1, p2, p3⟩ := id hg
    obtain ⟨ts', pa, pb, pc⟩ := id p2
    have hNp : (0 : Int) < N := by omega
    obtain ⟨R1, hR1⟩ : ∃ R1 : St -> Hp -> Prop, ∀ σ' H', R1 σ' H' ↔ (∃ (v : V), Same H2 H' /\ σ' = [some (.ref a), some (.int N), some (.int n), some (.ref h), some (.int wy), some (.ref g), some v, none]) := ⟨_, fun _ _ => Iff.rfl⟩
    refine ⟨h, g, N, N, says, says2, ways, ways2, rfl, hh2, wf, hg, wf2, fun _ => ⟨fun H3 s3 hno => ?_, fun t u H3 s3 ht hd => ?_⟩, fun z => absurd rfl z⟩
    . refine later_of ?_
      walk_at "rd"
      refine ⟨g, h, N, N, says2, says, ways2, ways, rfl, hg.mono s3, wf2, hh2.mono s3, wf, fun _ => ⟨fun H4 s4 _ => ⟨true, .inl ⟨rfl, rfl⟩, ?_⟩, fun t u H4 s4 ht hd => ?_⟩, fun z => absurd rfl z⟩
      . rw [if_neg (by decide)]
        refine later_of ?_
        refine ⟨R1, ?_, fun σ5 H5 h5 => ?_⟩
        . walk_at "rd"
          refine ⟨h, g, N, says, says2, ways, ways2, rfl, hh2.mono (s3.trans s4), wf, hg.mono (s3.trans s4), wf2, fun l ents us top H5 s5 hl5 hW bf _ => ⟨_, rfl, _, .inl (SqL.of hl5), ?_⟩⟩
          have hn0 := unl_none55 wf wf2 bf hno
          rw [hn0] at hW
          have e0 : us = [] := List.eq_nil_of_length_eq_zero hW.1
          subst e0
          rw [if_neg (by simp)]
          exact (hR1 _ _).mpr ⟨_, s3.trans (s4.trans s5), rfl⟩
        obtain ⟨v5, s5, rfl⟩ := (hR1 _ _).mp h5
        walk_at "rd"
        have e0 := Int.emod_nonneg (cell ns 3) (show (3 : Int) ≠ 0 by decide)
        have e1 := Int.emod_lt_of_pos (cell ns 3) (show (0 : Int) < 3 by decide)
        have f0 := Int.emod_nonneg (N : Int) (show (6 : Int) ≠ 0 by decide)
        have f1 := Int.emod_lt_of_pos (N : Int) (show (0 : Int) < 6 by decide)
        refine ⟨by decide, a, ns, 3, rfl, s5.seq hs2, _, rfl, by decide, a, ns, 3, ((N : Int) % 6 + 1).toNat, (1 + cell ns 3 % 3).toNat, by rw [Int.toNat_of_nonneg (by omega), Int.toNat_of_nonneg (by omega)], s5.seq hs2, hz, by omega, by omega, by omega, by omega, by omega, by omega, fun h3 says3 ways3 H6 s6 hh3 wf3 _ _ => ?_⟩
        refine later_of ?_
        walk_at "rd"
        have hne : (N : Int) ≠ (((N : Int) % 6 + 1).toNat : Int) := by omega
        refine ⟨h, h3, N, _, says, says3, ways, ways3, rfl, hh2.mono (s5.trans s6), wf, hh3, wf3, hne, fun H7 s7 => ?_⟩
        walk_at "rd"
        exact ⟨h3, g, _, N, says3, says2, ways3, ways2, rfl, hh3.mono s7, wf3, hg.mono (s5.trans (s6.trans s7)), wf2, fun z => hne z.symm, fun H8 s8 => k _⟩
      . obtain ⟨w, x, rfl, h1, h2, h3, _⟩ := hd
        exact absurd (fun z => h3 z.symm) (hno w h1)
    . refine later_of ?_
      walk_at "rd"
      refine ⟨g, h, N, N, says2, says, ways2, ways, rfl, hg.mono s3, wf2, hh2.mono s3, wf, fun _ => ⟨fun H4 s4 hno => ?_, fun t2 u2 H4 s4 ht2 hd2 => ?_⟩, fun z => absurd rfl z⟩
      . obtain ⟨w, x, rfl, h1, h2, h3, _⟩ := hd
        exact absurd (fun z => h3 z.symm) (hno w h1)
      . have eu := sd_uniq55 hNp (sd_symm55 hd2) hd
        subst eu
        have eqs : ∀ {H7 : Hp} {a b : Addr}, SqT K H7 a (u2.map V.int) -> SqT K H7 b (u2.map V.int) -> EqO K 8 (.ref a) (.ref b) H7 true := fun {H7 a b} ha hb => by
          have := EqD.ints (K := K) (H := H7) (.inr ⟨ha, hb⟩) 7
          rw [decide_eq_true rfl] at this
          exact .inr ⟨a, b, rfl, rfl, this⟩
        have ht4 := s4.seqT ht
        have s24 := s3.trans s4
        obtain ⟨g1, g2, g3⟩ := sd_len55 wf wf2 hd
        refine ⟨true, eqs ht2 ht4, ?_⟩
        rw [if_neg (by decide)]
        refine later_of ?_
        refine ⟨R1, ?_, fun σ5 H5 h5 => ?_⟩
        . walk_at "rd"
          refine ⟨t, N, u2, rfl, ht4, g3, true, rfl, ?_⟩
          rw [if_neg (by decide)]
          refine ⟨_, .inr ht4, ?_⟩
          rw [List.length_map, if_neg (by omega)]
          refine ⟨by decide, ?_⟩
          have hwy : ¬ wy % 4 = 1 := fun z => by
            have h' := hak z
            obtain ⟨w, x, rfl, h1, h2, h3, _⟩ := hd
            exact h3 (h' w h1)
          rw [if_neg hwy]
          refine ⟨_, .inr ht4, _, s24.seqT q1, _, rfl, _, rfl, _, .inr (s24.seqT qa), _, s24.seqT p1, _, rfl, _, rfl, _, .inr (s24.seqT pa), ?_⟩
          rw [List.length_map, List.length_map, List.length_map, qb, pb, if_neg (by omega)]
          refine ⟨_, .inr ht4, ?_⟩
          rw [List.length_map]
          refine ⟨h, g, N, u2, says, says2, ways, ways2, rfl, hh2.mono s24, wf, hg.mono s24, wf2, hd, ?_, fun t3 H5 s5 ht3 => ⟨true, eqs ht3 (s5.seqT ht4), ?_⟩⟩
          . rw [Int.toNat_natCast]
            exact Nat.le_trans (Nat.pow_le_pow_right (by omega) (by omega)) hbp
          . rw [if_neg (by decide)]
            exact (hR1 _ _).mpr ⟨_, s24.trans s5, rfl⟩
        obtain ⟨v5, s5, rfl⟩ := (hR1 _ _).mp h5
        walk_at "rd"
        have e0 := Int.emod_nonneg (cell ns 3) (show (3 : Int) ≠ 0 by decide)
        have e1 := Int.emod_lt_of_pos (cell ns 3) (show (0 : Int) < 3 by decide)
        have f0 := Int.emod_nonneg (N : Int) (show (6 : Int) ≠ 0 by decide)
        have f1 := Int.emod_lt_of_pos (N : Int) (show (0 : Int) < 6 by decide)
        refine ⟨by decide, a, ns, 3, rfl, s5.seq hs2, _, rfl, by decide, a, ns, 3, ((N : Int) % 6 + 1).toNat, (1 + cell ns 3 % 3).toNat, by rw [Int.toNat_of_nonneg (by omega), Int.toNat_of_nonneg (by omega)], s5.seq hs2, hz, by omega, by omega, by omega, by omega, by omega, by omega, fun h3 says3 ways3 H6 s6 hh3 wf3 _ _ => ?_⟩
        refine later_of ?_
        walk_at "rd"
        have hne : (N : Int) ≠ (((N : Int) % 6 + 1).toNat : Int) := by omega
        refine ⟨h, h3, N, _, says, says3, ways, ways3, rfl, hh2.mono (s5.trans s6), wf, hh3, wf3, hne, fun H7 s7 => ?_⟩
        walk_at "rd"
        exact ⟨h3, g, _, N, says3, says2, ways3, ways2, rfl, hh3.mono s7, wf3, hg.mono (s5.trans (s6.trans s7)), wf2, fun z => hne z.symm, fun H8 s8 => k _⟩
end
theorem all_mk {l : PySem.W.OpenLaw} {w : World} {K : PySem.W.Frag} {h : Heap} {mg : Str -> Option Value} {fa f_is_word f_check_word f_trail f_room_behind f_check_as_many_letters f_steps_from f_word_to f_least_word_apart f_difference f_says_difference f__law_cell f__law_whole f__law_big f__law_mark f__law_says f__law_is_word f__law_doubled f__law_order f__law_renumbered f__law_another f__law_pairs f__law_unlike_words f__law_first_unlike f__law_put f__law_beside f__law_refused f__law_refused_by_any f__law_wide f__law_wide_good f_law : Addr} (X : K.In h) (G : h.Ns mainGlobals mg) (hfa : mg "law" = some (.ref fa))
    {C_AskError C_BadHouse C_BadWord : Addr}
    {od_is_word an_is_word : Option Addr} {sl_is_word : Array (Option Value)} {oc_is_word kV_is_word dc_is_word pm_is_word cd_is_word ct_is_word : Value}
    {od_check_word an_check_word : Option Addr} {sl_check_word : Array (Option Value)} {oc_check_word kV_check_word dc_check_word pm_check_word cd_check_word ct_check_word : Value}
    {od_trail an_trail : Option Addr} {sl_trail : Array (Option Value)} {oc_trail kV_trail dc_trail pm_trail cd_trail ct_trail : Value}
    {od_room_behind an_room_behind : Option Addr} {sl_room_behind : Array (Option Value)} {oc_room_behind kV_room_behind dc_room_behind pm_room_behind cd_room_behind ct_room_behind : Value}
    {od_check_as_many_letters an_check_as_many_letters : Option Addr} {sl_check_as_many_letters : Array (Option Value)} {oc_check_as_many_letters kV_check_as_many_letters dc_check_as_many_letters pm_check_as_many_letters cd_check_as_many_letters ct_check_as_many_letters : Value}
    {od_steps_from an_steps_from : Option Addr} {sl_steps_from : Array (Option Value)} {oc_steps_from kV_steps_from dc_steps_from pm_steps_from cd_steps_from ct_steps_from : Value}
    {od_word_to an_word_to : Option Addr} {sl_word_to : Array (Option Value)} {oc_word_to kV_word_to dc_word_to pm_word_to cd_word_to ct_word_to : Value}
    {od_least_word_apart an_least_word_apart : Option Addr} {sl_least_word_apart : Array (Option Value)} {oc_least_word_apart kV_least_word_apart dc_least_word_apart pm_least_word_apart cd_least_word_apart ct_least_word_apart : Value}
    {od_difference an_difference : Option Addr} {sl_difference : Array (Option Value)} {oc_difference kV_difference dc_difference pm_difference cd_difference ct_difference : Value}
    {od_says_difference an_says_difference : Option Addr} {sl_says_difference : Array (Option Value)} {oc_says_difference kV_says_difference dc_says_difference pm_says_difference cd_says_difference ct_says_difference : Value}
    {od__law_cell an__law_cell : Option Addr} {sl__law_cell : Array (Option Value)} {oc__law_cell kV__law_cell dc__law_cell pm__law_cell cd__law_cell ct__law_cell : Value}
    {od__law_whole an__law_whole : Option Addr} {sl__law_whole : Array (Option Value)} {oc__law_whole kV__law_whole dc__law_whole pm__law_whole cd__law_whole ct__law_whole : Value}
    {od__law_big an__law_big : Option Addr} {sl__law_big : Array (Option Value)} {oc__law_big kV__law_big dc__law_big pm__law_big cd__law_big ct__law_big : Value}
    {od__law_mark an__law_mark : Option Addr} {sl__law_mark : Array (Option Value)} {oc__law_mark kV__law_mark dc__law_mark pm__law_mark cd__law_mark ct__law_mark : Value}
    {od__law_says an__law_says : Option Addr} {sl__law_says : Array (Option Value)} {oc__law_says kV__law_says dc__law_says pm__law_says cd__law_says ct__law_says : Value}
    {od__law_is_word an__law_is_word : Option Addr} {sl__law_is_word : Array (Option Value)} {oc__law_is_word kV__law_is_word dc__law_is_word pm__law_is_word cd__law_is_word ct__law_is_word : Value}
    {od__law_doubled an__law_doubled : Option Addr} {sl__law_doubled : Array (Option Value)} {oc__law_doubled kV__law_doubled dc__law_doubled pm__law_doubled cd__law_doubled ct__law_doubled : Value}
    {od__law_order an__law_order : Option Addr} {sl__law_order : Array (Option Value)} {oc__law_order kV__law_order dc__law_order pm__law_order cd__law_order ct__law_order : Value}
    {od__law_renumbered an__law_renumbered : Option Addr} {sl__law_renumbered : Array (Option Value)} {oc__law_renumbered kV__law_renumbered dc__law_renumbered pm__law_renumbered cd__law_renumbered ct__law_renumbered : Value}
    {od__law_another an__law_another : Option Addr} {sl__law_another : Array (Option Value)} {oc__law_another kV__law_another dc__law_another pm__law_another cd__law_another ct__law_another : Value}
    {od__law_pairs an__law_pairs : Option Addr} {sl__law_pairs : Array (Option Value)} {oc__law_pairs kV__law_pairs dc__law_pairs pm__law_pairs cd__law_pairs ct__law_pairs : Value}
    {od__law_unlike_words an__law_unlike_words : Option Addr} {sl__law_unlike_words : Array (Option Value)} {oc__law_unlike_words kV__law_unlike_words dc__law_unlike_words pm__law_unlike_words cd__law_unlike_words ct__law_unlike_words : Value}
    {od__law_first_unlike an__law_first_unlike : Option Addr} {sl__law_first_unlike : Array (Option Value)} {oc__law_first_unlike kV__law_first_unlike dc__law_first_unlike pm__law_first_unlike cd__law_first_unlike ct__law_first_unlike : Value}
    {od__law_put an__law_put : Option Addr} {sl__law_put : Array (Option Value)} {oc__law_put kV__law_put dc__law_put pm__law_put cd__law_put ct__law_put : Value}
    {od__law_beside an__law_beside : Option Addr} {sl__law_beside : Array (Option Value)} {oc__law_beside kV__law_beside dc__law_beside pm__law_beside cd__law_beside ct__law_beside : Value}
    {od__law_refused an__law_refused : Option Addr} {sl__law_refused : Array (Option Value)} {oc__law_refused kV__law_refused dc__law_refused pm__law_refused cd__law_refused ct__law_refused : Value}
    {od__law_refused_by_any an__law_refused_by_any : Option Addr} {sl__law_refused_by_any : Array (Option Value)} {oc__law_refused_by_any kV__law_refused_by_any dc__law_refused_by_any pm__law_refused_by_any cd__law_refused_by_any ct__law_refused_by_any : Value}
    {od__law_wide an__law_wide : Option Addr} {sl__law_wide : Array (Option Value)} {oc__law_wide kV__law_wide dc__law_wide pm__law_wide cd__law_wide ct__law_wide : Value}
    {od__law_wide_good an__law_wide_good : Option Addr} {sl__law_wide_good : Array (Option Value)} {oc__law_wide_good kV__law_wide_good dc__law_wide_good pm__law_wide_good cd__law_wide_good ct__law_wide_good : Value}
    {od_law an_law : Option Addr} {sl_law : Array (Option Value)} {oc_law kV_law dc_law pm_law cd_law ct_law : Value}
    (a_is_word : PySem.W.nsIn K mainGlobals "is_word" = some (some (.ref f_is_word)))
    (l_is_word : K.lookup f_is_word = some ⟨oc_is_word, od_is_word, .func (PySem.W.fnOf "is_word" "is_word" (defArgs s_is_word) (defBody s_is_word) (defScope s_is_word) .none kV_is_word dc_is_word pm_is_word an_is_word cd_is_word ct_is_word), sl_is_word⟩)
    (c_is_word : PySem.W.codeIn K cd_is_word "is_word" = true)
    (k_is_word : PySem.W.keepIn K (.ref f_is_word) = true)
    (a_check_word : PySem.W.nsIn K mainGlobals "check_word" = some (some (.ref f_check_word)))
    (l_check_word : K.lookup f_check_word = some ⟨oc_check_word, od_check_word, .func (PySem.W.fnOf "check_word" "check_word" (defArgs s_check_word) (defBody s_check_word) (defScope s_check_word) .none kV_check_word dc_check_word pm_check_word an_check_word cd_check_word ct_check_word), sl_check_word⟩)
    (c_check_word : PySem.W.codeIn K cd_check_word "check_word" = true)
    (k_check_word : PySem.W.keepIn K (.ref f_check_word) = true)
    (a_trail : PySem.W.nsIn K mainGlobals "trail" = some (some (.ref f_trail)))
    (l_trail : K.lookup f_trail = some ⟨oc_trail, od_trail, .func (PySem.W.fnOf "trail" "trail" (defArgs s_trail) (defBody s_trail) (defScope s_trail) .none kV_trail dc_trail pm_trail an_trail cd_trail ct_trail), sl_trail⟩)
    (c_trail : PySem.W.codeIn K cd_trail "trail" = true)
    (k_trail : PySem.W.keepIn K (.ref f_trail) = true)
    (a_room_behind : PySem.W.nsIn K mainGlobals "room_behind" = some (some (.ref f_room_behind)))
    (l_room_behind : K.lookup f_room_behind = some ⟨oc_room_behind, od_room_behind, .func (PySem.W.fnOf "room_behind" "room_behind" (defArgs s_room_behind) (defBody s_room_behind) (defScope s_room_behind) .none kV_room_behind dc_room_behind pm_room_behind an_room_behind cd_room_behind ct_room_behind), sl_room_behind⟩)
    (c_room_behind : PySem.W.codeIn K cd_room_behind "room_behind" = true)
    (k_room_behind : PySem.W.keepIn K (.ref f_room_behind) = true)
    (a_check_as_many_letters : PySem.W.nsIn K mainGlobals "check_as_many_letters" = some (some (.ref f_check_as_many_letters)))
    (l_check_as_many_letters : K.lookup f_check_as_many_letters = some ⟨oc_check_as_many_letters, od_check_as_many_letters, .func (PySem.W.fnOf "check_as_many_letters" "check_as_many_letters" (defArgs s_check_as_many_letters) (defBody s_check_as_many_letters) (defScope s_check_as_many_letters) .none kV_check_as_many_letters dc_check_as_many_letters pm_check_as_many_letters an_check_as_many_letters cd_check_as_many_letters ct_check_as_many_letters), sl_check_as_many_letters⟩)
    (c_check_as_many_letters : PySem.W.codeIn K cd_check_as_many_letters "check_as_many_letters" = true)
    (k_check_as_many_letters : PySem.W.keepIn K (.ref f_check_as_many_letters) = true)
    (a_steps_from : PySem.W.nsIn K mainGlobals "steps_from" = some (some (.ref f_steps_from)))
    (l_steps_from : K.lookup f_steps_from = some ⟨oc_steps_from, od_steps_from, .func (PySem.W.fnOf "steps_from" "steps_from" (defArgs s_steps_from) (defBody s_steps_from) (defScope s_steps_from) .none kV_steps_from dc_steps_from pm_steps_from an_steps_from cd_steps_from ct_steps_from), sl_steps_from⟩)
    (c_steps_from : PySem.W.codeIn K cd_steps_from "steps_from" = true)
    (k_steps_from : PySem.W.keepIn K (.ref f_steps_from) = true)
    (a_word_to : PySem.W.nsIn K mainGlobals "word_to" = some (some (.ref f_word_to)))
    (l_word_to : K.lookup f_word_to = some ⟨oc_word_to, od_word_to, .func (PySem.W.fnOf "word_to" "word_to" (defArgs s_word_to) (defBody s_word_to) (defScope s_word_to) .none kV_word_to dc_word_to pm_word_to an_word_to cd_word_to ct_word_to), sl_word_to⟩)
    (c_word_to : PySem.W.codeIn K cd_word_to "word_to" = true)
    (k_word_to : PySem.W.keepIn K (.ref f_word_to) = true)
    (a_least_word_apart : PySem.W.nsIn K mainGlobals "least_word_apart" = some (some (.ref f_least_word_apart)))
    (l_least_word_apart : K.lookup f_least_word_apart = some ⟨oc_least_word_apart, od_least_word_apart, .func (PySem.W.fnOf "least_word_apart" "least_word_apart" (defArgs s_least_word_apart) (defBody s_least_word_apart) (defScope s_least_word_apart) .none kV_least_word_apart dc_least_word_apart pm_least_word_apart an_least_word_apart cd_least_word_apart ct_least_word_apart), sl_least_word_apart⟩)
    (c_least_word_apart : PySem.W.codeIn K cd_least_word_apart "least_word_apart" = true)
    (k_least_word_apart : PySem.W.keepIn K (.ref f_least_word_apart) = true)
    (a_difference : PySem.W.nsIn K mainGlobals "difference" = some (some (.ref f_difference)))
    (l_difference : K.lookup f_difference = some ⟨oc_difference, od_difference, .func (PySem.W.fnOf "difference" "difference" (defArgs s_difference) (defBody s_difference) (defScope s_difference) .none kV_difference dc_difference pm_difference an_difference cd_difference ct_difference), sl_difference⟩)
    (c_difference : PySem.W.codeIn K cd_difference "difference" = true)
    (k_difference : PySem.W.keepIn K (.ref f_difference) = true)
    (a_says_difference : PySem.W.nsIn K mainGlobals "says_difference" = some (some (.ref f_says_difference)))
    (l_says_difference : K.lookup f_says_difference = some ⟨oc_says_difference, od_says_difference, .func (PySem.W.fnOf "says_difference" "says_difference" (defArgs s_says_difference) (defBody s_says_difference) (defScope s_says_difference) .none kV_says_difference dc_says_difference pm_says_difference an_says_difference cd_says_difference ct_says_difference), sl_says_difference⟩)
    (c_says_difference : PySem.W.codeIn K cd_says_difference "says_difference" = true)
    (k_says_difference : PySem.W.keepIn K (.ref f_says_difference) = true)
    (a__law_cell : PySem.W.nsIn K mainGlobals "_law_cell" = some (some (.ref f__law_cell)))
    (l__law_cell : K.lookup f__law_cell = some ⟨oc__law_cell, od__law_cell, .func (PySem.W.fnOf "_law_cell" "_law_cell" (defArgs s__law_cell) (defBody s__law_cell) (defScope s__law_cell) .none kV__law_cell dc__law_cell pm__law_cell an__law_cell cd__law_cell ct__law_cell), sl__law_cell⟩)
    (c__law_cell : PySem.W.codeIn K cd__law_cell "_law_cell" = true)
    (k__law_cell : PySem.W.keepIn K (.ref f__law_cell) = true)
    (a__law_whole : PySem.W.nsIn K mainGlobals "_law_whole" = some (some (.ref f__law_whole)))
    (l__law_whole : K.lookup f__law_whole = some ⟨oc__law_whole, od__law_whole, .func (PySem.W.fnOf "_law_whole" "_law_whole" (defArgs s__law_whole) (defBody s__law_whole) (defScope s__law_whole) .none kV__law_whole dc__law_whole pm__law_whole an__law_whole cd__law_whole ct__law_whole), sl__law_whole⟩)
    (c__law_whole : PySem.W.codeIn K cd__law_whole "_law_whole" = true)
    (k__law_whole : PySem.W.keepIn K (.ref f__law_whole) = true)
    (a__law_big : PySem.W.nsIn K mainGlobals "_law_big" = some (some (.ref f__law_big)))
    (l__law_big : K.lookup f__law_big = some ⟨oc__law_big, od__law_big, .func (PySem.W.fnOf "_law_big" "_law_big" (defArgs s__law_big) (defBody s__law_big) (defScope s__law_big) .none kV__law_big dc__law_big pm__law_big an__law_big cd__law_big ct__law_big), sl__law_big⟩)
    (c__law_big : PySem.W.codeIn K cd__law_big "_law_big" = true)
    (k__law_big : PySem.W.keepIn K (.ref f__law_big) = true)
    (a__law_mark : PySem.W.nsIn K mainGlobals "_law_mark" = some (some (.ref f__law_mark)))
    (l__law_mark : K.lookup f__law_mark = some ⟨oc__law_mark, od__law_mark, .func (PySem.W.fnOf "_law_mark" "_law_mark" (defArgs s__law_mark) (defBody s__law_mark) (defScope s__law_mark) .none kV__law_mark dc__law_mark pm__law_mark an__law_mark cd__law_mark ct__law_mark), sl__law_mark⟩)
    (c__law_mark : PySem.W.codeIn K cd__law_mark "_law_mark" = true)
    (k__law_mark : PySem.W.keepIn K (.ref f__law_mark) = true)
    (a__law_says : PySem.W.nsIn K mainGlobals "_law_says" = some (some (.ref f__law_says)))
    (l__law_says : K.lookup f__law_says = some ⟨oc__law_says, od__law_says, .func (PySem.W.fnOf "_law_says" "_law_says" (defArgs s__law_says) (defBody s__law_says) (defScope s__law_says) .none kV__law_says dc__law_says pm__law_says an__law_says cd__law_says ct__law_says), sl__law_says⟩)
    (c__law_says : PySem.W.codeIn K cd__law_says "_law_says" = true)
    (k__law_says : PySem.W.keepIn K (.ref f__law_says) = true)
    (a__law_is_word : PySem.W.nsIn K mainGlobals "_law_is_word" = some (some (.ref f__law_is_word)))
    (l__law_is_word : K.lookup f__law_is_word = some ⟨oc__law_is_word, od__law_is_word, .func (PySem.W.fnOf "_law_is_word" "_law_is_word" (defArgs s__law_is_word) (defBody s__law_is_word) (defScope s__law_is_word) .none kV__law_is_word dc__law_is_word pm__law_is_word an__law_is_word cd__law_is_word ct__law_is_word), sl__law_is_word⟩)
    (c__law_is_word : PySem.W.codeIn K cd__law_is_word "_law_is_word" = true)
    (k__law_is_word : PySem.W.keepIn K (.ref f__law_is_word) = true)
    (a__law_doubled : PySem.W.nsIn K mainGlobals "_law_doubled" = some (some (.ref f__law_doubled)))
    (l__law_doubled : K.lookup f__law_doubled = some ⟨oc__law_doubled, od__law_doubled, .func (PySem.W.fnOf "_law_doubled" "_law_doubled" (defArgs s__law_doubled) (defBody s__law_doubled) (defScope s__law_doubled) .none kV__law_doubled dc__law_doubled pm__law_doubled an__law_doubled cd__law_doubled ct__law_doubled), sl__law_doubled⟩)
    (c__law_doubled : PySem.W.codeIn K cd__law_doubled "_law_doubled" = true)
    (k__law_doubled : PySem.W.keepIn K (.ref f__law_doubled) = true)
    (a__law_order : PySem.W.nsIn K mainGlobals "_law_order" = some (some (.ref f__law_order)))
    (l__law_order : K.lookup f__law_order = some ⟨oc__law_order, od__law_order, .func (PySem.W.fnOf "_law_order" "_law_order" (defArgs s__law_order) (defBody s__law_order) (defScope s__law_order) .none kV__law_order dc__law_order pm__law_order an__law_order cd__law_order ct__law_order), sl__law_order⟩)
    (c__law_order : PySem.W.codeIn K cd__law_order "_law_order" = true)
    (k__law_order : PySem.W.keepIn K (.ref f__law_order) = true)
    (a__law_renumbered : PySem.W.nsIn K mainGlobals "_law_renumbered" = some (some (.ref f__law_renumbered)))
    (l__law_renumbered : K.lookup f__law_renumbered = some ⟨oc__law_renumbered, od__law_renumbered, .func (PySem.W.fnOf "_law_renumbered" "_law_renumbered" (defArgs s__law_renumbered) (defBody s__law_renumbered) (defScope s__law_renumbered) .none kV__law_renumbered dc__law_renumbered pm__law_renumbered an__law_renumbered cd__law_renumbered ct__law_renumbered), sl__law_renumbered⟩)
    (c__law_renumbered : PySem.W.codeIn K cd__law_renumbered "_law_renumbered" = true)
    (k__law_renumbered : PySem.W.keepIn K (.ref f__law_renumbered) = true)
    (a__law_another : PySem.W.nsIn K mainGlobals "_law_another" = some (some (.ref f__law_another)))
    (l__law_another : K.lookup f__law_another = some ⟨oc__law_another, od__law_another, .func (PySem.W.fnOf "_law_another" "_law_another" (defArgs s__law_another) (defBody s__law_another) (defScope s__law_another) .none kV__law_another dc__law_another pm__law_another an__law_another cd__law_another ct__law_another), sl__law_another⟩)
    (c__law_another : PySem.W.codeIn K cd__law_another "_law_another" = true)
    (k__law_another : PySem.W.keepIn K (.ref f__law_another) = true)
    (a__law_pairs : PySem.W.nsIn K mainGlobals "_law_pairs" = some (some (.ref f__law_pairs)))
    (l__law_pairs : K.lookup f__law_pairs = some ⟨oc__law_pairs, od__law_pairs, .func (PySem.W.fnOf "_law_pairs" "_law_pairs" (defArgs s__law_pairs) (defBody s__law_pairs) (defScope s__law_pairs) .none kV__law_pairs dc__law_pairs pm__law_pairs an__law_pairs cd__law_pairs ct__law_pairs), sl__law_pairs⟩)
    (c__law_pairs : PySem.W.codeIn K cd__law_pairs "_law_pairs" = true)
    (k__law_pairs : PySem.W.keepIn K (.ref f__law_pairs) = true)
    (a__law_unlike_words : PySem.W.nsIn K mainGlobals "_law_unlike_words" = some (some (.ref f__law_unlike_words)))
    (l__law_unlike_words : K.lookup f__law_unlike_words = some ⟨oc__law_unlike_words, od__law_unlike_words, .func (PySem.W.fnOf "_law_unlike_words" "_law_unlike_words" (defArgs s__law_unlike_words) (defBody s__law_unlike_words) (defScope s__law_unlike_words) .none kV__law_unlike_words dc__law_unlike_words pm__law_unlike_words an__law_unlike_words cd__law_unlike_words ct__law_unlike_words), sl__law_unlike_words⟩)
    (c__law_unlike_words : PySem.W.codeIn K cd__law_unlike_words "_law_unlike_words" = true)
    (k__law_unlike_words : PySem.W.keepIn K (.ref f__law_unlike_words) = true)
    (a__law_first_unlike : PySem.W.nsIn K mainGlobals "_law_first_unlike" = some (some (.ref f__law_first_unlike)))
    (l__law_first_unlike : K.lookup f__law_first_unlike = some ⟨oc__law_first_unlike, od__law_first_unlike, .func (PySem.W.fnOf "_law_first_unlike" "_law_first_unlike" (defArgs s__law_first_unlike) (defBody s__law_first_unlike) (defScope s__law_first_unlike) .none kV__law_first_unlike dc__law_first_unlike pm__law_first_unlike an__law_first_unlike cd__law_first_unlike ct__law_first_unlike), sl__law_first_unlike⟩)
    (c__law_first_unlike : PySem.W.codeIn K cd__law_first_unlike "_law_first_unlike" = true)
    (k__law_first_unlike : PySem.W.keepIn K (.ref f__law_first_unlike) = true)
    (a__law_put : PySem.W.nsIn K mainGlobals "_law_put" = some (some (.ref f__law_put)))
    (l__law_put : K.lookup f__law_put = some ⟨oc__law_put, od__law_put, .func (PySem.W.fnOf "_law_put" "_law_put" (defArgs s__law_put) (defBody s__law_put) (defScope s__law_put) .none kV__law_put dc__law_put pm__law_put an__law_put cd__law_put ct__law_put), sl__law_put⟩)
    (c__law_put : PySem.W.codeIn K cd__law_put "_law_put" = true)
    (k__law_put : PySem.W.keepIn K (.ref f__law_put) = true)
    (a__law_beside : PySem.W.nsIn K mainGlobals "_law_beside" = some (some (.ref f__law_beside)))
    (l__law_beside : K.lookup f__law_beside = some ⟨oc__law_beside, od__law_beside, .func (PySem.W.fnOf "_law_beside" "_law_beside" (defArgs s__law_beside) (defBody s__law_beside) (defScope s__law_beside) .none kV__law_beside dc__law_beside pm__law_beside an__law_beside cd__law_beside ct__law_beside), sl__law_beside⟩)
    (c__law_beside : PySem.W.codeIn K cd__law_beside "_law_beside" = true)
    (k__law_beside : PySem.W.keepIn K (.ref f__law_beside) = true)
    (a__law_refused : PySem.W.nsIn K mainGlobals "_law_refused" = some (some (.ref f__law_refused)))
    (l__law_refused : K.lookup f__law_refused = some ⟨oc__law_refused, od__law_refused, .func (PySem.W.fnOf "_law_refused" "_law_refused" (defArgs s__law_refused) (defBody s__law_refused) (defScope s__law_refused) .none kV__law_refused dc__law_refused pm__law_refused an__law_refused cd__law_refused ct__law_refused), sl__law_refused⟩)
    (c__law_refused : PySem.W.codeIn K cd__law_refused "_law_refused" = true)
    (k__law_refused : PySem.W.keepIn K (.ref f__law_refused) = true)
    (a__law_refused_by_any : PySem.W.nsIn K mainGlobals "_law_refused_by_any" = some (some (.ref f__law_refused_by_any)))
    (l__law_refused_by_any : K.lookup f__law_refused_by_any = some ⟨oc__law_refused_by_any, od__law_refused_by_any, .func (PySem.W.fnOf "_law_refused_by_any" "_law_refused_by_any" (defArgs s__law_refused_by_any) (defBody s__law_refused_by_any) (defScope s__law_refused_by_any) .none kV__law_refused_by_any dc__law_refused_by_any pm__law_refused_by_any an__law_refused_by_any cd__law_refused_by_any ct__law_refused_by_any), sl__law_refused_by_any⟩)
    (c__law_refused_by_any : PySem.W.codeIn K cd__law_refused_by_any "_law_refused_by_any" = true)
    (k__law_refused_by_any : PySem.W.keepIn K (.ref f__law_refused_by_any) = true)
    (a__law_wide : PySem.W.nsIn K mainGlobals "_law_wide" = some (some (.ref f__law_wide)))
    (l__law_wide : K.lookup f__law_wide = some ⟨oc__law_wide, od__law_wide, .func (PySem.W.fnOf "_law_wide" "_law_wide" (defArgs s__law_wide) (defBody s__law_wide) (defScope s__law_wide) .none kV__law_wide dc__law_wide pm__law_wide an__law_wide cd__law_wide ct__law_wide), sl__law_wide⟩)
    (c__law_wide : PySem.W.codeIn K cd__law_wide "_law_wide" = true)
    (k__law_wide : PySem.W.keepIn K (.ref f__law_wide) = true)
    (a__law_wide_good : PySem.W.nsIn K mainGlobals "_law_wide_good" = some (some (.ref f__law_wide_good)))
    (l__law_wide_good : K.lookup f__law_wide_good = some ⟨oc__law_wide_good, od__law_wide_good, .func (PySem.W.fnOf "_law_wide_good" "_law_wide_good" (defArgs s__law_wide_good) (defBody s__law_wide_good) (defScope s__law_wide_good) .none kV__law_wide_good dc__law_wide_good pm__law_wide_good an__law_wide_good cd__law_wide_good ct__law_wide_good), sl__law_wide_good⟩)
    (c__law_wide_good : PySem.W.codeIn K cd__law_wide_good "_law_wide_good" = true)
    (k__law_wide_good : PySem.W.keepIn K (.ref f__law_wide_good) = true)
    (a_law : PySem.W.nsIn K mainGlobals "law" = some (some (.ref f_law)))
    (l_law : K.lookup f_law = some ⟨oc_law, od_law, .func (PySem.W.fnOf "law" "law" (defArgs s_law) (defBody s_law) (defScope s_law) .none kV_law dc_law pm_law an_law cd_law ct_law), sl_law⟩)
    (c_law : PySem.W.codeIn K cd_law "law" = true)
    (k_law : PySem.W.keepIn K (.ref f_law) = true)
    (z_ValueError : PySem.W.nsIn K mainGlobals "ValueError" = some none)
    (z_all : PySem.W.nsIn K mainGlobals "all" = some none)
    (z_bool : PySem.W.nsIn K mainGlobals "bool" = some none)
    (z_int : PySem.W.nsIn K mainGlobals "int" = some none)
    (z_isinstance : PySem.W.nsIn K mainGlobals "isinstance" = some none)
    (z_len : PySem.W.nsIn K mainGlobals "len" = some none)
    (z_list : PySem.W.nsIn K mainGlobals "list" = some none)
    (z_max : PySem.W.nsIn K mainGlobals "max" = some none)
    (z_range : PySem.W.nsIn K mainGlobals "range" = some none)
    (z_reversed : PySem.W.nsIn K mainGlobals "reversed" = some none)
    (z_tuple : PySem.W.nsIn K mainGlobals "tuple" = some none)
    (m_AskError : PySem.W.nsIn K mainGlobals "AskError" = some (some (.ref C_AskError)))
    (m_BadHouse : PySem.W.nsIn K mainGlobals "BadHouse" = some (some (.ref C_BadHouse)))
    (m_BadWord : PySem.W.nsIn K mainGlobals "BadWord" = some (some (.ref C_BadWord)))
    (x_BadHouse : PySem.W.excIn K C_BadHouse bmV "ValueError.__new__" = true)
    (ga_BadHouse : PySem.W.findIn K (.ref C_BadHouse) "__getattribute__" = some (some (.builtin "BaseException.__getattribute__")))
    (hk_BadHouse : PySem.W.findIn K (.ref C_BadHouse) "__getattr__" = some none)
    {cd_BadHouse : ClassData}
    (cl_BadHouse : PySem.W.clsIn K C_BadHouse = some cd_BadHouse)
    (ca_BadHouse : PySem.W.findIn K (.ref C_BadHouse) "__class__" = some (some (.builtin "object.__class__")))
    (mo_BadHouse : PySem.W.mroIn K C_BadHouse (.type "object") = some true)
    (mb_BadHouse : PySem.W.mroIn K C_BadHouse (.type "BaseException") = some true)
    (e_BadHouse : PySem.W.exmOne K (.ref C_BadHouse) (.ref C_AskError) = some true)
    (v_BadHouse : PySem.W.kitOne K (.ref C_BadHouse) (.type "ValueError") = some true)
    (ee_BadHouse : PySem.W.exmOne K (.ref C_BadHouse) (.ref C_BadHouse) = some true)
    (k_BadHouse_AskError : PySem.W.kitOne K (.ref C_BadHouse) (.ref C_AskError) = some true)
    (k_BadHouse_BadHouse : PySem.W.kitOne K (.ref C_BadHouse) (.ref C_BadHouse) = some true)
    (k_BadHouse_BadWord : PySem.W.kitOne K (.ref C_BadHouse) (.ref C_BadWord) = some false)
    (x_BadWord : PySem.W.excIn K C_BadWord bmV "ValueError.__new__" = true)
    (ga_BadWord : PySem.W.findIn K (.ref C_BadWord) "__getattribute__" = some (some (.builtin "BaseException.__getattribute__")))
    (hk_BadWord : PySem.W.findIn K (.ref C_BadWord) "__getattr__" = some none)
    {cd_BadWord : ClassData}
    (cl_BadWord : PySem.W.clsIn K C_BadWord = some cd_BadWord)
    (ca_BadWord : PySem.W.findIn K (.ref C_BadWord) "__class__" = some (some (.builtin "object.__class__")))
    (mo_BadWord : PySem.W.mroIn K C_BadWord (.type "object") = some true)
    (mb_BadWord : PySem.W.mroIn K C_BadWord (.type "BaseException") = some true)
    (e_BadWord : PySem.W.exmOne K (.ref C_BadWord) (.ref C_AskError) = some true)
    (v_BadWord : PySem.W.kitOne K (.ref C_BadWord) (.type "ValueError") = some true)
    (ee_BadWord : PySem.W.exmOne K (.ref C_BadWord) (.ref C_BadWord) = some true)
    (k_BadWord_AskError : PySem.W.kitOne K (.ref C_BadWord) (.ref C_AskError) = some true)
    (k_BadWord_BadHouse : PySem.W.kitOne K (.ref C_BadWord) (.ref C_BadHouse) = some false)
    (k_BadWord_BadWord : PySem.W.kitOne K (.ref C_BadWord) (.ref C_BadWord) = some true)
    (gs : PySem.W.specialIn K (.builtin "object.__class__") "__get__" = some (some (.builtin "getset_descriptor.__get__")))
    (tk : PySem.W.takesIn K (.builtin "object.__class__") = some true)
    : ∃ fd : FuncData, (∀ (s : Shared) (v : Value), BindsTo s fd ⟨[v], []⟩ [("script", v)]) /\ ∀ base : Heap, K.In base -> base.Ns mainGlobals mg -> FnOk l.prog w K mg base CX0 7 fa fd ["script"] (spLaw K) := by
  have e := hfa.symm.trans (PySem.W.mg_of X G a_law)
  cases e
  have T : Txt mg := ⟨PySem.W.mg_none_of X G z_ValueError, PySem.W.mg_none_of X G z_all, PySem.W.mg_none_of X G z_bool, PySem.W.mg_none_of X G z_int, PySem.W.mg_none_of X G z_isinstance, PySem.W.mg_none_of X G z_len, PySem.W.mg_none_of X G z_list, PySem.W.mg_none_of X G z_max, PySem.W.mg_none_of X G z_range, PySem.W.mg_none_of X G z_reversed, PySem.W.mg_none_of X G z_tuple⟩
  have Z : Exs K mg C_AskError C_BadHouse C_BadWord := ⟨PySem.W.mg_of X G m_AskError, PySem.W.mg_of X G m_BadHouse, PySem.W.mg_of X G m_BadWord, x_BadHouse, ⟨ga_BadHouse, hk_BadHouse, by rw [cl_BadHouse]; rfl, ca_BadHouse, gs, tk, mo_BadHouse, mb_BadHouse⟩, e_BadHouse, v_BadHouse, ee_BadHouse, k_BadHouse_AskError, k_BadHouse_BadHouse, k_BadHouse_BadWord, x_BadWord, ⟨ga_BadWord, hk_BadWord, by rw [cl_BadWord]; rfl, ca_BadWord, gs, tk, mo_BadWord, mb_BadWord⟩, e_BadWord, v_BadWord, ee_BadWord, k_BadWord_AskError, k_BadWord_BadHouse, k_BadWord_BadWord⟩
  have F_is_word := fun_mk (st := s_is_word) l_is_word c_is_word k_is_word
  have b_is_word := F_is_word.binds (ps := ["letters", "word"]) fun _ _ _ _ _ _ us hl => (by obtain ⟨y0, y1, rfl⟩ := len2 hl; rfl)
  have m_is_word := PySem.W.mg_of X G a_is_word
  have F_check_word := fun_mk (st := s_check_word) l_check_word c_check_word k_check_word
  have b_check_word := F_check_word.binds (ps := ["letters", "word"]) fun _ _ _ _ _ _ us hl => (by obtain ⟨y0, y1, rfl⟩ := len2 hl; rfl)
  have m_check_word := PySem.W.mg_of X G a_check_word
  have F_trail := fun_mk (st := s_trail) l_trail c_trail k_trail
  have b_trail := F_trail.binds (ps := ["house", "word"]) fun _ _ _ _ _ _ us hl => (by obtain ⟨y0, y1, rfl⟩ := len2 hl; rfl)
  have m_trail := PySem.W.mg_of X G a_trail
  have F_room_behind := fun_mk (st := s_room_behind) l_room_behind c_room_behind k_room_behind
  have b_room_behind := F_room_behind.binds (ps := ["house", "word"]) fun _ _ _ _ _ _ us hl => (by obtain ⟨y0, y1, rfl⟩ := len2 hl; rfl)
  have m_room_behind := PySem.W.mg_of X G a_room_behind
  have F_check_as_many_letters := fun_mk (st := s_check_as_many_letters) l_check_as_many_letters c_check_as_many_letters k_check_as_many_letters
  have b_check_as_many_letters := F_check_as_many_letters.binds (ps := ["house", "other"]) fun _ _ _ _ _ _ us hl => (by obtain ⟨y0, y1, rfl⟩ := len2 hl; rfl)
  have m_check_as_many_letters := PySem.W.mg_of X G a_check_as_many_letters
  have F_steps_from := fun_mk (st := s_steps_from) l_steps_from c_steps_from k_steps_from
  have b_steps_from := F_steps_from.binds (ps := ["house", "other", "start"]) fun _ _ _ _ _ _ us hl => (by obtain ⟨y0, y1, y2, rfl⟩ := len3 hl; rfl)
  have m_steps_from := PySem.W.mg_of X G a_steps_from
  have F_word_to := fun_mk (st := s_word_to) l_word_to c_word_to k_word_to
  have b_word_to := F_word_to.binds (ps := ["steps", "pair"]) fun _ _ _ _ _ _ us hl => (by obtain ⟨y0, y1, rfl⟩ := len2 hl; rfl)
  have m_word_to := PySem.W.mg_of X G a_word_to
  have F_least_word_apart := fun_mk (st := s_least_word_apart) l_least_word_apart c_least_word_apart k_least_word_apart
  have b_least_word_apart := F_least_word_apart.binds (ps := ["house", "other", "start"]) fun _ _ _ _ _ _ us hl => (by obtain ⟨y0, y1, y2, rfl⟩ := len3 hl; rfl)
  have m_least_word_apart := PySem.W.mg_of X G a_least_word_apart
  have F_difference := fun_mk (st := s_difference) l_difference c_difference k_difference
  have b_difference := F_difference.binds (ps := ["house", "other"]) fun _ _ _ _ _ _ us hl => (by obtain ⟨y0, y1, rfl⟩ := len2 hl; rfl)
  have m_difference := PySem.W.mg_of X G a_difference
  have F_says_difference := fun_mk (st := s_says_difference) l_says_difference c_says_difference k_says_difference
  have b_says_difference := F_says_difference.binds (ps := ["house", "other"]) fun _ _ _ _ _ _ us hl => (by obtain ⟨y0, y1, rfl⟩ := len2 hl; rfl)
  have m_says_difference := PySem.W.mg_of X G a_says_difference
  have F__law_cell := fun_mk (st := s__law_cell) l__law_cell c__law_cell k__law_cell
  have b__law_cell := F__law_cell.binds (ps := ["script", "k"]) fun _ _ _ _ _ _ us hl => (by obtain ⟨y0, y1, rfl⟩ := len2 hl; rfl)
  have m__law_cell := PySem.W.mg_of X G a__law_cell
  have F__law_whole := fun_mk (st := s__law_whole) l__law_whole c__law_whole k__law_whole
  have b__law_whole := F__law_whole.binds (ps := ["found"]) fun _ _ _ _ _ _ us hl => (by obtain ⟨y0, rfl⟩ := len1 hl; rfl)
  have m__law_whole := PySem.W.mg_of X G a__law_whole
  have F__law_big := fun_mk (st := s__law_big) l__law_big c__law_big k__law_big
  have b__law_big := F__law_big.binds (ps := ["script", "k"]) fun _ _ _ _ _ _ us hl => (by obtain ⟨y0, y1, rfl⟩ := len2 hl; rfl)
  have m__law_big := PySem.W.mg_of X G a__law_big
  have F__law_mark := fun_mk (st := s__law_mark) l__law_mark c__law_mark k__law_mark
  have b__law_mark := F__law_mark.binds (ps := ["cell"]) fun _ _ _ _ _ _ us hl => (by obtain ⟨y0, rfl⟩ := len1 hl; rfl)
  have m__law_mark := PySem.W.mg_of X G a__law_mark
  have F__law_says := fun_mk (st := s__law_says) l__law_says c__law_says k__law_says
  have b__law_says := F__law_says.binds (ps := ["script", "at", "letters", "rooms"]) fun _ _ _ _ _ _ us hl => (by obtain ⟨y0, y1, y2, y3, rfl⟩ := len4 hl; rfl)
  have m__law_says := PySem.W.mg_of X G a__law_says
  have F__law_is_word := fun_mk (st := s__law_is_word) l__law_is_word c__law_is_word k__law_is_word
  have b__law_is_word := F__law_is_word.binds (ps := ["found", "letters"]) fun _ _ _ _ _ _ us hl => (by obtain ⟨y0, y1, rfl⟩ := len2 hl; rfl)
  have m__law_is_word := PySem.W.mg_of X G a__law_is_word
  have F__law_doubled := fun_mk (st := s__law_doubled) l__law_doubled c__law_doubled k__law_doubled
  have b__law_doubled := F__law_doubled.binds (ps := ["house", "cell"]) fun _ _ _ _ _ _ us hl => (by obtain ⟨y0, y1, rfl⟩ := len2 hl; rfl)
  have m__law_doubled := PySem.W.mg_of X G a__law_doubled
  have F__law_order := fun_mk (st := s__law_order) l__law_order c__law_order k__law_order
  have b__law_order := F__law_order.binds (ps := ["rooms", "cell"]) fun _ _ _ _ _ _ us hl => (by obtain ⟨y0, y1, rfl⟩ := len2 hl; rfl)
  have m__law_order := PySem.W.mg_of X G a__law_order
  have F__law_renumbered := fun_mk (st := s__law_renumbered) l__law_renumbered c__law_renumbered k__law_renumbered
  have b__law_renumbered := F__law_renumbered.binds (ps := ["house", "order"]) fun _ _ _ _ _ _ us hl => (by obtain ⟨y0, y1, rfl⟩ := len2 hl; rfl)
  have m__law_renumbered := PySem.W.mg_of X G a__law_renumbered
  have F__law_another := fun_mk (st := s__law_another) l__law_another c__law_another k__law_another
  have b__law_another := F__law_another.binds (ps := ["house", "cell"]) fun _ _ _ _ _ _ us hl => (by obtain ⟨y0, y1, rfl⟩ := len2 hl; rfl)
  have m__law_another := PySem.W.mg_of X G a__law_another
  have F__law_pairs := fun_mk (st := s__law_pairs) l__law_pairs c__law_pairs k__law_pairs
  have b__law_pairs := F__law_pairs.binds (ps := ["one", "two"]) fun _ _ _ _ _ _ us hl => (by obtain ⟨y0, y1, rfl⟩ := len2 hl; rfl)
  have m__law_pairs := PySem.W.mg_of X G a__law_pairs
  have F__law_unlike_words := fun_mk (st := s__law_unlike_words) l__law_unlike_words c__law_unlike_words k__law_unlike_words
  have b__law_unlike_words := F__law_unlike_words.binds (ps := ["one", "two"]) fun _ _ _ _ _ _ us hl => (by obtain ⟨y0, y1, rfl⟩ := len2 hl; rfl)
  have m__law_unlike_words := PySem.W.mg_of X G a__law_unlike_words
  have F__law_first_unlike := fun_mk (st := s__law_first_unlike) l__law_first_unlike c__law_first_unlike k__law_first_unlike
  have b__law_first_unlike := F__law_first_unlike.binds (ps := ["one", "two", "most"]) fun _ _ _ _ _ _ us hl => (by obtain ⟨y0, y1, y2, rfl⟩ := len3 hl; rfl)
  have m__law_first_unlike := PySem.W.mg_of X G a__law_first_unlike
  have F__law_put := fun_mk (st := s__law_put) l__law_put c__law_put k__law_put
  have b__law_put := F__law_put.binds (ps := ["row", "place", "thing"]) fun _ _ _ _ _ _ us hl => (by obtain ⟨y0, y1, y2, rfl⟩ := len3 hl; rfl)
  have m__law_put := PySem.W.mg_of X G a__law_put
  have F__law_beside := fun_mk (st := s__law_beside) l__law_beside c__law_beside k__law_beside
  have b__law_beside := F__law_beside.binds (ps := ["one", "script", "at", "way"]) fun _ _ _ _ _ _ us hl => (by obtain ⟨y0, y1, y2, y3, rfl⟩ := len4 hl; rfl)
  have m__law_beside := PySem.W.mg_of X G a__law_beside
  have F__law_refused := fun_mk (st := s__law_refused) l__law_refused c__law_refused k__law_refused
  have b__law_refused := F__law_refused.binds (ps := ["one", "two"]) fun _ _ _ _ _ _ us hl => (by obtain ⟨y0, y1, rfl⟩ := len2 hl; rfl)
  have m__law_refused := PySem.W.mg_of X G a__law_refused
  have F__law_refused_by_any := fun_mk (st := s__law_refused_by_any) l__law_refused_by_any c__law_refused_by_any k__law_refused_by_any
  have b__law_refused_by_any := F__law_refused_by_any.binds (ps := ["one", "two"]) fun _ _ _ _ _ _ us hl => (by obtain ⟨y0, y1, rfl⟩ := len2 hl; rfl)
  have m__law_refused_by_any := PySem.W.mg_of X G a__law_refused_by_any
  have F__law_wide := fun_mk (st := s__law_wide) l__law_wide c__law_wide k__law_wide
  have b__law_wide := F__law_wide.binds (ps := ["cell"]) fun _ _ _ _ _ _ us hl => (by obtain ⟨y0, rfl⟩ := len1 hl; rfl)
  have m__law_wide := PySem.W.mg_of X G a__law_wide
  have F__law_wide_good := fun_mk (st := s__law_wide_good) l__law_wide_good c__law_wide_good k__law_wide_good
  have b__law_wide_good := F__law_wide_good.binds (ps := ["cell"]) fun _ _ _ _ _ _ us hl => (by obtain ⟨y0, rfl⟩ := len1 hl; rfl)
  have m__law_wide_good := PySem.W.mg_of X G a__law_wide_good
  have F_law := fun_mk (st := s_law) l_law c_law k_law
  have b_law := F_law.binds (ps := ["script"]) fun _ _ _ _ _ _ us hl => (by obtain ⟨y0, rfl⟩ := len1 hl; rfl)
  have m_law := PySem.W.mg_of X G a_law
  refine ⟨PySem.W.fnOf "law" "law" (defArgs s_law) (defBody s_law) (defScope s_law) .none kV_law dc_law pm_law an_law cd_law ct_law, fun s v => .of_eq rfl, fun base _ _ => ?_⟩
  have g_is_word := ok_is_word (P := l.prog) (w := w) (base := base) F_is_word T Z 
  have g_check_word := ok_check_word (P := l.prog) (w := w) (base := base) F_check_word T Z g_is_word F_is_word b_is_word m_is_word
  have g_trail := ok_trail (P := l.prog) (w := w) (base := base) F_trail T Z g_check_word F_check_word b_check_word m_check_word
  have g_room_behind := ok_room_behind (P := l.prog) (w := w) (base := base) F_room_behind T Z g_trail F_trail b_trail m_trail
  have g_check_as_many_letters := ok_check_as_many_letters (P := l.prog) (w := w) (base := base) F_check_as_many_letters T Z 
  have g_steps_from := ok_steps_from (P := l.prog) (w := w) (base := base) F_steps_from T Z 
  have g_word_to := ok_word_to (P := l.prog) (w := w) (base := base) F_word_to T Z 
  have g_least_word_apart := ok_least_word_apart (P := l.prog) (w := w) (base := base) F_least_word_apart T Z g_steps_from F_steps_from b_steps_from m_steps_from g_word_to F_word_to b_word_to m_word_to
  have g_difference := ok_difference (P := l.prog) (w := w) (base := base) F_difference T Z g_check_as_many_letters F_check_as_many_letters b_check_as_many_letters m_check_as_many_letters g_least_word_apart F_least_word_apart b_least_word_apart m_least_word_apart
  have g_says_difference := ok_says_difference (P := l.prog) (w := w) (base := base) F_says_difference T Z g_room_behind F_room_behind b_room_behind m_room_behind g_difference F_difference b_difference m_difference
  have g__law_cell := ok__law_cell (P := l.prog) (w := w) (base := base) F__law_cell T Z 
  have g__law_whole := ok__law_whole (P := l.prog) (w := w) (base := base) F__law_whole T Z 
  have g__law_big := ok__law_big (P := l.prog) (w := w) (base := base) F__law_big T Z g__law_cell F__law_cell b__law_cell m__law_cell
  have g__law_mark := ok__law_mark (P := l.prog) (w := w) (base := base) F__law_mark T Z 
  have g__law_says := ok__law_says (P := l.prog) (w := w) (base := base) F__law_says T Z g__law_big F__law_big b__law_big m__law_big g__law_mark F__law_mark b__law_mark m__law_mark
  have g__law_is_word := ok__law_is_word (P := l.prog) (w := w) (base := base) F__law_is_word T Z g__law_whole F__law_whole b__law_whole m__law_whole
  have g__law_doubled := ok__law_doubled (P := l.prog) (w := w) (base := base) F__law_doubled T Z 
  have g__law_order := ok__law_order (P := l.prog) (w := w) (base := base) F__law_order T Z 
  have g__law_renumbered := ok__law_renumbered (P := l.prog) (w := w) (base := base) F__law_renumbered T Z 
  have g__law_another := ok__law_another (P := l.prog) (w := w) (base := base) F__law_another T Z g__law_doubled F__law_doubled b__law_doubled m__law_doubled g__law_order F__law_order b__law_order m__law_order g__law_renumbered F__law_renumbered b__law_renumbered m__law_renumbered
  have g__law_pairs := ok__law_pairs (P := l.prog) (w := w) (base := base) F__law_pairs T Z 
  have g__law_unlike_words := ok__law_unlike_words (P := l.prog) (w := w) (base := base) F__law_unlike_words T Z g__law_pairs F__law_pairs b__law_pairs m__law_pairs
  have g__law_first_unlike := ok__law_first_unlike (P := l.prog) (w := w) (base := base) F__law_first_unlike T Z 
  have g__law_put := ok__law_put (P := l.prog) (w := w) (base := base) F__law_put T Z 
  have g__law_beside := ok__law_beside (P := l.prog) (w := w) (base := base) F__law_beside T Z g__law_cell F__law_cell b__law_cell m__law_cell g__law_says F__law_says b__law_says m__law_says g__law_another F__law_another b__law_another m__law_another g__law_put F__law_put b__law_put m__law_put
  have g__law_refused := ok__law_refused (P := l.prog) (w := w) (base := base) F__law_refused T Z g_says_difference F_says_difference b_says_difference m_says_difference
  have g__law_refused_by_any := ok__law_refused_by_any (P := l.prog) (w := w) (base := base) F__law_refused_by_any T Z g_says_difference F_says_difference b_says_difference m_says_difference
  have g__law_wide := ok__law_wide (P := l.prog) (w := w) (base := base) F__law_wide T Z 
  have g__law_wide_good := ok__law_wide_good (P := l.prog) (w := w) (base := base) F__law_wide_good T Z g_says_difference F_says_difference b_says_difference m_says_difference g__law_is_word F__law_is_word b__law_is_word m__law_is_word g__law_order F__law_order b__law_order m__law_order g__law_renumbered F__law_renumbered b__law_renumbered m__law_renumbered g__law_unlike_words F__law_unlike_words b__law_unlike_words m__law_unlike_words g__law_put F__law_put b__law_put m__law_put g__law_wide F__law_wide b__law_wide m__law_wide
  have g_law := ok_law (P := l.prog) (w := w) (base := base) F_law T Z g_says_difference F_says_difference b_says_difference m_says_difference g__law_cell F__law_cell b__law_cell m__law_cell g__law_says F__law_says b__law_says m__law_says g__law_is_word F__law_is_word b__law_is_word m__law_is_word g__law_unlike_words F__law_unlike_words b__law_unlike_words m__law_unlike_words g__law_first_unlike F__law_first_unlike b__law_first_unlike m__law_first_unlike g__law_beside F__law_beside b__law_beside m__law_beside g__law_refused F__law_refused b__law_refused m__law_refused g__law_refused_by_any F__law_refused_by_any b__law_refused_by_any m__law_refused_by_any g__law_wide_good F__law_wide_good b__law_wide_good m__law_wide_good
  exact g_law
theorem walk {l : PySem.W.OpenLaw} {q : Program} {loose : List Str} {XP : (Str -> Option Value) -> Heap -> Prop} {YP : World -> Heap -> Prop} {d : DefRec} {K : Params -> PySem.W.Frag} (hn : l.most = some 63) (hdf : d.params.defaults = [])
    (hY : ∀ (w : World) (h : Heap), YP w h -> (K w.params).In h)
    (F : ∀ (w : World) (mg : Str -> Option Value) (fa : Addr) (h : Heap), (K w.params).In h -> h.Ns mainGlobals mg -> mg d.name = some (.ref fa) ->
      ∃ fd : FuncData, (∀ (s : Shared) (u : Value), BindsTo s fd ⟨[u], []⟩ [("script", u)]) /\ ∀ base : Heap, (K w.params).In base -> base.Ns mainGlobals mg -> FnOk l.prog w (K w.params) mg base CX0 7 fa fd ["script"] (spLaw (K w.params))) :
    PySem.W.WalkO q loose XP YP l.row.toRowW d [] (fun f vs => PySem.call f vs) :=
  L2.walk_of (n := 63) (k := 7) (x := "script") (CX := fun _ => CX0) (sp := fun w => spLaw (K w.params)) hn (by decide) hdf ⟨rfl, by decide, by decide⟩ hY F (fun _ _ a ns hl _ hS => ⟨a, ns, rfl, hS, hl, fun _ => rfl⟩) fun _ _ _ _ _ z => z
end Mine
inductive PySem.W.Fast where
|tw1863104185139566878|tw12305310097493712305|tw6279919737327323012|tw16590017351527253631|tw5324311510507309228|tw13782843366754677056|tw17131519247790563424|tw3722241755305731727|tw8520661846906194130|tw6888397511317448065|tw3052787149911887182|tw2145025013772106670|tw6197788686828641071|tw12357002897057564177|tw11348439699087301905|tw14511202124916910037|tw6628497696071389827|tw12868988403312657521|tw9265142615621983200|tw10887217948696262066|tw16647741885053609973|tw14792201379141223577|tw12262545189884519365|tw1596505412954253489|tw399590556794388760|tw2279436699433597172|tw9154871332210859521|tw16257473716582789046|tw4994475362626775202|tw3452514249497190123|tw15055605926523357440|tw7965733007079148654|tw11555309267567268670|tw10847757166892484974|tw9251235581425303655|tw5859242115396753353|tw1801908249445951385|tw10680013750077905743|tw17325119774500929459|tw313805844989385533|tw1080846731687323109|tw7995683101780975112|tw16775346672598714419|tw12853253278132874225|tw13267806755873621157|tw3188393817196013397|tw10003614636678779345|tw9845618213418243567|tw1219437693173348739|tw5807150270774455108|tw7869856944965929620|tw16437132126878137499|tw2856416268975699450|tw12690820559598137844|tw730036339377725459|tw14897827995749021425|tw5765500513520695160|tw17903138051148008247|tw12380062441549045607|tw16197493790381080352|tw7810778982129838559|tw10167782712012282981|tw5671983999466100059|tw7563665342812807514|tw14352869906404235476|tw15908215426151297189|tw15880853399539938532|tw3314154264625110551|tw1967134646975418803|tw11802736636482488280|tw11492981765895240556|tw7767941768054091974|tw9879328528487083351|tw14846029672724507182|tw11630364296900701474|tw12310959217413662678|tw5293066423973627560|tw2267170946524909990|tw2376799771269844274|tw2159852228118397535|tw5412012942510481206|tw13744002251602658527|tw3945698613628147581|tw4538980935841212218|tw7793441159556266727|tw12558270677380461062|tw2863061860485741273|tw6958768695682559455|tw16748175355129797065|tw832130953686602931|tw14545939506913195824|tw11319430544085252571|tw15111840228324865332|tw16728154919680785329|tw4147242219947665198|tw3836000645470098654|tw11657516373902524444|tw16840975211518556423|tw12833012278834048888|tw3294220712483096824|tw9654293682893609114|tw6837923509786957467|tw13869152507264328608|tw12047975947129614024|tw1564896950253135571|tw10093002586841183954|tw6334557721589896324|tw929713818110019738|tw14371095057557428218|tw13700558748365578960|tw2117375061488990077|tw6850017394390267358|tw13715534708731224657|tw4730596240730305783|tw11810164554488783587|tw6630437160325819629|tw16281976849181892547|tw254407105550430113|tw8196488531190532234|tw2595065511340527288|tw11348248163812041509|tw15339027650163800035|tw746521841214138484|tw15764728891811754712|tw3006028052857008682|tw8321787792583818505|tw16214610943871346754|tw4917655028612288400|tw8588799933447832965|tw16867146241496518947|tw14865668728535135137|tw13030052240852340180|tw10322939951774452546|tw13052847042462208320|tw15843358127461256809|tw5591682394465952879|tw17499664406164587476|tw628142377726750227|tw15058927287517970146|tw14692826643229294044|tw10064385589457571676|tw11497229291134298029|tw7531055079563646837|tw5814456971363273852|tw8472731439723936948|tw1007102682046725704|tw13436161205868894323|tw15151964519779827763|tw15021271798915452329|tw3946120898681427918|tw2873369456025986634|tw17231787701917183284|tw412600985529722203|tw984931921609823084|tw1872310923050351552|tw4752955918605741792|tw16749351824671563454|tw13761511641654933170|tw3271981624036841791|tw4210511767400595669|tw13857971130381004494|tw12748116694878420283|tw14824284023037464430|tw14513254366698532728|tw2016465515958114616|tw14253850191433016233|tw14857474365078752812|tw11672711048942449197|tw4927004508694076930|tw660527779389152040|tw14749287762469737637|tw14929522785409908911|tw445826289953390035|tw10624238590970778601|tw12590929433004420898|tw9616885805159224472|tw10277411225604488055|tw9409179249502515200|tw9955421597607175416|tw5348312575942614085|tw1221313692355619405|tw3548111171496717945|tw9291054186580160383|tw15813421800658224256|tw113103665289765328|tw5362164095281076215|tw7270853215606161284|tw12011807337757591878|tw853983734547632722|tw13205621693050948104|tw2312339166981323372|tw9350031328178765323|tw2345782663745495382|tw12414766653793830729|tw14552875105250229318|tw6895237336032346344|tw7405996206575526571|tw17988912177126241787|tw4980285247634391020|tw11321976384426709846|tw7793212426212998919|tw742607293118648724|tw272406431863345817|tw8816896363211053505|tw16503607372645891259|tw17743866081705104066|tw10238129728836301232|tw15291932261398904320|tw491296512336083421|tw2541773485780161178|tw17934195133213519357|tw15042673314290994141|tw7362481981762489440|tw16461266737864638016|tw15057166458026335786|tw14452400943961654891|tw11774769205021324021|tw9524684582006948546|tw12471087877541217105|tw5130294376014207665|tw6903157397722099825|tw4088138110681345257|tw14135962742897004875|tw7897607892302098046|tw9471803707793758248|tw7993995972195004801|tw13386152899114674442|tw3736813731837661526|tw11917684929665982311|tw12710193887215443092|tw7502753672990261986|tw15231142444011354541|tw18276098637001817536|tw9311662373861391598|tw17509785009007892046|tw16809225115544198899|tw7112877710686262146|tw11078484693418594619|tw16334965794496115407|tw13491302559196253495|tw14569916082759882109|tw10404594167947703973|tw11043895327878040464|tw6182469299998825499|tw18439741457499782707|tw16660862085901729301|tw5121860229621344256|tw3077397016299698630|tw5147542922662705997|tw3659336969010519815|tw6228546912591921902|tw4768533221093754814|tw13521762626147632965|tw9030479958943764253|tw8607093824148653306|tw14038421138703912595|tw7790521521893437614|tw12308291204838310305|tw17568717191290585470|tw17147161002937974472|tw884869489953609309|tw9985934123235514080|tw5067073700254318171|tw14057502127741047157|tw4487292263115812277|tw757747790647530857|tw9720593820962071486|tw15059336177724554740|tw867121756694118177|tw626227684231209793|tw5634390080660699666|tw14400050164828797687
open PySem PySem.W PyProof.Rows
set_option maxRecDepth 100000 in
set_option maxHeartbeats 0 in
theorem PySem.Challenge.cw_guessroom_k55_whole_says_difference_holds : PySem.Challenge.rw_guessroom_k55_whole_says_difference.Holds := by
  w_on; o_law; k_head; (case hw => w_witness2)
  k_fill
  refine Mine.walk (l := PySem.Challenge.rw_guessroom_k55_whole_says_difference) rfl rfl (fun w h Y => PySem.W.kIn_of Y) ?F
  case F =>
    intro w mg fa h KX G hmg
    refine' Mine.all_mk KX G hmg ?a_is_word ?l_is_word ?c_is_word ?k_is_word ?a_check_word ?l_check_word ?c_check_word ?k_check_word ?a_trail ?l_trail ?c_trail ?k_trail ?a_room_behind ?l_room_behind ?c_room_behind ?k_room_behind ?a_check_as_many_letters ?l_check_as_many_letters ?c_check_as_many_letters ?k_check_as_many_letters ?a_steps_from ?l_steps_from ?c_steps_from ?k_steps_from ?a_word_to ?l_word_to ?c_word_to ?k_word_to ?a_least_word_apart ?l_least_word_apart ?c_least_word_apart ?k_least_word_apart ?a_difference ?l_difference ?c_difference ?k_difference ?a_says_difference ?l_says_difference ?c_says_difference ?k_says_difference ?a__law_cell ?l__law_cell ?c__law_cell ?k__law_cell ?a__law_whole ?l__law_whole ?c__law_whole ?k__law_whole ?a__law_big ?l__law_big ?c__law_big ?k__law_big ?a__law_mark ?l__law_mark ?c__law_mark ?k__law_mark ?a__law_says ?l__law_says ?c__law_says ?k__law_says ?a__law_is_word ?l__law_is_word ?c__law_is_word ?k__law_is_word ?a__law_doubled ?l__law_doubled ?c__law_doubled ?k__law_doubled ?a__law_order ?l__law_order ?c__law_order ?k__law_order ?a__law_renumbered ?l__law_renumbered ?c__law_renumbered ?k__law_renumbered ?a__law_another ?l__law_another ?c__law_another ?k__law_another ?a__law_pairs ?l__law_pairs ?c__law_pairs ?k__law_pairs ?a__law_unlike_words ?l__law_unlike_words ?c__law_unlike_words ?k__law_unlike_words ?a__law_first_unlike ?l__law_first_unlike ?c__law_first_unlike ?k__law_first_unlike ?a__law_put ?l__law_put ?c__law_put ?k__law_put ?a__law_beside ?l__law_beside ?c__law_beside ?k__law_beside ?a__law_refused ?l__law_refused ?c__law_refused ?k__law_refused ?a__law_refused_by_any ?l__law_refused_by_any ?c__law_refused_by_any ?k__law_refused_by_any ?a__law_wide ?l__law_wide ?c__law_wide ?k__law_wide ?a__law_wide_good ?l__law_wide_good ?c__law_wide_good ?k__law_wide_good ?a_law ?l_law ?c_law ?k_law ?z_ValueError ?z_all ?z_bool ?z_int ?z_isinstance ?z_len ?z_list ?z_max ?z_range ?z_reversed ?z_tuple ?m_AskError ?m_BadHouse ?m_BadWord ?x_BadHouse ?ga_BadHouse ?hk_BadHouse ?cl_BadHouse ?ca_BadHouse ?mo_BadHouse ?mb_BadHouse ?e_BadHouse ?v_BadHouse ?ee_BadHouse ?k_BadHouse_AskError ?k_BadHouse_BadHouse ?k_BadHouse_BadWord ?x_BadWord ?ga_BadWord ?hk_BadWord ?cl_BadWord ?ca_BadWord ?mo_BadWord ?mb_BadWord ?e_BadWord ?v_BadWord ?ee_BadWord ?k_BadWord_AskError ?k_BadWord_BadHouse ?k_BadWord_BadWord ?gs ?tk
    (case a_is_word => k_is)
    (case l_is_word => k_is)
    (case c_is_word => k_is)
    (case k_is_word => k_is)
    (case a_check_word => k_is)
    (case l_check_word => k_is)
    (case c_check_word => k_is)
    (case k_check_word => k_is)
    (case a_trail => k_is)
    (case l_trail => k_is)
    (case c_trail => k_is)
    (case k_trail => k_is)
    (case a_room_behind => k_is)
    (case l_room_behind => k_is)
    (case c_room_behind => k_is)
    (case k_room_behind => k_is)
    (case a_check_as_many_letters => k_is)
    (case l_check_as_many_letters => k_is)
    (case c_check_as_many_letters => k_is)
    (case k_check_as_many_letters => k_is)
    (case a_steps_from => k_is)
    (case l_steps_from => k_is)
    (case c_steps_from => k_is)
    (case k_steps_from => k_is)
    (case a_word_to => k_is)
    (case l_word_to => k_is)
    (case c_word_to => k_is)
    (case k_word_to => k_is)
    (case a_least_word_apart => k_is)
    (case l_least_word_apart => k_is)
    (case c_least_word_apart => k_is)
    (case k_least_word_apart => k_is)
    (case a_difference => k_is)
    (case l_difference => k_is)
    (case c_difference => k_is)
    (case k_difference => k_is)
    (case a_says_difference => k_is)
    (case l_says_difference => k_is)
    (case c_says_difference => k_is)
    (case k_says_difference => k_is)
    (case a__law_cell => k_is)
    (case l__law_cell => k_is)
    (case c__law_cell => k_is)
    (case k__law_cell => k_is)
    (case a__law_whole => k_is)
    (case l__law_whole => k_is)
    (case c__law_whole => k_is)
    (case k__law_whole => k_is)
    (case a__law_big => k_is)
    (case l__law_big => k_is)
    (case c__law_big => k_is)
    (case k__law_big => k_is)
    (case a__law_mark => k_is)
    (case l__law_mark => k_is)
    (case c__law_mark => k_is)
    (case k__law_mark => k_is)
    (case a__law_says => k_is)
    (case l__law_says => k_is)
    (case c__law_says => k_is)
    (case k__law_says => k_is)
    (case a__law_is_word => k_is)
    (case l__law_is_word => k_is)
    (case c__law_is_word => k_is)
    (case k__law_is_word => k_is)
    (case a__law_doubled => k_is)
    (case l__law_doubled => k_is)
    (case c__law_doubled => k_is)
    (case k__law_doubled => k_is)
    (case a__law_order => k_is)
    (case l__law_order => k_is)
    (case c__law_order => k_is)
    (case k__law_order => k_is)
    (case a__law_renumbered => k_is)
    (case l__law_renumbered => k_is)
    (case c__law_renumbered => k_is)
    (case k__law_renumbered => k_is)
    (case a__law_another => k_is)
    (case l__law_another => k_is)
    (case c__law_another => k_is)
    (case k__law_another => k_is)
    (case a__law_pairs => k_is)
    (case l__law_pairs => k_is)
    (case c__law_pairs => k_is)
    (case k__law_pairs => k_is)
    (case a__law_unlike_words => k_is)
    (case l__law_unlike_words => k_is)
    (case c__law_unlike_words => k_is)
    (case k__law_unlike_words => k_is)
    (case a__law_first_unlike => k_is)
    (case l__law_first_unlike => k_is)
    (case c__law_first_unlike => k_is)
    (case k__law_first_unlike => k_is)
    (case a__law_put => k_is)
    (case l__law_put => k_is)
    (case c__law_put => k_is)
    (case k__law_put => k_is)
    (case a__law_beside => k_is)
    (case l__law_beside => k_is)
    (case c__law_beside => k_is)
    (case k__law_beside => k_is)
    (case a__law_refused => k_is)
    (case l__law_refused => k_is)
    (case c__law_refused => k_is)
    (case k__law_refused => k_is)
    (case a__law_refused_by_any => k_is)
    (case l__law_refused_by_any => k_is)
    (case c__law_refused_by_any => k_is)
    (case k__law_refused_by_any => k_is)
    (case a__law_wide => k_is)
    (case l__law_wide => k_is)
    (case c__law_wide => k_is)
    (case k__law_wide => k_is)
    (case a__law_wide_good => k_is)
    (case l__law_wide_good => k_is)
    (case c__law_wide_good => k_is)
    (case k__law_wide_good => k_is)
    (case a_law => k_is)
    (case l_law => k_is)
    (case c_law => k_is)
    (case k_law => k_is)
    (case z_ValueError => k_is)
    (case z_all => k_is)
    (case z_bool => k_is)
    (case z_int => k_is)
    (case z_isinstance => k_is)
    (case z_len => k_is)
    (case z_list => k_is)
    (case z_max => k_is)
    (case z_range => k_is)
    (case z_reversed => k_is)
    (case z_tuple => k_is)
    (case m_AskError => k_is)
    (case m_BadHouse => k_is)
    (case m_BadWord => k_is)
    (case x_BadHouse => k_exc)
    (case ga_BadHouse => k_is)
    (case hk_BadHouse => k_is)
    (case cl_BadHouse => k_is)
    (case ca_BadHouse => k_is)
    (case mo_BadHouse => k_is)
    (case mb_BadHouse => k_is)
    (case e_BadHouse => kts_exm)
    (case v_BadHouse => kit_is)
    (case ee_BadHouse => kts_exm)
    (case k_BadHouse_AskError => kit_is)
    (case k_BadHouse_BadHouse => kit_is)
    (case k_BadHouse_BadWord => kit_is)
    (case x_BadWord => k_exc)
    (case ga_BadWord => k_is)
    (case hk_BadWord => k_is)
    (case cl_BadWord => k_is)
    (case ca_BadWord => k_is)
    (case mo_BadWord => k_is)
    (case mb_BadWord => k_is)
    (case e_BadWord => kts_exm)
    (case v_BadWord => kit_is)
    (case ee_BadWord => kts_exm)
    (case k_BadWord_AskError => kit_is)
    (case k_BadWord_BadHouse => kit_is)
    (case k_BadWord_BadWord => kit_is)
    (case gs => k_is)
    (case tk => k_is)
