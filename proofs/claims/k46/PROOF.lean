import PyProof.Rows.All
import Wide.All
import OpenK.AllK
import Wide.FinOn
import Lean
import PyProof.EqAt
import PyProof.EqKinds
import PyProof.TupleCall
import KE.KRevIter
import PyProof.ListRange
import PyProof.TupleOfGen
import PyProof.Draws
import PyProof.EnumMake
import PyProof.EnumFor
import PyProof.NeKinds
import KE.KDictList
import PyProof.Rows.TupDisplay
import PyProof.ZipIter
import PyProof.Rows.ZipGen
import KE.KItemsList
import PyProof.Rows.SumAny
import PyProof.StrWalks
import PyProof.StrCalls
import PyProof.StrCalls3
import PyProof.StrLawsFirst
import PyProof.StrLawsIn
import PyProof.SliceStr2
import PyProof.StrBlockI
import PyProof.Rows.StrWeight2
import PyProof.ListNew
import PyProof.DictRoadsH
import PyProof.WalkInts
import PyProof.Rows.MinMaxN
import KE.KDictLaws
import PyProof.StrCalls2
import PyProof.StrLawsChain
import KE.KIntText
import KE.KxText
import KE.KMinKey
import KE.KPairComp
import PyProof.MaxThree
import PyProof.DictValues
import PySem.Challenge.RW_guessroom_k46_whole_texts_of_houses
set_option Elab.async false
set_option linter.all false
set_option maxRecDepth 100000
namespace L2
open PySem PySem.Spec PyProof.Rows
abbrev Key := Sum Int Str
def keyIs : Key -> Value -> Bool
  | .inl k, v => Value.isInt k v
  | .inr x, v => Value.isStrOf x v
def keyH (w : World) : Key -> Int
  | .inl k => hashInt k
  | .inr x => hashStr w x
theorem keyIs_shape : ∀ {k : Key} {v : Value}, keyIs k v = true -> (∃ i t, k = Sum.inl i /\ v = Value.int i t) \/ (∃ x t, k = Sum.inr x /\ v = Value.str x t)
  | .inl i, v, h => by
    obtain ⟨t, e⟩ := Value.isInt_shape (k := i) (v := v) h
    exact .inl ⟨i, t, rfl, e⟩
  | .inr x, v, h => by
    obtain ⟨t, e⟩ := Value.isStrOf_shape (x := x) (v := v) h
    exact .inr ⟨x, t, rfl, e⟩
theorem key_ll (a b : Int) : decide ((Sum.inl a : Key) = Sum.inl b) = (a == b) := by
  by_cases e : a = b
  . subst e; simp
  . have h : ¬ (Sum.inl a : Key) = Sum.inl b := fun q => e (Sum.inl.inj q)
    rw [decide_eq_false h]
    exact (beq_eq_false_iff_ne.mpr e).symm
theorem key_rr (a b : Str) : decide ((Sum.inr a : Key) = Sum.inr b) = decide (a = b) := by
  by_cases e : a = b
  . subst e; simp
  . have h : ¬ (Sum.inr a : Key) = Sum.inr b := fun q => e (Sum.inr.inj q)
    rw [decide_eq_false h, decide_eq_false e]
theorem key_lr (a : Int) (b : Str) : decide ((Sum.inl a : Key) = Sum.inr b) = false := decide_eq_false (fun q => nomatch q)
theorem key_rl (a : Str) (b : Int) : decide ((Sum.inr a : Key) = Sum.inl b) = false := decide_eq_false (fun q => nomatch q)
def mixKind (prog : Program) (w : World) : PySem.KeyKind prog w Key where
  is := keyIs
  hash := keyH w
  inj := fun v a b ha hb => by
    rcases keyIs_shape ha with ⟨i, t, rfl, rfl⟩ | ⟨x, t, rfl, rfl⟩
    . rcases keyIs_shape hb with ⟨j, u, rfl, e⟩ | ⟨y, u, rfl, e⟩
      . injection e with e1 _; rw [e1]
      . exact nomatch e
    . rcases keyIs_shape hb with ⟨j, u, rfl, e⟩ | ⟨y, u, rfl, e⟩
      . exact nomatch e
      . injection e with e1 _; rw [e1]
  byValue := fun k v h => by
    rcases keyIs_shape h with ⟨i, t, rfl, rfl⟩ | ⟨x, t, rfl, rfl⟩ <;> rfl
  pyHash := fun hv h => by
    rcases keyIs_shape hv with ⟨i, t, rfl, rfl⟩ | ⟨x, t, rfl, rfl⟩
    . exact wpAny_pyHash_int h
    . exact wpAny_pyHash_str h
  eqBool := fun hu hv h => by
    rcases keyIs_shape hu with ⟨i, t, rfl, rfl⟩ | ⟨x, t, rfl, rfl⟩
    . rcases keyIs_shape hv with ⟨j, u, rfl, rfl⟩ | ⟨y, u, rfl, rfl⟩
      . rw [key_ll] at h; exact wpAny_eqBool_int h
      . rw [key_lr] at h; exact SeqAt.EqAt.int_str i t y u _ _ _ _ h
    . rcases keyIs_shape hv with ⟨j, u, rfl, rfl⟩ | ⟨y, u, rfl, rfl⟩
      . rw [key_rl] at h; exact SeqAt.EqAt.str_int x t j u _ _ _ _ h
      . rw [key_rr] at h; exact wpAny_eqBool_str h
  «strs» := fun k x t v h => by
    rcases keyIs_shape h with ⟨i, u, rfl, e⟩ | ⟨y, u, rfl, e⟩
    . exact nomatch e
    . injection e with e1 _
      subst e1
      cases v <;> rfl
end L2
namespace L2
open PySem PySem.Spec PyProof.Rows
inductive V where
  | non | bl (b : Bool) | int (i : Int) | str (x : Str) | byt (b : Array UInt8) | flt (b : UInt64) | ref (a : Addr) | ty (n : String)
  deriving DecidableEq
def RelV : V -> Value -> Prop
  | .non, u => u = Value.none
  | .bl b, u => u = Value.bool b
  | .int i, u => ∃ t, u = Value.int i t
  | .str x, u => ∃ t, u = Value.str x t
  | .byt b, u => ∃ t, u = Value.bytes b t
  | .flt b, u => ∃ t, u = Value.float b t
  | .ref a, u => u = Value.ref a
  | .ty n, u => u = Value.type n
abbrev Vals : List V -> List Value -> Prop := Paired RelV
theorem Vals.length {xs : List V} {us : List Value} (r : Vals xs us) : xs.length = us.length := Paired.length r
theorem Vals.get : ∀ {xs : List V} {us : List Value} {i : Nat} {x : V}, Vals xs us -> xs[i]? = some x -> ∃ u, us[i]? = some u /\ RelV x u
  | _, _, _, _, .nil, e => by simp at e
  | _, _, 0, _, .cons r _, e => by simp at e; subst e; exact ⟨_, rfl, r⟩
  | _, _, i + 1, x, .cons _ t, e => by
    obtain ⟨u, h1, h2⟩ := Vals.get (i := i) (x := x) t (by simpa using e)
    exact ⟨u, by simpa using h1, h2⟩
theorem Vals.set {x : V} {u : Value} (r : RelV x u) : ∀ {xs : List V} {us : List Value} (i : Nat), Vals xs us -> Vals (xs.set i x) (us.set i u)
  | _, _, _, .nil => .nil
  | _, _, 0, .cons _ t => .cons r t
  | _, _, i + 1, .cons q t => .cons q (Vals.set r i t)
theorem Vals.append : ∀ {xs ys : List V} {us ws : List Value}, Vals xs us -> Vals ys ws -> Vals (xs ++ ys) (us ++ ws)
  | _, _, _, _, .nil, s => s
  | _, _, _, _, .cons r t, s => .cons r (Vals.append t s)
theorem Vals.take : ∀ {xs : List V} {us : List Value} (n : Nat), Vals xs us -> Vals (xs.take n) (us.take n)
  | _, _, 0, _ => .nil
  | _, _, _ + 1, .nil => .nil
  | _, _, n + 1, .cons r t => .cons r (Vals.take n t)
theorem Vals.drop : ∀ {xs : List V} {us : List Value} (n : Nat), Vals xs us -> Vals (xs.drop n) (us.drop n)
  | _, _, 0, r => r
  | _, _, _ + 1, .nil => .nil
  | _, _, n + 1, .cons _ t => Vals.drop n t
def RelO : Option V -> Option Value -> Prop
  | some v, some u => RelV v u
  | none, none => True
  | _, _ => False
def KV {κ : Type} : List (κ × V) -> List (κ × Value) -> Prop := Paired fun (p : κ × V) (q : κ × Value) => p.1 = q.1 /\ RelV p.2 q.2
def kV : Key -> V
  | .inl i => .int i
  | .inr x => .str x
inductive HO where
  /-- a list -/
  | lst (xs : List V)
  /-- a tuple (never changes) -/
  | tup (xs : List V)
  /-- a dict whose keys are ints and texts; one whose keys are tuples of ints and texts (the empty one is both) -/
  | dK (kvs : List (Key × V)) | dT (kvs : List (List Key × V))
  /-- a set of ints: its members, its size -/
  | set (S : Int -> Bool) (n : Nat)
  /-- an instance of the class at C, its dict at dx, its attributes -/
  | ins (C dx : Addr) (fs : List (Str × V))
  /-- the dict of the instance at x -/
  | own (x : Addr)
  /-- the dict of an exception -/
  | xd (fs : List (Str × V))
  /-- a bound method, f of x -/
  | met (f x : Addr)
  /-- a range object lo, lo + 1, .. below hi -/
  | rng (lo hi : Int)
  /-- a thing that is known to the object (the script; a dict while a loop walks it): read, never written while it is so -/
  | frz (o : Obj) (u : HO)
  /-- a code object's table -/
  | tbl (ps : Array Value)
  /-- any other thing, by what is true of its one object (a def of one's own: SetO a S n := HO.ext fun h => ..) -/
  | ext (φ : Heap -> Prop)
abbrev Hp := Addr -> Option HO
def upd (H : Hp) (a : Addr) (o : HO) : Hp := fun b => if b = a then some o else H b
theorem upd_same {H : Hp} {a : Addr} {o : HO} : upd H a o a = some o := by unfold upd; rw [if_pos rfl]
theorem upd_ne {H : Hp} {a b : Addr} {o : HO} (h : b ≠ a) : upd H a o b = H b := by unfold upd; rw [if_neg h]
theorem ne_of_none {H : Hp} {a b : Addr} {o : HO} (h : H a = some o) (h' : H b = none) : a ≠ b := by
  intro e; subst e; rw [h] at h'; cases h'
section
variable (P : Program) (w : World)
def ObjOk (H : Hp) (h : Heap) (a : Addr) : HO -> Prop
  | .lst xs => xs.length <= sizeLine /\ ∃ (its : List Value) (n : Nat), Vals xs its /\ h.get? a = some { cls := .type "list", data := .seq its.toArray n }
  | .tup xs => xs.length <= sizeLine /\ ∃ its : List Value, Vals xs its /\ IsTup h a its.toArray
  | .dK kvs => kvs.length <= sizeLine /\ (a == sysModules) = false /\ ∃ vs, KV kvs vs /\ h.DictOf (mixKind P w) a vs
  | .dT kvs => kvs.length <= sizeLine /\ (a == sysModules) = false /\ ∃ xs : List (List Key × Addr × Value),
      Paired (fun (p : List Key × V) (q : List Key × Addr × Value) => p.1 = q.1 /\ H q.2.1 = some (.tup (p.1.map kV)) /\ RelV p.2 q.2.2) kvs xs /\
      ∃ o es ep, h.get? a = some o /\ o.ExactDict /\ o.data = .dict es ep /\ es.toList = xs.map (entryOfKey (tupleKind (mixKind P w))) /\ (xs.map (·.1)).Nodup
  | .set S n => h.SetOf (intKind P w) a S n
  | .ins C dx fs => H dx = some (.own a) /\ fs.length <= 1000 /\ dx ≠ a /\ h.get? a = some (PySem.W.instObj C dx) /\
      ∃ mA, h.Ns1 dx mA /\ (∀ f, RelO (fs.lookup f) (mA f)) /\ PySem.Within mA (fs.map (·.1))
  | .own _ => ∃ o, h.get? a = some o
  | .xd fs => ∃ mA, h.Ns1 a mA /\ ∀ f, RelO (fs.lookup f) (mA f)
  | .rng lo hi => ∃ t u v, h.get? a = some { cls := .type "range", data := .fields #[.int lo t, .int hi u, .int 1 v] }
  | .frz o u => h.get? a = some o /\ ObjOk H h a u
  | .tbl ps => h.get? a = some { cls := .none, data := .fields ps }
  | .met f x => h.get? a = some (PySem.W.methodObj (.ref f) (.ref x))
  | .ext φ => φ h /\ (∃ o, h.get? a = some o) /\ ∀ h1 h2 : Heap, φ h1 -> (∀ o, h1.get? a = some o -> h2.get? a = some o) -> φ h2
def HOk (H : Hp) (h : Heap) : Prop := ∀ a o, H a = some o -> ObjOk P w H h a o
end
section
variable {P : Program} {w : World} {H H' : Hp} {h h' : Heap} {a : Addr} {o : HO}
theorem ObjOk.lt (x : ObjOk P w H h a o) : a < h.objs.size := by
  cases o with
  | lst xs => obtain ⟨_, _, _, _, e⟩ := x; exact Heap.lt_size e
  | tup xs => obtain ⟨_, _, _, p⟩ := x; exact p.lt
  | dK kvs => obtain ⟨_, _, _, _, o, _, _, e, _⟩ := x; exact Heap.lt_size e
  | dT kvs => obtain ⟨_, _, _, _, o, _, _, e, _⟩ := x; exact Heap.lt_size e
  | set S n => obtain ⟨o, _, _, _, e, _⟩ := x; exact Heap.lt_size e
  | ins C dx fs => obtain ⟨_, _, _, e, _⟩ := x; exact Heap.lt_size e
  | own y => obtain ⟨_, e⟩ := x; exact Heap.lt_size e
  | xd fs => obtain ⟨_, ⟨_, _, _, e, _⟩, _⟩ := x; exact Heap.lt_size e
  | rng lo hi => obtain ⟨_, _, _, e⟩ := x; exact Heap.lt_size e
  | frz ob u => obtain ⟨e, _⟩ := x; exact Heap.lt_size e
  | tbl ps => exact Heap.lt_size (show h.get? a = some _ from x)
  | met f y => exact Heap.lt_size (show h.get? a = some _ from x)
  | ext φ => obtain ⟨_, ⟨_, e⟩, _⟩ := x; exact Heap.lt_size e
theorem Paired.mapP {α β : Type} {F G : α -> β -> Prop} : ∀ {l₁ : List α} {l₂ : List β}, Paired F l₁ l₂ -> (∀ a b, F a b -> G a b) -> Paired G l₁ l₂
  | _, _, .nil, _ => .nil
  | _, _, .cons r t, f => .cons (f _ _ r) (Paired.mapP t f)
theorem ObjOk.stay (x : ObjOk P w H h a o) (k : ∀ b u, (b = a \/ H b = some (.own a)) -> h.get? b = some u -> h'.get? b = some u)
    (ho : ∀ b, H b = some (.own a) -> H' b = some (.own a)) (ht : ∀ b xs, H b = some (.tup xs) -> H' b = some (.tup xs)) : ObjOk P w H' h' a o := by
  induction o with
  | lst xs => obtain ⟨z, its, n, r, e⟩ := x; exact ⟨z, its, n, r, k _ _ (.inl rfl) e⟩
  | tup xs => obtain ⟨z, its, r, ob, e, c⟩ := x; exact ⟨z, its, r, ob, k _ _ (.inl rfl) e, c⟩
  | dK kvs => obtain ⟨z, y, vs, r, ob, es, ep, e, c⟩ := x; exact ⟨z, y, vs, r, ob, es, ep, k _ _ (.inl rfl) e, c⟩
  | dT kvs =>
    obtain ⟨z, y, xs, r, ob, es, ep, e, c⟩ := x
    exact ⟨z, y, xs, Paired.mapP r fun p q z => ⟨z.1, ht _ _ z.2.1, z.2.2⟩, ob, es, ep, k _ _ (.inl rfl) e, c⟩
  | set S n => obtain ⟨ob, es, ep, t, e, c⟩ := x; exact ⟨ob, es, ep, t, k _ _ (.inl rfl) e, c⟩
  | ins C dx fs =>
    obtain ⟨d, z, ne, e, mA, ⟨od, es, ep, e2, c⟩, r⟩ := x
    exact ⟨ho _ d, z, ne, k _ _ (.inl rfl) e, mA, ⟨od, es, ep, k _ _ (.inr d) e2, c⟩, r⟩
  | own y => obtain ⟨ob, e⟩ := x; exact ⟨ob, k _ _ (.inl rfl) e⟩
  | xd fs => obtain ⟨mA, ⟨od, es, ep, e, c⟩, r⟩ := x; exact ⟨mA, ⟨od, es, ep, k _ _ (.inl rfl) e, c⟩, r⟩
  | rng lo hi => obtain ⟨t, u, v, e⟩ := x; exact ⟨t, u, v, k _ _ (.inl rfl) e⟩
  | frz ob u ih => obtain ⟨e, q⟩ := x; exact ⟨k _ _ (.inl rfl) e, ih q⟩
  | tbl ps =>
    have e : h.get? a = some { cls := .none, data := .fields ps } := x
    show h'.get? a = some { cls := .none, data := .fields ps }
    exact k a _ (.inl rfl) e
  | met f y =>
    have e : h.get? a = some (PySem.W.methodObj (.ref f) (.ref y)) := x
    show h'.get? a = some (PySem.W.methodObj (.ref f) (.ref y))
    exact k a _ (.inl rfl) e
  | ext φ => obtain ⟨p, ⟨o, e⟩, st⟩ := x; exact ⟨st _ _ p fun o q => k _ _ (.inl rfl) q, ⟨o, k _ _ (.inl rfl) e⟩, st⟩
theorem HOk.lt (x : HOk P w H h) (e : H a = some o) : a < h.objs.size := (x a o e).lt
theorem HOk.fresh (x : HOk P w H h) (e : h.objs.size <= a) : H a = none := by
  cases q : H a with
  | none => rfl
  | some u => exact absurd (Nat.lt_of_lt_of_le (x.lt q) e) (Nat.lt_irrefl _)
theorem HOk.kept (x : HOk P w H h) (k : ∀ b u, h.get? b = some u -> h'.get? b = some u) : HOk P w H h' := fun a o e =>
  (x a o e).stay (fun b u _ q => k b u q) (fun _ q => q) fun _ _ q => q
theorem HOk.laid (x : HOk P w H h) (k : ∀ b u, h.get? b = some u -> h'.get? b = some u) (hp : h.objs.size <= a) (new : ObjOk P w (upd H a o) h' a o) : HOk P w (upd H a o) h' := fun b u e => by
  have hn := x.fresh hp
  by_cases hb : b = a
  . subst hb; rw [upd_same] at e; cases e; exact new
  . rw [upd_ne hb] at e
    exact (x b u e).stay (fun c v _ q => k c v q) (fun c q => by rw [upd_ne (ne_of_none q hn)]; exact q) fun c xs q => by rw [upd_ne (ne_of_none q hn)]; exact q
end
def Rd (H : Hp) (a : Addr) (u : HO) : Prop := H a = some u \/ ∃ o, H a = some (.frz o u)
theorem Rd.ok {P : Program} {w : World} {H : Hp} {h : Heap} {a : Addr} {u : HO} (r : Rd H a u) (x : HOk P w H h) : ObjOk P w H h a u := by
  rcases r with r | ⟨o, r⟩
  . exact x a u r
  . obtain ⟨_, q⟩ := x a _ r
    exact q
def Mut : Option HO -> Prop
  | some (.lst _) => True
  | some (.dK _) => True
  | some (.dT _) => True
  | some (.set _ _) => True
  | some (.ins _ _ _) => True
  | some (.ext _) => True
  | _ => False
section
variable {P : Program} {w : World} {H : Hp} {h h' : Heap} {x e : Addr} {o' : HO}
theorem HOk.write (ok : HOk P w H h) (mu : Mut (H x)) (he : e = x \/ H e = some (.own x)) (k : ∀ b u, b ≠ e -> h.get? b = some u -> h'.get? b = some u) (heo : ∃ u, h'.get? e = some u)
    (new : ObjOk P w (upd H x o') h' x o') : HOk P w (upd H x o') h' := fun b u q => by
  have nown : ∀ c y, H c = some (.own y) -> c ≠ x := fun c y r z => by subst z; rw [r] at mu; exact mu
  have ntup : ∀ c xs, H c = some (.tup xs) -> c ≠ x := fun c xs r z => by subst z; rw [r] at mu; exact mu
  by_cases hb : b = x
  . subst hb; rw [upd_same] at q; cases q; exact new
  . rw [upd_ne hb] at q
    by_cases hbe : b = e
    . have q' : H b = some (.own x) := by
        rcases he with z | z
        . exact absurd (hbe.trans z) hb
        . rw [hbe]; exact z
      rw [q] at q'; cases q'
      obtain ⟨v, hv⟩ := heo
      exact ⟨v, by rw [hbe]; exact hv⟩
    . refine (ok b u q).stay (fun c v hc r => k c v ?_ r) (fun c r => by rw [upd_ne (nown c b r)]; exact r) fun c xs r => by rw [upd_ne (ntup c xs r)]; exact r
      rcases hc with rfl | hc
      . exact hbe
      . rintro rfl
        rcases he with z | z
        . exact nown c b hc z
        . rw [hc] at z; cases z; exact hb rfl
end
structure Un (fs ex : List Addr) (H H' : Hp) (h h' : Heap) : Prop where
  keep : ∀ b o, h.get? b = some o -> H b = none -> b ∉ fs -> b ∉ ex -> h'.get? b = some o
  slot : ∀ b o, h.get? b = some o -> H b = none -> b ∈ fs -> b ∉ ex -> ∃ sl, h'.get? b = some { o with slots := sl }
  free : ∀ b o, h.get? b = some o -> H b = none -> b ∉ ex -> H' b = none
  there : ∀ b o, h.get? b = some o -> b ∉ ex -> ∃ o', h'.get? b = some o'
  tups : ∀ b xs, H b = some (.tup xs) -> H' b = some (.tup xs)
  frzs : ∀ b o u, H b = some (.frz o u) -> H' b = some (.frz o u)
  tbls : ∀ b ps, H b = some (.tbl ps) -> ∃ more, H' b = some (.tbl (ps ++ more))
section
variable {fs fs' ex ex' : List Addr} {H H1 H2 : Hp} {h h1 h2 h' : Heap} {a x e : Addr} {o : HO}
theorem Un.any (u : Un fs ex H H1 h h1) {b : Addr} {ob : Obj} (q : h.get? b = some ob) (n : H b = none) (hx : b ∉ ex) : ∃ sl, h1.get? b = some { ob with slots := sl } := by
  by_cases hb : b ∈ fs
  . exact u.slot b ob q n hb hx
  . exact ⟨ob.slots, u.keep b ob q n hb hx⟩
theorem Un.kept (k : ∀ b u, h.get? b = some u -> h'.get? b = some u) : Un fs ex H H h h' :=
  ⟨fun b ob q _ _ _ => k b ob q, fun b ob q _ _ _ => ⟨ob.slots, k b ob q⟩, fun _ _ _ n _ => n, fun b ob q _ => ⟨ob, k b ob q⟩, fun _ _ q => q, fun _ _ _ q => q, fun _ ps q => ⟨#[], by rw [q]; simp⟩⟩
theorem Un.refl : Un fs ex H H h h := Un.kept fun _ _ q => q
theorem Un.laid (k : ∀ b u, h.get? b = some u -> h'.get? b = some u) (hp : h.objs.size <= a) (hn : H a = none) : Un fs ex H (upd H a o) h h' where
  keep := fun b u q _ _ _ => k b u q
  slot := fun b u q _ _ _ => ⟨u.slots, k b u q⟩
  free := fun b u q n _ => by rw [upd_ne (Nat.ne_of_lt (Nat.lt_of_lt_of_le (Heap.lt_size q) hp))]; exact n
  there := fun b u q _ => ⟨u, k b u q⟩
  tups := fun b xs q => by rw [upd_ne (ne_of_none q hn)]; exact q
  frzs := fun b u xs q => by rw [upd_ne (ne_of_none q hn)]; exact q
  tbls := fun b ps q => ⟨#[], by rw [upd_ne (ne_of_none q hn), q]; simp⟩
theorem Un.write (mu : Mut (H x)) (he : e = x \/ H e = some (.own x)) (k : ∀ b u, b ≠ e -> h.get? b = some u -> h'.get? b = some u) (heo : ∃ u, h'.get? e = some u) : Un fs ex H (upd H x o) h h' := by
  have hx : ∀ b, H b = none -> b ≠ x := fun b n z => by subst z; rw [n] at mu; exact mu
  have hb : ∀ b, H b = none -> b ≠ e := fun b n z => by
    subst z
    rcases he with r | r
    . exact hx b n r
    . rw [n] at r; cases r
  have hm : ∀ b u, H b = some u -> ¬ Mut (some u) -> b ≠ x := fun b u q nm z => by subst z; rw [q] at mu; exact nm mu
  refine ⟨fun b u q n _ _ => k b u (hb b n) q, fun b u q n _ _ => ⟨u.slots, k b u (hb b n) q⟩, fun b u q n _ => by rw [upd_ne (hx b n)]; exact n, fun b u q _ => ?_,
    fun b xs q => by rw [upd_ne (hm b _ q fun z => z)]; exact q, fun b u xs q => by rw [upd_ne (hm b _ q fun z => z)]; exact q, fun b ps q => ⟨#[], by rw [upd_ne (hm b _ q fun z => z), q]; simp⟩⟩
  by_cases hbe : b = e
  . subst hbe; exact heo
  . exact ⟨u, k b u hbe q⟩
end
def trk (h : Heap) (H : Hp) : List Addr := (List.range h.objs.size).filter fun a => (H a).isSome
def hidT (h : Heap) (H : Hp) : Heap := PySem.W.hideAll h (trk h H)
theorem hidT_size (h : Heap) (H : Hp) : (hidT h H).objs.size = h.objs.size := PySem.W.hideAll_size _ _
theorem hidT_get {h : Heap} {H : Hp} {b : Addr} {o : Obj} (e : h.get? b = some o) (n : H b = none) : (hidT h H).get? b = some o :=
  PySem.W.hideAll_get _ e fun hm => by
    have q : (H b).isSome = true := (List.mem_filter.mp hm).2
    rw [n] at q; simp at q
theorem of_hidT {h : Heap} {H : Hp} {b : Addr} {o : Obj} (e : (hidT h H).get? b = some o) : h.get? b = some o /\ H b = none := by
  have e' : h.get? b = some o := PySem.W.of_hideAll (trk h H) e
  refine ⟨e', ?_⟩
  cases q : H b with
  | none => rfl
  | some x =>
    have hm : b ∈ trk h H := List.mem_filter.mpr ⟨List.mem_range.mpr (Heap.lt_size e'), by simp [q]⟩
    have z : (hidT h H).get? b = none := PySem.W.hideAll_none (trk h H) hm
    rw [z] at e; cases e
def allNews (g h : Heap) (L : Addr) : List (Addr × Obj) := (List.range h.objs.size).filterMap fun a => if a = L \/ (g.get? a).isSome = true then none else (h.get? a).map fun o => (a, o)
def rest (g h : Heap) (L d : Addr) : List (Addr × Obj) := (allNews g h L).filter fun p => decide (p.1 ≠ d)
end L2
namespace L2
open PySem PySem.Spec PyProof.Rows
structure Mod (K : PySem.W.Frag) (mg : Str -> Option Value) (base : Heap) : Prop where
  kin : K.In base
  glob : base.Ns mainGlobals mg
  blt : ∃ mb, base.Ns builtinsNs mb /\ ∀ x : Str, x ≠ "__name__" -> mb x = bootBuiltins x
  nolimit : base.NoLimit
structure Cx where
  prog : Program
  w : World
  K : PySem.W.Frag
  mg : Str -> Option Value
  base : Heap
  A : Around
  N : List Str
  s₀ : Shared
  H₀ : Hp
  env : Env
  outer : List Env
  stack : List Env
  ex : List Addr
  fn : Str -> Bool
  calm : Bool
  pn : List (Addr × Obj)
  xe : Value -> Shared -> Prop
def frs (l : List Env) : List Addr := l.filterMap (·.frame)
abbrev Cx.fs (X : Cx) : List Addr := frs X.outer
def Vis (sc : Scope) (x : Str) : Prop := sc.names.lookup x = some .local \/ sc.names.lookup x = some .cell \/ sc.names.lookup x = some .free
def Loc (sc : Scope) (x : Str) : Prop := sc.names.lookup x = some .local \/ sc.names.lookup x = some .cell
def Look (env : Env) (h : Heap) (m : Str -> Option Value) (x : Str) (u : Value) : Prop :=
  (env.kindOf x = some .local /\ m x = some u) \/ ((env.kindOf x = some .cell \/ env.kindOf x = some .free) /\ ∃ c, env.cells.lookup x = some c /\ h.IsCell c (some u))
structure Cx.Ok (X : Cx) : Prop where
  mod : Mod X.K X.mg X.base
  kind : X.env.scope.kind = .function
  glob : X.env.globals = mainGlobals
  blt : X.env.builtins = builtinsNs
  above : X.s₀.heap.objs.size <= X.env.locals
  inj : ∀ x y c, X.env.cells.lookup x = some c -> X.env.cells.lookup y = some c -> x = y
  has : ∀ x, (X.env.kindOf x = some .cell \/ X.env.kindOf x = some .free) -> ∃ c, X.env.cells.lookup x = some c
  cab : ∀ x c, X.fn x = true -> X.env.cells.lookup x = some c -> X.s₀.heap.objs.size <= c
  hd : X.calm = true -> X.A.handled = none
  frames : X.A.frames = some X.stack
  stk : X.stack = X.outer \/ (X.stack = X.env :: X.outer /\ X.env.frame = some X.env.locals)
  exf : ∀ b ∈ X.ex, b ≠ X.env.locals /\ ∀ x c, X.env.cells.lookup x = some c -> c ≠ b
  bs : ∀ b o, X.base.get? b = some o -> X.s₀.heap.get? b = some o /\ X.H₀ b = none
  bsz : X.base.objs.size <= X.s₀.heap.objs.size
  noex : ∀ b o, X.base.get? b = some o -> b ∉ X.ex
  exfs : ∀ b ∈ X.ex, b ∉ X.fs
  funs : X.s₀.heap.FunFrames X.base X.outer
  frf : ∀ b ∈ X.fs, X.H₀ b = none
structure Inv (X : Cx) (pins : List (Addr × Obj)) (σ : List (Option V)) (H : Hp) (s : Shared) : Prop where
  ok : X.Ok
  os : s.os = X.s₀.os
  bare : AllBare s.gens
  base : Un X.fs X.ex X.H₀ H X.s₀.heap s.heap
  loc : ∃ m, s.heap.Ns X.env.locals m /\ ∀ (i : Nat) (x : Str) (v : V), X.N[i]? = some x -> σ[i]? = some (some v) -> Vis X.env.scope x -> ∃ u, RelV v u /\ Look X.env s.heap m x u
  cell : ∀ x c, X.env.cells.lookup x = some c -> ∃ v, s.heap.IsCell c v
  free : H X.env.locals = none
  freeC : ∀ x c, X.env.cells.lookup x = some c -> H c = none
  pin : ∀ p ∈ X.pn ++ pins, s.heap.get? p.1 = some p.2 /\ H p.1 = none /\ p.1 ≠ X.env.locals /\ p.1 ∉ X.fs /\ ∀ v, p.2.data ≠ .cell v
  hok : HOk X.prog X.w H s.heap
  len : σ.length = X.N.length
section
variable {X : Cx} {pins : List (Addr × Obj)} {σ : List (Option V)} {H H' : Hp} {s : Shared} {h' : Heap}
theorem Cx.Ok.nofr (ok : X.Ok) {b : Addr} {o : Obj} (e : X.base.get? b = some o) : b ∉ X.fs := fun hb => by
  have := (ok.funs.mem hb).1
  rw [e] at this; cases this
theorem Inv.bs (I : Inv X pins σ H s) : ∀ b o, X.base.get? b = some o -> s.heap.get? b = some o /\ H b = none := fun b o e =>
  ⟨I.base.keep b o (I.ok.bs b o e).1 (I.ok.bs b o e).2 (I.ok.nofr e) (I.ok.noex b o e), I.base.free b o (I.ok.bs b o e).1 (I.ok.bs b o e).2 (I.ok.noex b o e)⟩
theorem Inv.bk (I : Inv X pins σ H s) : ∀ b o, X.base.get? b = some o -> s.heap.get? b = some o := fun b o e => (I.bs b o e).1
theorem Inv.mod (I : Inv X pins σ H s) : Mod X.K X.mg X.base := I.ok.mod
theorem Inv.kIn (I : Inv X pins σ H s) : X.K.In s.heap := I.ok.mod.kin.keeps I.bk
theorem Inv.lt (I : Inv X pins σ H s) : X.env.locals < s.heap.objs.size := let ⟨_, hn, _⟩ := I.loc; hn.lt
theorem Inv.sz (I : Inv X pins σ H s) : X.s₀.heap.objs.size <= s.heap.objs.size := Nat.le_trans I.ok.above (Nat.le_of_lt I.lt)
theorem Inv.nofs (I : Inv X pins σ H s) {a : Addr} (h : s.heap.objs.size <= a) : a ∉ X.fs := fun hb => by
  obtain ⟨_, o, ho, _⟩ := I.ok.funs.mem hb
  exact absurd (Nat.lt_of_lt_of_le (Heap.lt_size ho) (Nat.le_trans I.sz h)) (Nat.lt_irrefl _)
theorem Inv.cne (I : Inv X pins σ H s) : ∀ x c, X.env.cells.lookup x = some c -> c ≠ X.env.locals := fun x c e z => by
  obtain ⟨v, o, ho, hd⟩ := I.cell x c e
  obtain ⟨m, ⟨o', es, ep, ho', hd', _⟩, _⟩ := I.loc
  rw [z, ho'] at ho; cases ho; rw [hd'] at hd; cases hd
theorem Inv.funs (I : Inv X pins σ H s) : s.heap.FunFrames X.base X.outer := by
  have all : ∀ (l : List Env), (∀ b ∈ frs l, b ∈ X.fs) -> X.s₀.heap.FunFrames X.base l -> s.heap.FunFrames X.base l := by
    intro l
    induction l with
    | nil => intro _ _; trivial
    | cons env r ih =>
      intro hs hl
      obtain ⟨hk, ⟨L, o, hf, hn, ho, hd⟩, hr⟩ := hl
      have hL : L ∈ X.fs := hs L (by unfold frs; rw [List.filterMap_cons, hf]; exact List.mem_cons_self)
      obtain ⟨sl, e⟩ := I.base.slot L o ho (I.ok.frf L hL) hL fun z => I.ok.exfs L z hL
      exact ⟨hk, ⟨L, _, hf, hn, e, hd⟩, ih (fun b hb => hs b (by unfold frs; rw [List.filterMap_cons, hf]; exact List.mem_cons_of_mem _ hb)) hr⟩
  exact all X.outer (fun _ hb => hb) I.ok.funs
theorem Inv.stack (I : Inv X pins σ H s) : s.heap.FunFrames X.base X.stack := by
  rcases I.ok.stk with e | ⟨e, hf⟩
  . rw [e]; exact I.funs
  . rw [e]
    obtain ⟨m, hn, _⟩ := I.loc
    refine .cons (by rw [I.ok.kind]; decide) hf hn ?_ I.funs
    exact Heap.get?_none_of_le (Nat.le_trans I.ok.bsz I.ok.above)
theorem Inv.stkSub (I : Inv X pins σ H s) : ∀ b ∈ frs X.stack, b ∈ X.env.locals :: X.fs := fun b hb => by
  rcases I.ok.stk with e | ⟨e, hf⟩
  . rw [e] at hb; exact List.mem_cons_of_mem _ hb
  . rw [e] at hb
    unfold frs at hb
    rw [List.filterMap_cons, hf] at hb
    exact hb
theorem Inv.stkFree (I : Inv X pins σ H s) : ∀ b ∈ frs X.stack, H b = none := fun b hb => by
  rcases List.mem_cons.mp (I.stkSub b hb) with e | hb
  . rw [e]; exact I.free
  . obtain ⟨_, o, ho, _⟩ := I.ok.funs.mem hb
    exact I.base.free b o ho (I.ok.frf b hb) fun z => I.ok.exfs b z hb
theorem Inv.step {g' : Array GenState} {t' : Nat} {d' : Drawn} {ch : List Addr} (I : Inv X pins σ H s)
    (hch : ∀ b ∈ ch, (b ∈ X.ex \/ X.s₀.heap.objs.size <= b) /\ b ≠ X.env.locals /\ (∀ x c, X.env.cells.lookup x = some c -> c ≠ b) /\ ∀ p ∈ X.pn ++ pins, p.1 ≠ b)
    (keep : ∀ b o, b ≠ X.env.locals -> b ∉ X.fs -> b ∉ ch -> s.heap.get? b = some o -> H b = none -> h'.get? b = some o)
    (slot : ∀ b o, b ≠ X.env.locals -> b ∈ X.fs -> b ∉ ch -> s.heap.get? b = some o -> H b = none -> ∃ sl, h'.get? b = some { o with slots := sl }) (free : ∀ b o, b ∉ ch -> s.heap.get? b = some o -> H b = none -> H' b = none)
    (there : ∀ b o, b ∉ ch -> s.heap.get? b = some o -> ∃ o', h'.get? b = some o')
    (tups : ∀ b xs, H b = some (.tup xs) -> H' b = some (.tup xs)) (frzs : ∀ b o u, H b = some (.frz o u) -> H' b = some (.frz o u)) (tbls : ∀ b ps, H b = some (.tbl ps) -> ∃ more, H' b = some (.tbl (ps ++ more)))
    (ns : ∀ m, s.heap.Ns X.env.locals m -> h'.Ns X.env.locals m) (hok : HOk X.prog X.w H' h') (hg : AllBare g') :
    Inv X pins σ H' { s with heap := h', gens := g', drawn := d', toks := t' } := by
  have neL : ∀ b o, X.s₀.heap.get? b = some o -> b ≠ X.env.locals := fun b o e => Nat.ne_of_lt (Nat.lt_of_lt_of_le (Heap.lt_size e) I.ok.above)
  have neC : ∀ b o, X.s₀.heap.get? b = some o -> b ∉ X.ex -> b ∉ ch := fun b o e hx hb => by
    rcases (hch b hb).1 with z | z
    . exact hx z
    . exact absurd (Nat.lt_of_lt_of_le (Heap.lt_size e) z) (Nat.lt_irrefl _)
  have cellK : ∀ x c, X.env.cells.lookup x = some c -> ∀ v, s.heap.IsCell c v -> h'.IsCell c v := fun x c e v ⟨o, ho, hd⟩ => by
    have nch : c ∉ ch := fun z => (hch c z).2.2.1 x c e rfl
    by_cases hc : c ∈ X.fs
    . obtain ⟨sl, q⟩ := slot c o (I.cne x c e) hc nch ho (I.freeC x c e)
      exact ⟨_, q, hd⟩
    . exact ⟨o, keep c o (I.cne x c e) hc nch ho (I.freeC x c e), hd⟩
  refine ⟨I.ok, I.os, hg, ⟨fun b o e n hb hx => ?_, fun b o e n hb hx => ?_, fun b o e n hx => ?_, fun b o e hx => ?_, fun b xs e => tups b xs (I.base.tups b xs e), fun b o xs e => frzs b o xs (I.base.frzs b o xs e), fun b ps e => ?_⟩, ?_, fun x c e => ?_, ?_, fun x c e => ?_, fun p hp => ?_, hok, I.len⟩
  . exact keep b o (neL b o e) hb (neC b o e hx) (I.base.keep b o e n hb hx) (I.base.free b o e n hx)
  . obtain ⟨sl, e1⟩ := I.base.slot b o e n hb hx
    obtain ⟨sl', e2⟩ := slot b _ (neL b o e) hb (neC b o e hx) e1 (I.base.free b o e n hx)
    exact ⟨sl', e2⟩
  . obtain ⟨o', e1⟩ := I.base.there b o e hx
    exact free b o' (neC b o e hx) e1 (I.base.free b o e n hx)
  . obtain ⟨o', e1⟩ := I.base.there b o e hx
    exact there b o' (neC b o e hx) e1
  . obtain ⟨m1, e1⟩ := I.base.tbls b ps e
    obtain ⟨m2, e2⟩ := tbls b _ e1
    exact ⟨m1 ++ m2, by rw [e2, Array.append_assoc]⟩
  . obtain ⟨m, hn, hl⟩ := I.loc
    refine ⟨m, ns m hn, fun i x v e1 e2 e3 => ?_⟩
    obtain ⟨u, r, l⟩ := hl i x v e1 e2 e3
    refine ⟨u, r, ?_⟩
    rcases l with l | ⟨k, c, e, z⟩
    . exact .inl l
    . exact .inr ⟨k, c, e, cellK x c e _ z⟩
  . obtain ⟨v, z⟩ := I.cell x c e
    exact ⟨v, cellK x c e v z⟩
  . obtain ⟨m, ⟨o, _, _, ho, _⟩, _⟩ := I.loc
    exact free _ o (fun z => (hch _ z).2.1 rfl) ho I.free
  . obtain ⟨v, o, ho, hd⟩ := I.cell x c e
    exact free c o (fun z => (hch c z).2.2.1 x c e rfl) ho (I.freeC x c e)
  . obtain ⟨e, n, ne, nf, d⟩ := I.pin p hp
    have nch : p.1 ∉ ch := fun z => (hch p.1 z).2.2.2 p hp rfl
    exact ⟨keep p.1 p.2 ne nf nch e n, free p.1 p.2 nch e n, ne, nf, d⟩
theorem Inv.un {t' : Nat} (I : Inv X pins σ H s) (u : Un X.fs [] H H' s.heap h') (hok : HOk X.prog X.w H' h') : Inv X pins σ H' { s with heap := h', toks := t' } := by
  obtain ⟨m, ⟨o, es, ep, ho, r⟩, _⟩ := id I.loc
  obtain ⟨sl, hL⟩ := u.any ho I.free (by simp)
  exact I.step (g' := s.gens) (d' := s.drawn) (ch := []) (fun _ z => nomatch z) (fun b o _ hb _ e n => u.keep b o e n hb (by simp)) (fun b o _ hb _ e n => u.slot b o e n hb (by simp)) (fun b o _ e n => u.free b o e n (by simp)) (fun b o _ e => u.there b o e (by simp)) u.tups u.frzs u.tbls (fun m' hm => by
    obtain ⟨o', es', ep', ho', r'⟩ := hm
    rw [ho] at ho'; cases ho'
    exact ⟨_, es', ep', hL, r'⟩) hok I.bare
theorem Inv.call {g' : Array GenState} {t' : Nat} {d' : Drawn} {ch : List Addr} (I : Inv X pins σ H s) (u : Un (frs X.stack) ch H H' s.heap h') (hok : HOk X.prog X.w H' h') (hg : AllBare g')
    (hch : ∀ b ∈ ch, (b ∈ X.ex \/ X.s₀.heap.objs.size <= b) /\ b ≠ X.env.locals /\ (∀ x c, X.env.cells.lookup x = some c -> c ≠ b) /\ ∀ p ∈ X.pn ++ pins, p.1 ≠ b) :
    Inv X pins σ H' { s with heap := h', gens := g', drawn := d', toks := t' } := by
  obtain ⟨m, ⟨o, es, ep, ho, r⟩, _⟩ := id I.loc
  obtain ⟨sl, hL⟩ := u.any ho I.free fun z => (hch _ z).2.1 rfl
  exact I.step (ch := ch) hch (fun b o hL hb hc e n => u.keep b o e n (fun z => (List.mem_cons.mp (I.stkSub b z)).elim hL hb) hc) (fun b o _ _ hc e n => u.any e n hc) (fun b o hc e n => u.free b o e n hc) (fun b o hc e => u.there b o e hc) u.tups u.frzs u.tbls (fun m' hm => by
    obtain ⟨o', es', ep', ho', r'⟩ := hm
    rw [ho] at ho'; cases ho'
    exact ⟨_, es', ep', hL, r'⟩) hok hg
theorem Inv.turned {t' : Nat} {it : Addr} (I : Inv X pins σ H s) (k : ∀ b o, b ≠ it -> s.heap.get? b = some o -> h'.get? b = some o) (hn : H it = none) (hL : it ≠ X.env.locals)
    (h1 : it ∈ X.ex \/ X.s₀.heap.objs.size <= it) (h2 : ∀ x c, X.env.cells.lookup x = some c -> c ≠ it) (h3 : ∀ p ∈ X.pn ++ pins, p.1 ≠ it) : Inv X pins σ H { s with heap := h', toks := t' } := by
  have nit : ∀ b u, H b = some u -> b ≠ it := fun b u e z => by rw [z, hn] at e; cases e
  refine I.step (g' := s.gens) (d' := s.drawn) (ch := [it]) (fun b hb => ?_) (fun b o _ _ hc e _ => k b o (fun z => hc (by simp [z])) e) (fun b o _ _ hc e _ => ⟨o.slots, k b o (fun z => hc (by simp [z])) e⟩) (fun _ _ _ _ n => n)
    (fun b o hc e => ⟨o, k b o (fun z => hc (by simp [z])) e⟩) (fun _ _ e => e) (fun _ _ _ e => e) (fun b ps e => ⟨#[], by rw [e]; simp⟩) (fun m hm => ?_) (fun b u e => ?_) I.bare
  . have e : b = it := by simpa using hb
    subst e
    exact ⟨h1, hL, h2, h3⟩
  . obtain ⟨o, es, ep, ho, r⟩ := hm
    exact ⟨o, es, ep, k _ o (Ne.symm hL) ho, r⟩
  . refine (I.hok b u e).stay (fun c v hc q => k c v ?_ q) (fun _ q => q) fun _ _ q => q
    rcases hc with z | z
    . rw [z]; exact nit b u e
    . exact nit c _ z
theorem Inv.tok (I : Inv X pins σ H s) (t : Nat) : Inv X pins σ H { s with toks := t } := I.un (h' := s.heap) (t' := t) Un.refl I.hok
theorem Inv.kept {t' : Nat} (I : Inv X pins σ H s) (k : ∀ b u, s.heap.get? b = some u -> h'.get? b = some u) : Inv X pins σ H { s with heap := h', toks := t' } := I.un (Un.kept k) (I.hok.kept k)
theorem Inv.laid {a : Addr} {o : HO} {t' : Nat} (I : Inv X pins σ H s) (k : ∀ b u, s.heap.get? b = some u -> h'.get? b = some u) (hp : s.heap.objs.size <= a) (new : ObjOk X.prog X.w (upd H a o) h' a o) :
    Inv X pins σ (upd H a o) { s with heap := h', toks := t' } := I.un (Un.laid k hp (I.hok.fresh hp)) (I.hok.laid k hp new)
theorem Inv.write {x e : Addr} {o : HO} {t' : Nat} (I : Inv X pins σ H s) (mu : Mut (H x)) (he : e = x \/ H e = some (.own x)) (k : ∀ b u, b ≠ e -> s.heap.get? b = some u -> h'.get? b = some u) (heo : ∃ u, h'.get? e = some u)
    (new : ObjOk X.prog X.w (upd H x o) h' x o) : Inv X pins σ (upd H x o) { s with heap := h', toks := t' } := I.un (Un.write mu he k heo) (I.hok.write mu he k heo new)
theorem Inv.pins_of {pins' : List (Addr × Obj)} (I : Inv X pins σ H s) (h : ∀ p ∈ pins', s.heap.get? p.1 = some p.2 /\ H p.1 = none /\ p.1 ≠ X.env.locals /\ p.1 ∉ X.fs /\ ∀ v, p.2.data ≠ .cell v) : Inv X pins' σ H s :=
  ⟨I.ok, I.os, I.bare, I.base, I.loc, I.cell, I.free, I.freeC, fun p hp => (List.mem_append.mp hp).elim (fun z => I.pin p (List.mem_append_left _ z)) (h p), I.hok, I.len⟩
theorem nodup_ix {N : List Str} (hN : N.Nodup) {i j : Nat} {x : Str} (a : N[i]? = some x) (b : N[j]? = some x) : i = j := by
  obtain ⟨h1, e1⟩ := List.getElem?_eq_some_iff.mp a
  obtain ⟨h2, e2⟩ := List.getElem?_eq_some_iff.mp b
  exact (List.getElem_inj hN).mp (e1.trans e2.symm)
theorem store_ok2 {M : Model} {A : Around} {E : Value -> Shared -> Prop} {i : Nat} {x : Str} {v : V} {u : Value} {Q : Unit -> Shared -> Prop} (I : Inv X pins σ H s) (hN : X.N.Nodup) (hi : X.N[i]? = some x) (hx : Loc X.env.scope x) (r : RelV v u)
    (h : ∀ s', Inv X pins (σ.set i (some v)) H s' -> (∃ a, Heap.SameBut a s.heap s'.heap /\ (a = X.env.locals \/ X.env.cells.lookup x = some a)) -> Q () s') (hf : X.fn x = true \/ X.env.scope.names.lookup x = some .local := by first | exact .inl rfl | exact .inr rfl | assumption) : wpAny M A (storeName X.env x u) Q E s := by
  obtain ⟨m, hn, hl⟩ := id I.loc
  have hcls : (X.env.scope.kind == .class || (X.env.scope.kind == .module && X.env.locals != X.env.globals)) = false := by rw [I.ok.kind]; rfl
  have hiσ : i < σ.length := by rw [I.len]; exact (List.getElem?_eq_some_iff.mp hi).1
  have cne := I.cne
  have tracked : ∀ {a : Addr} {h' : Heap}, (∃ o, s.heap.get? a = some o /\ H a = none) -> Heap.SameBut a s.heap h' -> HOk X.prog X.w H h' := fun {a h'} ha hs b ob e => by
    obtain ⟨_, _, hfree⟩ := ha
    refine (I.hok b ob e).stay (fun c w' hc q => (hs.2 c ?_).trans q) (fun _ q => q) fun _ _ q => q
    rintro rfl
    rcases hc with rfl | hc
    . rw [hfree] at e; cases e
    . rw [hfree] at hc; cases hc
  rcases hx with hk | hk
  . refine wpAny_storeName_local hk hn (fun h' hn' hs => ?_) hcls
    obtain ⟨oL, _, _, hoL, _⟩ := id hn
    refine h _ ⟨I.ok, I.os, I.bare, ⟨fun b o e n hb hx => ?_, fun b o e n hb hx => ?_, I.base.free, fun b o e hx => ?_, I.base.tups, I.base.frzs, I.base.tbls⟩, ⟨_, hn', fun j y v' e1 e2 e3 => ?_⟩, fun y c e => ?_, I.free, I.freeC, fun p hp => ?_, tracked ⟨oL, hoL, I.free⟩ hs, by simpa using I.len⟩ ⟨_, hs, .inl rfl⟩
    . exact (hs.2 b (Nat.ne_of_lt (Nat.lt_of_lt_of_le (Heap.lt_size e) I.ok.above))).trans (I.base.keep b o e n hb hx)
    . obtain ⟨sl, e1⟩ := I.base.slot b o e n hb hx
      exact ⟨sl, (hs.2 b (Nat.ne_of_lt (Nat.lt_of_lt_of_le (Heap.lt_size e) I.ok.above))).trans e1⟩
    . obtain ⟨o', e1⟩ := I.base.there b o e hx
      exact ⟨o', (hs.2 b (Nat.ne_of_lt (Nat.lt_of_lt_of_le (Heap.lt_size e) I.ok.above))).trans e1⟩
    . by_cases hj : j = i
      . subst hj
        rw [hi] at e1; cases e1
        rw [List.getElem?_set_self hiσ] at e2
        cases e2
        exact ⟨u, r, .inl ⟨hk, by simp⟩⟩
      . rw [List.getElem?_set_ne (Ne.symm hj)] at e2
        obtain ⟨u', r', q⟩ := hl j y v' e1 e2 e3
        refine ⟨u', r', ?_⟩
        rcases q with ⟨k, e⟩ | ⟨k, c, e, z⟩
        . refine .inl ⟨k, ?_⟩
          have : y ≠ x := fun e => hj (nodup_ix hN e1 (e ▸ hi))
          simp [this, e]
        . exact .inr ⟨k, c, e, z.sameBut hs (cne y c e)⟩
    . obtain ⟨w', z⟩ := I.cell y c e
      exact ⟨w', z.sameBut hs (cne y c e)⟩
    . obtain ⟨e, n, ne, nf, d⟩ := I.pin p hp
      exact ⟨(hs.2 p.1 ne).trans e, n, ne, nf, d⟩
  . have hfn : X.fn x = true := by
      rcases hf with z | z
      . exact z
      . rw [z] at hk; cases hk
    obtain ⟨c, hc⟩ := I.ok.has x (.inl hk)
    obtain ⟨w', z⟩ := I.cell x c hc
    refine wpAny_storeName_cell I.ok.kind hk hc z (fun h' hc' hs => ?_)
    obtain ⟨oc, hoc, hocd⟩ := id z
    refine h { s with heap := h' } ⟨I.ok, I.os, I.bare, ⟨fun b o e n hb hx => ?_, fun b o e n hb hx => ?_, I.base.free, fun b o e hx => ?_, I.base.tups, I.base.frzs, I.base.tbls⟩, ⟨m, hn.sameBut hs (Ne.symm (cne x c hc)), fun j y v' e1 e2 e3 => ?_⟩, fun y c' e => ?_, I.free, I.freeC, fun p hp => ?_, tracked ⟨oc, hoc, I.freeC x c hc⟩ hs, by simpa using I.len⟩ ⟨c, hs, .inr hc⟩
    . exact (hs.2 b (Nat.ne_of_lt (Nat.lt_of_lt_of_le (Heap.lt_size e) (I.ok.cab x c hfn hc)))).trans (I.base.keep b o e n hb hx)
    . obtain ⟨sl, e1⟩ := I.base.slot b o e n hb hx
      exact ⟨sl, (hs.2 b (Nat.ne_of_lt (Nat.lt_of_lt_of_le (Heap.lt_size e) (I.ok.cab x c hfn hc)))).trans e1⟩
    . obtain ⟨o', e1⟩ := I.base.there b o e hx
      exact ⟨o', (hs.2 b (Nat.ne_of_lt (Nat.lt_of_lt_of_le (Heap.lt_size e) (I.ok.cab x c hfn hc)))).trans e1⟩
    . by_cases hj : j = i
      . subst hj
        rw [hi] at e1; cases e1
        rw [List.getElem?_set_self hiσ] at e2
        cases e2
        exact ⟨u, r, .inr ⟨.inl hk, c, hc, hc'⟩⟩
      . rw [List.getElem?_set_ne (Ne.symm hj)] at e2
        obtain ⟨u', r', q⟩ := hl j y v' e1 e2 e3
        refine ⟨u', r', ?_⟩
        rcases q with q | ⟨k, c', e, z'⟩
        . exact .inl q
        . refine .inr ⟨k, c', e, z'.sameBut hs ?_⟩
          rintro rfl
          exact hj (nodup_ix hN e1 (I.ok.inj _ _ _ e hc ▸ hi))
    . by_cases hcc : c' = c
      . subst hcc; exact ⟨_, hc'⟩
      . obtain ⟨w2, z2⟩ := I.cell y c' e
        exact ⟨w2, z2.sameBut hs hcc⟩
    . obtain ⟨e, n, ne, nf, d⟩ := I.pin p hp
      refine ⟨(hs.2 p.1 ?_).trans e, n, ne, nf, d⟩
      intro q
      rw [q, hoc] at e
      have q' : oc = p.2 := Option.some.inj e
      exact d w' (by rw [<- q']; exact hocd)
theorem store_ok {M : Model} {A : Around} {E : Value -> Shared -> Prop} {i : Nat} {x : Str} {v : V} {u : Value} {Q : Unit -> Shared -> Prop} (I : Inv X pins σ H s) (hN : X.N.Nodup) (hi : X.N[i]? = some x) (hx : Loc X.env.scope x) (r : RelV v u)
    (h : ∀ s', Inv X pins (σ.set i (some v)) H s' -> Q () s') (hf : X.fn x = true \/ X.env.scope.names.lookup x = some .local := by first | exact .inl rfl | exact .inr rfl | assumption) : wpAny M A (storeName X.env x u) Q E s :=
  store_ok2 I hN hi hx r (fun s' I' _ => h s' I') hf
theorem Inv.call' {s' : Shared} {ch : List Addr} (I : Inv X pins σ H s) (ho : s'.os = s.os) (u : Un (frs X.stack) ch H H' s.heap s'.heap) (hok : HOk X.prog X.w H' s'.heap) (hg : AllBare s'.gens)
    (hch : ∀ b ∈ ch, (b ∈ X.ex \/ X.s₀.heap.objs.size <= b) /\ b ≠ X.env.locals /\ (∀ x c, X.env.cells.lookup x = some c -> c ≠ b) /\ ∀ p ∈ X.pn ++ pins, p.1 ≠ b) : Inv X pins σ H' s' := by
  obtain ⟨h', g', d', t', o'⟩ := s'
  have e : o' = s.os := ho
  subst e
  exact I.call (g' := g') (t' := t') (d' := d') u hok hg hch
end
abbrev XK := Value -> Option Addr -> Hp -> Prop
abbrev St := List (Option V)
abbrev VK := V -> Hp -> Prop
abbrev TE := St -> Hp -> VK -> Prop
abbrev TT := St -> Hp -> (Bool -> Hp -> Prop) -> Prop
abbrev TA := St -> Hp -> (List V -> Hp -> Prop) -> Prop
structure Ends where
  nx : St -> Hp -> Prop
  rt : VK
  bk : St -> Hp -> Prop := fun _ _ => False
  ct : St -> Hp -> Prop := fun _ _ => False
abbrev TS := Ends -> St -> Hp -> Prop
def EP (X : Cx) (pins : List (Addr × Obj)) (σ : St) (Q : VK) (u : Value) (s' : Shared) : Prop := ∃ v H', Inv X pins σ H' s' /\ RelV v u /\ Q v H'
def TP (X : Cx) (pins : List (Addr × Obj)) (σ : St) (Q : Bool -> Hp -> Prop) (b : Bool) (s' : Shared) : Prop := ∃ H', Inv X pins σ H' s' /\ Q b H'
def AP (X : Cx) (pins : List (Addr × Obj)) (σ : St) (Q : List V -> Hp -> Prop) (us : List Value) (s' : Shared) : Prop := ∃ vs H', Inv X pins σ H' s' /\ Vals vs us /\ Q vs H'
def SP (X : Cx) (pins : List (Addr × Obj)) (D : Ends) (f : Flow) (s' : Shared) : Prop :=
  match f with
  | .next => ∃ σ' H', Inv X pins σ' H' s' /\ D.nx σ' H'
  | .brk => ∃ σ' H', Inv X pins σ' H' s' /\ D.bk σ' H'
  | .cont => ∃ σ' H', Inv X pins σ' H' s' /\ D.ct σ' H'
  | .ret u => ∃ v σ' H', Inv X pins σ' H' s' /\ RelV v u /\ D.rt v H'
def PE (X : Cx) (e : Expr) (t : TE) : Prop :=
  ∀ (pins : List (Addr × Obj)) (s : Shared) (σ : St) (H : Hp) (Q : VK), Inv X pins σ H s -> t σ H Q -> wpAny (model X.prog X.w) X.A (eval e X.env) (EP X pins σ Q) X.xe s
def PT (X : Cx) (e : Expr) (t : TT) : Prop :=
  ∀ (pins : List (Addr × Obj)) (s : Shared) (σ : St) (H : Hp) (Q : Bool -> Hp -> Prop), Inv X pins σ H s -> t σ H Q -> wpAny (model X.prog X.w) X.A (isTrue e X.env (eval e X.env)) (TP X pins σ Q) X.xe s
def PW (X : Cx) (e : Expr) (t : TT) : Prop :=
  ∀ (whole : Sem Value) (pins : List (Addr × Obj)) (s : Shared) (σ : St) (H : Hp) (Q : Bool -> Hp -> Prop), Inv X pins σ H s -> t σ H Q -> wpAny (model X.prog X.w) X.A (isTrue e X.env whole) (TP X pins σ Q) X.xe s
theorem PW.pt {X : Cx} {e : Expr} {t : TT} (h : PW X e t) : PT X e t := h _
def PA (X : Cx) (es : List Expr) (t : TA) : Prop :=
  ∀ (pos : Pos) (pins : List (Addr × Obj)) (s : Shared) (σ : St) (H : Hp) (Q : List V -> Hp -> Prop), Inv X pins σ H s -> t σ H Q -> wpAny (model X.prog X.w) X.A (spliced (backTo pos (starEach es X.env))) (AP X pins σ Q) X.xe s
def PS (X : Cx) (st : Stmt) (t : TS) : Prop :=
  ∀ (pins : List (Addr × Obj)) (s : Shared) (σ : St) (H : Hp) (D : Ends), Inv X pins σ H s -> t D σ H -> wpAny (model X.prog X.w) X.A (exec st X.env) (SP X pins D) X.xe s
def PSs (X : Cx) (st : List Stmt) (t : TS) : Prop :=
  ∀ (pins : List (Addr × Obj)) (s : Shared) (σ : St) (H : Hp) (D : Ends), Inv X pins σ H s -> t D σ H -> wpAny (model X.prog X.w) X.A (execs st X.env) (SP X pins D) X.xe s
theorem thn {α : Type} {t : Sem α} {Q Q' : α -> Shared -> Prop} {M : Model} {A : Around} {E : Value -> Shared -> Prop} {s : Shared} (h : wpAny M A t Q E s) (hQ : ∀ a s, Q a s -> Q' a s) : wpAny M A t Q' E s := wpAny_mono h hQ fun _ _ x => x
end L2
namespace L2
open PySem PySem.Spec PyProof.Rows
section
variable {X : Cx}
def tVar (i : Nat) : TE := fun σ H Q => ∃ v, σ[i]? = some (some v) /\ Q v H
def tC (v : V) : TE := fun _ H Q => Q v H
theorem pe_var {i : Nat} {x : Str} {pos : Pos} (hN : X.N[i]? = some x) (hv : Vis X.env.scope x) (hd : (x == ("__debug__" : Str)) = false := by decide) (hcd : (x == ("__classdict__" : Str)) = false := by decide) : PE X (.Name x pos) (tVar i) := by
  intro pins s σ H Q I h
  obtain ⟨v, e, h⟩ := h
  obtain ⟨m, hn, hl⟩ := I.loc
  obtain ⟨u, r, l⟩ := hl i x v hN e hv
  have fin : EP X pins σ Q u s := ⟨v, H, I, r, h⟩
  rcases l with ⟨hk, hm⟩ | ⟨hk, c, hc, hcell⟩
  . exact wpAny_Name (wpAny_loadName_local I.ok.kind hk hn hm fin) hd
  . rcases hk with hk | hk
    . exact wpAny_Name (wpAny_loadName_cell I.ok.kind hk hc hcell fin) hd
    . exact wpAny_Name (wpAny_loadName_free I.ok.kind hk hc hcell fin hcd) hd
theorem pe_int {i j pos} : PE X (.Constant (.int i) j pos) (tC (.int i)) := fun _ _ _ H _ I h => wpAny_Constant_int ⟨.int i, H, I.tok _, ⟨_, rfl⟩, h⟩
theorem pe_bl {b j pos} : PE X (.Constant (.bool b) j pos) (tC (.bl b)) := fun _ _ _ H _ I h => Constant_bool ⟨.bl b, H, I, rfl, h⟩
theorem pe_non {j pos} : PE X (.Constant .none j pos) (tC .non) := fun _ _ _ H _ I h => Constant_none ⟨.non, H, I, rfl, h⟩
theorem pe_str {x j pos} : PE X (.Constant (.str x) j pos) (tC (.str x)) := fun _ _ _ H _ I h => Calls.Constant_str ⟨.str x, H, I.tok _, ⟨_, rfl⟩, h⟩
def Gl (X : Cx) (x : Str) : Prop := X.env.kindOf x = some .globalImplicit
theorem ld_glob {E : Value -> Shared -> Prop} {pins : List (Addr × Obj)} {s : Shared} {σ : St} {H : Hp} {x : Str} {u : Value} {pos : Pos} {Q : Value -> Shared -> Prop} (I : Inv X pins σ H s) (hg : Gl X x) (hm : X.mg x = some u) (h : Q u s)
    (hd : (x == ("__debug__" : Str)) = false := by decide) : wpAny (model X.prog X.w) X.A (eval (.Name x pos) X.env) Q E s :=
  Calls.Name_function_global I.ok.kind hg (Calls.loadGlobal_global (by rw [I.ok.glob]; exact I.mod.glob.keeps I.bk) hm h) hd
theorem ld_blt {E : Value -> Shared -> Prop} {pins : List (Addr × Obj)} {s : Shared} {σ : St} {H : Hp} {x : Str} {u : Value} {pos : Pos} {Q : Value -> Shared -> Prop} (I : Inv X pins σ H s) (hg : Gl X x) (hm : X.mg x = none) (hv : bootBuiltins x = some u) (h : Q u s)
    (hn : x ≠ "__name__" := by decide) (hd : (x == ("__debug__" : Str)) = false := by decide) : wpAny (model X.prog X.w) X.A (eval (.Name x pos) X.env) Q E s := by
  obtain ⟨mb, h1, h2⟩ := I.mod.blt
  exact Calls.Name_function_global I.ok.kind hg (Calls.loadGlobal_builtin (by rw [I.ok.glob]; exact I.mod.glob.keeps I.bk) hm (by rw [I.ok.blt]; exact h1.keeps I.bk) ((h2 x hn).trans hv) h) hd
theorem pe_glob {x : Str} {v : V} {u : Value} {pos : Pos} (hg : Gl X x) (hm : X.mg x = some u) (r : RelV v u) (hd : (x == ("__debug__" : Str)) = false := by decide) : PE X (.Name x pos) (tC v) :=
  fun _ _ _ H _ I h => ld_glob I hg hm ⟨v, H, I, r, h⟩ hd
theorem pe_bltn {x : Str} {v : V} {u : Value} {pos : Pos} (hg : Gl X x) (hm : X.mg x = none) (hv : bootBuiltins x = some u) (r : RelV v u) (hn : x ≠ "__name__" := by decide) (hd : (x == ("__debug__" : Str)) = false := by decide) : PE X (.Name x pos) (tC v) :=
  fun _ _ _ H _ I h => ld_blt I hg hm hv ⟨v, H, I, r, h⟩ hn hd
variable {a b : Expr} {ta tb : TE} {pos : Pos}
def tB (t : TE) : TT := fun σ H Q => t σ H fun x H1 => ∃ c, x = .bl c /\ Q c H1
theorem pt_val {e : Expr} {t : TE} (h : PE X e t) (he : ∀ whole, isTrue e X.env whole = (do let v <- whole; standAt e.pos; holding [v] (truthy v)) := by intro _; rfl) : PT X e (tB t) := by
  intro pins s σ H Q I hw
  refine isTrue_plain (thn (h pins s σ H _ I hw) fun v s1 ⟨x, H1, I1, r1, q1⟩ => ?_) (he _)
  obtain ⟨d, rfl, q⟩ := q1
  cases r1
  exact wpAny_truthy_bool ⟨H1, I1, q⟩
variable {tA tB' : TT} {rest : List Expr}
def tAnd (t u : TT) : TT := fun σ H Q => t σ H fun c H1 => if c = true then u σ H1 Q else Q false H1
def tOr (t u : TT) : TT := fun σ H Q => t σ H fun c H1 => if c = true then Q true H1 else u σ H1 Q
def tNot (t : TT) : TT := fun σ H Q => t σ H fun c H1 => Q (!c) H1
theorem pw_and1 (ha : PT X a tA) : PW X (.BoolOp .And [a] pos) tA := by
  intro wh pins s σ H Q I h
  refine isTrue_and (thn (ha pins s σ H Q I h) fun c s1 e => ?_)
  cases c with
  | true => exact isTrue_and_nil e
  | false => exact e
theorem pw_or1 (ha : PT X a tA) : PW X (.BoolOp .Or [a] pos) tA := by
  intro wh pins s σ H Q I h
  refine isTrue_or (thn (ha pins s σ H Q I h) fun c s1 e => ?_)
  cases c with
  | false => exact isTrue_or_nil e
  | true => exact e
theorem pw_and (ha : PT X a tA) (hb : PW X (.BoolOp .And (b :: rest) pos) tB') : PW X (.BoolOp .And (a :: b :: rest) pos) (tAnd tA tB') := by
  intro wh pins s σ H Q I h
  refine isTrue_and (thn (ha pins s σ H _ I h) fun c s1 ⟨H1, I1, q1⟩ => ?_)
  cases c with
  | true => exact hb wh pins s1 σ H1 Q I1 q1
  | false => exact ⟨H1, I1, q1⟩
theorem pw_or (ha : PT X a tA) (hb : PW X (.BoolOp .Or (b :: rest) pos) tB') : PW X (.BoolOp .Or (a :: b :: rest) pos) (tOr tA tB') := by
  intro wh pins s σ H Q I h
  refine isTrue_or (thn (ha pins s σ H _ I h) fun c s1 ⟨H1, I1, q1⟩ => ?_)
  cases c with
  | true => exact ⟨H1, I1, q1⟩
  | false => exact hb wh pins s1 σ H1 Q I1 q1
theorem pt_not (ha : PT X a tA) : PT X (.UnaryOp .Not a pos) (tNot tA) := by
  intro pins s σ H Q I h
  exact isTrue_not (ha pins s σ H (fun c H1 => Q (!c) H1) I h)
def tAndV (ta tb : TE) : TE := fun σ H Q => ta σ H fun x H1 => ∃ c, x = .bl c /\ if c = true then tb σ H1 Q else Q (.bl false) H1
def tNotV (ta : TE) : TE := fun σ H Q => ta σ H fun x H1 => ∃ c, x = .bl c /\ Q (.bl (!c)) H1
theorem pe_one {op} {t : TE} (h : PE X a t) : PE X (.BoolOp op [a] pos) t := fun pins s σ H Q I hw => BoolOp_one (h pins s σ H Q I hw)
theorem pe_and (ha : PE X a ta) (hb : PE X (.BoolOp .And (b :: rest) pos) tb) : PE X (.BoolOp .And (a :: b :: rest) pos) (tAndV ta tb) := by
  intro pins s σ H Q I h
  refine BoolOp_and (thn (ha pins s σ H _ I h) fun v s1 ⟨x, H1, I1, r1, q1⟩ => ?_)
  obtain ⟨c, rfl, q1⟩ := q1
  cases r1
  refine wpAny_truthy_bool ?_
  cases c with
  | true => exact hb pins s1 σ H1 Q I1 q1
  | false => exact ⟨.bl false, H1, I1, rfl, q1⟩
theorem pe_not (ha : PE X a ta) : PE X (.UnaryOp .Not a pos) (tNotV ta) := by
  intro pins s σ H Q I h
  refine UnaryOp_ (thn (ha pins s σ H _ I h) fun v s1 ⟨x, H1, I1, r1, q1⟩ => ?_)
  obtain ⟨c, rfl, q1⟩ := q1
  cases r1
  exact not_of (wpAny_truthy_bool ⟨.bl (!c), H1, I1, rfl, q1⟩)
end
end L2
namespace L2
open PySem PySem.Spec PyProof.Rows
def SqL (K : PySem.W.Frag) (H : Hp) (a : Addr) (xs : List V) : Prop :=
  Rd H a (.lst xs) \/
    ∃ (o : Obj) (its : Array Value) (n : Nat), K.lookup a = some o /\ o.cls = .type "list" /\ o.dict = none /\ o.data = .seq its n /\ its.size <= sizeLine /\ Vals xs its.toList
def SqT (K : PySem.W.Frag) (H : Hp) (a : Addr) (xs : List V) : Prop :=
  Rd H a (.tup xs) \/
    ∃ (o : Obj) (its : Array Value) (n : Nat), K.lookup a = some o /\ o.cls = .type "tuple" /\ o.data = .seq its n /\ its.size <= sizeLine /\ Vals xs its.toList
def absV : Value -> Option V
  | .none => some .non
  | .bool b => some (.bl b)
  | .int i _ => some (.int i)
  | .str x _ => some (.str x)
  | .bytes b _ => some (.byt b)
  | .float b _ => some (.flt b)
  | .ref a => some (.ref a)
  | .type n => some (.ty n)
  | _ => none
theorem RelV.abs {x : V} {u : Value} (r : RelV x u) : absV u = some x := by
  cases x with
  | non => cases r; rfl
  | bl _ => cases r; rfl
  | int _ => obtain ⟨t, rfl⟩ := r; rfl
  | str _ => obtain ⟨t, rfl⟩ := r; rfl
  | byt _ => obtain ⟨t, rfl⟩ := r; rfl
  | flt _ => obtain ⟨t, rfl⟩ := r; rfl
  | ref _ => cases r; rfl
  | ty _ => cases r; rfl
theorem RelV.inj {x y : V} {u : Value} (r : RelV x u) (q : RelV y u) : x = y := Option.some.inj (r.abs.symm.trans q.abs)
theorem Vals.inj : ∀ {xs ys : List V} {us : List Value}, Vals xs us -> Vals ys us -> xs = ys
  | _, _, _, .nil, .nil => rfl
  | _, _, _, .cons r t, .cons r' t' => by rw [r.inj r', Vals.inj t t']
section
variable {X : Cx} {pins : List (Addr × Obj)} {σ : St} {H : Hp} {s : Shared} {a : Addr} {xs ys : List V}
theorem SqL.of {K : PySem.W.Frag} (h : H a = some (.lst xs)) : SqL K H a xs := .inl (.inl h)
theorem SqT.of {K : PySem.W.Frag} (h : H a = some (.tup xs)) : SqT K H a xs := .inl (.inl h)
theorem Inv.list (I : Inv X pins σ H s) (h : SqL X.K H a xs) : ∃ its : List Value, Vals xs its /\ PlainL s.heap a its.toArray /\ xs.length <= sizeLine := by
  rcases h with h | ⟨o, its, n, hk, hc, hd, hs, hz, r⟩
  . obtain ⟨z, its, n, r, e⟩ := h.ok I.hok
    exact ⟨its, r, ⟨_, n, e, rfl, rfl, rfl⟩, z⟩
  . refine ⟨its.toList, r, ⟨o, n, I.kIn a o hk, hc, hd, by simpa using hs⟩, ?_⟩
    have e := r.length
    simp only [Array.length_toList] at e
    omega
theorem Inv.tuple (I : Inv X pins σ H s) (h : SqT X.K H a xs) : ∃ its : List Value, Vals xs its /\ IsTup s.heap a its.toArray /\ xs.length <= sizeLine := by
  rcases h with h | ⟨o, its, n, hk, hc, hs, hz, r⟩
  . obtain ⟨z, its, r, p⟩ := h.ok I.hok
    exact ⟨its, r, p, z⟩
  . refine ⟨its.toList, r, ⟨o, I.kIn a o hk, hc, n, by simpa using hs⟩, ?_⟩
    have e := r.length
    simp only [Array.length_toList] at e
    omega
theorem Inv.list_inj (I : Inv X pins σ H s) (h : SqL X.K H a xs) (h' : SqL X.K H a ys) : xs = ys := by
  obtain ⟨its, r, ⟨o, n, e, _, _, d⟩, _⟩ := I.list h
  obtain ⟨its', r', ⟨o', n', e', _, _, d'⟩, _⟩ := I.list h'
  rw [e] at e'; cases e'
  rw [d] at d'
  injection d' with d1 _
  have : its = its' := by simpa using congrArg Array.toList d1
  subst this
  exact r.inj r'
theorem Inv.tuple_inj (I : Inv X pins σ H s) (h : SqT X.K H a xs) (h' : SqT X.K H a ys) : xs = ys := by
  obtain ⟨its, r, ⟨o, e, _, n, d⟩, _⟩ := I.tuple h
  obtain ⟨its', r', ⟨o', e', _, n', d'⟩, _⟩ := I.tuple h'
  rw [e] at e'; cases e'
  rw [d] at d'
  injection d' with d1 _
  have : its = its' := by simpa using congrArg Array.toList d1
  subst this
  exact r.inj r'
end
abbrev Cx.wish (X : Cx) (E : Value -> Shared -> Prop) : Cx := { X with xe := E }
abbrev Cx.nox (X : Cx) : Cx := X.wish fun _ _ => False
theorem Cx.Ok.wish {X : Cx} (ok : X.Ok) (E : Value -> Shared -> Prop) : (X.wish E).Ok :=
  ⟨ok.mod, ok.kind, ok.glob, ok.blt, ok.above, ok.inj, ok.has, ok.cab, ok.hd, ok.frames, ok.stk, ok.exf, ok.bs, ok.bsz, ok.noex, ok.exfs, ok.funs, ok.frf⟩
theorem Cx.Ok.unwish {X : Cx} {E : Value -> Shared -> Prop} (ok : (X.wish E).Ok) : X.Ok :=
  ⟨ok.mod, ok.kind, ok.glob, ok.blt, ok.above, ok.inj, ok.has, ok.cab, ok.hd, ok.frames, ok.stk, ok.exf, ok.bs, ok.bsz, ok.noex, ok.exfs, ok.funs, ok.frf⟩
section
variable {X : Cx} {pins : List (Addr × Obj)} {σ : St} {H : Hp} {s : Shared} {E : Value -> Shared -> Prop}
theorem Inv.wish (I : Inv X pins σ H s) (E : Value -> Shared -> Prop) : Inv (X.wish E) pins σ H s := ⟨I.ok.wish E, I.os, I.bare, I.base, I.loc, I.cell, I.free, I.freeC, I.pin, I.hok, I.len⟩
theorem Inv.unwish (I : Inv (X.wish E) pins σ H s) : Inv X pins σ H s := ⟨I.ok.unwish, I.os, I.bare, I.base, I.loc, I.cell, I.free, I.freeC, I.pin, I.hok, I.len⟩
theorem SP.unwish {D : Ends} {f : Flow} {s' : Shared} (h : SP (X.wish E) pins D f s') : SP X pins D f s' := by
  cases f with
  | next => obtain ⟨σ', H', I, q⟩ := h; exact ⟨σ', H', I.unwish, q⟩
  | brk => obtain ⟨σ', H', I, q⟩ := h; exact ⟨σ', H', I.unwish, q⟩
  | cont => obtain ⟨σ', H', I, q⟩ := h; exact ⟨σ', H', I.unwish, q⟩
  | ret u => obtain ⟨v, σ', H', I, r, q⟩ := h; exact ⟨v, σ', H', I.unwish, r, q⟩
theorem PSs.nox {st : List Stmt} {t : TS} (h : PSs X.nox st t) : PSs X st t := fun pins s σ H D I hw =>
  wpAny_mono (h pins s σ H D (I.wish _) hw) (fun _ _ q => q.unwish) fun _ _ z => False.elim z
end
section
variable {X : Cx} {st : Stmt} {rest : List Stmt} {t u : TS} {e : Expr} {te : TE} {pos : Pos}
def tNext : TS := fun D σ H => D.nx σ H
def tSeq (t u : TS) : TS := fun D σ H => t { D with nx := u D } σ H
theorem pss_nil : PSs X [] tNext := fun _ _ σ H _ I h => wpAny_execs_nil ⟨σ, H, I, h⟩
theorem pss_cons (h1 : PS X st t) (h2 : PSs X rest u) : PSs X (st :: rest) (tSeq t u) := by
  intro pins s σ H D I h
  refine wpAny_execs_cons (thn (h1 pins s σ H { D with nx := u D } I h) fun f s1 q => ?_)
  cases f with
  | next =>
    obtain ⟨σ', H', I', q⟩ := q
    exact h2 pins s1 σ' H' D I' q
  | ret v => exact q
  | brk => exact q
  | cont => exact q
theorem pss_one (h1 : PS X st t) : PSs X [st] t := by
  intro pins s σ H D I h
  refine wpAny_execs_cons (thn (h1 pins s σ H D I h) fun f s1 q => ?_)
  cases f with
  | next => exact wpAny_execs_nil q
  | ret v => exact q
  | brk => exact q
  | cont => exact q
theorem Inv.quiet {pins : List (Addr × Obj)} {σ : St} {H : Hp} {s : Shared} (I : Inv X pins σ H s) : interactive X.env = false := by simp [interactive, I.ok.kind]
def tDrop (te : TE) : TS := fun D σ H => te σ H fun _ H1 => D.nx σ H1
theorem ps_expr (he : PE X e te) (hs : swapsWith e none pos.line X.env = pure false := by rfl) : PS X (.Expr e pos) (tDrop te) := by
  intro pins s σ H D I h
  exact wpAny_Expr_any (thn (he pins s σ H _ I h) fun v s1 ⟨x, H1, I1, r1, q1⟩ => ⟨σ, H1, I1, q1⟩) I.quiet hs
def tRet (te : TE) : TS := fun D σ H => te σ H D.rt
theorem ps_ret (he : PE X e te) : PS X (.Return (some e) pos) (tRet te) := by
  intro pins s σ H D I h
  exact wpAny_Return_some (thn (he pins s σ H _ I h) fun v s1 ⟨x, H1, I1, r1, q1⟩ => ⟨x, σ, H1, I1, r1, q1⟩)
def tIfS (c : TT) (t u : TS) : TS := fun D σ H => c σ H fun b H1 => if b = true then t D σ H1 else u D σ H1
theorem ps_if {c : Expr} {a b : List Stmt} {tc : TT} (hc : PT X c tc) (ha : PSs X a t) (hb : PSs X b u) : PS X (.If c a b pos) (tIfS tc t u) := by
  intro pins s σ H D I h
  refine wpAny_If (thn (hc pins s σ H _ I h) fun d s1 ⟨H1, I1, q1⟩ => ?_)
  cases d with
  | true => exact ha pins s1 σ H1 D I1 q1
  | false => exact hb pins s1 σ H1 D I1 q1
end
abbrev TG := V -> St -> Hp -> (St -> Hp -> Prop) -> Prop
def PG (X : Cx) (target : Expr) (t : TG) : Prop :=
  ∀ (pins : List (Addr × Obj)) (s : Shared) (σ : St) (H : Hp) (v : V) (u : Value) (Q : St -> Hp -> Prop), Inv X pins σ H s -> RelV v u -> t v σ H Q ->
    wpAny (model X.prog X.w) X.A (assign target X.env u) (fun _ s' => ∃ σ' H', Inv X pins σ' H' s' /\ Q σ' H') X.xe s
abbrev TSet := V -> V -> V -> Hp -> (Hp -> Prop) -> Prop
def PSet (X : Cx) (t : TSet) : Prop :=
  ∀ (pins : List (Addr × Obj)) (s : Shared) (σ : St) (H : Hp) (o i v : V) (ov iv u : Value) (Q : Hp -> Prop), Inv X pins σ H s -> RelV o ov -> RelV i iv -> RelV v u -> t o i v H Q ->
    wpAny (model X.prog X.w) X.A (setItem ov iv u) (fun _ s' => ∃ H', Inv X pins σ H' s' /\ Q H') X.xe s
section
variable {X : Cx} {pos : Pos}
def gName (i : Nat) : TG := fun v σ H Q => Q (σ.set i (some v)) H
theorem pg_name {i : Nat} {x : Str} (hN : X.N.Nodup) (hi : X.N[i]? = some x) (hx : Loc X.env.scope x) (hf : X.fn x = true \/ X.env.scope.names.lookup x = some .local := by first | exact .inl rfl | exact .inr rfl | assumption) : PG X (.Name x pos) (gName i) := by
  intro pins s σ H v u Q I r h
  exact wpAny_assign_Name (store_ok I hN hi hx r (fun s' I' => ⟨_, H, I', h⟩) hf)
def gSub (to ti : TE) (t : TSet) : TG := fun v σ H Q => to σ H fun o H1 => ti σ H1 fun i H2 => t o i v H2 fun H3 => Q σ H3
theorem pg_sub {o i : Expr} {to ti : TE} {t : TSet} (ho : PE X o to) (hi : PE X i ti) (hs : PSet X t)
    (ha : ∀ v, assign (.Subscript o i pos) X.env v = (do
      let ov <- holding [v] (eval o X.env)
      let iv <- holding [v, ov] (eval i X.env)
      standAt pos
      holding [v, ov, iv] (setItem ov iv v)
      release [v, ov, iv] []) := by intro _; rfl) : PG X (.Subscript o i pos) (gSub to ti t) := by
  intro pins s σ H v u Q I r h
  rw [ha]
  refine wpAny_bind (wpAny_holding (thn (ho pins s σ H _ I h) fun ov s1 ⟨x, H1, I1, r1, q1⟩ => ?_))
  refine wpAny_bind (wpAny_holding (thn (hi pins s1 σ H1 _ I1 q1) fun iv s2 ⟨y, H2, I2, r2, q2⟩ => ?_))
  refine wpAny_bind (wpAny_standAt (wpAny_bind (wpAny_holding (thn (hs pins s2 σ H2 x y v ov iv u _ I2 r1 r2 r q2) fun _ s3 ⟨H3, I3, q3⟩ => ?_))))
  exact wpAny_release ⟨σ, H3, I3, q3⟩
def tAsg (te : TE) (g : TG) : TS := fun D σ H => te σ H fun x H1 => g x σ H1 D.nx
theorem ps_asg {tg e : Expr} {te : TE} {g : TG} (he : PE X e te) (hg : PG X tg g) (hs : swapsWithSole [tg] e pos.line X.env = pure false := by rfl) (hw : swappedStores [tg] e X.env = pure none := by rfl)
    (h1 : (assignEach [tg] X.env).map (·.2) = [assign tg X.env] := by rfl) : PS X (.Assign [tg] e pos) (tAsg te g) := by
  intro pins s σ H D I h
  refine wpAny_Assign_stores (thn (he pins s σ H _ I h) fun v s1 ⟨x, H1, I1, r1, q1⟩ => ?_) hs hw
  rw [h1]
  exact thn (hg pins s1 σ H1 x v _ I1 r1 q1) fun _ s2 q => q
theorem ps_set {i : Nat} {x : Str} {e : Expr} {te : TE} {pos' : Pos} (hN : X.N.Nodup) (hi : X.N[i]? = some x) (hx : Loc X.env.scope x) (he : PE X e te) (hs : swapsWith e (some (.Name x pos')) pos.line X.env = pure false := by rfl) (hf : X.fn x = true \/ X.env.scope.names.lookup x = some .local := by first | exact .inl rfl | exact .inr rfl | assumption) :
    PS X (.Assign [.Name x pos'] e pos) (tAsg te (gName i)) := by
  intro pins s σ H D I h
  refine wpAny_Assign_Name (thn (he pins s σ H _ I h) fun v s1 ⟨y, H1, I1, r1, q1⟩ => ?_) hs
  exact store_ok I1 hN hi hx r1 (fun s2 I2 => ⟨_, H1, I2, q1⟩) hf
end
section
variable {X : Cx} {pos : Pos}
end
structure It where
  go : Nat -> Hp -> Prop
  yld : Nat -> Hp -> V -> Hp -> Prop
  stop : Nat -> Hp -> Prop
def FpOk (X : Cx) (pins : List (Addr × Obj)) (H : Hp) (b : Addr) : Prop :=
  H b = none /\ b ≠ X.env.locals /\ b ∉ X.fs /\ (b ∈ X.ex \/ X.s₀.heap.objs.size <= b) /\ (∀ x c, X.env.cells.lookup x = some c -> c ≠ b) /\ ∀ p ∈ X.pn ++ pins, p.1 ≠ b
theorem Inv.fpOk {X : Cx} {pins : List (Addr × Obj)} {σ : St} {H H' : Hp} {s : Shared} {b : Addr} (I : Inv X pins σ H s) (hb : s.heap.objs.size <= b) (hn : H' b = none) : FpOk X pins H' b := by
  refine ⟨hn, Nat.ne_of_gt (Nat.lt_of_lt_of_le I.lt hb), I.nofs hb, .inr (Nat.le_trans I.sz hb), fun x c e z => ?_, fun p hp z => ?_⟩
  . obtain ⟨v, q⟩ := I.cell x c e
    exact absurd (Nat.lt_of_lt_of_le q.lt (by rw [z]; exact hb)) (Nat.lt_irrefl _)
  . exact absurd (Nat.lt_of_lt_of_le (Heap.lt_size (I.pin p hp).1) (by rw [z]; exact hb)) (Nat.lt_irrefl _)
structure Turn (P : Program) (w : World) (K : PySem.W.Frag) (tg : Expr) (J : It) (fp : List Addr) (it : Addr) (tn : Nat -> Heap -> Prop) : Prop where
  mem : it ∈ fp
  obj : ∀ i h, tn i h -> ∀ b ∈ fp, ∃ o, h.get? b = some o /\ ∀ v, o.data ≠ .cell v
  keep : ∀ i h h', tn i h -> (∀ b ∈ fp, ∀ o, h.get? b = some o -> h'.get? b = some o) -> tn i h'
  item : ∀ (X : Cx), X.prog = P -> X.w = w -> X.K = K -> X.calm = true -> ∀ (i : Nat) (pins : List (Addr × Obj)) (s : Shared) (σ : St) (H : Hp) (E : Value -> Shared -> Prop), Inv X pins σ H s -> (∀ b ∈ fp, FpOk X pins H b) -> tn i s.heap -> J.go i H ->
    wpAny (model P w) X.A (pyNext (.ref it)) (fun r s1 => ∃ u, r = some u /\
      wpAny (model P w) X.A (letOwnedTupleGo tg (.ref it) u) (fun _ s2 => ∃ x H', Inv X pins σ H' s2 /\ RelV x u /\ J.yld i H x H' /\ tn (i + 1) s2.heap /\ ∀ b ∈ fp, H' b = none) E s1) E s
  done : ∀ (X : Cx), X.prog = P -> X.w = w -> X.K = K -> X.calm = true -> ∀ (i : Nat) (pins : List (Addr × Obj)) (s : Shared) (σ : St) (H : Hp) (E : Value -> Shared -> Prop), Inv X pins σ H s -> (∀ b ∈ fp, FpOk X pins H b) -> tn i s.heap -> J.stop i H ->
    wpAny (model P w) X.A (pyNext (.ref it)) (fun r s1 => r = none /\ Inv X pins σ H s1) E s
  self : ∀ (A : Around) (i : Nat) (s : Shared) (Q : Value -> Shared -> Prop) (E : Value -> Shared -> Prop), tn i s.heap -> Q (.ref it) s -> wpAny (model P w) A (pyIter (.ref it)) Q E s
abbrev TI := St -> Hp -> (It -> Hp -> Prop) -> Prop
def PIE (X : Cx) (pins : List (Addr × Obj)) (σ : St) (tg : Expr) (R : It -> Hp -> Prop) (itv : Value) (s2 : Shared) : Prop :=
  ∃ (it : Addr) (fp : List Addr) (tn : Nat -> Heap -> Prop) (J : It) (H' : Hp), itv = .ref it /\ Inv X pins σ H' s2 /\ Turn X.prog X.w X.K tg J fp it tn /\ tn 0 s2.heap /\ (∀ b ∈ fp, FpOk X pins H' b) /\ R J H'
def PI (X : Cx) (tg iter : Expr) (wi : TI) : Prop :=
  ∀ (pins : List (Addr × Obj)) (s : Shared) (σ : St) (H : Hp) (R : It -> Hp -> Prop), Inv X pins σ H s -> wi σ H R ->
    wpAny (model X.prog X.w) X.A (eval iter X.env) (fun v s1 => wpAny (model X.prog X.w) X.A (pyIter v) (PIE X pins σ tg R) X.xe s1) X.xe s
theorem go_of {M : Model} {A : Around} {E : Value -> Shared -> Prop} {s : Shared} {tg : Expr} {it : Addr} {u : Value} {o : Obj} {n : String} {vs : Array Value} {Q : Unit -> Shared -> Prop} (ho : s.heap.get? it = some o) (hc : o.cls = .type n) (hd : o.data = .fields vs)
    (hn : ["enumerate", "zip", "dict_itemiterator", "dict_reverseitemiterator", "odict_iterator", "itertools.zip_longest", "itertools.pairwise"].contains n = false) (hQ : Q () s) : wpAny M A (letOwnedTupleGo tg (.ref it) u) Q E s := by
  unfold letOwnedTupleGo
  cases tg <;> first
    | exact wpAny_pure hQ
    | (cases u <;> first
        | exact wpAny_pure hQ
        | (refine wpAny_bind (wpAny_load ho ?_)
           rw [hc, hd]
           show wpAny M A (if (["enumerate", "zip", "dict_itemiterator", "dict_reverseitemiterator", "odict_iterator", "itertools.zip_longest", "itertools.pairwise"].contains n && vs[0]? == some (rawInt _)) = true then _ else _) Q E s
           rw [if_neg (by intro h; rw [hn, Bool.false_and] at h; cases h)]
           exact wpAny_pure hQ))
def Itl (K : PySem.W.Frag) (a : Addr) : It :=
  ⟨fun i H => ∃ xs x, SqL K H a xs /\ xs[i]? = some x, fun i H x H' => H' = H /\ ∀ xs, SqL K H a xs -> xs[i]? = some x, fun i H => ∃ xs, SqL K H a xs /\ xs.length <= i⟩
def Itt (K : PySem.W.Frag) (a : Addr) : It :=
  ⟨fun i H => ∃ xs x, SqT K H a xs /\ xs[i]? = some x, fun i H x H' => H' = H /\ ∀ xs, SqT K H a xs -> xs[i]? = some x, fun i H => ∃ xs, SqT K H a xs /\ xs.length <= i⟩
def Itr (lo : Int) (n : Nat) : It := ⟨fun i _ => i < n, fun i H x H' => H' = H /\ x = .int (lo + i), fun i _ => n <= i⟩
theorem turn_list {P : Program} {w : World} {K : PySem.W.Frag} {tg : Expr} (a it : Addr) : Turn P w K tg (Itl K a) [it] it (fun i h => h.IsListIter it a i) where
  mem := by simp
  obj := fun i h st b hb => by
    have e : b = it := by simpa using hb
    subst e
    obtain ⟨o, e, c, d⟩ := st
    exact ⟨o, e, fun v z => by rw [d] at z; cases z⟩
  keep := fun i h h' st k => st.at fun o e => k it (by simp) o e
  item := by
    intro X hP hw hK hc i pins s σ H E I hf st hg
    subst hP hw hK
    obtain ⟨xs, x, hq, hx⟩ := hg
    obtain ⟨its, rv, p, hz⟩ := I.list hq
    obtain ⟨u, hu, ru⟩ := rv.get hx
    obtain ⟨f0, f1, f2, f3, f4, f5⟩ := hf it (by simp)
    refine wpAny_pyNext_list_item st p.isList (x := u) (by simpa using hu) fun h' st' sb => ?_
    have I1 : Inv X pins σ H { s with heap := h' } := I.turned (t' := s.toks) (fun b o hb e => (sb.2 b hb).trans e) f0 f1 f3 f4 f5
    obtain ⟨o, e, c, d⟩ := id st'
    exact ⟨u, rfl, go_of (s := { s with heap := h' }) e c d (by decide) ⟨x, H, I1, ru, ⟨rfl, fun ys hy => by rw [I.list_inj hy hq]; exact hx⟩, st', fun b hb => (hf b hb).1⟩⟩
  done := by
    intro X hP hw hK hc i pins s σ H E I hf st hg
    subst hP hw hK
    obtain ⟨xs, hq, hx⟩ := hg
    obtain ⟨its, rv, p, hz⟩ := I.list hq
    obtain ⟨f0, f1, f2, f3, f4, f5⟩ := hf it (by simp)
    have hl := rv.length
    exact wpAny_pyNext_list_end (I.ok.hd hc) st p.isList (by simp; omega) fun h' eb => ⟨rfl, I.turned (t' := s.toks) (fun b o hb e => eb b o hb e) f0 f1 f3 f4 f5⟩
  self := fun _ _ _ _ _ st h => wpAny_pyIter_listiter st h
theorem turn_tuple {P : Program} {w : World} {K : PySem.W.Frag} {tg : Expr} (a it : Addr) : Turn P w K tg (Itt K a) [it] it (fun i h => h.IsTupleIter it a i) where
  mem := by simp
  obj := fun i h st b hb => by
    have e : b = it := by simpa using hb
    subst e
    obtain ⟨o, e, c, d⟩ := st
    exact ⟨o, e, fun v z => by rw [d] at z; cases z⟩
  keep := fun i h h' st k => st.at fun o e => k it (by simp) o e
  item := by
    intro X hP hw hK hc i pins s σ H E I hf st hg
    subst hP hw hK
    obtain ⟨xs, x, hq, hx⟩ := hg
    obtain ⟨its, rv, p, hz⟩ := I.tuple hq
    obtain ⟨u, hu, ru⟩ := rv.get hx
    obtain ⟨f0, f1, f2, f3, f4, f5⟩ := hf it (by simp)
    refine wpAny_pyNext_tuple_item st (show s.heap.IsTuple a its.toArray from p) (x := u) (by simpa using hu) fun h' st' sb => ?_
    have I1 : Inv X pins σ H { s with heap := h' } := I.turned (t' := s.toks) (fun b o hb e => (sb.2 b hb).trans e) f0 f1 f3 f4 f5
    obtain ⟨o, e, c, d⟩ := id st'
    exact ⟨u, rfl, go_of (s := { s with heap := h' }) e c d (by decide) ⟨x, H, I1, ru, ⟨rfl, fun ys hy => by rw [I.tuple_inj hy hq]; exact hx⟩, st', fun b hb => (hf b hb).1⟩⟩
  done := by
    intro X hP hw hK hc i pins s σ H E I hf st hg
    subst hP hw hK
    obtain ⟨xs, hq, hx⟩ := hg
    obtain ⟨its, rv, p, hz⟩ := I.tuple hq
    obtain ⟨f0, f1, f2, f3, f4, f5⟩ := hf it (by simp)
    have hl := rv.length
    exact wpAny_pyNext_tuple_end (I.ok.hd hc) st (show s.heap.IsTuple a its.toArray from p) (by simp; omega) fun h' eb => ⟨rfl, I.turned (t' := s.toks) (fun b o hb e => eb b o hb e) f0 f1 f3 f4 f5⟩
  self := fun _ _ _ _ _ st h => wpAny_pyIter_tupleiter st h
theorem turn_range {P : Program} {w : World} {K : PySem.W.Frag} {tg : Expr} (it : Addr) (lo : Int) (n : Nat) : Turn P w K tg (Itr lo n) [it] it (fun i h => IsRangeIter h it (lo + (i : Nat) * 1) ((n : Int) - (i : Nat)) 1) where
  mem := by simp
  obj := fun i h st b hb => by
    have e : b = it := by simpa using hb
    subst e
    exact ⟨_, st, fun v z => by
      have z' : Data.fields _ = Data.cell v := z
      cases z'⟩
  keep := fun i h h' st k => k it (by simp) _ st
  item := by
    intro X hP hw hK hc i pins s σ H E I hf st hg
    subst hP hw hK
    obtain ⟨f0, f1, f2, f3, f4, f5⟩ := hf it (by simp)
    have W := Walks.range (prog := X.prog) (w := X.w) (I.ok.hd hc) it lo 1 n
    refine W.item i s _ _ hg st fun v h' tk hv st' kk => ?_
    obtain ⟨t, rfl⟩ := hv
    have I1 : Inv X pins σ H { s with heap := h', toks := tk } := I.turned (fun b o hb e => kk b o (by simpa using hb) e) f0 f1 f3 f4 f5
    refine ⟨_, rfl, go_of (s := { s with heap := h', toks := tk }) (n := "range_iterator") st' rfl rfl (by decide) ⟨.int (lo + i), H, I1, ⟨t, ?_⟩, ⟨rfl, rfl⟩, st', fun b hb => (hf b hb).1⟩⟩
    rw [Int.mul_one]
  done := by
    intro X hP hw hK hc i pins s σ H E I hf st hg
    subst hP hw hK
    obtain ⟨f0, f1, f2, f3, f4, f5⟩ := hf it (by simp)
    exact wpAny_pyNext_range_end (I.ok.hd hc) st (by have : n <= i := hg; omega) fun h' eb => ⟨rfl, I.turned (t' := s.toks) (fun b o hb e => eb b o hb e) f0 f1 f3 f4 f5⟩
  self := fun _ _ _ _ _ st h => wpAny_pyIter_rangeiter st h
end L2
namespace L2
open PySem PySem.Spec PyProof.Rows
section
variable {X : Cx} {tg : Expr}
def iList (K : PySem.W.Frag) (tl : TE) : TI := fun σ H R => tl σ H fun x H1 => ∃ a, x = .ref a /\ (∃ xs, SqL K H1 a xs) /\ R (Itl K a) H1
def iTup (K : PySem.W.Frag) (tl : TE) : TI := fun σ H R => tl σ H fun x H1 => ∃ a, x = .ref a /\ (∃ xs, SqT K H1 a xs) /\ R (Itt K a) H1
theorem pi_list {l : Expr} {tl : TE} (hl : PE X l tl) : PI X tg l (iList X.K tl) := by
  intro pins s σ H R I h
  refine thn (hl pins s σ H _ I h) fun v s1 ⟨x, H1, I1, r1, q1⟩ => ?_
  obtain ⟨a, e, ⟨xs, hq⟩, q⟩ := q1
  subst e
  cases r1
  obtain ⟨its, rv, p, hz⟩ := I1.list hq
  refine wpAny_pyIter_list p.isList ?_
  refine ⟨s1.heap.objs.size, [s1.heap.objs.size], _, _, H1, rfl, I1.kept (t' := s1.toks) fun b o e => Heap.get?_push_of_some _ e, turn_list a _, ⟨_, Heap.get?_push_size _ rfl, rfl, rfl⟩, fun b hb => ?_, q⟩
  have e : b = s1.heap.objs.size := by simpa using hb
  subst e
  exact I1.fpOk (Nat.le_refl _) (I1.hok.fresh (Nat.le_refl _))
theorem pi_tup {l : Expr} {tl : TE} (hl : PE X l tl) : PI X tg l (iTup X.K tl) := by
  intro pins s σ H R I h
  refine thn (hl pins s σ H _ I h) fun v s1 ⟨x, H1, I1, r1, q1⟩ => ?_
  obtain ⟨a, e, ⟨xs, hq⟩, q⟩ := q1
  subst e
  cases r1
  obtain ⟨its, rv, p, hz⟩ := I1.tuple hq
  refine wpAny_pyIter_tuple (show s1.heap.IsTuple a its.toArray from p) ?_
  refine ⟨s1.heap.objs.size, [s1.heap.objs.size], _, _, H1, rfl, I1.kept (t' := s1.toks) fun b o e => Heap.get?_push_of_some _ e, turn_tuple a _, ⟨_, Heap.get?_push_size _ rfl, rfl, rfl⟩, fun b hb => ?_, q⟩
  have e : b = s1.heap.objs.size := by simpa using hb
  subst e
  exact I1.fpOk (Nat.le_refl _) (I1.hok.fresh (Nat.le_refl _))
theorem range_it {pins : List (Addr × Obj)} {σ : St} {H : Hp} {s : Shared} {R : It -> Hp -> Prop} {E : Value -> Shared -> Prop} {lo hi : Int} {t u v : Tok} {tk : Nat} (I : Inv X pins σ H s) (h1 : -(2 ^ 62) <= lo) (h2 : lo < 2 ^ 62) (h3 : -(2 ^ 62) <= hi) (h4 : hi < 2 ^ 62)
    (q : R (Itr lo (hi - lo).toNat) H) : wpAny (model X.prog X.w) X.A (pyIter (.ref s.heap.objs.size)) (PIE X pins σ tg R) E { s with heap := s.heap.push { cls := .type "range", data := .fields #[.int lo t, .int hi u, .int 1 v] }, toks := tk } := by
  refine wpAny_pyIter_range (IsRange.new ..) (small_one h1 h2 h3 h4) ?_
  have I1 : Inv X pins σ H { s with heap := s.heap.push { cls := .type "range", data := .fields #[.int lo t, .int hi u, .int 1 v] }, toks := tk } := I.kept fun b o e => Heap.get?_push_of_some _ e
  refine ⟨(s.heap.push { cls := .type "range", data := .fields #[.int lo t, .int hi u, .int 1 v] }).objs.size, [(s.heap.push { cls := .type "range", data := .fields #[.int lo t, .int hi u, .int 1 v] }).objs.size], _, _, H, rfl,
    I1.kept (t' := tk) fun b o e => Heap.get?_push_of_some _ e, turn_range _ lo (hi - lo).toNat, ?_, fun b hb => ?_, q⟩
  . have e1 : lo + ((0 : Nat) : Int) * 1 = lo := by simp
    have e2 : (((hi - lo).toNat : Nat) : Int) - ((0 : Nat) : Int) = Builtin.Range.rangeSize lo hi 1 := by rw [rangeSize_one]; split <;> omega
    show IsRangeIter _ _ (lo + ((0 : Nat) : Int) * 1) ((((hi - lo).toNat : Nat) : Int) - ((0 : Nat) : Int)) 1
    rw [e1, e2]
    exact Heap.get?_push_size _ rfl
  . have e : b = (s.heap.push { cls := .type "range", data := .fields #[.int lo t, .int hi u, .int 1 v] }).objs.size := by simpa using hb
    subst e
    exact I1.fpOk (Nat.le_refl _) (I1.hok.fresh (Nat.le_refl _))
def iRng1 (ta : TA) : TI := fun σ H R => ta σ H fun vs H1 => ∃ j : Int, vs = [.int j] /\ -(2 ^ 62) <= j /\ j < 2 ^ 62 /\ R (Itr 0 j.toNat) H1
theorem pi_range1 {a : Expr} {ta : TA} {p pos : Pos} (hg : Gl X "range") (hm : X.mg "range" = none) (ha : PA X [a] ta) (hs : starEach [a] X.env = [(false, eval a X.env)] := by rfl) : PI X tg (.Call (.Name "range" p) [a] [] pos) (iRng1 ta) := by
  intro pins s σ H R I h
  refine Call_ (ld_blt I hg hm boot_range (PyProof.Rows.callWith_type1 (thn (ha pos pins s σ H _ I h) fun us s1 ⟨vs, H1, I1, r1, q1⟩ => ?_) hs rfl))
  obtain ⟨j, e, q1, q2, q⟩ := q1
  subst e
  cases r1 with
  | cons r rr =>
    cases rr
    obtain ⟨t, rfl⟩ := r
    exact call_range_1 (range_it I1 (by omega) (by omega) q1 q2 (by simpa using q))
def tFor (wi : TI) (g : TG) (tb : TS) : TS := fun D σ H => wi σ H fun J H1 => ∃ W : Nat -> Nat -> St -> Hp -> Prop, (∃ m, W 0 m σ H1) /\ ∀ i m σ H, W i m σ H ->
  (J.stop i H /\ D.nx σ H) \/ (J.go i H /\ ∃ N : St -> Hp -> Prop, (∀ σ' H', N σ' H' -> ∃ m', m' < m /\ W (i + 1) m' σ' H') /\ ∀ x H', J.yld i H x H' -> g x σ H' fun σ2 H2 => tb { D with nx := N, ct := N, bk := D.nx } σ2 H2)
def pinsAt (fp : List Addr) (h : Heap) : List (Addr × Obj) := fp.filterMap fun b => (h.get? b).map fun o => (b, o)
theorem mem_pinsAt {fp : List Addr} {h : Heap} {b : Addr} {o : Obj} (hb : b ∈ fp) (e : h.get? b = some o) : (b, o) ∈ pinsAt fp h := List.mem_filterMap.mpr ⟨b, hb, by rw [e]; rfl⟩
theorem of_pinsAt {fp : List Addr} {h : Heap} {p : Addr × Obj} (hp : p ∈ pinsAt fp h) : p.1 ∈ fp /\ h.get? p.1 = some p.2 := by
  obtain ⟨b, hb, e⟩ := List.mem_filterMap.mp hp
  cases q : h.get? b with
  | none => rw [q] at e; cases e
  | some o =>
    rw [q] at e
    have e' : (b, o) = p := Option.some.inj e
    subst e'
    exact ⟨hb, q⟩
theorem Inv.pinned {pins : List (Addr × Obj)} {σ : St} {H : Hp} {s : Shared} {fp : List Addr} (I : Inv X pins σ H s) (hf : ∀ b ∈ fp, FpOk X pins H b) (ho : ∀ b ∈ fp, ∃ o, s.heap.get? b = some o /\ ∀ v, o.data ≠ .cell v) : Inv X (pins ++ pinsAt fp s.heap) σ H s :=
  I.pins_of fun p hp => (List.mem_append.mp hp).elim (fun z => I.pin p (List.mem_append_right _ z)) fun z => by
    obtain ⟨hb, e⟩ := of_pinsAt z
    obtain ⟨f0, f1, f2, _⟩ := hf p.1 hb
    obtain ⟨o, e', d⟩ := ho p.1 hb
    rw [e] at e'; cases e'
    exact ⟨e, f0, f1, f2, d⟩
theorem Inv.unpinned {pins pl : List (Addr × Obj)} {σ : St} {H : Hp} {s : Shared} (I : Inv X (pins ++ pl) σ H s) : Inv X pins σ H s := I.pins_of fun p hp => I.pin p (List.mem_append_right _ (List.mem_append_left _ hp))
theorem ps_for {iter : Expr} {body : List Stmt} {wi : TI} {g : TG} {tb : TS} {pos : Pos} (hp : PassesOwn (model X.prog X.w) X.A X.env X.xe) (hc : X.calm = true) (hi : PI X tg iter wi) (hg : PG X tg g) (hb : PSs X body tb)
    (hs : ∀ x, foldedSetIterable iter X.env x = pure x := by intro _; rfl) : PS X (.For tg iter body [] pos) (tFor wi g tb) := by
  intro pins s σ H D I h
  refine wpAny_For (thn (hi pins s σ H _ I h) fun v s1 h1 => thn h1 fun itv s2 h2 => ?_) hs
  obtain ⟨it, fp, tn, J, H2, e, I2, T, st2, f2, W, ⟨m0, w0⟩, turn⟩ := h2
  subst e
  -- what stays true of the iterator's objects through the loop
  have stat : ∀ {H' : Hp}, (∀ b ∈ fp, H' b = none) -> ∀ b ∈ fp, FpOk X pins H' b := fun hn b hb => ⟨hn b hb, (f2 b hb).2⟩
  refine codeAny_forLoop_any (fun n s' => ∃ i σ' H', Inv X pins σ' H' s' /\ tn i s'.heap /\ (∀ b ∈ fp, H' b = none) /\ W i n σ' H') ?_ m0 ⟨0, σ, H2, I2, st2, fun b hb => (f2 b hb).1, w0⟩
  rintro n s3 ⟨i, σ3, H3, I3, st3, fr3, w3⟩
  rcases turn i n σ3 H3 w3 with ⟨stop, qn⟩ | ⟨go, N, hN, step⟩
  . refine wpAny_passesOwn hp (thn (T.done X rfl rfl rfl hc i pins s3 σ3 H3 X.xe I3 (stat fr3) st3 stop) fun r s4 ⟨hr, I4⟩ => ?_)
    subst hr
    exact wpAny_execs_nil ⟨σ3, H3, I4, qn⟩
  . refine wpAny_passesOwn hp (thn (T.item X rfl rfl rfl hc i pins s3 σ3 H3 X.xe I3 (stat fr3) st3 go) fun r s4 ⟨u, hr, h4⟩ => ?_)
    subst hr
    refine wpAny_passesOwn hp (thn h4 fun _ s5 ⟨x, H5, I5, r5, y5, st5, fr5⟩ => ?_)
    have I5' := I5.pinned (stat fr5) (T.obj _ _ st5)
    refine wpAny_passesOwn hp (thn (hg _ s5 σ3 H5 x u _ I5' r5 (step x H5 y5)) fun _ s6 ⟨σ6, H6, I6, q6⟩ => ?_)
    refine wpAny_passesOwn hp (thn (hb _ s6 σ6 H6 _ I6 q6) fun f s7 q7 => ?_)
    have again : ∀ {σ7 : St} {H7 : Hp}, Inv X (pins ++ pinsAt fp s5.heap) σ7 H7 s7 -> N σ7 H7 -> ∃ m, m < n /\ ∃ i σ' H', Inv X pins σ' H' s7 /\ tn i s7.heap /\ (∀ b ∈ fp, H' b = none) /\ W i m σ' H' := fun {σ7 H7} I7 n7 => by
      obtain ⟨m', hm, w7⟩ := hN σ7 H7 n7
      refine ⟨m', hm, i + 1, σ7, H7, I7.unpinned, T.keep _ _ _ st5 fun b hb o e => (I7.pin (b, o) (List.mem_append_right _ (List.mem_append_right _ (mem_pinsAt hb e)))).1, fun b hb => ?_, w7⟩
      obtain ⟨o, e, d⟩ := T.obj _ _ st5 b hb
      exact (I7.pin (b, o) (List.mem_append_right _ (List.mem_append_right _ (mem_pinsAt hb e)))).2.1
    cases f with
    | next => obtain ⟨σ7, H7, I7, n7⟩ := q7; exact again I7 n7
    | cont => obtain ⟨σ7, H7, I7, n7⟩ := q7; exact again I7 n7
    | brk => obtain ⟨σ7, H7, I7, q7⟩ := q7; exact ⟨σ7, H7, I7.unpinned, q7⟩
    | ret v => obtain ⟨x7, σ7, H7, I7, r7, q7⟩ := q7; exact ⟨x7, σ7, H7, I7.unpinned, r7, q7⟩
end
theorem for_list {K : PySem.W.Frag} {a : Addr} {xs : List V} {g : TG} {tb : TS} {D : Ends} {σ : St} {H : Hp} (Pv : Nat -> St -> Hp -> Prop) (h0 : Pv 0 σ H) (hl : ∀ i σ H, i <= xs.length -> Pv i σ H -> SqL K H a xs)
    (hs : ∀ i x σ H, xs[i]? = some x -> Pv i σ H -> g x σ H fun σ2 H2 => tb { D with nx := Pv (i + 1), ct := Pv (i + 1), bk := D.nx } σ2 H2) (hd : ∀ σ H, Pv xs.length σ H -> D.nx σ H) :
    ∃ W : Nat -> Nat -> St -> Hp -> Prop, (∃ m, W 0 m σ H) /\ ∀ i m σ H, W i m σ H ->
      ((Itl K a).stop i H /\ D.nx σ H) \/ ((Itl K a).go i H /\ ∃ N : St -> Hp -> Prop, (∀ σ' H', N σ' H' -> ∃ m', m' < m /\ W (i + 1) m' σ' H') /\ ∀ x H', (Itl K a).yld i H x H' -> g x σ H' fun σ2 H2 => tb { D with nx := N, ct := N, bk := D.nx } σ2 H2) := by
  refine ⟨fun i m σ H => m = xs.length - i /\ i <= xs.length /\ Pv i σ H, ⟨xs.length, by simp, Nat.zero_le _, h0⟩, ?_⟩
  rintro i m σ H ⟨rfl, hi, p⟩
  have q := hl i σ H hi p
  by_cases hlt : i < xs.length
  . refine .inr ⟨⟨xs, xs[i], q, by simp [hlt]⟩, Pv (i + 1), fun σ' H' p' => ⟨xs.length - (i + 1), by omega, rfl, hlt, p'⟩, fun x H' y => ?_⟩
    obtain ⟨e, y⟩ := y
    subst e
    exact hs i x σ _ (y xs q) p
  . have e : i = xs.length := by omega
    subst e
    exact .inl ⟨⟨xs, q, Nat.le_refl _⟩, hd σ H p⟩
theorem for_tup {K : PySem.W.Frag} {a : Addr} {xs : List V} {g : TG} {tb : TS} {D : Ends} {σ : St} {H : Hp} (Pv : Nat -> St -> Hp -> Prop) (h0 : Pv 0 σ H) (hl : ∀ i σ H, i <= xs.length -> Pv i σ H -> SqT K H a xs)
    (hs : ∀ i x σ H, xs[i]? = some x -> Pv i σ H -> g x σ H fun σ2 H2 => tb { D with nx := Pv (i + 1), ct := Pv (i + 1), bk := D.nx } σ2 H2) (hd : ∀ σ H, Pv xs.length σ H -> D.nx σ H) :
    ∃ W : Nat -> Nat -> St -> Hp -> Prop, (∃ m, W 0 m σ H) /\ ∀ i m σ H, W i m σ H ->
      ((Itt K a).stop i H /\ D.nx σ H) \/ ((Itt K a).go i H /\ ∃ N : St -> Hp -> Prop, (∀ σ' H', N σ' H' -> ∃ m', m' < m /\ W (i + 1) m' σ' H') /\ ∀ x H', (Itt K a).yld i H x H' -> g x σ H' fun σ2 H2 => tb { D with nx := N, ct := N, bk := D.nx } σ2 H2) := by
  refine ⟨fun i m σ H => m = xs.length - i /\ i <= xs.length /\ Pv i σ H, ⟨xs.length, by simp, Nat.zero_le _, h0⟩, ?_⟩
  rintro i m σ H ⟨rfl, hi, p⟩
  have q := hl i σ H hi p
  by_cases hlt : i < xs.length
  . refine .inr ⟨⟨xs, xs[i], q, by simp [hlt]⟩, Pv (i + 1), fun σ' H' p' => ⟨xs.length - (i + 1), by omega, rfl, hlt, p'⟩, fun x H' y => ?_⟩
    obtain ⟨e, y⟩ := y
    subst e
    exact hs i x σ _ (y xs q) p
  . have e : i = xs.length := by omega
    subst e
    exact .inl ⟨⟨xs, q, Nat.le_refl _⟩, hd σ H p⟩
theorem for_range {lo : Int} {n : Nat} {g : TG} {tb : TS} {D : Ends} {σ : St} {H : Hp} (Pv : Nat -> St -> Hp -> Prop) (h0 : Pv 0 σ H)
    (hs : ∀ i σ H, i < n -> Pv i σ H -> g (.int (lo + i)) σ H fun σ2 H2 => tb { D with nx := Pv (i + 1), ct := Pv (i + 1), bk := D.nx } σ2 H2) (hd : ∀ σ H, Pv n σ H -> D.nx σ H) :
    ∃ W : Nat -> Nat -> St -> Hp -> Prop, (∃ m, W 0 m σ H) /\ ∀ i m σ H, W i m σ H ->
      ((Itr lo n).stop i H /\ D.nx σ H) \/ ((Itr lo n).go i H /\ ∃ N : St -> Hp -> Prop, (∀ σ' H', N σ' H' -> ∃ m', m' < m /\ W (i + 1) m' σ' H') /\ ∀ x H', (Itr lo n).yld i H x H' -> g x σ H' fun σ2 H2 => tb { D with nx := N, ct := N, bk := D.nx } σ2 H2) := by
  refine ⟨fun i m σ H => m = n - i /\ i <= n /\ Pv i σ H, ⟨n, by simp, Nat.zero_le _, h0⟩, ?_⟩
  rintro i m σ H ⟨rfl, hi, p⟩
  by_cases hlt : i < n
  . refine .inr ⟨hlt, Pv (i + 1), fun σ' H' p' => ⟨n - (i + 1), by omega, rfl, hlt, p'⟩, fun x H' y => ?_⟩
    obtain ⟨e, y⟩ := y
    subst e y
    exact hs i σ _ hlt p
  . have e : i = n := by omega
    subst e
    exact .inl ⟨Nat.le_refl _, hd σ H p⟩
end L2
namespace L2
open PySem PySem.Spec PyProof.Rows
abbrev R2 := V -> V -> Hp -> VK -> Prop
def OpR (X : Cx) (f : Value -> Value -> Sem Value) (r : R2) : Prop :=
  ∀ (pins : List (Addr × Obj)) (s : Shared) (σ : St) (H : Hp) (x y : V) (v u : Value) (Q : VK), Inv X pins σ H s -> RelV x v -> RelV y u -> r x y H Q ->
    wpAny (model X.prog X.w) X.A (f v u) (EP X pins σ Q) X.xe s
def UnR (X : Cx) (f : Value -> Sem Value) (r : V -> Hp -> VK -> Prop) : Prop :=
  ∀ (pins : List (Addr × Obj)) (s : Shared) (σ : St) (H : Hp) (x : V) (v : Value) (Q : VK), Inv X pins σ H s -> RelV x v -> r x H Q ->
    wpAny (model X.prog X.w) X.A (f v) (EP X pins σ Q) X.xe s
def CallR (X : Cx) (f : Value) (r : List V -> Hp -> VK -> Prop) : Prop :=
  ∀ (pins : List (Addr × Obj)) (s : Shared) (σ : St) (H : Hp) (xs : List V) (us : List Value) (Q : VK), Inv X pins σ H s -> Vals xs us -> r xs H Q ->
    wpAny (model X.prog X.w) X.A (call f us) (EP X pins σ Q) X.xe s
def tOp (r : R2) (ta tb : TE) : TE := fun σ H Q => ta σ H fun x H1 => tb σ H1 fun y H2 => r x y H2 Q
def tUn (r : V -> Hp -> VK -> Prop) (ta : TE) : TE := fun σ H Q => ta σ H fun x H1 => r x H1 Q
def rI (C : Int -> Int -> Prop) (g : Int -> Int -> V) : R2 := fun x y H Q => ∃ i j, x = .int i /\ y = .int j /\ C i j /\ Q (g i j) H
def rI0 (g : Int -> Int -> V) : R2 := fun x y H Q => ∃ i j, x = .int i /\ y = .int j /\ Q (g i j) H
def rU (g : Int -> V) : V -> Hp -> VK -> Prop := fun x H Q => ∃ i, x = .int i /\ Q (g i) H
section
variable {X : Cx} {a b c : Expr} {ta tb tc : TE} {pos : Pos}
theorem binT (ha : PE X a ta) (hb : PE X b tb) {pins : List (Addr × Obj)} {s : Shared} {σ : St} {H : Hp} {R : V -> V -> Hp -> Prop} (I : Inv X pins σ H s)
    (h : ta σ H fun x H1 => tb σ H1 fun y H2 => R x y H2) {Q : Value -> Shared -> Prop} {f : Value -> Value -> Sem Value}
    (hf : ∀ v u s2 x y H2, Inv X pins σ H2 s2 -> RelV x v -> RelV y u -> R x y H2 -> wpAny (model X.prog X.w) X.A (f v u) Q X.xe s2) :
    wpAny (model X.prog X.w) X.A (eval a X.env) (fun v s₁ => wpAny (model X.prog X.w) X.A (eval b X.env) (fun u s₂ => wpAny (model X.prog X.w) X.A (f v u) Q X.xe s₂) X.xe s₁) X.xe s := by
  refine thn (ha pins s σ H _ I h) fun v s1 ⟨x, H1, I1, r1, q1⟩ => ?_
  refine thn (hb pins s1 σ H1 _ I1 q1) fun u s2 ⟨y, H2, I2, r2, q2⟩ => ?_
  exact hf v u s2 x y H2 I2 r1 r2 q2
theorem pe_op {op : Operator} {r : R2} (ho : OpR X (binaryOp op) r) (ha : PE X a ta) (hb : PE X b tb) : PE X (.BinOp a op b pos) (tOp r ta tb) := by
  intro pins s σ H Q I h
  exact wpAny_BinOp (binT ha hb I h fun v u s2 x y H2 I2 rx ry q => ho pins s2 σ H2 x y v u Q I2 rx ry q)
theorem pe_un {op : UnaryOp} {r : V -> Hp -> VK -> Prop} (ho : UnR X (unaryOp op) r) (ha : PE X a ta) : PE X (.UnaryOp op a pos) (tUn r ta) := by
  intro pins s σ H Q I h
  exact UnaryOp_ (thn (ha pins s σ H _ I h) fun v s1 ⟨x, H1, I1, r1, q1⟩ => ho pins s1 σ H1 x v Q I1 r1 q1)
theorem opI {f : Value -> Value -> Sem Value} {C : Int -> Int -> Prop} {g : Int -> Int -> Int}
    (rule : ∀ (i j : Int) (t u : Tok) (s : Shared) (Q : Value -> Shared -> Prop) (E : Value -> Shared -> Prop), C i j -> Q (.int (g i j) s.toks) { s with toks := s.toks + 1 } -> wpAny (model X.prog X.w) X.A (f (.int i t) (.int j u)) Q E s) :
    OpR X f (rI C fun i j => .int (g i j)) := by
  intro pins s σ H x y v u Q I rx ry h
  obtain ⟨i, j, rfl, rfl, hc, q⟩ := h
  obtain ⟨t, rfl⟩ := rx
  obtain ⟨t', rfl⟩ := ry
  exact rule i j t t' s _ _ hc ⟨.int (g i j), H, I.tok _, ⟨_, rfl⟩, q⟩
theorem opI0 {f : Value -> Value -> Sem Value} {g : Int -> Int -> Int}
    (rule : ∀ (i j : Int) (t u : Tok) (s : Shared) (Q : Value -> Shared -> Prop) (E : Value -> Shared -> Prop), Q (.int (g i j) s.toks) { s with toks := s.toks + 1 } -> wpAny (model X.prog X.w) X.A (f (.int i t) (.int j u)) Q E s) :
    OpR X f (rI0 fun i j => .int (g i j)) := by
  intro pins s σ H x y v u Q I rx ry h
  obtain ⟨i, j, rfl, rfl, q⟩ := h
  obtain ⟨t, rfl⟩ := rx
  obtain ⟨t', rfl⟩ := ry
  exact rule i j t t' s _ _ ⟨.int (g i j), H, I.tok _, ⟨_, rfl⟩, q⟩
theorem opB0 {f : Value -> Value -> Sem Value} {g : Int -> Int -> Bool}
    (rule : ∀ (i j : Int) (t u : Tok) (s : Shared) (Q : Value -> Shared -> Prop) (E : Value -> Shared -> Prop), Q (.bool (g i j)) s -> wpAny (model X.prog X.w) X.A (f (.int i t) (.int j u)) Q E s) :
    OpR X f (rI0 fun i j => .bl (g i j)) := by
  intro pins s σ H x y v u Q I rx ry h
  obtain ⟨i, j, rfl, rfl, q⟩ := h
  obtain ⟨t, rfl⟩ := rx
  obtain ⟨t', rfl⟩ := ry
  exact rule i j t t' s _ _ ⟨.bl (g i j), H, I, rfl, q⟩
def CDiv (i j : Int) : Prop := 0 < j /\ j < 1073741824
def CMul (i j : Int) : Prop := (-(2 ^ 64) < i /\ i < 2 ^ 64) \/ (-(2 ^ 64) < j /\ j < 2 ^ 64)
theorem CMul.ok {i j : Int} (h : CMul i j) : IntMulOk i j := by
  rcases h with ⟨h1, h2⟩ | ⟨h1, h2⟩
  . exact .of_left (intBits_le_64 h1 h2)
  . exact .of_right (intBits_le_64 h1 h2)
theorem op_add : OpR X (binaryOp .Add) (rI0 fun i j => .int (i + j)) := opI0 fun _ _ _ _ _ _ _ q => add_int q
theorem op_mul : OpR X (binaryOp .Mult) (rI CMul fun i j => .int (i * j)) := opI fun _ _ _ _ _ _ _ hc q => mul_int q hc.ok
theorem op_fdiv : OpR X (binaryOp .FloorDiv) (rI CDiv fun i j => .int (i / j)) := opI fun i j _ _ _ _ _ hc q => by
  have h1 : (0 : Int) < j := hc.1
  have h2 : j < 1073741824 := hc.2
  exact floordiv_int (by omega) (by rw [Int.fdiv_eq_ediv_of_nonneg i (by omega)]; exact q) (.inl (PyProof.noPylong_small (by omega)))
theorem op_mod : OpR X (binaryOp .Mod) (rI (fun _ j => 0 < j) fun i j => .int (i % j)) := opI fun i j _ _ _ _ _ hc q => by
  have h1 : (0 : Int) < j := hc
  exact mod_int' (by omega) (by rw [Int.fmod_eq_emod_of_nonneg i (by omega)]; exact q)
theorem unI {f : Value -> Sem Value} {g : Int -> Int}
    (rule : ∀ (i : Int) (t : Tok) (s : Shared) (Q : Value -> Shared -> Prop) (E : Value -> Shared -> Prop), Q (.int (g i) s.toks) { s with toks := s.toks + 1 } -> wpAny (model X.prog X.w) X.A (f (.int i t)) Q E s) :
    UnR X f (rU fun i => .int (g i)) := by
  intro pins s σ H x v Q I rx h
  obtain ⟨i, rfl, q⟩ := h
  obtain ⟨t, rfl⟩ := rx
  exact rule i t s _ _ ⟨.int (g i), H, I.tok _, ⟨_, rfl⟩, q⟩
theorem un_neg : UnR X (unaryOp .USub) (rU fun i => .int (-i)) := unI fun _ _ _ _ _ q => neg_int q
end
def scal : V -> V -> Bool
  | .non, .non => true | .non, .int _ => true | .int _, .non => true | .non, .bl _ => true | .bl _, .non => true | .non, .str _ => true | .str _, .non => true
  | .int _, .int _ => true | .bl _, .bl _ => true | .str _, .str _ => true | .byt _, .byt _ => true
  | .int _, .str _ => true | .str _, .int _ => true | .bl _, .str _ => true | .str _, .bl _ => true
  | _, _ => false
def rEq : R2 := fun x y H Q => scal x y = true /\ Q (.bl (decide (x = y))) H
def rNe : R2 := fun x y H Q => scal x y = true /\ Q (.bl (!decide (x = y))) H
theorem dec_int {i j : Int} : decide (V.int i = V.int j) = (i == j) := by
  rw [Bool.eq_iff_iff]
  simp
theorem dec_bl {i j : Bool} : decide (V.bl i = V.bl j) = (i == j) := by
  rw [Bool.eq_iff_iff]
  simp
theorem dec_str {i j : Str} : decide (V.str i = V.str j) = (i == j) := by
  rw [Bool.eq_iff_iff]
  simp
theorem dec_byt {i j : Array UInt8} : decide (V.byt i = V.byt j) = (i.toList == j.toList) := by
  rw [Bool.eq_iff_iff]
  cases i
  cases j
  simp
section
variable {X : Cx} {a b c : Expr} {ta tb tc : TE} {pos : Pos}
theorem fin_bl {pins : List (Addr × Obj)} {σ : St} {H : Hp} {s : Shared} {Q : VK} {k k' : Bool} (I : Inv X pins σ H s) (q : Q (.bl k) H) (e : k = k') : EP X pins σ Q (.bool k') s := by
  subst e
  exact ⟨.bl k, H, I, rfl, q⟩
theorem op_eq : OpR X (compareOp .Eq) rEq := by
  intro pins s σ H x y v u Q I rx ry h
  obtain ⟨hs, q⟩ := h
  cases x with
  | non =>
    cases rx
    cases y with
    | non => cases ry; exact PySem.EqNone.eq_none_none (fin_bl I q (by simp))
    | bl j => cases ry; exact PySem.EqNone.eq_none_bool (fin_bl I q (by simp))
    | int j => obtain ⟨t', rfl⟩ := ry; exact PySem.EqNone.eq_none_int (fin_bl I q (by simp))
    | str j => obtain ⟨t', rfl⟩ := ry; exact PySem.EqNone.eq_none_str (fin_bl I q (by simp))
    | _ => exact absurd (show false = true from hs) Bool.false_ne_true
  | bl i =>
    cases rx
    cases y with
    | non => cases ry; exact PySem.EqNone.eq_bool_none (fin_bl I q (by simp))
    | bl j => cases ry; exact eq_bool (fin_bl I q dec_bl)
    | str j => obtain ⟨t', rfl⟩ := ry; exact PySem.EqMixed.eq_bool_str (fin_bl I q (by simp))
    | _ => exact absurd (show false = true from hs) Bool.false_ne_true
  | int i =>
    obtain ⟨t, rfl⟩ := rx
    cases y with
    | non => cases ry; exact PySem.EqNone.eq_int_none (fin_bl I q (by simp))
    | int j => obtain ⟨t', rfl⟩ := ry; exact eq_int (fin_bl I q dec_int)
    | str j => obtain ⟨t', rfl⟩ := ry; exact PySem.EqMixed.eq_int_str (fin_bl I q (by simp))
    | _ => exact absurd (show false = true from hs) Bool.false_ne_true
  | str i =>
    obtain ⟨t, rfl⟩ := rx
    cases y with
    | non => cases ry; exact PySem.EqNone.eq_str_none (fin_bl I q (by simp))
    | bl j => cases ry; exact PySem.EqMixed.eq_str_bool (fin_bl I q (by simp))
    | int j => obtain ⟨t', rfl⟩ := ry; exact PySem.EqMixed.eq_str_int (fin_bl I q (by simp))
    | str j => obtain ⟨t', rfl⟩ := ry; exact eq_str (fin_bl I q dec_str)
    | _ => exact absurd (show false = true from hs) Bool.false_ne_true
  | byt i =>
    obtain ⟨t, rfl⟩ := rx
    cases y with
    | byt j => obtain ⟨t', rfl⟩ := ry; exact PySem.W.eq_bytes (fin_bl I q dec_byt)
    | _ => exact absurd (show false = true from hs) Bool.false_ne_true
  | _ => cases y <;> exact absurd (show false = true from hs) Bool.false_ne_true
theorem op_ne : OpR X (compareOp .NotEq) rNe := by
  intro pins s σ H x y v u Q I rx ry h
  obtain ⟨hs, q⟩ := h
  cases x with
  | non =>
    cases rx
    cases y with
    | non => cases ry; exact PySem.EqNone.ne_none_none (fin_bl I q (by simp))
    | bl j => cases ry; exact PySem.EqNone.ne_none_bool (fin_bl I q (by simp))
    | int j => obtain ⟨t', rfl⟩ := ry; exact PySem.EqNone.ne_none_int (fin_bl I q (by simp))
    | str j => obtain ⟨t', rfl⟩ := ry; exact PySem.EqNone.ne_none_str (fin_bl I q (by simp))
    | _ => exact absurd (show false = true from hs) Bool.false_ne_true
  | bl i =>
    cases rx
    cases y with
    | non => cases ry; exact PySem.EqNone.ne_bool_none (fin_bl I q (by simp))
    | bl j => cases ry; exact ne_bool (fin_bl I q (congrArg not dec_bl))
    | str j => obtain ⟨t', rfl⟩ := ry; exact PySem.EqMixed.ne_bool_str (fin_bl I q (by simp))
    | _ => exact absurd (show false = true from hs) Bool.false_ne_true
  | int i =>
    obtain ⟨t, rfl⟩ := rx
    cases y with
    | non => cases ry; exact PySem.EqNone.ne_int_none (fin_bl I q (by simp))
    | int j => obtain ⟨t', rfl⟩ := ry; exact ne_int (fin_bl I q (congrArg not dec_int))
    | str j => obtain ⟨t', rfl⟩ := ry; exact PySem.EqMixed.ne_int_str (fin_bl I q (by simp))
    | _ => exact absurd (show false = true from hs) Bool.false_ne_true
  | str i =>
    obtain ⟨t, rfl⟩ := rx
    cases y with
    | non => cases ry; exact PySem.EqNone.ne_str_none (fin_bl I q (by simp))
    | bl j => cases ry; exact PySem.EqMixed.ne_str_bool (fin_bl I q (by simp))
    | int j => obtain ⟨t', rfl⟩ := ry; exact PySem.EqMixed.ne_str_int (fin_bl I q (by simp))
    | str j => obtain ⟨t', rfl⟩ := ry; exact ne_str (fin_bl I q (congrArg not dec_str))
    | _ => exact absurd (show false = true from hs) Bool.false_ne_true
  | byt i =>
    obtain ⟨t, rfl⟩ := rx
    cases y with
    | byt j => obtain ⟨t', rfl⟩ := ry; exact PySem.W.ne_bytes (fin_bl I q (congrArg not dec_byt))
    | _ => exact absurd (show false = true from hs) Bool.false_ne_true
  | _ => cases y <;> exact absurd (show false = true from hs) Bool.false_ne_true
theorem op_lt : OpR X (compareOp .Lt) (rI0 fun i j => .bl (decide (i < j))) := opB0 fun _ _ _ _ _ _ _ q => lt_int q
theorem op_le : OpR X (compareOp .LtE) (rI0 fun i j => .bl (decide (i <= j))) := opB0 fun _ _ _ _ _ _ _ q => le_int q
theorem op_gt : OpR X (compareOp .Gt) (rI0 fun i j => .bl (decide (j < i))) := opB0 fun _ _ _ _ _ _ _ q => gt_int q
theorem op_ge : OpR X (compareOp .GtE) (rI0 fun i j => .bl (decide (j <= i))) := opB0 fun _ _ _ _ _ _ _ q => ge_int q
theorem op_in_str : OpR X (compareOp .In) (fun x y H Q => ∃ i j, x = .str i /\ y = .str j /\ Q (.bl (!(Builtin.Str.occurrences j i 0 j.length 1).isEmpty)) H) := by
  intro pins s σ H x y v u Q I rx ry h
  obtain ⟨i, j, rfl, rfl, q⟩ := h
  obtain ⟨t, rfl⟩ := rx
  obtain ⟨t', rfl⟩ := ry
  exact in_str (fin_bl I q rfl)
theorem op_isN : OpR X (compareOp .Is) (fun x y H Q => y = .non /\ Q (.bl (decide (x = .non))) H) := by
  intro pins s σ H x y v u Q I rx ry h
  obtain ⟨rfl, q⟩ := h
  cases ry
  refine is_none_gen (fin_bl I q ?_)
  cases x <;> first
    | (cases rx; rfl)
    | (obtain ⟨t, rfl⟩ := rx; rfl)
theorem nomark (b : Expr) {op : CmpOp} (h : op ≠ .In := by decide) (h2 : op ≠ .NotIn := by decide) : behindInMarks op b = false := by
  have e1 : (op == CmpOp.In) = false := by cases op <;> first | rfl | exact absurd rfl h
  have e2 : (op == CmpOp.NotIn) = false := by cases op <;> first | rfl | exact absurd rfl h2
  cases b <;> simp [behindInMarks, e1, e2]
theorem pe_cmpR {op : CmpOp} {r : R2} (ho : OpR X (compareOp op) r) (ha : PE X a ta) (hb : PE X b tb) (hm : behindInMarks op b = false) : PE X (.Compare a [op] [b] pos) (tOp r ta tb) := by
  intro pins s σ H Q I h
  exact wpAny_Compare1 (binT ha hb I h fun v u s2 x y H2 I2 rx ry q => ho pins s2 σ H2 x y v u Q I2 rx ry q) hm
def tTest (t : TE) : TT := fun σ H Q => t σ H fun x H' => ∃ k, x = .bl k /\ Q k H'
theorem pt_cmpR {op : CmpOp} {r : R2} (ho : OpR X (compareOp op) r) (ha : PE X a ta) (hb : PE X b tb) (hm : behindInMarks op b = false) : PT X (.Compare a [op] [b] pos) (tTest (tOp r ta tb)) := by
  intro pins s σ H Q I h
  refine wpAny_isTrue_Compare1 (thn (ha pins s σ H _ I h) fun v s1 ⟨x, H1, I1, r1, q1⟩ => thn (hb pins s1 σ H1 _ I1 q1) fun u s2 ⟨y, H2, I2, r2, q2⟩ =>
    thn (ho pins s2 σ H2 x y v u _ I2 r1 r2 q2) fun c s3 ⟨z, H3, I3, r3, k, e, q3⟩ => ?_) hm
  subst e
  cases r3
  exact wpAny_truthy_bool ⟨H3, I3, q3⟩
def tChain (r r' : R2) (ta tb tc : TE) : TE := fun σ H Q => ta σ H fun x H1 => tb σ H1 fun y H2 => r x y H2 fun z H3 => ∃ k, z = .bl k /\
  (if k = true then tc σ H3 fun w' H4 => r' y w' H4 Q else Q (.bl false) H3)
theorem pe_chain {op op' : CmpOp} {r r' : R2} (ho : OpR X (compareOp op) r) (ho' : OpR X (compareOp op') r') (ha : PE X a ta) (hb : PE X b tb) (hc : PE X c tc)
    (hm : lastMarks [op, op'] [b, c] = false := by with_unfolding_all rfl) : PE X (.Compare a [op, op'] [b, c] pos) (tChain r r' ta tb tc) := by
  intro pins s σ H Q I h
  refine Compare_chain (thn (ha pins s σ H _ I h) fun v s1 ⟨x, H1, I1, r1, q1⟩ => chain_link (thn (hb pins s1 σ H1 _ I1 q1) fun u s2 ⟨y, H2, I2, r2, q2⟩ =>
    thn (ho pins s2 σ H2 x y v u _ I2 r1 r2 q2) fun d s3 ⟨z, H3, I3, r3, k, e, q3⟩ => ?_)) hm
  subst e
  cases r3
  refine wpAny_truthy_bool ?_
  cases k with
  | false => exact ite_ff ⟨.bl false, H3, I3, rfl, q3⟩
  | true => exact ite_tt (chain_last (thn (hc pins s3 σ H3 _ I3 q3) fun w' s4 ⟨z', H4, I4, r4, q4⟩ => ho' pins s4 σ H4 y z' u w' Q I4 r2 r4 q4))
theorem pt_chain {op op' : CmpOp} {r r' : R2} (ho : OpR X (compareOp op) r) (ho' : OpR X (compareOp op') r') (ha : PE X a ta) (hb : PE X b tb) (hc : PE X c tc)
    (hm : lastMarks [op, op'] [b, c] = false := by with_unfolding_all rfl) : PT X (.Compare a [op, op'] [b, c] pos) (tTest (tChain r r' ta tb tc)) := by
  intro pins s σ H Q I h
  refine isTrue_chain (thn (ha pins s σ H _ I h) fun v s1 ⟨x, H1, I1, r1, q1⟩ => test_link (thn (hb pins s1 σ H1 _ I1 q1) fun u s2 ⟨y, H2, I2, r2, q2⟩ =>
    thn (ho pins s2 σ H2 x y v u _ I2 r1 r2 q2) fun d s3 ⟨z, H3, I3, r3, k, e, q3⟩ => ?_)) hm
  subst e
  cases r3
  refine wpAny_truthy_bool ?_
  cases k with
  | false =>
    obtain ⟨k', e', q'⟩ := q3
    cases e'
    exact ite_ff ⟨H3, I3, q'⟩
  | true =>
    refine ite_tt (test_last (thn (hc pins s3 σ H3 _ I3 q3) fun w' s4 ⟨z', H4, I4, r4, q4⟩ => thn (ho' pins s4 σ H4 y z' u w' _ I4 r2 r4 q4) fun d' s5 ⟨z2, H5, I5, r5, k2, e2, q5⟩ => ?_))
    subst e2
    cases r5
    exact wpAny_truthy_bool ⟨H5, I5, q5⟩
theorem line63 : (sizeLine : Nat) < 2 ^ 63 := by rw [sizeLine_eq]; decide
theorem op_add_str : OpR X (binaryOp .Add) (fun x y H Q => ∃ i j, x = .str i /\ y = .str j /\ i.length + j.length <= sizeLine /\ Q (.str (i ++ j)) H) := by
  intro pins s σ H x y v u Q I rx ry h
  obtain ⟨i, j, rfl, rfl, hz, q⟩ := h
  obtain ⟨t, rfl⟩ := rx
  obtain ⟨t', rfl⟩ := ry
  exact add_str (fun t' tk => ⟨.str (i ++ j), H, I.tok _, ⟨_, rfl⟩, q⟩) hz
theorem vals1 {x : V} {us : List Value} (r : Vals [x] us) : ∃ u, us = [u] /\ RelV x u := by
  cases r with
  | cons r1 r2 => cases r2; exact ⟨_, rfl, r1⟩
theorem vals2 {x y : V} {us : List Value} (r : Vals [x, y] us) : ∃ u w', us = [u, w'] /\ RelV x u /\ RelV y w' := by
  cases r with
  | cons r1 r2 =>
    cases r2 with
    | cons r3 r4 => cases r4; exact ⟨_, _, rfl, r1, r3⟩
theorem call_max2 (hc : X.calm = true) : CallR X (.builtin "max") (fun xs H Q => ∃ i j, xs = [.int i, .int j] /\ Q (.int (if j > i then j else i)) H) := by
  intro pins s σ H xs us Q I r h
  obtain ⟨i, j, rfl, q⟩ := h
  obtain ⟨u, w', rfl, ⟨t, rfl⟩, ⟨t', rfl⟩⟩ := vals2 r
  refine max_two_ints (I.ok.hd hc) fun h' tk k => ⟨_, H, I.kept k, ?_, q⟩
  by_cases hj : j > i
  . rw [if_pos hj, if_pos hj]; exact ⟨_, rfl⟩
  . rw [if_neg hj, if_neg hj]; exact ⟨_, rfl⟩
theorem call_min2 (hc : X.calm = true) : CallR X (.builtin "min") (fun xs H Q => ∃ i j, xs = [.int i, .int j] /\ Q (.int (if j < i then j else i)) H) := by
  intro pins s σ H xs us Q I r h
  obtain ⟨i, j, rfl, q⟩ := h
  obtain ⟨u, w', rfl, ⟨t, rfl⟩, ⟨t', rfl⟩⟩ := vals2 r
  refine min_two_ints (I.ok.hd hc) fun h' tk k => ⟨_, H, I.kept k, ?_, q⟩
  by_cases hj : j < i
  . rw [if_pos hj, if_pos hj]; exact ⟨_, rfl⟩
  . rw [if_neg hj, if_neg hj]; exact ⟨_, rfl⟩
end
end L2
namespace L2
open PySem PySem.Spec PyProof.Rows
structure ObjM (h : Heap) (x dx C : Addr) (mA : Str -> Option Value) : Prop where
  obj : h.get? x = some (PySem.W.instObj C dx)
  ns : h.Ns1 dx mA
  ne : dx ≠ x
theorem lookIn_ns {h : Heap} {dx : Addr} {mA : Str -> Option Value} (n : h.Ns1 dx mA) : ∃ od, h.get? dx = some od /\ ∀ name, PySem.W.lookIn name od = some (mA name) := by
  obtain ⟨o, es, ep, ho, hd, hk, _, hm⟩ := n
  refine ⟨o, ho, fun name => ?_⟩
  have e := hm name
  unfold nsFind findBy at e
  rw [<- Array.find?_toList] at e
  unfold PySem.W.lookIn
  rw [hd]
  dsimp only
  split
  . rename_i y q
    rw [q] at e
    exact congrArg some e
  . rename_i q
    rw [q] at e
    have a : es.toList.any (·.refKey) = false := by
      rw [List.any_eq_false]
      intro y hy
      obtain ⟨z, t, hkey⟩ := hk y (Array.mem_toList_iff.mp hy)
      simp [DictEntry.refKey, hkey]
    have a' : ¬ es.toList.any (·.refKey) = true := by rw [a]; exact Bool.false_ne_true
    rw [if_neg a']
    exact congrArg some e
theorem ObjM.look {h : Heap} {x dx C : Addr} {mA : Str -> Option Value} (I : ObjM h x dx C mA) : ∃ od, PySem.W.InstAt h x (PySem.W.instObj C dx) C (some od) /\ ∀ name, PySem.W.lookIn name od = some (mA name) :=
  let ⟨od, ho, hl⟩ := lookIn_ns I.ns
  ⟨od, ⟨I.obj, rfl, rfl, ho⟩, hl⟩
section
variable {prog : Program} {w : World} {A : Around} {E : Value -> Shared -> Prop} {s : Shared} {K : PySem.W.Frag} {x dx C f : Addr} {mA : Str -> Option Value} {name : Str} {v : Value}
end
section
variable {P : Program} {w : World} {H H' : Hp} {h h' : Heap} {a C dx : Addr} {fs fs' : List (Str × V)}
theorem ins_get (hok : HOk P w H h) (e : H a = some (.ins C dx fs)) : ∃ mA, ObjM h a dx C mA /\ (∀ f, RelO (fs.lookup f) (mA f)) /\ PySem.Within mA (fs.map (·.1)) /\ fs.length <= 1000 /\ H dx = some (.own a) := by
  obtain ⟨d, z, ne, ob, mA, n, r, q⟩ := (show ObjOk P w H h a (.ins C dx fs) from hok a _ e)
  exact ⟨mA, ⟨ob, n, ne⟩, r, q, z, d⟩
end
structure Cls (K : PySem.W.Frag) (C : Addr) : Prop where
  pg : PySem.W.plainGet K C Str.empty = true
  hd : PySem.W.hasDictIn K C = true
  po : PySem.W.plainOver K C = true
  sa : PySem.W.findIn K (.ref C) "__setattr__" = some (some (.builtin "object.__setattr__"))
theorem Cls.get {K : PySem.W.Frag} {C : Addr} (c : Cls K C) (f : Str) : PySem.W.plainGet K C f = true := c.pg
section
variable {X : Cx} {pins : List (Addr × Obj)} {σ : St} {H : Hp} {s : Shared} {a C dx : Addr} {fs : List (Str × V)} {f : Str} {v : V} {A : Around} {E : Value -> Shared -> Prop}
end
section
variable {X : Cx} {o e value : Expr} {f : Str} {pos pos' tpos : Pos} {ta tv : TE}
end
section
variable {X : Cx} {pins : List (Addr × Obj)} {σ : St} {H : Hp} {s : Shared} {A : Around} {E : Value -> Shared -> Prop} {Q : Value -> Shared -> Prop} {c : Value} {b : Bool}
inductive TyOf (K : PySem.W.Frag) (H : Hp) : V -> Value -> Prop where
  | non : TyOf K H .non (.type "NoneType")
  | bl (x : Bool) : TyOf K H (.bl x) (.type "bool")
  | int (i : Int) : TyOf K H (.int i) (.type "int")
  | str (x : Str) : TyOf K H (.str x) (.type "str")
  | flt (x : UInt64) : TyOf K H (.flt x) (.type "float")
  | lst {a : Addr} {xs : List V} (e : H a = some (.lst xs)) : TyOf K H (.ref a) (.type "list")
  | frz {a : Addr} {o : Obj} {xs : List V} (e : H a = some (.frz o (.lst xs))) : TyOf K H (.ref a) (.type "list")
  | tup {a : Addr} {xs : List V} (e : H a = some (.tup xs)) : TyOf K H (.ref a) (.type "tuple")
  | dK {a : Addr} {kvs : List (Key × V)} (e : H a = some (.dK kvs)) : TyOf K H (.ref a) (.type "dict")
  | dT {a : Addr} {kvs : List (List Key × V)} (e : H a = some (.dT kvs)) : TyOf K H (.ref a) (.type "dict")
  | ins {a C dx : Addr} {fs : List (Str × V)} (e : H a = some (.ins C dx fs)) (cl : Cls K C) (ha : PySem.W.findIn K (.ref C) "__class__" = some (some (.builtin "object.__class__")))
      (hn : PySem.W.specialIn K (.builtin "object.__class__") "__get__" = some (some (.builtin "getset_descriptor.__get__"))) (htk : PySem.W.takesIn K (.builtin "object.__class__") = some true)
      (hm : PySem.W.mroIn K C (.type "object") = some true) : TyOf K H (.ref a) (.ref C)
theorem isinst_ok {x : V} {u t : Value} (I : Inv X pins σ H s) (rx : RelV x u) (ty : TyOf X.K H x t) (e : PySem.W.kitOne X.K t c = some b) (h : ∀ tk, Q (.bool b) { s with toks := tk }) :
    wpAny (model X.prog X.w) A (call (.builtin "isinstance") [u, c]) Q E s := by
  cases ty with
  | non => cases (show u = Value.none from rx); exact PySem.W.kia_one PySem.W.kitx_none I.kIn True.intro e (fun z => nomatch z) h
  | bl y => cases (show u = Value.bool y from rx); exact PySem.W.kia_one PySem.W.kitx_bool I.kIn True.intro e (fun z => nomatch z) h
  | int i => obtain ⟨t, q⟩ := (show ∃ t, u = Value.int i t from rx); cases q; exact PySem.W.kia_one PySem.W.kitx_int I.kIn True.intro e (fun z => nomatch z) h
  | str y => obtain ⟨t, q⟩ := (show ∃ t, u = Value.str y t from rx); cases q; exact PySem.W.kia_one PySem.W.kitx_str I.kIn True.intro e (fun z => nomatch z) h
  | flt y => obtain ⟨t, q⟩ := (show ∃ t, u = Value.float y t from rx); cases q; exact PySem.W.kia_one PySem.W.kitx_float I.kIn True.intro e (fun z => nomatch z) h
  | @lst a xs ea =>
    cases (show u = Value.ref a from rx)
    obtain ⟨_, _, n, _, h1⟩ := (show ObjOk X.prog X.w H s.heap a (.lst xs) from I.hok a _ ea)
    exact PySem.W.kia_one PySem.W.kitx_list I.kIn ⟨_, h1, rfl⟩ e (fun z => nomatch z) h
  | @frz a ob xs ea =>
    cases (show u = Value.ref a from rx)
    obtain ⟨_, _, _, n, _, h1⟩ := (show ObjOk X.prog X.w H s.heap a (.frz ob (.lst xs)) from I.hok a _ ea)
    exact PySem.W.kia_one PySem.W.kitx_list I.kIn ⟨_, h1, rfl⟩ e (fun z => nomatch z) h
  | @tup a xs ea =>
    cases (show u = Value.ref a from rx)
    obtain ⟨_, _, _, p⟩ := (show ObjOk X.prog X.w H s.heap a (.tup xs) from I.hok a _ ea)
    obtain ⟨o, h1, h2, _⟩ := p
    exact PySem.W.kia_one PySem.W.kitx_tuple I.kIn ⟨o, h1, h2⟩ e (fun z => nomatch z) h
  | @dK a kvs ea =>
    cases (show u = Value.ref a from rx)
    obtain ⟨_, _, vs, _, p⟩ := (show ObjOk X.prog X.w H s.heap a (.dK kvs) from I.hok a _ ea)
    obtain ⟨o, es, ep, h1, h2, _⟩ := p
    exact PySem.W.kia_one PySem.W.kitx_dict I.kIn ⟨o, h1, h2.1⟩ e (fun z => nomatch z) h
  | @dT a kvs ea =>
    cases (show u = Value.ref a from rx)
    obtain ⟨_, _, xs, _, o, es, ep, h1, h2, _⟩ := (show ObjOk X.prog X.w H s.heap a (.dT kvs) from I.hok a _ ea)
    exact PySem.W.kia_one PySem.W.kitx_dict I.kIn ⟨o, h1, h2.1⟩ e (fun z => nomatch z) h
  | @ins a C dx fs ea cl ha hn htk hm =>
    cases (show u = Value.ref a from rx)
    obtain ⟨mA, O, _⟩ := ins_get I.hok ea
    obtain ⟨od, J, _⟩ := O.look
    exact PySem.W.kia_one (PySem.W.kitx_own (cl.get _) cl.hd ha hn htk hm) I.kIn J e (fun z => nomatch z) h
end
end L2
namespace L2
open PySem PySem.Spec PyProof.Rows
structure Room (k : Nat) (A : Around) : Prop where
  hd : A.handled = none
  dp : A.depth + 3 * k + 5 < recursionLimit
  un : A.units + 16 * k + 200 < cLine
theorem Room.mono {j k : Nat} {A : Around} (r : Room k A) (h : j <= k) : Room j A := ⟨r.hd, by have := r.dp; omega, by have := r.un; omega⟩
theorem Room.deeper {k : Nat} {A : Around} (r : Room (k + 1) A) (env : Env) : Room k (A.deeper env) :=
  ⟨r.hd, by have := r.dp; show A.depth + 1 + 3 * k + 5 < _; omega, by have := r.un; show A.units + 3 + 16 * k + 200 < _; omega⟩
theorem Room.depth {k : Nat} {A : Around} (r : Room k A) : A.depth < recursionLimit := by have := r.dp; omega
theorem Room.units {k : Nat} {A : Around} (r : Room k A) : A.units + 64 < cLine := by have := r.un; omega
def tNil : TA := fun _ H Q => Q [] H
def tCons (ta : TE) (tr : TA) : TA := fun σ H Q => ta σ H fun x H1 => tr σ H1 fun xs H2 => Q (x :: xs) H2
section
variable {X : Cx} {e : Expr} {es : List Expr} {te : TE} {t : TA} {pos : Pos}
theorem pa_nil : PA X [] tNil := fun _ _ _ _ H Q I h => Calls.spliced_nil ⟨[], H, I, .nil, h⟩
theorem pa_cons (ha : PE X e te) (hr : PA X es t) (hs : starEach (e :: es) X.env = (false, eval e X.env) :: starEach es X.env := by rfl) : PA X (e :: es) (tCons te t) := by
  intro pos pins s σ H Q I h
  rw [hs]
  show wpAny _ _ (spliced ((false, eval e X.env) :: backTo pos (starEach es X.env))) _ _ s
  refine Calls.spliced_cons (thn (ha pins s σ H _ I h) fun u s1 ⟨x, H1, I1, r1, q1⟩ => ?_)
  exact thn (hr pos pins s1 σ H1 _ I1 q1) fun us s2 ⟨xs, H2, I2, r2, q2⟩ => ⟨x :: xs, H2, I2, .cons r1 r2, q2⟩
def tTup (t : TA) : TE := fun σ H Q => t σ H fun xs H1 => xs.length <= sizeLine /\ ∀ p, H1 p = none -> Q (.ref p) (upd H1 p (.tup xs))
def tLst (t : TA) : TE := fun σ H Q => t σ H fun xs H1 => xs.length <= sizeLine /\ ∀ p, H1 p = none -> Q (.ref p) (upd H1 p (.lst xs))
theorem pe_tup {x1} (h : PA X es t) : PE X (.Tuple es x1 pos) (tTup t) := by
  intro pins s σ H Q I hq
  refine wpAny_Tuple_spliced (thn (h pos pins s σ H _ I hq) fun us s1 ⟨xs, H1, I1, r, z, q⟩ => ⟨by rw [<- r.length]; exact z, ?_⟩)
  have hf : H1 s1.heap.objs.size = none := I1.hok.fresh (Nat.le_refl _)
  refine ⟨.ref s1.heap.objs.size, upd H1 s1.heap.objs.size (.tup xs), I1.laid (t' := s1.toks) (fun b u e => Heap.get?_push_of_some _ e) (Nat.le_refl _) ?_, rfl, q _ hf⟩
  exact ⟨z, us, r, ⟨_, Heap.get?_push_size _ rfl, rfl, _, rfl⟩⟩
theorem pe_lst (h : PA X es t) : PE X (.List es pos) (tLst t) := by
  intro pins s σ H Q I hq
  refine wpAny_List_spliced (thn (h pos pins s σ H _ I hq) fun us s1 ⟨xs, H1, I1, r, z, q⟩ => ⟨by rw [<- r.length]; exact z, ?_⟩)
  have hf : H1 s1.heap.objs.size = none := I1.hok.fresh (Nat.le_refl _)
  refine ⟨.ref s1.heap.objs.size, upd H1 s1.heap.objs.size (.lst xs), I1.laid (t' := s1.toks) (fun b u e => Heap.get?_push_of_some _ e) (Nat.le_refl _) ?_, rfl, q _ hf⟩
  exact ⟨z, us, 0, r, Heap.get?_push_size _ rfl⟩
end
abbrev Sp := List V -> Hp -> VK -> XK -> Prop
abbrev CXT := List Env -> Hp -> Shared -> XK -> Value -> Shared -> Prop
structure Env0 (P : Program) (w : World) (K : PySem.W.Frag) (mg : Str -> Option Value) (base : Heap) (A : Around) (outer : List Env) (s : Shared) (H : Hp) : Prop where
  frames : A.frames = some outer
  mod : Mod K mg base
  bs : ∀ b o, base.get? b = some o -> s.heap.get? b = some o /\ H b = none
  bsz : base.objs.size <= s.heap.objs.size
  funs : s.heap.FunFrames base outer
  frf : ∀ b ∈ frs outer, H b = none
  hok : HOk P w H s.heap
  bare : AllBare s.gens
def CE (outer : List Env) (P : Program) (w : World) (H : Hp) (s : Shared) (Q : VK) (u : Value) (s' : Shared) : Prop :=
  ∃ v H', s'.os = s.os /\ AllBare s'.gens /\ Un (frs outer) [] H H' s.heap s'.heap /\ HOk P w H' s'.heap /\ RelV v u /\ Q v H'
def CR (CX : CXT) (outer : List Env) (P : Program) (w : World) (H : Hp) (s : Shared) (Q : VK) (E : XK) (r : Result) (s' : Shared) : Prop :=
  match r with
  | .ok (.ret u) => CE outer P w H s Q u s'
  | .ok _ => False
  | .error e => CX outer H s E e s'
structure FnOk (P : Program) (w : World) (K : PySem.W.Frag) (mg : Str -> Option Value) (base : Heap) (CX : CXT) (k : Nat) (f : Addr) (fd : FuncData) (ps : List Str) (sp : Sp) : Prop where
  len : ∀ vs H Q E, sp vs H Q E -> vs.length = ps.length
  run : ∀ (A : Around) (outer : List Env) (s : Shared) (H : Hp) (args : Args) (us : List Value) (vs : List V) (Q : VK) (E : XK), Room k A -> Env0 P w K mg base A outer s H -> BindsTo s fd args (ps.zip us) -> Vals vs us -> sp vs H Q E ->
    codeAny (model P w) A (.call (.ref f) args) (CR CX outer P w H s Q E) s
section
variable {X : Cx} {pins : List (Addr × Obj)} {σ : St} {H : Hp} {s s' : Shared}
theorem Inv.env0 (I : Inv X pins σ H s) : Env0 X.prog X.w X.K X.mg X.base X.A X.stack s H :=
  ⟨I.ok.frames, I.ok.mod, I.bs, Nat.le_trans I.ok.bsz I.sz, I.stack, I.stkFree, I.hok, I.bare⟩
theorem Inv.after {Q : VK} {u : Value} (I : Inv X pins σ H s) (h : CE X.stack X.prog X.w H s Q u s') : EP X pins σ Q u s' := by
  obtain ⟨v, H', os, bare, un, hok, r, q⟩ := h
  obtain ⟨hh, g, d, t, os'⟩ := s'
  obtain rfl : os' = s.os := os
  exact ⟨v, H', I.call (h' := hh) (g' := g) (d' := d) (t' := t) (ch := []) un hok bare (fun b z => absurd z (by simp)), r, q⟩
end
def tCall (sp : Sp) (dvs : List V) (E : XK) (t : TA) : TE := fun σ H Q => t σ H fun vs H1 => sp (vs ++ dvs) H1 Q E
def Binds (K : PySem.W.Frag) (fd : FuncData) (ps : List Str) (ds : List Value) : Prop :=
  ∀ (s : Shared) (us : List Value), K.In s.heap -> (us ++ ds).length = ps.length -> BindsTo s fd ⟨us, []⟩ (ps.zip (us ++ ds))
theorem Binds.all {K : PySem.W.Frag} {fd : FuncData} {ps : List Str} (h : ∀ us : List Value, us.length = ps.length -> bindArgs fd ⟨us, []⟩ = pure (ps.zip us)) : Binds K fd ps [] := fun s us _ hl => by
  rw [List.append_nil] at hl ⊢
  exact .of_eq (h us hl)
def Passes (CX : CXT) (X : Cx) (E : XK) : Prop := ∀ (pins : List (Addr × Obj)) (σ : St) (H : Hp) (s : Shared) (e : Value) (s' : Shared), Inv X pins σ H s -> CX X.stack H s E e s' -> X.xe e s'
section
variable {X : Cx} {CX : CXT} {k : Nat} {f C : Addr} {fd : FuncData} {ps : List Str} {sp : Sp} {dvs : List V} {ds : List Value} {E : XK} {x m : Str} {p pos apos : Pos} {e o : Expr} {es : List Expr} {ta : TE} {t : TA}
theorem run_fn {pins : List (Addr × Obj)} {σ : St} {H : Hp} {s : Shared} {Q : VK} {us : List Value} {vs : List V} (F : FnOk X.prog X.w X.K X.mg X.base CX k f fd ps sp) (hr : Room k X.A) (hb : Binds X.K fd ps ds) (hd : Vals dvs ds) (hx : Passes CX X E)
    (I : Inv X pins σ H s) (r : Vals vs us) (h : sp (vs ++ dvs) H Q E) : wpAny (model X.prog X.w) X.A (call (.ref f) us) (EP X pins σ Q) X.xe s := by
  have r2 : Vals (vs ++ dvs) (us ++ ds) := r.append hd
  have hl : (us ++ ds).length = ps.length := by rw [<- r2.length]; exact F.len _ _ _ _ h
  refine wpAny_call (codeAny_mono (F.run X.A X.stack s H ⟨us, []⟩ (us ++ ds) (vs ++ dvs) Q E hr I.env0 (hb s us I.kIn hl) r2 h) fun r s' hq => ?_)
  cases r with
  | error e => exact hx pins σ H s e s' I hq
  | ok fl =>
    cases fl with
    | ret u => exact I.after hq
    | next => exact False.elim hq
    | brk => exact False.elim hq
    | cont => exact False.elim hq
theorem pe_call (F : FnOk X.prog X.w X.K X.mg X.base CX k f fd ps sp) (hr : Room k X.A) (hg : Gl X x) (hm : X.mg x = some (.ref f)) (hk : PySem.W.keepIn X.K (.ref f) = true) (hb : Binds X.K fd ps ds) (hd : Vals dvs ds) (hx : Passes CX X E)
    (ha : PA X (e :: es) t) (hdb : (x == ("__debug__" : Str)) = false := by decide) (he : starEach (e :: es) X.env = (false, eval e X.env) :: starEach es X.env := by rfl) (hpl : (backTo pos (starEach es X.env)).any (·.1) = false := by rfl) :
    PE X (.Call (.Name x p) (e :: es) [] pos) (tCall sp dvs E t) := by
  intro pins s σ H Q I h
  refine wpAny_Call_Name_kw (ld_glob I hg hm ?_ hdb)
  refine PySem.W.callWith_K (h₀ := X.base) I.ok.mod.kin hk (thn (ha pos pins s σ H _ I h) fun us s1 ⟨vs, H1, I1, r, q⟩ => ⟨I1.kIn, ?_⟩) he hpl
  exact run_fn F hr hb hd hx I1 r q
end
section
variable {X : Cx} {CX : CXT} {k : Nat} {f C : Addr} {fd : FuncData} {ps ks : List Str} {sp : Sp} {E : XK} {x m : Str} {p pos apos kpos : Pos} {e o : Expr} {es : List Expr} {kws : List Keyword} {te ta : TE} {t tk : TA} {nm : Option Str}
variable {g : List Value -> List Value -> List Value} {gV : List V -> List V -> List V}
end
structure FnScope (N P : List Str) (sc : Scope) : Prop where
  kind : sc.kind = .function
  co : sc.isCoroutine = false
  gen : sc.isGenerator = false
  nd : N.Nodup
  pre : N.take P.length = P
  par : ∀ x ∈ P, sc.names.lookup x = some .local \/ sc.names.lookup x = some .cell
  nofree : ∀ y ∈ sc.names, y.2 ≠ .free
theorem bindL_out {kindOf : Str -> Option NameKind} {x : Str} : ∀ {binds : List (Str × Value)} {m : Str -> Option Value}, (∀ v, (x, v) ∉ binds) -> bindL kindOf binds m x = m x
  | [], _, _ => rfl
  | (n, v) :: r, m, h => by
    unfold bindL
    rw [bindL_out fun w hw => h w (List.mem_cons_of_mem _ hw)]
    split
    . have : x ≠ n := by rintro rfl; exact h v List.mem_cons_self
      simp [this]
    . rfl
theorem bindC_out {kindOf : Str -> Option NameKind} {x : Str} : ∀ {binds : List (Str × Value)} {m : Str -> Option Value}, (∀ v, (x, v) ∉ binds) -> bindC kindOf binds m x = m x
  | [], _, _ => rfl
  | (n, v) :: r, m, h => by
    unfold bindC
    rw [bindC_out fun w hw => h w (List.mem_cons_of_mem _ hw)]
    split
    . rfl
    . have : x ≠ n := by rintro rfl; exact h v List.mem_cons_self
      simp [this]
theorem bindL_get {kindOf : Str -> Option NameKind} {x : Str} {v : Value} : ∀ {P : List Str} {vs : List Value} {i : Nat} {m : Str -> Option Value}, P.Nodup -> P[i]? = some x -> vs[i]? = some v -> kindOf x = some .local ->
    bindL kindOf (P.zip vs) m x = some v
  | [], _, _, _, _, h, _, _ => by simp at h
  | _ :: _, [], _, _, _, _, h, _ => by simp at h
  | p :: P, w :: vs, 0, m, nd, h1, h2, hk => by
    simp at h1 h2; subst h1; subst h2
    show bindL kindOf ((p, w) :: P.zip vs) m p = _
    unfold bindL
    rw [bindL_out fun v hv => (List.nodup_cons.mp nd).1 (List.of_mem_zip hv).1, if_pos hk]
    simp
  | p :: P, w :: vs, i + 1, m, nd, h1, h2, hk => by
    show bindL kindOf ((p, w) :: P.zip vs) m x = _
    unfold bindL
    exact bindL_get (i := i) (List.nodup_cons.mp nd).2 (by simpa using h1) (by simpa using h2) hk
theorem bindC_get {kindOf : Str -> Option NameKind} {x : Str} {v : Value} : ∀ {P : List Str} {vs : List Value} {i : Nat} {m : Str -> Option Value}, P.Nodup -> P[i]? = some x -> vs[i]? = some v -> kindOf x ≠ some .local ->
    bindC kindOf (P.zip vs) m x = some v
  | [], _, _, _, _, h, _, _ => by simp at h
  | _ :: _, [], _, _, _, _, h, _ => by simp at h
  | p :: P, w :: vs, 0, m, nd, h1, h2, hk => by
    simp at h1 h2; subst h1; subst h2
    show bindC kindOf ((p, w) :: P.zip vs) m p = _
    unfold bindC
    rw [bindC_out fun v hv => (List.nodup_cons.mp nd).1 (List.of_mem_zip hv).1, if_neg hk]
    simp
  | p :: P, w :: vs, i + 1, m, nd, h1, h2, hk => by
    show bindC kindOf ((p, w) :: P.zip vs) m x = _
    unfold bindC
    exact bindC_get (i := i) (List.nodup_cons.mp nd).2 (by simpa using h1) (by simpa using h2) hk
def start (N : List Str) (vs : List V) : St := vs.map some ++ List.replicate (N.length - vs.length) none
def cxOf (CX : CXT) (P : Program) (w : World) (K : PySem.W.Frag) (mg : Str -> Option Value) (base : Heap) (N : List Str) (qual : Str) (scope : Scope) (f : Addr) (cd : Value) (A : Around) (outer : List Env) (s : Shared) (H : Hp) (E : XK) : Cx where
  prog := P
  w := w
  K := K
  mg := mg
  base := base
  A := A.deeper (envOfC qual scope s.heap.objs.size f cd)
  N := N
  s₀ := s
  H₀ := H
  env := envOfC qual scope s.heap.objs.size f cd
  outer := outer
  stack := envOfC qual scope s.heap.objs.size f cd :: outer
  ex := []
  calm := true
  fn := fun _ => true
  pn := []
  xe := fun e s' => wpAny (model P w) (A.deeper (envOfC qual scope s.heap.objs.size f cd)) (leaving (envOfC qual scope s.heap.objs.size f cd) e) (fun _ s'' => CX outer H s E e s'') (fun e' s'' => CX outer H s E e' s'') s'
theorem cell_has {sc : Scope} {n : Nat} {x : Str} (h : sc.names.lookup x = some .cell) : ∃ c, (cellsFrom n sc.names []).lookup x = some c := by
  have q := PySem.W.cellsFrom_some sc.names n [] (.inl h)
  exact Option.isSome_iff_exists.mp q
theorem inv_start {CX : CXT} {P : Program} {w : World} {K : PySem.W.Frag} {mg : Str -> Option Value} {base : Heap} {N ps : List Str} {qual : Str} {scope : Scope} {f : Addr} {cd : Value} {A : Around} {outer : List Env} {s s1 : Shared} {H : Hp} {E : XK} {us : List Value} {vs : List V}
    (S : FnScope N ps scope) (hd : A.handled = none) (e0 : Env0 P w K mg base A outer s H) (hl : vs.length = ps.length) (r : Vals vs us)
    (x : InCallC s s.heap.objs.size (bindL (envOfC qual scope s.heap.objs.size f cd).kindOf (ps.zip us) fun _ => none) (cellsFrom (s.heap.objs.size + 1) scope.names []) (bindC (envOfC qual scope s.heap.objs.size f cd).kindOf (ps.zip us) fun _ => none) s1) :
    Inv (cxOf CX P w K mg base N qual scope f cd A outer s H E) [] (start N vs) H s1 := by
  have hpl : ps.length <= N.length := by have := congrArg List.length S.pre; rw [List.length_take] at this; omega
  obtain ⟨h1, tk, rfl, hk⟩ := x.done
  have noA : ∀ b : Addr, b ∉ (cxOf CX P w K mg base N qual scope f cd A outer s H E).ex := fun b z => absurd (show b ∈ ([] : List Addr) from z) (by simp)
  refine ⟨⟨e0.mod, S.kind, rfl, rfl, Nat.le_refl _, fun y z c h1 h2 => ?_, fun y hy => ?_, fun y c _ h => ?_, fun _ => hd, Around.frames_deeper e0.frames, .inr ⟨rfl, rfl⟩, fun b z => absurd z (noA b), e0.bs, e0.bsz, fun b _ _ => noA b, fun b z => absurd z (noA b), e0.funs, e0.frf⟩,
    rfl, e0.bare, Un.kept hk, ⟨_, x.toInCall.ns, fun i y v h1 h2 h3 => ?_⟩, fun y c h => ⟨_, x.cell y c h⟩, e0.hok.fresh (Nat.le_refl _), fun y c h => ?_, fun p hp => absurd (show p ∈ ([] : List (Addr × Obj)) from hp) (by simp), e0.hok.kept hk, ?_⟩
  . exact name_of_addr x.apart (PySem.mem_of_lookup h1) (PySem.mem_of_lookup h2)
  . have hy : scope.names.lookup y = some .cell \/ scope.names.lookup y = some .free := hy
    rcases hy with hy | hy
    . exact cell_has hy
    . exact absurd rfl (S.nofree _ (PySem.mem_of_lookup hy))
  . exact Nat.le_of_lt (x.above y c (PySem.mem_of_lookup h))
  . have hi : i < vs.length := by
      unfold start at h2
      by_cases hi : i < vs.length
      . exact hi
      . rw [List.getElem?_append_right (by simpa using hi)] at h2
        rw [List.getElem?_replicate] at h2
        split at h2 <;> cases h2
    have ha : vs[i]? = some v := by
      unfold start at h2
      rw [List.getElem?_append_left (by simpa using hi), List.getElem?_map] at h2
      cases e : vs[i]? with
      | none => rw [e] at h2; cases h2
      | some a => rw [e] at h2; cases h2; rfl
    obtain ⟨u, hu, rv⟩ := r.get ha
    have hp : ps[i]? = some y := by
      rw [<- S.pre, List.getElem?_take_of_lt (by omega)]; exact h1
    have ndP : ps.Nodup := by rw [<- S.pre]; exact S.nd.sublist (List.take_sublist _ _)
    refine ⟨u, rv, ?_⟩
    rcases S.par y (List.mem_of_getElem? hp) with k | k
    . exact .inl ⟨k, bindL_get ndP hp hu k⟩
    . obtain ⟨c, e⟩ := cell_has (n := s.heap.objs.size + 1) k
      refine .inr ⟨.inl k, c, e, ?_⟩
      have q := x.cell y c e
      rw [bindC_get ndP hp hu (by show scope.names.lookup y ≠ _; rw [k]; decide)] at q
      exact q
  . exact e0.hok.fresh (Nat.le_of_lt (x.above y c (PySem.mem_of_lookup h)))
  . unfold start
    show _ = N.length
    rw [List.length_append, List.length_map, List.length_replicate]
    omega
theorem fn_of {CX : CXT} {P : Program} {w : World} {K : PySem.W.Frag} {mg : Str -> Option Value} {base : Heap} {k : Nat} {f : Addr} {name qual : Str} {params : Arguments} {body : List Stmt} {scope : Scope} {dV kV doc pm cdv ct oc : Value} {an od : Option Addr}
    {osl : Array (Option Value)} {N ps : List Str} {sp : Sp} (lk : K.lookup f = some ⟨oc, od, .func (PySem.W.fnOf name qual params body scope dV kV doc pm an cdv ct), osl⟩) (hcd : PySem.W.codeIn K cdv qual = true) (S : FnScope N ps scope)
    (len : ∀ vs H Q E, sp vs H Q E -> vs.length = ps.length)
    (hbody : ∀ (A : Around) (outer : List Env) (s : Shared) (H : Hp) (vs : List V) (Q : VK) (E : XK), Room k (A.deeper (envOfC qual scope s.heap.objs.size f cdv)) -> sp vs H Q E ->
      ∃ t, PSs (cxOf CX P w K mg base N qual scope f cdv A outer s H E) body t /\ t { nx := fun _ H' => Q .non H', rt := Q } (start N vs) H) :
    FnOk P w K mg base CX (k + 1) f (PySem.W.fnOf name qual params body scope dV kV doc pm an cdv ct) ps sp := by
  refine ⟨len, fun A outer s H args us vs Q E hr e0 hb r hsp => ?_⟩
  have hl := len _ _ _ _ hsp
  have KX : K.In s.heap := e0.mod.kin.keeps fun b o e => (e0.bs b o e).1
  have lim : s.heap.NoLimit := e0.mod.nolimit.keeps fun b o e => (e0.bs b o e).1
  have hkind : ∀ y ∈ ps.zip us, scope.names.lookup y.1 = some .local \/ (scope.names.lookup y.1 = some .cell /\ ((cellsFrom (s.heap.objs.size + 1) scope.names []).lookup y.1).isSome = true) := fun ⟨n, v⟩ hy => by
    rcases S.par n (List.of_mem_zip hy).1 with q | q
    . exact .inl q
    . exact .inr ⟨q, PySem.W.cellsFrom_some _ _ _ (.inl q)⟩
  refine codeAny_call_function hr.depth (KX _ _ lk) rfl S.co S.gen rfl (PySem.W.codeRec_of KX hcd) (hb _ _ _ _ ?_)
  refine wpAny_newFunctionEnv_cells S.kind hkind fun env he s1 x => ?_
  subst he
  refine ⟨lim.keeps x.toInCall.keep, codeAny_func ?_⟩
  obtain ⟨t, ht, hq⟩ := hbody A outer s H vs Q E (hr.deeper _) hsp
  have I : Inv (cxOf CX P w K mg base N qual scope f cdv A outer s H E) [] (start N vs) H s1 := inv_start S hr.hd e0 hl r x
  refine wpAny_mono (ht [] s1 (start N vs) H _ I hq) (fun fl s' hs => ?_) fun e s' hs => hs
  have fin : ∀ {σ' : St} {H' : Hp} {v : V} {u : Value}, Inv (cxOf CX P w K mg base N qual scope f cdv A outer s H E) [] σ' H' s' -> RelV v u -> Q v H' -> CE outer P w H s Q u s' :=
    fun {σ' H' v u} J rv q => ⟨v, H', J.os, J.bare, J.base, J.hok, rv, q⟩
  cases fl with
  | ret u =>
    obtain ⟨v, σ', H', J, rv, q⟩ := hs
    exact fin J rv q
  | next =>
    obtain ⟨σ', H', J, q⟩ := hs
    exact fin (v := V.non) (u := Value.none) J rfl q
  | brk =>
    obtain ⟨_, _, _, q⟩ := hs
    exact False.elim q
  | cont =>
    obtain ⟨_, _, _, q⟩ := hs
    exact False.elim q
end L2
namespace L2
open PySem PySem.Spec PyProof.Rows
section
variable {X : Cx} {x : Str} {p pos : Pos} {e : Expr} {es : List Expr} {t : TA} {id T : String} {r : List V -> Hp -> VK -> Prop}
def tCB (r : List V -> Hp -> VK -> Prop) (t : TA) : TE := fun σ H Q => t σ H fun vs H1 => r vs H1 Q
theorem pe_callB (hc : CallR X (.builtin id) r) (hg : Gl X x) (hm : X.mg x = none) (hv : bootBuiltins x = some (.builtin id)) (ha : PA X (e :: es) t) (hn : x ≠ "__name__" := by decide) (hdb : (x == ("__debug__" : Str)) = false := by decide)
    (he : starEach (e :: es) X.env = (false, eval e X.env) :: starEach es X.env := by rfl) (hpl : (backTo pos (starEach es X.env)).any (·.1) = false := by rfl) : PE X (.Call (.Name x p) (e :: es) [] pos) (tCB r t) := by
  intro pins s σ H Q I h
  refine wpAny_Call_Name_kw (ld_blt I hg hm hv ?_ hn hdb)
  exact PyProof.Rows.callWith_builtin1 (thn (ha pos pins s σ H _ I h) fun us s1 ⟨vs, H1, I1, r1, q1⟩ => hc pins s1 σ H1 vs us Q I1 r1 q1) he hpl
theorem pe_callTy (hc : CallR X (.type T) r) (hg : Gl X x) (hm : X.mg x = none) (hv : bootBuiltins x = some (.type T)) (ha : PA X (e :: es) t) (hn : x ≠ "__name__" := by decide) (hdb : (x == ("__debug__" : Str)) = false := by decide)
    (he : starEach (e :: es) X.env = (false, eval e X.env) :: starEach es X.env := by rfl) (hpl : (backTo pos (starEach es X.env)).any (·.1) = false := by rfl) : PE X (.Call (.Name x p) (e :: es) [] pos) (tCB r t) := by
  intro pins s σ H Q I h
  refine wpAny_Call_Name_kw (ld_blt I hg hm hv ?_ hn hdb)
  exact PyProof.Rows.callWith_type1 (thn (ha pos pins s σ H _ I h) fun us s1 ⟨vs, H1, I1, r1, q1⟩ => hc pins s1 σ H1 vs us Q I1 r1 q1) he hpl
end
end L2
namespace HT
open PySem PyProof.Rows
section
open PySem.SeqAt
open PySem.AutoSeq1 (wpAny_loadPart')
open PySem.MeetsSeq PySem.MeetsSeq2 PySem.MeetsSeq3
end
section
variable {prog : Program} {w : World} {A : Around} {E : Value -> Shared -> Prop} {s : Shared}
def sIx (n d : Nat) : Option Int -> Nat
  | none => d
  | some v => if v < 0 then (v + (n : Int)).toNat else min v.toNat n
end
end HT
namespace L2
open PySem PySem.Spec PyProof.Rows
abbrev TO := St -> Hp -> (Option Int -> Hp -> Prop) -> Prop
def PO (X : Cx) (e : Option Expr) (t : TO) : Prop :=
  ∀ (pins : List (Addr × Obj)) (s : Shared) (σ : St) (H : Hp) (Q : Option Int -> Hp -> Prop), Inv X pins σ H s -> t σ H Q ->
    wpAny (model X.prog X.w) X.A (evalPart e X.env) (fun u s' => ∃ o H', Inv X pins σ H' s' /\ IsPart u o /\ Q o H') X.xe s
def tNoPart : TO := fun _ H Q => Q none H
def tPart (t : TE) : TO := fun σ H Q => t σ H fun x H1 => ∃ i, x = .int i /\ Q (some i) H1
section
variable {X : Cx} {e : Expr} {te : TE} {lo hi : Option Expr} {tl th : TO} {pos p2 : Pos}
theorem po_none : PO X none tNoPart := by
  intro pins s σ H Q I h
  rw [evalPart_none]
  exact wpAny_pure ⟨none, H, I, .none, h⟩
theorem po_some (h : PE X e te) : PO X (some e) (tPart te) := by
  intro pins s σ H Q I hw
  rw [evalPart_some]
  refine thn (h pins s σ H _ I hw) fun u s1 ⟨x, H1, I1, r1, q1⟩ => ?_
  obtain ⟨i, rfl, q⟩ := q1
  obtain ⟨t, rfl⟩ := r1
  exact ⟨some i, H1, I1, .int i t, q⟩
def SlR (X : Cx) (r : V -> Option Int -> Option Int -> Hp -> VK -> Prop) : Prop :=
  ∀ (pins : List (Addr × Obj)) (s : Shared) (σ : St) (H : Hp) (x : V) (v vl vu : Value) (lo hi : Option Int) (sl : Addr) (Q : VK), Inv X pins σ H s -> RelV x v -> s.heap.IsSliceOf sl vl vu .none -> IsPart vl lo -> IsPart vu hi -> r x lo hi H Q ->
    ∃ T id, typeLookup (.type T) "__getitem__" = pure (some (.builtin id)) /\ s.TypeIs v T /\ wpAny (model X.prog X.w) X.A (getItem v (.ref sl)) (EP X pins σ Q) X.xe s
def tSl (r : V -> Option Int -> Option Int -> Hp -> VK -> Prop) (te : TE) (tl th : TO) : TE := fun σ H Q => te σ H fun x H1 => tl σ H1 fun l H2 => th σ H2 fun u H3 => r x l u H3 Q
theorem pe_slice {r : V -> Option Int -> Option Int -> Hp -> VK -> Prop} (hr : SlR X r) (he : PE X e te) (hl : PO X lo tl) (hu : PO X hi th) : PE X (.Subscript e (.Slice lo hi none p2) pos) (tSl r te tl th) := by
  intro pins s σ H Q I h
  refine Subscript_ (thn (he pins s σ H _ I h) fun v s1 ⟨x, H1, I1, r1, q1⟩ => ?_)
  refine wpAny_Slice (thn (hl pins s1 σ H1 _ I1 q1) fun vl s2 ⟨l, H2, I2, pl, q2⟩ => thn (hu pins s2 σ H2 _ I2 q2) fun vu s3 ⟨u, H3, I3, pu, q3⟩ => ?_)
  rw [evalPart_none]
  refine wpAny_pure ?_
  have I4 : Inv X pins σ H3 { s3 with heap := s3.heap.push { cls := .type "slice", data := .fields #[vl, vu, .none] } } := I3.kept (t' := s3.toks) fun b ob q => Heap.get?_push_of_some _ q
  obtain ⟨T, id, hT, ht, hg⟩ := hr pins { s3 with heap := s3.heap.push { cls := .type "slice", data := .fields #[vl, vu, .none] } } σ H3 x v vl vu l u s3.heap.objs.size Q I4 r1 (Heap.IsSliceOf.new ..) pl pu q3
  show wpAny (model X.prog X.w) X.A (subscriptTail e (.Slice lo hi none p2) v (.ref s3.heap.objs.size)) (EP X pins σ Q) X.xe { s3 with heap := s3.heap.push { cls := .type "slice", data := .fields #[vl, vu, .none] } }
  exact tail_any (ops := [.ref s3.heap.objs.size, v]) ht hT hg (by with_unfolding_all rfl)
def cutV (xs : List V) (lo hi : Option Int) : List V := (xs.drop (HT.sIx xs.length 0 lo)).take (HT.sIx xs.length xs.length hi - HT.sIx xs.length 0 lo)
theorem cutV_length (xs : List V) (lo hi : Option Int) : (cutV xs lo hi).length <= xs.length := by
  unfold cutV
  rw [List.length_take, List.length_drop]
  omega
end
end L2
namespace L2
open PySem PySem.Spec PyProof.Rows
def ixN (n : Nat) (i : Int) : Option Nat := if 0 <= i then (if i < n then some i.toNat else none) else if -(n : Int) <= i then some (i + n).toNat else none
def atI {α : Type} (xs : List α) (i : Int) : Option α := (ixN xs.length i).bind fun j => xs[j]?
theorem ixN_seq {n : Nat} {i : Int} {j : Nat} (h : ixN n i = some j) : seqIndex? i n = some j /\ j < n /\ -(n : Int) <= i /\ i < n := by
  unfold ixN at h
  by_cases h0 : 0 <= i
  . rw [if_pos h0] at h
    by_cases h1 : i < n
    . rw [if_pos h1] at h
      have e : i.toNat = j := Option.some.inj h
      exact ⟨by rw [seqIndex_of h0 h1, e], by omega, by omega, h1⟩
    . rw [if_neg h1] at h; cases h
  . rw [if_neg h0] at h
    by_cases h1 : -(n : Int) <= i
    . rw [if_pos h1] at h
      have e : (i + n).toNat = j := Option.some.inj h
      exact ⟨by rw [seqIndex_neg (by omega) h1, e], by omega, h1, by omega⟩
    . rw [if_neg h1] at h; cases h
theorem atI_get {α : Type} {xs : List α} {i : Int} {v : α} (h : atI xs i = some v) : ∃ j, seqIndex? i xs.length = some j /\ xs[j]? = some v /\ j < xs.length /\ -(xs.length : Int) <= i /\ i < xs.length := by
  unfold atI at h
  cases e : ixN xs.length i with
  | none => rw [e] at h; cases h
  | some j =>
    rw [e] at h
    obtain ⟨h1, h2, h3, h4⟩ := ixN_seq e
    exact ⟨j, h1, h, h2, h3, h4⟩
theorem atI_nat {α : Type} {xs : List α} {j : Nat} {v : α} (h : xs[j]? = some v) : atI xs (j : Int) = some v := by
  have hj : j < xs.length := (List.getElem?_eq_some_iff.mp h).1
  have e : ixN xs.length (j : Int) = some j := by
    unfold ixN
    rw [if_pos (by omega), if_pos (by omega)]; simp
  unfold atI; rw [e]; exact h
def PlainIx (b : Expr) : Prop := ∀ o i, subscripted b false o i = operate [o, i] (getItem o i)
def IxR (X : Cx) (r : R2) : Prop :=
  ∀ (value slice : Expr) (pins : List (Addr × Obj)) (s : Shared) (σ : St) (H : Hp) (x y : V) (v u : Value) (Q : VK), Inv X pins σ H s -> RelV x v -> RelV y u -> r x y H Q ->
    subscripted slice false v u = operate [v, u] (getItem v u) -> wpAny (model X.prog X.w) X.A (subscriptTail value slice v u) (EP X pins σ Q) X.xe s
def MtR (X : Cx) (id : String) (r : V -> List V -> Hp -> VK -> Prop) : Prop :=
  ∀ (pins : List (Addr × Obj)) (s : Shared) (σ : St) (H : Hp) (x : V) (xs : List V) (v : Value) (us : List Value) (Q : VK), Inv X pins σ H s -> RelV x v -> Vals xs us -> r x xs H Q ->
    wpAny (model X.prog X.w) X.A (call (.builtin id) (v :: us)) (EP X pins σ Q) X.xe s
section
variable {X : Cx} {a b : Expr} {ta tb : TE} {pos : Pos}
theorem pe_ix {r : R2} (hr : IxR X r) (ha : PE X a ta) (hb : PE X b tb) (hs : PlainIx b) : PE X (.Subscript a b pos) (tOp r ta tb) := by
  intro pins s σ H Q I h
  exact Subscript_ (binT ha hb I h fun v u s2 x y H2 I2 rx ry q => hr a b pins s2 σ H2 x y v u Q I2 rx ry q (hs _ _))
def rIxL (K : PySem.W.Frag) : R2 := fun x y H Q => ∃ p xs i v, x = .ref p /\ y = .int i /\ SqL K H p xs /\ atI xs i = some v /\ Q v H
def rIxT (K : PySem.W.Frag) : R2 := fun x y H Q => ∃ p xs i v, x = .ref p /\ y = .int i /\ SqT K H p xs /\ atI xs i = some v /\ Q v H
def rIxS : R2 := fun x y H Q => ∃ z i c, x = .str z /\ y = .int i /\ z.length <= sizeLine /\ atI z.cps.toList i = some c /\ Q (.str ⟨#[c]⟩) H
theorem ix_list : IxR X (rIxL X.K) := by
  intro value slice pins s σ H x y v u Q I rx ry h hs
  obtain ⟨p, xs, i, z, rfl, rfl, hq, he, q⟩ := h
  cases rx
  obtain ⟨t, rfl⟩ := ry
  obtain ⟨its, r, pl, hz⟩ := I.list hq
  obtain ⟨j, h1, h2, h3, h4, h5⟩ := atI_get he
  obtain ⟨w, ew, rw'⟩ := r.get h2
  have hl := r.length
  have hn := line63
  have fin : EP X pins σ Q w s := ⟨z, H, I, rw', q⟩
  by_cases h0 : 0 <= i
  . have hj : i.toNat = j := by
      rw [seqIndex_of h0 h5] at h1
      exact Option.some.inj h1
    exact item_listR pl.isList h0 (by omega) (by rw [hj]; simpa using ew) fin hs
  . have hj : (i + (its.toArray.size : Int)).toNat = j := by
      rw [seqIndex_neg (by omega) h4] at h1
      rw [List.size_toArray, <- hl]
      exact Option.some.inj h1
    exact subscriptTail_builtinR (x := w) pl.isList.typeIs slot_list_getitem.lookup
      (wpAny_getItem_list_neg (Q := fun r s' => r = w /\ EP X pins σ Q r s') pl.isList (by omega) (by rw [List.size_toArray] <;> omega) (by omega) (by rw [hj]; simpa using ew) ⟨rfl, fin⟩) hs
theorem ix_tup : IxR X (rIxT X.K) := by
  intro value slice pins s σ H x y v u Q I rx ry h hs
  obtain ⟨p, xs, i, z, rfl, rfl, hq, he, q⟩ := h
  cases rx
  obtain ⟨t, rfl⟩ := ry
  obtain ⟨its, r, pl, hz⟩ := I.tuple hq
  obtain ⟨j, h1, h2, h3, h4, h5⟩ := atI_get he
  obtain ⟨w, ew, rw'⟩ := r.get h2
  have hl := r.length
  have hn := line63
  have fin : EP X pins σ Q w s := ⟨z, H, I, rw', q⟩
  exact subscriptTail_builtinR (x := w) pl.typeIs slot_tuple_getitem.lookup
    (getItem_tuple (j := j) (Q := fun r s' => r = w /\ EP X pins σ Q r s') pl (by omega) (by omega) (by rw [List.size_toArray, <- hl]; exact h1) (by simpa using ew) ⟨rfl, fin⟩) hs
theorem ix_str : IxR X rIxS := by
  intro value slice pins s σ H x y v u Q I rx ry h hs
  obtain ⟨z, i, c, rfl, rfl, hz, he, q⟩ := h
  obtain ⟨t, rfl⟩ := rx
  obtain ⟨t', rfl⟩ := ry
  obtain ⟨j, h1, h2, h3, h4, h5⟩ := atI_get he
  have hl : z.cps.toList.length = z.length := by simp [Str.length]
  rw [hl] at h1 h4 h5
  have hn := line63
  exact tail_any (typeIs_str s z t) slot_str_getitem.lookup (getItem_str (c := c) (by
    have e1 : decide (i < -(2 ^ 63 : Int)) = false := decide_eq_false (by omega)
    have e2 : decide (i >= 2 ^ 63) = false := decide_eq_false (by omega)
    rw [e1, e2, Bool.or_false]) (by rw [h1]; simpa using h2) ⟨.str ⟨#[c]⟩, H, I.tok _, ⟨_, rfl⟩, q⟩) hs
theorem mapSeq_set (its : List Value) (n j : Nat) (u : Value) : Obj.mapSeq (·.setIfInBounds j u) { cls := .type "list", data := .seq its.toArray n } = { cls := .type "list", data := .seq (its.set j u).toArray n } := by
  simp [Obj.mapSeq]
theorem Inv.lst {pins : List (Addr × Obj)} {σ : St} {H : Hp} {s : Shared} {p : Addr} {xs : List V} (I : Inv X pins σ H s) (h : H p = some (.lst xs)) :
    ∃ (its : List Value) (n : Nat), Vals xs its /\ s.heap.get? p = some { cls := .type "list", data := .seq its.toArray n } /\ xs.length <= sizeLine := by
  obtain ⟨z, its, n, r, e⟩ := I.hok p _ h
  exact ⟨its, n, r, e, z⟩
theorem Inv.lstUpd {pins : List (Addr × Obj)} {σ : St} {H : Hp} {s : Shared} {p : Addr} {xs ys : List V} {its its' : List Value} {n n' : Nat} {f : Obj -> Obj} (I : Inv X pins σ H s) (h : H p = some (.lst xs))
    (ho : s.heap.get? p = some { cls := .type "list", data := .seq its.toArray n }) (hf : f { cls := .type "list", data := .seq its.toArray n } = { cls := .type "list", data := .seq its'.toArray n' }) (r : Vals ys its') (hz : ys.length <= sizeLine) (t : Nat) :
    Inv X pins σ (upd H p (.lst ys)) { s with heap := s.heap.update p f, toks := t } := by
  have e : (s.heap.update p f).get? p = some { cls := .type "list", data := .seq its'.toArray n' } := by
    rw [Heap.get?_update_self f ho (by rw [hf] <;> rfl), hf]
  refine I.write (x := p) (e := p) (by rw [h]; trivial) (.inl rfl) (fun b u hb q => (Heap.get?_update_other _ _ (Ne.symm hb)).trans q) ⟨_, e⟩ ?_
  exact ⟨hz, its', n', r, e⟩
def rSetL : V -> V -> V -> Hp -> (Hp -> Prop) -> Prop := fun o i v H Q => ∃ p xs k j, o = .ref p /\ i = .int k /\ H p = some (.lst xs) /\ ixN xs.length k = some j /\ Q (upd H p (.lst (xs.set j v)))
theorem set_list : PSet X rSetL := by
  intro pins s σ H o i v ov iv u Q I ro ri rv h
  obtain ⟨p, xs, k, j, rfl, rfl, hp, hj, q⟩ := h
  cases ro
  obtain ⟨t, rfl⟩ := ri
  obtain ⟨its, n, r, ho, hz⟩ := I.lst hp
  obtain ⟨h1, h2, h3, h4⟩ := ixN_seq hj
  have hl := r.length
  have hn := line63
  have I' : Inv X pins σ (upd H p (.lst (xs.set j v))) { s with heap := s.heap.update p (Obj.mapSeq (·.setIfInBounds j u)) } :=
    I.lstUpd hp ho (mapSeq_set its n j u) (r.set rv j) (by rw [List.length_set]; exact hz) s.toks
  by_cases h0 : 0 <= k
  . have hk : k.toNat = j := by
      rw [seqIndex_of h0 h4] at h1
      exact Option.some.inj h1
    exact PySem.W.ki_setAt ho h0 (by omega) (by rw [List.size_toArray, <- hl]; exact h4) (by rw [hk]; exact ⟨_, I', q⟩)
  . have hk : (k + (its.toArray.size : Int)).toNat = j := by
      rw [seqIndex_neg (by omega) h3] at h1
      rw [List.size_toArray, <- hl]
      exact Option.some.inj h1
    exact PySem.W.ki_setBack ho (by omega) (by rw [List.size_toArray, <- hl]; exact h3) (by omega) (by rw [hk]; exact ⟨_, I', q⟩)
theorem slice_bounds (lo hi : Option Int) (n : Nat) : (sliceBounds lo hi none n).1 = ((HT.sIx n 0 lo : Nat) : Int) /\ (sliceBounds lo hi none n).2.1 = ((HT.sIx n n hi : Nat) : Int) /\ (sliceBounds lo hi none n).2.2 = 1 := by
  refine ⟨?_, ?_, rfl⟩
  . cases lo with
    | none => simp [sliceBounds, HT.sIx]
    | some i =>
      simp only [sliceBounds, HT.sIx, Option.getD_none, show (1 : Int) > 0 by decide, if_true]
      by_cases h : i < 0
      . simp only [h, if_true] <;> omega
      . simp only [h, if_false] <;> omega
  . cases hi with
    | none => simp [sliceBounds, HT.sIx]
    | some i =>
      simp only [sliceBounds, HT.sIx, Option.getD_none, show (1 : Int) > 0 by decide, if_true]
      by_cases h : i < 0
      . simp only [h, if_true] <;> omega
      . simp only [h, if_false] <;> omega
theorem slicePick_cut (its : List Value) (lo hi : Option Int) : slicePick its.toArray lo hi none = ((its.drop (HT.sIx its.length 0 lo)).take (HT.sIx its.length its.length hi - HT.sIx its.length 0 lo)).toArray := by
  obtain ⟨h1, h2, h3⟩ := slice_bounds lo hi its.toArray.size
  unfold slicePick
  rw [h1, h2, h3]
  simp only [sliceRange_one, pick_run, List.size_toArray] <;> rfl
def rSlL (K : PySem.W.Frag) : V -> Option Int -> Option Int -> Hp -> VK -> Prop := fun x lo hi H Q => ∃ a xs, x = .ref a /\ SqL K H a xs /\ ∀ p, H p = none -> Q (.ref p) (upd H p (.lst (cutV xs lo hi)))
theorem sl_list : SlR X (rSlL X.K) := by
  intro pins s σ H x v vl vu lo hi sl Q I rx hs pl pu h
  obtain ⟨a, xs, rfl, hx, q⟩ := h
  cases rx
  obtain ⟨its, r, ht, hz⟩ := I.list hx
  have hlen := r.length
  refine ⟨"list", _, slot_list_getitem.lookup, ht.isList.typeIs, ?_⟩
  refine wpAny_getItem_list_slice ht.isList hs pl pu .none (by simp) ?_ (by rw [List.size_toArray] <;> omega)
  rw [slicePick_cut, <- hlen]
  refine ⟨.ref s.heap.objs.size, _, I.laid (t' := s.toks) (o := .lst (cutV xs lo hi)) (fun b ob q => Heap.get?_push_of_some _ q) (Nat.le_refl _) ?_, rfl, q _ (I.hok.fresh (Nat.le_refl _))⟩
  exact ⟨Nat.le_trans (cutV_length xs lo hi) hz, _, 0, (r.drop (HT.sIx xs.length 0 lo)).take (HT.sIx xs.length xs.length hi - HT.sIx xs.length 0 lo), Heap.get?_push_size _ rfl⟩
def flatV : V -> Bool
  | .non => true
  | .bl _ => true
  | .int _ => true
  | .str _ => true
  | _ => false
def eqV : V -> V -> Bool
  | .non, .non => true
  | .bl a, .bl b => a == b
  | .bl a, .int b => (if a then 1 else 0) == b
  | .int a, .bl b => a == (if b then 1 else 0)
  | .int a, .int b => a == b
  | .str a, .str b => a == b
  | _, _ => false
theorem eqAt_V {A : Around} {s : Shared} {y x : V} {u v : Value} (ry : RelV y u) (rx : RelV x v) (fy : flatV y = true) (fx : flatV x = true) : SeqAt.EqAt A s u v (eqV y x) := by
  cases y with
  | non =>
    cases ry
    cases x with
    | non => cases rx; exact SeqAt.EqAt.same _
    | bl b => cases rx; exact SeqAt.EqAt.none_bool b
    | int b => obtain ⟨t, rfl⟩ := rx; exact SeqAt.EqAt.none_int b t
    | str b => obtain ⟨t, rfl⟩ := rx; exact SeqAt.EqAt.none_str b t
    | _ => exact absurd (show false = true from fx) Bool.false_ne_true
  | bl a =>
    cases ry
    cases x with
    | non => cases rx; exact SeqAt.EqAt.bool_none a
    | bl b => cases rx; exact SeqAt.EqAt.bool_bool a b
    | int b => obtain ⟨t, rfl⟩ := rx; exact SeqAt.EqAt.bool_int a b t
    | str b => obtain ⟨t, rfl⟩ := rx; exact SeqAt.EqAt.bool_str a b t
    | _ => exact absurd (show false = true from fx) Bool.false_ne_true
  | int a =>
    obtain ⟨t', rfl⟩ := ry
    cases x with
    | non => cases rx; exact SeqAt.EqAt.int_none a t'
    | bl b => cases rx; exact SeqAt.EqAt.int_bool a t' b
    | int b => obtain ⟨t, rfl⟩ := rx; exact SeqAt.EqAt.int_int a t' b t
    | str b => obtain ⟨t, rfl⟩ := rx; exact SeqAt.EqAt.int_str a t' b t
    | _ => exact absurd (show false = true from fx) Bool.false_ne_true
  | str a =>
    obtain ⟨t', rfl⟩ := ry
    cases x with
    | non => cases rx; exact SeqAt.EqAt.str_none a t'
    | bl b => cases rx; exact SeqAt.EqAt.str_bool a t' b
    | int b => obtain ⟨t, rfl⟩ := rx; exact SeqAt.EqAt.str_int a t' b t
    | str b => obtain ⟨t, rfl⟩ := rx; exact SeqAt.EqAt.str_str a t' b t
    | _ => exact absurd (show false = true from fx) Bool.false_ne_true
  | _ => exact absurd (show false = true from fy) Bool.false_ne_true
theorem call_len_seq : CallR X (.builtin "len") (fun xs H Q => ∃ p ys, xs = [.ref p] /\ (SqL X.K H p ys \/ SqT X.K H p ys) /\ Q (.int ys.length) H) := by
  intro pins s σ H xs us Q I r h
  obtain ⟨p, ys, rfl, hq, q⟩ := h
  obtain ⟨u, rfl, rx⟩ := vals1 r
  cases rx
  have hn := line63
  rcases hq with hq | hq
  . obtain ⟨its, r', pl, hz⟩ := I.list hq
    have hlen := r'.length
    exact Calls.call_len_list pl.isList (by simp only [List.size_toArray] <;> omega) ⟨.int ys.length, H, I.tok _, ⟨s.toks + 1, by rw [List.size_toArray, hlen]⟩, q⟩
  . obtain ⟨its, r', pl, hz⟩ := I.tuple hq
    have hlen := r'.length
    exact len_tuple pl (by simp only [List.size_toArray] <;> omega) ⟨.int ys.length, H, I.tok _, ⟨s.toks + 1, by rw [List.size_toArray, hlen]⟩, q⟩
theorem call_len_str : CallR X (.builtin "len") (fun xs H Q => ∃ z, xs = [.str z] /\ z.length <= sizeLine /\ Q (.int z.length) H) := by
  intro pins s σ H xs us Q I r h
  obtain ⟨z, rfl, hz, q⟩ := h
  obtain ⟨u, rfl, t, rfl⟩ := vals1 r
  have hn := line63
  exact len_str (by omega) ⟨.int z.length, H, I.tok _, ⟨_, rfl⟩, q⟩
theorem call_tuple_of : CallR X (.type "tuple") (fun xs H Q => ∃ p ys, xs = [.ref p] /\ ((SqL X.K H p ys /\ ∀ l, H l = none -> Q (.ref l) (upd H l (.tup ys))) \/ (SqT X.K H p ys /\ Q (.ref p) H))) := by
  intro pins s σ H xs us Q I r h
  obtain ⟨p, ys, rfl, h⟩ := h
  obtain ⟨u, rfl, rx⟩ := vals1 r
  cases rx
  rcases h with ⟨hq, q⟩ | ⟨hq, q⟩
  . obtain ⟨its, r', pl, hz⟩ := I.list hq
    have hlen := r'.length
    refine call_tuple_list pl.isList (fun h' kp => ?_) (by simp only [List.size_toArray] <;> omega)
    have I1 : Inv X pins σ H { s with heap := h' } := I.kept (t' := s.toks) kp
    have I2 : Inv X pins σ (upd H h'.objs.size (.tup ys)) { s with heap := h'.push { cls := .type "tuple", data := .seq its.toArray } } :=
      I1.laid (t' := s.toks) (fun b o e => Heap.get?_push_of_some _ e) (Nat.le_refl _) (show ObjOk X.prog X.w _ _ _ (.tup ys) from ⟨hz, its, r', IsTup.new _ _⟩)
    exact ⟨.ref h'.objs.size, _, I2, rfl, q _ (I1.hok.fresh (Nat.le_refl _))⟩
  . obtain ⟨its, r', pl, hz⟩ := I.tuple hq
    exact call_tuple_same pl ⟨.ref p, H, I, rfl, q⟩
def tyV (K : PySem.W.Frag) (T : String) (x : V) (H : Hp) : Prop := match x with
  | .str _ => T = "str"
  | .int _ => T = "int"
  | .ref p => (T = "list" /\ ∃ xs, SqL K H p xs) \/ (T = "tuple" /\ ∃ o, K.lookup p = some o /\ o.cls = .type "tuple" /\ o.dict = none) \/
      (T = "dict" /\ ((∃ kvs, H p = some (.dK kvs)) \/ ∃ kvs, H p = some (.dT kvs))) \/ (T = "set" /\ ∃ S n, H p = some (.set S n))
  | _ => False
theorem tyV_is {pins : List (Addr × Obj)} {σ : St} {H : Hp} {s : Shared} {T : String} {x : V} {v : Value} (I : Inv X pins σ H s) (r : RelV x v) (ty : tyV X.K T x H) :
    s.TypeIs v T /\ ∀ a, v = .ref a -> ∃ ob, s.heap.get? a = some ob /\ ob.dict = none := by
  cases x with
  | str z =>
    obtain ⟨t, rfl⟩ := r
    cases (show T = "str" from ty)
    exact ⟨typeIs_str s z t, fun _ e => nomatch e⟩
  | int i =>
    obtain ⟨t, rfl⟩ := r
    cases (show T = "int" from ty)
    exact ⟨typeIs_int s i t, fun _ e => nomatch e⟩
  | ref p =>
    cases r
    rcases ty with ⟨rfl, xs, hq⟩ | ⟨rfl, o, hk, hc, hd⟩ | ⟨rfl, hk⟩ | ⟨rfl, S, n, hk⟩
    . obtain ⟨its, _, pl, _⟩ := I.list hq
      refine ⟨pl.isList.typeIs, fun a e => ?_⟩
      cases e
      obtain ⟨o, n, e, c, hd, _⟩ := pl
      exact ⟨o, e, hd⟩
    . refine ⟨⟨o, I.kIn p o hk, hc⟩, fun a e => ?_⟩
      cases e
      exact ⟨o, I.kIn _ o hk, hd⟩
    . have z : ∃ o, s.heap.get? p = some o /\ o.ExactDict := by
        rcases hk with ⟨kvs, hk⟩ | ⟨kvs, hk⟩
        . obtain ⟨_, _, _, _, o, _, _, e, ex, _⟩ := I.hok p _ hk
          exact ⟨o, e, ex⟩
        . obtain ⟨_, _, _, _, o, _, _, e, ex, _⟩ := I.hok p _ hk
          exact ⟨o, e, ex⟩
      obtain ⟨o, e, ex⟩ := z
      refine ⟨⟨o, e, ex.1⟩, fun a e2 => ?_⟩
      cases e2
      exact ⟨o, e, ex.2.1⟩
    . obtain ⟨o, _, _, _, e, ex, _⟩ := I.hok p _ hk
      refine ⟨⟨o, e, ex.1⟩, fun a e2 => ?_⟩
      cases e2
      exact ⟨o, e, ex.2.1⟩
  | _ => exact False.elim ty
def tBM (K : PySem.W.Frag) (T : String) (r : V -> List V -> Hp -> VK -> Prop) (to : TE) (t : TA) : TE := fun σ H Q => to σ H fun x H1 => tyV K T x H1 /\ t σ H1 fun xs H2 => r x xs H2 Q
variable {o e : Expr} {es : List Expr} {to : TE} {t : TA} {name : Str} {apos cpos : Pos} {T id : String} {r : V -> List V -> Hp -> VK -> Prop}
theorem pe_bm (pa : PlainAttrs T) (slot : Slot T name id) (hty : typeOf (.builtin id) = pure (.type "method_descriptor")) (hm : MtR X id r) (ho : PE X o to) (ha : PA X (e :: es) t)
    (hbase : attributeBase o name X.env (eval o X.env) = eval o X.env := by rfl)
    (hfew : ((backTo cpos (starEach (e :: es) X.env)).all (fun x => !x.1) && (backToKw cpos (keywordEach [] X.env)).all (fun x => x.1.isSome)
      && decide ((e :: es).length + ([] : List Keyword).length + (if ([] : List Keyword).isEmpty then 0 else 1) < 30)) = true := by rfl)
    (hline : (apos.endLine == cpos.line) = true := by rfl) (hs : starEach (e :: es) X.env = (false, eval e X.env) :: starEach es X.env := by rfl) (hplain : (backTo cpos (starEach es X.env)).any (·.1) = false := by rfl) :
    PE X (.Call (.Attribute o name apos) (e :: es) [] cpos) (tBM X.K T r to t) := by
  intro pins s σ H Q I h
  refine wpAny_Call_method_late hbase hfew hline rfl (thn (ho pins s σ H _ I h) fun v s1 ⟨x, H1, I1, r1, ty, q1⟩ => ?_)
  obtain ⟨h1, h2⟩ := tyV_is I1 r1 ty
  refine ⟨T, id, pa, slot, hty, h1, h2, ?_⟩
  have hA := ha cpos pins s1 σ H1 _ I1 q1
  rw [hs] at hA ⊢
  refine Calls.callWith_builtin (by show (false || (backTo cpos (starEach es X.env)).any (·.1)) = false; rw [hplain] <;> rfl) (Calls.evalArgs_plain ?_)
  exact thn hA fun us s2 ⟨vs, H2, I2, r2, q2⟩ => hm pins s2 σ H2 x vs v us Q I2 r1 r2 q2
/- xs.append(e), list.index on a module's tuple .. are MtR facts of 06m -/
end
end L2
namespace L2
open PySem PySem.Spec PyProof.Rows
def MtM (X : Cx) (id : String) (r : V -> List V -> Hp -> VK -> Prop) : Prop :=
  ∀ (pins : List (Addr × Obj)) (s : Shared) (σ : St) (H : Hp) (x : V) (xs : List V) (v : Value) (us : List Value) (Q : VK), Inv X pins σ H s -> RelV x v -> Vals xs us -> r x xs H Q ->
    wpAny (model X.prog X.w) X.A (call (.builtin id) (v :: us)) (EP X pins σ Q) X.xe s
theorem Vals.one : ∀ {x : V} {us : List Value}, Vals [x] us -> ∃ u, us = [u] /\ RelV x u
  | _, _, .cons r .nil => ⟨_, rfl, r⟩
theorem Vals.eraseIdx : ∀ {xs : List V} {us : List Value} (i : Nat), Vals xs us -> Vals (xs.eraseIdx i) (us.eraseIdx i)
  | _, _, _, .nil => .nil
  | _, _, 0, .cons _ t => t
  | _, _, i + 1, .cons r t => .cons r (Vals.eraseIdx i t)
theorem len_erase {α : Type} : ∀ (l : List α) (i : Nat), (l.eraseIdx i).length <= l.length
  | [], _ => Nat.le_refl _
  | _ :: _, 0 => Nat.le_succ _
  | _ :: r, i + 1 => Nat.succ_le_succ (len_erase r i)
section
variable {X : Cx} {pins : List (Addr × Obj)} {σ : St} {H : Hp} {s : Shared} {l b : Addr} {xs ys zs : List V}
theorem Inv.lset {its its' : List Value} {n : Nat} {f : Array Value -> Array Value} {t' : Nat} (I : Inv X pins σ H s) (hH : H l = some (.lst xs))
    (e : s.heap.get? l = some { cls := .type "list", data := .seq its.toArray n }) (hf : f its.toArray = its'.toArray) (hv : Vals ys its') (hz : ys.length <= sizeLine) :
    Inv X pins σ (upd H l (.lst ys)) { s with heap := s.heap.update l (Obj.mapSeq f), toks := t' } := by
  have q := PySem.IsL.update e f
  rw [hf] at q
  refine I.write (x := l) (e := l) (by rw [hH]; exact trivial) (.inl rfl) (fun b' u hb hu => (Heap.get?_update_other s.heap (Obj.mapSeq f) (Ne.symm hb)).trans hu) ⟨_, q⟩ ?_
  exact ⟨hz, its', _, hv, q⟩
theorem Inv.lstM (I : Inv X pins σ H s) (hH : H l = some (.lst xs)) : xs.length <= sizeLine /\ ∃ (its : List Value) (n : Nat), Vals xs its /\ xs.length = its.length /\ s.heap.get? l = some { cls := .type "list", data := .seq its.toArray n } := by
  obtain ⟨z, its, n, r, e⟩ := I.hok l _ hH
  exact ⟨z, its, n, r, r.length, e⟩
end
section
variable {X : Cx}
def rAppend : V -> List V -> Hp -> VK -> Prop := fun x vs H Q => ∃ l xs y, x = .ref l /\ vs = [y] /\ H l = some (.lst xs) /\ xs.length < sizeLine /\ Q .non (upd H l (.lst (xs ++ [y])))
theorem mt_append : MtM X "list.append" rAppend := by
  intro pins s σ H x vs v us Q I rx rv h
  obtain ⟨l, xs, y, rfl, rfl, hH, hz, q⟩ := h
  cases rx
  obtain ⟨u, rfl, ru⟩ := rv.one
  obtain ⟨z, its, n, r, hl, e⟩ := I.lstM hH
  refine call_meets F.slot_list_append ⟨_, e, rfl⟩ F.entry_list_append (F.args_list_append_2 _ _) (PySem.list_append l its.toArray n u (by rw [List.size_toArray]; omega)) ⟨e, ?_⟩
  refine ⟨.non, _, I.lset (its' := its ++ [u]) hH e (by simp) (r.append (.cons ru .nil)) ?_, rfl, q⟩
  rw [List.length_append, List.length_singleton]
  omega
def rPopAt : V -> List V -> Hp -> VK -> Prop := fun x vs H Q => ∃ l xs i k y, x = .ref l /\ vs = [.int i] /\ H l = some (.lst xs) /\ -(2 ^ 63) <= i /\ i < 2 ^ 63 /\ seqIndex? i xs.length = some k /\ xs[k]? = some y /\ Q y (upd H l (.lst (xs.eraseIdx k)))
theorem mt_popAt : MtM X "list.pop" rPopAt := by
  intro pins s σ H x vs v us Q I rx rv h
  obtain ⟨l, xs, i, k, y, rfl, rfl, hH, h1, h2, hk, hy, q⟩ := h
  cases rx
  obtain ⟨u, rfl, ru⟩ := rv.one
  obtain ⟨t, rfl⟩ := ru
  obtain ⟨z, its, n, r, hl, e⟩ := I.lstM hH
  obtain ⟨w, hw, rw'⟩ := r.get hy
  refine call_meets F.slot_list_pop ⟨_, e, rfl⟩ F.entry_list_pop (F.args_list_pop_2 _ _)
    (MeetsSeq.list_pop_at l its.toArray n i t k w (fitsIndex_both h1 h2) (by rw [List.size_toArray, <- hl]; exact hk) (by rw [<- Array.getElem?_toList]; exact hw) (by rw [List.size_toArray]; omega)) ⟨e, ?_⟩
  refine ⟨y, _, I.lset (its' := its.eraseIdx k) hH e ?_ (r.eraseIdx k) ?_, rw', q⟩
  . show its.toArray.eraseIdxIfInBounds k = (its.eraseIdx k).toArray
    rw [List.eraseIdxIfInBounds_toArray]
  . have := len_erase xs k
    omega
end
section
variable {prog : Program} {w : World} {A : Around} {E : Value -> Shared -> Prop} {s : Shared}
end
section
variable {X : Cx}
end
end L2
namespace Att
open PySem PySem.W PySem.Calls PyProof.Rows
theorem ints_of_wellAll {P : Params} {h : Heap} : ∀ (ns : List Int) (vs : List Value), WellAll P h vs (ns.map WData.int) -> IntsAre vs ns := by
  intro ns
  induction ns with
  | nil =>
    intro vs w
    rw [List.map_nil] at w
    cases w
    exact .nil
  | cons n ns ih =>
    intro vs w
    rw [List.map_cons] at w
    cases w with
    | cons a b =>
      cases a
      exact .cons _ _ (ih _ b)
theorem script_of {l : OpenLaw} {n : Nat} (hn : l.most = some n) {P : Params} {h : Heap} {args : List WData} {vals : List Value}
    (hpre : l.row.toRowW.claim.pre args = true) (hwl : WellAll P h vals args) :
    ∃ a vs ns, vals = [Value.ref a] /\ args = [WData.list (ns.map WData.int)] /\ h.get? a = some { cls := .type "list", data := .seq vs.toArray } /\ IntsAre vs ns /\ ns.length <= n := by
  have hsh : WShape.hasAll [] args [.list .int] = true := (pre_splitW hpre).1
  have hc : l.pre.holds [] { args := args } = true := (pre_splitW hpre).2
  obtain ⟨d, r, rfl, h1, h2⟩ := hasAllW_cons hsh
  obtain rfl := hasAllW_nil h2
  obtain ⟨xs, rfl, h3⟩ := hasW_list h1
  obtain ⟨ns, rfl⟩ := items_int h3
  have hlen : ns.length <= n := by
    unfold OpenLaw.pre at hc
    have h4 : (WTm.not (.lt (.lit (.int (n : Int))) (.len (.arg 0)))).holds [] { args := [.list (ns.map .int)] } = true := by
      have h4 := (holds_andW hc).1
      rw [hn] at h4
      exact h4
    have h5 := condW_of h4 (w_not (w_lt w_lit (w_len_list (w_arg rfl))))
    rw [List.length_map] at h5
    refine Nat.le_of_not_lt fun q => ?_
    have q' : (n : Int) < ((ns.length : Nat) : Int) := by omega
    first
      | (rw [decide_eq_true q'] at h5; exact absurd h5 (by decide))
      | (simp at h5; omega)
  cases hwl with
  | cons w1 w2 =>
    cases w2
    cases w1 with
    | list ho hall => exact ⟨_, _, ns, rfl, rfl, ho, ints_of_wellAll ns _ hall, hlen⟩
theorem post_true (l : OpenLaw) (args : List WData) : l.row.toRowW.claim.post args (.bool true) args = true :=
  postW_of (r := l.row.toRowW) (X := (true == true))
    (show WShape.has [] (.bool true) .bool = true by first | rfl | decide | simp [WShape.has, WShape.arms, WShape.armsAll])
    (show (WTm.eq .res (.lit (.bool true))).value [] { args := args, res := some (.bool true), after := args } = some (.bool (true == true)) from w_eq_bool (w_res rfl) w_lit) rfl
theorem attach_call {l : OpenLaw} {n : Nat} {q : Program} {loose : List Str} {XP : (Str -> Option Value) -> Heap -> Prop} {YP : World -> Heap -> Prop} {d : DefRec}
    (hn : l.most = some n) (hdf : d.params.defaults = [])
    (call : ∀ (w : World) (s₀ s₁ : Shared) (mg mb : Str -> Option Value) (fa : Addr) (o : Obj) (pm cd doc : Value) (a : Addr) (vs : List Value) (ns : List Int),
      Ground q loose [] XP w s₀ mg mb s₁.heap -> YP w s₁.heap ->
      s₁.heap.get? fa = some o -> o.data = .func (docDef d.name d.params d.body d.scope pm cd doc) -> s₁.heap.CodeRec cd d.name -> mg d.name = some (.ref fa) ->
      s₁.heap.get? a = some { cls := .type "list", data := .seq vs.toArray } -> IntsAre vs ns -> ns.length <= n -> s₁.gens = #[] ->
      codeAny (model l.prog w) callerA (.call (.ref fa) ⟨[.ref a], []⟩) (fun r s' => r = .ok (.ret (.bool true)) /\ OldK s₁.heap s'.heap /\ s'.os = s₁.os /\ AllBare s'.gens) s₁) :
    WalkO q loose XP YP l.row.toRowW d [] (fun f vs => PySem.call f vs) := by
  intro w s₀ s₁ mg mb G Y fa o pm cd doc dV kV ho hd hcd hD hmg hg args vals as hpre hlay hrd hwl hlo
  obtain rfl : dV = .none := Dflts.none hD hdf
  obtain rfl : kV = .none := Dflts.noKw hD
  obtain ⟨a, vs, ns, rfl, rfl, hobj, hints, hlen⟩ := script_of hn hpre hwl
  refine enter_call (codeAny_mono (call w s₀ s₁ mg mb fa o pm cd doc a vs ns G Y ho (fd_plain hd) hcd hmg hobj hints hlen hg) fun r s' hq => ?_)
  obtain ⟨rfl, h2, h3, h4⟩ := hq
  exact ⟨.inl ⟨.bool true, .bool true, [], rfl, fun _ => rfl, .bool true, post_true l _, fun _ => ⟨List.Pairwise.nil, fun _ hm => (nomatch hm)⟩⟩, h2, h3, h4⟩
section
variable {prog : Program} {w : World} {A : Around} {E : Value -> Shared -> Prop} {s : Shared} {K : Frag}
end
end Att
namespace L2
open PySem PySem.Spec PyProof.Rows
theorem vals_ints : ∀ {vs : List Value} {ns : List Int}, IntsAre vs ns -> Vals (ns.map V.int) vs
  | _, _, .nil => .nil
  | _, _, .cons n t h => .cons ⟨t, rfl⟩ (vals_ints h)
def Only (H : Hp) : Prop := ∀ b, H b = none \/ ∃ o xs, H b = some (.frz o (.lst xs))
theorem law_call {P : Program} {w : World} {K : PySem.W.Frag} {mg mb : Str -> Option Value} {CX : CXT} {k : Nat} {fa a : Addr} {fd : FuncData} {x : Str} {sp : Sp} {s₁ : Shared} {vs : List Value} {ns : List Int}
    (KX : K.In s₁.heap) (hns : s₁.heap.Ns mainGlobals mg) (hb : s₁.heap.Ns builtinsNs mb) (hbb : ∀ x : Str, x ≠ "__name__" -> mb x = bootBuiltins x) (hlim : s₁.heap.NoLimit) (hg : s₁.gens = #[])
    (ha : s₁.heap.get? a = some { cls := .type "list", data := .seq vs.toArray }) (hi : IntsAre vs ns) (hl : ns.length <= sizeLine) (hr : Room k callerA)
    (F : ∀ base : Heap, K.In base -> base.Ns mainGlobals mg -> FnOk P w K mg base CX k fa fd [x] sp) (hbind : ∀ (s : Shared) (u : Value), BindsTo s fd ⟨[u], []⟩ [(x, u)])
    (hsp : ∀ H : Hp, Only H -> SqL K H a (ns.map V.int) -> sp [.ref a] H (fun v _ => v = .bl true) fun _ _ _ => False)
    (hCX : ∀ H e s', CX [] H s₁ (fun _ _ _ => False) e s' -> False) :
    codeAny (model P w) callerA (.call (.ref fa) ⟨[.ref a], []⟩) (fun r s' => r = .ok (.ret (.bool true)) /\ OldK s₁.heap s'.heap /\ s'.os = s₁.os /\ AllBare s'.gens) s₁ := by
  have rv := vals_ints hi
  have lenV := hi.length
  -- from an abstract heap in which nothing but the script may be tracked
  have core : ∀ H : Hp, Only H -> SqL K H a (ns.map V.int) -> HOk P w H s₁.heap -> (∀ b, H b ≠ none -> b = a) -> (H a ≠ none -> K.lookup a = none) ->
      codeAny (model P w) callerA (.call (.ref fa) ⟨[.ref a], []⟩) (fun r s' => r = .ok (.ret (.bool true)) /\ OldK s₁.heap s'.heap /\ s'.os = s₁.os /\ AllBare s'.gens) s₁ := by
    intro H hO hS hok hA hK
    have base_of : ∀ {b : Addr} {o : Obj}, s₁.heap.get? b = some o -> H b = none -> (hidT s₁.heap H).get? b = some o := fun e n => hidT_get e n
    have noA : ∀ {b : Addr} {o : Obj} {es : Array DictEntry} {ep : Nat}, s₁.heap.get? b = some o -> o.data = .dict es ep -> H b = none := fun {b o es ep} e d => by
      cases q : H b with
      | none => rfl
      | some u =>
        have e' : b = a := hA b (by rw [q]; simp)
        subst e'
        rw [ha] at e; cases e
        have d' : Data.seq vs.toArray _ = Data.dict es ep := d
        cases d'
    have nsK : ∀ {b : Addr} {m : Str -> Option Value}, s₁.heap.Ns b m -> (hidT s₁.heap H).Ns b m := fun {b m} ⟨o, es, ep, e, d, r⟩ => ⟨o, es, ep, base_of e (noA e d), d, r⟩
    have hKb : K.In (hidT s₁.heap H) := fun b o e => base_of (KX b o e) (by
      cases q : H b with
      | none => rfl
      | some u =>
        have e' : b = a := hA b (by rw [q]; simp)
        subst e'
        rw [hK (by rw [q]; simp)] at e; cases e)
    have hM : Mod K mg (hidT s₁.heap H) := ⟨hKb, nsK hns, ⟨mb, nsK hb, hbb⟩, let ⟨mc, h1, h2⟩ := hlim; ⟨mc, nsK h1, h2⟩⟩
    have e0 : Env0 P w K mg (hidT s₁.heap H) callerA [] s₁ H := ⟨rfl, hM, fun b o e => of_hidT e, Nat.le_of_eq (hidT_size _ _), trivial, fun b hb => absurd (show b ∈ ([] : List Addr) from hb) (by simp), hok, .of_eq hg⟩
    refine codeAny_mono ((F _ hKb (nsK hns)).run callerA [] s₁ H ⟨[.ref a], []⟩ [.ref a] [.ref a] _ _ hr e0 (hbind s₁ (.ref a)) (.cons rfl .nil) (hsp H hO hS)) fun r s' h => ?_
    cases r with
    | error e => exact (hCX H e s' h).elim
    | ok fl =>
      cases fl with
      | next => exact False.elim h
      | brk => exact False.elim h
      | cont => exact False.elim h
      | ret u =>
        obtain ⟨v, H', os, bare, un, hok', r', q⟩ := h
        have q' : v = .bl true := q
        subst q'
        obtain rfl : u = Value.bool true := r'
        refine ⟨rfl, OldK.of_keep fun b o e => ?_, os, bare⟩
        cases q : H b with
        | none => exact un.keep b o e q (by intro z; exact absurd (show b ∈ ([] : List Addr) from z) (by simp)) (by simp)
        | some u =>
          rcases hO b with z | ⟨ob, xs, z⟩
          . rw [q] at z; cases z
          . have z2 := un.frzs b ob _ z
            obtain ⟨e1, _⟩ := hok b _ z
            obtain ⟨e2, _⟩ := hok' b _ z2
            rw [e] at e1; cases e1
            exact e2
  cases hk : K.lookup a with
  | some o =>
    -- the script is one of the module's own objects
    have e := KX a o hk
    rw [ha] at e
    cases e
    refine core (fun _ => none) (fun _ => .inl rfl) (.inr ⟨_, vs.toArray, _, hk, rfl, rfl, rfl, by rw [List.size_toArray, lenV]; exact hl, by simpa using rv⟩) (fun b u z => by have z' : (none : Option HO) = some u := z; cases z') (fun b z => absurd rfl z) fun z => absurd rfl z
  | none =>
    refine core (fun b => if b = a then some (.frz { cls := .type "list", data := .seq vs.toArray } (.lst (ns.map V.int))) else none) (fun b => ?_) (.inl (.inr ⟨{ cls := .type "list", data := .seq vs.toArray }, if_pos rfl⟩)) (fun b u z => ?_) (fun b z => ?_) fun _ => hk
    . by_cases hb : b = a
      . exact .inr ⟨_, _, if_pos hb⟩
      . exact .inl (if_neg hb)
    . by_cases hb : b = a
      . have z' := (if_pos hb).symm.trans z
        cases z'
        subst hb
        exact ⟨ha, by rw [List.length_map]; exact hl, vs, _, rv, ha⟩
      . have z' := (if_neg hb).symm.trans z
        cases z'
    . by_cases hb : b = a
      . exact hb
      . exact absurd (if_neg hb) z
end L2
namespace L2
open PySem PySem.Spec PyProof.Rows
theorem walk_of {l : PySem.W.OpenLaw} {n k : Nat} {q : Program} {loose : List Str} {XP : (Str -> Option Value) -> Heap -> Prop} {YP : World -> Heap -> Prop} {d : DefRec} {K : Params -> PySem.W.Frag} {CX : World -> CXT} {sp : World -> Sp} {x : Str}
    (hn : l.most = some n) (hn2 : n <= sizeLine) (hdf : d.params.defaults = []) (hr : Room k callerA)
    (hY : ∀ (w : World) (h : Heap), YP w h -> (K w.params).In h)
    (F : ∀ (w : World) (mg : Str -> Option Value) (fa : Addr) (h : Heap), (K w.params).In h -> h.Ns mainGlobals mg -> mg d.name = some (.ref fa) ->
      ∃ fd : FuncData, (∀ (s : Shared) (u : Value), BindsTo s fd ⟨[u], []⟩ [(x, u)]) /\
        ∀ base : Heap, (K w.params).In base -> base.Ns mainGlobals mg -> FnOk l.prog w (K w.params) mg base (CX w) k fa fd [x] (sp w))
    (hsp : ∀ (w : World) (H : Hp) (a : Addr) (ns : List Int), ns.length <= n -> Only H -> SqL (K w.params) H a (ns.map V.int) -> sp w [.ref a] H (fun v _ => v = .bl true) fun _ _ _ => False)
    (hCX : ∀ (w : World) (H : Hp) (s : Shared) (e : Value) (s' : Shared), CX w [] H s (fun _ _ _ => False) e s' -> False) :
    PySem.W.WalkO q loose XP YP l.row.toRowW d [] (fun f vs => PySem.call f vs) := by
  refine Att.attach_call hn hdf fun w s₀ s₁ mg mb fa o pm cd doc a vs ns G Y ho hd hcd hmg hobj hints hlen hg => ?_
  have KX := hY w _ Y
  obtain ⟨fd, hb, hF⟩ := F w mg fa _ KX G.T.g hmg
  exact law_call KX G.T.g G.T.b G.T.builtins G.T.nolimit hg hobj hints (Nat.le_trans hlen hn2) hr hF hb (fun H hO hS => hsp w H a ns hlen hO hS) fun H e s' => hCX w H s₁ e s'
end L2
namespace L2
open PySem PySem.Spec PyProof.Rows
def defArgs (s : Stmt) : Arguments := match s with
  | .FunctionDef _ a _ _ _ _ _ _ _ _ => a
  | _ => { posonlyargs := [], args := [], vararg := none, kwonlyargs := [], kw_defaults := [], kwarg := none, defaults := [] }
def defBody (s : Stmt) : List Stmt := match s with
  | .FunctionDef _ _ b _ _ _ _ _ _ _ => b
  | _ => []
def defScope (s : Stmt) : Scope := match s with
  | .FunctionDef _ _ _ _ _ _ sc _ _ _ => sc
  | _ => { kind := .function, names := [], isGenerator := false, isCoroutine := false }
abbrev CX0 : CXT := fun _ _ _ _ _ _ => False
abbrev E0 : XK := fun _ _ _ => False
theorem pass0 {X : Cx} : Passes CX0 X E0 := fun _ _ _ _ _ _ _ h => h.elim
structure Fun (K : PySem.W.Frag) (x qual : Str) (st : Stmt) (f : Addr) (fd : FuncData) : Prop where
  ex : ∃ (oc : Value) (od : Option Addr) (kV doc pm : Value) (an : Option Addr) (cdv ct : Value) (osl : Array (Option Value)),
    fd = PySem.W.fnOf x qual (defArgs st) (defBody st) (defScope st) .none kV doc pm an cdv ct /\ K.lookup f = some ⟨oc, od, .func fd, osl⟩ /\ PySem.W.codeIn K cdv qual = true
  kp : PySem.W.keepIn K (.ref f) = true
section
variable {P : Program} {w : World} {K : PySem.W.Frag} {mg : Str -> Option Value} {base : Heap}
theorem Fun.ok {x qual : Str} {st : Stmt} {f : Addr} {fd : FuncData} {N ps : List Str} {k : Nat} {sp : Sp} (F : Fun K x qual st f fd) (S : FnScope N ps (defScope st)) (len : ∀ vs H Q E, sp vs H Q E -> vs.length = ps.length)
    (hbody : ∀ (cdv : Value) (A : Around) (outer : List Env) (s : Shared) (H : Hp) (vs : List V) (Q : VK) (E : XK), Room k (A.deeper (envOfC qual (defScope st) s.heap.objs.size f cdv)) -> sp vs H Q E ->
      ∃ t, PSs (cxOf CX0 P w K mg base N qual (defScope st) f cdv A outer s H E).nox (defBody st) t /\ t { nx := fun _ H' => Q .non H', rt := Q } (start N vs) H) : FnOk P w K mg base CX0 (k + 1) f fd ps sp := by
  obtain ⟨oc, od, kV, doc, pm, an, cdv, ct, osl, rfl, lk, hcd⟩ := F.ex
  refine fn_of lk hcd S len fun A outer s H vs Q E hr hsp => ?_
  obtain ⟨t, h, q⟩ := hbody cdv A outer s H vs Q E hr hsp
  exact ⟨t, h.nox, q⟩
theorem Fun.binds {x qual : Str} {st : Stmt} {f : Addr} {fd : FuncData} {ps : List Str} (F : Fun K x qual st f fd)
    (h : ∀ (kV doc pm : Value) (an : Option Addr) (cdv ct : Value) (us : List Value), us.length = ps.length -> bindArgs (PySem.W.fnOf x qual (defArgs st) (defBody st) (defScope st) .none kV doc pm an cdv ct) ⟨us, []⟩ = pure (ps.zip us)) : Binds K fd ps [] := by
  obtain ⟨oc, od, kV, doc, pm, an, cdv, ct, osl, rfl, lk, hcd⟩ := F.ex
  exact .all (h kV doc pm an cdv ct)
theorem fun_mk {x qual : Str} {st : Stmt} {f : Addr} {oc : Value} {od an : Option Addr} {osl : Array (Option Value)} {kV doc pm cdv ct : Value} (l : K.lookup f = some ⟨oc, od, .func (PySem.W.fnOf x qual (defArgs st) (defBody st) (defScope st) .none kV doc pm an cdv ct), osl⟩)
    (c : PySem.W.codeIn K cdv qual = true) (k : PySem.W.keepIn K (.ref f) = true) : Fun K x qual st f (PySem.W.fnOf x qual (defArgs st) (defBody st) (defScope st) .none kV doc pm an cdv ct) := ⟨⟨oc, od, kV, doc, pm, an, cdv, ct, osl, rfl, l, c⟩, k⟩
end
section
variable {X : Cx}
theorem pv (i : Nat) {x : Str} {pos : Pos} (hN : X.N[i]? = some x := by rfl) (hv : Vis X.env.scope x := by first | exact Or.inl rfl | exact Or.inr (Or.inl rfl) | exact Or.inr (Or.inr rfl)) (hd : (x == ("__debug__" : Str)) = false := by decide)
    (hcd : (x == ("__classdict__" : Str)) = false := by decide) : PE X (.Name x pos) (tVar i) := pe_var hN hv hd hcd
end
theorem ite2 {c A B : Prop} [Decidable c] (h1 : c -> A) (h2 : ¬ c -> B) : if c then A else B := by
  by_cases h : c
  . rw [if_pos h]
    exact h1 h
  . rw [if_neg h]
    exact h2 h
def Same (H H' : Hp) : Prop := ∀ b o, H b = some o -> H' b = some o
theorem Same.refl (H : Hp) : Same H H := fun _ _ h => h
theorem Same.trans {H H1 H2 : Hp} (a : Same H H1) (b : Same H1 H2) : Same H H2 := fun c o h => b c o (a c o h)
theorem Same.seq {K : PySem.W.Frag} {H H' : Hp} {a : Addr} {xs : List V} (e : Same H H') (h : SqL K H a xs) : SqL K H' a xs := by
  rcases h with (h | ⟨o, h⟩) | h
  . exact .inl (.inl (e _ _ h))
  . exact .inl (.inr ⟨o, e _ _ h⟩)
  . exact .inr h
end L2
set_option Elab.async false
set_option linter.all false
set_option maxRecDepth 100000
set_option maxHeartbeats 4000000
namespace L2
open PySem PySem.Spec PyProof.Rows
section
variable {κ : Type} [DecidableEq κ]
end
section
variable {P : Program} {w : World} {H : Hp} {h : Heap} {a : Addr}
end
section
variable {X : Cx} {pins : List (Addr × Obj)} {σ : St} {H : Hp} {s : Shared} {a : Addr} {y v : V} {u r : Value} {o : Option V} {A : Around} {E : Value -> Shared -> Prop}
end
section
variable {X : Cx} {pins : List (Addr × Obj)} {σ : St} {H : Hp} {s : Shared} {a : Addr} {kvs : List (Key × V)} {k : Key} {u : Value} {A : Around} {E : Value -> Shared -> Prop}
end
section
variable {X : Cx} {o i e value : Expr} {pos pos' tpos : Pos} {td ty tv : TE}
end
section
variable {X : Cx} {pos : Pos}
end
section
variable {X : Cx} {pins : List (Addr × Obj)} {σ : St} {H : Hp} {s : Shared} {a : Addr} {y d : V} {u r : Value} {o : Option V} {A : Around} {E : Value -> Shared -> Prop}
end
section
variable {X : Cx} {o e f : Expr} {apos cpos : Pos} {td ty tx : TE}
end
section
variable {X : Cx} {pins : List (Addr × Obj)} {σ : St} {H : Hp} {s : Shared} {a : Addr} {kvs : List (Key × V)} {A : Around} {E : Value -> Shared -> Prop}
end
section
variable {X : Cx} {pins : List (Addr × Obj)} {σ : St} {H : Hp} {s : Shared} {a : Addr} {y : V} {u : Value} {A : Around} {E : Value -> Shared -> Prop}
end
end L2
set_option Elab.async false
set_option linter.all false
set_option maxRecDepth 100000
set_option maxHeartbeats 4000000
namespace L2
open PySem PySem.Spec PyProof.Rows
def clOf (env : Env) : List (Str × NameKind) -> List (Str × Addr) -> List (Str × Addr)
  | [], acc => acc
  | (n, k) :: r, acc => if (k == .free) = true then clOf env r ((n, (env.cells.lookup n).getD 0) :: acc) else clOf env r acc
theorem closure_eq {env : Env} {scope : Scope} (h : ∀ p ∈ scope.names, p.2 = .free -> ∃ c, env.cells.lookup p.1 = some c) : closureFor scope env = pure (clOf env scope.names []) := by
  have go : ∀ (l : List (Str × NameKind)) (acc : List (Str × Addr)), (∀ p ∈ l, p.2 = .free -> ∃ c, env.cells.lookup p.1 = some c) ->
      (forIn l acc fun (x : Str × NameKind) (cs : List (Str × Addr)) => (if (x.2 == .free) = true then do let c <- cellOf env x.1; pure (ForInStep.yield ((x.1, c) :: cs)) else pure (ForInStep.yield cs) : Sem (ForInStep (List (Str × Addr))))) = (pure (clOf env l acc) : Sem (List (Str × Addr))) := by
    intro l
    induction l with
    | nil => intro acc _; rfl
    | cons p r ih =>
      intro acc hl
      obtain ⟨n, k⟩ := p
      rw [List.forIn_cons]
      by_cases hk : (k == .free) = true
      . obtain ⟨c, hc⟩ := hl (n, k) List.mem_cons_self (by simpa using hk)
        have e1 : cellOf env n = pure c := by unfold cellOf; rw [hc]
        have ih' := ih ((n, c) :: acc) fun q hq => hl q (List.mem_cons_of_mem _ hq)
        show ((if (k == .free) = true then do let c <- cellOf env n; pure (ForInStep.yield ((n, c) :: acc)) else pure (ForInStep.yield acc) : Sem _) >>= _) = _
        rw [if_pos hk, e1]
        show (forIn r ((n, c) :: acc) _ : Sem _) = _
        rw [clOf, if_pos hk, hc]
        exact ih'
      . have ih' := ih acc fun q hq => hl q (List.mem_cons_of_mem _ hq)
        show ((if (k == .free) = true then do let c <- cellOf env n; pure (ForInStep.yield ((n, c) :: acc)) else pure (ForInStep.yield acc) : Sem _) >>= _) = _
        rw [if_neg hk]
        show (forIn r acc _ : Sem _) = _
        rw [clOf, if_neg hk]
        exact ih'
  have e := go scope.names [] h
  unfold closureFor
  show (forIn scope.names [] _ >>= fun cs => pure cs : Sem _) = _
  have e2 : (forIn scope.names [] (fun (x : Str × NameKind) (r : List (Str × Addr)) => (match x with
      | (name, kind) => if (kind == .free) = true then do let c <- cellOf env name; pure (ForInStep.yield ((name, c) :: r)) else do pure PUnit.unit; pure (ForInStep.yield r) : Sem (ForInStep (List (Str × Addr)))))) = (pure (clOf env scope.names []) : Sem (List (Str × Addr))) := e
  exact congrArg (fun z => z >>= fun cs => pure cs) e2
theorem clOf_mem {env : Env} : ∀ (l : List (Str × NameKind)) (acc : List (Str × Addr)), (∀ p ∈ l, p.2 = .free -> ∃ c, env.cells.lookup p.1 = some c) -> (∀ q ∈ acc, env.cells.lookup q.1 = some q.2) -> ∀ q ∈ clOf env l acc, env.cells.lookup q.1 = some q.2
  | [], _, _, ha, q, hq => ha q hq
  | (n, k) :: r, acc, hl, ha, q, hq => by
    unfold clOf at hq
    by_cases hk : (k == .free) = true
    . rw [if_pos hk] at hq
      obtain ⟨c, hc⟩ := hl (n, k) List.mem_cons_self (by simpa using hk)
      refine clOf_mem r _ (fun p hp => hl p (List.mem_cons_of_mem _ hp)) (fun p hp => ?_) q hq
      rcases List.mem_cons.mp hp with rfl | hp
      . show env.cells.lookup n = some ((env.cells.lookup n).getD 0)
        rw [hc]; rfl
      . exact ha p hp
    . rw [if_neg hk] at hq
      exact clOf_mem r _ (fun p hp => hl p (List.mem_cons_of_mem _ hp)) ha q hq
theorem clOf_has {env : Env} : ∀ (l : List (Str × NameKind)) (acc : List (Str × Addr)) (x : Str), ((x, NameKind.free) ∈ l \/ ∃ c, (x, c) ∈ acc) -> ∃ c, (x, c) ∈ clOf env l acc
  | [], _, _, h => by
    rcases h with h | h
    . cases h
    . exact h
  | (n, k) :: r, acc, x, h => by
    unfold clOf
    by_cases hk : (k == .free) = true
    . rw [if_pos hk]
      refine clOf_has r _ x ?_
      rcases h with h | ⟨c, h⟩
      . rcases List.mem_cons.mp h with h | h
        . cases h
          exact .inr ⟨_, List.mem_cons_self⟩
        . exact .inl h
      . exact .inr ⟨c, List.mem_cons_of_mem _ h⟩
    . rw [if_neg hk]
      refine clOf_has r _ x ?_
      rcases h with h | h
      . rcases List.mem_cons.mp h with h | h
        . cases h
          exact absurd rfl hk
        . exact .inl h
      . exact .inr h
theorem lookup_some_of_mem {β : Type} : ∀ {l : List (Str × β)} {x : Str} {c : β}, (x, c) ∈ l -> ∃ c', l.lookup x = some c'
  | [], _, _, h => by cases h
  | (n, d) :: r, x, c, h => by
    by_cases hx : (x == n) = true
    . exact ⟨d, by rw [List.lookup_cons, hx]⟩
    . rcases List.mem_cons.mp h with h | h
      . cases h; exact absurd (beq_self_eq_true _) hx
      . obtain ⟨c', e⟩ := lookup_some_of_mem h
        exact ⟨c', by rw [List.lookup_cons]; simp only [Bool.not_eq_true] at hx; rw [hx]; exact e⟩
def relF (env : Env) : Str × NameKind -> Str × NameKind := fun (n, k) => if (k == NameKind.free && env.scope.kind == .function && env.kindOf n == some .cell) then (n, NameKind.cell) else (n, k)
theorem relF_yes {env : Env} {n : Str} {k : NameKind} (h : (k == NameKind.free && env.scope.kind == .function && env.kindOf n == some .cell) = true) : relF env (n, k) = (n, .cell) := if_pos h
theorem relF_no {env : Env} {n : Str} {k : NameKind} (h : ¬ (k == NameKind.free && env.scope.kind == .function && env.kindOf n == some .cell) = true) : relF env (n, k) = (n, k) := if_neg h
theorem relabel_kind {env : Env} : ∀ {names : List (Str × NameKind)} {x : Str} {k : NameKind}, (∀ y ∈ names, y.2 ≠ .cell) ->
    (names.map (relF env)).lookup x = some k -> (k = .cell \/ k = .free) -> (x, NameKind.free) ∈ names
  | [], _, _, _, h, _ => by simp at h
  | (n, k') :: r, x, k, hc, h, hk => by
    have ih := @relabel_kind env r x k (fun y hy => hc y (List.mem_cons_of_mem _ hy))
    rw [List.map_cons] at h
    by_cases hb : (k' == NameKind.free && env.scope.kind == .function && env.kindOf n == some .cell) = true
    . rw [relF_yes hb, List.lookup_cons] at h
      cases hx : x == n with
      | true =>
        have e : x = n := by simpa using hx
        subst e
        have e2 : k' = .free := by
          simp only [Bool.and_eq_true] at hb
          simpa using hb.1.1
        subst e2
        exact List.mem_cons_self
      | false =>
        rw [hx] at h
        exact List.mem_cons_of_mem _ (ih h hk)
    . rw [relF_no hb, List.lookup_cons] at h
      cases hx : x == n with
      | true =>
        rw [hx] at h
        have e : x = n := by simpa using hx
        subst e
        have e2 : k' = k := Option.some.inj h
        subst e2
        rcases hk with rfl | rfl
        . exact absurd rfl (hc _ List.mem_cons_self)
        . exact List.mem_cons_self
      | false =>
        rw [hx] at h
        exact List.mem_cons_of_mem _ (ih h hk)
theorem relabel_free {env : Env} : ∀ {names : List (Str × NameKind)} {x : Str}, names.lookup x = some .free ->
    ∃ k, (k = NameKind.cell \/ k = NameKind.free) /\ (names.map (relF env)).lookup x = some k
  | [], _, h => by simp at h
  | (n, k') :: r, x, h => by
    have ih := @relabel_free env r x
    rw [List.lookup_cons] at h
    rw [List.map_cons]
    cases hx : x == n with
    | true =>
      rw [hx] at h
      have e2 : k' = .free := Option.some.inj h
      subst e2
      by_cases hb : ((NameKind.free : NameKind) == NameKind.free && env.scope.kind == .function && env.kindOf n == some .cell) = true
      . exact ⟨.cell, .inl rfl, by rw [relF_yes hb, List.lookup_cons, hx]⟩
      . exact ⟨.free, .inr rfl, by rw [relF_no hb, List.lookup_cons, hx]⟩
    | false =>
      rw [hx] at h
      obtain ⟨k, hk, e⟩ := ih h
      refine ⟨k, hk, ?_⟩
      by_cases hb : (k' == NameKind.free && env.scope.kind == .function && env.kindOf n == some .cell) = true
      . rw [relF_yes hb, List.lookup_cons, hx]; exact e
      . rw [relF_no hb, List.lookup_cons, hx]; exact e
end L2
set_option Elab.async false
set_option linter.all false
set_option maxRecDepth 100000
set_option maxHeartbeats 4000000
namespace L2
open PySem PySem.Spec PyProof.Rows
section
variable {prog : Program} {w : World} {A : Around} {R : Result -> Shared -> Prop} {s : Shared}
abbrev cpW (prog : Program) (w : World) (A : Around) (R : Result -> Shared -> Prop) (env : Env) {α : Type} (m : Sem α) (Q : α -> Shared -> Prop) : Shared -> Prop := wpAny (model prog w) A m Q (notedBy (model prog w) A env fun e t => R (.error e) t)
theorem compLoop_gen {elt target iter : Expr} {ifs : List Expr} {scope : Scope} {pos : Pos} {it acc : Value} {env : Env} (I : Nat -> Shared -> Prop)
    (turn : ∀ n s, I n s -> cpW prog w A R env (pyNext it) (fun r s => match r with
      | none => R (.ok .next) s
      | some v => cpW prog w A R env (letOwnedTupleGo target it v) (fun _ => cpW prog w A R env (assign target env v) fun _ => cpW prog w A R env (forIn ifs true fun c r => if r = true then do let ok <- isTrue c env (eval c env); pure (ForInStep.yield ok) else pure (ForInStep.yield r)) fun ok s =>
          if ok = true then cpW prog w A R env (eval elt env) (fun x => cpW prog w A R env (call (.builtin "list.append") [acc, x]) fun _ t => ∃ m, m < n /\ I m t) s else ∃ m, m < n /\ I m s) s) s)
    (n : Nat) (h : I n s) : codeAny (model prog w) A (.compLoop (.ListComp elt [⟨target, iter, ifs, 0⟩] scope pos) 0 it acc env) R s := by
  have mono : ∀ {α β : Type} {m : Sem α} {f : α -> Sem β} {Q : α -> Shared -> Prop} {Q' : β -> Shared -> Prop} {s : Shared}, cpW prog w A R env m Q s -> (∀ a t, Q a t -> cpW prog w A R env (f a) Q' t) -> cpW prog w A R env (m >>= f) Q' s := fun h k => wpAny_bind (wpAny_mono h k fun _ _ e => e)
  refine codeAny_loop rfl I (fun n s hI => wpAny_noted ?_) n h
  rw [compTurn_list]
  refine wpAny_bind (wpAny_standAt (mono (turn n s hI) fun r s1 h1 => ?_))
  cases r with
  | none => exact wpAny_pure h1
  | some v =>
    refine mono h1 fun _ _ h2 => mono h2 fun _ _ h3 => mono h3 fun ok s4 h4 => ?_
    cases ok with
    | false => exact wpAny_pure ⟨rfl, h4⟩
    | true => exact wpAny_bind (mono h4 fun _ _ h5 => mono h5 fun _ _ h6 => wpAny_pure (wpAny_pure ⟨rfl, h6⟩))
end
abbrev Cx.blk (X : Cx) (N : List Str) (sc : Scope) (C : Addr) (s₀ : Shared) (H₀ : Hp) (ex : List Addr) : Cx :=
  { X with N := N, env := compEnvC sc (clOf X.env sc.names []) C X.env, outer := X.stack, s₀ := s₀, H₀ := H₀, ex := ex, fn := fun _ => false, pn := [], xe := fun _ _ => False }
structure BlkSc (X : Cx) (sc : Scope) : Prop where
  kind : sc.kind = .function
  nocell : ∀ y ∈ sc.names, y.2 ≠ .cell
  loc : ∀ y ∈ sc.names, y.2 = .local -> sc.names.lookup y.1 = some .local
  free : ∀ y ∈ sc.names, y.2 = .free -> X.env.kindOf y.1 = some .cell \/ X.env.kindOf y.1 = some .free
abbrev Caps := List (Str × Option Nat)
def Caps.names (c : Caps) : List Str := c.map (·.1)
def Caps.st (c : Caps) (σ : St) : St := c.map fun p => p.2.bind fun j => (σ[j]?).join
def CapsOk (N : List Str) (sc : Scope) : Caps -> Prop
  | [] => True
  | (_, none) :: r => CapsOk N sc r
  | (x, some j) :: r => (N[j]? = some x /\ sc.names.lookup x = some .free) /\ CapsOk N sc r
theorem CapsOk.get {N : List Str} {sc : Scope} : ∀ {c : Caps} {i : Nat} {x : Str} {j : Nat}, CapsOk N sc c -> c[i]? = some (x, some j) -> N[j]? = some x /\ sc.names.lookup x = some .free
  | [], _, _, _, _, h => by simp at h
  | (y, none) :: r, 0, x, j, _, h => by simp at h
  | (y, none) :: r, i + 1, x, j, ok, h => CapsOk.get (c := r) (i := i) ok (by simpa using h)
  | (y, some k) :: r, 0, x, j, ok, h => by
    simp only [List.getElem?_cons_zero, Option.some.injEq, Prod.mk.injEq] at h
    obtain ⟨rfl, rfl⟩ := h
    exact ok.1
  | (y, some k) :: r, i + 1, x, j, ok, h => CapsOk.get (c := r) (i := i) ok.2 (by simpa using h)
section
variable {X : Cx} {pins : List (Addr × Obj)} {σ : St} {H : Hp} {s : Shared} {sc : Scope} {fp : List Addr}
theorem blk_cells (I : Inv X pins σ H s) (S : BlkSc X sc) : ∀ p ∈ sc.names, p.2 = .free -> ∃ c, X.env.cells.lookup p.1 = some c := fun p hp e => I.ok.has p.1 (S.free p hp e)
theorem blk_lookup (I : Inv X pins σ H s) (S : BlkSc X sc) {x : Str} {c : Addr} (h : (clOf X.env sc.names []).lookup x = some c) : X.env.cells.lookup x = some c :=
  clOf_mem sc.names [] (blk_cells I S) (fun q hq => by cases hq) (x, c) (PySem.mem_of_lookup h)
theorem blk_ok {N : List Str} {C : Addr} (I : Inv X pins σ H s) (S : BlkSc X sc) (hC : s.heap.objs.size <= C) (hf : ∀ b ∈ fp, FpOk X pins H b) (ho : ∀ b ∈ fp, ∃ o, s.heap.get? b = some o) : (X.blk N sc C s H fp).Ok where
  mod := I.ok.mod
  kind := S.kind
  glob := I.ok.glob
  blt := I.ok.blt
  above := hC
  inj := fun x y c h1 h2 => I.ok.inj x y c (blk_lookup I S h1) (blk_lookup I S h2)
  has := fun x hx => by
    have hx' : (x, NameKind.free) ∈ sc.names := by
      rcases hx with hx | hx
      . exact relabel_kind (env := X.env) S.nocell hx (.inl rfl)
      . exact relabel_kind (env := X.env) S.nocell hx (.inr rfl)
    obtain ⟨c, hc⟩ := clOf_has (env := X.env) sc.names [] x (.inl hx')
    exact lookup_some_of_mem hc
  cab := fun x c h => absurd (show false = true from h) Bool.false_ne_true
  hd := I.ok.hd
  frames := I.ok.frames
  stk := .inl rfl
  exf := fun b hb => by
    obtain ⟨o, ho⟩ := ho b hb
    refine ⟨Nat.ne_of_lt (Nat.lt_of_lt_of_le (Heap.lt_size ho) hC), fun x c h => (hf b hb).2.2.2.2.1 x c (blk_lookup I S h)⟩
  bs := I.bs
  bsz := Nat.le_trans I.ok.bsz I.sz
  noex := fun b o e hb => by
    rcases (hf b hb).2.2.2.1 with z | z
    . exact I.ok.noex b o e z
    . exact absurd (Nat.lt_of_lt_of_le (Heap.lt_size (I.ok.bs b o e).1) z) (Nat.lt_irrefl _)
  exfs := fun b hb z => by
    rcases List.mem_cons.mp (I.stkSub b z) with e | e
    . exact (hf b hb).2.1 e
    . exact (hf b hb).2.2.1 e
  funs := I.stack
  frf := I.stkFree
theorem blk_start {c : Caps} {C : Addr} {s4 : Shared} {m : Str -> Option Value} (I : Inv X pins σ H s) (S : BlkSc X sc) (hc : CapsOk X.N sc c) (hC : s.heap.objs.size <= C) (hf : ∀ b ∈ fp, FpOk X pins H b) (ho : ∀ b ∈ fp, ∃ o, s.heap.get? b = some o)
    (hos : s4.os = s.os) (hb : s4.gens = s.gens) (hk : ∀ b o, s.heap.get? b = some o -> s4.heap.get? b = some o) (hn : s4.heap.Ns C m) : Inv (X.blk c.names sc C s H fp) [] (c.st σ) H s4 where
  ok := blk_ok I S hC hf ho
  os := hos
  bare := by rw [hb]; exact I.bare
  base := Un.kept hk
  loc := by
    refine ⟨m, hn, fun i x v h1 h2 hv => ?_⟩
    have h1' : (c.map (·.1))[i]? = some x := h1
    have h2' : (c.map fun p => p.2.bind fun j => (σ[j]?).join)[i]? = some (some v) := h2
    rw [List.getElem?_map] at h1' h2'
    cases e : c[i]? with
    | none => rw [e] at h1'; cases h1'
    | some p =>
      obtain ⟨y, oj⟩ := p
      rw [e] at h1' h2'
      have e1 : y = x := Option.some.inj h1'
      subst e1
      have e2 : (oj.bind fun j => (σ[j]?).join) = some v := Option.some.inj h2'
      cases oj with
      | none => cases e2
      | some j =>
        have e3 : (σ[j]?).join = some v := e2
        have e4 : σ[j]? = some (some v) := by
          cases q : σ[j]? with
          | none => rw [q] at e3; cases e3
          | some z => rw [q] at e3; exact congrArg some e3
        obtain ⟨k1, k2⟩ := CapsOk.get hc e
        have k3 : X.env.kindOf y = some .cell \/ X.env.kindOf y = some .free := S.free (y, .free) (PySem.mem_of_lookup k2) rfl
        have vis : Vis X.env.scope y := by
          rcases k3 with k | k
          . exact .inr (.inl k)
          . exact .inr (.inr k)
        obtain ⟨mX, hnX, hl⟩ := I.loc
        obtain ⟨u, r, l⟩ := hl j y v k1 e4 vis
        refine ⟨u, r, ?_⟩
        rcases l with ⟨k, _⟩ | ⟨_, ca, hca, z⟩
        . rcases k3 with k' | k' <;> (rw [k] at k'; cases k')
        . obtain ⟨kd, hkd, ek⟩ := relabel_free (env := X.env) k2
          have hk2 : (compEnvC sc (clOf X.env sc.names []) C X.env).kindOf y = some kd := ek
          obtain ⟨c', hc'⟩ := clOf_has (env := X.env) sc.names [] y (.inl (PySem.mem_of_lookup k2))
          obtain ⟨c2, hc2⟩ := lookup_some_of_mem hc'
          have e5 := blk_lookup I S hc2
          rw [hca] at e5
          have e6 : ca = c2 := Option.some.inj e5
          subst e6
          refine .inr ⟨?_, ca, hc2, ?_⟩
          . rcases hkd with rfl | rfl
            . exact .inl hk2
            . exact .inr hk2
          . obtain ⟨oc, hoc, hd⟩ := z
            exact ⟨oc, hk _ _ hoc, hd⟩
  cell := fun x ca h => by
    obtain ⟨v, oc, hoc, hd⟩ := I.cell x ca (blk_lookup I S h)
    exact ⟨v, oc, hk _ _ hoc, hd⟩
  free := I.hok.fresh hC
  freeC := fun x ca h => I.freeC x ca (blk_lookup I S h)
  pin := fun p hp => absurd (show p ∈ ([] : List (Addr × Obj)) from hp) (by simp)
  hok := I.hok.kept hk
  len := by show (c.map _).length = (c.map _).length; rw [List.length_map, List.length_map]
theorem HOk.track {P : Program} {w : World} {H : Hp} {h : Heap} {a : Addr} {o : HO} (x : HOk P w H h) (hn : H a = none) (new : ObjOk P w (upd H a o) h a o) : HOk P w (upd H a o) h := fun b u e => by
  by_cases hb : b = a
  . subst hb; rw [upd_same] at e; cases e; exact new
  . rw [upd_ne hb] at e
    exact (x b u e).stay (fun c v _ q => q) (fun c q => by rw [upd_ne (ne_of_none q hn)]; exact q) fun c xs q => by rw [upd_ne (ne_of_none q hn)]; exact q
theorem Un.track {fs ex : List Addr} {H H' : Hp} {h h' : Heap} {a : Addr} {o : HO} (u : Un fs ex H H' h h') (ha : h.objs.size <= a) (hn : H' a = none) : Un fs ex H (upd H' a o) h h' where
  keep := u.keep
  slot := u.slot
  free := fun b ob q n hx => by rw [upd_ne (Nat.ne_of_lt (Nat.lt_of_lt_of_le (Heap.lt_size q) ha))]; exact u.free b ob q n hx
  there := u.there
  tups := fun b xs q => by rw [upd_ne (ne_of_none (u.tups b xs q) hn)]; exact u.tups b xs q
  frzs := fun b ob xs q => by rw [upd_ne (ne_of_none (u.frzs b ob xs q) hn)]; exact u.frzs b ob xs q
  tbls := fun b ps q => by
    obtain ⟨more, e⟩ := u.tbls b ps q
    exact ⟨more, by rw [upd_ne (ne_of_none e hn)]; exact e⟩
theorem blk_end {c : Caps} {C D : Addr} {s' : Shared} {σ' : St} {H' : Hp} {o : HO} (I : Inv X pins σ H s) (J : Inv (X.blk c.names sc C s H fp) [] σ' H' s') (hf : ∀ b ∈ fp, FpOk X pins H b) (hD : s.heap.objs.size <= D) (hn : H' D = none)
    (new : ObjOk X.prog X.w (upd H' D o) s'.heap D o) : Inv X pins σ (upd H' D o) s' := by
  have u : Un (frs X.stack) fp H H' s.heap s'.heap := J.base
  exact I.call' J.os (u.track hD hn) (J.hok.track hn new) J.bare fun b hb => ⟨(hf b hb).2.2.2.1, (hf b hb).2.1, (hf b hb).2.2.2.2.1, (hf b hb).2.2.2.2.2⟩
end
def PF (X : Cx) (ifs : List Expr) (t : TT) : Prop :=
  ∀ (pins : List (Addr × Obj)) (s : Shared) (σ : St) (H : Hp) (Q : Bool -> Hp -> Prop), Inv X pins σ H s -> t σ H Q ->
    wpAny (model X.prog X.w) X.A (forIn ifs true fun c r => if r = true then do let ok <- isTrue c X.env (eval c X.env); pure (ForInStep.yield ok) else pure (ForInStep.yield r)) (TP X pins σ Q) X.xe s
def tTrue : TT := fun _ H Q => Q true H
theorem pf_nil {X : Cx} : PF X [] tTrue := fun _ _ _ H _ I h => wpAny_tests_nil ⟨H, I, h⟩
def tComp (wi : TI) (cp : Caps) (g : TG) (tc : TT) (te : TE) : TE := fun σ H Q => wi σ H fun J H1 => ∃ W : Nat -> Nat -> List V -> St -> Hp -> Prop, (∃ m, W 0 m [] (cp.st σ) H1) /\ ∀ i m ys σ' H', W i m ys σ' H' ->
  ys.length < sizeLine /\ ((J.stop i H' /\ ∀ D, H' D = none -> Q (.ref D) (upd H' D (.lst ys))) \/ (J.go i H' /\ ∃ N : List V -> St -> Hp -> Prop, (∀ zs σ2 H2, N zs σ2 H2 -> ∃ m', m' < m /\ W (i + 1) m' zs σ2 H2) /\ ∀ x H2, J.yld i H' x H2 -> g x σ' H2 fun σ2 H3 => tc σ2 H3 fun b H4 =>
    if b = true then te σ2 H4 fun v H5 => N (ys ++ [v]) σ2 H5 else N ys σ2 H4))
section
variable {X : Cx} {tg iter elt : Expr} {ifs : List Expr} {sc : Scope} {pos : Pos} {wi : TI} {cp : Caps} {g : TG} {tc : TT} {te : TE}
theorem comp_core (hc : X.calm = true) (S : BlkSc X sc) (hcp : CapsOk X.N sc cp)
    (hg : ∀ C s₀ H₀ ex, PG (X.blk cp.names sc C s₀ H₀ ex) tg g) (hf : ∀ C s₀ H₀ ex, PF (X.blk cp.names sc C s₀ H₀ ex) ifs tc) (he : ∀ C s₀ H₀ ex, PE (X.blk cp.names sc C s₀ H₀ ex) elt te)
    {pins : List (Addr × Obj)} {σ : St} {H : Hp} {s : Shared} {J : It} {it : Addr} {fp : List Addr} {tn : Nat -> Heap -> Prop} {Q : VK} {RR : Value -> Addr -> Result -> Shared -> Prop} {E : Value -> Shared -> Prop}
    (I : Inv X pins σ H s) (T : Turn X.prog X.w X.K tg J fp it tn) (st : tn 0 s.heap) (fpo : ∀ b ∈ fp, FpOk X pins H b)
    (hw : ∃ W : Nat -> Nat -> List V -> St -> Hp -> Prop, (∃ m, W 0 m [] (cp.st σ) H) /\ ∀ i m ys σ' H', W i m ys σ' H' ->
      ys.length < sizeLine /\ ((J.stop i H' /\ ∀ D, H' D = none -> Q (.ref D) (upd H' D (.lst ys))) \/ (J.go i H' /\ ∃ N : List V -> St -> Hp -> Prop, (∀ zs σ2 H2, N zs σ2 H2 -> ∃ m', m' < m /\ W (i + 1) m' zs σ2 H2) /\ ∀ x H2, J.yld i H' x H2 -> g x σ' H2 fun σ2 H3 => tc σ2 H3 fun b H4 =>
        if b = true then te σ2 H4 fun v H5 => N (ys ++ [v]) σ2 H5 else N ys σ2 H4)))
    (hR : ∀ D C s' H' (m : Str -> Option Value), Inv X pins σ H' s' -> Q (.ref D) H' -> s'.heap.Ns C m -> H' C = none -> C ≠ X.env.locals -> X.s₀.heap.objs.size <= C -> (∀ x c, X.env.cells.lookup x = some c -> c ≠ C) -> (∀ p ∈ X.pn ++ pins, p.1 ≠ C) -> RR (.ref D) C (.ok .next) s') :
    wpAny (model X.prog X.w) X.A (newList []) (fun acc s₃ => wpAny (model X.prog X.w) X.A (newFunctionEnv sc X.env.globals (clOf X.env sc.names []) [] X.env.qual none .none (some X.env)) (fun cenv s₄ =>
      codeAny (model X.prog X.w) X.A (.compStart (.ListComp elt [⟨tg, iter, ifs, 0⟩] sc pos) 0 (.ref it) acc { cenv with scope := relabel sc X.env }) (RR acc cenv.locals) s₄) E s₃) E s := by
  obtain ⟨W, ⟨m0, w0⟩, turn⟩ := hw
  refine wpAny_newObj_type (wpAny_newFunctionEnv S.nocell (by intro y hy; simp at hy) (fun h₁ hns₁ hsb₁ => ?_) S.kind)
  dsimp only at hns₁ hsb₁ ⊢
  generalize hH2 : s.heap.push { cls := .type "list", dict := none, data := .seq ([] : List Value).toArray } = H2 at hns₁ hsb₁ ⊢
  have hC : H2.objs.size = s.heap.objs.size + 1 := by rw [<- hH2, Heap.size_push]
  have hDC : s.heap.objs.size ≠ H2.objs.size := by rw [hC]; exact Nat.ne_of_lt (Nat.lt_succ_self _)
  have hCle : s.heap.objs.size <= H2.objs.size := by rw [hC]; exact Nat.le_succ _
  have below : ∀ b, b < s.heap.objs.size -> b ≠ H2.objs.size := fun b hb => by rw [hC]; exact Nat.ne_of_lt (Nat.lt_succ_of_lt hb)
  have old : ∀ b o, s.heap.get? b = some o -> h₁.get? b = some o := fun b o e => hsb₁.extBut b o (below b (Heap.lt_size e)) (Heap.get?_push_of_some _ (hH2 ▸ Heap.get?_push_of_some _ e))
  have hacc : h₁.get? s.heap.objs.size = some { cls := .type "list", data := .seq ([] : List Value).toArray 0 } := hsb₁.extBut _ _ hDC (Heap.get?_push_of_some _ (hH2 ▸ Heap.get?_push_size _ rfl))
  have hst₁ : tn 0 h₁ := T.keep 0 _ _ st fun b _ o e => old b o e
  have hobj : ∀ b ∈ fp, ∃ o, s.heap.get? b = some o := fun b hb => let ⟨o, e, _⟩ := T.obj 0 _ st b hb; ⟨o, e⟩
  have J0 : Inv (X.blk cp.names sc H2.objs.size s H fp) [] (cp.st σ) H { s with heap := h₁, toks := s.toks + ([] : List (Str × Value)).length } := blk_start I S hcp hCle fpo hobj rfl rfl old hns₁
  have nfs : ∀ b, s.heap.objs.size <= b -> b ∉ frs X.stack := fun b hb z => by
    rcases List.mem_cons.mp (I.stkSub b z) with e | e
    . exact absurd (Nat.lt_of_lt_of_le I.lt (by rw [<- e]; exact hb)) (Nat.lt_irrefl _)
    . exact I.nofs hb e
  have ncell : ∀ b, s.heap.objs.size <= b -> ∀ x c, X.env.cells.lookup x = some c -> c ≠ b := fun b hb x c e z => by
    obtain ⟨v, q⟩ := I.cell x c e
    exact absurd (Nat.lt_of_lt_of_le q.lt (by rw [z]; exact hb)) (Nat.lt_irrefl _)
  have fpb : ∀ {pins' : List (Addr × Obj)} {H' : Hp}, (∀ b ∈ fp, H' b = none) -> (∀ p ∈ pins', p.1 ∉ fp) -> ∀ b ∈ fp, FpOk (X.blk cp.names sc H2.objs.size s H fp) pins' H' b := fun {pins' H'} hn hp b hb => by
    obtain ⟨o, e⟩ := hobj b hb
    refine ⟨hn b hb, below b (Heap.lt_size e), fun z => ?_, .inl hb, fun x c h => (fpo b hb).2.2.2.2.1 x c (blk_lookup I S h), fun p hp' z => ?_⟩
    . rcases List.mem_cons.mp (I.stkSub b z) with e | e
      . exact (fpo b hb).2.1 e
      . exact (fpo b hb).2.2.1 e
    . have hp'' : p ∈ pins' := by simpa using hp'
      exact hp p hp'' (by rw [z]; exact hb)
  have loop : ∀ s₃ : Shared, s₃ = { s with heap := h₁, toks := s.toks + ([] : List (Str × Value)).length } ->
      codeAny (model X.prog X.w) X.A (.compLoop (.ListComp elt [⟨tg, iter, ifs, 0⟩] sc pos) 0 (.ref it) (.ref s.heap.objs.size) (compEnvC sc (clOf X.env sc.names []) H2.objs.size X.env))
        (RR (.ref s.heap.objs.size) H2.objs.size) s₃ := by
    rintro s₃ rfl
    refine compLoop_gen (fun n s' => ∃ i σ' H' ys its k, Inv (X.blk cp.names sc H2.objs.size s H fp) [] σ' H' s' /\ tn i s'.heap /\ (∀ b ∈ fp, H' b = none) /\ H' s.heap.objs.size = none /\
      s'.heap.get? s.heap.objs.size = some { cls := .type "list", data := .seq its.toArray k } /\ Vals ys its /\ W i n ys σ' H') ?_ m0
      ⟨0, _, H, [], [], 0, J0, hst₁, fun b hb => (fpo b hb).1, I.hok.fresh (Nat.le_refl _), hacc, .nil, w0⟩
    rintro n s3 ⟨i, σ3, H3, ys, its, k, I3, st3, fr3, hD3, e3, rv, w3⟩
    obtain ⟨hz, tr⟩ := turn i n ys σ3 H3 w3
    have hlen := rv.length
    -- the accumulator stands still while anything else runs
    have dpin : ∀ p ∈ [(s.heap.objs.size, ({ cls := .type "list", data := .seq its.toArray k } : Obj))], p.1 ∉ fp := fun p hp z => by
      have e : p = _ := List.mem_singleton.mp hp
      subst e
      obtain ⟨o, e⟩ := hobj _ z
      exact absurd (Heap.lt_size e) (Nat.lt_irrefl _)
    have I3' : Inv (X.blk cp.names sc H2.objs.size s H fp) [(s.heap.objs.size, ({ cls := .type "list", data := .seq its.toArray k } : Obj))] σ3 H3 s3 := I3.pins_of fun p hp => by
      have e : p = _ := List.mem_singleton.mp hp
      subst e
      exact ⟨e3, hD3, hDC, nfs _ (Nat.le_refl _), fun v z => by cases z⟩
    have stat : ∀ b ∈ fp, FpOk (X.blk cp.names sc H2.objs.size s H fp) [(s.heap.objs.size, ({ cls := .type "list", data := .seq its.toArray k } : Obj))] H3 b := fpb fr3 dpin
    rcases tr with ⟨stop, qn⟩ | ⟨go, N, hN, step⟩
    . refine thn (T.done (X.blk cp.names sc H2.objs.size s H fp) rfl rfl rfl hc i _ s3 σ3 H3 _ I3' stat st3 stop) fun r s4 ⟨hr, I4⟩ => ?_
      subst hr
      obtain ⟨e4, n4, _⟩ := I4.pin (s.heap.objs.size, ({ cls := .type "list", data := .seq its.toArray k } : Obj)) (by simp)
      have new : ObjOk X.prog X.w (upd H3 s.heap.objs.size (.lst ys)) s4.heap s.heap.objs.size (.lst ys) := ⟨Nat.le_of_lt hz, its, k, rv, e4⟩
      obtain ⟨mC, hnC, _⟩ := I4.loc
      have I4' : Inv (X.blk cp.names sc H2.objs.size s H fp) [] σ3 H3 s4 := I4.pins_of fun p hp => by cases hp
      have I5 := blk_end I I4' fpo (Nat.le_refl _) n4 new
      refine hR _ _ s4 _ mC I5 (qn _ n4) hnC ?_ (Nat.ne_of_gt (Nat.lt_of_lt_of_le I.lt hCle)) (Nat.le_trans I.sz hCle) (ncell _ hCle) fun p hp z => ?_
      . rw [upd_ne (Ne.symm hDC)]; exact I4.free
      . exact absurd (Nat.lt_of_lt_of_le (Heap.lt_size (I.pin p hp).1) (by rw [z]; exact hCle)) (Nat.lt_irrefl _)
    . refine thn (T.item (X.blk cp.names sc H2.objs.size s H fp) rfl rfl rfl hc i _ s3 σ3 H3 _ I3' stat st3 go) fun r s4 ⟨u, hr, h4⟩ => ?_
      subst hr
      refine thn h4 fun _ s5 ⟨x, H5, I5, r5, y5, st5, fr5⟩ => ?_
      have I5' := I5.pinned (fpb fr5 dpin) (T.obj _ _ st5)
      have fin : ∀ {σ7 : St} {H7 : Hp} {s7 : Shared}, Inv (X.blk cp.names sc H2.objs.size s H fp) ([(s.heap.objs.size, ({ cls := .type "list", data := .seq its.toArray k } : Obj))] ++ pinsAt fp s5.heap) σ7 H7 s7 ->
          s7.heap.get? s.heap.objs.size = some { cls := .type "list", data := .seq its.toArray k } /\ H7 s.heap.objs.size = none /\ (∀ b ∈ fp, H7 b = none) /\ ∀ b ∈ fp, ∀ o, s5.heap.get? b = some o -> s7.heap.get? b = some o := fun {σ7 H7 s7} I7 => by
        obtain ⟨e7, n7, _⟩ := I7.pin (s.heap.objs.size, ({ cls := .type "list", data := .seq its.toArray k } : Obj)) (by simp)
        refine ⟨e7, n7, fun b hb => ?_, fun b hb o e => ?_⟩
        . obtain ⟨o, e, _⟩ := T.obj _ _ st5 b hb
          exact (I7.pin (b, o) (List.mem_append_right _ (List.mem_append_right _ (mem_pinsAt hb e)))).2.1
        . exact (I7.pin (b, o) (List.mem_append_right _ (List.mem_append_right _ (mem_pinsAt hb e)))).1
      refine wpAny_mono (hg _ _ _ _ _ s5 σ3 H5 x u _ I5' r5 (step x H5 y5)) (fun _ s6 ⟨σ6, H6, I6, q6⟩ => ?_) fun _ _ z => False.elim z
      refine wpAny_mono (hf _ _ _ _ _ s6 σ6 H6 _ I6 q6) (fun ok s7 ⟨H7, I7, q7⟩ => ?_) fun _ _ z => False.elim z
      cases ok with
      | false =>
        rw [if_neg Bool.false_ne_true]
        rw [if_neg Bool.false_ne_true] at q7
        obtain ⟨m', hm, w7⟩ := hN _ _ _ q7
        obtain ⟨e7, n7, fr7, k7⟩ := fin I7
        exact ⟨m', hm, i + 1, σ6, H7, ys, its, k, I7.pins_of (fun p hp => by cases hp), T.keep _ _ _ st5 k7, fr7, n7, e7, rv, w7⟩
      | true =>
        rw [if_pos rfl]
        rw [if_pos rfl] at q7
        refine wpAny_mono (he _ _ _ _ _ s7 σ6 H7 _ I7 q7) (fun v s8 ⟨y, H8, I8, r8, q8⟩ => ?_) fun _ _ z => False.elim z
        obtain ⟨m', hm, w8⟩ := hN _ _ _ q8
        obtain ⟨e8, n8, fr8, k8⟩ := fin I8
        refine call_meets F.slot_list_append ⟨_, e8, rfl⟩ F.entry_list_append (F.args_list_append_2 _ _) (PySem.list_append s.heap.objs.size its.toArray k v (by rw [List.size_toArray]; omega)) ⟨e8, ?_⟩
        obtain ⟨k', q⟩ : ∃ k', (s8.heap.update s.heap.objs.size (Obj.mapSeq fun x => x.push v)).get? s.heap.objs.size = some { cls := .type "list", data := .seq (its ++ [v]).toArray k' } := ⟨_, by
          have q := PySem.IsL.update e8 fun x => x.push v
          have e : (its ++ [v]).toArray = its.toArray.push v := by simp
          rw [e]
          exact q⟩
        have I8' : Inv (X.blk cp.names sc H2.objs.size s H fp) [] σ6 H8 s8 := I8.pins_of fun p hp => by cases hp
        have I9 : Inv (X.blk cp.names sc H2.objs.size s H fp) [] σ6 H8 { s8 with heap := s8.heap.update s.heap.objs.size (Obj.mapSeq fun x => x.push v), toks := s8.toks } :=
          I8'.turned (it := s.heap.objs.size) (fun b o hb e => (Heap.get?_update_other _ _ (Ne.symm hb)).trans e) n8 hDC (.inr (Nat.le_refl _)) (fun x c e => ncell _ (Nat.le_refl _) x c (blk_lookup I S e)) (fun p hp => by cases hp)
        refine ⟨m', hm, i + 1, σ6, H8, ys ++ [y], its ++ [v], k', I9, T.keep (i + 1) s5.heap _ st5 (fun b hb o e => ?_), fr8, n8, q, rv.append (.cons r8 .nil), w8⟩
        . refine (Heap.get?_update_other _ _ ?_).trans (k8 b hb o e)
          intro z
          obtain ⟨ob, eb⟩ := hobj b hb
          exact absurd (Heap.lt_size eb) (by rw [<- z]; exact Nat.lt_irrefl _)
  exact codeAny_compStart_list (loop _ rfl) (T.self _ 0 _ _ _ hst₁ (loop _ rfl))
theorem pe_comp (hc : X.calm = true) (S : BlkSc X sc) (hcp : CapsOk X.N sc cp) (hi : PI X tg iter wi)
    (hg : ∀ C s₀ H₀ ex, PG (X.blk cp.names sc C s₀ H₀ ex) tg g) (hf : ∀ C s₀ H₀ ex, PF (X.blk cp.names sc C s₀ H₀ ex) ifs tc) (he : ∀ C s₀ H₀ ex, PE (X.blk cp.names sc C s₀ H₀ ex) elt te)
    (hs : ∀ x, foldedSetIterable iter X.env x = pure x := by intro _; rfl) : PE X (.ListComp elt [⟨tg, iter, ifs, 0⟩] sc pos) (tComp wi cp g tc te) := by
  intro pins s σ H Q I h
  rw [eval_ListComp]
  refine wpAny_comprehension_free (use := none) rfl hs (closure_eq (blk_cells I S)) S.kind S.loc (thn (hi pins s σ H _ I h) fun xv s₁ h₁ => thn h₁ fun itv s₂ h₂ => ?_)
  obtain ⟨it, fp, tn, J, H2, e, I2, T, st2, f2, hw⟩ := h₂
  subst e
  refine comp_core (RR := fun acc C => compPost (model X.prog X.w) X.A X.xe none (EP X pins σ Q) acc C) hc S hcp hg hf he I2 T st2 f2 hw ?_
  intro D C s' H' m I' q hn hC hL hz hcl hp
  exact ⟨m, hn, fun h' hs' => ⟨.ref D, H', I'.turned (t' := s'.toks) (it := C) (fun b o hb e => hs'.extBut b o hb e) hC hL (.inr hz) hcl hp, rfl, q⟩⟩
end
theorem comp_list {K : PySem.W.Frag} {a : Addr} {xs : List V} {g : TG} {tc : TT} {te : TE} {Q : VK} {σ : St} {H : Hp} (Pv : Nat -> List V -> St -> Hp -> Prop) (h0 : Pv 0 [] σ H) (hz : xs.length < sizeLine)
    (hl : ∀ i ys σ H, i <= xs.length -> Pv i ys σ H -> SqL K H a xs /\ ys.length <= i)
    (hs : ∀ i x ys σ H, xs[i]? = some x -> Pv i ys σ H -> g x σ H fun σ2 H2 => tc σ2 H2 fun b H3 => if b = true then te σ2 H3 fun v H4 => Pv (i + 1) (ys ++ [v]) σ2 H4 else Pv (i + 1) ys σ2 H3)
    (hd : ∀ ys σ H, Pv xs.length ys σ H -> ∀ D, H D = none -> Q (.ref D) (upd H D (.lst ys))) :
    ∃ W : Nat -> Nat -> List V -> St -> Hp -> Prop, (∃ m, W 0 m [] σ H) /\ ∀ i m ys σ' H', W i m ys σ' H' ->
      ys.length < sizeLine /\ (((Itl K a).stop i H' /\ ∀ D, H' D = none -> Q (.ref D) (upd H' D (.lst ys))) \/ ((Itl K a).go i H' /\ ∃ N : List V -> St -> Hp -> Prop, (∀ zs σ2 H2, N zs σ2 H2 -> ∃ m', m' < m /\ W (i + 1) m' zs σ2 H2) /\ ∀ x H2, (Itl K a).yld i H' x H2 -> g x σ' H2 fun σ2 H3 => tc σ2 H3 fun b H4 =>
        if b = true then te σ2 H4 fun v H5 => N (ys ++ [v]) σ2 H5 else N ys σ2 H4)) := by
  refine ⟨fun i m ys σ H => m = xs.length - i /\ i <= xs.length /\ Pv i ys σ H, ⟨xs.length, by simp, Nat.zero_le _, h0⟩, ?_⟩
  rintro i m ys σ H ⟨rfl, hi, p⟩
  obtain ⟨q, ly⟩ := hl i ys σ H hi p
  refine ⟨by omega, ?_⟩
  by_cases hlt : i < xs.length
  . refine .inr ⟨⟨xs, xs[i], q, by simp [hlt]⟩, Pv (i + 1), fun zs σ' H' p' => ⟨xs.length - (i + 1), by omega, rfl, hlt, p'⟩, fun x H' y => ?_⟩
    obtain ⟨e, y⟩ := y
    subst e
    exact hs i x ys σ _ (y xs q) p
  . have e : i = xs.length := by omega
    subst e
    exact .inl ⟨⟨xs, q, Nat.le_refl _⟩, hd ys σ H p⟩
theorem comp_tup {K : PySem.W.Frag} {a : Addr} {xs : List V} {g : TG} {tc : TT} {te : TE} {Q : VK} {σ : St} {H : Hp} (Pv : Nat -> List V -> St -> Hp -> Prop) (h0 : Pv 0 [] σ H) (hz : xs.length < sizeLine)
    (hl : ∀ i ys σ H, i <= xs.length -> Pv i ys σ H -> SqT K H a xs /\ ys.length <= i)
    (hs : ∀ i x ys σ H, xs[i]? = some x -> Pv i ys σ H -> g x σ H fun σ2 H2 => tc σ2 H2 fun b H3 => if b = true then te σ2 H3 fun v H4 => Pv (i + 1) (ys ++ [v]) σ2 H4 else Pv (i + 1) ys σ2 H3)
    (hd : ∀ ys σ H, Pv xs.length ys σ H -> ∀ D, H D = none -> Q (.ref D) (upd H D (.lst ys))) :
    ∃ W : Nat -> Nat -> List V -> St -> Hp -> Prop, (∃ m, W 0 m [] σ H) /\ ∀ i m ys σ' H', W i m ys σ' H' ->
      ys.length < sizeLine /\ (((Itt K a).stop i H' /\ ∀ D, H' D = none -> Q (.ref D) (upd H' D (.lst ys))) \/ ((Itt K a).go i H' /\ ∃ N : List V -> St -> Hp -> Prop, (∀ zs σ2 H2, N zs σ2 H2 -> ∃ m', m' < m /\ W (i + 1) m' zs σ2 H2) /\ ∀ x H2, (Itt K a).yld i H' x H2 -> g x σ' H2 fun σ2 H3 => tc σ2 H3 fun b H4 =>
        if b = true then te σ2 H4 fun v H5 => N (ys ++ [v]) σ2 H5 else N ys σ2 H4)) := by
  refine ⟨fun i m ys σ H => m = xs.length - i /\ i <= xs.length /\ Pv i ys σ H, ⟨xs.length, by simp, Nat.zero_le _, h0⟩, ?_⟩
  rintro i m ys σ H ⟨rfl, hi, p⟩
  obtain ⟨q, ly⟩ := hl i ys σ H hi p
  refine ⟨by omega, ?_⟩
  by_cases hlt : i < xs.length
  . refine .inr ⟨⟨xs, xs[i], q, by simp [hlt]⟩, Pv (i + 1), fun zs σ' H' p' => ⟨xs.length - (i + 1), by omega, rfl, hlt, p'⟩, fun x H' y => ?_⟩
    obtain ⟨e, y⟩ := y
    subst e
    exact hs i x ys σ _ (y xs q) p
  . have e : i = xs.length := by omega
    subst e
    exact .inl ⟨⟨xs, q, Nat.le_refl _⟩, hd ys σ H p⟩
theorem comp_range {lo : Int} {n : Nat} {g : TG} {tc : TT} {te : TE} {Q : VK} {σ : St} {H : Hp} (Pv : Nat -> List V -> St -> Hp -> Prop) (h0 : Pv 0 [] σ H) (hz : n < sizeLine)
    (hl : ∀ i ys σ H, i <= n -> Pv i ys σ H -> ys.length <= i)
    (hs : ∀ i ys σ H, i < n -> Pv i ys σ H -> g (.int (lo + i)) σ H fun σ2 H2 => tc σ2 H2 fun b H3 => if b = true then te σ2 H3 fun v H4 => Pv (i + 1) (ys ++ [v]) σ2 H4 else Pv (i + 1) ys σ2 H3)
    (hd : ∀ ys σ H, Pv n ys σ H -> ∀ D, H D = none -> Q (.ref D) (upd H D (.lst ys))) :
    ∃ W : Nat -> Nat -> List V -> St -> Hp -> Prop, (∃ m, W 0 m [] σ H) /\ ∀ i m ys σ' H', W i m ys σ' H' ->
      ys.length < sizeLine /\ (((Itr lo n).stop i H' /\ ∀ D, H' D = none -> Q (.ref D) (upd H' D (.lst ys))) \/ ((Itr lo n).go i H' /\ ∃ N : List V -> St -> Hp -> Prop, (∀ zs σ2 H2, N zs σ2 H2 -> ∃ m', m' < m /\ W (i + 1) m' zs σ2 H2) /\ ∀ x H2, (Itr lo n).yld i H' x H2 -> g x σ' H2 fun σ2 H3 => tc σ2 H3 fun b H4 =>
        if b = true then te σ2 H4 fun v H5 => N (ys ++ [v]) σ2 H5 else N ys σ2 H4)) := by
  refine ⟨fun i m ys σ H => m = n - i /\ i <= n /\ Pv i ys σ H, ⟨n, by simp, Nat.zero_le _, h0⟩, ?_⟩
  rintro i m ys σ H ⟨rfl, hi, p⟩
  have ly := hl i ys σ H hi p
  refine ⟨by omega, ?_⟩
  by_cases hlt : i < n
  . refine .inr ⟨hlt, Pv (i + 1), fun zs σ' H' p' => ⟨n - (i + 1), by omega, rfl, hlt, p'⟩, fun x H' y => ?_⟩
    obtain ⟨e, y⟩ := y
    subst e y
    exact hs i ys σ _ hlt p
  . have e : i = n := by omega
    subst e
    exact .inl ⟨Nat.le_refl _, hd ys σ H p⟩
end L2
set_option Elab.async false
set_option linter.all false
set_option maxRecDepth 100000
set_option maxHeartbeats 4000000
namespace L2
open PySem PySem.Spec PyProof.Rows
section
variable {X : Cx}
theorem vals_bool_get {bs : List Bool} {its : List Value} (r : Vals (bs.map V.bl) its) {i : Nat} {v : Value} (h : its[i]? = some v) : ∃ b, bs[i]? = some b /\ v = .bool b := by
  have hi : i < its.length := (List.getElem?_eq_some_iff.mp h).1
  have hl := r.length
  rw [List.length_map] at hl
  obtain ⟨u, hu, ru⟩ := r.get (i := i) (x := V.bl bs[i]) (by rw [List.getElem?_map]; simp [show i < bs.length by omega])
  rw [h] at hu
  cases hu
  exact ⟨bs[i], by simp [show i < bs.length by omega], ru⟩
theorem map_at (bs : List Bool) : (List.range bs.length).map (fun i => bs.getD i false) = bs :=
  List.ext_getElem (by simp) fun i _ h => by simp [h]
theorem range_all {bs : List Bool} : (List.range bs.length).all (fun i => bs.getD i false) = bs.all id := by
  have e := congrArg (fun l => l.all id) (map_at bs)
  rw [List.all_map] at e; exact e
theorem truth_bools {bs : List Bool} {its : List Value} {A : Around} {P : Program} {w : World} (r : Vals (bs.map V.bl) its) : TruthOf P w A (fun i v => its.toArray[i]? = some v) (fun i => bs.getD i false) := by
  intro i v s Q E hv hq
  obtain ⟨b, hb, e⟩ := vals_bool_get r (by simpa using hv)
  subst e
  refine wpAny_truthy_bool ?_
  have e : bs.getD i false = b := by rw [List.getD_eq_getElem?_getD, hb]; rfl
  have hq' : Q (bs.getD i false) s := hq
  rw [e] at hq'
  exact hq'
theorem call_all (hc : X.calm = true) : CallR X (.builtin "all") (fun xs H Q => ∃ (p : Addr) (bs : List Bool), xs = [.ref p] /\ SqL X.K H p (bs.map V.bl) /\ Q (.bl (bs.all id)) H) := by
  intro pins s σ H xs us Q I r h
  obtain ⟨p, bs, rfl, hq, q⟩ := h
  obtain ⟨u, rfl, ru⟩ := vals1 r
  cases ru
  obtain ⟨its, rv, pl, hz⟩ := I.list hq
  have hlen := rv.length
  rw [List.length_map] at hlen
  have hh : X.A.in1.handled = none := I.ok.hd hc
  obtain ⟨o, ho, _⟩ := id pl.isList
  have hne : p ≠ s.heap.objs.size := Nat.ne_of_lt (Heap.lt_size ho)
  refine call_all_walk (wpAny_pyIter_list pl.isList ?_)
  refine ⟨s.heap.objs.size, _, _, its.toArray.size, _, _, fun i => bs.getD i false, rfl, Walks.list hh _ p hne its.toArray, ⟨⟨_, Heap.get?_push_size _ rfl, rfl, rfl⟩, pl.isList.at fun o e => Heap.get?_push_of_some _ e⟩, truth_bools rv, fun h' tk hk => ?_⟩
  refine ⟨.bl (bs.all id), H, I.kept (t' := tk) fun b o e => hk b o ?_ (Heap.get?_push_of_some _ e), ?_, q⟩
  . intro hb
    have e' : b = s.heap.objs.size := by simpa using hb
    exact absurd (Heap.lt_size e) (by rw [e']; exact Nat.lt_irrefl _)
  . rw [List.size_toArray, <- hlen, range_all]; rfl
theorem call_isinst : CallR X (.builtin "isinstance") (fun xs H Q => ∃ x c cv t b, xs = [x, c] /\ TyOf X.K H x t /\ (∀ u, RelV c u -> u = cv) /\ PySem.W.kitOne X.K t cv = some b /\ Q (.bl b) H) := by
  intro pins s σ H xs us Q I r h
  obtain ⟨x, c, cv, t, b, rfl, ty, hc, hk, q⟩ := h
  obtain ⟨u, w', rfl, rx, rc⟩ := vals2 r
  rw [hc _ rc]
  exact isinst_ok I rx ty hk fun tk => ⟨.bl b, H, I.tok tk, rfl, q⟩
def EqD (K : PySem.W.Frag) (H : Hp) : Nat -> V -> V -> Bool -> Prop
  | 0, x, y, b => flatV x = true /\ flatV y = true /\ b = eqV x y
  | n + 1, x, y, b => (flatV x = true /\ flatV y = true /\ b = eqV x y) \/ ∃ a c xs ys, x = .ref a /\ y = .ref c /\ ((SqL K H a xs /\ SqL K H c ys) \/ (SqT K H a xs /\ SqT K H c ys)) /\ 
      ∃ e : Nat -> Bool, (∀ i x y, xs[i]? = some x -> ys[i]? = some y -> EqD K H n x y (e i)) /\ b = (decide (xs.length = ys.length) && (List.range (min xs.length ys.length)).all e)
theorem in1_units (A : Around) : A.in1.units = A.units + 1 := rfl
theorem eqV_self {x : V} (h : flatV x = true) : eqV x x = true := by
  cases x <;> first | rfl | (simp [eqV]; done) | exact absurd (show false = true from h) Bool.false_ne_true
theorem EqD.self {pins : List (Addr × Obj)} {s : Shared} {σ : St} {H : Hp} (I : Inv X pins σ H s) : ∀ (n : Nat) {x : V} {b : Bool}, EqD X.K H n x x b -> b = true := by
  intro n
  induction n with
  | zero =>
    rintro x b ⟨fx, _, rfl⟩
    exact eqV_self fx
  | succ n ih =>
    rintro x b (⟨fx, _, rfl⟩ | ⟨a, c, xs, ys, rfl, e2, hq, e, he, rfl⟩)
    . exact eqV_self fx
    . cases e2
      have exy : xs = ys := by
        rcases hq with ⟨h1, h2⟩ | ⟨h1, h2⟩
        . exact I.list_inj h1 h2
        . exact I.tuple_inj h1 h2
      subst exy
      simp only [decide_true, Bool.true_and, Nat.min_self, List.all_eq_true, List.mem_range]
      intro i hi
      exact ih (he i xs[i] xs[i] (by simp [hi]) (by simp [hi]))
theorem all_and {n m : Nat} {e : Nat -> Bool} : ((List.range (min n m)).all e && n == m) = (decide (n = m) && (List.range (min n m)).all e) := by
  rw [Bool.and_comm]
  congr 1
theorem EqD.at {pins : List (Addr × Obj)} {s : Shared} {σ : St} {H : Hp} (I : Inv X pins σ H s) : ∀ (n : Nat) (A : Around) {x y : V} {u v : Value} {b : Bool}, A.units + n < cLine -> RelV x u -> RelV y v -> EqD X.K H n x y b ->
    SeqAt.EqAt A s u v b /\ ∀ a c, x = .ref a -> y = .ref c -> SeqAt.RcAt A s u v b := by
  intro n
  induction n with
  | zero =>
    intro A x y u v b hu rx ry h
    obtain ⟨fx, fy, rfl⟩ := h
    refine ⟨eqAt_V rx ry fx fy, ?_⟩
    rintro a c rfl rfl
    exact absurd (show false = true from fx) Bool.false_ne_true
  | succ n ih =>
    intro A x y u v b hu rx ry h
    have hself := h
    rcases h with ⟨fx, fy, rfl⟩ | ⟨a, c, xs, ys, rfl, rfl, hq, e, he, rfl⟩
    . refine ⟨eqAt_V rx ry fx fy, ?_⟩
      rintro a c rfl rfl
      exact absurd (show false = true from fx) Bool.false_ne_true
    . cases rx
      cases ry
      have key : ∀ (its its2 : List Value), Vals xs its -> Vals ys its2 -> ∀ j (h1 : j < its.toArray.size) (h2 : j < its2.toArray.size), SeqAt.EqAt A.in1 s its.toArray[j] its2.toArray[j] (e j) := fun its its2 r1 r2 j h1 h2 => by
        have l1 := r1.length
        have l2 := r2.length
        rw [List.size_toArray] at h1 h2
        obtain ⟨u1, g1, q1⟩ := r1.get (i := j) (x := xs[j]'(by omega)) (by simp [show j < xs.length by omega])
        obtain ⟨u2, g2, q2⟩ := r2.get (i := j) (x := ys[j]'(by omega)) (by simp [show j < ys.length by omega])
        have k1 : its.toArray[j]'(by rw [List.size_toArray]; exact h1) = u1 := by
          have := (List.getElem?_eq_some_iff.mp g1).2
          simpa using this
        have k2 : its2.toArray[j]'(by rw [List.size_toArray]; exact h2) = u2 := by
          have := (List.getElem?_eq_some_iff.mp g2).2
          simpa using this
        rw [k1, k2]
        exact (ih A.in1 (by rw [in1_units]; omega) q1 q2 (he j _ _ (by simp [show j < xs.length by omega]) (by simp [show j < ys.length by omega]))).1
      have rc : SeqAt.RcAt A s (.ref a) (.ref c) (decide (xs.length = ys.length) && (List.range (min xs.length ys.length)).all e) := by
        rcases hq with ⟨h1, h2⟩ | ⟨h1, h2⟩
        . obtain ⟨its, r1, p1, _⟩ := I.list h1
          obtain ⟨its2, r2, p2, _⟩ := I.list h2
          have l1 := r1.length
          have l2 := r2.length
          by_cases hl : xs.length = ys.length
          . have := SeqAt.RcAt.lists (e := e) p1.isList p2.isList (by rw [List.size_toArray, List.size_toArray]; omega) (by omega) (key its its2 r1 r2)
            rw [List.size_toArray, <- l1] at this
            rw [decide_eq_true hl, Bool.true_and, <- hl, Nat.min_self]
            exact this
          . rw [decide_eq_false hl, Bool.false_and]
            exact SeqAt.RcAt.lists_lengths p1.isList p2.isList (by rw [List.size_toArray, List.size_toArray]; simp; omega) (by omega)
        . obtain ⟨its, r1, p1, _⟩ := I.tuple h1
          obtain ⟨its2, r2, p2, _⟩ := I.tuple h2
          have l1 := r1.length
          have l2 := r2.length
          have := SeqAt.RcAt.tuples (e := e) (show s.heap.IsTuple a its.toArray from p1) (show s.heap.IsTuple c its2.toArray from p2) (by omega) (key its its2 r1 r2)
          rw [List.size_toArray, List.size_toArray, <- l1, <- l2, all_and] at this
          exact this
      refine ⟨?_, fun a' c' _ _ => rc⟩
      by_cases hac : a = c
      . subst hac
        rw [EqD.self I (n + 1) hself]
        exact SeqAt.EqAt.same _
      . exact SeqAt.EqAt.of_refs hac rc
def rEqD (K : PySem.W.Frag) (n : Nat) : R2 := fun x y H Q => ∃ a c b, x = .ref a /\ y = .ref c /\ EqD K H n x y b /\ Q (.bl b) H
theorem op_eqD (n : Nat) (hu : X.A.units + n < cLine) : OpR X (compareOp .Eq) (rEqD X.K n) := by
  intro pins s σ H x y v u Q I rx ry h
  obtain ⟨a, c, b, ex, ey, h, q⟩ := h
  exact (EqD.at I n X.A hu rx ry h).2 a c ex ey _ _ _ _ ⟨.bl b, H, I, rfl, q⟩
theorem EqD.flat {K : PySem.W.Frag} {H : Hp} {a c : Addr} {xs ys : List V} (hq : (SqL K H a xs /\ SqL K H c ys) \/ (SqT K H a xs /\ SqT K H c ys)) (fx : ∀ x ∈ xs, flatV x = true) (fy : ∀ y ∈ ys, flatV y = true) (hi : ∀ x ∈ xs, ∀ y ∈ ys, eqV x y = decide (x = y)) (n : Nat) :
    EqD K H (n + 1) (.ref a) (.ref c) (decide (xs = ys)) := by
  have base : ∀ m i x y, xs[i]? = some x -> ys[i]? = some y -> EqD K H m x y (decide (x = y)) := fun m i x y h1 h2 => by
    have m1 := List.mem_of_getElem? h1
    have m2 := List.mem_of_getElem? h2
    cases m with
    | zero => exact ⟨fx _ m1, fy _ m2, (hi _ m1 _ m2).symm⟩
    | succ m => exact .inl ⟨fx _ m1, fy _ m2, (hi _ m1 _ m2).symm⟩
  refine .inr ⟨a, c, xs, ys, rfl, rfl, hq, fun i => match xs[i]?, ys[i]? with | some x, some y => decide (x = y) | _, _ => true, fun i x y h1 h2 => ?_, ?_⟩
  . simp only [h1, h2]
    exact base n i x y h1 h2
  . rw [Bool.eq_iff_iff]
    simp only [decide_eq_true_eq, Bool.and_eq_true, List.all_eq_true, List.mem_range]
    constructor
    . rintro rfl
      refine ⟨rfl, fun i hi => ?_⟩
      have hi : i < xs.length := by omega
      simp [hi]
    . rintro ⟨hl, h⟩
      refine List.ext_getElem? fun i => ?_
      by_cases hi : i < xs.length
      . have := h i (by omega)
        simp [hi, show i < ys.length by omega] at this
        simp [hi, show i < ys.length by omega, this]
      . rw [List.getElem?_eq_none (by omega), List.getElem?_eq_none (by omega)]
end
end L2
namespace L2
open PySem PySem.Spec PyProof.Rows
def blkOk (outer : List (Str × NameKind)) (sc : Scope) : Bool :=
  sc.kind == .function && sc.names.all (fun y => y.2 != .cell && (y.2 != .local || sc.names.lookup y.1 == some .local) && (y.2 != .free || outer.lookup y.1 == some .cell || outer.lookup y.1 == some .free))
theorem blk_mk {X : Cx} {sc : Scope} (h : blkOk X.env.scope.names sc = true) : BlkSc X sc := by
  unfold blkOk at h
  rw [Bool.and_eq_true, List.all_eq_true] at h
  obtain ⟨h1, h2⟩ := h
  refine ⟨by simpa using h1, fun y hy z => ?_, fun y hy z => ?_, fun y hy z => ?_⟩
  . have := h2 y hy
    simp only [Bool.and_eq_true] at this
    have := this.1.1
    rw [z] at this
    exact absurd this (by decide)
  . have := h2 y hy
    simp only [Bool.and_eq_true] at this
    have := this.1.2
    rw [z] at this
    simpa using this
  . have := h2 y hy
    simp only [Bool.and_eq_true] at this
    have := this.2
    rw [z] at this
    have t : (X.env.scope.names.lookup y.1 == some .cell || X.env.scope.names.lookup y.1 == some .free) = true := by simpa using this
    rw [Bool.or_eq_true] at t
    rcases t with t | t
    . exact .inl (by show X.env.scope.names.lookup y.1 = some .cell; simpa using t)
    . exact .inr (by show X.env.scope.names.lookup y.1 = some .free; simpa using t)
end L2
set_option Elab.async false
set_option linter.all false
set_option maxRecDepth 100000
set_option maxHeartbeats 4000000
namespace L2
open PySem PySem.Spec PyProof.Rows
section
variable {t u : TS} {te ta tb tc' : TE} {tt tu : TT} {A B : TA} {D : Ends} {σ : St} {H : Hp} {Q : VK} {R : Bool -> Hp -> Prop} {S : List V -> Hp -> Prop} {i : Nat} {v : V} {g : TG} {r r' : R2} {K : PySem.W.Frag} {wi : TI} {cp : Caps}
theorem r_seq : tSeq t u D σ H = t { D with nx := u D } σ H := rfl
theorem r_next : tNext D σ H = D.nx σ H := rfl
theorem r_asg : tAsg te g D σ H = te σ H fun x H1 => g x σ H1 D.nx := rfl
theorem r_gname {N : St -> Hp -> Prop} : gName i v σ H N = N (σ.set i (some v)) H := rfl
theorem r_var : tVar i σ H Q = ∃ v, σ[i]? = some (some v) /\ Q v H := rfl
theorem r_c : tC v σ H Q = Q v H := rfl
theorem r_op : tOp r ta tb σ H Q = ta σ H fun x H1 => tb σ H1 fun y H2 => r x y H2 Q := rfl
theorem r_un {f : V -> Hp -> VK -> Prop} : tUn f ta σ H Q = ta σ H fun x H1 => f x H1 Q := rfl
theorem r_I {C : Int -> Int -> Prop} {f : Int -> Int -> V} {x y : V} : rI C f x y H Q = ∃ i j, x = .int i /\ y = .int j /\ C i j /\ Q (f i j) H := rfl
theorem r_I0 {f : Int -> Int -> V} {x y : V} : rI0 f x y H Q = ∃ i j, x = .int i /\ y = .int j /\ Q (f i j) H := rfl
theorem r_U {f : Int -> V} {x : V} : rU f x H Q = ∃ i, x = .int i /\ Q (f i) H := rfl
theorem r_call {sp : Sp} {dvs : List V} {E : XK} : tCall sp dvs E A σ H Q = A σ H fun vs H1 => sp (vs ++ dvs) H1 Q E := rfl
theorem r_cons : tCons te A σ H S = te σ H fun x H1 => A σ H1 fun xs H2 => S (x :: xs) H2 := rfl
theorem r_nil : tNil σ H S = S [] H := rfl
theorem r_ret : tRet te D σ H = te σ H D.rt := rfl
theorem r_drop : tDrop te D σ H = te σ H fun _ H1 => D.nx σ H1 := rfl
theorem r_if : tIfS tt t u D σ H = tt σ H fun b H1 => if b = true then t D σ H1 else u D σ H1 := rfl
theorem r_B : tB te σ H R = te σ H fun x H1 => ∃ c, x = .bl c /\ R c H1 := rfl
theorem r_test : tTest te σ H R = te σ H fun x H1 => ∃ c, x = .bl c /\ R c H1 := rfl
theorem r_and : tAnd tt tu σ H R = tt σ H fun c H1 => if c = true then tu σ H1 R else R false H1 := rfl
theorem r_or : tOr tt tu σ H R = tt σ H fun c H1 => if c = true then R true H1 else tu σ H1 R := rfl
theorem r_not : tNot tt σ H R = tt σ H fun c H1 => R (!c) H1 := rfl
theorem r_andV : tAndV ta tb σ H Q = ta σ H fun x H1 => ∃ c, x = .bl c /\ if c = true then tb σ H1 Q else Q (.bl false) H1 := rfl
theorem r_notV : tNotV ta σ H Q = ta σ H fun x H1 => ∃ c, x = .bl c /\ Q (.bl (!c)) H1 := rfl
theorem r_chain : tChain r r' ta tb tc' σ H Q = ta σ H fun x H1 => tb σ H1 fun y H2 => r x y H2 fun z H3 => ∃ k, z = .bl k /\ (if k = true then tc' σ H3 fun w' H4 => r' y w' H4 Q else Q (.bl false) H3) := rfl
theorem r_CB {f : List V -> Hp -> VK -> Prop} : tCB f A σ H Q = A σ H fun vs H1 => f vs H1 Q := rfl
theorem r_lst : tLst A σ H Q = A σ H fun xs H1 => xs.length <= sizeLine /\ ∀ p, H1 p = none -> Q (.ref p) (upd H1 p (.lst xs)) := rfl
theorem r_tup : tTup A σ H Q = A σ H fun xs H1 => xs.length <= sizeLine /\ ∀ p, H1 p = none -> Q (.ref p) (upd H1 p (.tup xs)) := rfl
theorem r_ixL {x y : V} : rIxL K x y H Q = ∃ p xs i v, x = .ref p /\ y = .int i /\ SqL K H p xs /\ atI xs i = some v /\ Q v H := rfl
theorem r_ixT {x y : V} : rIxT K x y H Q = ∃ p xs i v, x = .ref p /\ y = .int i /\ SqT K H p xs /\ atI xs i = some v /\ Q v H := rfl
theorem r_sl {f : V -> Option Int -> Option Int -> Hp -> VK -> Prop} {tl th : TO} : tSl f te tl th σ H Q = te σ H fun x H1 => tl σ H1 fun l H2 => th σ H2 fun u H3 => f x l u H3 Q := rfl
theorem r_part {U : Option Int -> Hp -> Prop} : tPart te σ H U = te σ H fun x H1 => ∃ i, x = .int i /\ U (some i) H1 := rfl
theorem r_nopart {U : Option Int -> Hp -> Prop} : tNoPart σ H U = U none H := rfl
theorem r_slL {x : V} {lo hi : Option Int} : rSlL K x lo hi H Q = ∃ a xs, x = .ref a /\ SqL K H a xs /\ ∀ p, H p = none -> Q (.ref p) (upd H p (.lst (cutV xs lo hi))) := rfl
theorem r_BM {T : String} {f : V -> List V -> Hp -> VK -> Prop} : tBM K T f te A σ H Q = te σ H fun x H1 => tyV K T x H1 /\ A σ H1 fun xs H2 => f x xs H2 Q := rfl
theorem r_append {x : V} {vs : List V} : rAppend x vs H Q = ∃ l xs y, x = .ref l /\ vs = [y] /\ H l = some (.lst xs) /\ xs.length < sizeLine /\ Q .non (upd H l (.lst (xs ++ [y]))) := rfl
theorem r_gsub {to ti : TE} {ts : TSet} {N : St -> Hp -> Prop} : gSub to ti ts v σ H N = to σ H fun o H1 => ti σ H1 fun i H2 => ts o i v H2 fun H3 => N σ H3 := rfl
theorem r_setL {o k : V} {N : Hp -> Prop} : rSetL o k v H N = ∃ p xs m j, o = .ref p /\ k = .int m /\ H p = some (.lst xs) /\ ixN xs.length m = some j /\ N (upd H p (.lst (xs.set j v))) := rfl
theorem r_Eq {x y : V} : rEq x y H Q = (scal x y = true /\ Q (.bl (decide (x = y))) H) := rfl
theorem r_Ne {x y : V} : rNe x y H Q = (scal x y = true /\ Q (.bl (!decide (x = y))) H) := rfl
theorem r_eqD {n : Nat} {x y : V} : rEqD K n x y H Q = ∃ a c b, x = .ref a /\ y = .ref c /\ EqD K H n x y b /\ Q (.bl b) H := rfl
theorem r_iList {Z : It -> Hp -> Prop} : iList K te σ H Z = te σ H fun x H1 => ∃ a, x = .ref a /\ (∃ xs, SqL K H1 a xs) /\ Z (Itl K a) H1 := rfl
theorem r_iTup {Z : It -> Hp -> Prop} : iTup K te σ H Z = te σ H fun x H1 => ∃ a, x = .ref a /\ (∃ xs, SqT K H1 a xs) /\ Z (Itt K a) H1 := rfl
theorem r_iRng1 {Z : It -> Hp -> Prop} : iRng1 A σ H Z = A σ H fun vs H1 => ∃ j : Int, vs = [.int j] /\ -(2 ^ 62) <= j /\ j < 2 ^ 62 /\ Z (Itr 0 j.toNat) H1 := rfl
theorem r_true : tTrue σ H R = R true H := rfl
end
theorem Same.new {H : Hp} {p : Addr} {o : HO} (h : H p = none) : Same H (upd H p o) := fun b u e => by rw [upd_ne (ne_of_none e h)]; exact e
theorem Same.newT {H H' : Hp} {p : Addr} {o : HO} (s : Same H H') (h : H' p = none) : Same H (upd H' p o) := s.trans (Same.new h)
theorem Same.over {H H' : Hp} {p : Addr} {o : HO} (s : Same H H') (h : H p = none) : Same H (upd H' p o) := fun b u e => by rw [upd_ne (ne_of_none e h)]; exact s b u e
theorem none_of_upd {H : Hp} {p D : Addr} {o : HO} (h : upd H p o D = none) : H D = none /\ D ≠ p := by
  by_cases e : D = p
  . subst e; rw [upd_same] at h; cases h
  . rw [upd_ne e] at h; exact ⟨h, e⟩
theorem Same.seqT {K : PySem.W.Frag} {H H' : Hp} {a : Addr} {xs : List V} (e : Same H H') (h : SqT K H a xs) : SqT K H' a xs := by
  rcases h with (h | ⟨o, h⟩) | h
  . exact .inl (.inl (e _ _ h))
  . exact .inl (.inr ⟨o, e _ _ h⟩)
  . exact .inr h
theorem hu9 {k : Nat} {A : Around} (hr : Room k A) : A.units + 8 < cLine := by have := hr.units; omega
section
variable {K : PySem.W.Frag} {wi : TI} {cp : Caps} {g : TG} {tc : TT} {te : TE} {σ : St} {H : Hp} {Q : VK}
theorem r_cxK {CX : CXT} {P : Program} {w : World} {mg : Str -> Option Value} {base : Heap} {N : List Str} {qual : Str} {scope : Scope} {f : Addr} {cd : Value} {A : Around} {outer : List Env} {s : Shared} {E : XK} : (cxOf CX P w K mg base N qual scope f cd A outer s H E).K = K := rfl
def CompW (J : It) (cp : Caps) (g : TG) (tc : TT) (te : TE) (σ : St) (H1 : Hp) (Q : VK) : Prop := ∃ W : Nat -> Nat -> List V -> St -> Hp -> Prop, (∃ m, W 0 m [] (cp.st σ) H1) /\ ∀ i m ys σ' H', W i m ys σ' H' ->
  ys.length < sizeLine /\ ((J.stop i H' /\ ∀ D, H' D = none -> Q (.ref D) (upd H' D (.lst ys))) \/ (J.go i H' /\ ∃ N : List V -> St -> Hp -> Prop, (∀ zs σ2 H2, N zs σ2 H2 -> ∃ m', m' < m /\ W (i + 1) m' zs σ2 H2) /\ ∀ x H2, J.yld i H' x H2 -> g x σ' H2 fun σ2 H3 => tc σ2 H3 fun b H4 =>
    if b = true then te σ2 H4 fun v H5 => N (ys ++ [v]) σ2 H5 else N ys σ2 H4))
theorem r_comp : tComp wi cp g tc te σ H Q = wi σ H fun J H1 => CompW J cp g tc te σ H1 Q := rfl
def ForW (J : It) (g : TG) (tb : TS) (D : Ends) (σ : St) (H1 : Hp) : Prop := ∃ W : Nat -> Nat -> St -> Hp -> Prop, (∃ m, W 0 m σ H1) /\ ∀ i m σ H, W i m σ H ->
  (J.stop i H /\ D.nx σ H) \/ (J.go i H /\ ∃ N : St -> Hp -> Prop, (∀ σ' H', N σ' H' -> ∃ m', m' < m /\ W (i + 1) m' σ' H') /\ ∀ x H', J.yld i H x H' -> g x σ H' fun σ2 H2 => tb { D with nx := N, ct := N, bk := D.nx } σ2 H2)
theorem r_for {tb : TS} {D : Ends} : tFor wi g tb D σ H = wi σ H fun J H1 => ForW J g tb D σ H1 := rfl
theorem forL {a : Addr} {xs : List V} {g : TG} {tb : TS} {D : Ends} {σ : St} {H : Hp} (Pv : Nat -> St -> Hp -> Prop) (h0 : Pv 0 σ H) (hl : ∀ i σ H, i <= xs.length -> Pv i σ H -> SqL K H a xs)
    (hs : ∀ i x σ H, xs[i]? = some x -> Pv i σ H -> g x σ H fun σ2 H2 => tb { D with nx := Pv (i + 1), ct := Pv (i + 1), bk := D.nx } σ2 H2) (hd : ∀ σ H, Pv xs.length σ H -> D.nx σ H) : ForW (Itl K a) g tb D σ H := for_list Pv h0 hl hs hd
theorem forT {a : Addr} {xs : List V} {g : TG} {tb : TS} {D : Ends} {σ : St} {H : Hp} (Pv : Nat -> St -> Hp -> Prop) (h0 : Pv 0 σ H) (hl : ∀ i σ H, i <= xs.length -> Pv i σ H -> SqT K H a xs)
    (hs : ∀ i x σ H, xs[i]? = some x -> Pv i σ H -> g x σ H fun σ2 H2 => tb { D with nx := Pv (i + 1), ct := Pv (i + 1), bk := D.nx } σ2 H2) (hd : ∀ σ H, Pv xs.length σ H -> D.nx σ H) : ForW (Itt K a) g tb D σ H := for_tup Pv h0 hl hs hd
theorem forR {lo : Int} {n : Nat} {g : TG} {tb : TS} {D : Ends} {σ : St} {H : Hp} (Pv : Nat -> St -> Hp -> Prop) (h0 : Pv 0 σ H)
    (hs : ∀ i σ H, i < n -> Pv i σ H -> g (.int (lo + i)) σ H fun σ2 H2 => tb { D with nx := Pv (i + 1), ct := Pv (i + 1), bk := D.nx } σ2 H2) (hd : ∀ σ H, Pv n σ H -> D.nx σ H) : ForW (Itr lo n) g tb D σ H := for_range Pv h0 hs hd
theorem compL {a : Addr} {xs : List V} (Pv : Nat -> List V -> St -> Hp -> Prop) (h0 : Pv 0 [] (cp.st σ) H) (hz : xs.length < sizeLine)
    (hl : ∀ i ys σ H, i <= xs.length -> Pv i ys σ H -> SqL K H a xs /\ ys.length <= i)
    (hs : ∀ i x ys σ H, xs[i]? = some x -> Pv i ys σ H -> g x σ H fun σ2 H2 => tc σ2 H2 fun b H3 => if b = true then te σ2 H3 fun v H4 => Pv (i + 1) (ys ++ [v]) σ2 H4 else Pv (i + 1) ys σ2 H3)
    (hd : ∀ ys σ H, Pv xs.length ys σ H -> ∀ D, H D = none -> Q (.ref D) (upd H D (.lst ys))) : CompW (Itl K a) cp g tc te σ H Q := comp_list Pv h0 hz hl hs hd
theorem compT {a : Addr} {xs : List V} (Pv : Nat -> List V -> St -> Hp -> Prop) (h0 : Pv 0 [] (cp.st σ) H) (hz : xs.length < sizeLine)
    (hl : ∀ i ys σ H, i <= xs.length -> Pv i ys σ H -> SqT K H a xs /\ ys.length <= i)
    (hs : ∀ i x ys σ H, xs[i]? = some x -> Pv i ys σ H -> g x σ H fun σ2 H2 => tc σ2 H2 fun b H3 => if b = true then te σ2 H3 fun v H4 => Pv (i + 1) (ys ++ [v]) σ2 H4 else Pv (i + 1) ys σ2 H3)
    (hd : ∀ ys σ H, Pv xs.length ys σ H -> ∀ D, H D = none -> Q (.ref D) (upd H D (.lst ys))) : CompW (Itt K a) cp g tc te σ H Q := comp_tup Pv h0 hz hl hs hd
theorem compR {lo : Int} {n : Nat} (Pv : Nat -> List V -> St -> Hp -> Prop) (h0 : Pv 0 [] (cp.st σ) H) (hz : n < sizeLine)
    (hl : ∀ i ys σ H, i <= n -> Pv i ys σ H -> ys.length <= i)
    (hs : ∀ i ys σ H, i < n -> Pv i ys σ H -> g (.int (lo + i)) σ H fun σ2 H2 => tc σ2 H2 fun b H3 => if b = true then te σ2 H3 fun v H4 => Pv (i + 1) (ys ++ [v]) σ2 H4 else Pv (i + 1) ys σ2 H3)
    (hd : ∀ ys σ H, Pv n ys σ H -> ∀ D, H D = none -> Q (.ref D) (upd H D (.lst ys))) : CompW (Itr lo n) cp g tc te σ H Q := comp_range Pv h0 hz hl hs hd
theorem compMapT {a : Addr} {xs : List V} {σ' : St} (f : V -> V) (e : cp.st σ = none :: σ') (hl : SqT K H a xs) (hz : xs.length < sizeLine) (hs : ∀ x ∈ xs, ∀ R : VK, R (f x) H -> te (some x :: σ') H R) (hd : ∀ D, H D = none -> Q (.ref D) (upd H D (.lst (xs.map f)))) :
    CompW (Itt K a) cp (gName 0) tTrue te σ H Q := by
  refine compT (xs := xs) (fun i ys σ2 H2 => H2 = H /\ ys = (xs.take i).map f /\ ∃ o, σ2 = o :: σ') ⟨rfl, by simp, none, e⟩ hz (fun i ys σ2 H2 hi h => ?_) (fun i x ys σ2 H2 hx h => ?_) (fun ys σ2 H2 h => ?_)
  . obtain ⟨rfl, rfl, _⟩ := h
    exact ⟨hl, by rw [List.length_map, List.length_take]; omega⟩
  . obtain ⟨rfl, rfl, o, rfl⟩ := h
    refine hs x (List.mem_of_getElem? hx) _ ⟨rfl, ?_, some x, rfl⟩
    rw [List.take_add_one, hx]; simp
  . obtain ⟨rfl, rfl, _⟩ := h
    rw [List.take_length]
    exact hd
theorem compMapL {a : Addr} {xs : List V} {σ' : St} (f : V -> V) (e : cp.st σ = none :: σ') (hl : SqL K H a xs) (hz : xs.length < sizeLine) (hs : ∀ x ∈ xs, ∀ R : VK, R (f x) H -> te (some x :: σ') H R) (hd : ∀ D, H D = none -> Q (.ref D) (upd H D (.lst (xs.map f)))) :
    CompW (Itl K a) cp (gName 0) tTrue te σ H Q := by
  refine compL (xs := xs) (fun i ys σ2 H2 => H2 = H /\ ys = (xs.take i).map f /\ ∃ o, σ2 = o :: σ') ⟨rfl, by simp, none, e⟩ hz (fun i ys σ2 H2 hi h => ?_) (fun i x ys σ2 H2 hx h => ?_) (fun ys σ2 H2 h => ?_)
  . obtain ⟨rfl, rfl, _⟩ := h
    exact ⟨hl, by rw [List.length_map, List.length_take]; omega⟩
  . obtain ⟨rfl, rfl, o, rfl⟩ := h
    refine hs x (List.mem_of_getElem? hx) _ ⟨rfl, ?_, some x, rfl⟩
    rw [List.take_add_one, hx]; simp
  . obtain ⟨rfl, rfl, _⟩ := h
    rw [List.take_length]
    exact hd
end
def tCut (t u : TS) : TS := fun D σ H => ∃ R : St -> Hp -> Prop, t { D with nx := R } σ H /\ ∀ σ' H', R σ' H' -> u D σ' H'
theorem pss_cut {X : Cx} {st : Stmt} {rest : List Stmt} {t u : TS} (h1 : PS X st t) (h2 : PSs X rest u) : PSs X (st :: rest) (tCut t u) := by
  intro pins s σ H D I h
  obtain ⟨R, ha, hb⟩ := h
  refine wpAny_execs_cons (thn (h1 pins s σ H { D with nx := R } I ha) fun f s1 q => ?_)
  cases f with
  | next =>
    obtain ⟨σ', H', I', q⟩ := q
    exact h2 pins s1 σ' H' D I' (hb σ' H' q)
  | ret v => exact q
  | brk => exact q
  | cont => exact q
theorem line1000 : 1000000 < sizeLine := by rw [sizeLine_eq]; decide
theorem mem_mapI {ns : List Int} {x : V} (h : x ∈ ns.map V.int) : ∃ n, n ∈ ns /\ x = .int n := by
  obtain ⟨n, hn, e⟩ := List.mem_map.mp h
  exact ⟨n, hn, e.symm⟩
theorem get_mapI {ns : List Int} {i : Nat} {x : V} (h : (ns.map V.int)[i]? = some x) : ∃ n, ns[i]? = some n /\ x = .int n := by
  rw [List.getElem?_map] at h
  cases e : ns[i]? with
  | none => rw [e] at h; cases h
  | some n => rw [e] at h; exact ⟨n, rfl, (Option.some.inj h).symm⟩
def cutI (ns : List Int) (lo hi : Option Int) : List Int := (ns.drop (HT.sIx ns.length 0 lo)).take (HT.sIx ns.length ns.length hi - HT.sIx ns.length 0 lo)
theorem cut_ints (ns : List Int) (lo hi : Option Int) : cutV (ns.map V.int) lo hi = (cutI ns lo hi).map V.int := by
  unfold cutV cutI
  rw [List.length_map, <- List.map_drop, <- List.map_take]
theorem cutI_length (ns : List Int) (lo hi : Option Int) : (cutI ns lo hi).length <= ns.length := by
  unfold cutI
  rw [List.length_take, List.length_drop]
  omega
theorem ixN_of {n : Nat} {i : Int} (h0 : 0 <= i) (h1 : i < n) : ixN n i = some i.toNat := by
  unfold ixN; rw [if_pos h0, if_pos h1]
theorem atI_of {α : Type} {xs : List α} {i : Int} {v : α} (h0 : 0 <= i) (h : xs[i.toNat]? = some v) : atI xs i = some v := by
  have := atI_nat h
  rwa [show ((i.toNat : Nat) : Int) = i by omega] at this
theorem kit_self {K : PySem.W.Frag} {t : Value} : PySem.W.kitOne K t t = some true := by unfold PySem.W.kitOne; rw [if_pos (by simp)]
theorem kit_int_bool {K : PySem.W.Frag} : PySem.W.kitOne K (.type "int") (.type "bool") = some false := by
  first | rfl | decide +kernel | (unfold PySem.W.kitOne; kernel_rfl)
theorem rel_ty {n : String} : ∀ u, RelV (V.ty n) u -> u = .type n := fun _ h => h
theorem rel_ref {a : Addr} : ∀ u, RelV (V.ref a) u -> u = .ref a := fun _ h => h
end L2
set_option Elab.async false
set_option linter.all false
set_option maxRecDepth 100000
set_option maxHeartbeats 4000000
namespace L2
open PySem PySem.W PySem.Spec PySem.Calls PyProof.Rows
section
variable {prog : Program} {w : World} {A : Around} {E : Value -> Shared -> Prop} {s : Shared} {K : Frag} {x D : Addr} {ox : Obj}
structure ExcCls (K : Frag) (D : Addr) : Prop where
  ga : findIn K (.ref D) "__getattribute__" = some (some (.builtin "BaseException.__getattribute__"))
  hk : findIn K (.ref D) "__getattr__" = some none
  cl : (clsIn K D).isSome = true
  ca : findIn K (.ref D) "__class__" = some (some (.builtin "object.__class__"))
  gs : specialIn K (.builtin "object.__class__") "__get__" = some (some (.builtin "getset_descriptor.__get__"))
  tk : takesIn K (.builtin "object.__class__") = some true
  mo : mroIn K D (.type "object") = some true
  mb : mroIn K D (.type "BaseException") = some true
def ExcAt (x D : Addr) (h : Heap) : Prop := ∃ ox, h.get? x = some ox /\ ox.cls = .ref D
theorem ExcAt.type {M : Model} {h : Heap} (I : ExcAt x D h) : Looks M h (typeOf (.ref x)) (.ref D) := by
  obtain ⟨ox, h1, h2⟩ := I
  exact h2 ▸ (Looks.ld h1).andThen .now
theorem exc_find {M : Model} {h : Heap} (X : K.In h) (C : ExcCls K D) : Looks M h (Builtin.ObjectAttr.find (.ref x) (.ref D) "__class__") (.bind (.builtin "getset_descriptor.__get__") (.builtin "object.__class__")) :=
  (looks_findIn X C.ca).andThen ((show Looks M h (Builtin.ObjectAttr.getOf (some (.builtin "object.__class__"))) _ from looks_specialIn X C.gs).andThen
    ((show Looks M h (Builtin.ObjectAttr.dataDescriptor? (some (.builtin "object.__class__")) (some (.builtin "getset_descriptor.__get__"))) (some (.builtin "getset_descriptor.__get__", .builtin "object.__class__")) from (looks_takesIn X C.tk).andThen .now).andThen (Looks.tag .now)))
open Builtin Builtin.ObjectAttr Builtin.Getset_descriptor in
theorem exc_get {R : Result -> Shared -> Prop} {tp : Value} (X : K.In s.heap) (I : ExcAt x D s.heap) (hm : mroIn K D (.type "object") = some true) (h : R (.ok (.ret (.ref D))) s) : codeAny (model prog w) A (.call (.builtin "getset_descriptor.__get__") ⟨[.builtin "object.__class__", .ref x, tp], []⟩) R s := by
  have l0 := I.type (M := model prog w)
  have l1 := looks_mroIn (M := model prog w) X hm
  obtain ⟨_, _, _, _, _⟩ := s
  have sg := KF.slot_gs
  refine codeAny_call_builtin sg.plain KF.entry_gs (sg.check _ _ _ _ _ _ _ _ KF.type_class (KF.args_gs _ _ _) ?_)
  unfold Builtin.«getset_descriptor.__get__» descrGet
  rw [dga_obj]
  unfold descrGetter descrCheckInstance isInstance descrNameAndClass
  refine wpAny_bind (wpAny_pure ?_)
  simp only [KF.owner_class]
  repeat lk
  refine ⟨Code.quiet_builtin _ (by decide +kernel), codeAny_builtin KF.entry_class ?_⟩
  unfold Builtin.«object.__class__» shownTypeOf
  repeat lk
  exact h
theorem exc_check {M : Model} {nameV : Value} {Q : Unit -> Shared -> Prop} (X : K.In s.heap) (I : ExcAt x D s.heap) (C : ExcCls K D) (hq : Q () s) : wpAny M A (checkBuiltinCall "BaseException.__getattribute__" ⟨[.ref x, nameV], []⟩) Q E s := by
  have a1 := F.args_bexc_ga (.ref x) nameV
  have l0 := I.type (M := M)
  have l1 := looks_mroIn (M := M) X C.mb
  obtain ⟨_, _, _, _, _⟩ := s
  simp only [checkBuiltinCall, show builtinKind "BaseException.__getattribute__" = some .slot by decide +kernel, show splitId "BaseException.__getattribute__" = some ("BaseException", "__getattribute__") by decide +kernel, isInstance]
  repeat (first | lk | wp_step)
  exact hq
theorem exc_entry {tk : Tok} {Q : Fin -> Shared -> Prop} (X : K.In s.heap) (I : ExcAt x D s.heap) (C : ExcCls K D) (hq : Q (.done (.ret (.ref D))) s) : wpAny (model prog w) A (Builtin.«object.__getattribute__» ⟨[.ref x, .str "__class__" tk], []⟩) Q E s := by
  obtain ⟨hh, g, d, t, os⟩ := s
  have L0 := I.type (M := model prog w)
  have L1 := exc_find (M := model prog w) (x := x) X C
  unfold Builtin.«object.__getattribute__»
  refine wpAny_bind (wpAny_pure ?_)
  refine wpAny_bind (wpAny_pure ?_)
  refine wpAny_bind (L0.at ?_)
  refine wpAny_bind (L1.at ?_)
  show wpAny _ _ (Builtin.ObjectAttr.bindTo _ _ _ _) _ _ _
  unfold Builtin.ObjectAttr.bindTo
  dsimp only
  refine wpAny_bind (wpAny_holding (wpAny_call (exc_get (K := K) (s := ⟨hh, g, d, t, os⟩) X I C.mo ?_)))
  exact wpAny_pure hq
theorem exc_class {Q : Option Value -> Shared -> Prop} (X : K.In s.heap) (I : ExcAt x D s.heap) (C : ExcCls K D) (h : Q (some (.ref D)) { s with toks := s.toks + 1 }) : wpAny (model prog w) A (getAttr? (.ref x) "__class__") Q E s := by
  obtain ⟨hh, g, d, t, os⟩ := s
  have L0 := I.type (M := model prog w)
  have L1 := looks_findIn (M := model prog w) X C.ga
  have L2 := looks_findIn (M := model prog w) X C.hk
  unfold getAttr? getAttrBy? getAttrBy
  refine wpAny_bind (wpAny_mkText (wpAny_bind (wpAny_attempt (wpAny_holding (wpAny_bind (L0.at (wpAny_bind (L1.at ?_))))))))
  show wpAny _ _ (getAttrByItsOwn _ _ _ _ _ _) _ _ _
  unfold getAttrByItsOwn hookBefore
  refine wpAny_bind ?_
  rw [if_pos (by rfl)]
  refine L2.at (wpAny_bind (wpAny_attempt (wpAny_holding ?_)))
  unfold callGetattribute
  rw [if_neg (by decide)]
  unfold boundAndCalled
  have f3 := PySem.F.attr_ValueError.ga.bind (.ref x)
  refine wpAny_bind (wpAny_of_eq f3 ?_)
  refine wpAny_call (codeAny_call_builtin PySem.F.attr_ValueError.ga.plain F.entry_bexc_ga (exc_check (K := K) (s := ⟨hh, g, d, t + 1, os⟩) X I C (exc_entry (K := K) (s := ⟨hh, g, d, t + 1, os⟩) X I C ?_)))
  exact wpAny_pure (wpAny_pure h)
theorem kitx_exc (C : ExcCls K D) : KitX K (.ref x) (.ref D) (ExcAt x D) := by
  have cl := C.cl
  unfold clsIn at cl
  refine ⟨fun _ _ _ I => I.type, fun _ _ X _ => ?_, fun h tp dd its n sl X htp => ?_, fun X I k => exc_class X I C k⟩
  . split at cl
    . rename_i ho
      intro A' Q' E' s' k q
      exact wpAny_bind (wpAny_loadPart (k _ _ (X _ _ ho)) (wpAny_pure q))
    . cases cl
  . split at cl
    . rename_i ho
      cases hb : (Value.ref D == Value.ref tp) with
      | false => rfl
      | true =>
        obtain rfl : D = tp := Value.ref.inj (beq_iff_eq.mp hb)
        cases (X _ _ ho).symm.trans htp
    . cases cl
end
section
variable {P : Program} {w : World}
theorem ObjOk.there {H : Hp} {h : Heap} {a : Addr} {o : HO} (x : ObjOk P w H h a o) : ∃ ob, h.get? a = some ob := by
  induction o with
  | lst xs => obtain ⟨_, _, _, _, e⟩ := x; exact ⟨_, e⟩
  | tup xs => obtain ⟨_, _, _, ob, e, _⟩ := x; exact ⟨_, e⟩
  | dK kvs => obtain ⟨_, _, _, _, o, _, _, e, _⟩ := x; exact ⟨_, e⟩
  | dT kvs => obtain ⟨_, _, _, _, o, _, _, e, _⟩ := x; exact ⟨_, e⟩
  | set S n => obtain ⟨o, _, _, _, e, _⟩ := x; exact ⟨_, e⟩
  | ins C dx fs => obtain ⟨_, _, _, e, _⟩ := x; exact ⟨_, e⟩
  | own y => obtain ⟨_, e⟩ := x; exact ⟨_, e⟩
  | xd fs => obtain ⟨_, ⟨_, _, _, e, _⟩, _⟩ := x; exact ⟨_, e⟩
  | rng lo hi => obtain ⟨_, _, _, e⟩ := x; exact ⟨_, e⟩
  | frz ob u ih => obtain ⟨e, _⟩ := x; exact ⟨_, e⟩
  | tbl ps => exact ⟨_, (show h.get? a = some _ from x)⟩
  | met f y => exact ⟨_, (show h.get? a = some _ from x)⟩
  | ext φ => obtain ⟨_, ⟨_, e⟩, _⟩ := x; exact ⟨_, e⟩
structure Fly (P : Program) (w : World) (fs : List Addr) (H1 H' : Hp) (h1 g B : Heap) : Prop where
  un : Un fs [] H1 H' h1 g
  hok : HOk P w H' g
  cov : ∀ b o, g.get? b = some o -> (H' b ≠ none \/ ∃ o', h1.get? b = some o') -> b ∉ fs -> B.get? b = some o
theorem Fly.move {fs : List Addr} {H1 H' : Hp} {h1 g B h2 : Heap} (x : Fly P w fs H1 H' h1 g B) (frees : ∀ b ∈ fs, H' b = none) (st : B.StaysIn h2) (up : ∀ b ∈ fs, ∀ o, g.get? b = some o -> ∃ sl, h2.get? b = some { o with slots := sl }) : Fly P w fs H1 H' h1 h2 B := by
  have keep : ∀ b o, g.get? b = some o -> (H' b ≠ none \/ ∃ o', h1.get? b = some o') -> b ∉ fs -> h2.get? b = some o := fun b o e h n => st b o (x.cov b o e h n)
  have nfs : ∀ b u, H' b = some u -> b ∉ fs := fun b u e z => by rw [frees b z] at e; cases e
  refine ⟨⟨fun b o e n hb hx => ?_, fun b o e n hb hx => ?_, fun b o e n hx => x.un.free b o e n hx, fun b o e hx => ?_, x.un.tups, x.un.frzs, x.un.tbls⟩, fun b u e => ?_, fun b o e h n => ?_⟩
  . exact keep b o (x.un.keep b o e n hb hx) (.inr ⟨o, e⟩) hb
  . obtain ⟨sl, e1⟩ := x.un.slot b o e n hb hx
    obtain ⟨sl', e2⟩ := up b hb _ e1
    exact ⟨sl', e2⟩
  . obtain ⟨o', e1⟩ := x.un.there b o e hx
    by_cases hb : b ∈ fs
    . obtain ⟨sl', e2⟩ := up b hb _ e1
      exact ⟨_, e2⟩
    . exact ⟨o', keep b o' e1 (.inr ⟨o, e⟩) hb⟩
  . refine (x.hok b u e).stay (fun c v hc q => ?_) (fun _ q => q) fun _ _ q => q
    rcases hc with rfl | hc
    . exact keep c v q (.inl (by rw [e]; simp)) (nfs c u e)
    . exact keep c v q (.inl (by rw [hc]; simp)) (nfs c _ hc)
  . -- B has it still
    have ⟨o1, e1⟩ : ∃ o1, g.get? b = some o1 := by
      rcases h with h | ⟨o', h⟩
      . cases q : H' b with
        | none => exact absurd q h
        | some u => exact (x.hok b u q).there
      . exact x.un.there b o' h (by simp)
    have e2 := x.cov b o1 e1 h n
    have e3 := st b o1 e2
    rw [e] at e3
    cases e3
    exact e2
def CXe (P : Program) (w : World) : CXT := fun outer H s E e s' => ∃ (ea : Addr) (cls a0 : Value) (H' : Hp) (B : Heap), e = .ref ea /\ s'.os = s.os /\ AllBare s'.gens /\ Fly P w (frs outer) H H' s.heap s'.heap B /\ Heap.FlyingW B outer ea cls a0 s'.heap /\ E cls none H'
theorem fly_frees {X : Cx} {pins : List (Addr × Obj)} {σ : St} {H1 H' : Hp} {s1 : Shared} {g B : Heap} (I : Inv X pins σ H1 s1) (x : Fly P w (frs X.stack) H1 H' s1.heap g B) : ∀ b ∈ frs X.stack, H' b = none := fun b hb => by
  obtain ⟨_, o, ho, _⟩ := I.stack.mem hb
  exact x.un.free b o ho (I.stkFree b hb) (by simp)
theorem passE {K : PySem.W.Frag} {mg : Str -> Option Value} {base : Heap} {N : List Str} {qual : Str} {scope : Scope} {f : Addr} {cd : Value} {A : Around} {outer : List Env} {s : Shared} {H : Hp} {E E' : XK} (hE : ∀ c d H', E' c d H' -> E c d H') :
    Passes (CXe P w) (cxOf (CXe P w) P w K mg base N qual scope f cd A outer s H E) E' := by
  intro pins σ H1 s1 e s' I hc
  obtain ⟨ea, cls, a0, H', B, rfl, os, bare, fl, fw, q⟩ := hc
  have fr : (cxOf (CXe P w) P w K mg base N qual scope f cd A outer s H E).A.frames = some (envOfC qual scope s.heap.objs.size f cd :: outer) := I.ok.frames
  refine wpAny_leaves_onW fr rfl fw fun h' fw' ups => ?_
  have fl2 := fl.move (fly_frees I fl) fw'.1 (fun b hb o e => by
    obtain ⟨_, o', ho', nf⟩ := fw.2.2.1.mem hb
    rw [e] at ho'; cases ho'
    exact ups b o e nf)
  have I2 : Inv (cxOf (CXe P w) P w K mg base N qual scope f cd A outer s H E) pins σ H' { s' with heap := h' } := I.call' (s' := { s' with heap := h' }) os fl2.un fl2.hok bare (fun b hb => by cases hb)
  refine ⟨ea, cls, a0, H', B, rfl, I2.os, I2.bare, ⟨I2.base, I2.hok, fun b o e h n => fl2.cov b o e ?_ (fun z => ?_)⟩, fw', hE _ _ _ q⟩
  . rcases h with h | ⟨o', h⟩
    . exact .inl h
    . obtain ⟨o2, e2⟩ := I.base.there b o' h (by show b ∉ ([] : List Addr); simp)
      exact .inr ⟨o2, e2⟩
  . rcases List.mem_cons.mp (I.stkSub b z) with e' | e'
    . rcases h with h | ⟨o', h⟩
      . exact h (by rw [e']; exact I2.free)
      . have := Heap.lt_size h
        rw [e'] at this
        exact absurd (Nat.lt_of_lt_of_le this I.ok.above) (Nat.lt_irrefl _)
    . exact n e'
theorem raiseE {K : PySem.W.Frag} {mg : Str -> Option Value} {base : Heap} {N : List Str} {qual : Str} {scope : Scope} {f : Addr} {cd : Value} {A : Around} {outer : List Env} {s : Shared} {H : Hp} {E : XK}
    {pins : List (Addr × Obj)} {σ : St} {H1 : Hp} {s1 : Shared} {h' : Heap} {ea : Addr} {cls : Value} {vs : List Value}
    (I : Inv (cxOf (CXe P w) P w K mg base N qual scope f cd A outer s H E) pins σ H1 s1) (hx : Heap.MadeExcOf s1.heap h' ea cls vs) (q : E cls none H1) :
    (cxOf (CXe P w) P w K mg base N qual scope f cd A outer s H E).xe (.ref ea) { s1 with heap := h' } := by
  have fr : (cxOf (CXe P w) P w K mg base N qual scope f cd A outer s H E).A.frames = some (envOfC qual scope s.heap.objs.size f cd :: outer) := I.ok.frames
  have hin : ∀ env ∈ (envOfC qual scope s.heap.objs.size f cd :: outer), ∀ b, env.frame = some b -> b ∈ frs (envOfC qual scope s.heap.objs.size f cd :: outer) := fun env he b hb => List.mem_filterMap.mpr ⟨env, he, hb⟩
  have stk := I.stack
  have fl : Fly P w (frs (envOfC qual scope s.heap.objs.size f cd :: outer)) H1 H1 s1.heap s1.heap (PySem.W.hideAll s1.heap (frs (envOfC qual scope s.heap.objs.size f cd :: outer))) := ⟨Un.refl, I.hok, fun b o e _ n => PySem.W.hideAll_get _ e n⟩
  refine wpAny_leaves_madeW (base := PySem.W.hideAll s1.heap (frs (envOfC qual scope s.heap.objs.size f cd :: outer))) (h := s1.heap) fr rfl (fun b o q => PySem.W.of_hideAll _ q) ?_ hx fun h'' t fw' ht hnt ups => ?_
  . exact PySem.W.funFrames_hide stk hin
  . have fl2 := fl.move (fly_frees (X := cxOf (CXe P w) P w K mg base N qual scope f cd A outer s H E) I fl) fw'.1 (fun b hb o e => by
      obtain ⟨_, o', ho', nf⟩ := stk.mem hb
      rw [e] at ho'; cases ho'
      exact ups b o (hx.keeps b o e) nf)
    have I2 : Inv (cxOf (CXe P w) P w K mg base N qual scope f cd A outer s H E) pins σ H1 { s1 with heap := h'' } := I.call' (s' := { s1 with heap := h'' }) rfl fl2.un fl2.hok I.bare (fun b hb => by cases hb)
    refine ⟨ea, cls, .ref t, H1, _, rfl, I2.os, I2.bare, ⟨I2.base, I2.hok, fun b o e h n => fl2.cov b o e ?_ (fun z => ?_)⟩, fw', q⟩
    . rcases h with h | ⟨o', h⟩
      . exact .inl h
      . obtain ⟨o2, e2⟩ := I.base.there b o' h (by show b ∉ ([] : List Addr); simp)
        exact .inr ⟨o2, e2⟩
    . rcases List.mem_cons.mp (I.stkSub b z) with e' | e'
      . rcases h with h | ⟨o', h⟩
        . exact h (by rw [e']; exact I2.free)
        . have := Heap.lt_size h
          rw [e'] at this
          exact absurd (Nat.lt_of_lt_of_le this I.ok.above) (Nat.lt_irrefl _)
      . exact n e'
end
theorem exc_obj {K : Frag} {h : Heap} {C : Addr} {bmB : List Value} {newId : String} (X : K.In h) (q : excIn K C bmB newId = true) :
    ∃ bm N nm q bs hdct sn sub ab col dd k0 k1 k2 k3 k5 mN, h.get? C = some (excClassObj nm q C N bs bm hdct sn sub ab col dd k0 k1 k2 k3 k5 newId) /\ h.Ns N mN /\ mN "__init__" = none /\ OwnTail h bmB bm := by
  unfold excIn at q
  split at q
  case h_2 => cases q
  rename_i d0 c0 s0 hl
  split at q
  case h_2 => cases q
  rename_i B tl a0 a1 a2 a3 id0 a5 em es
  have g := X C _ hl
  repeat rw [Bool.and_eq_true] at q
  rcases q with ⟨⟨⟨⟨⟨e1, e2⟩, e3⟩, e4⟩, e5⟩, e6⟩
  cases eq_of_beq e1
  cases eq_of_beq e2
  rcases s0 with ⟨l0⟩
  cases es
  rcases c0 with ⟨f0, f1, f2, f3, f4, f5, f6, f7, f8, f9, f10⟩
  cases em
  cases f10
  . exact ⟨tl, f3, f0, f4, f1, f5, f6, f7, f8, f9, d0, a0, a1, a2, a3, a5, h.nsMap f3, g, .of_isNs (isNs_of_in X e5), nsMap_none_of_in X e5 (eq_of_beq e6), tail_of_in X e4⟩
  . cases e3
def bmV : List Value := [.type "ValueError", .type "Exception", .type "BaseException", .type "object"]
section
variable {P : Program} {w : World} {K : PySem.W.Frag} {mg : Str -> Option Value} {base : Heap} {N : List Str} {qual : Str} {scope : Scope} {f : Addr} {cd : Value} {A : Around} {outer : List Env} {s : Shared} {H : Hp} {E : XK}
def tRaise (C : Addr) (E : XK) (ta : TA) : TS := fun _ σ H => ta σ H fun vs H1 => vs.length <= sizeLine /\ E (.ref C) none H1
theorem ps_raise {x : Str} {C : Addr} {newId : String} {np cpos pos : Pos} {e₀ : Expr} {rest : List Expr} {ta : TA} (hm : mg x = some (.ref C)) (hx : excIn K C bmV newId = true) (hg : Gl (cxOf (CXe P w) P w K mg base N qual scope f cd A outer s H E) x)
    (hn : newId = "ValueError.__new__") (ha : PA (cxOf (CXe P w) P w K mg base N qual scope f cd A outer s H E) (e₀ :: rest) ta)
    (he : starEach (e₀ :: rest) (cxOf (CXe P w) P w K mg base N qual scope f cd A outer s H E).env = (false, eval e₀ (cxOf (CXe P w) P w K mg base N qual scope f cd A outer s H E).env) :: starEach rest (cxOf (CXe P w) P w K mg base N qual scope f cd A outer s H E).env := by rfl)
    (hplain : (backTo cpos (starEach rest (cxOf (CXe P w) P w K mg base N qual scope f cd A outer s H E).env)).any (·.1) = false := by rfl) (hd : (x == ("__debug__" : Str)) = false := by decide) :
    PS (cxOf (CXe P w) P w K mg base N qual scope f cd A outer s H E) (.Raise (some (.Call (.Name x np) (e₀ :: rest) [] cpos)) none pos) (tRaise C E ta) := by
  intro pins s1 σ H1 D I h
  subst hn
  obtain ⟨bm, Nc, nm, q, bs, hdct, sn, sub, ab, col, dd, k0, k1, k2, k3, k5, mN, hC, hN, hni, T⟩ := exc_obj I.mod.kin hx
  refine wpAny_Raise_call_subU (C := C) (nm := nm) (q := q) (N := Nc) (bs := bs) (bm := bm) (hdct := hdct) (sn := sn) (sub := sub) (ab := ab) (col := col) (dd := dd) (k0 := k0) (k1 := k1) (k2 := k2) (k3 := k3) (k5 := k5)
    PySem.F.excBase_ValueError (bmB := bmV) (by decide +kernel) PySem.F.excBase_ValueError (mN := mN) (T.hasType PySem.F.excBase_ValueError.hasBase) (I.ok.hd rfl) (by rw [he]; show (false || (backTo cpos (starEach rest _)).any (·.1)) = false; rw [hplain]; rfl) hni (ld_glob I hg hm ⟨rfl, ?_⟩ hd)
  have hA := ha cpos pins s1 σ H1 _ I h
  rw [he] at hA ⊢
  refine Calls.evalArgs_plain (thn hA fun us s2 ⟨vs, H2, I2, r2, hz, q2⟩ => ⟨rfl, by rw [<- r2.length]; exact hz, I2.bk _ _ hC, hN.keeps I2.bk, T.keeps I2.bk, fun h' e hm => raiseE I2 hm q2⟩)
end
end L2
set_option Elab.async false
set_option linter.all false
set_option maxRecDepth 100000
set_option maxHeartbeats 4000000
namespace L2
open PySem PySem.Spec PyProof.Rows
abbrev Cx.body (X : Cx) (xe : Value -> Shared -> Prop) (pn : List (Addr × Obj)) : Cx := { X with xe := xe, pn := pn }
abbrev Cx.suite (X : Cx) (ea : Addr) (pn : List (Addr × Obj)) : Cx := { X with A := X.A.mark (some (.ref ea)), calm := false, xe := fun _ _ => False, pn := pn }
section
variable {X : Cx} {pins pins' : List (Addr × Obj)} {σ : St} {H : Hp} {s : Shared} {xe xe' : Value -> Shared -> Prop} {ea : Addr}
theorem Inv.toBody (I : Inv X pins σ H s) : Inv (X.body xe (X.pn ++ pins)) [] σ H s :=
  ⟨⟨I.ok.mod, I.ok.kind, I.ok.glob, I.ok.blt, I.ok.above, I.ok.inj, I.ok.has, I.ok.cab, I.ok.hd, I.ok.frames, I.ok.stk, I.ok.exf, I.ok.bs, I.ok.bsz, I.ok.noex, I.ok.exfs, I.ok.funs, I.ok.frf⟩, I.os, I.bare, I.base, I.loc, I.cell, I.free, I.freeC, fun p hp => I.pin p (by simpa using hp), I.hok, I.len⟩
theorem Inv.ofBody (I : Inv (X.body xe (X.pn ++ pins)) pins' σ H s) : Inv X pins σ H s :=
  ⟨⟨I.ok.mod, I.ok.kind, I.ok.glob, I.ok.blt, I.ok.above, I.ok.inj, I.ok.has, I.ok.cab, I.ok.hd, I.ok.frames, I.ok.stk, I.ok.exf, I.ok.bs, I.ok.bsz, I.ok.noex, I.ok.exfs, I.ok.funs, I.ok.frf⟩, I.os, I.bare, I.base, I.loc, I.cell, I.free, I.freeC, fun p hp => I.pin p (List.mem_append_left _ hp), I.hok, I.len⟩
theorem Inv.reBody {pn : List (Addr × Obj)} (I : Inv (X.body xe pn) pins' σ H s) : Inv (X.body xe' pn) pins' σ H s :=
  ⟨⟨I.ok.mod, I.ok.kind, I.ok.glob, I.ok.blt, I.ok.above, I.ok.inj, I.ok.has, I.ok.cab, I.ok.hd, I.ok.frames, I.ok.stk, I.ok.exf, I.ok.bs, I.ok.bsz, I.ok.noex, I.ok.exfs, I.ok.funs, I.ok.frf⟩, I.os, I.bare, I.base, I.loc, I.cell, I.free, I.freeC, I.pin, I.hok, I.len⟩
theorem Inv.toSuite (I : Inv X pins σ H s) : Inv (X.suite ea (X.pn ++ pins)) [] σ H s :=
  ⟨⟨I.ok.mod, I.ok.kind, I.ok.glob, I.ok.blt, I.ok.above, I.ok.inj, I.ok.has, I.ok.cab, fun z => absurd (show false = true from z) Bool.false_ne_true, I.ok.frames, I.ok.stk, I.ok.exf, I.ok.bs, I.ok.bsz, I.ok.noex, I.ok.exfs, I.ok.funs, I.ok.frf⟩, I.os, I.bare, I.base, I.loc, I.cell, I.free, I.freeC, fun p hp => I.pin p (by simpa using hp), I.hok, I.len⟩
theorem Inv.ofSuite (hd : X.calm = true -> X.A.handled = none) (I : Inv (X.suite ea (X.pn ++ pins)) pins' σ H s) : Inv X pins σ H s :=
  ⟨⟨I.ok.mod, I.ok.kind, I.ok.glob, I.ok.blt, I.ok.above, I.ok.inj, I.ok.has, I.ok.cab, hd, I.ok.frames, I.ok.stk, I.ok.exf, I.ok.bs, I.ok.bsz, I.ok.noex, I.ok.exfs, I.ok.funs, I.ok.frf⟩, I.os, I.bare, I.base, I.loc, I.cell, I.free, I.freeC, fun p hp => I.pin p (List.mem_append_left _ hp), I.hok, I.len⟩
theorem Inv.forget {i : Nat} {n : Str} {m : Str -> Option Value} {v : Option Value} {h' : Heap} {t' : Nat} (I : Inv X pins σ H s) (hN : X.N.Nodup) (hi : X.N[i]? = some n) (hx : X.env.scope.names.lookup n = some .local)
    (hl : ∀ (i : Nat) (x : Str) (v : V), X.N[i]? = some x -> σ[i]? = some (some v) -> Vis X.env.scope x -> ∃ u, RelV v u /\ Look X.env s.heap m x u) (hn : s.heap.Ns X.env.locals m)
    (hn' : h'.Ns X.env.locals (fun x => if x = n then v else m x)) (hs : Heap.SameBut X.env.locals s.heap h') : Inv X pins (σ.set i none) H { s with heap := h', toks := t' } := by
  have cne := I.cne
  obtain ⟨oL, _, _, hoL, _⟩ := id hn
  have tracked : HOk X.prog X.w H h' := fun b ob e => by
    refine (I.hok b ob e).stay (fun c w' hc q => (hs.2 c ?_).trans q) (fun _ q => q) fun _ _ q => q
    rintro rfl
    rcases hc with rfl | hc
    . rw [I.free] at e; cases e
    . rw [I.free] at hc; cases hc
  refine ⟨I.ok, I.os, I.bare, ⟨fun b o e n hb hx => ?_, fun b o e n hb hx => ?_, I.base.free, fun b o e hx => ?_, I.base.tups, I.base.frzs, I.base.tbls⟩, ⟨_, hn', fun j y v' e1 e2 e3 => ?_⟩, fun y c e => ?_, I.free, I.freeC, fun p hp => ?_, tracked, by simpa using I.len⟩
  . exact (hs.2 b (Nat.ne_of_lt (Nat.lt_of_lt_of_le (Heap.lt_size e) I.ok.above))).trans (I.base.keep b o e n hb hx)
  . obtain ⟨sl, e1⟩ := I.base.slot b o e n hb hx
    exact ⟨sl, (hs.2 b (Nat.ne_of_lt (Nat.lt_of_lt_of_le (Heap.lt_size e) I.ok.above))).trans e1⟩
  . obtain ⟨o', e1⟩ := I.base.there b o e hx
    exact ⟨o', (hs.2 b (Nat.ne_of_lt (Nat.lt_of_lt_of_le (Heap.lt_size e) I.ok.above))).trans e1⟩
  . by_cases hj : j = i
    . subst hj
      have hlt : j < σ.length := by
        have := (List.getElem?_eq_some_iff.mp e2).1
        simpa using this
      rw [List.getElem?_set_self hlt] at e2
      cases e2
    . rw [List.getElem?_set_ne (Ne.symm hj)] at e2
      obtain ⟨u', r', q⟩ := hl j y v' e1 e2 e3
      refine ⟨u', r', ?_⟩
      rcases q with ⟨k, e⟩ | ⟨k, c, e, z⟩
      . refine .inl ⟨k, ?_⟩
        have : y ≠ n := fun e => hj (nodup_ix hN e1 (e ▸ hi))
        simp [this, e]
      . exact .inr ⟨k, c, e, z.sameBut hs (cne y c e)⟩
  . obtain ⟨w', z⟩ := I.cell y c e
    exact ⟨w', z.sameBut hs (cne y c e)⟩
  . obtain ⟨e, n, ne, nf, d⟩ := I.pin p hp
    exact ⟨(hs.2 p.1 ne).trans e, n, ne, nf, d⟩
end
def PassesAt (CX : CXT) (X : Cx) (σ : St) (E : XK) : Prop := ∀ (pins : List (Addr × Obj)) (H : Hp) (s : Shared) (e : Value) (s' : Shared), Inv X pins σ H s -> CX X.stack H s E e s' -> X.xe e s'
def tCallE (sp : Sp) (dvs : List V) (E : St -> XK) (t : TA) : TE := fun σ H Q => t σ H fun vs H1 => sp (vs ++ dvs) H1 Q (E σ)
section
variable {X : Cx} {CX : CXT} {k : Nat} {f C : Addr} {fd : FuncData} {ps : List Str} {sp : Sp} {dvs : List V} {ds : List Value} {E : St -> XK} {x : Str} {p pos : Pos} {e : Expr} {es : List Expr} {t : TA}
theorem run_fnE {pins : List (Addr × Obj)} {σ : St} {H : Hp} {s : Shared} {Q : VK} {us : List Value} {vs : List V} {E : XK} (F : FnOk X.prog X.w X.K X.mg X.base CX k f fd ps sp) (hr : Room k X.A) (hb : Binds X.K fd ps ds) (hd : Vals dvs ds) (hx : PassesAt CX X σ E)
    (I : Inv X pins σ H s) (r : Vals vs us) (h : sp (vs ++ dvs) H Q E) : wpAny (model X.prog X.w) X.A (call (.ref f) us) (EP X pins σ Q) X.xe s := by
  have r2 : Vals (vs ++ dvs) (us ++ ds) := r.append hd
  have hl : (us ++ ds).length = ps.length := by rw [<- r2.length]; exact F.len _ _ _ _ h
  refine wpAny_call (codeAny_mono (F.run X.A X.stack s H ⟨us, []⟩ (us ++ ds) (vs ++ dvs) Q E hr I.env0 (hb s us I.kIn hl) r2 h) fun r s' hq => ?_)
  cases r with
  | error e => exact hx pins H s e s' I hq
  | ok fl =>
    cases fl with
    | ret u => exact I.after hq
    | next => exact False.elim hq
    | brk => exact False.elim hq
    | cont => exact False.elim hq
theorem pe_callE (F : FnOk X.prog X.w X.K X.mg X.base CX k f fd ps sp) (hr : Room k X.A) (hg : Gl X x) (hm : X.mg x = some (.ref f)) (hk : PySem.W.keepIn X.K (.ref f) = true) (hb : Binds X.K fd ps ds) (hd : Vals dvs ds) (hx : ∀ σ, PassesAt CX X σ (E σ))
    (ha : PA X (e :: es) t) (hdb : (x == ("__debug__" : Str)) = false := by decide) (he : starEach (e :: es) X.env = (false, eval e X.env) :: starEach es X.env := by rfl) (hpl : (backTo pos (starEach es X.env)).any (·.1) = false := by rfl) :
    PE X (.Call (.Name x p) (e :: es) [] pos) (tCallE sp dvs E t) := by
  intro pins s σ H Q I h
  refine wpAny_Call_Name_kw (ld_glob I hg hm ?_ hdb)
  refine PySem.W.callWith_K (h₀ := X.base) I.ok.mod.kin hk (thn (ha pos pins s σ H _ I h) fun us s1 ⟨vs, H1, I1, r, q⟩ => ⟨I1.kIn, ?_⟩) he hpl
  exact run_fnE F hr hb hd (hx σ) I1 r q
end
def excO (ea C : Addr) : HO := .ext (ExcAt ea C)
def Ends.un (D : Ends) (i : Nat) : Ends := { nx := fun σ H => D.nx (σ.set i none) H, rt := D.rt, bk := fun σ H => D.bk (σ.set i none) H, ct := fun σ H => D.ct (σ.set i none) H }
def tTry (K : PySem.W.Frag) (Ca : Addr) (i : Nat) (E : St -> XK) (tb ts : TS) : TS := fun D σ H => tb D σ H /\ ∀ σ' cls H', E σ' cls none H' ->
  ∃ C, cls = .ref C /\ PySem.W.exmOne K (.ref C) (.ref Ca) = some true /\ ∀ ea, H' ea = none -> ts (D.un i) (σ'.set i (some (.ref ea))) (upd H' ea (excO ea C))
theorem ps_try {X : Cx} {body : List Stmt} {c n : Str} {Ca : Addr} {np hpos pos : Pos} {b₀ : Stmt} {suite : List Stmt} {i : Nat} {E : St -> XK} {tb ts : TS} (hN : X.N.Nodup) (hi : X.N[i]? = some n) (hn : X.env.scope.names.lookup n = some .local)
    (hg : Gl X c) (hm : X.mg c = some (.ref Ca)) (hst : X.stack = X.env :: X.outer) (hL : X.env.frame = some X.env.locals) (hex : X.ex = [])
    (hb : ∀ xe pn, (∀ σ, PassesAt (CXe X.prog X.w) (X.body xe pn) σ (E σ)) -> PSs (X.body xe pn) body tb) (hs : ∀ ea pn, PSs (X.suite ea pn) (b₀ :: suite) ts) (hd : (c == ("__debug__" : Str)) = false := by decide) :
    PS X (.Try body [.ExceptHandler (some (.Name c np)) (some n) (b₀ :: suite) hpos] [] [] pos) (tTry X.K Ca i E tb ts) := by
  intro pins s σ H D I h
  obtain ⟨hbody, hhand⟩ := h
  have hB := hb (fun e s' => ∃ pins' σ' H1 s1, Inv (X.body (fun _ _ => True) (X.pn ++ pins)) pins' σ' H1 s1 /\ CXe X.prog X.w X.stack H1 s1 (E σ') e s') (X.pn ++ pins) (fun σ pins' H s e s' I' hcx => ⟨pins', σ, H, s, I'.reBody, hcx⟩) [] s σ H D I.toBody hbody
  refine wpAny_Try_except (wpAny_mono hB (fun f s1 q => ?_) fun e s1 q => ?_)
  . cases f with
    | next => obtain ⟨σ1, H1, I1, q1⟩ := q; exact wpAny_execs_nil ⟨σ1, H1, I1.ofBody, q1⟩
    | brk => obtain ⟨σ1, H1, I1, q1⟩ := q; exact ⟨σ1, H1, I1.ofBody, q1⟩
    | cont => obtain ⟨σ1, H1, I1, q1⟩ := q; exact ⟨σ1, H1, I1.ofBody, q1⟩
    | ret v => obtain ⟨x1, σ1, H1, I1, r1, q1⟩ := q; exact ⟨x1, σ1, H1, I1.ofBody, r1, q1⟩
  . obtain ⟨pins', σ', H1, s2, I2, ea, cls, a0, H', B, rfl, os, bare, fl, fw, hE⟩ := q
    obtain ⟨C, rfl, hexm, hts⟩ := hhand σ' cls H' hE
    have I2' : Inv X pins σ' H1 s2 := I2.ofBody
    have fr : X.A.frames = some (X.env :: X.outer) := by rw [I.ok.frames, hst]
    have frees := fly_frees I2' fl
    have fw0 := fw
    rw [hst] at fw
    have invAt : ∀ h', Heap.FlyingW B (X.env :: X.outer) ea (.ref C) a0 h' -> s1.heap.UpToSlots h' -> Inv X pins σ' H' { s1 with heap := h' } := fun h' fw' ups => by
      have fl2 := fl.move frees fw'.1 (fun b hb o e => by
        obtain ⟨_, o', ho', nf⟩ := fw0.2.2.1.mem hb
        rw [e] at ho'; cases ho'
        exact ups b o e nf)
      exact I2'.call' (s' := { s1 with heap := h' }) os fl2.un fl2.hok bare (fun b hb => by cases hb)
    refine wpAny_looks_onW fr hL fw fun h4 held4 up4 => ?_
    refine wpAny_landsW held4 fun h5 fw5 up5 => ?_
    have I5 := invAt h5 fw5 (up4.trans up5)
    have I5m : Inv (X.suite ea (X.pn ++ pins)) [] σ' H' { s1 with heap := h5 } := I5.toSuite
    refine wpAny_handleBy_cons (codeAny_handlers_test (ld_glob (X := X.suite ea (X.pn ++ pins)) I5m hg hm ?_ hd)) (by intro q; cases q)
    have LT : PySem.W.Looks (model X.prog X.w) h5 (typeOf (.ref ea)) (.ref C) := by
      obtain ⟨ob, hob, hoc⟩ := fw5.there
      exact hoc ▸ (PySem.W.Looks.ld hob).andThen .now
    refine (PySem.W.exm_one (K := X.K) (M := model X.prog X.w) I5.kIn LT hexm) _ _ _ _ (fun b o e => e) ?_
    refine codeAny_handlers_suite_as ?_
    refine lands_againW fw5 fun h6 fw6 up6 => ?_
    have I6 := invAt h6 fw6 ((up4.trans up5).trans up6)
    -- the exception's object is not tracked yet
    have hne : H' ea = none := by
      cases q : H' ea with
      | none => rfl
      | some u =>
        have nfs : ea ∉ frs X.stack := fun z => by rw [frees ea z] at q; cases q
        obtain ⟨o, ho⟩ := (fl.hok ea u q).there
        have := fl.cov ea o ho (.inl (by rw [q]; simp)) nfs
        rw [fw.2.1] at this
        cases this
    have new : ObjOk X.prog X.w (upd H' ea (excO ea C)) h6 ea (excO ea C) := by
      obtain ⟨ob, hob, hoc⟩ := fw6.there
      refine ⟨⟨ob, hob, hoc⟩, ⟨ob, hob⟩, fun g1 g2 ⟨o1, e1, c1⟩ k => ⟨o1, k o1 e1, c1⟩⟩
    have hsz : s2.heap.get? ea = none := by
      cases q : s2.heap.get? ea with
      | none => rfl
      | some o =>
        by_cases z : ea ∈ frs X.stack
        . obtain ⟨_, o', ho', nf⟩ := fw0.2.2.1.mem z
          obtain ⟨oe, vs, hoe, _, hdt, _⟩ := fw.first
          rw [ho'] at hoe; cases hoe
          exact absurd hdt (nf vs)
        . obtain ⟨o', e'⟩ := fl.un.there ea o q (by simp)
          have := fl.cov ea o' e' (.inr ⟨o, q⟩) z
          rw [fw.2.1] at this
          cases this
    have I6t : Inv X pins σ' (upd H' ea (excO ea C)) { s1 with heap := h6 } := by
      refine ⟨I6.ok, I6.os, I6.bare, ?_, I6.loc, I6.cell, ?_, fun x c e => ?_, fun p hp => ?_, I6.hok.track hne new, I6.len⟩
      . -- newer than the entry
        have h0 : X.s₀.heap.get? ea = none := by
          cases q : X.s₀.heap.get? ea with
          | none => rfl
          | some o =>
            obtain ⟨o', e'⟩ := I2'.base.there ea o q (by rw [hex]; simp)
            rw [hsz] at e'; cases e'
        refine ⟨I6.base.keep, I6.base.slot, fun b o e n hx => ?_, I6.base.there, fun b xs q => ?_, fun b ob xs q => ?_, fun b ps q => ?_⟩
        . rw [upd_ne (fun z => by rw [z, h0] at e; cases e)]; exact I6.base.free b o e n hx
        . have := I6.base.tups b xs q; rw [upd_ne (ne_of_none this hne)]; exact this
        . have := I6.base.frzs b ob xs q; rw [upd_ne (ne_of_none this hne)]; exact this
        . obtain ⟨more, e⟩ := I6.base.tbls b ps q
          exact ⟨more, by rw [upd_ne (ne_of_none e hne)]; exact e⟩
      . rw [upd_ne (fun z => ?_)]
        . exact I6.free
        . have := I2'.lt
          obtain ⟨m, ⟨o, _, _, ho, _⟩, _⟩ := I2'.loc
          rw [z, hsz] at ho; cases ho
      . rw [upd_ne (fun z => ?_)]
        . exact I6.freeC x c e
        . obtain ⟨v, o, ho, _⟩ := I2'.cell x c e
          rw [z, hsz] at ho; cases ho
      . obtain ⟨e, n, r⟩ := I6.pin p hp
        refine ⟨e, ?_, r⟩
        rw [upd_ne (fun z => ?_)]
        . exact n
        . have := (I2'.pin p hp).1
          rw [z, hsz] at this; cases this
    have I6m : Inv (X.suite ea (X.pn ++ pins)) [] σ' (upd H' ea (excO ea C)) { s1 with heap := h6 } := I6t.toSuite
    refine store_ok (X := X.suite ea (X.pn ++ pins)) I6m hN hi (.inl hn) (v := .ref ea) rfl (fun s7 I7 => ?_) (.inr hn)
    refine wpAny_mono (hs ea (X.pn ++ pins) [] s7 _ _ (D.un i) I7 (hts ea hne)) (fun f s8 q8 => ?_) (fun _ _ z => False.elim z)
    have hcl : (X.env.scope.kind == .class || (X.env.scope.kind == .module && X.env.locals != X.env.globals)) = false := by rw [I.ok.kind]; rfl
    have goes : ∀ {σ8 : St} {H8 : Hp}, Inv (X.suite ea (X.pn ++ pins)) [] σ8 H8 s8 -> ∀ (R : Unit -> Shared -> Prop), (∀ s9, Inv X pins (σ8.set i none) H8 s9 -> R () s9) ->
        wpAny (model X.prog X.w) X.A (do bindName X.env n .none; unbindBehindTheSuite X.env n hpos) R X.xe s8 := fun {σ8 H8} I8 R hR => by
      have I8' : Inv X pins σ8 H8 s8 := I8.ofSuite I.ok.hd
      obtain ⟨m, hns, hl⟩ := I8'.loc
      exact wpAny_nameGoes_keeps hn hns hcl fun h9 v hn9 sb => hR _ (I8'.forget hN hi hn hl hns hn9 sb)
    cases f with
    | next => obtain ⟨σ8, H8, I8, q⟩ := q8; exact goes I8 _ fun s9 I9 => ⟨_, H8, I9, q⟩
    | brk => obtain ⟨σ8, H8, I8, q⟩ := q8; exact goes I8 _ fun s9 I9 => ⟨_, H8, I9, q⟩
    | cont => obtain ⟨σ8, H8, I8, q⟩ := q8; exact goes I8 _ fun s9 I9 => ⟨_, H8, I9, q⟩
    | ret v => obtain ⟨x8, σ8, H8, I8, r8, q⟩ := q8; exact goes I8 _ fun s9 I9 => ⟨x8, _, H8, I9, r8, q⟩
theorem call_isinstE {X : Cx} : CallR X (.builtin "isinstance") (fun xs H Q => ∃ ea C c cv b, xs = [.ref ea, c] /\ H ea = some (excO ea C) /\ ExcCls X.K C /\ (∀ u, RelV c u -> u = cv) /\ PySem.W.kitOne X.K (.ref C) cv = some b /\ Q (.bl b) H) := by
  intro pins s σ H xs us Q I r h
  obtain ⟨ea, C, c, cv, b, rfl, hea, hC, hc, hk, q⟩ := h
  obtain ⟨u, w', rfl, rx, rc⟩ := vals2 r
  rw [hc _ rc]
  cases rx
  obtain ⟨p, _, _⟩ := (show ObjOk X.prog X.w H s.heap ea (.ext (ExcAt ea C)) from I.hok ea _ hea)
  exact PySem.W.kia_one (kitx_exc hC) I.kIn p hk (fun z => nomatch z) fun tk => ⟨.bl b, H, I.tok tk, rfl, q⟩
end L2
set_option Elab.async false
set_option linter.all false
set_option maxRecDepth 100000
set_option maxHeartbeats 4000000
namespace HT
open PySem PySem.Spec PyProof.Rows
open PySem.AutoSeq1 (wpAny_loadPart')
section
open PySem.SeqAt PySem.MeetsSeq PySem.MeetsSeq2 PySem.MeetsSeq3
end
end HT
namespace L2
open PySem PySem.Spec PyProof.Rows
section
variable {X : Cx}
end
section
variable {K : PySem.W.Frag} {H : Hp} {Q : VK}
end
inductive TyW (K : PySem.W.Frag) (H : Hp) : V -> Value -> Prop where
  | non : TyW K H .non (.type "NoneType")
  | bl (x : Bool) : TyW K H (.bl x) (.type "bool")
  | int (i : Int) : TyW K H (.int i) (.type "int")
  | str (x : Str) : TyW K H (.str x) (.type "str")
  | lst {a : Addr} {xs : List V} (e : SqL K H a xs) : TyW K H (.ref a) (.type "list")
  | tup {a : Addr} {xs : List V} (e : SqT K H a xs) : TyW K H (.ref a) (.type "tuple")
  | exc {a C : Addr} (e : H a = some (excO a C)) (c : ExcCls K C) : TyW K H (.ref a) (.ref C)
theorem call_isinstW {X : Cx} : CallR X (.builtin "isinstance") (fun xs H Q => ∃ x c cv t b, xs = [x, c] /\ TyW X.K H x t /\ (∀ u, RelV c u -> u = cv) /\ PySem.W.kitOne X.K t cv = some b /\ Q (.bl b) H) := by
  intro pins s σ H xs us Q I r h
  obtain ⟨x, c, cv, t, b, rfl, ty, hc, hk, q⟩ := h
  cases ty with
  | non => exact call_isinst pins s σ H _ us Q I r ⟨_, c, cv, _, b, rfl, .non, hc, hk, q⟩
  | bl y => exact call_isinst pins s σ H _ us Q I r ⟨_, c, cv, _, b, rfl, .bl y, hc, hk, q⟩
  | int y => exact call_isinst pins s σ H _ us Q I r ⟨_, c, cv, _, b, rfl, .int y, hc, hk, q⟩
  | str y => exact call_isinst pins s σ H _ us Q I r ⟨_, c, cv, _, b, rfl, .str y, hc, hk, q⟩
  | exc e hC => exact call_isinstE pins s σ H _ us Q I r ⟨_, _, c, cv, b, rfl, e, hC, hc, hk, q⟩
  | @lst a xs e =>
    obtain ⟨u, w', rfl, rx, rc⟩ := vals2 r
    rw [hc _ rc]
    cases rx
    obtain ⟨its, _, pl, _⟩ := I.list e
    obtain ⟨o, ho, hcl, _⟩ := pl.isList
    exact PySem.W.kia_one PySem.W.kitx_list I.kIn ⟨o, ho, hcl⟩ hk (fun z => nomatch z) fun tk => ⟨.bl b, H, I.tok tk, rfl, q⟩
  | @tup a xs e =>
    obtain ⟨u, w', rfl, rx, rc⟩ := vals2 r
    rw [hc _ rc]
    cases rx
    obtain ⟨its, _, ⟨o, ho, hcl, _⟩, _⟩ := I.tuple e
    exact PySem.W.kia_one PySem.W.kitx_tuple I.kIn ⟨o, ho, hcl⟩ hk (fun z => nomatch z) fun tk => ⟨.bl b, H, I.tok tk, rfl, q⟩
end L2
set_option Elab.async false
set_option linter.all false
set_option maxRecDepth 100000
set_option maxHeartbeats 4000000
namespace GW
def placeR (L : Int) : List Int -> Int
  | [] => 0
  | x :: r => placeR L r * L + x + 1
def place (L : Int) (w : List Int) : Int := placeR L w.reverse
def inW (L x : Int) : Bool := decide (0 <= x) && decide (x < L)
def isW (L : Int) (ws : List Int) : Bool := ws.all (inW L)
def many (L : Int) : Nat -> Int
  | 0 => 0
  | k + 1 => many L k * L + 1
end GW
set_option Elab.async false
set_option linter.all false
set_option maxRecDepth 100000
set_option maxHeartbeats 4000000
namespace PySem
section
variable {prog : Program} {w : World} {A : Around} {E : Value -> Shared -> Prop} {s : Shared}
variable {I r : Addr} {T : String} {n : Nat} {wr : Addr -> Prop} {J : Nat -> List Value -> Heap -> Prop} {Fn : List Value -> Heap -> Prop} {R : Result -> Shared -> Prop} {res : Value}
end
end PySem
set_option Elab.async false
set_option linter.all false
set_option maxRecDepth 100000
set_option maxHeartbeats 4000000
namespace PySem
open Sem (wp)
open AutoSeq1 (wpAny_loadPart')
namespace F
end F
section
variable {prog : Program} {w : World} {A : Around} {E : Value -> Shared -> Prop} {s : Shared}
end
end PySem
namespace L2
open PySem PySem.Spec PyProof.Rows
theorem boot_ValueError : bootBuiltins "ValueError" = some (.type "ValueError") := by decide +kernel
section
variable {P : Program} {w : World} {K : PySem.W.Frag} {mg : Str -> Option Value} {base : Heap}
theorem Fun.okE {x qual : Str} {st : Stmt} {f : Addr} {fd : FuncData} {N ps : List Str} {k : Nat} {sp : Sp} (F : Fun K x qual st f fd) (S : FnScope N ps (defScope st)) (len : ∀ vs H Q E, sp vs H Q E -> vs.length = ps.length)
    (hbody : ∀ (cdv : Value) (A : Around) (outer : List Env) (s : Shared) (H : Hp) (vs : List V) (Q : VK) (E : XK), Room k (A.deeper (envOfC qual (defScope st) s.heap.objs.size f cdv)) -> sp vs H Q E ->
      ∃ t, PSs (cxOf (CXe P w) P w K mg base N qual (defScope st) f cdv A outer s H E) (defBody st) t /\ t { nx := fun _ H' => Q .non H', rt := Q } (start N vs) H) : FnOk P w K mg base (CXe P w) (k + 1) f fd ps sp := by
  obtain ⟨oc, od, kV, doc, pm, an, cdv, ct, osl, rfl, lk, hcd⟩ := F.ex
  exact fn_of lk hcd S len fun A outer s H vs Q E hr hsp => hbody cdv A outer s H vs Q E hr hsp
end
section
variable {te ta tb : TE} {A : TA} {D : Ends} {σ : St} {H : Hp} {Q : VK} {K : PySem.W.Frag} {tbd ts : TS}
theorem r_raise {C : Addr} {E : XK} : tRaise C E A D σ H = A σ H fun vs H1 => vs.length <= sizeLine /\ E (.ref C) none H1 := rfl
theorem r_callE {sp : Sp} {dvs : List V} {E : St -> XK} : tCallE sp dvs E A σ H Q = A σ H fun vs H1 => sp (vs ++ dvs) H1 Q (E σ) := rfl
theorem r_try {Ca : Addr} {i : Nat} {E : St -> XK} : tTry K Ca i E tbd ts D σ H = (tbd D σ H /\ ∀ σ' cls H', E σ' cls none H' ->
  ∃ C, cls = .ref C /\ PySem.W.exmOne K (.ref C) (.ref Ca) = some true /\ ∀ ea, H' ea = none -> ts (D.un i) (σ'.set i (some (.ref ea))) (upd H' ea (excO ea C))) := rfl
theorem r_unnx {i : Nat} : (Ends.un D i).nx σ H = D.nx (σ.set i none) H := rfl
theorem r_unrt {i : Nat} {v : V} : (Ends.un D i).rt v H = D.rt v H := rfl
end
section
variable {X : Cx} {tg : Expr}
end
end L2
namespace L2
open PySem PySem.Spec PyProof.Rows
theorem eqV_bl (x y : Bool) : eqV (.bl x) (.bl y) = decide (V.bl x = V.bl y) := by cases x <;> cases y <;> decide
theorem EqD.bools {K : PySem.W.Frag} {H : Hp} {a c : Addr} {xs ys : List Bool} (hq : (SqL K H a (xs.map V.bl) /\ SqL K H c (ys.map V.bl)) \/ (SqT K H a (xs.map V.bl) /\ SqT K H c (ys.map V.bl))) (n : Nat) : EqD K H (n + 1) (.ref a) (.ref c) (decide (xs = ys)) := by
  have mb : ∀ {l : List Bool} {x : V}, x ∈ l.map V.bl -> ∃ b, x = .bl b := fun h => by obtain ⟨b, _, e⟩ := List.mem_map.mp h; exact ⟨b, e.symm⟩
  have := EqD.flat hq (fun x hx => by obtain ⟨_, rfl⟩ := mb hx; rfl) (fun x hx => by obtain ⟨_, rfl⟩ := mb hx; rfl) (fun x hx y hy => by obtain ⟨_, rfl⟩ := mb hx; obtain ⟨_, rfl⟩ := mb hy; exact eqV_bl _ _) n
  have e : decide (xs.map V.bl = ys.map V.bl) = decide (xs = ys) := by
    rw [Bool.eq_iff_iff]
    simp only [decide_eq_true_eq]
    constructor
    . intro h
      exact (List.map_inj_right (fun a b h => by injection h)).mp h
    . intro h; rw [h]
  rw [e] at this
  exact this
end L2
namespace GW
end GW
namespace GW
end GW
namespace L2
open PySem PySem.Spec PyProof.Rows
def iSeq (K : PySem.W.Frag) (tl : TE) : TI := fun σ H R => tl σ H fun x H1 => ∃ a, x = .ref a /\ (((∃ xs, SqL K H1 a xs) /\ R (Itl K a) H1) \/ ((∃ xs, SqT K H1 a xs) /\ R (Itt K a) H1))
theorem r_iSeq {K : PySem.W.Frag} {te : TE} {σ : St} {H : Hp} {Z : It -> Hp -> Prop} : iSeq K te σ H Z = te σ H fun x H1 => ∃ a, x = .ref a /\ (((∃ xs, SqL K H1 a xs) /\ Z (Itl K a) H1) \/ ((∃ xs, SqT K H1 a xs) /\ Z (Itt K a) H1)) := rfl
theorem pi_seq {X : Cx} {tg l : Expr} {tl : TE} (hl : PE X l tl) : PI X tg l (iSeq X.K tl) := by
  intro pins s σ H R I h
  refine thn (hl pins s σ H _ I h) fun v s1 ⟨x, H1, I1, r1, q1⟩ => ?_
  obtain ⟨a, e, q⟩ := q1
  subst e
  cases r1
  rcases q with ⟨⟨xs, hq⟩, q⟩ | ⟨⟨xs, hq⟩, q⟩
  . obtain ⟨its, rv, p, hz⟩ := I1.list hq
    refine wpAny_pyIter_list p.isList ?_
    refine ⟨s1.heap.objs.size, [s1.heap.objs.size], _, _, H1, rfl, I1.kept (t' := s1.toks) fun b o e => Heap.get?_push_of_some _ e, turn_list a _, ⟨_, Heap.get?_push_size _ rfl, rfl, rfl⟩, fun b hb => ?_, q⟩
    have e : b = s1.heap.objs.size := by simpa using hb
    subst e
    exact I1.fpOk (Nat.le_refl _) (I1.hok.fresh (Nat.le_refl _))
  . obtain ⟨its, rv, p, hz⟩ := I1.tuple hq
    refine wpAny_pyIter_tuple (show s1.heap.IsTuple a its.toArray from p) ?_
    refine ⟨s1.heap.objs.size, [s1.heap.objs.size], _, _, H1, rfl, I1.kept (t' := s1.toks) fun b o e => Heap.get?_push_of_some _ e, turn_tuple a _, ⟨_, Heap.get?_push_size _ rfl, rfl, rfl⟩, fun b hb => ?_, q⟩
    have e : b = s1.heap.objs.size := by simpa using hb
    subst e
    exact I1.fpOk (Nat.le_refl _) (I1.hok.fresh (Nat.le_refl _))
end L2
namespace GW
end GW
namespace L2
open PySem PySem.Spec PyProof.Rows
end L2
namespace L2
open PySem PySem.Spec PyProof.Rows
theorem call_isinstK {X : Cx} {K : PySem.W.Frag} (hK : X.K = K) : CallR X (.builtin "isinstance") (fun xs H Q => ∃ x c cv t b, xs = [x, c] /\ TyW K H x t /\ (∀ u, RelV c u -> u = cv) /\ PySem.W.kitOne K t cv = some b /\ Q (.bl b) H) := by
  subst hK
  exact call_isinstW
end L2
namespace L2
open PySem PySem.Spec PyProof.Rows
section
variable {X : Cx} {K : PySem.W.Frag}
theorem ix_listK (h : X.K = K) : IxR X (rIxL K) := by subst h; exact ix_list
theorem sl_listK (h : X.K = K) : SlR X (rSlL K) := by subst h; exact sl_list
theorem call_tuple_ofK (h : X.K = K) : CallR X (.type "tuple") (fun xs H Q => ∃ p ys, xs = [.ref p] /\ ((SqL K H p ys /\ ∀ l, H l = none -> Q (.ref l) (upd H l (.tup ys))) \/ (SqT K H p ys /\ Q (.ref p) H))) := by subst h; exact call_tuple_of
end
end L2
set_option Elab.async false
set_option linter.all false
set_option maxRecDepth 100000
set_option maxHeartbeats 4000000
namespace GW
def stepW (ways : List (List Int)) (r x : Int) : Int := (ways.getD r.toNat []).getD x.toNat 0
structure Wf (L : Int) (marks : List Int) (ways : List (List Int)) : Prop where
  l1 : 1 <= L
  l6 : L <= 6
  n1 : 1 <= marks.length
  n40 : marks.length <= 40
  len : ways.length = marks.length
  rows : ∀ row ∈ ways, (row.length : Int) = L /\ ∀ x ∈ row, 0 <= x /\ x < marks.length
  mks : ∀ m ∈ marks, 0 <= m /\ m <= 1000000000
end GW
namespace L2
open PySem PySem.Spec PyProof.Rows GW
def Rows (K : PySem.W.Frag) (H : Hp) (w : Addr) (ways : List (List Int)) : Prop := ∃ ts : List Addr, SqT K H w (ts.map V.ref) /\ ts.length = ways.length /\ ∀ (i : Nat) (t : Addr) (row : List Int), ts[i]? = some t -> ways[i]? = some row -> SqT K H t (row.map V.int)
def House (K : PySem.W.Frag) (H : Hp) (h : Addr) (L : Int) (marks : List Int) (ways : List (List Int)) : Prop := ∃ m w : Addr, SqT K H h [.int L, .ref m, .ref w] /\ SqT K H m (marks.map V.int) /\ Rows K H w ways
theorem Rows.mono {K : PySem.W.Frag} {H H' : Hp} {w : Addr} {ways : List (List Int)} (h : Rows K H w ways) (e : Same H H') : Rows K H' w ways := by
  obtain ⟨ts, h1, h2, h3⟩ := h
  exact ⟨ts, e.seqT h1, h2, fun i t r a b => e.seqT (h3 i t r a b)⟩
theorem Rows.at {K : PySem.W.Frag} {H : Hp} {w : Addr} {ways : List (List Int)} (h : Rows K H w ways) {i : Nat} {row : List Int} (hr : ways[i]? = some row) : ∃ xs t, SqT K H w xs /\ atI xs (i : Int) = some (V.ref t) /\ SqT K H t (row.map V.int) := by
  obtain ⟨ts, h1, h2, h3⟩ := h
  have hlt : i < ts.length := by rw [h2]; exact (List.getElem?_eq_some_iff.mp hr).1
  have ht : ts[i]? = some ts[i] := by simp [hlt]
  exact ⟨_, ts[i], h1, atI_nat (by rw [List.getElem?_map, ht]; rfl), h3 i _ _ ht hr⟩
theorem atI_end {α : Type} {xs : List α} {v : α} (h : xs[xs.length - 1]? = some v) : atI xs (-1) = some v := by
  have hlt := (List.getElem?_eq_some_iff.mp h).1
  unfold atI ixN
  rw [if_neg (by omega), if_pos (by omega)]
  show xs[(-1 + (xs.length : Int)).toNat]? = some v
  rw [show (-1 + (xs.length : Int)).toNat = xs.length - 1 by omega]
  exact h
theorem atI_int {ns : List Int} {i : Int} {v : Int} (h0 : 0 <= i) (h : ns[i.toNat]? = some v) : atI (ns.map V.int) i = some (V.int v) := atI_of h0 (by rw [List.getElem?_map, h]; rfl)
end L2
namespace L2
open PySem PySem.Spec PyProof.Rows GW
theorem seqT_off {K : PySem.W.Frag} {H : Hp} {p t : Addr} {xs ys zs : List V} (hp : H p = some (.lst zs)) (h : SqT K H t xs) : SqT K (upd H p (.lst ys)) t xs := by
  rcases h with (q | ⟨o, q⟩) | q
  . refine .inl (.inl ?_)
    rw [upd_ne (fun z => by rw [z, hp] at q; cases q)]; exact q
  . refine .inl (.inr ⟨o, ?_⟩)
    rw [upd_ne (fun z => by rw [z, hp] at q; cases q)]; exact q
  . exact .inr q
def TupsL (K : PySem.W.Frag) (H : Hp) (l : Addr) (ws : List (List Int)) : Prop := ∃ ts : List Addr, H l = some (.lst (ts.map V.ref)) /\ ts.length = ws.length /\ ∀ (i : Nat) (t : Addr) (w : List Int), ts[i]? = some t -> ws[i]? = some w -> SqT K H t (w.map V.int)
theorem TupsL.mono {K : PySem.W.Frag} {H H' : Hp} {l : Addr} {ws : List (List Int)} (h : TupsL K H l ws) (e : Same H H') : TupsL K H' l ws := by
  obtain ⟨ts, h1, h2, h3⟩ := h
  exact ⟨ts, e _ _ h1, h2, fun i t w a b => e.seqT (h3 i t w a b)⟩
theorem TupsL.off {K : PySem.W.Frag} {H : Hp} {l p : Addr} {ws : List (List Int)} {zs ys : List V} (h : TupsL K H l ws) (hp : H p = some (.lst zs)) (ne : l ≠ p) : TupsL K (upd H p (.lst ys)) l ws := by
  obtain ⟨ts, h1, h2, h3⟩ := h
  exact ⟨ts, by rw [upd_ne ne]; exact h1, h2, fun i t w a b => seqT_off hp (h3 i t w a b)⟩
theorem TupsL.push {K : PySem.W.Frag} {H : Hp} {l t : Addr} {ws : List (List Int)} {w : List Int} (h : TupsL K H l ws) (hw : SqT K H t (w.map V.int)) : ∃ xs, H l = some (.lst xs) /\ xs.length = ws.length /\ TupsL K (upd H l (.lst (xs ++ [V.ref t]))) l (ws ++ [w]) := by
  obtain ⟨ts, h1, h2, h3⟩ := h
  refine ⟨ts.map V.ref, h1, by rw [List.length_map, h2], ts ++ [t], by rw [upd_same, List.map_append]; rfl, by simp [h2], fun i t' w' a b => seqT_off h1 ?_⟩
  by_cases hi : i < ts.length
  . rw [List.getElem?_append_left hi] at a
    rw [List.getElem?_append_left (by omega)] at b
    exact h3 i t' w' a b
  . have ht := (List.getElem?_eq_some_iff.mp a).1
    rw [List.length_append, List.length_singleton] at ht
    have e : i = ts.length := by omega
    subst e
    rw [List.getElem?_append_right (Nat.le_refl _), Nat.sub_self] at a
    rw [List.getElem?_append_right (by omega), h2, Nat.sub_self] at b
    simp at a b
    subst a b
    exact hw
theorem TupsL.nil {K : PySem.W.Frag} {H : Hp} {l : Addr} (h : H l = some (.lst [])) : TupsL K H l [] := ⟨[], h, rfl, fun i t w a _ => by simp at a⟩
theorem TupsL.rows {K : PySem.W.Frag} {H : Hp} {l : Addr} {ws : List (List Int)} (h : TupsL K H l ws) : ∃ xs, H l = some (.lst xs) /\ ∀ t, H t = none -> Rows K (upd H t (.tup xs)) t ws := by
  obtain ⟨ts, h1, h2, h3⟩ := h
  exact ⟨_, h1, fun t ht => ⟨ts, SqT.of upd_same, h2, fun i t' w a b => (Same.new ht).seqT (h3 i t' w a b)⟩⟩
structure Made (K : PySem.W.Frag) (H : Hp) (pm pw : Addr) (L n : Int) (i j : Nat) (marks : List Int) (ways : List (List Int)) : Prop where
  m : H pm = some (.lst (marks.map V.int))
  ml : marks.length = i
  mr : ∀ x ∈ marks, 0 <= x /\ x <= 1000000000
  w : TupsL K H pw ways
  wl : ways.length = j
  wr : ∀ row ∈ ways, (row.length : Int) = L /\ ∀ x ∈ row, 0 <= x /\ x < n
theorem Made.mono {K : PySem.W.Frag} {H H' : Hp} {pm pw : Addr} {L n : Int} {i j : Nat} {marks : List Int} {ways : List (List Int)} (h : Made K H pm pw L n i j marks ways) (e : Same H H') : Made K H' pm pw L n i j marks ways := ⟨e _ _ h.m, h.ml, h.mr, h.w.mono e, h.wl, h.wr⟩
theorem Made.mark {K : PySem.W.Frag} {H : Hp} {pm pw : Addr} {L n : Int} {i j : Nat} {marks : List Int} {ways : List (List Int)} (h : Made K H pm pw L n i j marks ways) (hne : pm ≠ pw) {v : Int} (hv : 0 <= v /\ v <= 1000000000) : Made K (upd H pm (.lst (marks.map V.int ++ [V.int v]))) pm pw L n (i + 1) j (marks ++ [v]) ways :=
  ⟨by rw [upd_same]; simp, by simp [h.ml], fun x hx => by
    rcases List.mem_append.mp hx with hx | hx
    . exact h.mr x hx
    . rw [List.mem_singleton.mp hx]; exact hv, h.w.off h.m (Ne.symm hne), h.wl, h.wr⟩
theorem Made.row {K : PySem.W.Frag} {H : Hp} {pm pw t : Addr} {L n : Int} {i j : Nat} {marks : List Int} {ways : List (List Int)} {row : List Int} (h : Made K H pm pw L n i j marks ways) (hne : pm ≠ pw) (hr : (row.length : Int) = L /\ ∀ x ∈ row, 0 <= x /\ x < n) (ht : SqT K H t (row.map V.int)) :
    ∃ xs, H pw = some (.lst xs) /\ xs.length = j /\ Made K (upd H pw (.lst (xs ++ [V.ref t]))) pm pw L n i (j + 1) marks (ways ++ [row]) := by
  obtain ⟨xs, h1, h2, h3⟩ := h.w.push ht
  refine ⟨xs, h1, by rw [h2, h.wl], ⟨by rw [upd_ne hne]; exact h.m, h.ml, h.mr, h3, by simp [h.wl], fun r hr' => ?_⟩⟩
  rcases List.mem_append.mp hr' with hx | hx
  . exact h.wr r hx
  . rw [List.mem_singleton.mp hx]; exact hr
theorem Made.wf {K : PySem.W.Frag} {H : Hp} {pm pw : Addr} {L : Int} {n : Nat} {marks : List Int} {ways : List (List Int)} (h : Made K H pm pw L n n n marks ways) (l1 : 1 <= L) (l6 : L <= 6) (n1 : 1 <= n) (n40 : n <= 40) : Wf L marks ways :=
  ⟨l1, l6, by rw [h.ml]; exact n1, by rw [h.ml]; exact n40, by rw [h.ml, h.wl], fun row hr => by rw [h.ml]; exact h.wr row hr, h.mr⟩
end L2
set_option Elab.async false
set_option linter.all false
set_option maxRecDepth 100000
set_option maxHeartbeats 4000000
namespace PySem
open Sem (wp)
open AutoSeq1 (wpAny_loadPart')
section
variable {prog : Program} {w : World} {A : Around} {E : Value -> Shared -> Prop} {s : Shared}
end
end PySem
namespace L2
open PySem PySem.Spec PyProof.Rows
section
variable {X : Cx} {pins : List (Addr × Obj)} {σ : St} {H : Hp} {s : Shared}
end
section
variable {td ty tv tx : TE} {D : Ends} {σ : St} {H : Hp} {Q : VK}
end
end L2
namespace HT
open PySem PySem.Spec PyProof.Rows
section
open PySem.SeqAt PySem.MeetsSeq PySem.MeetsSeq2 PySem.MeetsSeq3
open PySem.AutoSeq1 (wpAny_loadPart')
end
end HT
namespace L2
open PySem PySem.Spec PyProof.Rows
end L2
set_option Elab.async false
set_option linter.all false
set_option maxRecDepth 100000
set_option maxHeartbeats 4000000
namespace GW
def addRow (w : List Int) : List (Int × List Int) -> Nat -> List Int -> List (Int × List Int)
  | ents, _, [] => ents
  | ents, x, g :: r => addRow w (if g ∈ ents.map (·.1) then ents else ents ++ [(g, w ++ [(x : Int)])]) (x + 1) r
def bfs (ways : List (List Int)) : Nat -> List (Int × List Int) -> Nat -> List (Int × List Int)
  | 0, ents, _ => ents
  | f + 1, ents, i => match ents[i]? with
    | none => ents
    | some e => bfs ways f (addRow e.2 ents 0 (ways.getD e.1.toNat [])) (i + 1)
def wordsIn (ways : List (List Int)) : List (Int × List Int) := bfs ways (ways.length + 1) [(0, [])] 0
end GW
namespace L2
open PySem PySem.Spec PyProof.Rows GW
end L2
namespace L2
end L2
namespace L2
open PySem PySem.Spec PyProof.Rows
def ups (n : Nat) : List Int := (List.range n).map fun i : Nat => (i : Int)
end L2
namespace L2
open PySem PySem.Spec PyProof.Rows
end L2
namespace L2
open PySem PySem.Spec PyProof.Rows
end L2
namespace L2
open PySem PySem.Spec PyProof.Rows
end L2
namespace GW
end GW
namespace L2
end L2
namespace L2
open PySem GW
end L2
namespace GW
end GW
namespace L2
open PySem GW
end L2
namespace GW
end GW
set_option Elab.async false
set_option linter.all false
set_option maxRecDepth 100000
set_option maxHeartbeats 4000000
namespace L2
open PySem PySem.Spec PyProof.Rows
end L2
namespace HT
open PySem PyProof.Rows
section
open PySem.SeqAt
open PySem.AutoSeq1 (wpAny_loadPart')
open PySem.MeetsSeq PySem.MeetsSeq2 PySem.MeetsSeq3
end
end HT
namespace L2
open PySem PySem.Spec PyProof.Rows
end L2
namespace L2
end L2
namespace GW
end GW
set_option Elab.async false
set_option linter.all false
set_option maxRecDepth 100000
set_option maxHeartbeats 4000000
namespace L2
open PySem PySem.Spec PyProof.Rows
end L2
namespace L2
open PySem PySem.Spec PyProof.Rows
theorem r_popAt {x : V} {vs : List V} {H : Hp} {Q : VK} : rPopAt x vs H Q = ∃ l xs i k y, x = .ref l /\ vs = [.int i] /\ H l = some (.lst xs) /\ -(2 ^ 63) <= i /\ i < 2 ^ 63 /\ seqIndex? i xs.length = some k /\ xs[k]? = some y /\ Q y (upd H l (.lst (xs.eraseIdx k))) := rfl
def rng (i j : Int) : List Int := (List.range (j - i).toNat).map fun k : Nat => i + (k : Int)
end L2
namespace GW
open L2
end GW
namespace GW
end GW
namespace GW
open L2
end GW
namespace L2
open PySem PySem.Spec PyProof.Rows GW
end L2
namespace L2
end L2
namespace L2
end L2
namespace L2
open PySem PySem.Spec PyProof.Rows GW
end L2
namespace GW
end GW
namespace GW
open L2
end GW
set_option Elab.async false
set_option linter.all false
set_option maxRecDepth 100000
set_option maxHeartbeats 4000000
namespace GW
open L2
end GW
set_option Elab.async false
set_option linter.all false
set_option maxRecDepth 100000
set_option maxHeartbeats 4000000
namespace PySem
open Sem (wp)
section
variable {prog : Program} {w : World} {A : Around} {E : Value -> Shared -> Prop} {s : Shared} {d it : Addr} {es : Array DictEntry} {i ep : Nat}
end
end PySem
namespace L2
open PySem PySem.Spec PyProof.Rows
section
variable {X : Cx} {pins : List (Addr × Obj)} {σ : St} {H : Hp} {s : Shared} {a : Addr}
end
end L2
namespace HT
open PySem PyProof.Rows
section
open PySem.SeqAt
open PySem.AutoSeq1 (wpAny_loadPart')
open PySem.MeetsSeq PySem.MeetsSeq2 PySem.MeetsSeq3
end
end HT
namespace L2
open PySem PySem.Spec PyProof.Rows
end L2
set_option Elab.async false
set_option linter.all false
set_option maxRecDepth 100000
set_option maxHeartbeats 4000000
namespace GB
open GW
variable {α : Type} [DecidableEq α]
def walkF (step : α -> Int -> α) (a : α) (ws : List Int) : α := ws.foldl step a
structure B (L : Int) (step : α -> Int -> α) (st : α) (ok : α -> Prop) (ents : List (α × List Int)) (i : Nat) (top : Int) : Prop where
  hd : ents[0]? = some (st, [])
  il : i <= ents.length
  sh : ∀ (j : Nat) (e : α × List Int), ents[j]? = some e -> e.2.length <= j
  nod : (ents.map (·.1)).Nodup
  rng : ∀ e ∈ ents, ok e.1
  wd : ∀ e ∈ ents, isW L e.2 = true /\ walkF step st e.2 = e.1
  inc : ∀ (j k : Nat) (a b : α × List Int), j < k -> ents[j]? = some a -> ents[k]? = some b -> place L a.2 < place L b.2
  bnd : ∀ e ∈ ents, place L e.2 < top
  don : ∀ j, j < i -> ∀ e, ents[j]? = some e -> ∀ x : Int, 0 <= x -> x < L -> ∃ e' ∈ ents, e'.1 = step e.1 x /\ place L e'.2 <= place L (e.2 ++ [x])
variable {L : Int} {step : α -> Int -> α} {st : α} {ok : α -> Prop} {ents : List (α × List Int)} {i : Nat} {top : Int}
def walkR (ways : List (List Int)) (r : Int) (ws : List Int) : Int := ws.foldl (stepW ways) r
end GB
namespace L2
open PySem PySem.Spec PyProof.Rows GW GB
end L2
namespace L2
end L2
namespace GB
open GW
end GB
set_option Elab.async false
set_option linter.all false
set_option maxRecDepth 100000
set_option maxHeartbeats 4000000
namespace GB
open GW
end GB
namespace L2
open GW
end L2
namespace L2
open PySem PySem.Spec PyProof.Rows GW
theorem Same.none {H H' : Hp} (s : Same H H') {p : Addr} (h : H' p = none) : H p = none := by
  cases e : H p with
  | none => rfl
  | some u => rw [s _ _ e] at h; cases h
end L2
namespace GW
end GW
namespace L2
open PySem GW
end L2
set_option Elab.async false
set_option linter.all false
set_option maxRecDepth 100000
set_option maxHeartbeats 4000000
namespace L2
open PySem PySem.Spec PyProof.Rows
section
variable {X : Cx} {pins : List (Addr × Obj)} {σ : St} {H : Hp} {s : Shared} {sc : Scope} {fp : List Addr}
end
section
variable {X : Cx} {tg iter elt : Expr} {ifs : List Expr} {sc : Scope} {pos : Pos} {wi : TI} {cp : Caps} {g : TG} {tc : TT} {te : TE}
end
end L2
namespace L2
open PySem PySem.Spec PyProof.Rows GW GB
end L2
namespace GB
open GW
end GB
set_option Elab.async false
set_option linter.all false
set_option maxRecDepth 100000
set_option maxHeartbeats 4000000
namespace L2
open PySem PySem.Spec PyProof.Rows GW
end L2
namespace L2
open PySem PySem.Spec PyProof.Rows GW
end L2
namespace GW
def ins (s : List (List Int)) (w : List Int) : List (List Int) := if w ∈ s then s else s ++ [w]
end GW
namespace L2
open PySem PySem.Spec PyProof.Rows GW
def wkey (w : List Int) : List Key := w.map Sum.inl
end L2
set_option Elab.async false
set_option linter.all false
set_option maxRecDepth 100000
set_option maxHeartbeats 4000000
namespace L2
open PySem PySem.Spec PyProof.Rows
section
variable {M : Model} {A : Around} {E : Value -> Shared -> Prop} {s : Shared}
theorem retold {h base : Heap} {l : List Env} {e : Addr} {cls a0 fl : Value} (kb : base.StaysIn h) (fr : h.FunFrames base l) (t : h.TracedAtW base e cls a0 fl) : ∃ T oe vs oT ts, h.get? e = some oe /\ oe.data = .fields vs /\ vs[1]? = some (.ref T) /\
    h.get? T = some oT /\ oT.data = .fields ts /\ ts[3]? = some fl /\ oe.cls = cls /\ vs[0]? = some a0 /\
    ∀ v, base.StaysIn (h.update T (Obj.mapFields (·.setIfInBounds 3 v))) /\ (h.update T (Obj.mapFields (·.setIfInBounds 3 v))).FunFrames base l /\ (h.update T (Obj.mapFields (·.setIfInBounds 3 v))).TracedAtW base e cls a0 v /\
      h.UpToSlots (h.update T (Obj.mapFields (·.setIfInBounds 3 v))) /\ (h.update T (Obj.mapFields (·.setIfInBounds 3 v))).get? e = some oe := by
  rcases t with ⟨oe, vs, T, oT, ts, g1, c, g2, g3, n1, n2, g4, g5, g6⟩
  refine ⟨T, oe, vs, oT, ts, g1, g2, g3, g4, g5, g6, c.1, c.2, fun v => ?_⟩
  have z := (Array.getElem?_eq_some_iff.mp g6).1
  have d := Obj.data_mapFields g5 (·.setIfInBounds 3 v)
  have far : ∀ {b o}, b ≠ T -> h.get? b = some o -> (h.update T (Obj.mapFields (·.setIfInBounds 3 v))).get? b = some o := fun n q => (Heap.get?_update_other _ _ n.symm).trans q
  have plain : ∀ {b o}, h.get? b = some o -> (∀ x, o.data ≠ .fields x) -> (h.update T (Obj.mapFields (·.setIfInBounds 3 v))).get? b = some o := fun q n => far (fun r => by subst r; cases g4.symm.trans q; exact n _ g5) q
  exact ⟨fun b o q => far (fun r => by subst r; cases n1.symm.trans q) (kb b o q), fr.of_keeps fun b o q n => ⟨o, plain q n, rfl⟩,
    ⟨oe, vs, T, _, _, far n2.symm g1, c, g2, g3, n1, n2, Heap.get?_update_self _ g4 (Obj.isFreed_of_fields d), d, by rw [Array.getElem?_setIfInBounds_self_of_lt z]⟩, fun b o q n => ⟨o.slots, plain q n⟩, far n2.symm g1⟩
theorem leaves_atW {base : Heap} {env : Env} {outer : List Env} {L e : Addr} {cls a0 fl : Value} {Q : Unit -> Shared -> Prop}
    (hfr : A.frames = some (env :: outer)) (hf : env.frame = some L) (hkb : base.StaysIn s.heap) (hen : base.get? e = none) (hl : s.heap.FunFrames base (env :: outer)) (ht : s.heap.TracedAtW base e cls a0 fl)
    (hQ : ∀ h', Heap.FlyingW base outer e cls a0 h' -> s.heap.UpToSlots h' -> Q () { s with heap := h' }) : wpAny M A (leaving env (.ref e)) Q E s := by
  unfold leaving
  by_cases q : (fl == rawInt L) = true
  . cases eq_of_beq q
    exact wpAny_bind (wpAny_noteFrame_againW hf ht (wpAny_landsW ⟨hkb, hen, hl, ht⟩ fun h' f u => hQ h' ⟨f.1, f.2.1, f.2.2.1.2.2, f.2.2.2⟩ u))
  . obtain ⟨T, oe, vs, oT, ts, g1, g2, g3, g4, g5, g6, rfl, c, up⟩ := retold hkb hl ht
    obtain ⟨u1, u2, _, u4, u5⟩ := up .none
    unfold noteFrame
    rw [hf]
    refine wpAny_bind (wpAny_bind (wpAny_field g1 g2 g3 (wpAny_bind (wpAny_field g4 g5 g6 ?_))))
    rw [if_neg q]
    exact wpAny_bind (wpAny_setField g4 g5 (Array.getElem?_eq_some_iff.mp g6).1 (wpAny_newEntryW hfr u2 hf u5 u1 hen g2 (Array.getElem?_eq_some_iff.mp g3).1 c fun h' x => hQ h' ⟨x.1, hen, x.2.1.2.2, x.2.2.1⟩ (u4.trans x.2.2.2)))
theorem passOn_at {α : Type} {what : String} {base : Heap} {l : List Env} {e : Addr} {cls a0 fl : Value} {cenv : Env} {Q : α -> Shared -> Prop}
    (hkb : base.StaysIn s.heap) (hl : s.heap.FunFrames base l) (ht : s.heap.TracedAtW base e cls a0 fl)
    (h : ∀ h' fl', base.StaysIn h' -> h'.FunFrames base l -> h'.TracedAtW base e cls a0 fl' -> s.heap.UpToSlots h' -> E (.ref e) { s with heap := h' }) :
    wpAny M A (PySem.passOn what (.ref e) cenv : Sem α) Q E s := by
  obtain ⟨T, oe, vs, oT, ts, g1, g2, g3, g4, g5, g6, _, _, up⟩ := retold hkb hl ht
  obtain ⟨u1, u2, u3, u4, _⟩ := up (cenv.frame.elim .none fun f => rawInt f)
  unfold PySem.passOn setFlight
  exact wpAny_bind (wpAny_field g1 g2 g3 (wpAny_bind (wpAny_bind (wpAny_field g1 g2 g3 (wpAny_setField g4 g5 (Array.getElem?_eq_some_iff.mp g6).1 (wpAny_throw (h _ _ u1 u2 u3 u4)))))))
end
theorem funFrames_sub {h base base' : Heap} (hs : ∀ b, base.get? b = none -> base'.get? b = none) : ∀ {l : List Env}, h.FunFrames base l -> h.FunFrames base' l
  | [], _ => trivial
  | _ :: _, ⟨a, ⟨L, o, b, c, d, e⟩, r⟩ => ⟨a, ⟨L, o, b, hs _ c, d, e⟩, funFrames_sub hs r⟩
theorem funFrames_but {h h' base : Heap} {C : Addr} (sb : Heap.SameBut C h h') : ∀ {l : List Env}, (∀ env ∈ l, env.frame ≠ some C) -> h.FunFrames base l -> h'.FunFrames base l
  | [], _, _ => trivial
  | env :: _, hn, ⟨a, ⟨L, o, b, c, d, e⟩, r⟩ => ⟨a, ⟨L, o, b, c, (sb.2 L fun z => hn env List.mem_cons_self (by rw [b, z])).trans d, e⟩, funFrames_but sb (fun en he => hn en (List.mem_cons_of_mem _ he)) r⟩
abbrev Cx.blkE (X : Cx) (N : List Str) (sc : Scope) (C : Addr) (s₀ : Shared) (H₀ : Hp) (ex : List Addr) (xe : Value -> Shared -> Prop) : Cx :=
  { X with N := N, env := compEnvC sc (clOf X.env sc.names []) C X.env, outer := X.stack, s₀ := s₀, H₀ := H₀, ex := ex, fn := fun _ => false, pn := [], xe := xe }
section
variable {X : Cx} {N : List Str} {sc : Scope} {C : Addr} {s₀ : Shared} {H₀ : Hp} {ex : List Addr} {xe : Value -> Shared -> Prop} {pins : List (Addr × Obj)} {σ : St} {H : Hp} {s : Shared}
theorem Inv.toE (I : Inv (X.blk N sc C s₀ H₀ ex) pins σ H s) : Inv (X.blkE N sc C s₀ H₀ ex xe) pins σ H s :=
  ⟨⟨I.ok.mod, I.ok.kind, I.ok.glob, I.ok.blt, I.ok.above, I.ok.inj, I.ok.has, I.ok.cab, I.ok.hd, I.ok.frames, I.ok.stk, I.ok.exf, I.ok.bs, I.ok.bsz, I.ok.noex, I.ok.exfs, I.ok.funs, I.ok.frf⟩, I.os, I.bare, I.base, I.loc, I.cell, I.free, I.freeC, I.pin, I.hok, I.len⟩
theorem Inv.ofE (I : Inv (X.blkE N sc C s₀ H₀ ex xe) pins σ H s) : Inv (X.blk N sc C s₀ H₀ ex) pins σ H s :=
  ⟨⟨I.ok.mod, I.ok.kind, I.ok.glob, I.ok.blt, I.ok.above, I.ok.inj, I.ok.has, I.ok.cab, I.ok.hd, I.ok.frames, I.ok.stk, I.ok.exf, I.ok.bs, I.ok.bsz, I.ok.noex, I.ok.exfs, I.ok.funs, I.ok.frf⟩, I.os, I.bare, I.base, I.loc, I.cell, I.free, I.freeC, I.pin, I.hok, I.len⟩
end
def xeB (X : Cx) (cp : Caps) (sc : Scope) (C : Addr) (s : Shared) (H : Hp) (fp : List Addr) (Ex : XK) : Value -> Shared -> Prop := fun e s' => ∃ pins' σ' H1 s1, Inv (X.blk cp.names sc C s H fp) pins' σ' H1 s1 /\ CXe X.prog X.w X.stack H1 s1 Ex e s'
theorem blk_flight {X : Cx} {Ex : XK} {sc : Scope} {cp : Caps} {C : Addr} {fp : List Addr} {pins : List (Addr × Obj)} {σ : St} {H : Hp} {s : Shared} {e : Value} {s' : Shared} {use : Option (Value -> Sem Unit)} {Q : Value -> Shared -> Prop} {acc : Value}
    (hst : X.stack = X.env :: X.outer) (hL : X.env.frame = some X.env.locals) (hex : X.ex = [])
    (hxe : ∀ e s', wpAny (model X.prog X.w) X.A (leaving X.env e) (fun _ s'' => CXe X.prog X.w X.outer X.H₀ X.s₀ Ex e s'') (fun e' s'' => CXe X.prog X.w X.outer X.H₀ X.s₀ Ex e' s'') s' -> X.xe e s')
    (I : Inv X pins σ H s) (fpo : ∀ b ∈ fp, FpOk X pins H b) (hCle : s.heap.objs.size <= C) (hx : xeB X cp sc C s H fp Ex e s') :
    notedBy (model X.prog X.w) X.A (compEnvC sc (clOf X.env sc.names []) C X.env) (fun e s' => compPost (model X.prog X.w) X.A X.xe use Q acc C (.error e) s') e s' := by
  obtain ⟨pins', σ', H1, s1, J, ea, cls, a0, H', B, rfl, os, bare, fl, fw, q⟩ := hx
  have J2 : Inv (X.blk cp.names sc C s H fp) pins' σ' H' s' := J.call' os fl.un fl.hok bare (fun b hb => by cases hb)
  have I2 : Inv X pins σ H' s' := I.call' J2.os J2.base J2.hok J2.bare (fun b hb => ⟨(fpo b hb).2.2.2.1, (fpo b hb).2.1, (fpo b hb).2.2.2.2.1, (fpo b hb).2.2.2.2.2⟩)
  obtain ⟨mC, hnC, _⟩ := J2.loc
  have hnC : s'.heap.Ns C mC := hnC
  have hCn : H' C = none := J2.free
  have sub : ∀ b o, (PySem.W.hideAll B [C]).get? b = some o -> B.get? b = some o := fun b o e => PySem.W.of_hideAll _ e
  have subn : ∀ b, B.get? b = none -> (PySem.W.hideAll B [C]).get? b = none := fun b e => by
    cases z : (PySem.W.hideAll B [C]).get? b with
    | none => rfl
    | some o => rw [sub b o z] at e; cases e
  have nC : (PySem.W.hideAll B [C]).get? C = none := PySem.W.hideAll_none [C] (by simp)
  generalize hB1 : PySem.W.hideAll B [C] = B1 at sub subn nC
  obtain ⟨f1, f2, f3, f4⟩ := fw
  have fw1 : Heap.FlyingW B1 (X.env :: X.outer) ea cls a0 s'.heap := by
    obtain ⟨oe, vs, T, oT, ts, he, hc, hd, h1, hnT, r⟩ := f4
    exact ⟨fun b o e => f1 b o (sub b o e), subn _ f2, hst ▸ funFrames_sub subn f3, oe, vs, T, oT, ts, he, hc, hd, h1, subn _ hnT, r⟩
  have fr : X.A.frames = some (X.env :: X.outer) := by rw [I.ok.frames, hst]
  have frC : ∀ env ∈ X.env :: X.outer, env.frame ≠ some C := fun env he z => by
    have hm : C ∈ frs X.stack := by rw [hst]; exact List.mem_filterMap.mpr ⟨env, he, z⟩
    obtain ⟨_, o, ho, _⟩ := I.stack.mem hm
    exact absurd (Nat.lt_of_lt_of_le (Heap.lt_size ho) hCle) (Nat.lt_irrefl _)
  show wpAny (model X.prog X.w) X.A (noteFrame (.ref ea) X.env) _ _ s'
  refine wpAny_looks_onW fr hL fw1 fun h4 held4 up4 => ?_
  have ns4 := up4.ns hnC
  refine ⟨mC, ns4, fun h5 sb5 cenv _ => ?_⟩
  obtain ⟨g1, g2, g3, g4⟩ := held4
  have e1 : B1.StaysIn h5 := fun b o e => (sb5.2 b fun z => by rw [z, nC] at e; cases e).trans (g1 b o e)
  have e3 := funFrames_but sb5 frC g3
  have noF : ∀ b o vs, h4.get? b = some o -> o.data = .fields vs -> b ≠ C := fun b o vs eb ed z => by
    obtain ⟨oc, es, ep, hc, hd, _⟩ := ns4
    rw [z, hc] at eb
    cases eb
    rw [hd] at ed
    cases ed
  have e4 : h5.TracedAtW B1 ea cls a0 (rawInt X.env.locals) := by
    obtain ⟨oe, vs, T, oT, ts, he, hc, hd, h1, hnT, hTe, hT, hdT, h3⟩ := g4
    exact ⟨oe, vs, T, oT, ts, (sb5.2 _ (noF _ _ _ he hd)).trans he, hc, hd, h1, hnT, hTe, (sb5.2 _ (noF _ _ _ hT hdT)).trans hT, hdT, h3⟩
  refine passOn_at e1 e3 e4 fun h6 fl6 k1 k3 k4 up6 => hxe _ _ ?_
  refine leaves_atW fr hL k1 g2 k3 k4 fun h7 fw7 up7 => ?_
  have memO : ∀ b ∈ frs X.outer, b ∈ frs X.stack := fun b hb => by rw [hst]; obtain ⟨en, h1, h2⟩ := List.mem_filterMap.mp hb; exact List.mem_filterMap.mpr ⟨en, List.mem_cons_of_mem _ h1, h2⟩
  have flX : Fly X.prog X.w (frs X.outer) X.H₀ H' X.s₀.heap s'.heap B1 := by
    refine ⟨?_, I2.hok, fun b o e h n => ?_⟩
    . have := I2.base
      rw [hex] at this
      exact this
    . have hbL : b ∉ frs X.stack := fun z => by
        rcases List.mem_cons.mp (I.stkSub b z) with e' | e'
        . rcases h with h | ⟨o', h⟩
          . exact h (by rw [e']; exact I2.free)
          . have := Heap.lt_size h
            rw [e'] at this
            exact absurd (Nat.lt_of_lt_of_le this I.ok.above) (Nat.lt_irrefl _)
        . exact n e'
      have hbC : b ∉ [C] := fun z => by
        have z' := List.mem_singleton.mp z
        subst z'
        rcases h with h | ⟨o', h⟩
        . exact h hCn
        . exact absurd (Nat.lt_of_lt_of_le (Heap.lt_size h) (Nat.le_trans I.sz hCle)) (Nat.lt_irrefl _)
      rw [<- hB1]
      refine PySem.W.hideAll_get _ (fl.cov b o e ?_ hbL) hbC
      rcases h with h | ⟨o', h⟩
      . exact .inl h
      . obtain ⟨o2, e2⟩ := I.base.there b o' h (by rw [hex]; simp)
        by_cases hfp : b ∈ fp
        . rcases (fpo b hfp).2.2.2.1 with z | z
          . rw [hex] at z; cases z
          . exact absurd (Nat.lt_of_lt_of_le (Heap.lt_size h) z) (Nat.lt_irrefl _)
        . obtain ⟨o3, e3⟩ := J.base.there b o2 e2 hfp
          exact .inr ⟨o3, e3⟩
  have flM := flX.move (fun b hb => I2.stkFree b (memO b hb)) fw7.1 (fun b hb o e => by
    obtain ⟨_, o', ho', nf⟩ := I2.stack.mem (memO b hb)
    rw [e] at ho'; cases ho'
    obtain ⟨sl4, q4⟩ := up4 b o e nf
    have hbC : b ≠ C := fun z => by
      obtain ⟨_, o'', ho'', _⟩ := I.stack.mem (memO b hb)
      exact absurd (Nat.lt_of_lt_of_le (Heap.lt_size ho'') (by rw [z]; exact hCle)) (Nat.lt_irrefl _)
    have q5 := (sb5.2 b hbC).trans q4
    obtain ⟨sl6, q6⟩ := up6 b _ q5 nf
    obtain ⟨sl7, q7⟩ := up7 b _ q6 nf
    exact ⟨sl7, q7⟩)
  exact ⟨ea, cls, a0, H', B1, rfl, I2.os, I2.bare, flM, fw7, q⟩
section
variable {X : Cx} {tg iter elt : Expr} {ifs : List Expr} {sc : Scope} {pos : Pos} {wi : TI} {cp : Caps} {g : TG} {tc : TT} {te : TE}
theorem comp_coreE {Ex : XK} (hc : X.calm = true) (S : BlkSc X sc) (hcp : CapsOk X.N sc cp)
    (hg : ∀ C s₀ H₀ ex xe, Passes (CXe X.prog X.w) (X.blkE cp.names sc C s₀ H₀ ex xe) Ex -> PG (X.blkE cp.names sc C s₀ H₀ ex xe) tg g) (hf : ∀ C s₀ H₀ ex xe, Passes (CXe X.prog X.w) (X.blkE cp.names sc C s₀ H₀ ex xe) Ex -> PF (X.blkE cp.names sc C s₀ H₀ ex xe) ifs tc) (he : ∀ C s₀ H₀ ex xe, Passes (CXe X.prog X.w) (X.blkE cp.names sc C s₀ H₀ ex xe) Ex -> PE (X.blkE cp.names sc C s₀ H₀ ex xe) elt te)
    {pins : List (Addr × Obj)} {σ : St} {H : Hp} {s : Shared} {J : It} {it : Addr} {fp : List Addr} {tn : Nat -> Heap -> Prop} {Q : VK} {RR : Value -> Addr -> Result -> Shared -> Prop} {E : Value -> Shared -> Prop}
    (I : Inv X pins σ H s) (T : Turn X.prog X.w X.K tg J fp it tn) (st : tn 0 s.heap) (fpo : ∀ b ∈ fp, FpOk X pins H b)
    (hw : ∃ W : Nat -> Nat -> List V -> St -> Hp -> Prop, (∃ m, W 0 m [] (cp.st σ) H) /\ ∀ i m ys σ' H', W i m ys σ' H' ->
      ys.length < sizeLine /\ ((J.stop i H' /\ ∀ D, H' D = none -> Q (.ref D) (upd H' D (.lst ys))) \/ (J.go i H' /\ ∃ N : List V -> St -> Hp -> Prop, (∀ zs σ2 H2, N zs σ2 H2 -> ∃ m', m' < m /\ W (i + 1) m' zs σ2 H2) /\ ∀ x H2, J.yld i H' x H2 -> g x σ' H2 fun σ2 H3 => tc σ2 H3 fun b H4 =>
        if b = true then te σ2 H4 fun v H5 => N (ys ++ [v]) σ2 H5 else N ys σ2 H4)))
    (hR : ∀ D C s' H' (m : Str -> Option Value), Inv X pins σ H' s' -> Q (.ref D) H' -> s'.heap.Ns C m -> H' C = none -> C ≠ X.env.locals -> X.s₀.heap.objs.size <= C -> (∀ x c, X.env.cells.lookup x = some c -> c ≠ C) -> (∀ p ∈ X.pn ++ pins, p.1 ≠ C) -> RR (.ref D) C (.ok .next) s')
    (hErr : ∀ C acc e s', s.heap.objs.size <= C -> xeB X cp sc C s H fp Ex e s' -> notedBy (model X.prog X.w) X.A (compEnvC sc (clOf X.env sc.names []) C X.env) (fun e s' => RR acc C (.error e) s') e s') :
    wpAny (model X.prog X.w) X.A (newList []) (fun acc s₃ => wpAny (model X.prog X.w) X.A (newFunctionEnv sc X.env.globals (clOf X.env sc.names []) [] X.env.qual none .none (some X.env)) (fun cenv s₄ =>
      codeAny (model X.prog X.w) X.A (.compStart (.ListComp elt [⟨tg, iter, ifs, 0⟩] sc pos) 0 (.ref it) acc { cenv with scope := relabel sc X.env }) (RR acc cenv.locals) s₄) E s₃) E s := by
  obtain ⟨W, ⟨m0, w0⟩, turn⟩ := hw
  refine wpAny_newObj_type (wpAny_newFunctionEnv S.nocell (by intro y hy; simp at hy) (fun h₁ hns₁ hsb₁ => ?_) S.kind)
  dsimp only at hns₁ hsb₁ ⊢
  generalize hH2 : s.heap.push { cls := .type "list", dict := none, data := .seq ([] : List Value).toArray } = H2 at hns₁ hsb₁ ⊢
  have hC : H2.objs.size = s.heap.objs.size + 1 := by rw [<- hH2, Heap.size_push]
  have hDC : s.heap.objs.size ≠ H2.objs.size := by rw [hC]; exact Nat.ne_of_lt (Nat.lt_succ_self _)
  have hCle : s.heap.objs.size <= H2.objs.size := by rw [hC]; exact Nat.le_succ _
  have below : ∀ b, b < s.heap.objs.size -> b ≠ H2.objs.size := fun b hb => by rw [hC]; exact Nat.ne_of_lt (Nat.lt_succ_of_lt hb)
  have old : ∀ b o, s.heap.get? b = some o -> h₁.get? b = some o := fun b o e => hsb₁.extBut b o (below b (Heap.lt_size e)) (Heap.get?_push_of_some _ (hH2 ▸ Heap.get?_push_of_some _ e))
  have hacc : h₁.get? s.heap.objs.size = some { cls := .type "list", data := .seq ([] : List Value).toArray 0 } := hsb₁.extBut _ _ hDC (Heap.get?_push_of_some _ (hH2 ▸ Heap.get?_push_size _ rfl))
  have hst₁ : tn 0 h₁ := T.keep 0 _ _ st fun b _ o e => old b o e
  have hobj : ∀ b ∈ fp, ∃ o, s.heap.get? b = some o := fun b hb => let ⟨o, e, _⟩ := T.obj 0 _ st b hb; ⟨o, e⟩
  have J0 : Inv (X.blkE cp.names sc H2.objs.size s H fp (xeB X cp sc H2.objs.size s H fp Ex)) [] (cp.st σ) H { s with heap := h₁, toks := s.toks + ([] : List (Str × Value)).length } := (show Inv (X.blk cp.names sc H2.objs.size s H fp) [] (cp.st σ) H { s with heap := h₁, toks := s.toks + ([] : List (Str × Value)).length } from blk_start I S hcp hCle fpo hobj rfl rfl old hns₁).toE
  have nfs : ∀ b, s.heap.objs.size <= b -> b ∉ frs X.stack := fun b hb z => by
    rcases List.mem_cons.mp (I.stkSub b z) with e | e
    . exact absurd (Nat.lt_of_lt_of_le I.lt (by rw [<- e]; exact hb)) (Nat.lt_irrefl _)
    . exact I.nofs hb e
  have ncell : ∀ b, s.heap.objs.size <= b -> ∀ x c, X.env.cells.lookup x = some c -> c ≠ b := fun b hb x c e z => by
    obtain ⟨v, q⟩ := I.cell x c e
    exact absurd (Nat.lt_of_lt_of_le q.lt (by rw [z]; exact hb)) (Nat.lt_irrefl _)
  have fpb : ∀ {pins' : List (Addr × Obj)} {H' : Hp}, (∀ b ∈ fp, H' b = none) -> (∀ p ∈ pins', p.1 ∉ fp) -> ∀ b ∈ fp, FpOk (X.blkE cp.names sc H2.objs.size s H fp (xeB X cp sc H2.objs.size s H fp Ex)) pins' H' b := fun {pins' H'} hn hp b hb => by
    obtain ⟨o, e⟩ := hobj b hb
    refine ⟨hn b hb, below b (Heap.lt_size e), fun z => ?_, .inl hb, fun x c h => (fpo b hb).2.2.2.2.1 x c (blk_lookup I S h), fun p hp' z => ?_⟩
    . rcases List.mem_cons.mp (I.stkSub b z) with e | e
      . exact (fpo b hb).2.1 e
      . exact (fpo b hb).2.2.1 e
    . have hp'' : p ∈ pins' := by simpa using hp'
      exact hp p hp'' (by rw [z]; exact hb)
  have pass : Passes (CXe X.prog X.w) (X.blkE cp.names sc H2.objs.size s H fp (xeB X cp sc H2.objs.size s H fp Ex)) Ex := fun pins' σ' H1 s1 e s' I1 hc1 => ⟨pins', σ', H1, s1, I1.ofE, hc1⟩
  have loop : ∀ s₃ : Shared, s₃ = { s with heap := h₁, toks := s.toks + ([] : List (Str × Value)).length } ->
      codeAny (model X.prog X.w) X.A (.compLoop (.ListComp elt [⟨tg, iter, ifs, 0⟩] sc pos) 0 (.ref it) (.ref s.heap.objs.size) (compEnvC sc (clOf X.env sc.names []) H2.objs.size X.env))
        (RR (.ref s.heap.objs.size) H2.objs.size) s₃ := by
    rintro s₃ rfl
    refine compLoop_gen (fun n s' => ∃ i σ' H' ys its k, Inv (X.blkE cp.names sc H2.objs.size s H fp (xeB X cp sc H2.objs.size s H fp Ex)) [] σ' H' s' /\ tn i s'.heap /\ (∀ b ∈ fp, H' b = none) /\ H' s.heap.objs.size = none /\
      s'.heap.get? s.heap.objs.size = some { cls := .type "list", data := .seq its.toArray k } /\ Vals ys its /\ W i n ys σ' H') ?_ m0
      ⟨0, _, H, [], [], 0, J0, hst₁, fun b hb => (fpo b hb).1, I.hok.fresh (Nat.le_refl _), hacc, .nil, w0⟩
    rintro n s3 ⟨i, σ3, H3, ys, its, k, I3, st3, fr3, hD3, e3, rv, w3⟩
    obtain ⟨hz, tr⟩ := turn i n ys σ3 H3 w3
    have hlen := rv.length
    -- the accumulator stands still while anything else runs
    have dpin : ∀ p ∈ [(s.heap.objs.size, ({ cls := .type "list", data := .seq its.toArray k } : Obj))], p.1 ∉ fp := fun p hp z => by
      have e : p = _ := List.mem_singleton.mp hp
      subst e
      obtain ⟨o, e⟩ := hobj _ z
      exact absurd (Heap.lt_size e) (Nat.lt_irrefl _)
    have I3' : Inv (X.blkE cp.names sc H2.objs.size s H fp (xeB X cp sc H2.objs.size s H fp Ex)) [(s.heap.objs.size, ({ cls := .type "list", data := .seq its.toArray k } : Obj))] σ3 H3 s3 := I3.pins_of fun p hp => by
      have e : p = _ := List.mem_singleton.mp hp
      subst e
      exact ⟨e3, hD3, hDC, nfs _ (Nat.le_refl _), fun v z => by cases z⟩
    have stat : ∀ b ∈ fp, FpOk (X.blkE cp.names sc H2.objs.size s H fp (xeB X cp sc H2.objs.size s H fp Ex)) [(s.heap.objs.size, ({ cls := .type "list", data := .seq its.toArray k } : Obj))] H3 b := fpb fr3 dpin
    rcases tr with ⟨stop, qn⟩ | ⟨go, N, hN, step⟩
    . refine thn (T.done (X.blkE cp.names sc H2.objs.size s H fp (xeB X cp sc H2.objs.size s H fp Ex)) rfl rfl rfl hc i _ s3 σ3 H3 _ I3' stat st3 stop) fun r s4 ⟨hr, I4⟩ => ?_
      subst hr
      obtain ⟨e4, n4, _⟩ := I4.pin (s.heap.objs.size, ({ cls := .type "list", data := .seq its.toArray k } : Obj)) (by simp)
      have new : ObjOk X.prog X.w (upd H3 s.heap.objs.size (.lst ys)) s4.heap s.heap.objs.size (.lst ys) := ⟨Nat.le_of_lt hz, its, k, rv, e4⟩
      obtain ⟨mC, hnC, _⟩ := I4.loc
      have I4' : Inv (X.blkE cp.names sc H2.objs.size s H fp (xeB X cp sc H2.objs.size s H fp Ex)) [] σ3 H3 s4 := I4.pins_of fun p hp => by cases hp
      have I5 := blk_end I I4'.ofE fpo (Nat.le_refl _) n4 new
      refine hR _ _ s4 _ mC I5 (qn _ n4) hnC ?_ (Nat.ne_of_gt (Nat.lt_of_lt_of_le I.lt hCle)) (Nat.le_trans I.sz hCle) (ncell _ hCle) fun p hp z => ?_
      . rw [upd_ne (Ne.symm hDC)]; exact I4.free
      . exact absurd (Nat.lt_of_lt_of_le (Heap.lt_size (I.pin p hp).1) (by rw [z]; exact hCle)) (Nat.lt_irrefl _)
    . refine thn (T.item (X.blkE cp.names sc H2.objs.size s H fp (xeB X cp sc H2.objs.size s H fp Ex)) rfl rfl rfl hc i _ s3 σ3 H3 _ I3' stat st3 go) fun r s4 ⟨u, hr, h4⟩ => ?_
      subst hr
      refine thn h4 fun _ s5 ⟨x, H5, I5, r5, y5, st5, fr5⟩ => ?_
      have I5' := I5.pinned (fpb fr5 dpin) (T.obj _ _ st5)
      have fin : ∀ {σ7 : St} {H7 : Hp} {s7 : Shared}, Inv (X.blkE cp.names sc H2.objs.size s H fp (xeB X cp sc H2.objs.size s H fp Ex)) ([(s.heap.objs.size, ({ cls := .type "list", data := .seq its.toArray k } : Obj))] ++ pinsAt fp s5.heap) σ7 H7 s7 ->
          s7.heap.get? s.heap.objs.size = some { cls := .type "list", data := .seq its.toArray k } /\ H7 s.heap.objs.size = none /\ (∀ b ∈ fp, H7 b = none) /\ ∀ b ∈ fp, ∀ o, s5.heap.get? b = some o -> s7.heap.get? b = some o := fun {σ7 H7 s7} I7 => by
        obtain ⟨e7, n7, _⟩ := I7.pin (s.heap.objs.size, ({ cls := .type "list", data := .seq its.toArray k } : Obj)) (by simp)
        refine ⟨e7, n7, fun b hb => ?_, fun b hb o e => ?_⟩
        . obtain ⟨o, e, _⟩ := T.obj _ _ st5 b hb
          exact (I7.pin (b, o) (List.mem_append_right _ (List.mem_append_right _ (mem_pinsAt hb e)))).2.1
        . exact (I7.pin (b, o) (List.mem_append_right _ (List.mem_append_right _ (mem_pinsAt hb e)))).1
      refine wpAny_mono (hg _ _ _ _ _ pass _ s5 σ3 H5 x u _ I5' r5 (step x H5 y5)) (fun _ s6 ⟨σ6, H6, I6, q6⟩ => ?_) fun _ _ z => hErr _ _ _ _ hCle z
      refine wpAny_mono (hf _ _ _ _ _ pass _ s6 σ6 H6 _ I6 q6) (fun ok s7 ⟨H7, I7, q7⟩ => ?_) fun _ _ z => hErr _ _ _ _ hCle z
      cases ok with
      | false =>
        rw [if_neg Bool.false_ne_true]
        rw [if_neg Bool.false_ne_true] at q7
        obtain ⟨m', hm, w7⟩ := hN _ _ _ q7
        obtain ⟨e7, n7, fr7, k7⟩ := fin I7
        exact ⟨m', hm, i + 1, σ6, H7, ys, its, k, I7.pins_of (fun p hp => by cases hp), T.keep _ _ _ st5 k7, fr7, n7, e7, rv, w7⟩
      | true =>
        rw [if_pos rfl]
        rw [if_pos rfl] at q7
        refine wpAny_mono (he _ _ _ _ _ pass _ s7 σ6 H7 _ I7 q7) (fun v s8 ⟨y, H8, I8, r8, q8⟩ => ?_) fun _ _ z => hErr _ _ _ _ hCle z
        obtain ⟨m', hm, w8⟩ := hN _ _ _ q8
        obtain ⟨e8, n8, fr8, k8⟩ := fin I8
        refine call_meets F.slot_list_append ⟨_, e8, rfl⟩ F.entry_list_append (F.args_list_append_2 _ _) (PySem.list_append s.heap.objs.size its.toArray k v (by rw [List.size_toArray]; omega)) ⟨e8, ?_⟩
        obtain ⟨k', q⟩ : ∃ k', (s8.heap.update s.heap.objs.size (Obj.mapSeq fun x => x.push v)).get? s.heap.objs.size = some { cls := .type "list", data := .seq (its ++ [v]).toArray k' } := ⟨_, by
          have q := PySem.IsL.update e8 fun x => x.push v
          have e : (its ++ [v]).toArray = its.toArray.push v := by simp
          rw [e]
          exact q⟩
        have I8' : Inv (X.blkE cp.names sc H2.objs.size s H fp (xeB X cp sc H2.objs.size s H fp Ex)) [] σ6 H8 s8 := I8.pins_of fun p hp => by cases hp
        have I9 : Inv (X.blkE cp.names sc H2.objs.size s H fp (xeB X cp sc H2.objs.size s H fp Ex)) [] σ6 H8 { s8 with heap := s8.heap.update s.heap.objs.size (Obj.mapSeq fun x => x.push v), toks := s8.toks } :=
          I8'.turned (it := s.heap.objs.size) (fun b o hb e => (Heap.get?_update_other _ _ (Ne.symm hb)).trans e) n8 hDC (.inr (Nat.le_refl _)) (fun x c e => ncell _ (Nat.le_refl _) x c (blk_lookup I S e)) (fun p hp => by cases hp)
        refine ⟨m', hm, i + 1, σ6, H8, ys ++ [y], its ++ [v], k', I9, T.keep (i + 1) s5.heap _ st5 (fun b hb o e => ?_), fr8, n8, q, rv.append (.cons r8 .nil), w8⟩
        . refine (Heap.get?_update_other _ _ ?_).trans (k8 b hb o e)
          intro z
          obtain ⟨ob, eb⟩ := hobj b hb
          exact absurd (Heap.lt_size eb) (by rw [<- z]; exact Nat.lt_irrefl _)
  exact codeAny_compStart_list (loop _ rfl) (T.self _ 0 _ _ _ hst₁ (loop _ rfl))
theorem pe_compE {Ex : XK} (hst : X.stack = X.env :: X.outer) (hL : X.env.frame = some X.env.locals) (hex : X.ex = [])
    (hxe : ∀ e s', wpAny (model X.prog X.w) X.A (leaving X.env e) (fun _ s'' => CXe X.prog X.w X.outer X.H₀ X.s₀ Ex e s'') (fun e' s'' => CXe X.prog X.w X.outer X.H₀ X.s₀ Ex e' s'') s' -> X.xe e s')
    (hc : X.calm = true) (S : BlkSc X sc) (hcp : CapsOk X.N sc cp) (hi : PI X tg iter wi)
    (hg : ∀ C s₀ H₀ ex xe, Passes (CXe X.prog X.w) (X.blkE cp.names sc C s₀ H₀ ex xe) Ex -> PG (X.blkE cp.names sc C s₀ H₀ ex xe) tg g) (hf : ∀ C s₀ H₀ ex xe, Passes (CXe X.prog X.w) (X.blkE cp.names sc C s₀ H₀ ex xe) Ex -> PF (X.blkE cp.names sc C s₀ H₀ ex xe) ifs tc) (he : ∀ C s₀ H₀ ex xe, Passes (CXe X.prog X.w) (X.blkE cp.names sc C s₀ H₀ ex xe) Ex -> PE (X.blkE cp.names sc C s₀ H₀ ex xe) elt te)
    (hs : ∀ x, foldedSetIterable iter X.env x = pure x := by intro _; rfl) : PE X (.ListComp elt [⟨tg, iter, ifs, 0⟩] sc pos) (tComp wi cp g tc te) := by
  intro pins s σ H Q I h
  rw [eval_ListComp]
  refine wpAny_comprehension_free (use := none) rfl hs (closure_eq (blk_cells I S)) S.kind S.loc (thn (hi pins s σ H _ I h) fun xv s₁ h₁ => thn h₁ fun itv s₂ h₂ => ?_)
  obtain ⟨it, fp, tn, J, H2, e, I2, T, st2, f2, hw⟩ := h₂
  subst e
  refine comp_coreE (Ex := Ex) (RR := fun acc C => compPost (model X.prog X.w) X.A X.xe none (EP X pins σ Q) acc C) hc S hcp hg hf he I2 T st2 f2 hw ?_ ?_
  . intro D C s' H' m I' q hn hC hL hz hcl hp
    exact ⟨m, hn, fun h' hs' => ⟨.ref D, H', I'.turned (t' := s'.toks) (it := C) (fun b o hb e => hs'.extBut b o hb e) hC hL (.inr hz) hcl hp, rfl, q⟩⟩
  . intro C acc e s' hle hx
    exact blk_flight hst hL hex hxe I2 f2 hle hx
end
end L2
set_option Elab.async false
set_option linter.all false
set_option maxRecDepth 100000
set_option maxHeartbeats 4000000
namespace PySem.W
open PySem PySem.Calls PyProof.Rows PyProof.V PySem.Spec
section
variable {prog : Program} {w : World} {A : Around} {E : Value -> Shared -> Prop} {s : Shared}
end
section
variable {prog : Program} {w : World} {A : Around} {E : Value -> Shared -> Prop} {s : Shared} {r d : Addr} {es : Array DictEntry} {ep : Nat} {od : Obj}
end
end PySem.W
set_option Elab.async false
set_option linter.all false
set_option maxRecDepth 100000
set_option maxHeartbeats 4000000
namespace L2
open PySem PySem.Spec PyProof.Rows
end L2
set_option Elab.async false
set_option linter.all false
set_option maxRecDepth 100000
set_option maxHeartbeats 4000000
namespace L2
open PySem PySem.Spec PyProof.Rows
theorem pe_gc {X : Cx} {x : Str} {n : Int} {pos : Pos} (hg : Gl X x) (hm : ∃ t, X.mg x = some (.int n t)) (hd : (x == ("__debug__" : Str)) = false := by decide) : PE X (.Name x pos) (tC (.int n)) := by
  obtain ⟨t, hm⟩ := hm
  exact pe_glob hg hm ⟨_, rfl⟩ hd
section
variable {K : PySem.W.Frag} {ta tv td ty tx : TE} {t : TA} {f m : Str} {σ : St} {H : Hp} {Q : VK} {D : Ends} {C : Addr} {sp : Sp} {dvs : List V} {E : XK}
end
def ents (es : List (List Int × Int)) : List (List Key × V) := es.map fun e => (wkey e.1, V.int e.2)
end L2
set_option Elab.async false
set_option linter.all false
set_option maxRecDepth 100000
set_option maxHeartbeats 4000000
namespace L2
open PySem PySem.Spec PyProof.Rows
end L2
set_option Elab.async false
set_option linter.all false
set_option maxRecDepth 100000
set_option maxHeartbeats 4000000
namespace L2
open PySem PySem.W PySem.Spec PySem.Calls PyProof.Rows
end L2
set_option linter.all false
namespace PrimeO
end PrimeO
set_option Elab.async false
set_option linter.all false
set_option maxRecDepth 100000
set_option maxHeartbeats 4000000
namespace L2
open PySem PySem.Spec PyProof.Rows
section
variable {X : Cx} {CX CX' : CXT} {k k' : Nat} {f f' : Addr} {fd fd' : FuncData} {ps ps' : List Str} {sp sp' : Sp} {dvs dvs' : List V} {ds ds' : List Value} {x : Str} {p pos : Pos} {e : Expr} {es : List Expr} {t : TA}
end
end L2
set_option Elab.async false
set_option linter.all false
set_option maxRecDepth 100000
set_option maxHeartbeats 4000000
namespace PySem
open Sem (wp)
open PySem.F
section
variable {prog : Program} {w : World} {A : Around} {E : Value -> Shared -> Prop} {s : Shared}
end
section
variable {prog : Program} {w : World} {A : Around} {E : Value -> Shared -> Prop} {s : Shared}
end
end PySem
set_option Elab.async false
set_option linter.all false
set_option maxRecDepth 100000
set_option maxHeartbeats 4000000
namespace PySem
section
variable {prog : Program} {w : World} {A : Around} {E : Value -> Shared -> Prop} {s : Shared}
end
section
variable {prog : Program} {w : World} {s : Shared}
end
end PySem
set_option Elab.async false
set_option linter.all false
set_option maxRecDepth 100000
set_option maxHeartbeats 4000000
namespace L2
open PySem PySem.Spec PyProof.Rows GW
def SqB (K : PySem.W.Frag) (H : Hp) (t : Bool) (a : Addr) (xs : List V) : Prop := match t with | false => SqL K H a xs | true => SqT K H a xs
theorem SqB.mono {K : PySem.W.Frag} {H H' : Hp} {t : Bool} {a : Addr} {xs : List V} (h : SqB K H t a xs) (s : Same H H') : SqB K H' t a xs := by
  cases t
  . exact s.seq h
  . exact s.seqT h
def rInsert : V -> List V -> Hp -> VK -> Prop := fun x vs H Q => ∃ l xs k y, x = .ref l /\ vs = [.int k, y] /\ H l = some (.lst xs) /\ 0 <= k /\ k <= xs.length /\ xs.length < sizeLine /\ Q .non (upd H l (.lst (xs.take k.toNat ++ y :: xs.drop k.toNat)))
theorem r_insert {x : V} {vs : List V} {H : Hp} {Q : VK} : rInsert x vs H Q = ∃ l xs k y, x = .ref l /\ vs = [.int k, y] /\ H l = some (.lst xs) /\ 0 <= k /\ k <= xs.length /\ xs.length < sizeLine /\ Q .non (upd H l (.lst (xs.take k.toNat ++ y :: xs.drop k.toNat))) := rfl
theorem mt_insert {X : Cx} : MtM X "list.insert" rInsert := by
  intro pins s σ H x vs v us Q I rx rv h
  obtain ⟨l, xs, k, y, rfl, rfl, hH, h0, h1, hz, q⟩ := h
  cases rx
  cases rv with
  | cons r1 rr => cases rr with
    | cons r2 rr =>
      cases rr
      obtain ⟨t, rfl⟩ := r1
      obtain ⟨z, its, n, r, hl, e⟩ := I.lstM hH
      have hlen := r.length
      have hb : k < 2 ^ 63 := by have : sizeLine = 2 ^ 24 := rfl; omega
      refine call_meets F.slot_list_insert ⟨_, e, rfl⟩ F.entry_list_insert (F.args_list_insert_3 _ _ _)
        (AutoListH.list_insert_list_int_val_1 l its.toArray n k t _ (by simp [Builtin.List.listFitsIndex]; omega) (by rw [List.size_toArray]; omega)) ⟨e, ?_⟩
      refine ⟨.non, _, I.lset (its' := its.take k.toNat ++ _ :: its.drop k.toNat) hH e ?_ ((r.take _).append (.cons r2 (r.drop _))) ?_, rfl, q⟩
      . have hk : min k.toNat its.length = k.toNat := by omega
        simp [show ¬ k < 0 by omega, hk]
        exact List.take_of_length_le (by rw [List.length_drop]; exact Nat.le_refl _)
      . rw [List.length_append, List.length_cons, List.length_take, List.length_drop]; omega
theorem SqB.or {K : PySem.W.Frag} {H : Hp} {t : Bool} {a : Addr} {xs : List V} (h : SqB K H t a xs) : SqL K H a xs \/ SqT K H a xs := by
  cases t
  . exact .inl h
  . exact .inr h
theorem compMapB {K : PySem.W.Frag} {cp : Caps} {te : TE} {Q : VK} {σ : St} {H : Hp} {t : Bool} {a : Addr} {xs : List V} {σ' : St} (f : V -> V) (e : cp.st σ = none :: σ') (hl : SqB K H t a xs) (hz : xs.length < sizeLine) (hs : ∀ x ∈ xs, ∀ R : VK, R (f x) H -> te (some x :: σ') H R) (hd : ∀ D, H D = none -> Q (.ref D) (upd H D (.lst (xs.map f)))) :
    ((∃ xs, SqL K H a xs) /\ CompW (Itl K a) cp (gName 0) tTrue te σ H Q) \/ ((∃ xs, SqT K H a xs) /\ CompW (Itt K a) cp (gName 0) tTrue te σ H Q) := by
  cases t
  . exact .inl ⟨⟨_, hl⟩, compMapL f e hl hz hs hd⟩
  . exact .inr ⟨⟨_, hl⟩, compMapT f e hl hz hs hd⟩
end L2
set_option linter.all false
namespace Nest
def sl (row : List Int) (b i : Nat) : List Int := (row.take i).drop b
def outF (p e : Int) (s : List Int × Int) (x : Int) : List Int × Int := if x = e then (s.1, s.2 - 1) else (if s.2 = 0 then s.1 ++ [x] else s.1, if p <= x then s.2 + 1 else s.2)
def outS (p e : Int) (l : List Int) : List Int × Int := l.foldl (outF p e) ([], 0)
def outW (p e : Int) (l : List Int) : List Int := (outS p e l).1
def wd (p e : Int) (row : List Int) (i a : Nat) : List Int := outW p e (sl row (a + 1) i)
def gt (p : Int) (row : List Int) (a : Nat) : Int := row.getD a 0 - p
end Nest
set_option Elab.async false
set_option linter.all false
set_option maxRecDepth 100000
set_option maxHeartbeats 4000000
namespace L2
open PySem PySem.Spec PyProof.Rows GW
end L2
namespace HT
open PySem PySem.Spec PyProof.Rows L2
section
variable {prog : Program} {w : World} {A : Around} {E : Value -> Shared -> Prop} {s : Shared}
end
end HT
namespace L2
open PySem PySem.Spec PyProof.Rows GW
theorem pi_listK {X : Cx} {K : PySem.W.Frag} {tg l : Expr} {tl : TE} (hK : X.K = K) (hl : PE X l tl) : PI X tg l (iList K tl) := by subst hK; exact pi_list hl
end L2
namespace Nest
end Nest
set_option linter.all false
namespace Nest
end Nest
namespace L2
open PySem PySem.Spec PyProof.Rows
end L2
set_option Elab.async false
set_option linter.all false
set_option maxRecDepth 100000
set_option maxHeartbeats 4000000
namespace L2
open PySem PySem.W PySem.Spec PySem.Calls PyProof.Rows
def WordsL (K : PySem.W.Frag) (H : Hp) (xs : List V) (ws : List (List Int)) : Prop := xs.length = ws.length /\ ∀ (i : Nat) (w : List Int), ws[i]? = some w -> ∃ t, xs[i]? = some (.ref t) /\ H t = some (.lst (w.map V.int))
theorem WordsL.at {K : PySem.W.Frag} {H : Hp} {xs : List V} {ws : List (List Int)} (h : WordsL K H xs ws) {i : Nat} {x : V} (hx : xs[i]? = some x) : ∃ t w, ws[i]? = some w /\ x = .ref t /\ H t = some (.lst (w.map V.int)) := by
  have hi : i < ws.length := by rw [<- h.1]; exact (List.getElem?_eq_some_iff.mp hx).1
  obtain ⟨t, a, b⟩ := h.2 i ws[i] (by simp [hi])
  rw [hx] at a
  exact ⟨t, ws[i], by simp [hi], Option.some.inj a, b⟩
end L2
set_option Elab.async false
set_option linter.all false
set_option maxRecDepth 100000
set_option maxHeartbeats 1000000
namespace L2
open PySem PySem.Spec PyProof.Rows
def Its (x : Str) : It := ⟨fun i _ => i < x.cps.size, fun i H v H' => H' = H /\ ∃ c, x.cps[i]? = some c /\ v = .str ⟨#[c]⟩, fun i _ => x.cps.size <= i⟩
theorem turn_str {P : Program} {w : World} {K : PySem.W.Frag} {tg : Expr} (ty : String) (hty : ty = "str_ascii_iterator" \/ ty = "str_iterator") (x : Str) (t : Tok) (it : Addr) : Turn P w K tg (Its x) [it] it (fun i h => h.IsStrIter it ty x t i) where
  mem := by simp
  obj := fun i h st b hb => by
    have e : b = it := by simpa using hb
    subst e
    obtain ⟨o, e, c, d⟩ := st
    exact ⟨o, e, fun v z => by rw [d] at z; cases z⟩
  keep := fun i h h' st k => by
    obtain ⟨o, ho, r⟩ := st
    exact ⟨o, k it (by simp) o ho, r⟩
  item := by
    intro X hP hw hK hc i pins s σ H E I hf st hg
    subst hP hw hK
    obtain ⟨f0, f1, f2, f3, f4, f5⟩ := hf it (by simp)
    have hg' : i < x.cps.size := hg
    have hx : x.cps[i]? = some x.cps[i] := by simp [hg']
    rcases hty with rfl | rfl
    . refine wpAny_pyNext_ascii_item st hx fun h' st' sb => ?_
      have I1 : Inv X pins σ H { s with heap := h', toks := s.toks + 1 } := I.turned (t' := s.toks + 1) (fun b o hb e => (sb.2 b hb).trans e) f0 f1 f3 f4 f5
      obtain ⟨o, e, c, d⟩ := id st'
      exact ⟨_, rfl, go_of (s := { s with heap := h', toks := s.toks + 1 }) e c d (by decide) ⟨.str ⟨#[x.cps[i]]⟩, H, I1, ⟨_, rfl⟩, ⟨rfl, _, hx, rfl⟩, st', fun b hb => (hf b hb).1⟩⟩
    . refine wpAny_pyNext_wide_item st hx fun h' st' sb => ?_
      have I1 : Inv X pins σ H { s with heap := h', toks := s.toks + 1 } := I.turned (t' := s.toks + 1) (fun b o hb e => (sb.2 b hb).trans e) f0 f1 f3 f4 f5
      obtain ⟨o, e, c, d⟩ := id st'
      exact ⟨_, rfl, go_of (s := { s with heap := h', toks := s.toks + 1 }) e c d (by decide) ⟨.str ⟨#[x.cps[i]]⟩, H, I1, ⟨_, rfl⟩, ⟨rfl, _, hx, rfl⟩, st', fun b hb => (hf b hb).1⟩⟩
  done := by
    intro X hP hw hK hc i pins s σ H E I hf st hg
    subst hP hw hK
    obtain ⟨f0, f1, f2, f3, f4, f5⟩ := hf it (by simp)
    have hg' : x.cps.size <= i := hg
    rcases hty with rfl | rfl
    . exact wpAny_pyNext_ascii_end (I.ok.hd hc) st (by simp [hg']) fun h' eb => ⟨rfl, I.turned (t' := s.toks) (fun b o hb e => eb b o hb e) f0 f1 f3 f4 f5⟩
    . exact wpAny_pyNext_wide_end (I.ok.hd hc) st (by simp [hg']) fun h' eb => ⟨rfl, I.turned (t' := s.toks) (fun b o hb e => eb b o hb e) f0 f1 f3 f4 f5⟩
  self := fun _ _ _ _ _ st h => by
    rcases hty with rfl | rfl
    . exact wpAny_pyIter_striter_ascii st h
    . exact wpAny_pyIter_striter_wide st h
def iStr (tl : TE) : TI := fun σ H R => tl σ H fun x H1 => ∃ z, x = .str z /\ R (Its z) H1
theorem r_iStr {te : TE} {σ : St} {H : Hp} {Z : It -> Hp -> Prop} : iStr te σ H Z = te σ H fun x H1 => ∃ z, x = .str z /\ Z (Its z) H1 := rfl
theorem pi_str {X : Cx} {tg : Expr} {l : Expr} {tl : TE} (hl : PE X l tl) : PI X tg l (iStr tl) := by
  intro pins s σ H R I h
  refine thn (hl pins s σ H _ I h) fun v s1 ⟨x, H1, I1, r1, q1⟩ => ?_
  obtain ⟨z, e, q⟩ := q1
  subst e
  obtain ⟨t, rfl⟩ := r1
  have hb : ∀ b ∈ [s1.heap.objs.size], FpOk X pins H1 b := fun b hb => by
    have e : b = s1.heap.objs.size := by simpa using hb
    subst e
    exact I1.fpOk (Nat.le_refl _) (I1.hok.fresh (Nat.le_refl _))
  cases ha : z.cps.all (· < 128)
  . exact wpAny_pyIter_wide ha ⟨s1.heap.objs.size, [s1.heap.objs.size], _, _, H1, rfl, I1.kept (t' := s1.toks) fun b o e => Heap.get?_push_of_some _ e, turn_str "str_iterator" (.inr rfl) z t _, ⟨_, Heap.get?_push_size _ rfl, rfl, rfl⟩, hb, q⟩
  . exact wpAny_pyIter_ascii ha ⟨s1.heap.objs.size, [s1.heap.objs.size], _, _, H1, rfl, I1.kept (t' := s1.toks) fun b o e => Heap.get?_push_of_some _ e, turn_str "str_ascii_iterator" (.inl rfl) z t _, ⟨_, Heap.get?_push_size _ rfl, rfl, rfl⟩, hb, q⟩
theorem compTx {z : Str} {cp : Caps} {g : TG} {tc : TT} {te : TE} {Q : VK} {σ : St} {H : Hp} (Pv : Nat -> List V -> St -> Hp -> Prop) (h0 : Pv 0 [] (cp.st σ) H) (hz : z.cps.size < sizeLine)
    (hl : ∀ i ys σ H, i <= z.cps.size -> Pv i ys σ H -> ys.length <= i)
    (hs : ∀ i c ys σ H, z.cps[i]? = some c -> Pv i ys σ H -> g (.str ⟨#[c]⟩) σ H fun σ2 H2 => tc σ2 H2 fun b H3 => if b = true then te σ2 H3 fun v H4 => Pv (i + 1) (ys ++ [v]) σ2 H4 else Pv (i + 1) ys σ2 H3)
    (hd : ∀ ys σ H, Pv z.cps.size ys σ H -> ∀ D, H D = none -> Q (.ref D) (upd H D (.lst ys))) : CompW (Its z) cp g tc te σ H Q := by
  refine ⟨fun i m ys σ H => m = z.cps.size - i /\ i <= z.cps.size /\ Pv i ys σ H, ⟨z.cps.size, by simp, Nat.zero_le _, h0⟩, ?_⟩
  rintro i m ys σ H ⟨rfl, hi, p⟩
  have ly := hl i ys σ H hi p
  refine ⟨by omega, ?_⟩
  by_cases hlt : i < z.cps.size
  . refine .inr ⟨hlt, Pv (i + 1), fun zs σ' H' p' => ⟨z.cps.size - (i + 1), by omega, rfl, hlt, p'⟩, fun x H' y => ?_⟩
    obtain ⟨rfl, c, hc, rfl⟩ := y
    exact hs i c ys σ _ hc p
  . have e : i = z.cps.size := by omega
    subst e
    exact .inl ⟨Nat.le_refl _, hd ys σ H p⟩
theorem strs_are : ∀ {ys : List Str} {us : List Value}, Vals (ys.map V.str) us -> StrsAre us ys
  | [], us, r => by cases r; exact .nil
  | y :: ys, us, r => by
    cases r with
    | cons a b =>
      obtain ⟨t, rfl⟩ := a
      exact .cons y t (strs_are b)
def rSJoin (K : PySem.W.Frag) : V -> List V -> Hp -> VK -> Prop := fun x xs H Q => ∃ z l ys, x = .str z /\ xs = [.ref l] /\ SqL K H l (ys.map V.str) /\ z.length <= 16 /\ (ys.map (·.length)).sum + ys.length <= 1048576 /\ Q (.str (Txt.join z ys)) H
theorem mt_sjoin {X : Cx} : MtR X "str.join" (rSJoin X.K) := by
  intro pins s σ H x xs v us Q I rx rv h
  obtain ⟨z, l, ys, rfl, rfl, hl, hz, hw, q⟩ := h
  obtain ⟨t, rfl⟩ := rx
  obtain ⟨u, rfl, ry⟩ := vals1 rv
  cases ry
  obtain ⟨its, r, p, hh⟩ := I.list hl
  exact join_listW p.isList (by simpa using strs_are r) hz hw fun t' k => ⟨.str _, H, I.tok _, ⟨_, rfl⟩, q⟩
def rSlS : V -> Option Int -> Option Int -> Hp -> VK -> Prop := fun x lo hi H Q => ∃ z, x = .str z /\ z.length <= sizeLine /\ Q (.str (Txt.slice z lo hi)) H
theorem sl_str {X : Cx} : SlR X rSlS := by
  intro pins s σ H x v vl vu lo hi sl Q I rx hs pl pu h
  obtain ⟨z, rfl, hz, q⟩ := h
  obtain ⟨t, rfl⟩ := rx
  refine ⟨"str", _, F.slot_str_getitem.lookup, typeIs_str _ _ _, ?_⟩
  cases pl with
  | none =>
    cases pu with
    | none => exact wpAny_getItem_str_slice (l := none) (u := none) (st := none) hs rfl (post_val_or_str ⟨Nat.le_trans (Txt.slice_le z _ _) hz, fun t' k => ⟨.str _, H, I.tok _, ⟨_, rfl⟩, q⟩⟩)
    | int j u => exact wpAny_getItem_str_slice (l := none) (u := some (j, u)) (st := none) hs rfl (post_val_or_str ⟨Nat.le_trans (Txt.slice_le z _ _) hz, fun t' k => ⟨.str _, H, I.tok _, ⟨_, rfl⟩, q⟩⟩)
  | int i w =>
    cases pu with
    | none => exact wpAny_getItem_str_slice (l := some (i, w)) (u := none) (st := none) hs rfl (post_val_or_str ⟨Nat.le_trans (Txt.slice_le z _ _) hz, fun t' k => ⟨.str _, H, I.tok _, ⟨_, rfl⟩, q⟩⟩)
    | int j u => exact wpAny_getItem_str_slice (l := some (i, w)) (u := some (j, u)) (st := none) hs rfl (post_val_or_str ⟨Nat.le_trans (Txt.slice_le z _ _) hz, fun t' k => ⟨.str _, H, I.tok _, ⟨_, rfl⟩, q⟩⟩)
section
variable {K : PySem.W.Frag} {x : V} {xs : List V} {lo hi : Option Int} {H : Hp} {Q : VK}
theorem r_sjoin : rSJoin K x xs H Q = ∃ z l ys, x = .str z /\ xs = [.ref l] /\ SqL K H l (ys.map V.str) /\ z.length <= 16 /\ (ys.map (·.length)).sum + ys.length <= 1048576 /\ Q (.str (Txt.join z ys)) H := rfl
theorem r_ixS {y : V} : rIxS x y H Q = ∃ z i c, x = .str z /\ y = .int i /\ z.length <= sizeLine /\ atI z.cps.toList i = some c /\ Q (.str ⟨#[c]⟩) H := rfl
theorem r_slS : rSlS x lo hi H Q = ∃ z, x = .str z /\ z.length <= sizeLine /\ Q (.str (Txt.slice z lo hi)) H := rfl
end
theorem pe_gcS {X : Cx} {x : Str} {z : Str} {pos : Pos} (hg : Gl X x) (hm : ∃ t, X.mg x = some (.str z t)) (hd : (x == ("__debug__" : Str)) = false := by decide) : PE X (.Name x pos) (tC (.str z)) := by
  obtain ⟨t, hm⟩ := hm
  exact pe_glob hg hm ⟨_, rfl⟩ hd
end L2
set_option Elab.async false
set_option linter.all false
set_option maxRecDepth 100000
set_option maxHeartbeats 4000000
namespace L2
open PySem PySem.W PySem.Spec PySem.Calls PyProof.Rows
end L2
namespace L2
open PySem PySem.W PySem.Spec PySem.Calls PyProof.Rows
end L2
namespace L2
open PySem
section
variable {prog : Program} {w : World} {κ : Type} [DecidableEq κ] {knd : HeapKind prog w κ} {A : Around} {E : Value -> Shared -> Prop} {s : Shared}
end
end L2
namespace L2
open PySem PySem.W PySem.Spec PySem.Calls PyProof.Rows
end L2
set_option Elab.async false
set_option linter.all false
set_option maxRecDepth 100000
namespace L2
section
variable {α : Type} [DecidableEq α]
def ins1 (acc : List α) (x : α) : List α := if x ∈ acc then acc else acc ++ [x]
def firstsA (acc row : List α) : List α := row.foldl ins1 acc
def firsts (row : List α) : List α := firstsA [] row
def num (row : List α) : List Int := row.map fun x => ((firsts row).idxOf x : Int)
def ncl (row : List α) : Nat := (firsts row).length
end
def rowB (n : Nat) (b : List Int -> Nat -> Int) (w : List Int) : List Int := (List.range n).map (b w)
section
variable {L : Int} {n : Nat} {b : List Int -> Nat -> Int} {words : List (List Int)} {c : List Int} {w : List Int} {x : Int}
end
abbrev StC := List (List Int) × List Int
def stepC (n : Nat) (b : List Int -> Nat -> Int) (w : List Int) (st : StC) (x : Nat) : StC := if ncl st.2 < ncl (st.2.zip (rowB n b ((x : Int) :: w))) then (st.1 ++ [(x : Int) :: w], num (st.2.zip (rowB n b ((x : Int) :: w)))) else st
def innerC (n : Nat) (b : List Int -> Nat -> Int) (w : List Int) (L : Nat) (st : StC) : StC := (List.range L).foldl (stepC n b w) st
def outerC (n : Nat) (b : List Int -> Nat -> Int) (L : Nat) : Nat -> Nat -> StC -> StC
  | 0, _, st => st
  | f + 1, k, st => if k < st.1.length then outerC n b L f (k + 1) (innerC n b (st.1.getD k []) L st) else st
section
variable {n L : Nat} {b : List Int -> Nat -> Int} {w : List Int} {st : StC}
def wcOf (n L : Nat) (b : List Int -> Nat -> Int) : StC := outerC n b L 41 0 ([[]], num (rowB n b []))
end
end L2
set_option Elab.async false
set_option linter.all false
set_option maxRecDepth 100000
set_option maxHeartbeats 4000000
namespace L2
open PySem PySem.W PySem.Spec PySem.Calls PyProof.Rows
end L2
set_option Elab.async false
set_option linter.all false
set_option maxRecDepth 100000
namespace L2
open GW GB
def bW (marks : List Int) (ways : List (List Int)) (w : List Int) (r : Nat) : Int := marks.getD (walkR ways (r : Int) w).toNat 0
def cf (c : List Int) (r : Int) : Int := c.getD r.toNat 0
def hm (c R : List Int) (r : Int) : Int := (((firsts (R.map (cf c))).idxOf (cf c r) : Nat) : Int)
def hrow (c R : List Int) (ways : List (List Int)) (r : Int) : List Int := (ways.getD r.toNat []).map (hm c R)
section
variable {L : Nat} {marks : List Int} {ways : List (List Int)}
end
def cOf (L : Nat) (marks : List Int) (ways : List (List Int)) : List Int := (wcOf marks.length L (bW marks ways)).2
def rOf (ways : List (List Int)) : List Int := (wordsIn ways).map (·.1)
def hO (L : Nat) (marks : List Int) (ways : List (List Int)) (r : Int) : Int := hm (cOf L marks ways) (rOf ways) r
section
variable {L : Nat} {marks : List Int} {ways : List (List Int)}
def wi (ways : List (List Int)) (r : Int) : List Int := (((wordsIn ways).find? fun e => decide (e.1 = r)).map (·.2)).getD []
end
section
variable {L : Nat} {m1 m2 : List Int} {w1 w2 : List (List Int)}
end
end L2
set_option Elab.async false
set_option linter.all false
set_option maxRecDepth 100000
set_option maxHeartbeats 4000000
namespace L2
open PySem PySem.Spec PyProof.Rows GW GB
end L2
set_option Elab.async false
set_option linter.all false
set_option maxRecDepth 100000
set_option maxHeartbeats 1000000
namespace L2
open PySem PySem.Spec PyProof.Rows
theorem vals_strs : ∀ {l : List (Str × Tok)} {ys : List Str}, l.map (·.1) = ys -> Vals (ys.map V.str) (strValues l)
  | [], _, rfl => .nil
  | (x, t) :: l, _, rfl => .cons ⟨t, rfl⟩ (vals_strs rfl)
def rSplit : V -> List V -> Hp -> VK -> Prop := fun x xs H Q => ∃ z y, x = .str z /\ xs = [.str y] /\ (y.length == 0) = false /\ z.length <= 900000 /\ ∀ l, H l = none -> Q (.ref l) (upd H l (.lst ((Txt.split z y).map V.str)))
theorem r_split {x : V} {xs : List V} {H : Hp} {Q : VK} : rSplit x xs H Q = ∃ z y, x = .str z /\ xs = [.str y] /\ (y.length == 0) = false /\ z.length <= 900000 /\ ∀ l, H l = none -> Q (.ref l) (upd H l (.lst ((Txt.split z y).map V.str))) := rfl
theorem mt_ssplit {X : Cx} : MtR X "str.split" rSplit := by
  intro pins s σ H x xs v us Q I rx rv h
  obtain ⟨z, y, rfl, rfl, hy, hz, q⟩ := h
  obtain ⟨t, rfl⟩ := rx
  obtain ⟨w', rfl, ry⟩ := vals1 rv
  obtain ⟨u, rfl⟩ := ry
  have hl := line1000
  have hf : H s.heap.objs.size = none := I.hok.fresh (Nat.le_refl _)
  have hp : (Builtin.Str.partsBetween z (Builtin.Str.occurrences z y 0 z.length (z.length + 1)) y.length).length <= sizeLine := by
    rw [PyProof.Rows.len_partsBetween]
    have := StrLaws.occ_length_le z y 0 z.length (z.length + 1)
    omega
  have fin : ∀ (l : List (Str × Tok)) (k : Nat), l.map (·.1) = Txt.split z y -> l.length <= sizeLine -> EP X pins σ Q (.ref s.heap.objs.size) { s with heap := s.heap.push { cls := .type "list", data := .seq (strValues l).toArray }, toks := k } := fun l k e hll =>
    ⟨.ref s.heap.objs.size, upd H s.heap.objs.size (.lst ((Txt.split z y).map V.str)), I.laid (t' := k) (fun b u e => Heap.get?_push_of_some _ e) (Nat.le_refl _) ⟨by rw [List.length_map, <- e, List.length_map]; exact hll, strValues l, 0, vals_strs e, Heap.get?_push_size _ rfl⟩, rfl, q _ hf⟩
  cases h1 : (decide (z.length < y.length) || decide (Builtin.Str.strKind z < Builtin.Str.strKind y))
  . cases hf : (Builtin.Str.occurrences z y 0 z.length (z.length + 1)).isEmpty
    . refine call_meets F.slot_str_split (typeIs_str _ _ _) F.entry_str_split (F.args_str_split_2 _ _) (meets_str_split_sep z y t u h1 hy hf (by omega) hp) ?_
      show wants _ _ _ { s with toks := _, heap := s.heap.push { cls := .type "list", data := .seq (strsFrom s.toks (Builtin.Str.partsBetween z (Builtin.Str.occurrences z y 0 z.length (z.length + 1)) y.length)).toArray } }
      rw [strsFrom_eq]
      exact fin (numbered s.toks _) _ ((numbered_texts _ _).trans ((if_neg (ne_true_of_eq_false h1)).trans (if_neg (ne_true_of_eq_false hf))).symm) (by
        have := congrArg List.length (numbered_texts s.toks (Builtin.Str.partsBetween z (Builtin.Str.occurrences z y 0 z.length (z.length + 1)) y.length))
        rw [List.length_map] at this
        rw [this]; exact hp)
    . exact call_meets F.slot_str_split (typeIs_str _ _ _) F.entry_str_split (F.args_str_split_2 _ _) (meets_str_split_not_found z y t u h1 hy hf)
        (fin [(z, t)] s.toks ((if_neg (ne_true_of_eq_false h1)).trans (if_pos hf)).symm (by show 1 <= sizeLine; omega))
  . exact call_meets F.slot_str_split (typeIs_str _ _ _) F.entry_str_split (F.args_str_split_2 _ _) (meets_str_split_cannot_occur z y t u h1)
      (fin [(z, t)] s.toks (if_pos h1).symm (by show 1 <= sizeLine; omega))
def nt (n : Int) : Str := Str.ofString (toString n)
theorem call_strI {X : Cx} : CallR X (.type "str") (fun xs H Q => ∃ i : Int, xs = [.int i] /\ 0 <= i /\ i < 10 ^ 10 /\ Q (.str (nt i)) H) := by
  intro pins s σ H xs us Q I r h
  obtain ⟨i, rfl, h0, h1, q⟩ := h
  obtain ⟨u, rfl, t, rfl⟩ := vals1 r
  refine P.str_of_int ?_ ⟨.str (nt i), H, I.tok _, ⟨_, rfl⟩, q⟩
  by_cases hz : i.natAbs = 0
  . rw [hz]; decide
  . have := (Nat.log2_lt hz (k := 34)).mpr (by have : (2 : Nat) ^ 34 = 17179869184 := by decide
                                               omega)
    omega
theorem call_intS {X : Cx} : CallR X (.type "int") (fun xs H Q => ∃ i : Int, xs = [.str (nt i)] /\ 0 <= i /\ i < 10 ^ 10 /\ Q (.int i) H) := by
  intro pins s σ H xs us Q I r h
  obtain ⟨i, rfl, h0, h1, q⟩ := h
  obtain ⟨u, rfl, t, rfl⟩ := vals1 r
  exact PySem.W.KIN.call_num h0 h1 ⟨.int i, H, I.tok _, ⟨_, rfl⟩, q⟩
def jn (c : Nat) : List (List Nat) -> List Nat
  | [] => []
  | [p] => p
  | p :: q :: r => p ++ c :: jn c (q :: r)
theorem join_jn (c : Nat) : ∀ ps : List Str, (Str.join ⟨#[c]⟩ ps).cps.toList = jn c (ps.map (·.cps.toList))
  | [] => rfl
  | [p] => rfl
  | p :: q :: r => by
    show (p ++ (⟨#[c]⟩ : Str) ++ Str.join ⟨#[c]⟩ (q :: r)).cps.toList = _
    rw [Str.cps_append, Str.cps_append, Array.toList_append, Array.toList_append, join_jn c (q :: r)]
    simp [jn]
theorem occ_allA (x : Str) (c limit : Nat) : ∀ (n a : Nat) (st : Array Nat × Nat), st.snd <= a -> st.fst.size + n <= limit -> (forIn (List.range' a n) st (StrLaws.occBody x ⟨#[c]⟩ x.length limit)).run.fst.toList = st.fst.toList ++ (List.range' a n).filter (fun i => decide (x.cps.toList[i]? = some c))
  | 0, a, st, _, _ => by simp
  | n + 1, a, st, h1, h2 => by
    rw [List.range'_succ, List.forIn_cons]
    unfold StrLaws.occBody
    by_cases hc : x.cps.toList[a]? = some c
    . have hs := (StrLaws.subAt_one x c a).mpr hc
      rw [if_pos ⟨⟨⟨by omega, h1⟩, hs.1⟩, hs.2⟩]
      have := occ_allA x c limit n (a + 1) (st.fst.push a, a + 1) (Nat.le_refl _) (by rw [Array.size_push]; omega)
      unfold StrLaws.occBody at this
      refine Eq.trans this ?_
      rw [Array.toList_push, List.filter_cons_of_pos (by simpa using hc), List.append_assoc]; rfl
    . rw [if_neg (fun z => hc ((StrLaws.subAt_one x c a).mp ⟨z.1.2, z.2⟩))]
      have := occ_allA x c limit n (a + 1) st (by omega) (by omega)
      unfold StrLaws.occBody at this
      refine Eq.trans this ?_
      rw [List.filter_cons_of_neg (by simpa using hc)]
theorem occ_all (x : Str) (c : Nat) : Builtin.Str.occurrences x ⟨#[c]⟩ 0 x.length (x.length + 1) = (List.range' 0 (x.length + 1)).filter (fun i => decide (x.cps.toList[i]? = some c)) := by
  rw [StrLaws.occ_eq, occ_allA x c _ _ 0 (#[], 0) (Nat.le_refl _) (by simp)]
  simp
theorem sub_free {x : Str} {c a b : Nat} (h : ∀ i, a <= i -> i < b -> x.cps.toList[i]? ≠ some c) : c ∉ (Builtin.Str.strSub x a b).cps.toList := fun hm => by
  rw [StrLaws.strSub_toList] at hm
  obtain ⟨i, hi⟩ := List.mem_iff_getElem?.mp hm
  rw [List.getElem?_take] at hi
  split at hi
  . rw [List.getElem?_drop] at hi
    exact h (a + i) (by omega) (by omega) hi
  . cases hi
theorem parts_free (x : Str) (c : Nat) : ∀ (n a : Nat), a + n = x.length + 1 -> ∀ b, b <= a -> (∀ i, b <= i -> i < a -> x.cps.toList[i]? ≠ some c) -> ∀ p ∈ StrLaws.partsFrom x 1 b ((List.range' a n).filter (fun i => decide (x.cps.toList[i]? = some c))), c ∉ p.cps.toList
  | 0, a, e, b, hb, hf, p, hp => by
    have hp : p = Builtin.Str.strSub x b x.length := by simpa [StrLaws.partsFrom] using hp
    rw [hp]
    exact sub_free fun i h1 h2 => hf i h1 (by omega)
  | n + 1, a, e, b, hb, hf, p, hp => by
    rw [List.range'_succ] at hp
    by_cases hc : x.cps.toList[a]? = some c
    . rw [List.filter_cons_of_pos (by simpa using hc)] at hp
      rcases List.mem_cons.mp (show p ∈ Builtin.Str.strSub x b a :: StrLaws.partsFrom x 1 (a + 1) ((List.range' (a + 1) n).filter (fun i => decide (x.cps.toList[i]? = some c))) from hp) with rfl | hp
      . exact sub_free hf
      . exact parts_free x c n (a + 1) (by omega) (a + 1) (Nat.le_refl _) (fun i h1 h2 => by omega) p hp
    . rw [List.filter_cons_of_neg (by simpa using hc)] at hp
      refine parts_free x c n (a + 1) (by omega) b (by omega) (fun i h1 h2 => ?_) p hp
      by_cases e : i = a
      . rw [e]; exact hc
      . exact hf i h1 (by omega)
theorem split_free (x : Str) (c : Nat) (hk : Builtin.Str.strKind ⟨#[c]⟩ <= Builtin.Str.strKind x \/ c ∉ x.cps.toList) : ∀ p ∈ Txt.split x ⟨#[c]⟩, c ∉ p.cps.toList := by
  have hn : x.cps.toList.length = x.length := by simp [Str.length]
  intro p hp
  unfold Txt.split at hp
  split at hp
  . rename_i h
    rw [List.mem_singleton.mp hp]
    rw [Bool.or_eq_true, decide_eq_true_eq, decide_eq_true_eq] at h
    rcases h with h | h
    . have : x.length = 0 := by have h' : x.length < 1 := h; omega
      intro z
      have := List.length_pos_of_mem z
      omega
    . rcases hk with hk | hk
      . omega
      . exact hk
  . rw [occ_all] at hp
    split at hp
    . rename_i h
      rw [List.mem_singleton.mp hp]
      intro z
      obtain ⟨i, hi⟩ := List.mem_iff_getElem?.mp z
      have hil := (List.getElem?_eq_some_iff.mp hi).1
      have : i ∈ (List.range' 0 (x.length + 1)).filter (fun i => decide (x.cps.toList[i]? = some c)) := List.mem_filter.mpr ⟨by simp [List.mem_range']; omega, by simpa using hi⟩
      rw [List.isEmpty_iff.mp h] at this
      cases this
    . rw [StrLaws.partsBetween_eq] at hp
      exact parts_free x c (x.length + 1) 0 (by omega) 0 (Nat.le_refl _) (fun i h1 h2 => by omega) p hp
theorem split_ne (x y : Str) : Txt.split x y ≠ [] := by
  unfold Txt.split
  split
  . simp
  . split
    . simp
    . intro z
      have := congrArg List.length z
      rw [PyProof.Rows.len_partsBetween] at this
      simp at this
theorem kind_one {c : Nat} (hc : c < 128) (x : Str) : Builtin.Str.strKind ⟨#[c]⟩ <= Builtin.Str.strKind x := by
  have e : Builtin.Str.strKind ⟨#[c]⟩ = 1 := by
    unfold Builtin.Str.strKind
    rw [if_pos]
    simp; omega
  rw [e]
  unfold Builtin.Str.strKind
  split
  . exact Nat.le_refl _
  . split <;> decide
theorem nt_signs {m : Nat} : (nt (m : Int)).cps.toList = (Nat.toDigits 10 m).map Char.toNat := PySem.W.KIN.signs_num m
theorem dig_ne (m : Nat) : Nat.toDigits 10 m ≠ [] := Nat.toDigits_ne_nil
theorem nt_len {n : Int} (h0 : 0 <= n) (h1 : n < 10 ^ 10) : 1 <= (nt n).length /\ (nt n).length <= 10 := by
  refine ⟨?_, PySem.W.KT.len_num h0 h1⟩
  obtain ⟨m, rfl⟩ := Int.eq_ofNat_of_zero_le h0
  have e : (nt (m : Int)).cps.toList.length = (nt (m : Int)).length := by simp [Str.length]
  rw [<- e, nt_signs, List.length_map]
  exact List.length_pos_iff.mpr (dig_ne _)
theorem nt_zero : nt 0 = ⟨#[48]⟩ := by decide +kernel
end L2
set_option Elab.async false
set_option linter.all false
set_option maxRecDepth 100000
set_option maxHeartbeats 1000000
namespace L2
open PySem PySem.Spec PyProof.Rows
end L2
set_option Elab.async false
set_option linter.all false
set_option maxRecDepth 100000
set_option maxHeartbeats 4000000
namespace PySem
open Sem (wp)
namespace F
end F
section
variable {prog : Program} {w : World} {A : Around} {E : Value -> Shared -> Prop} {s : Shared}
end
section
open PyProof.Rows
variable {prog : Program} {w : World} {A : Around} {E : Value -> Shared -> Prop} {s : Shared}
end
end PySem
namespace L2
open PySem PySem.Spec PyProof.Rows
section
variable {X : Cx}
end
end L2
set_option Elab.async false
set_option linter.all false
set_option maxRecDepth 100000
set_option maxHeartbeats 4000000
namespace PySem
section
variable {prog : Program} {w : World} {A : Around} {R : Result -> Shared -> Prop} {I : Addr} {fp wr : List Addr} {n : Nat} {P : Nat -> Value -> Prop} {St : Nat -> Heap -> Prop} {d : Int} {td : Tok}
end
end PySem
set_option Elab.async false
set_option linter.all false
set_option maxRecDepth 100000
set_option maxHeartbeats 4000000
namespace L2
open PySem PySem.Spec PyProof.Rows
section
variable {X : Cx} {pins : List (Addr × Obj)} {σ : St} {H : Hp} {s : Shared} {a : Addr}
end
section
variable {σ : St} {H : Hp} {Q : VK} {K : PySem.W.Frag}
end
section
variable {a : Addr} {n : Int} {b : Bool}
end
end L2
set_option Elab.async false
set_option linter.all false
set_option maxRecDepth 100000
set_option maxHeartbeats 4000000
namespace L2
open PySem PySem.Spec PyProof.Rows
end L2
set_option Elab.async false
set_option linter.all false
set_option maxRecDepth 100000
set_option maxHeartbeats 1000000
namespace L2
open PySem PySem.W PySem.Spec PySem.Calls PyProof.Rows
section
variable {X : Cx} {es : List Expr} {t : TA}
theorem pa_consS {x : Str} {j} {p : Pos} (hr : PA X es t) : PA X (.Constant (.str x) j p :: es) (tCons (tC (.str x)) t) := pa_cons pe_str hr rfl
end
end L2
set_option Elab.async false
set_option linter.all false
set_option maxRecDepth 100000
set_option maxHeartbeats 4000000
namespace PySem.W
open PySem PySem.Calls PyProof.Rows PyProof.V PySem.Spec
section
variable {prog : Program} {w : World} {A : Around} {E : Value -> Shared -> Prop} {s : Shared} {r d : Addr} {es : Array DictEntry} {ep : Nat} {od : Obj}
end
section
variable {prog : Program} {w : World} {r d : Addr} {es : Array DictEntry} {ep : Nat} {od : Obj}
end
end PySem.W
set_option Elab.async false
set_option linter.all false
set_option maxRecDepth 100000
set_option maxHeartbeats 4000000
namespace L2
open PySem PySem.Spec PyProof.Rows
end L2
set_option Elab.async false
set_option linter.all false
set_option maxRecDepth 100000
set_option maxHeartbeats 4000000
namespace L2
open PySem PySem.Spec PyProof.Rows
end L2
set_option Elab.async false
set_option linter.all false
namespace L2
open PySem PySem.Spec PyProof.Rows
end L2
set_option Elab.async false
set_option linter.all false
set_option maxRecDepth 100000
set_option maxHeartbeats 4000000
namespace PySem
open Sem (wp)
namespace Heap
def TracedAtQ (h base : Heap) (e : Addr) (cls a0 cx fl : Value) : Prop :=
  ∃ oe vs T oT ts, h.get? e = some oe /\ (oe.cls = cls /\ (vs[0]? = some a0 /\ vs[2]? = some cx)) /\ oe.data = .fields vs /\ vs[1]? = some (.ref T) /\ base.get? T = none /\ T ≠ e /\ h.get? T = some oT /\ oT.data = .fields ts /\ ts[3]? = some fl
def TracedQ (h base : Heap) (e : Addr) (cls a0 cx : Value) : Prop := h.TracedAtQ base e cls a0 cx .none
def FlyingQ (base : Heap) (l : List Env) (e : Addr) (cls a0 cx : Value) (h : Heap) : Prop := base.StaysIn h /\ base.get? e = none /\ h.FunFrames base l /\ h.TracedQ base e cls a0 cx
def HeldQ (base : Heap) (l : List Env) (e : Addr) (cls a0 cx : Value) (L : Addr) (h : Heap) : Prop := base.StaysIn h /\ base.get? e = none /\ h.FunFrames base l /\ h.TracedAtQ base e cls a0 cx (rawInt L)
section
variable {h base : Heap} {l : List Env} {e L : Addr} {cls a0 cx fl : Value}
theorem TracedAtQ.w (x : h.TracedAtQ base e cls a0 cx fl) : h.TracedAtW base e cls a0 fl := by obtain ⟨oe, vs, T, oT, ts, g, c, r⟩ := x; exact ⟨oe, vs, T, oT, ts, g, ⟨c.1, c.2.1⟩, r⟩
theorem FlyingQ.w (x : FlyingQ base l e cls a0 cx h) : FlyingW base l e cls a0 h := ⟨x.1, x.2.1, x.2.2.1, x.2.2.2.w⟩
theorem FlyingQ.there (x : FlyingQ base l e cls a0 cx h) : ∃ ob, h.get? e = some ob /\ ob.cls = cls := x.w.there
theorem TracedAtW.q {oe : Obj} {vs : Array Value} (x : h.TracedAtW base e cls a0 fl) (g : h.get? e = some oe) (d : oe.data = .fields vs) (c : vs[2]? = some cx) : h.TracedAtQ base e cls a0 cx fl := by
  obtain ⟨oe', vs', T, oT, ts, g', c', d', r⟩ := x
  cases g.symm.trans g'
  cases d.symm.trans d'
  exact ⟨oe, vs, T, oT, ts, g, ⟨c'.1, c'.2, c⟩, d, r⟩
end
end Heap
section
variable {M : Model} {A : Around} {E : Value -> Shared -> Prop} {s : Shared} {base : Heap} {env : Env} {outer l : List Env} {L e : Addr} {cls a0 cx fl : Value}
theorem entered {oe : Obj} {vs : Array Value} {head : Value} {b : Bool} {Q : Unit -> Shared -> Prop} (hfr : A.frames = some (env :: outer)) (hl : s.heap.FunFrames base (env :: outer)) (hf : env.frame = some L) (g : s.heap.get? e = some oe) (kb : base.StaysIn s.heap) (en : base.get? e = none)
    (d : oe.data = .fields vs) (z : 1 < vs.size) (c : oe.cls = cls /\ (vs[0]? = some a0 /\ vs[2]? = some cx))
    (h : ∀ h', base.StaysIn h' -> h'.FunFrames base (env :: outer) -> h'.TracedAtQ base e cls a0 cx (rawInt L) -> s.heap.UpToSlots h' -> Q () { s with heap := h' }) :
    wpAny M A (do let a <- frameOf env; let pl <- entryPlaceOf L b; let n <- EntryCells.newEntry head a .none (rawInt L) .none pl; setField (.ref e) 1 n) Q E s := by
  have out : e ∉ (env :: outer).filterMap (·.frame) := fun m => by
    obtain ⟨_, o, g', n⟩ := hl.mem m
    cases g.symm.trans g'
    exact n vs d
  have rec_ : ∀ {a o}, s.heap.get? a = some o -> (∀ v, o.data ≠ .fields v) -> a ≠ e := fun q n r => by subst r; cases g.symm.trans q; exact n vs d
  refine wpAny_bind (wpAny_frameOf_fun hfr hl hf fun h1 s1 => wpAny_bind (wpAny_entryPlaceOf fun pl hp => ?_))
  unfold EntryCells.newEntry newFields
  refine wpAny_bind (wpAny_newObj_type ?_ (hp.sizeOk5 _ _ _ _ _))
  generalize hts : ([head, Value.ref L, Value.none, rawInt L, Value.none] ++ if pl.isEmpty then List.replicate 6 Value.none else pl).toArray = ts
  have e1 : h1.get? e = some oe := (s1.2.1 e out).trans g
  have kb1 : base.StaysIn h1 := fun a o q => (s1.2.1 a fun m => by rw [(hl.mem m).1] at q; cases q).trans (kb a o q)
  have lt := Heap.lt_size e1
  generalize hT : h1.objs.size = T at *
  have gT : (h1.push ⟨.type "traceback", none, .fields ts, #[]⟩).get? T = some ⟨.type "traceback", none, .fields ts, #[]⟩ := hT ▸ Heap.get?_push_size _ rfl
  have up : ∀ {a o}, h1.get? a = some o -> (h1.push ⟨.type "traceback", none, .fields ts, #[]⟩).get? a = some o := fun q => Heap.get?_push_of_some _ q
  have ne : T ≠ e := Nat.ne_of_gt lt
  have far : ∀ {a o}, a ≠ e -> (h1.push ⟨.type "traceback", none, .fields ts, #[]⟩).get? a = some o -> ((h1.push ⟨.type "traceback", none, .fields ts, #[]⟩).update e (Obj.mapFields (·.setIfInBounds 1 (.ref T)))).get? a = some o := fun n q => (Heap.get?_update_other _ _ n.symm).trans q
  have dd := Obj.data_mapFields d (·.setIfInBounds 1 (.ref T))
  have slots : ∀ a o, s.heap.get? a = some o -> (∀ v, o.data ≠ .fields v) -> ∃ sl, ((h1.push ⟨.type "traceback", none, .fields ts, #[]⟩).update e (Obj.mapFields (·.setIfInBounds 1 (.ref T)))).get? a = some { o with slots := sl } := fun a o q n => by
    obtain ⟨sl, q'⟩ := s1.2.2 a o q
    exact ⟨sl, far (rec_ q n) (up q')⟩
  refine wpAny_setField (up e1) d z (h _ (fun a o q => far (fun r => by subst r; cases en.symm.trans q) (up (kb1 a o q))) (hl.of_keeps fun a o q n => ?_) ⟨_, _, T, _, ts, Heap.get?_update_self _ (up e1) (Obj.isFreed_of_fields dd), ⟨(Obj.cls_mapFields _ _).trans c.1, ?_, ?_⟩, dd, ?_, ?_, ne, far ne gT, rfl, ?_⟩ slots)
  . obtain ⟨sl, q'⟩ := slots a o q n
    exact ⟨_, q', rfl⟩
  . rw [Array.getElem?_setIfInBounds_ne (by decide)]; exact c.2.1
  . rw [Array.getElem?_setIfInBounds_ne (by decide)]; exact c.2.2
  . rw [Array.getElem?_setIfInBounds_self_of_lt z]
  . exact hT ▸ kb1.fresh
  . rw [<- hts]; rfl
theorem setFlightQ {v : Option Addr} {Q : Unit -> Shared -> Prop} (kb : base.StaysIn s.heap) (fr : s.heap.FunFrames base l) (t : s.heap.TracedAtQ base e cls a0 cx fl)
    (h : ∀ h', base.StaysIn h' -> h'.FunFrames base l -> h'.TracedAtQ base e cls a0 cx (v.elim .none fun f => rawInt f) -> s.heap.UpToSlots h' -> Q () { s with heap := h' }) : wpAny M A (setFlight (.ref e) v) Q E s := by
  obtain ⟨T, oe, vs, oT, ts, g1, g2, g3, g4, g5, g6, _, _, up⟩ := L2.retold kb fr t.w
  obtain ⟨u1, u2, u3, u4, u5⟩ := up (v.elim .none fun f => rawInt f)
  have c : vs[2]? = some cx := by
    obtain ⟨oe', vs', _, _, _, q, x, y, _⟩ := t
    cases g1.symm.trans q
    cases g2.symm.trans y
    exact x.2.2
  unfold setFlight
  exact wpAny_bind (wpAny_field g1 g2 g3 (wpAny_setField g4 g5 (Array.getElem?_eq_some_iff.mp g6).1 (h _ u1 u2 (u3.q u5 g2 c) u4)))
theorem noteQ {Q : Unit -> Shared -> Prop} (hfr : A.frames = some (env :: outer)) (hf : env.frame = some L) (x : Heap.FlyingQ base (env :: outer) e cls a0 cx s.heap)
    (h : ∀ h', Heap.HeldQ base (env :: outer) e cls a0 cx L h' -> s.heap.UpToSlots h' -> Q () { s with heap := h' }) : wpAny M A (noteFrame (.ref e) env) Q E s := by
  obtain ⟨kb, en, fr, t⟩ := x
  obtain ⟨T, oe, vs, oT, ts, g1, g2, g3, g4, g5, g6, _, _, up⟩ := L2.retold kb fr t.w
  obtain ⟨u1, u2, _, u4, u5⟩ := up .none
  have c : oe.cls = cls /\ (vs[0]? = some a0 /\ vs[2]? = some cx) := by
    obtain ⟨oe', vs', _, _, _, q, x, y, _⟩ := t
    cases g1.symm.trans q
    cases g2.symm.trans y
    exact x
  unfold noteFrame
  rw [hf]
  refine wpAny_bind (wpAny_field g1 g2 g3 (wpAny_bind (wpAny_field g4 g5 g6 ?_)))
  rw [if_neg (by simp [rawInt])]
  exact wpAny_bind (wpAny_setField g4 g5 (Array.getElem?_eq_some_iff.mp g6).1 (entered hfr u2 hf u5 u1 en g2 (Array.getElem?_eq_some_iff.mp g3).1 c fun h' k1 k2 k3 k4 => h h' ⟨k1, en, k2, k3⟩ (u4.trans k4)))
theorem wpAny_looks_onQ {Q : Unit -> Shared -> Prop} (hfr : A.frames = some (env :: outer)) (hf : env.frame = some L) (hfl : Heap.FlyingQ base (env :: outer) e cls a0 cx s.heap)
    (hQ : ∀ h', Heap.HeldQ base (env :: outer) e cls a0 cx L h' -> s.heap.UpToSlots h' -> Q () { s with heap := h' }) : wpAny M A (noteFrame (.ref e) env) Q E s := noteQ hfr hf hfl hQ
theorem wpAny_landsQ {Q : Unit -> Shared -> Prop} (hh : Heap.HeldQ base l e cls a0 cx L s.heap) (hQ : ∀ h', Heap.FlyingQ base l e cls a0 cx h' -> s.heap.UpToSlots h' -> Q () { s with heap := h' }) : wpAny M A (setFlight (.ref e) none) Q E s :=
  setFlightQ (v := none) hh.1 hh.2.2.1 hh.2.2.2 fun h' k1 k2 k3 k4 => hQ h' ⟨k1, hh.2.1, k2, k3⟩ k4
theorem wpAny_leaves_onQ {Q : Unit -> Shared -> Prop} (hfr : A.frames = some (env :: outer)) (hf : env.frame = some L) (hfl : Heap.FlyingQ base (env :: outer) e cls a0 cx s.heap)
    (hQ : ∀ h', Heap.FlyingQ base outer e cls a0 cx h' -> s.heap.UpToSlots h' -> Q () { s with heap := h' }) : wpAny M A (leaving env (.ref e)) Q E s :=
  wpAny_bind (noteQ hfr hf hfl fun h' x u => wpAny_landsQ x fun h2 y u2 => hQ h2 ⟨y.1, y.2.1, y.2.2.1.2.2, y.2.2.2⟩ (u.trans u2))
theorem wpAny_leaves_madeQ {h : Heap} {args : List Value} {Q : Unit -> Shared -> Prop} (hfr : A.frames = some (env :: outer)) (hf : env.frame = some L) (hkb : base.StaysIn h) (hl : h.FunFrames base (env :: outer)) (hx : Heap.MadeExcOf h s.heap e cls args)
    (hQ : ∀ h' t, Heap.FlyingQ base outer e cls (.ref t) .none h' -> h'.TupAt t args -> base.get? t = none -> s.heap.UpToSlots h' -> Q () { s with heap := h' }) : wpAny M A (leaving env (.ref e)) Q E s := by
  obtain ⟨t, g, tn, gt⟩ := hx.there
  have new : ∀ b, h.get? b = none -> base.get? b = none := fun b q => by
    cases r : base.get? b with
    | none => rfl
    | some o => rw [hkb b o r] at q; cases q
  unfold leaving noteFrame
  rw [hf]
  refine wpAny_bind (wpAny_bind (wpAny_field g rfl (x := .none) rfl (entered hfr (hl.of_keeps fun b o q _ => ⟨o, hx.keeps b o q, rfl⟩) hf g (fun b o q => hx.keeps b o (hkb b o q)) (new e hx.new) rfl (show 1 < 6 from by decide) ⟨rfl, rfl, rfl⟩ fun h' k1 k2 k3 k4 => ?_)))
  exact wpAny_landsQ ⟨k1, new e hx.new, k2, k3⟩ fun h2 y u => hQ h2 t ⟨y.1, y.2.1, y.2.2.1.2.2, y.2.2.2⟩ (Heap.TupAt.of_slots ⟨_, _, gt, rfl, rfl⟩ (k4.trans u)) (new t tn) (k4.trans u)
end
end PySem
set_option Elab.async false
set_option linter.all false
set_option maxRecDepth 100000
set_option maxHeartbeats 4000000
namespace L2
open PySem PySem.W PySem.Spec PySem.Calls PyProof.Rows
section
variable {P : Program} {w : World}
def CXq (P : Program) (w : World) : CXT := fun outer H s E e s' => ∃ (ea : Addr) (cls a0 : Value) (H' : Hp) (B : Heap), e = .ref ea /\ s'.os = s.os /\ AllBare s'.gens /\ Fly P w (frs outer) H H' s.heap s'.heap B /\ Heap.FlyingQ B outer ea cls a0 .none s'.heap /\ E cls none H'
theorem passQ {K : PySem.W.Frag} {mg : Str -> Option Value} {base : Heap} {N : List Str} {qual : Str} {scope : Scope} {f : Addr} {cd : Value} {A : Around} {outer : List Env} {s : Shared} {H : Hp} {E E' : XK} (hE : ∀ c d H', E' c d H' -> E c d H') :
    Passes (CXq P w) (cxOf (CXq P w) P w K mg base N qual scope f cd A outer s H E) E' := by
  intro pins σ H1 s1 e s' I hc
  obtain ⟨ea, cls, a0, H', B, rfl, os, bare, fl, fw, q⟩ := hc
  have fr : (cxOf (CXq P w) P w K mg base N qual scope f cd A outer s H E).A.frames = some (envOfC qual scope s.heap.objs.size f cd :: outer) := I.ok.frames
  refine wpAny_leaves_onQ fr rfl fw fun h' fw' ups => ?_
  have fl2 := fl.move (fly_frees I fl) fw'.1 (fun b hb o e => by
    obtain ⟨_, o', ho', nf⟩ := fw.2.2.1.mem hb
    rw [e] at ho'; cases ho'
    exact ups b o e nf)
  have I2 : Inv (cxOf (CXq P w) P w K mg base N qual scope f cd A outer s H E) pins σ H' { s' with heap := h' } := I.call' (s' := { s' with heap := h' }) os fl2.un fl2.hok bare (fun b hb => by cases hb)
  refine ⟨ea, cls, a0, H', B, rfl, I2.os, I2.bare, ⟨I2.base, I2.hok, fun b o e h n => fl2.cov b o e ?_ (fun z => ?_)⟩, fw', hE _ _ _ q⟩
  . rcases h with h | ⟨o', h⟩
    . exact .inl h
    . obtain ⟨o2, e2⟩ := I.base.there b o' h (by show b ∉ ([] : List Addr); simp)
      exact .inr ⟨o2, e2⟩
  . rcases List.mem_cons.mp (I.stkSub b z) with e' | e'
    . rcases h with h | ⟨o', h⟩
      . exact h (by rw [e']; exact I2.free)
      . have := Heap.lt_size h
        rw [e'] at this
        exact absurd (Nat.lt_of_lt_of_le this I.ok.above) (Nat.lt_irrefl _)
    . exact n e'
theorem raiseQ {K : PySem.W.Frag} {mg : Str -> Option Value} {base : Heap} {N : List Str} {qual : Str} {scope : Scope} {f : Addr} {cd : Value} {A : Around} {outer : List Env} {s : Shared} {H : Hp} {E : XK}
    {pins : List (Addr × Obj)} {σ : St} {H1 : Hp} {s1 : Shared} {h' : Heap} {ea : Addr} {cls : Value} {vs : List Value}
    (I : Inv (cxOf (CXq P w) P w K mg base N qual scope f cd A outer s H E) pins σ H1 s1) (hx : Heap.MadeExcOf s1.heap h' ea cls vs) (q : E cls none H1) :
    (cxOf (CXq P w) P w K mg base N qual scope f cd A outer s H E).xe (.ref ea) { s1 with heap := h' } := by
  have fr : (cxOf (CXq P w) P w K mg base N qual scope f cd A outer s H E).A.frames = some (envOfC qual scope s.heap.objs.size f cd :: outer) := I.ok.frames
  have hin : ∀ env ∈ (envOfC qual scope s.heap.objs.size f cd :: outer), ∀ b, env.frame = some b -> b ∈ frs (envOfC qual scope s.heap.objs.size f cd :: outer) := fun env he b hb => List.mem_filterMap.mpr ⟨env, he, hb⟩
  have stk := I.stack
  have fl : Fly P w (frs (envOfC qual scope s.heap.objs.size f cd :: outer)) H1 H1 s1.heap s1.heap (PySem.W.hideAll s1.heap (frs (envOfC qual scope s.heap.objs.size f cd :: outer))) := ⟨Un.refl, I.hok, fun b o e _ n => PySem.W.hideAll_get _ e n⟩
  refine wpAny_leaves_madeQ (base := PySem.W.hideAll s1.heap (frs (envOfC qual scope s.heap.objs.size f cd :: outer))) (h := s1.heap) fr rfl (fun b o q => PySem.W.of_hideAll _ q) ?_ hx fun h'' t fw' ht hnt ups => ?_
  . exact PySem.W.funFrames_hide stk hin
  . have fl2 := fl.move (fly_frees (X := cxOf (CXq P w) P w K mg base N qual scope f cd A outer s H E) I fl) fw'.1 (fun b hb o e => by
      obtain ⟨_, o', ho', nf⟩ := stk.mem hb
      rw [e] at ho'; cases ho'
      exact ups b o (hx.keeps b o e) nf)
    have I2 : Inv (cxOf (CXq P w) P w K mg base N qual scope f cd A outer s H E) pins σ H1 { s1 with heap := h'' } := I.call' (s' := { s1 with heap := h'' }) rfl fl2.un fl2.hok I.bare (fun b hb => by cases hb)
    refine ⟨ea, cls, .ref t, H1, _, rfl, I2.os, I2.bare, ⟨I2.base, I2.hok, fun b o e h n => fl2.cov b o e ?_ (fun z => ?_)⟩, fw', q⟩
    . rcases h with h | ⟨o', h⟩
      . exact .inl h
      . obtain ⟨o2, e2⟩ := I.base.there b o' h (by show b ∉ ([] : List Addr); simp)
        exact .inr ⟨o2, e2⟩
    . rcases List.mem_cons.mp (I.stkSub b z) with e' | e'
      . rcases h with h | ⟨o', h⟩
        . exact h (by rw [e']; exact I2.free)
        . have := Heap.lt_size h
          rw [e'] at this
          exact absurd (Nat.lt_of_lt_of_le this I.ok.above) (Nat.lt_irrefl _)
      . exact n e'
end
section
variable {P : Program} {w : World} {K : PySem.W.Frag} {mg : Str -> Option Value} {base : Heap} {N : List Str} {qual : Str} {scope : Scope} {f : Addr} {cd : Value} {A : Around} {outer : List Env} {s : Shared} {H : Hp} {E : XK}
theorem ps_raiseQ {x : Str} {C : Addr} {newId : String} {np cpos pos : Pos} {e₀ : Expr} {rest : List Expr} {ta : TA} (hm : mg x = some (.ref C)) (hx : excIn K C bmV newId = true) (hg : Gl (cxOf (CXq P w) P w K mg base N qual scope f cd A outer s H E) x)
    (hn : newId = "ValueError.__new__") (ha : PA (cxOf (CXq P w) P w K mg base N qual scope f cd A outer s H E) (e₀ :: rest) ta)
    (he : starEach (e₀ :: rest) (cxOf (CXq P w) P w K mg base N qual scope f cd A outer s H E).env = (false, eval e₀ (cxOf (CXq P w) P w K mg base N qual scope f cd A outer s H E).env) :: starEach rest (cxOf (CXq P w) P w K mg base N qual scope f cd A outer s H E).env := by rfl)
    (hplain : (backTo cpos (starEach rest (cxOf (CXq P w) P w K mg base N qual scope f cd A outer s H E).env)).any (·.1) = false := by rfl) (hd : (x == ("__debug__" : Str)) = false := by decide) :
    PS (cxOf (CXq P w) P w K mg base N qual scope f cd A outer s H E) (.Raise (some (.Call (.Name x np) (e₀ :: rest) [] cpos)) none pos) (tRaise C E ta) := by
  intro pins s1 σ H1 D I h
  subst hn
  obtain ⟨bm, Nc, nm, q, bs, hdct, sn, sub, ab, col, dd, k0, k1, k2, k3, k5, mN, hC, hN, hni, T⟩ := exc_obj I.mod.kin hx
  refine wpAny_Raise_call_subU (C := C) (nm := nm) (q := q) (N := Nc) (bs := bs) (bm := bm) (hdct := hdct) (sn := sn) (sub := sub) (ab := ab) (col := col) (dd := dd) (k0 := k0) (k1 := k1) (k2 := k2) (k3 := k3) (k5 := k5)
    PySem.F.excBase_ValueError (bmB := bmV) (by decide +kernel) PySem.F.excBase_ValueError (mN := mN) (T.hasType PySem.F.excBase_ValueError.hasBase) (I.ok.hd rfl) (by rw [he]; show (false || (backTo cpos (starEach rest _)).any (·.1)) = false; rw [hplain]; rfl) hni (ld_glob I hg hm ⟨rfl, ?_⟩ hd)
  have hA := ha cpos pins s1 σ H1 _ I h
  rw [he] at hA ⊢
  refine Calls.evalArgs_plain (thn hA fun us s2 ⟨vs, H2, I2, r2, hz, q2⟩ => ⟨rfl, by rw [<- r2.length]; exact hz, I2.bk _ _ hC, hN.keeps I2.bk, T.keeps I2.bk, fun h' e hm => raiseQ I2 hm q2⟩)
end
section
variable {P : Program} {w : World} {K : PySem.W.Frag} {mg : Str -> Option Value} {base : Heap}
theorem Fun.okQ {x qual : Str} {st : Stmt} {f : Addr} {fd : FuncData} {N ps : List Str} {k : Nat} {sp : Sp} (F : Fun K x qual st f fd) (S : FnScope N ps (defScope st)) (len : ∀ vs H Q E, sp vs H Q E -> vs.length = ps.length)
    (hbody : ∀ (cdv : Value) (A : Around) (outer : List Env) (s : Shared) (H : Hp) (vs : List V) (Q : VK) (E : XK), Room k (A.deeper (envOfC qual (defScope st) s.heap.objs.size f cdv)) -> sp vs H Q E ->
      ∃ t, PSs (cxOf (CXq P w) P w K mg base N qual (defScope st) f cdv A outer s H E) (defBody st) t /\ t { nx := fun _ H' => Q .non H', rt := Q } (start N vs) H) : FnOk P w K mg base (CXq P w) (k + 1) f fd ps sp := by
  obtain ⟨oc, od, kV, doc, pm, an, cdv, ct, osl, rfl, lk, hcd⟩ := F.ex
  exact fn_of lk hcd S len fun A outer s H vs Q E hr hsp => hbody cdv A outer s H vs Q E hr hsp
end
theorem lands_againQ {M : Model} {A : Around} {E : Value -> Shared -> Prop} {s : Shared} {base : Heap} {l : List Env} {e : Addr} {cls a0 cx : Value} {Q : Unit -> Shared -> Prop} (hh : Heap.FlyingQ base l e cls a0 cx s.heap)
    (hQ : ∀ h2, Heap.FlyingQ base l e cls a0 cx h2 -> s.heap.UpToSlots h2 -> Q () { s with heap := h2 }) : wpAny M A (setFlight (.ref e) none) Q E s := by
  obtain ⟨y1, y2, y3, y4⟩ := hh
  exact setFlightQ (v := none) y1 y3 y4 fun h2 k1 k2 k3 k4 => hQ h2 ⟨k1, y2, k2, k3⟩ k4
end L2
set_option Elab.async false
set_option linter.all false
set_option maxRecDepth 100000
set_option maxHeartbeats 4000000
namespace PySem
open Sem (wp)
section
variable {M : Model} {A : Around} {E : Value -> Shared -> Prop} {env : Env}
variable {nm q : Str} {C N : Addr} {bs bm : List Value} {hdct : Bool} {sn : List Str} {sub : List Value} {ab : Bool} {col : Option Bool} {dd : Option Addr} {k0 k1 k2 k3 k5 : Option Value} {newId : String}
def causeless (h : Heap) (e ea : Addr) : Heap := ((h.update e (Obj.mapFields (·.setIfInBounds 3 Value.none))).update e (Obj.mapFields (·.setIfInBounds 4 (Value.bool true)))).update e (Obj.mapFields (·.setIfInBounds 2 (Value.ref ea)))
theorem entry_unchain : entryFor table "proto.unchain" = some Builtin.«proto.unchain» := entryFor_of_fast (by kernel_rfl)
theorem raiseStmt_none {prog : Program} {w : World} {s : Shared} {x c : Sem Value} {Q : Flow -> Shared -> Prop} {ea : Addr} (hbase : bm.contains (.type "BaseException") = true) (hh : A.handled = some (.ref ea))
    (h : wpAny (model prog w) A x (fun v s₁ => ∃ e t, v = .ref e /\ wpAny (model prog w) A c (fun cv s₂ => cv = .none /\ e ≠ ea /\ s₂.heap.get? C = some (excClassObj nm q C N bs bm hdct sn sub ab col dd k0 k1 k2 k3 k5 newId) /\
      s₂.heap.get? e = some { cls := .ref C, data := .fields #[.ref t, .none, .none, .none, .bool false, .none] } /\ (∃ oh vh, s₂.heap.get? ea = some oh /\ oh.data = .fields vh /\ vh[2]? = some .none) /\ E (.ref e) { s₂ with heap := causeless s₂.heap e ea }) E s₁) E s) :
    wpAny (model prog w) A (raiseStmt env (some x) (some c)) Q E s := by
  have hcB : (Value.ref C :: bm).contains (.type "BaseException") = true := List.contains_cons.trans (by rw [hbase]; exact Bool.or_true _)
  unfold raiseStmt
  refine wpAny_bind (wpAny_mono h (fun v t x => ?_) fun _ _ y => y)
  obtain ⟨e, t, rfl, h₁⟩ := x
  refine wpAny_bind (wpAny_holding (wpAny_mono h₁ (fun cv s₂ h₂ => ?_) fun _ _ y => y))
  obtain ⟨rfl, hne, hC, he, ⟨oh, vh, hh1, hh2, hh3⟩, hE⟩ := h₂
  obtain ⟨hp, g, d, tk, os⟩ := s₂
  refine wpAny_bind (wpAny_pure ?_)
  have up : ∀ (Q : Bool -> Shared -> Prop), Q true ⟨hp, g, d, tk, os⟩ -> wpAny (model prog w) A (isSubtype (.ref C) (.type "BaseException")) Q E ⟨hp, g, d, tk, os⟩ := fun Q q => wpAny_isSubtype_exc hC (by rw [hcB]; exact q)
  wp_walk using wpAny_loadPart_at he, wpAny_loadPart_at hC, up
  have hCe : e ≠ C := fun z => by
    subst z
    have := he.symm.trans hC
    injection this with this
    injection this with _ _ this
    cases this
  have hC2 : ((hp.update e (Obj.mapFields fun x => x.setIfInBounds 3 Value.none)).update e (Obj.mapFields fun x => x.setIfInBounds 4 (Value.bool true))).get? C = some (excClassObj nm q C N bs bm hdct sn sub ab col dd k0 k1 k2 k3 k5 newId) := by
    rw [Heap.get?_update_other _ _ hCe, Heap.get?_update_other _ _ hCe]; exact hC
  have hh4 : ((hp.update e (Obj.mapFields fun x => x.setIfInBounds 3 Value.none)).update e (Obj.mapFields fun x => x.setIfInBounds 4 (Value.bool true))).get? ea = some oh := by
    rw [Heap.get?_update_other _ _ hne, Heap.get?_update_other _ _ hne]; exact hh1
  repeat (first | with_reducible refine wpAny_loadPart_at hC2 ?_ | wp_step)
  unfold raiseNew
  refine wpAny_bind (wpAny_handled ?_)
  rw [hh]
  dsimp only
  rw [if_pos (by simp [Ne.symm hne])]
  refine wpAny_bind (wpAny_holding (wpAny_runValue (codeAny_builtin entry_unchain ?_)))
  unfold Builtin.«proto.unchain»
  refine wpAny_bind (wpAny_field hh4 hh2 hh3 ?_)
  rw [if_pos (by decide)]
  refine wpAny_pure ?_
  have he1 := Heap.get?_update_self (Obj.mapFields fun x => x.setIfInBounds 3 Value.none) he rfl
  have he2 := Heap.get?_update_self (Obj.mapFields fun x => x.setIfInBounds 4 (Value.bool true)) he1 rfl
  show wpAny (model prog w) A (setField (.ref e) 2 (.ref ea) >>= fun _ => throw (.ref e)) Q E _
  exact wpAny_bind (wpAny_setField he2 rfl (by simp) (wpAny_throw hE))
end
section
variable {prog : Program} {w : World} {A : Around} {E : Value -> Shared -> Prop} {s : Shared} {env : Env}
variable {nm q : Str} {C N : Addr} {bs bm bmB : List Value} {hdct : Bool} {sn : List Str} {sub : List Value} {ab : Bool} {col : Option Bool} {dd : Option Addr} {k0 k1 k2 k3 k5 : Option Value} {B Bn newId nid initId inN : String} {bmN : List Value}
theorem make_exc (Fn : ExcBaseFacts Bn newId inN bmN) (hBn : bmB.contains (.type Bn) = true) (F : ExcBaseFacts B nid initId bmB) {mN : Str -> Option Value} {x : Str} {np cpos : Pos} {args : List Expr} {R : Value -> Shared -> Prop} (plain : (backTo cpos (starEach args env)).any (·.1) = false) (ni : mN "__init__" = none)
    (h : wpAny (model prog w) A (eval (.Name x np) env) (fun f t => f = .ref C /\ wpAny (model prog w) A (evalArgs (.ref C) true (backTo cpos (starEach args env)) []) (fun a u => a.kw = [] /\ a.pos.length <= sizeLine /\ u.heap.get? C = some (excClassObj nm q C N bs bm hdct sn sub ab col dd k0 k1 k2 k3 k5 newId) /\ u.heap.Ns N mN /\ OwnTail u.heap bmB bm /\
      ∀ h' e, Heap.MadeExcOf u.heap h' e (.ref C) a.pos -> R (.ref e) { u with heap := h' }) E t) E s) : wpAny (model prog w) A (eval (.Call (.Name x np) args [] cpos) env) R E s := by
  refine wpAny_Call_ofName (wpAny_mono h (fun f t y => ?_) fun _ _ y => y)
  obtain ⟨rfl, y⟩ := y
  unfold callWith
  refine wpAny_bind (wpAny_holding (wpAny_mono y (fun a u y => wpAny_bind (wpAny_standAt ?_)) fun _ _ y => y))
  obtain ⟨ap, ak⟩ := a
  obtain ⟨e, z, gC, gN, T, made⟩ := y
  cases e
  obtain ⟨u1, u2, u3, u4, u5⟩ := u
  simp only [plain]
  exact wpAny_bind (wpAny_keeperOf_exc gC (wpAny_bind (wpAny_call_exc_subU (hrest := z) Fn hBn F T gC gN ni fun h' e m => wpAny_bind (wpAny_holding (wpAny_point (wpAny_pure (made h' e m)))))))
theorem Raise_none (Fn : ExcBaseFacts Bn newId inN bmN) (hBn : bmB.contains (.type Bn) = true) (F : ExcBaseFacts B nid initId bmB) {mN : Str -> Option Value} {x : Str} {np cpos pos p3 : Pos} {jk : Nat} {ea : Addr} {args : List Expr} {Q : Flow -> Shared -> Prop}
    (hbase : bm.contains (.type "BaseException") = true) (hh : A.handled = some (.ref ea)) (hplain : (backTo cpos (starEach args env)).any (·.1) = false) (hni : mN "__init__" = none)
    (h : wpAny (model prog w) A (eval (.Name x np) env) (fun f s₁ => f = .ref C /\ wpAny (model prog w) A (evalArgs (.ref C) true (backTo cpos (starEach args env)) [])
      (fun a s₂ => a.kw = [] /\ a.pos.length <= sizeLine /\ s₂.heap.get? C = some (excClassObj nm q C N bs bm hdct sn sub ab col dd k0 k1 k2 k3 k5 newId) /\ s₂.heap.Ns N mN /\ OwnTail s₂.heap bmB bm /\ (∃ oh vh, s₂.heap.get? ea = some oh /\ oh.data = .fields vh /\ vh[2]? = some .none) /\
        ∀ h' e, Heap.MadeExcOf s₂.heap h' e (.ref C) a.pos -> E (.ref e) { s₂ with heap := causeless h' e ea }) E s₁) E s) :
    wpAny (model prog w) A (exec (.Raise (some (.Call (.Name x np) args [] cpos)) (some (.Constant .none jk p3)) pos) env) Q E s := by
  rw [arm_exec_Raise]
  simp only [evalOpt, Option.map]
  refine wpAny_bind (wpAny_standAt (raiseStmt_none (C := C) (nm := nm) (q := q) (N := N) (bs := bs) (bm := bm) (hdct := hdct) (sn := sn) (sub := sub) (ab := ab) (col := col) (dd := dd) (k0 := k0) (k1 := k1) (k2 := k2) (k3 := k3) (k5 := k5) (newId := newId) hbase hh (wpAny_bind (make_exc (C := C) (nm := nm) (q := q) (N := N) (bs := bs) (bm := bm) (hdct := hdct) (sn := sn) (sub := sub) (ab := ab) (col := col) (dd := dd) (k0 := k0) (k1 := k1) (k2 := k2) (k3 := k3) (k5 := k5) Fn hBn F hplain hni (wpAny_mono h (fun f t y => ⟨y.1, wpAny_mono y.2 (fun a u y => ?_) fun _ _ y => y⟩) fun _ _ y => y)))))
  obtain ⟨y1, y2, y3, y4, y5, ⟨oh, vh, o1, o2, o3⟩, y6⟩ := y
  refine ⟨y1, y2, y3, y4, y5, fun h' e m => ?_⟩
  obtain ⟨t, g, _⟩ := m.there
  refine wpAny_bind (wpAny_standAt (wpAny_pure ⟨e, t, rfl, wpAny_bind (PyProof.Rows.Constant_none (wpAny_bind (wpAny_standAt (wpAny_pure ⟨rfl, fun z => ?_, m.keeps _ _ y3, g, ⟨oh, vh, m.keeps _ _ o1, o2, o3⟩, y6 h' e m⟩))))⟩))
  subst z
  cases m.new.symm.trans o1
end
end PySem
set_option Elab.async false
set_option linter.all false
set_option maxRecDepth 100000
set_option maxHeartbeats 4000000
namespace L2
open PySem PySem.W PySem.Spec PySem.Calls PyProof.Rows
theorem raiseF {P : Program} {w : World} {K : PySem.W.Frag} {mg : Str -> Option Value} {base : Heap} {N : List Str} {qual : Str} {scope : Scope} {f : Addr} {cd : Value} {A A' : Around} {outer : List Env} {s : Shared} {H : Hp} {E : XK}
    {pins : List (Addr × Obj)} {σ : St} {H1 : Hp} {s1 : Shared} {h' : Heap} {ea : Addr} {oe : Obj} {vs : Array Value} {a0 : Value}
    (I : Inv (cxOf (CXe P w) P w K mg base N qual scope f cd A outer s H E) pins σ H1 s1) (keeps : ∀ b o, s1.heap.get? b = some o -> h'.get? b = some o) (new : s1.heap.get? ea = none) (he : h'.get? ea = some oe) (hd : oe.data = .fields vs) (h1 : vs[1]? = some .none) (h0 : vs[0]? = some a0)
    (q : E oe.cls none H1) (hfr : A'.frames = (cxOf (CXe P w) P w K mg base N qual scope f cd A outer s H E).A.frames) :
    notedBy (model P w) A' (envOfC qual scope s.heap.objs.size f cd) (cameBackBy (model P w) (cxOf (CXe P w) P w K mg base N qual scope f cd A outer s H E).A (envOfC qual scope s.heap.objs.size f cd) (cxOf (CXe P w) P w K mg base N qual scope f cd A outer s H E).xe) (.ref ea) { s1 with heap := h' } := by
  have fr : (cxOf (CXe P w) P w K mg base N qual scope f cd A outer s H E).A.frames = some (envOfC qual scope s.heap.objs.size f cd :: outer) := I.ok.frames
  have fr' : A'.frames = some (envOfC qual scope s.heap.objs.size f cd :: outer) := hfr.trans fr
  have hin : ∀ env ∈ (envOfC qual scope s.heap.objs.size f cd :: outer), ∀ b, env.frame = some b -> b ∈ frs (envOfC qual scope s.heap.objs.size f cd :: outer) := fun env he b hb => List.mem_filterMap.mpr ⟨env, he, hb⟩
  have stk := I.stack
  have fl : Fly P w (frs (envOfC qual scope s.heap.objs.size f cd :: outer)) H1 H1 s1.heap s1.heap (PySem.W.hideAll s1.heap (frs (envOfC qual scope s.heap.objs.size f cd :: outer))) := ⟨Un.refl, I.hok, fun b o e _ n => PySem.W.hideAll_get _ e n⟩
  have hkb : (PySem.W.hideAll s1.heap (frs (envOfC qual scope s.heap.objs.size f cd :: outer))).StaysIn h' := fun b o z => keeps b o (PySem.W.of_hideAll _ z)
  have hen : (PySem.W.hideAll s1.heap (frs (envOfC qual scope s.heap.objs.size f cd :: outer))).get? ea = none := by
    cases z : (PySem.W.hideAll s1.heap (frs (envOfC qual scope s.heap.objs.size f cd :: outer))).get? ea with
    | none => rfl
    | some o => have := PySem.W.of_hideAll _ z; rw [new] at this; cases this
  have hl : h'.FunFrames (PySem.W.hideAll s1.heap (frs (envOfC qual scope s.heap.objs.size f cd :: outer))) (envOfC qual scope s.heap.objs.size f cd :: outer) := (PySem.W.funFrames_hide stk hin).of_keeps fun b o hb _ => ⟨o, keeps b o hb, rfl⟩
  generalize hB : PySem.W.hideAll s1.heap (frs (envOfC qual scope s.heap.objs.size f cd :: outer)) = B at fl hkb hen hl
  show wpAny (model P w) A' (noteFrame (.ref ea) (envOfC qual scope s.heap.objs.size f cd)) _ _ _
  have hsz : 1 < vs.size := (Array.getElem?_eq_some_iff.mp h1).1
  unfold noteFrame
  simp only [show (envOfC qual scope s.heap.objs.size f cd).frame = some s.heap.objs.size from rfl]
  refine wpAny_bind (wpAny_field he hd h1 ?_)
  rw [if_neg (by decide)]
  refine wpAny_entryW (s := { s1 with heap := h' }) fr' hl rfl he hkb hen hd hsz h0 fun h2 ⟨k1, k2, k3, k4⟩ => ?_
  unfold cameBackBy
  obtain ⟨oe', vs', T, oT, ts, he', ⟨hc', h0'⟩, hd', h1', hnT, hTe, hT, hdT, h3⟩ := k3
  refine wpAny_bind (wpAny_field he' hd' h1' ?_)
  rw [if_neg (by simp)]
  have hsz3 : 3 < ts.size := (Array.getElem?_eq_some_iff.mp h3).1
  have other : ∀ b, b ≠ T -> (h2.update T (Obj.mapFields (·.setIfInBounds 3 (rawInt s.heap.objs.size)))).get? b = h2.get? b := fun b hb => Heap.get?_update_other _ _ (Ne.symm hb)
  have noRec : ∀ b o, h2.get? b = some o -> (∀ vs, o.data ≠ .fields vs) -> b ≠ T := fun b o hb hnf z => by
    rw [z, hT] at hb; injection hb with hb; subst hb; exact hnf ts hdT
  unfold setFlight
  refine wpAny_bind (wpAny_field he' hd' h1' ?_)
  rw [if_pos (show (Value.ref T != Value.none) = true from by simp)]
  refine wpAny_setField hT hdT hsz3 ?_
  have held : Heap.HeldW B (envOfC qual scope s.heap.objs.size f cd :: outer) ea oe.cls a0 s.heap.objs.size (h2.update T (Obj.mapFields (·.setIfInBounds 3 (rawInt s.heap.objs.size)))) := ⟨fun b o hb => (other b fun z => by rw [z, hnT] at hb; cases hb).trans (k1 b o hb), hen, k2.of_keeps fun b o hb hnf => ⟨o, (other b (noRec b o hb hnf)).trans hb, rfl⟩, oe', vs', T, _, _, (other ea (Ne.symm hTe)).trans he', ⟨hc', h0'⟩, hd', h1', hnT, hTe, Heap.get?_update_self _ hT (Obj.isFreed_of_fields (Obj.data_mapFields hdT _)), Obj.data_mapFields hdT _, by simp [hsz3]⟩
  have up3 : ∀ b o, s1.heap.get? b = some o -> (∀ vs, o.data ≠ .fields vs) -> ∃ sl, (h2.update T (Obj.mapFields (·.setIfInBounds 3 (rawInt s.heap.objs.size)))).get? b = some { o with slots := sl } := fun b o hb hn => by
    obtain ⟨sl, e1⟩ := k4 b o (keeps b o hb) hn
    exact ⟨sl, (other b (noRec b _ e1 hn)).trans e1⟩
  show wpAny (model P w) (A.deeper (envOfC qual scope s.heap.objs.size f cd)) (leaving (envOfC qual scope s.heap.objs.size f cd) (.ref ea)) (fun _ s'' => CXe P w outer H s E (.ref ea) s'') _ { s1 with heap := h2.update T (Obj.mapFields (·.setIfInBounds 3 (rawInt s.heap.objs.size))) }
  generalize h2.update T (Obj.mapFields (·.setIfInBounds 3 (rawInt s.heap.objs.size))) = h4 at held up3 ⊢
  unfold leaving
  refine wpAny_bind (wpAny_noteFrame_againW (s := { s1 with heap := h4 }) rfl held.2.2.2 ?_)
  refine wpAny_landsW (s := { s1 with heap := h4 }) held fun h'' hfl ups => ?_
  obtain ⟨w1, w2, ⟨w3, w4, w5⟩, w6⟩ := hfl
  have fw' : Heap.FlyingW B outer ea oe.cls a0 h'' := ⟨w1, w2, w5, w6⟩
  have fl2 := fl.move (fly_frees (X := cxOf (CXe P w) P w K mg base N qual scope f cd A outer s H E) I fl) fw'.1 (fun b hb o e => by
    obtain ⟨_, o', ho', nf⟩ := stk.mem hb
    rw [e] at ho'; cases ho'
    obtain ⟨sl, e1⟩ := up3 b o e nf
    obtain ⟨sl2, e2⟩ := ups b _ e1 nf
    exact ⟨sl2, e2⟩)
  have I2 : Inv (cxOf (CXe P w) P w K mg base N qual scope f cd A outer s H E) pins σ H1 { s1 with heap := h'' } := I.call' (s' := { s1 with heap := h'' }) rfl fl2.un fl2.hok I.bare (fun b hb => by cases hb)
  refine ⟨ea, oe.cls, a0, H1, _, rfl, I2.os, I2.bare, ⟨I2.base, I2.hok, fun b o e h n => fl2.cov b o e ?_ (fun z => ?_)⟩, fw', q⟩
  . rcases h with h | ⟨o', h⟩
    . exact .inl h
    . obtain ⟨o2, e2⟩ := I.base.there b o' h (by show b ∉ ([] : List Addr); simp)
      exact .inr ⟨o2, e2⟩
  . rcases List.mem_cons.mp (I.stkSub b z) with e' | e'
    . rcases h with h | ⟨o', h⟩
      . exact h (by rw [e']; exact I2.free)
      . have := Heap.lt_size h
        rw [e'] at this
        exact absurd (Nat.lt_of_lt_of_le this I.ok.above) (Nat.lt_irrefl _)
    . exact n e'
def tTryR (K : PySem.W.Frag) (Ca Cn : Addr) (E : St -> XK) (Eo : XK) (tb : TS) : TS := fun D σ H => tb D σ H /\ ∀ σ' cls H', E σ' cls none H' -> ∃ C, cls = .ref C /\ PySem.W.exmOne K (.ref C) (.ref Ca) = some true /\ Eo (.ref Cn) none H'
theorem r_tryR {K : PySem.W.Frag} {Ca Cn : Addr} {E : St -> XK} {Eo : XK} {tb : TS} {D : Ends} {σ : St} {H : Hp} : tTryR K Ca Cn E Eo tb D σ H = (tb D σ H /\ ∀ σ' cls H', E σ' cls none H' -> ∃ C, cls = .ref C /\ PySem.W.exmOne K (.ref C) (.ref Ca) = some true /\ Eo (.ref Cn) none H') := rfl
section
variable {P : Program} {w : World} {K : PySem.W.Frag} {mg : Str -> Option Value} {base : Heap} {N : List Str} {qual : Str} {scope : Scope} {f : Addr} {cd : Value} {A : Around} {outer : List Env} {s : Shared} {H : Hp} {Eo : XK}
theorem ps_tryR {X : Cx} {body : List Stmt} {c x tx : Str} {Ca Cn : Addr} {newId : String} {np np2 cpos p1 p3 rpos hpos pos : Pos} {j1 j3 : Nat} {E : St -> XK} {tb : TS} (hX : X = cxOf (CXe P w) P w K mg base N qual scope f cd A outer s H Eo) (hg : Gl X c) (hm : X.mg c = some (.ref Ca)) (hgx : Gl X x) (hmx : X.mg x = some (.ref Cn)) (hx : excIn X.K Cn bmV newId = true) (hn : newId = "ValueError.__new__")
    (hb : ∀ xe pn, (∀ σ, PassesAt (CXq X.prog X.w) (X.body xe pn) σ (E σ)) -> PSs (X.body xe pn) body tb) (hd : (c == ("__debug__" : Str)) = false := by decide) (hd2 : (x == ("__debug__" : Str)) = false := by decide) :
    PS X (.Try body [.ExceptHandler (some (.Name c np)) none [.Raise (some (.Call (.Name x np2) [.Constant (.str tx) j1 p1] [] cpos)) (some (.Constant .none j3 p3)) rpos] hpos] [] [] pos) (tTryR X.K Ca Cn E Eo tb) := by
  have hst : X.stack = X.env :: X.outer := by rw [hX]; rfl
  have hL : X.env.frame = some X.env.locals := by rw [hX]; rfl
  intro pins s0 σ H0 D I h
  obtain ⟨hbody, hhand⟩ := h
  have hB := hb (fun e s' => ∃ pins' σ' H1 s1, Inv (X.body (fun _ _ => True) (X.pn ++ pins)) pins' σ' H1 s1 /\ CXq X.prog X.w X.stack H1 s1 (E σ') e s') (X.pn ++ pins) (fun σ pins' H s e s' I' hcx => ⟨pins', σ, H, s, I'.reBody, hcx⟩) [] s0 σ H0 D I.toBody hbody
  refine wpAny_Try_except (wpAny_mono hB (fun f s1 q => ?_) fun e s1 q => ?_)
  . cases f with
    | next => obtain ⟨σ1, H1, I1, q1⟩ := q; exact wpAny_execs_nil ⟨σ1, H1, I1.ofBody, q1⟩
    | brk => obtain ⟨σ1, H1, I1, q1⟩ := q; exact ⟨σ1, H1, I1.ofBody, q1⟩
    | cont => obtain ⟨σ1, H1, I1, q1⟩ := q; exact ⟨σ1, H1, I1.ofBody, q1⟩
    | ret v => obtain ⟨x1, σ1, H1, I1, r1, q1⟩ := q; exact ⟨x1, σ1, H1, I1.ofBody, r1, q1⟩
  . obtain ⟨pins', σ', H1, s2, I2, ea, cls, a0, H', B, rfl, os, bare, fl, fw, hE⟩ := q
    obtain ⟨C, rfl, hexm, hts⟩ := hhand σ' cls H' hE
    have I2' : Inv X pins σ' H1 s2 := I2.ofBody
    have fr : X.A.frames = some (X.env :: X.outer) := by rw [I.ok.frames, hst]
    have frees := fly_frees I2' fl
    have fw0 := fw
    rw [hst] at fw
    have invAt : ∀ h', Heap.FlyingQ B (X.env :: X.outer) ea (.ref C) a0 .none h' -> s1.heap.UpToSlots h' -> Inv X pins σ' H' { s1 with heap := h' } := fun h' fw' ups => by
      have fl2 := fl.move frees fw'.1 (fun b hb o e => by
        obtain ⟨_, o', ho', nf⟩ := fw0.2.2.1.mem hb
        rw [e] at ho'; cases ho'
        exact ups b o e nf)
      exact I2'.call' (s' := { s1 with heap := h' }) os fl2.un fl2.hok bare (fun b hb => by cases hb)
    refine wpAny_looks_onQ fr hL fw fun h4 held4 up4 => ?_
    refine wpAny_landsQ held4 fun h5 fw5 up5 => ?_
    have I5 := invAt h5 fw5 (up4.trans up5)
    have I5m : Inv (X.suite ea (X.pn ++ pins)) [] σ' H' { s1 with heap := h5 } := I5.toSuite
    refine wpAny_handleBy_cons (codeAny_handlers_test (ld_glob (X := X.suite ea (X.pn ++ pins)) I5m hg hm ?_ hd)) (by intro q; cases q)
    have LT : PySem.W.Looks (model X.prog X.w) h5 (typeOf (.ref ea)) (.ref C) := by
      obtain ⟨ob, hob, hoc⟩ := fw5.there
      exact hoc ▸ (PySem.W.Looks.ld hob).andThen .now
    refine (PySem.W.exm_one (K := X.K) (M := model X.prog X.w) I5.kIn LT hexm) _ _ _ _ (fun b o e => e) ?_
    refine codeAny_handlers_suite ?_
    refine lands_againQ fw5 fun h6 fw6 up6 => ?_
    have I6 := invAt h6 fw6 ((up4.trans up5).trans up6)
    have I6m : Inv (X.suite ea (X.pn ++ pins)) [] σ' H' { s1 with heap := h6 } := I6.toSuite
    subst hn
    obtain ⟨bm, Nc, nm, q, bs, hdct, sn, sub, ab, col, dd, k0, k1, k2, k3, k5, mN, hC, hN, hni, T⟩ := exc_obj I6.kIn hx
    refine wpAny_execs_cons (Raise_none (C := Cn) (nm := nm) (q := q) (N := Nc) (bs := bs) (bm := bm) (hdct := hdct) (sn := sn) (sub := sub) (ab := ab) (col := col) (dd := dd) (k0 := k0) (k1 := k1) (k2 := k2) (k3 := k3) (k5 := k5) (ea := ea)
      PySem.F.excBase_ValueError (bmB := bmV) (by decide +kernel) PySem.F.excBase_ValueError (mN := mN) (T.hasType PySem.F.excBase_ValueError.hasBase) rfl (by rfl) hni (ld_glob (X := X.suite ea (X.pn ++ pins)) I6m hgx hmx ⟨rfl, ?_⟩ hd2))
    refine Calls.evalArgs_plain ?_
    show wpAny _ _ (spliced [(false, eval (.Constant (.str tx) j1 p1) X.env)]) _ _ _
    refine Calls.spliced_cons (Calls.Constant_str (Calls.spliced_nil ?_))
    obtain ⟨_, _, _, oe, vs, Tb, oT, ts, q1, ⟨q2, q3⟩, q4, _⟩ := fw6
    refine ⟨rfl, by have := line1000; show 1 <= sizeLine; omega, hC, hN, T, ⟨oe, vs, q1, q4, q3.2⟩, fun h' e hmk => ?_⟩
    subst hX
    obtain ⟨t, ht, _, _⟩ := hmk.there
    have e1 := Heap.get?_update_self (Obj.mapFields fun x => x.setIfInBounds 3 Value.none) ht rfl
    have e2 := Heap.get?_update_self (Obj.mapFields fun x => x.setIfInBounds 4 (Value.bool true)) e1 rfl
    have e3 := Heap.get?_update_self (Obj.mapFields fun x => x.setIfInBounds 2 (Value.ref ea)) e2 rfl
    exact raiseF (s1 := { s1 with heap := h6, toks := s1.toks + 1 }) (A' := _) (I6.tok _) (fun b o hb => by
      have hbe : e ≠ b := fun z => by
        subst z
        have := hmk.new
        have hb' : h6.get? e = some o := hb
        rw [show h6.get? e = none from this] at hb'
        cases hb'
      show (causeless h' e ea).get? b = some o
      unfold causeless
      rw [Heap.get?_update_other _ _ hbe, Heap.get?_update_other _ _ hbe, Heap.get?_update_other _ _ hbe]
      exact hmk.keeps b o hb) hmk.new e3 rfl rfl rfl hts rfl
end
end L2
set_option Elab.async false
set_option linter.all false
set_option maxRecDepth 100000
set_option maxHeartbeats 4000000
namespace L2
open PySem PySem.W PySem.Spec PySem.Calls PyProof.Rows
section
variable {X : Cx} {pins : List (Addr × Obj)} {σ : St} {H : Hp} {s : Shared} {cp : Caps} {sc : Scope} {tg : Expr} {iter elt : Expr} {ifs : List Expr} {pos : Pos} {wi : TI} {g : TG} {tc : TT} {te : TE}
theorem ps_setCE {Ex : XK} {i : Nat} {x : Str} {px spos : Pos} (hN : X.N.Nodup) (hi : X.N[i]? = some x) (hx : X.env.scope.names.lookup x = some .local) (hst : X.stack = X.env :: X.outer) (hL : X.env.frame = some X.env.locals) (hex : X.ex = [])
    (hxe : ∀ e s', wpAny (model X.prog X.w) X.A (leaving X.env e) (fun _ s'' => CXe X.prog X.w X.outer X.H₀ X.s₀ Ex e s'') (fun e' s'' => CXe X.prog X.w X.outer X.H₀ X.s₀ Ex e' s'') s' -> X.xe e s')
    (hc : X.calm = true) (S : BlkSc X sc) (hcp : CapsOk X.N sc cp) (hit : PI X tg iter wi)
    (hg : ∀ C s₀ H₀ ex xe, Passes (CXe X.prog X.w) (X.blkE cp.names sc C s₀ H₀ ex xe) Ex -> PG (X.blkE cp.names sc C s₀ H₀ ex xe) tg g) (hf : ∀ C s₀ H₀ ex xe, Passes (CXe X.prog X.w) (X.blkE cp.names sc C s₀ H₀ ex xe) Ex -> PF (X.blkE cp.names sc C s₀ H₀ ex xe) ifs tc) (he : ∀ C s₀ H₀ ex xe, Passes (CXe X.prog X.w) (X.blkE cp.names sc C s₀ H₀ ex xe) Ex -> PE (X.blkE cp.names sc C s₀ H₀ ex xe) elt te)
    (hsw : swapsWith (.ListComp elt [⟨tg, iter, ifs, 0⟩] sc pos) (some (.Name x px)) spos.line X.env = pure true := by rfl)
    (hs : ∀ x, foldedSetIterable iter X.env x = pure x := by intro _; rfl) : PS X (.Assign [.Name x px] (.ListComp elt [⟨tg, iter, ifs, 0⟩] sc pos) spos) (tAsg (tComp wi cp g tc te) (gName i)) := by
  intro pins s σ H D I h
  rw [exec_Assign_Name_used _ _ _ _ hsw]
  refine wpAny_bind (wpAny_standAt (wpAny_bind ?_))
  show wpAny _ X.A (do let _ <- comprehension (.ListComp elt [⟨tg, iter, ifs, 0⟩] sc pos) sc X.env _ (newList []) false (eval iter X.env) (some (assign (.Name x px) X.env))) _ _ s
  refine wpAny_bind (wpAny_mono (wpAny_comprehension_free (use := some (assign (.Name x px) X.env)) (Q := fun _ s' => SP X pins D .next s') rfl hs (closure_eq (blk_cells I S)) S.kind S.loc
    (thn (hit pins s σ H _ I h) fun xv s₁ h₁ => thn h₁ fun itv s₂ h₂ => ?_)) (fun _ s' hq => wpAny_pure (wpAny_pure hq)) fun _ _ e => e)
  obtain ⟨it, fp, tn, J, H2, e, I2, T, st2, f2, hw⟩ := h₂
  subst e
  refine comp_coreE (Ex := Ex) (RR := fun acc C => compPost (model X.prog X.w) X.A X.xe (some (assign (.Name x px) X.env)) (fun _ s' => SP X pins D .next s') acc C) (Q := fun v H1 => gName i v σ H1 D.nx) hc S hcp hg hf he I2 T st2 f2 hw ?_ ?_
  . intro Dl C s' H' m I' q hn hC hL hz hcl hp
    show wpAny _ X.A (assign (.Name x px) X.env (.ref Dl)) _ _ _
    refine wpAny_assign_Name (store_ok2 I' hN hi (.inl hx) (v := .ref Dl) rfl (fun s'' I'' ⟨a, hsb, ha⟩ => ?_) (.inr hx))
    have hne : C ≠ a := by
      rcases ha with rfl | ha
      . exact hL
      . exact fun z => hcl _ _ ha z.symm
    refine ⟨m, hn.sameBut hsb hne, fun h' hs' => ⟨_, H', I''.turned (t' := s''.toks) (it := C) (fun b o hb e => hs'.extBut b o hb e) hC hL (.inr hz) hcl hp, q⟩⟩
  . intro C acc e s' hle hx
    exact blk_flight hst hL hex hxe I2 f2 hle hx
end
end L2
set_option Elab.async false
set_option linter.all false
set_option maxRecDepth 100000
set_option maxHeartbeats 4000000
namespace Mine
open PySem L2 GW GB
local macro_rules | `(tactic| walk_at "rd") => `(tactic| (try dsimp only [↓r_seq, ↓r_next, ↓r_asg, ↓r_gname, ↓r_var, ↓r_c, ↓r_op, ↓r_un, ↓r_I, ↓r_I0, ↓r_U, ↓r_call, ↓r_cons, ↓r_nil, ↓r_ret, ↓r_drop, ↓r_if, ↓r_B, ↓r_test, ↓r_and, ↓r_or, ↓r_not, ↓r_andV, ↓r_notV, ↓r_chain, ↓r_CB, ↓r_lst, ↓r_tup, ↓r_ixL, ↓r_ixT, ↓r_sl, ↓r_part, ↓r_nopart, ↓r_slL, ↓r_BM, ↓r_append, ↓r_gsub, ↓r_setL, ↓r_Eq, ↓r_Ne, ↓r_eqD, ↓r_iList, ↓r_iTup, ↓r_iRng1, ↓r_true, ↓r_comp, ↓r_for, ↓r_raise, ↓r_callE, ↓r_try, ↓r_unnx, ↓r_unrt, ↓r_popAt, ↓r_iSeq, ↓r_iStr, r_sjoin, r_split, r_slS, r_ixS, ↓r_tryR, ↓r_insert, r_cxK, L2.start, List.map_cons, List.map_nil, List.length_cons, List.length_nil, List.cons_append, List.nil_append, List.replicate, List.getElem?_cons_zero, List.getElem?_cons_succ, List.set_cons_zero, List.set_cons_succ, scal]) <;> (try simp only [↓r_seq, ↓r_next, ↓r_asg, ↓r_gname, ↓r_var, ↓r_c, ↓r_op, ↓r_un, ↓r_I, ↓r_I0, ↓r_U, ↓r_call, ↓r_cons, ↓r_nil, ↓r_ret, ↓r_drop, ↓r_if, ↓r_B, ↓r_test, ↓r_and, ↓r_or, ↓r_not, ↓r_andV, ↓r_notV, ↓r_chain, ↓r_CB, ↓r_lst, ↓r_tup, ↓r_ixL, ↓r_ixT, ↓r_sl, ↓r_part, ↓r_nopart, ↓r_slL, ↓r_BM, ↓r_append, ↓r_gsub, ↓r_setL, ↓r_Eq, ↓r_Ne, ↓r_eqD, ↓r_iList, ↓r_iTup, ↓r_iRng1, ↓r_true, ↓r_comp, ↓r_for, ↓r_raise, ↓r_callE, ↓r_try, ↓r_unnx, ↓r_unrt, ↓r_popAt, ↓r_iSeq, ↓r_iStr, r_sjoin, r_split, r_slS, r_ixS, ↓r_tryR, ↓r_insert, r_cxK, L2.start, List.map_cons, List.map_nil, List.length_cons, List.length_nil, List.cons_append, List.nil_append, List.append_nil, List.replicate, List.getElem?_cons_zero, List.getElem?_cons_succ, List.set_cons_zero, List.set_cons_succ, Option.some.injEq, V.int.injEq, V.str.injEq, V.ref.injEq, V.bl.injEq, List.cons.injEq, and_true, true_and, and_assoc, exists_and_left, exists_eq_left', exists_eq_left, exists_eq_right, exists_eq, if_true, if_false, Bool.false_eq_true, decide_eq_true_eq, scal, Nat.reduceAdd, Nat.reduceSub, reduceCtorEq, Bool.not_true, Bool.not_false]))
def top (i : Nat) : Stmt := PySem.Challenge.pw_guessroom_k46_whole_texts_of_houses.main.body.getD i (.Pass ⟨0, 0, 0, 0⟩)
abbrev s_is_mark : Stmt := top 8
theorem sc_is_mark : FnScope ["number"] ["number"] (defScope s_is_mark) := ⟨rfl, rfl, rfl, by decide +kernel, rfl, by decide +kernel, by decide +kernel⟩
abbrev s_check_letters : Stmt := top 9
theorem sc_check_letters : FnScope ["letters"] ["letters"] (defScope s_check_letters) := ⟨rfl, rfl, rfl, by decide +kernel, rfl, by decide +kernel, by decide +kernel⟩
abbrev s_check_marks : Stmt := top 10
theorem sc_check_marks : FnScope ["marks"] ["marks"] (defScope s_check_marks) := ⟨rfl, rfl, rfl, by decide +kernel, rfl, by decide +kernel, by decide +kernel⟩
abbrev s_check_rooms : Stmt := top 11
theorem sc_check_rooms : FnScope ["rooms"] ["rooms"] (defScope s_check_rooms) := ⟨rfl, rfl, rfl, by decide +kernel, rfl, by decide +kernel, by decide +kernel⟩
abbrev s_check_ways : Stmt := top 12
theorem sc_check_ways : FnScope ["letters", "rooms", "ways", "row"] ["letters", "rooms", "ways"] (defScope s_check_ways) := ⟨rfl, rfl, rfl, by decide +kernel, rfl, by decide +kernel, by decide +kernel⟩
abbrev s_made : Stmt := top 13
theorem sc_made : FnScope ["letters", "marks", "ways"] ["letters", "marks", "ways"] (defScope s_made) := ⟨rfl, rfl, rfl, by decide +kernel, rfl, by decide +kernel, by decide +kernel⟩
abbrev s_read_number : Stmt := top 17
theorem sc_read_number : FnScope ["text"] ["text"] (defScope s_read_number) := ⟨rfl, rfl, rfl, by decide +kernel, rfl, by decide +kernel, by decide +kernel⟩
abbrev s_rows_in : Stmt := top 18
theorem sc_rows_in : FnScope ["text", "rows"] ["text"] (defScope s_rows_in) := ⟨rfl, rfl, rfl, by decide +kernel, rfl, by decide +kernel, by decide +kernel⟩
abbrev s_parts_behind : Stmt := top 19
theorem sc_parts_behind : FnScope ["first", "count", "row", "parts"] ["first", "count", "row"] (defScope s_parts_behind) := ⟨rfl, rfl, rfl, by decide +kernel, rfl, by decide +kernel, by decide +kernel⟩
abbrev s_read_count : Stmt := top 20
theorem sc_read_count : FnScope ["text", "most", "count"] ["text", "most"] (defScope s_read_count) := ⟨rfl, rfl, rfl, by decide +kernel, rfl, by decide +kernel, by decide +kernel⟩
abbrev s_read_letters : Stmt := top 21
theorem sc_read_letters : FnScope ["first", "row"] ["first", "row"] (defScope s_read_letters) := ⟨rfl, rfl, rfl, by decide +kernel, rfl, by decide +kernel, by decide +kernel⟩
abbrev s_read_room : Stmt := top 22
theorem sc_read_room : FnScope ["letters", "row"] ["letters", "row"] (defScope s_read_room) := ⟨rfl, rfl, rfl, by decide +kernel, rfl, by decide +kernel, by decide +kernel⟩
abbrev s_read_house : Stmt := top 23
theorem sc_read_house : FnScope ["text", "rows", "letters", "rooms"] ["text"] (defScope s_read_house) := ⟨rfl, rfl, rfl, by decide +kernel, rfl, by decide +kernel, by decide +kernel⟩
abbrev s__law_cell_at : Stmt := top 25
theorem sc__law_cell_at : FnScope ["script", "k"] ["script", "k"] (defScope s__law_cell_at) := ⟨rfl, rfl, rfl, by decide +kernel, rfl, by decide +kernel, by decide +kernel⟩
abbrev s__law_whole : Stmt := top 26
theorem sc__law_whole : FnScope ["found"] ["found"] (defScope s__law_whole) := ⟨rfl, rfl, rfl, by decide +kernel, rfl, by decide +kernel, by decide +kernel⟩
abbrev s__law_draw : Stmt := top 27
theorem sc__law_draw : FnScope ["flow", "k", "many", "cell", "mixed"] ["flow", "k", "many"] (defScope s__law_draw) := ⟨rfl, rfl, rfl, by decide +kernel, rfl, by decide +kernel, by decide +kernel⟩
abbrev s__law_house_by : Stmt := top 28
theorem sc__law_house_by : FnScope ["flow", "letters", "cell", "rooms", "marks", "ways", "k", "at"] ["flow", "letters", "cell"] (defScope s__law_house_by) := ⟨rfl, rfl, rfl, by decide +kernel, rfl, by decide +kernel, by decide +kernel⟩
abbrev s__law_sound : Stmt := top 29
theorem sc__law_sound : FnScope ["found", "mark", "row", "room"] ["found"] (defScope s__law_sound) := ⟨rfl, rfl, rfl, by decide +kernel, rfl, by decide +kernel, by decide +kernel⟩
abbrev s__law_house_text : Stmt := top 30
theorem sc__law_house_text : FnScope ["house", "text", "room", "way"] ["house"] (defScope s__law_house_text) := ⟨rfl, rfl, rfl, by decide +kernel, rfl, by decide +kernel, by decide +kernel⟩
abbrev s__law_sign_by : Stmt := top 31
theorem sc__law_sign_by : FnScope ["cell", "some"] ["cell"] (defScope s__law_sign_by) := ⟨rfl, rfl, rfl, by decide +kernel, rfl, by decide +kernel, by decide +kernel⟩
abbrev s__law_spoiled : Stmt := top 32
theorem sc__law_spoiled : FnScope ["text", "cell", "often", "spot", "sign"] ["text", "cell", "often"] (defScope s__law_spoiled) := ⟨rfl, rfl, rfl, by decide +kernel, rfl, by decide +kernel, by decide +kernel⟩
abbrev s__law_rows_spoiled : Stmt := top 33
theorem sc__law_rows_spoiled : FnScope ["text", "cell", "rows", "spot", "other", "row"] ["text", "cell"] (defScope s__law_rows_spoiled) := ⟨rfl, rfl, rfl, by decide +kernel, rfl, by decide +kernel, by decide +kernel⟩
abbrev s__law_thing_spoiled : Stmt := top 34
theorem sc__law_thing_spoiled : FnScope ["text", "cell", "odd", "rows", "spot", "things"] ["text", "cell"] (defScope s__law_thing_spoiled) := ⟨rfl, rfl, rfl, by decide +kernel, rfl, by decide +kernel, by decide +kernel⟩
abbrev s__law_read : Stmt := top 35
theorem sc__law_read : FnScope ["text", "signs", "found", "e"] ["text"] (defScope s__law_read) := ⟨rfl, rfl, rfl, by decide +kernel, rfl, by decide +kernel, by decide +kernel⟩
abbrev s_law : Stmt := top 36
theorem sc_law : FnScope ["script", "letters", "text", "turn", "cell"] ["script"] (defScope s_law) := ⟨rfl, rfl, rfl, by decide +kernel, rfl, by decide +kernel, by decide +kernel⟩
def c_check_marks_0 : Caps := [("mark", none)]
theorem nd_c_check_marks_0 : (Caps.names c_check_marks_0).Nodup := by decide +kernel
def c_check_ways_0 : Caps := [("goal", none), ("rooms", some 1)]
theorem nd_c_check_ways_0 : (Caps.names c_check_ways_0).Nodup := by decide +kernel
def c_made_0 : Caps := [("row", none)]
theorem nd_c_made_0 : (Caps.names c_made_0).Nodup := by decide +kernel
def c_read_number_0 : Caps := [("sign", none)]
theorem nd_c_read_number_0 : (Caps.names c_read_number_0).Nodup := by decide +kernel
def c_read_room_0 : Caps := [("part", none)]
theorem nd_c_read_room_0 : (Caps.names c_read_room_0).Nodup := by decide +kernel
def c_read_house_0 : Caps := [("row", none), ("letters", some 2)]
theorem nd_c_read_house_0 : (Caps.names c_read_house_0).Nodup := by decide +kernel
def c_read_house_1 : Caps := [("room", none)]
theorem nd_c_read_house_1 : (Caps.names c_read_house_1).Nodup := by decide +kernel
def c_read_house_2 : Caps := [("room", none)]
theorem nd_c_read_house_2 : (Caps.names c_read_house_2).Nodup := by decide +kernel
def c__law_house_by_0 : Caps := [("letter", none), ("flow", some 0), ("rooms", some 3), ("at", some 7)]
theorem nd_c__law_house_by_0 : (Caps.names c__law_house_by_0).Nodup := by decide +kernel
structure Txt (mg : Str -> Option Value) : Prop where
  ValueError : mg "ValueError" = none
  all : mg "all" = none
  bool : mg "bool" = none
  int : mg "int" = none
  isinstance : mg "isinstance" = none
  len : mg "len" = none
  max : mg "max" = none
  min : mg "min" = none
  range : mg "range" = none
  str : mg "str" = none
  tuple : mg "tuple" = none
structure Own (K : PySem.W.Frag) (mg : Str -> Option Value) : Prop where
  q_FIGURES : ∃ t, mg "FIGURES" = some (.str "0123456789" t)
  q_MOST_FIGURES : ∃ t, mg "MOST_FIGURES" = some (.int 10 t)
  q_MOST_LETTERS : ∃ t, mg "MOST_LETTERS" = some (.int 6 t)
  q_MOST_MARK : ∃ t, mg "MOST_MARK" = some (.int 1000000000 t)
  q_MOST_ROOMS : ∃ t, mg "MOST_ROOMS" = some (.int 40 t)
structure Exs (K : PySem.W.Frag) (mg : Str -> Option Value) (C_AskError C_BadHouse C_NoText : Addr) : Prop where
  m_AskError : mg "AskError" = some (.ref C_AskError)
  m_BadHouse : mg "BadHouse" = some (.ref C_BadHouse)
  m_NoText : mg "NoText" = some (.ref C_NoText)
  x_BadHouse : PySem.W.excIn K C_BadHouse bmV "ValueError.__new__" = true
  c_BadHouse : ExcCls K C_BadHouse
  e_BadHouse : PySem.W.exmOne K (.ref C_BadHouse) (.ref C_AskError) = some true
  v_BadHouse : PySem.W.kitOne K (.ref C_BadHouse) (.type "ValueError") = some true
  ee_BadHouse : PySem.W.exmOne K (.ref C_BadHouse) (.ref C_BadHouse) = some true
  k_BadHouse_AskError : PySem.W.kitOne K (.ref C_BadHouse) (.ref C_AskError) = some true
  k_BadHouse_BadHouse : PySem.W.kitOne K (.ref C_BadHouse) (.ref C_BadHouse) = some true
  k_BadHouse_NoText : PySem.W.kitOne K (.ref C_BadHouse) (.ref C_NoText) = some false
  x_NoText : PySem.W.excIn K C_NoText bmV "ValueError.__new__" = true
  c_NoText : ExcCls K C_NoText
  e_NoText : PySem.W.exmOne K (.ref C_NoText) (.ref C_AskError) = some true
  v_NoText : PySem.W.kitOne K (.ref C_NoText) (.type "ValueError") = some true
  ee_NoText : PySem.W.exmOne K (.ref C_NoText) (.ref C_NoText) = some true
  k_NoText_AskError : PySem.W.kitOne K (.ref C_NoText) (.ref C_AskError) = some true
  k_NoText_BadHouse : PySem.W.kitOne K (.ref C_NoText) (.ref C_BadHouse) = some false
  k_NoText_NoText : PySem.W.kitOne K (.ref C_NoText) (.ref C_NoText) = some true
section
variable {P : Program} {w : World} {K : PySem.W.Frag} {mg : Str -> Option Value} {base : Heap}
variable {C_AskError C_BadHouse C_NoText : Addr}
def sp_is_mark : Sp := fun vs H Q _ => ∃ n : Int, vs = [.int n] /\ Q (.bl (decide (0 <= n) && decide (n <= 1000000000))) H
theorem ok_is_mark {f : Addr} {fd : FuncData} (F : Fun K "is_mark" "is_mark" s_is_mark f fd) (T : Txt mg)
    (W : Own K mg)
    (Z : Exs K mg C_AskError C_BadHouse C_NoText)
    : FnOk P w K mg base CX0 1 f fd ["number"] (sp_is_mark) := by
  refine F.ok sc_is_mark (fun vs H Q E h => ?_) (fun cdv A outer s H vs Q E hr h => ?_)
  . obtain ⟨n, rfl, _⟩ := h; rfl
  . obtain ⟨n, rfl, k⟩ := h
    refine ⟨_, (pss_one (ps_ret (pe_chain op_le op_le pe_int (pv 0) (pe_gc rfl W.q_MOST_MARK)))), ?_⟩
    walk_at "rd"
    by_cases h0 : 0 <= n
    . simp only [h0, if_true]
      simpa [h0] using k
    . simp only [h0, if_false]
      simpa [h0] using k
theorem slice_len (z : Str) (a b : Option Int) : (Txt.slice z a b).length <= z.length := Txt.slice_le z a b
theorem jn_len (c : Nat) : ∀ ps : List (List Nat), ps ≠ [] -> (jn c ps).length + 1 = (ps.map fun p => p.length + 1).sum
  | [], h => absurd rfl h
  | [p], _ => by simp [jn]
  | p :: q :: r, _ => by
    have := jn_len c (q :: r) (by simp)
    show (p ++ c :: jn c (q :: r)).length + 1 = _
    rw [List.map_cons, List.sum_cons, <- this, List.length_append, List.length_cons]
    omega
theorem cl_len (z : Str) : z.cps.toList.length = z.length := by simp [Str.length]
theorem splitX {c : Nat} (hc : c < 128) (z : Str) : Txt.split z ⟨#[c]⟩ ≠ [] /\ z.cps.toList = jn c ((Txt.split z ⟨#[c]⟩).map fun p : Str => p.cps.toList) /\ (∀ p ∈ Txt.split z ⟨#[c]⟩, c ∉ p.cps.toList) /\ ((Txt.split z ⟨#[c]⟩).map fun p : Str => p.length + 1).sum = z.length + 1 := by
  have h1 := split_ne z ⟨#[c]⟩
  have h2 : z.cps.toList = jn c ((Txt.split z ⟨#[c]⟩).map fun p : Str => p.cps.toList) := by
    have := congrArg (fun x : Str => x.cps.toList) (StrLaws.join_split z ⟨#[c]⟩)
    rw [join_jn] at this
    exact this.symm
  refine ⟨h1, h2, split_free z c (.inl (kind_one hc z)), ?_⟩
  have h3 := jn_len c ((Txt.split z ⟨#[c]⟩).map fun p : Str => p.cps.toList) (by simpa using h1)
  rw [<- h2, cl_len, List.map_map] at h3
  rw [h3]
  congr 1
theorem sum_mem {ps : List Str} {p : Str} (h : p ∈ ps) : p.length + 1 <= (ps.map fun p : Str => p.length + 1).sum := by
  induction ps with
  | nil => cases h
  | cons q r ih =>
    rw [List.map_cons, List.sum_cons]
    rcases List.mem_cons.mp h with rfl | h
    . omega
    . have := ih h; omega
theorem sum_len (ps : List Str) : ps.length <= (ps.map fun p : Str => p.length + 1).sum := by
  induction ps with
  | nil => simp
  | cons q r ih => rw [List.map_cons, List.sum_cons, List.length_cons]; omega
theorem join_strs {c : Nat} {z : Str} {ps : List Str} (h : z.cps.toList = jn c (ps.map fun p : Str => p.cps.toList)) : z = Txt.join ⟨#[c]⟩ ps := by
  refine Str.ext' (Array.toList_inj.mp ?_)
  rw [h]
  show _ = (Builtin.Str.glued ⟨#[c]⟩ ps).cps.toList
  rw [StrLaws.glued_eq_join, join_jn]
def dgB (c : Nat) : Bool := !(Builtin.Str.occurrences (Str.ofString "0123456789") ⟨#[c]⟩ 0 (Str.ofString "0123456789").length 1).isEmpty
theorem dgB_iff {c : Nat} (h : dgB c = true) : 48 <= c /\ c <= 57 := by
  unfold dgB at h
  have hf : ∀ x ∈ (Str.ofString "0123456789").cps.toList, 48 <= x /\ x <= 57 := by decide +kernel
  rcases StrLaws.occ_head (Str.ofString "0123456789") ⟨#[c]⟩ 1 (Nat.le_refl _) with ⟨h0, hno⟩ | ⟨i, r', h0, hat, hno⟩
  . rw [h0] at h; cases h
  . exact hf c (List.mem_of_getElem? ((StrLaws.subAt_one _ c i).mp hat))
open PySem.NumText in
theorem nt_of {z : Str} (hd : ∀ c ∈ z.cps.toList, 48 <= c /\ c <= 57) (h1 : 1 <= z.length) (h10 : z.length <= 10) (hh : z.cps.toList[0]? ≠ some 48 \/ z = ⟨#[48]⟩) : ∃ n : Int, 0 <= n /\ n < 10 ^ 10 /\ z = nt n := by
  rcases hh with hh | rfl
  . obtain ⟨c, r, e⟩ : ∃ c r, z.cps.toList = c :: r := by
      cases e : z.cps.toList with
      | nil => have := cl_len z; rw [e] at this; simp at this; omega
      | cons c r => exact ⟨c, r, rfl⟩
    have hc : 49 <= c := by
      have := hd c (by rw [e]; exact List.mem_cons_self ..)
      rw [e] at hh
      have : c ≠ 48 := fun z => hh (by rw [z]; rfl)
      omega
    have hlen : (c :: r).length = z.length := by rw [<- e, cl_len]
    have htd := toDigits_digitsVal r.length (c :: r) rfl (fun d hd' => hd d (by rw [e]; exact hd')) (.inr ⟨c, r, rfl, hc⟩)
    have hb : ∀ (cs : List Nat) (a : Nat), (∀ d ∈ cs, 48 <= d /\ d <= 57) -> cs.foldl (fun acc c => acc * 10 + (c - 48)) a < (a + 1) * 10 ^ cs.length := by
      intro cs
      induction cs with
      | nil => intro a _; simp
      | cons d cs ih =>
        intro a h
        have h1 := ih (a * 10 + (d - 48)) (fun x hx => h x (List.mem_cons_of_mem _ hx))
        have h2 := h d (List.mem_cons_self ..)
        rw [List.foldl_cons, List.length_cons, Nat.pow_succ]
        refine Nat.lt_of_lt_of_le h1 ?_
        rw [Nat.mul_comm (10 ^ cs.length) 10, <- Nat.mul_assoc]
        exact Nat.mul_le_mul_right _ (by omega)
    refine ⟨(digitsVal (c :: r) : Nat), by omega, ?_, ?_⟩
    . have h := hb (c :: r) 0 (fun d hd' => hd d (by rw [e]; exact hd'))
      have h2 : (10 : Nat) ^ (c :: r).length <= 10 ^ 10 := Nat.pow_le_pow_right (by decide) (by omega)
      have h3 : digitsVal (c :: r) < 10 ^ 10 := by
        unfold digitsVal
        omega
      have : (10 : Nat) ^ 10 = 10000000000 := by decide
      omega
    . refine Str.ext' (Array.toList_inj.mp ?_)
      rw [nt_signs, htd, List.map_map, e]
      have : (c :: r).map (Char.toNat ∘ Char.ofNat) = (c :: r).map id := List.map_congr_left fun d hd' => by
        have := hd d (by rw [e]; exact hd')
        have hx : ∀ d : Nat, d < 128 -> (Char.ofNat d).toNat = d := by decide
        exact hx d (by omega)
      rw [this, List.map_id]
  . exact ⟨0, by decide, by decide, nt_zero.symm⟩
theorem spc : Str.ofString " " = ⟨#[32]⟩ := by decide +kernel
theorem nwl : Str.ofString "\n" = ⟨#[10]⟩ := by decide +kernel
def rowS (ps : List Str) : Str := Txt.join (Str.ofString " ") ps
def rowL (ps : List Str) : List Nat := jn 32 (ps.map fun p : Str => p.cps.toList) ++ [10]
def tL (rows : List (List Str)) : List Nat := (rows.map rowL).flatten
theorem rowS_cps (ps : List Str) : (rowS ps).cps.toList = jn 32 (ps.map fun p : Str => p.cps.toList) := by
  show (Builtin.Str.glued (Str.ofString " ") ps).cps.toList = _
  rw [StrLaws.glued_eq_join, spc, join_jn]
theorem jn_ends (c : Nat) : ∀ xs : List (List Nat), jn c (xs ++ [[]]) = (xs.map (· ++ [c])).flatten
  | [] => rfl
  | [p] => by simp [jn]
  | p :: q :: r => by
    have := jn_ends c (q :: r)
    show p ++ c :: jn c (q :: r ++ [[]]) = _
    rw [this]
    simp
theorem forB {K : PySem.W.Frag} {t : Bool} {a : Addr} {xs : List V} {g : TG} {tb : TS} {D : Ends} {σ : St} {H : Hp} (Pv : Nat -> St -> Hp -> Prop) (h0 : Pv 0 σ H) (hl : ∀ i σ H, i <= xs.length -> Pv i σ H -> SqB K H t a xs)
    (hs : ∀ i x σ H, xs[i]? = some x -> Pv i σ H -> g x σ H fun σ2 H2 => tb { D with nx := Pv (i + 1), ct := Pv (i + 1), bk := D.nx } σ2 H2) (hd : ∀ σ H, Pv xs.length σ H -> D.nx σ H) : ((∃ xs, SqL K H a xs) /\ ForW (Itl K a) g tb D σ H) \/ ((∃ xs, SqT K H a xs) /\ ForW (Itt K a) g tb D σ H) := by
  cases t
  . exact .inl ⟨⟨_, hl 0 σ H (Nat.zero_le _) h0⟩, forL Pv h0 hl hs hd⟩
  . exact .inr ⟨⟨_, hl 0 σ H (Nat.zero_le _) h0⟩, forT Pv h0 hl hs hd⟩
def RowsB (K : PySem.W.Frag) (H : Hp) (xs : List V) (ws : List (List Int)) : Prop := xs.length = ws.length /\ ∀ (i : Nat) (r : List Int), ws[i]? = some r -> ∃ (t : Bool) (a : Addr), xs[i]? = some (.ref a) /\ SqB K H t a (r.map V.int)
theorem RowsB.mono {K : PySem.W.Frag} {H H' : Hp} {xs : List V} {ws : List (List Int)} (h : RowsB K H xs ws) (s : Same H H') : RowsB K H' xs ws := by
  refine ⟨h.1, fun i r hi => ?_⟩
  obtain ⟨t, a, e, b⟩ := h.2 i r hi
  exact ⟨t, a, e, b.mono s⟩
theorem RowsB.at {K : PySem.W.Frag} {H : Hp} {xs : List V} {ws : List (List Int)} (h : RowsB K H xs ws) {i : Nat} {x : V} (hx : xs[i]? = some x) : ∃ (r : List Int) (t : Bool) (a : Addr), ws[i]? = some r /\ x = .ref a /\ SqB K H t a (r.map V.int) := by
  have hi : i < ws.length := by rw [<- h.1]; exact (List.getElem?_eq_some_iff.mp hx).1
  obtain ⟨t, a, e, b⟩ := h.2 i ws[i] (by simp [hi])
  rw [hx] at e
  exact ⟨ws[i], t, a, by simp [hi], Option.some.inj e, b⟩
def mkB (n : Int) : Bool := decide (0 <= n) && decide (n <= 1000000000)
def okM (ms : List Int) : Bool := ms.all mkB
def goB (n g : Int) : Bool := decide (0 <= g) && decide (g < n)
def okR (L n : Int) (r : List Int) : Bool := decide ((r.length : Int) = L) && r.all (goB n)
def okH (L : Int) (ms : List Int) (ws : List (List Int)) : Bool := (decide (1 <= L) && decide (L <= 6)) && ((decide (1 <= ms.length) && decide (ms.length <= 40)) && (okM ms && (decide (ws.length = ms.length) && ws.all (okR L ms.length))))
def sp_chl (BH : Addr) : Sp := fun vs H Q E => ∃ L : Int, vs = [.int L] /\ ((decide (1 <= L) && decide (L <= 6)) = true -> Q .non H) /\ ((decide (1 <= L) && decide (L <= 6)) = false -> E (.ref BH) none H)
theorem ok_check_letters {f : Addr} {fd : FuncData} (F : Fun K "check_letters" "check_letters" s_check_letters f fd) (T : Txt mg)
    (W : Own K mg)
    (Z : Exs K mg C_AskError C_BadHouse C_NoText)
    : FnOk P w K mg base (CXq P w) 1 f fd ["letters"] (sp_chl C_BadHouse) := by
  refine F.okQ sc_check_letters (fun vs H Q E h => ?_) (fun cdv A outer s H vs Q E hr h => ?_)
  . obtain ⟨L, rfl, _⟩ := h; rfl
  . obtain ⟨L, rfl, k, kE⟩ := h
    have hl := line1000
    refine ⟨_, (pss_one (ps_if (pt_not (pt_chain op_le op_le pe_int (pv 0) (pe_gc rfl W.q_MOST_LETTERS)))
      (pss_one (ps_raiseQ Z.m_BadHouse Z.x_BadHouse rfl rfl (pa_cons pe_str pa_nil)))
      pss_nil)), ?_⟩
    walk_at "rd"
    by_cases h1 : 1 <= L
    . rw [if_pos h1]
      by_cases h6 : L <= 6
      . rw [if_neg (by simp [h6])]; exact k (by simp [h1, h6])
      . rw [if_pos (by simp [h6])]; exact ⟨by omega, kE (by simp [h6])⟩
    . rw [if_neg h1]; exact ⟨by omega, kE (by simp [h1])⟩
def sp_chr (BH : Addr) : Sp := fun vs H Q E => ∃ n : Nat, vs = [.int n] /\ ((decide (1 <= n) && decide (n <= 40)) = true -> Q .non H) /\ ((decide (1 <= n) && decide (n <= 40)) = false -> E (.ref BH) none H)
theorem ok_check_rooms {f : Addr} {fd : FuncData} (F : Fun K "check_rooms" "check_rooms" s_check_rooms f fd) (T : Txt mg)
    (W : Own K mg)
    (Z : Exs K mg C_AskError C_BadHouse C_NoText)
    : FnOk P w K mg base (CXq P w) 1 f fd ["rooms"] (sp_chr C_BadHouse) := by
  refine F.okQ sc_check_rooms (fun vs H Q E h => ?_) (fun cdv A outer s H vs Q E hr h => ?_)
  . obtain ⟨L, rfl, _⟩ := h; rfl
  . obtain ⟨L, rfl, k, kE⟩ := h
    have hl := line1000
    refine ⟨_, (pss_one (ps_if (pt_not (pt_chain op_le op_le pe_int (pv 0) (pe_gc rfl W.q_MOST_ROOMS)))
      (pss_one (ps_raiseQ Z.m_BadHouse Z.x_BadHouse rfl rfl (pa_cons pe_str pa_nil)))
      pss_nil)), ?_⟩
    walk_at "rd"
    by_cases h1 : 1 <= L
    . rw [if_pos (by omega)]
      by_cases h6 : L <= 40
      . rw [if_neg (by simp; omega)]; exact k (by simp [h1, h6])
      . rw [if_pos (by simp; omega)]; exact ⟨by omega, kE (by simp [h6])⟩
    . rw [if_neg (by omega)]; exact ⟨by omega, kE (by simp [h1])⟩
def sp_chm (K : PySem.W.Frag) (BH : Addr) : Sp := fun vs H Q E => ∃ (t : Bool) (a : Addr) (ms : List Int), vs = [.ref a] /\ SqB K H t a (ms.map V.int) /\ ms.length <= 900000 /\ (okM ms = true -> ∀ H', Same H H' -> Q .non H') /\ (okM ms = false -> ∀ H', Same H H' -> E (.ref BH) none H')
theorem ok_check_marks {f : Addr} {fd : FuncData} (F : Fun K "check_marks" "check_marks" s_check_marks f fd) (T : Txt mg)
    (W : Own K mg)
    (Z : Exs K mg C_AskError C_BadHouse C_NoText)
    {f_is_mark : Addr} {fd_is_mark : FuncData} (g_is_mark : FnOk P w K mg base CX0 1 f_is_mark fd_is_mark ["number"] (sp_is_mark)) (F_is_mark : Fun K "is_mark" "is_mark" s_is_mark f_is_mark fd_is_mark) (b_is_mark : Binds K fd_is_mark ["number"] []) (m_is_mark : mg "is_mark" = some (.ref f_is_mark))
    : FnOk P w K mg base (CXq P w) 2 f fd ["marks"] (sp_chm K C_BadHouse) := by
  refine F.okQ sc_check_marks (fun vs H Q E h => ?_) (fun cdv A outer s H vs Q E hr h => ?_)
  . obtain ⟨t, a, ms, rfl, _⟩ := h; rfl
  . obtain ⟨t, a, ms, rfl, ha, hz, k, kE⟩ := h
    have hl := line1000
    refine ⟨_, (pss_one (ps_if (pt_not (pt_val (pe_callB (call_all rfl) rfl T.all PyProof.Rows.boot_all (pa_cons (pe_comp rfl (blk_mk rfl) (cp := c_check_marks_0) True.intro (pi_seq (pv 0)) (fun _ _ _ _ => (pg_name (i := 0) nd_c_check_marks_0 rfl (Or.inl rfl))) (fun _ _ _ _ => pf_nil) (fun _ _ _ _ => (pe_call g_is_mark (hr.mono (by decide)) rfl m_is_mark F_is_mark.kp b_is_mark .nil pass0 (pa_cons (pv 0) pa_nil)))) pa_nil))))
      (pss_one (ps_raiseQ Z.m_BadHouse Z.x_BadHouse rfl rfl (pa_cons pe_str pa_nil)))
      pss_nil)), ?_⟩
    walk_at "rd"
    refine compMapB (σ' := []) (fun x => match x with | .int n => .bl (mkB n) | _ => .non) rfl ha (by rw [List.length_map]; omega) (fun x hx R hR => ?_) (fun D hD => ?_)
    . obtain ⟨n, _, rfl⟩ := mem_mapI hx
      walk_at "rd"
      exact ⟨n, rfl, hR⟩
    . refine ⟨D, rfl, ms.map mkB, SqL.of ?_, ?_⟩
      . rw [upd_same, List.map_map, List.map_map]; rfl
      rw [List.all_map]
      cases hv : okM ms with
      | true =>
        rw [if_neg (by rw [show ms.all (id ∘ mkB) = true from hv]; decide)]
        exact k hv _ (Same.new hD)
      | false =>
        rw [if_pos (by rw [show ms.all (id ∘ mkB) = false from hv]; decide)]
        exact ⟨by omega, kE hv _ (Same.new hD)⟩
def sp_chw (K : PySem.W.Frag) (BH : Addr) : Sp := fun vs H Q E => ∃ (t : Bool) (a : Addr) (L : Int) (n : Nat) (xs : List V) (ws : List (List Int)), vs = [.int L, .int n, .ref a] /\ SqB K H t a xs /\ RowsB K H xs ws /\ (∀ r ∈ ws, r.length <= 900000) /\ ((decide (ws.length = n) && ws.all (okR L n)) = true -> ∀ H', Same H H' -> Q .non H') /\ ((decide (ws.length = n) && ws.all (okR L n)) = false -> ∀ H', Same H H' -> E (.ref BH) none H')
theorem ok_check_ways {f : Addr} {fd : FuncData} (F : Fun K "check_ways" "check_ways" s_check_ways f fd) (T : Txt mg)
    (W : Own K mg)
    (Z : Exs K mg C_AskError C_BadHouse C_NoText)
    : FnOk P w K mg base (CXq P w) 1 f fd ["letters", "rooms", "ways"] (sp_chw K C_BadHouse) := by
  refine F.okQ sc_check_ways (fun vs H Q E h => ?_) (fun cdv A outer s H vs Q E hr h => ?_)
  . obtain ⟨t, a, L, n, xs, ws, rfl, _⟩ := h; rfl
  . obtain ⟨t, a, L, n, xs, ws, rfl, ha, hr, hz, k, kE⟩ := h
    have hl := line1000
    refine ⟨_, (pss_cons (ps_if (pt_cmpR op_ne (pe_callB call_len_seq (by rfl) T.len PySem.boot_len (pa_cons (pv 2) pa_nil)) (pv 1) (nomark _))
      (pss_one (ps_raiseQ Z.m_BadHouse Z.x_BadHouse rfl rfl (pa_cons pe_str pa_nil)))
      pss_nil)
      (pss_one (ps_for PassesOwn.leaving rfl (pi_seq (pv 2)) (pg_name (i := 3) sc_check_ways.nd rfl (Or.inl rfl))
      (pss_cons (ps_if (pt_cmpR op_ne (pe_callB call_len_seq (by rfl) T.len PySem.boot_len (pa_cons (pv 3) pa_nil)) (pv 0) (nomark _))
      (pss_one (ps_raiseQ Z.m_BadHouse Z.x_BadHouse rfl rfl (pa_cons pe_str pa_nil)))
      pss_nil)
      (pss_one (ps_if (pt_not (pt_val (pe_callB (call_all rfl) rfl T.all PyProof.Rows.boot_all (pa_cons (pe_comp rfl (blk_mk rfl) (cp := c_check_ways_0) ⟨⟨rfl, rfl⟩, True.intro⟩ (pi_seq (pv 3)) (fun _ _ _ _ => (pg_name (i := 0) nd_c_check_ways_0 rfl (Or.inl rfl))) (fun _ _ _ _ => pf_nil) (fun _ _ _ _ => (pe_chain op_le op_lt pe_int (pv 0) (pv 1)))) pa_nil))))
      (pss_one (ps_raiseQ Z.m_BadHouse Z.x_BadHouse rfl rfl (pa_cons pe_str pa_nil)))
      pss_nil)))))), ?_⟩
    walk_at "rd"
    refine ⟨_, ha.or, ?_⟩
    rw [hr.1]
    by_cases hn : ws.length = n
    . rw [if_neg (by simp; omega)]
      rw [decide_eq_true hn, Bool.true_and] at k kE
      obtain ⟨Pv, hPv⟩ : ∃ Pv : Nat -> St -> Hp -> Prop, ∀ i σ' H', Pv i σ' H' ↔ (Same H H' /\ (ws.take i).all (okR L n) = true /\ ∃ o, σ' = [some (.int L), some (.int n), some (.ref a), o]) := ⟨_, fun _ _ _ => Iff.rfl⟩
      refine forB (t := t) (xs := xs) Pv ((hPv _ _ _).mpr ⟨Same.refl _, by simp, none, rfl⟩) (fun i σ' H' _ h' => ha.mono ((hPv _ _ _).mp h').1) (fun i x σ' H' hx h' => ?_) (fun σ' H' h' => ?_)
      . obtain ⟨s1, hall, o, rfl⟩ := (hPv _ _ _).mp h'
        obtain ⟨r, t', a', hri, rfl, hB⟩ := (hr.mono s1).at hx
        have hz' := hz r (List.mem_of_getElem? hri)
        have hbad : okR L n r = false -> ws.all (okR L n) = false := fun hb => by
          rw [List.all_eq_false]
          exact ⟨r, List.mem_of_getElem? hri, by rw [hb]; decide⟩
        walk_at "rd"
        refine ⟨_, hB.or, ?_⟩
        rw [List.length_map]
        by_cases hL : (r.length : Int) = L
        . rw [if_neg (by simp [hL])]
          refine compMapB (σ' := [some (.int n)]) (fun x => match x with | .int g => .bl (goB n g) | _ => .non) rfl hB (by rw [List.length_map]; omega) (fun x hx R hR => ?_) (fun D hD => ?_)
          . obtain ⟨g, _, rfl⟩ := mem_mapI hx
            walk_at "rd"
            by_cases h0 : 0 <= g
            . simp only [h0, if_true]
              simpa [goB, h0] using hR
            . simp only [h0, if_false]
              simpa [goB, h0] using hR
          . refine ⟨D, rfl, r.map (goB n), SqL.of ?_, ?_⟩
            . rw [upd_same, List.map_map, List.map_map]; rfl
            rw [List.all_map]
            have e1 : okR L n r = r.all (id ∘ goB n) := by unfold okR; rw [decide_eq_true hL, Bool.true_and]; rfl
            cases hv : okR L n r with
            | true =>
              rw [if_neg (by rw [<- e1, hv]; decide)]
              refine (hPv _ _ _).mpr ⟨s1.newT hD, ?_, _, rfl⟩
              rw [List.take_add_one, hri, List.all_append, hall]
              simp [hv]
            | false =>
              rw [if_pos (by rw [<- e1, hv]; decide)]
              exact ⟨by omega, kE (hbad hv) _ (s1.newT hD)⟩
        . rw [if_pos (by simp [hL])]
          exact ⟨by omega, kE (hbad (by unfold okR; rw [decide_eq_false hL]; rfl)) _ s1⟩
      . obtain ⟨s1, hall, o, rfl⟩ := (hPv _ _ _).mp h'
        rw [hr.1, List.take_length] at hall
        exact k hall _ s1
    . rw [if_pos (by simp; omega)]
      exact ⟨by omega, kE (by simp [hn]) _ (Same.refl _)⟩
theorem compB {K : PySem.W.Frag} {cp : Caps} {g : TG} {tc : TT} {te : TE} {Q : VK} {σ : St} {H : Hp} {t : Bool} {a : Addr} {xs : List V} (Pv : Nat -> List V -> St -> Hp -> Prop) (h0 : Pv 0 [] (cp.st σ) H) (hz : xs.length < sizeLine)
    (hl : ∀ i ys σ H, i <= xs.length -> Pv i ys σ H -> SqB K H t a xs /\ ys.length <= i) (hl0 : SqB K H t a xs)
    (hs : ∀ i x ys σ H, xs[i]? = some x -> Pv i ys σ H -> g x σ H fun σ2 H2 => tc σ2 H2 fun b H3 => if b = true then te σ2 H3 fun v H4 => Pv (i + 1) (ys ++ [v]) σ2 H4 else Pv (i + 1) ys σ2 H3)
    (hd : ∀ ys σ H, Pv xs.length ys σ H -> ∀ D, H D = none -> Q (.ref D) (upd H D (.lst ys))) : ((∃ xs, SqL K H a xs) /\ CompW (Itl K a) cp g tc te σ H Q) \/ ((∃ xs, SqT K H a xs) /\ CompW (Itt K a) cp g tc te σ H Q) := by
  cases t
  . exact .inl ⟨⟨_, hl0⟩, compL Pv h0 hz hl hs hd⟩
  . exact .inr ⟨⟨_, hl0⟩, compT Pv h0 hz hl hs hd⟩
def RowsT (K : PySem.W.Frag) (H : Hp) (zs : List V) (ws : List (List Int)) : Prop := zs.length = ws.length /\ ∀ (i : Nat) (r : List Int), ws[i]? = some r -> ∃ c, zs[i]? = some (.ref c) /\ SqT K H c (r.map V.int)
theorem RowsT.nil {K : PySem.W.Frag} {H : Hp} : RowsT K H [] [] := ⟨rfl, fun i r h => by simp at h⟩
theorem RowsT.mono {K : PySem.W.Frag} {H H' : Hp} {xs : List V} {ws : List (List Int)} (h : RowsT K H xs ws) (s : Same H H') : RowsT K H' xs ws := by
  refine ⟨h.1, fun i r hi => ?_⟩
  obtain ⟨a, e, b⟩ := h.2 i r hi
  exact ⟨a, e, s.seqT b⟩
theorem RowsT.snoc {K : PySem.W.Frag} {H : Hp} {xs : List V} {rws : List (List Int)} {t : Addr} {r : List Int} (h : RowsT K H xs rws) (ht : SqT K H t (r.map V.int)) : RowsT K H (xs ++ [.ref t]) (rws ++ [r]) := by
  refine ⟨by simp [h.1], fun i r' hi => ?_⟩
  by_cases hl : i < rws.length
  . rw [List.getElem?_append_left hl] at hi
    rw [List.getElem?_append_left (by rw [h.1]; exact hl)]
    exact h.2 i r' hi
  . have := (List.getElem?_eq_some_iff.mp hi).1
    rw [List.length_append, List.length_singleton] at this
    have e : i = rws.length := by omega
    subst e
    rw [List.getElem?_append_right (Nat.le_refl _), Nat.sub_self] at hi
    simp at hi
    subst hi
    exact ⟨t, by rw [<- h.1]; simp, ht⟩
def sp_made (K : PySem.W.Frag) (BH : Addr) : Sp := fun vs H Q E => ∃ (t t2 : Bool) (a b : Addr) (L : Int) (ms : List Int) (xs : List V) (ws : List (List Int)), vs = [.int L, .ref a, .ref b] /\ SqB K H t a (ms.map V.int) /\ SqB K H t2 b xs /\ RowsB K H xs ws /\ ms.length <= 900000 /\ ws.length <= 900000 /\ (∀ r ∈ ws, r.length <= 900000) /\
  (okH L ms ws = true -> ∀ h m y zs H', Same H H' -> H' h = some (.tup [.int L, .ref m, .ref y]) -> SqT K H' m (ms.map V.int) -> H' y = some (.tup zs) -> RowsT K H' zs ws -> Q (.ref h) H') /\ (okH L ms ws = false -> ∀ H', Same H H' -> E (.ref BH) none H')
theorem ok_made {f : Addr} {fd : FuncData} (F : Fun K "made" "made" s_made f fd) (T : Txt mg)
    (W : Own K mg)
    (Z : Exs K mg C_AskError C_BadHouse C_NoText)
    {f_check_letters : Addr} {fd_check_letters : FuncData} (g_check_letters : FnOk P w K mg base (CXq P w) 1 f_check_letters fd_check_letters ["letters"] (sp_chl C_BadHouse)) (F_check_letters : Fun K "check_letters" "check_letters" s_check_letters f_check_letters fd_check_letters) (b_check_letters : Binds K fd_check_letters ["letters"] []) (m_check_letters : mg "check_letters" = some (.ref f_check_letters))
    {f_check_marks : Addr} {fd_check_marks : FuncData} (g_check_marks : FnOk P w K mg base (CXq P w) 2 f_check_marks fd_check_marks ["marks"] (sp_chm K C_BadHouse)) (F_check_marks : Fun K "check_marks" "check_marks" s_check_marks f_check_marks fd_check_marks) (b_check_marks : Binds K fd_check_marks ["marks"] []) (m_check_marks : mg "check_marks" = some (.ref f_check_marks))
    {f_check_rooms : Addr} {fd_check_rooms : FuncData} (g_check_rooms : FnOk P w K mg base (CXq P w) 1 f_check_rooms fd_check_rooms ["rooms"] (sp_chr C_BadHouse)) (F_check_rooms : Fun K "check_rooms" "check_rooms" s_check_rooms f_check_rooms fd_check_rooms) (b_check_rooms : Binds K fd_check_rooms ["rooms"] []) (m_check_rooms : mg "check_rooms" = some (.ref f_check_rooms))
    {f_check_ways : Addr} {fd_check_ways : FuncData} (g_check_ways : FnOk P w K mg base (CXq P w) 1 f_check_ways fd_check_ways ["letters", "rooms", "ways"] (sp_chw K C_BadHouse)) (F_check_ways : Fun K "check_ways" "check_ways" s_check_ways f_check_ways fd_check_ways) (b_check_ways : Binds K fd_check_ways ["letters", "rooms", "ways"] []) (m_check_ways : mg "check_ways" = some (.ref f_check_ways))
    : FnOk P w K mg base (CXq P w) 3 f fd ["letters", "marks", "ways"] (sp_made K C_BadHouse) := by
  refine F.okQ sc_made (fun vs H Q E h => ?_) (fun cdv A outer s H vs Q E hr h => ?_)
  . obtain ⟨t, t2, a, b, L, ms, xs, ws, rfl, _⟩ := h; rfl
  . obtain ⟨t, t2, a, b, L, ms, xs, ws, rfl, ha, hb, hR, hz1, hz2, hz3, k, kE⟩ := h
    have hl := line1000
    refine ⟨_, (pss_cons (ps_expr (pe_call g_check_letters (hr.mono (by decide)) rfl m_check_letters F_check_letters.kp b_check_letters .nil (passQ fun _ _ _ h => h) (pa_cons (pv 0) pa_nil)))
      (pss_cons (ps_expr (pe_call g_check_rooms (hr.mono (by decide)) rfl m_check_rooms F_check_rooms.kp b_check_rooms .nil (passQ fun _ _ _ h => h) (pa_cons (pe_callB call_len_seq (by rfl) T.len PySem.boot_len (pa_cons (pv 1) pa_nil)) pa_nil)))
      (pss_cons (ps_expr (pe_call g_check_marks (hr.mono (by decide)) rfl m_check_marks F_check_marks.kp b_check_marks .nil (passQ fun _ _ _ h => h) (pa_cons (pv 1) pa_nil)))
      (pss_cons (ps_expr (pe_call g_check_ways (hr.mono (by decide)) rfl m_check_ways F_check_ways.kp b_check_ways .nil (passQ fun _ _ _ h => h) (pa_cons (pv 0) (pa_cons (pe_callB call_len_seq (by rfl) T.len PySem.boot_len (pa_cons (pv 1) pa_nil)) (pa_cons (pv 2) pa_nil)))))
      (pss_one (ps_ret (pe_tup (pa_cons (pv 0) (pa_cons (pe_callTy call_tuple_of rfl T.tuple PyProof.Rows.boot_tuple (pa_cons (pv 1) pa_nil)) (pa_cons (pe_callTy call_tuple_of rfl T.tuple PyProof.Rows.boot_tuple (pa_cons (pe_comp rfl (blk_mk rfl) (cp := c_made_0) True.intro (pi_seq (pv 2)) (fun _ _ _ _ => (pg_name (i := 0) nd_c_made_0 rfl (Or.inl rfl))) (fun _ _ _ _ => pf_nil) (fun _ _ _ _ => (pe_callTy (call_tuple_ofK (K := K) rfl) rfl T.tuple PyProof.Rows.boot_tuple (pa_cons (pv 0) pa_nil)))) pa_nil)) pa_nil)))))))))), ?_⟩
    walk_at "rd"
    refine ⟨L, rfl, fun c1 => ⟨_, ha.or, ms.length, by rw [List.length_map], fun c2 => ⟨t, a, ms, rfl, ha, hz1, fun c3 H1 s1 => ⟨_, (ha.mono s1).or, t2, b, L, ms.length, xs, ws, by rw [List.length_map], hb.mono s1, hR.mono s1, hz3, fun c4 H2 s2 => ?_, fun c4 H2 s2 => kE (by unfold okH; rw [c1, c2, c3, c4]; rfl) H2 (s1.trans s2)⟩, fun c3 H1 s1 => kE (by unfold okH; rw [c1, c2, c3]; rfl) H1 s1⟩, fun c2 => kE (by unfold okH; rw [c1, c2]; rfl) H (Same.refl _)⟩, fun c1 => kE (by unfold okH; rw [c1]; rfl) H (Same.refl _)⟩
    have hok : okH L ms ws = true := by unfold okH; rw [c1, c2, c3, c4]; rfl
    have s12 := s1.trans s2
    clear kE
    have key : ∀ m H3, Same H H3 -> SqT K H3 m (ms.map V.int) -> ∀ (zs : List V) (H4 : Hp) (D : Addr), Same H3 H4 -> RowsT K H4 zs ws -> H4 D = none -> ∀ l1, upd H4 D (.lst zs) l1 = none -> ∀ h, upd (upd H4 D (.lst zs)) l1 (.tup zs) h = none -> Q (.ref h) (upd (upd (upd H4 D (.lst zs)) l1 (.tup zs)) h (.tup [.int L, .ref m, .ref l1])) := by
      intro m H3 s3 hm zs H4 D s4 hRT hD l1 hl1 h hh
      have sD := ((Same.new hD (o := .lst zs)).newT hl1 (o := .tup zs)).newT hh (o := .tup [.int L, .ref m, .ref l1])
      exact k hok h m l1 zs _ ((s3.trans s4).trans sD) upd_same ((s4.trans sD).seqT hm) (Same.new hh _ _ upd_same) (hRT.mono sD)
    have comp : ∀ m H3, Same H H3 -> SqT K H3 m (ms.map V.int) -> ∀ G : VK, (∀ (zs : List V) (H4 : Hp) (D : Addr), Same H3 H4 -> RowsT K H4 zs ws -> H4 D = none -> G (.ref D) (upd H4 D (.lst zs))) -> ((∃ xs, SqL K H3 b xs) /\ CompW (Itl K b) c_made_0 (gName 0) tTrue (tCB (fun xs H Q => ∃ p, xs = [V.ref p] /\ ∃ x, (SqL K H p x /\ ∀ (l : Addr), H l = none -> Q (V.ref l) (upd H l (HO.tup x))) \/ SqT K H p x /\ Q (V.ref p) H) (tCons (tVar 0) tNil)) [some (V.int L), some (V.ref a), some (V.ref b)] H3 G) \/ ((∃ xs, SqT K H3 b xs) /\ CompW (Itt K b) c_made_0 (gName 0) tTrue (tCB (fun xs H Q => ∃ p, xs = [V.ref p] /\ ∃ x, (SqL K H p x /\ ∀ (l : Addr), H l = none -> Q (V.ref l) (upd H l (HO.tup x))) \/ SqT K H p x /\ Q (V.ref p) H) (tCons (tVar 0) tNil)) [some (V.int L), some (V.ref a), some (V.ref b)] H3 G) := by
      intro m H3 s3 hm G hG
      refine compB (t := t2) (xs := xs) (fun i zs σ' H' => Same H3 H' /\ RowsT K H' zs (ws.take i) /\ ∃ o, σ' = [o]) ⟨Same.refl _, RowsT.nil, none, rfl⟩ (by rw [hR.1]; omega) (fun i ys σ' H' hi h' => ⟨hb.mono (s3.trans h'.1), by rw [h'.2.1.1, List.length_take]; omega⟩) (hb.mono s3) (fun i x zs σ' H' hx h' => ?_) (fun zs σ' H' h' D hD => ?_)
      . obtain ⟨s4, hT, o, rfl⟩ := h'
        obtain ⟨r, t', a', hri, rfl, hB⟩ := (hR.mono (s3.trans s4)).at hx
        have et : ws.take (i + 1) = ws.take i ++ [r] := by rw [List.take_add_one, hri]; rfl
        walk_at "rd"
        cases t' with
        | false => exact ⟨_, .inl ⟨hB, fun l hl => ⟨s4.newT hl, by rw [et]; exact (hT.mono (Same.new hl)).snoc (SqT.of upd_same), _, rfl⟩⟩⟩
        | true => exact ⟨_, .inr ⟨hB, ⟨s4, by rw [et]; exact hT.snoc hB, _, rfl⟩⟩⟩
      . obtain ⟨s4, hT, o, rfl⟩ := h'
        rw [hR.1, List.take_length] at hT
        exact hG zs H' D s4 hT hD
    cases t with
    | false =>
      refine ⟨_, .inl ⟨ha.mono s12, fun m hm => comp m _ (s12.newT hm) (SqT.of upd_same) _ fun zs H4 D s4 hT hD => ?_⟩⟩
      exact ⟨D, rfl, _, .inl ⟨SqL.of upd_same, fun l1 hl1 => ⟨by omega, fun h hh => key m _ (s12.newT hm) (SqT.of upd_same) zs H4 D s4 hT hD l1 hl1 h hh⟩⟩⟩
    | true =>
      refine ⟨_, .inr ⟨ha.mono s12, comp a _ s12 (ha.mono s12) _ fun zs H4 D s4 hT hD => ?_⟩⟩
      exact ⟨D, rfl, _, .inl ⟨SqL.of upd_same, fun l1 hl1 => ⟨by omega, fun h hh => key a _ s12 (ha.mono s12) zs H4 D s4 hT hD l1 hl1 h hh⟩⟩⟩
theorem str0 : Str.ofString "0" = ⟨#[48]⟩ := by decide +kernel
def sp_rnumX (C : Addr) : Sp := fun vs H Q E => ∃ z : Str, vs = [.str z] /\ z.length <= 900000 /\ (∀ n : Int, 0 <= n -> n < 10 ^ 10 -> z = nt n -> ∀ H', Same H H' -> Q (.int n) H') /\ (∀ H', Same H H' -> E (.ref C) none H')
theorem ok_read_number {f : Addr} {fd : FuncData} (F : Fun K "read_number" "read_number" s_read_number f fd) (T : Txt mg)
    (W : Own K mg)
    (Z : Exs K mg C_AskError C_BadHouse C_NoText)
    : FnOk P w K mg base (CXe P w) 1 f fd ["text"] (sp_rnumX C_NoText) := by
  refine F.okE sc_read_number (fun vs H Q E h => ?_) (fun cdv A outer s H vs Q E hr h => ?_)
  . obtain ⟨z, rfl, _⟩ := h; rfl
  . obtain ⟨z, rfl, hz, k, kE⟩ := h
    have hl := line1000
    have hsz : z.cps.toList.length = z.length := cl_len z
    have hsz' : z.cps.size = z.length := rfl
    refine ⟨_, (pss_cons (ps_if (PW.pt (pw_or (pt_not (pt_chain op_le op_le pe_int (pe_callB call_len_str (by rfl) T.len PySem.boot_len (pa_cons (pv 0) pa_nil)) (pe_gc rfl W.q_MOST_FIGURES))) (pw_or1 (pt_not (pt_val (pe_callB (call_all rfl) rfl T.all PyProof.Rows.boot_all (pa_cons (pe_comp rfl (blk_mk rfl) (cp := c_read_number_0) True.intro (pi_str (pv 0)) (fun _ _ _ _ => (pg_name (i := 0) nd_c_read_number_0 rfl (Or.inl rfl))) (fun _ _ _ _ => pf_nil) (fun _ _ _ _ => (pe_cmpR op_in_str (pv 0) (pe_gcS rfl W.q_FIGURES) rfl))) pa_nil)))))))
      (pss_one (ps_raise Z.m_NoText Z.x_NoText rfl rfl (pa_cons pe_str pa_nil)))
      pss_nil)
      (pss_cons (ps_if (PW.pt (pw_and (pt_cmpR op_eq (pe_ix ix_str (pv 0) pe_int (fun _ _ => rfl)) pe_str (nomark _)) (pw_and1 (pt_cmpR op_ne (pv 0) pe_str (nomark _)))))
      (pss_one (ps_raise Z.m_NoText Z.x_NoText rfl rfl (pa_cons pe_str pa_nil)))
      pss_nil)
      (pss_one (ps_ret (pe_callTy call_intS rfl T.int PyProof.Rows.boot_int (pa_cons (pv 0) pa_nil)))))), ?_⟩
    walk_at "rd"
    refine ⟨by omega, ?_⟩
    refine ite2 (fun g1 => ?_) (fun g1 => ⟨by omega, kE H (Same.refl _)⟩)
    refine ite2 (fun g2 => ⟨by omega, kE H (Same.refl _)⟩) (fun g2 => ?_)
    have g10 : z.length <= 10 := by simp at g2; omega
    refine compTx (fun i zs σ' H' => H' = H /\ zs = ((z.cps.toList.take i).map dgB).map V.bl /\ ∃ o, σ' = [o]) ⟨rfl, rfl, none, rfl⟩ (by rw [hsz']; omega) (fun i zs σ' H' hi h' => by rw [h'.2.1, List.length_map, List.length_map, List.length_take]; omega) (fun i c zs σ' H' hc h' => ?_) (fun zs σ' H' h' D hD => ?_)
    . obtain ⟨rfl, rfl, o, rfl⟩ := h'
      have hc' : z.cps.toList[i]? = some c := by rw [Array.getElem?_toList]; exact hc
      walk_at "rd"
      refine ⟨?_, _, rfl⟩
      rw [List.take_add_one, hc', List.map_append, List.map_append]; rfl
    . obtain ⟨rfl, rfl, o, rfl⟩ := h'
      rw [List.take_of_length_le (by rw [Array.length_toList]; omega)]
      have sD := Same.new hD (o := .lst ((z.cps.toList.map dgB).map V.bl))
      refine ⟨D, rfl, _, SqL.of upd_same, ?_⟩
      refine ite2 (fun g3 => ⟨by omega, kE _ sD⟩) (fun g3 => ?_)
      have hall : ∀ c ∈ z.cps.toList, 48 <= c /\ c <= 57 := fun c hc => by
        have g4 : (z.cps.toList.map dgB).all id = true := by simpa using g3
        exact dgB_iff (List.all_eq_true.mp g4 _ (List.mem_map_of_mem hc))
      obtain ⟨c, hc⟩ : ∃ c, z.cps.toList[0]? = some c := ⟨z.cps.toList[0]'(by omega), by simp [show 0 < z.cps.toList.length by omega]⟩
      refine ⟨by omega, c, atI_of (Int.le_refl 0) hc, ?_⟩
      rw [str0]
      have fin : (z.cps.toList[0]? ≠ some 48 \/ z = ⟨#[48]⟩) -> ∃ i, z = nt i /\ 0 <= i /\ i < 10 ^ 10 /\ Q (V.int i) (upd H' D (.lst ((z.cps.toList.map dgB).map V.bl))) := fun hh => by
        obtain ⟨n, n0, n1, e⟩ := nt_of hall (by omega) g10 hh
        exact ⟨n, e, n0, n1, k n n0 n1 e _ sD⟩
      refine ite2 (fun g5 => ite2 (fun g6 => ⟨by omega, kE _ sD⟩) (fun g6 => fin (.inr (by simpa using g6)))) (fun g5 => fin (.inl fun z' => g5 ?_))
      rw [hc] at z'
      rw [Option.some.inj z']
theorem cut1 (x : V) (xs : List V) : cutV (x :: xs) (some 1) none = xs := by
  unfold cutV HT.sIx
  simp
theorem cutL (v : V) (xs : List V) : cutV (xs ++ [v]) none (some (-1)) = xs := by
  unfold cutV HT.sIx
  simp only [List.length_append, List.length_singleton, List.drop_zero, Nat.sub_zero]
  rw [if_pos (by omega), show ((-1 : Int) + ((xs.length + 1 : Nat) : Int)).toNat = xs.length by omega]
  exact List.take_left' rfl
def sp_rowsinX (C : Addr) : Sp := fun vs H Q E => ∃ z : Str, vs = [.str z] /\ z.length <= 900000 /\ (∀ rs : List Str, rs ≠ [] -> z.cps.toList = (rs.map fun r : Str => r.cps.toList ++ [10]).flatten -> (∀ p ∈ rs, p.length <= z.length) -> rs.length <= z.length -> ∀ l H', Same H H' -> H l = none -> H' l = some (.lst (rs.map V.str)) -> Q (.ref l) H') /\ (∀ H', Same H H' -> E (.ref C) none H')
theorem ok_rows_in {f : Addr} {fd : FuncData} (F : Fun K "rows_in" "rows_in" s_rows_in f fd) (T : Txt mg)
    (W : Own K mg)
    (Z : Exs K mg C_AskError C_BadHouse C_NoText)
    : FnOk P w K mg base (CXe P w) 1 f fd ["text"] (sp_rowsinX C_NoText) := by
  refine F.okE sc_rows_in (fun vs H Q E h => ?_) (fun cdv A outer s H vs Q E hr h => ?_)
  . obtain ⟨z, rfl, _⟩ := h; rfl
  . obtain ⟨z, rfl, hz, k, kE⟩ := h
    have hl := line1000
    refine ⟨_, (pss_cons (ps_set (i := 1) sc_rows_in.nd rfl (Or.inl rfl) (pe_bm PySem.F.plainAttrs_str PySem.F.slot_str_split PySem.F.type_str_split mt_ssplit (pv 0) (pa_cons pe_str pa_nil)))
      (pss_cons (ps_if (PW.pt (pw_or (pt_cmpR op_lt (pe_callB call_len_seq (by rfl) T.len PySem.boot_len (pa_cons (pv 1) pa_nil)) pe_int (nomark _)) (pw_or1 (pt_cmpR op_ne (pe_ix ix_list (pv 1) (pe_un un_neg pe_int) (fun _ _ => rfl)) pe_str (nomark _)))))
      (pss_one (ps_raise Z.m_NoText Z.x_NoText rfl rfl (pa_cons pe_str pa_nil)))
      pss_nil)
      (pss_one (ps_ret (pe_slice sl_list (pv 1) po_none (po_some (pe_un un_neg pe_int))))))), ?_⟩
    walk_at "rd"
    obtain ⟨h1, h2, h3, h4⟩ := splitX (show 10 < 128 by decide) z
    rw [nwl]
    refine ⟨rfl, rfl, hz, fun l hl' => ?_⟩
    have s1 := Same.new hl' (o := .lst ((Txt.split z ⟨#[10]⟩).map V.str))
    generalize Txt.split z ⟨#[10]⟩ = ps at h1 h2 h3 h4 s1 ⊢
    refine ⟨_, .inl (SqL.of upd_same), ?_⟩
    refine ite2 (fun g => ⟨by omega, kE _ s1⟩) (fun g => ?_)
    rw [List.length_map] at g
    have e := List.dropLast_concat_getLast h1
    generalize ps.dropLast = rs at e
    generalize ps.getLast h1 = la at e
    subst e
    rw [List.length_append, List.length_singleton] at g
    rw [List.map_append]
    refine ⟨_, SqL.of upd_same, V.str la, atI_end (by simp), rfl, ?_⟩
    refine ite2 (fun g5 => ⟨by omega, kE _ (by rw [List.map_append] at s1; exact s1)⟩) (fun g5 => ?_)
    have ela : la = Str.ofString "" := by simpa using g5
    subst ela
    refine ⟨_, SqL.of upd_same, fun p hp' => ?_⟩
    rw [List.map_singleton, cutL]
    have hrl := sum_len (rs ++ [Str.ofString ""])
    rw [List.length_append, List.length_singleton] at hrl
    refine k rs (fun z => by rw [z] at g; simp at g) ?_ (fun p hp => ?_) (by omega) p _ ((Same.new hl').newT hp') ((Same.new hl').none hp') upd_same
    . rw [h2, List.map_append, List.map_singleton]
      have e : (Str.ofString "").cps.toList = [] := by decide +kernel
      rw [e, jn_ends, List.map_map]; rfl
    . have := sum_mem (List.mem_append_left [Str.ofString ""] hp)
      omega
def sp_partsX (C : Addr) : Sp := fun vs H Q E => ∃ (f r : Str) (n : Nat), vs = [.str f, .int n, .str r] /\ r.length <= 900000 /\ (∀ ps : List Str, ps.length = n -> r = rowS (f :: ps) -> (∀ p ∈ ps, p.length <= r.length) -> ∀ l H', Same H H' -> H l = none -> H' l = some (.lst (ps.map V.str)) -> Q (.ref l) H') /\ (∀ H', Same H H' -> E (.ref C) none H')
theorem ok_parts_behind {f : Addr} {fd : FuncData} (F : Fun K "parts_behind" "parts_behind" s_parts_behind f fd) (T : Txt mg)
    (W : Own K mg)
    (Z : Exs K mg C_AskError C_BadHouse C_NoText)
    : FnOk P w K mg base (CXe P w) 1 f fd ["first", "count", "row"] (sp_partsX C_NoText) := by
  refine F.okE sc_parts_behind (fun vs H Q E h => ?_) (fun cdv A outer s H vs Q E hr h => ?_)
  . obtain ⟨f, r, n, rfl, _⟩ := h; rfl
  . obtain ⟨f, r, n, rfl, hz, k, kE⟩ := h
    have hl := line1000
    refine ⟨_, (pss_cons (ps_set (i := 3) sc_parts_behind.nd rfl (Or.inl rfl) (pe_bm PySem.F.plainAttrs_str PySem.F.slot_str_split PySem.F.type_str_split mt_ssplit (pv 2) (pa_cons pe_str pa_nil)))
      (pss_cons (ps_if (PW.pt (pw_or (pt_cmpR op_ne (pe_ix ix_list (pv 3) pe_int (fun _ _ => rfl)) (pv 0) (nomark _)) (pw_or1 (pt_cmpR op_ne (pe_callB call_len_seq (by rfl) T.len PySem.boot_len (pa_cons (pv 3) pa_nil)) (pe_op op_add (pv 1) pe_int) (nomark _)))))
      (pss_one (ps_raise Z.m_NoText Z.x_NoText rfl rfl (pa_cons pe_str pa_nil)))
      pss_nil)
      (pss_one (ps_ret (pe_slice sl_list (pv 3) (po_some pe_int) po_none))))), ?_⟩
    walk_at "rd"
    obtain ⟨h1, h2, h3, h4⟩ := splitX (show 32 < 128 by decide) r
    rw [spc]
    refine ⟨rfl, rfl, hz, fun l hl' => ?_⟩
    have s1 := Same.new hl' (o := .lst ((Txt.split r ⟨#[32]⟩).map V.str))
    generalize Txt.split r ⟨#[32]⟩ = ps at h1 h2 h3 h4 s1 ⊢
    obtain ⟨f', ps, rfl⟩ : ∃ f' ps', ps = f' :: ps' := by
      cases ps with
      | nil => exact absurd rfl h1
      | cons f' ps' => exact ⟨f', ps', rfl⟩
    refine ⟨_, SqL.of upd_same, V.str f', atI_of (Int.le_refl 0) rfl, rfl, ?_⟩
    refine ite2 (fun g5 => ⟨by omega, kE _ s1⟩) (fun g5 => ?_)
    have ef : f' = f := by simpa using g5
    subst ef
    refine ⟨_, .inl (SqL.of upd_same), ?_⟩
    refine ite2 (fun g6 => ⟨by omega, kE _ s1⟩) (fun g6 => ?_)
    have en : ps.length = n := by simp at g6; omega
    refine ⟨_, SqL.of upd_same, fun p hp' => ?_⟩
    rw [List.map_cons, cut1]
    refine k ps en ?_ (fun p hp => ?_) p _ ((Same.new hl').newT hp') ((Same.new hl').none hp') upd_same
    . unfold rowS
      rw [spc]
      exact join_strs h2
    . have := sum_mem (List.mem_cons_of_mem f' hp)
      omega
def sp_rcountX (C : Addr) : Sp := fun vs H Q E => ∃ (z : Str) (m : Int), vs = [.str z, .int m] /\ z.length <= 900000 /\ (∀ n : Int, 1 <= n -> n <= m -> n < 10 ^ 10 -> z = nt n -> ∀ H', Same H H' -> Q (.int n) H') /\ (∀ H', Same H H' -> E (.ref C) none H')
theorem ok_read_count {f : Addr} {fd : FuncData} (F : Fun K "read_count" "read_count" s_read_count f fd) (T : Txt mg)
    (W : Own K mg)
    (Z : Exs K mg C_AskError C_BadHouse C_NoText)
    {f_read_number : Addr} {fd_read_number : FuncData} (g_read_number : FnOk P w K mg base (CXe P w) 1 f_read_number fd_read_number ["text"] (sp_rnumX C_NoText)) (F_read_number : Fun K "read_number" "read_number" s_read_number f_read_number fd_read_number) (b_read_number : Binds K fd_read_number ["text"] []) (m_read_number : mg "read_number" = some (.ref f_read_number))
    : FnOk P w K mg base (CXe P w) 2 f fd ["text", "most"] (sp_rcountX C_NoText) := by
  refine F.okE sc_read_count (fun vs H Q E h => ?_) (fun cdv A outer s H vs Q E hr h => ?_)
  . obtain ⟨z, m, rfl, _⟩ := h; rfl
  . obtain ⟨z, m, rfl, hz, k, kE⟩ := h
    have hl := line1000
    refine ⟨_, (pss_cons (ps_set (i := 2) sc_read_count.nd rfl (Or.inl rfl) (pe_call g_read_number (hr.mono (by decide)) rfl m_read_number F_read_number.kp b_read_number .nil (passE fun _ _ _ h => h) (pa_cons (pv 0) pa_nil)))
      (pss_cons (ps_if (pt_not (pt_chain op_le op_le pe_int (pv 2) (pv 1)))
      (pss_one (ps_raise Z.m_NoText Z.x_NoText rfl rfl (pa_cons pe_str pa_nil)))
      pss_nil)
      (pss_one (ps_ret (pv 2))))), ?_⟩
    walk_at "rd"
    refine ⟨z, rfl, hz, fun n h0 h1 e H' s' => ⟨n, rfl, ?_⟩, fun H' s' => kE H' s'⟩
    refine ite2 (fun g => ⟨n, rfl, ?_⟩) (fun g => ⟨by omega, kE H' s'⟩)
    refine ite2 (fun g2 => ⟨by omega, kE H' s'⟩) (fun g2 => ?_)
    exact k n g (by simpa using g2) h1 e H' s'
def sp_rlettersX (C : Addr) : Sp := fun vs H Q E => ∃ (f r : Str), vs = [.str f, .str r] /\ r.length <= 900000 /\ (∀ n : Nat, 1 <= n -> n <= 6 -> r = rowS [f, nt n] -> ∀ H', Same H H' -> Q (.int n) H') /\ (∀ H', Same H H' -> E (.ref C) none H')
theorem ok_read_letters {f : Addr} {fd : FuncData} (F : Fun K "read_letters" "read_letters" s_read_letters f fd) (T : Txt mg)
    (W : Own K mg)
    (Z : Exs K mg C_AskError C_BadHouse C_NoText)
    {f_parts_behind : Addr} {fd_parts_behind : FuncData} (g_parts_behind : FnOk P w K mg base (CXe P w) 1 f_parts_behind fd_parts_behind ["first", "count", "row"] (sp_partsX C_NoText)) (F_parts_behind : Fun K "parts_behind" "parts_behind" s_parts_behind f_parts_behind fd_parts_behind) (b_parts_behind : Binds K fd_parts_behind ["first", "count", "row"] []) (m_parts_behind : mg "parts_behind" = some (.ref f_parts_behind))
    {f_read_count : Addr} {fd_read_count : FuncData} (g_read_count : FnOk P w K mg base (CXe P w) 2 f_read_count fd_read_count ["text", "most"] (sp_rcountX C_NoText)) (F_read_count : Fun K "read_count" "read_count" s_read_count f_read_count fd_read_count) (b_read_count : Binds K fd_read_count ["text", "most"] []) (m_read_count : mg "read_count" = some (.ref f_read_count))
    : FnOk P w K mg base (CXe P w) 3 f fd ["first", "row"] (sp_rlettersX C_NoText) := by
  refine F.okE sc_read_letters (fun vs H Q E h => ?_) (fun cdv A outer s H vs Q E hr h => ?_)
  . obtain ⟨f, r, rfl, _⟩ := h; rfl
  . obtain ⟨f, r, rfl, hz, k, kE⟩ := h
    have hl := line1000
    refine ⟨_, (pss_one (ps_ret (pe_call g_read_count (hr.mono (by decide)) rfl m_read_count F_read_count.kp b_read_count .nil (passE fun _ _ _ h => h) (pa_cons (pe_ix ix_list (pe_call g_parts_behind (hr.mono (by decide)) rfl m_parts_behind F_parts_behind.kp b_parts_behind .nil (passE fun _ _ _ h => h) (pa_cons (pv 0) (pa_cons pe_int (pa_cons (pv 1) pa_nil)))) pe_int (fun _ _ => rfl)) (pa_cons (pe_gc rfl W.q_MOST_LETTERS) pa_nil))))), ?_⟩
    walk_at "rd"
    refine ⟨f, r, 1, rfl, hz, fun ps hp e hps l H1 s1 _ hl1 => ?_, fun H' s' => kE H' s'⟩
    match ps, hp with
    | [q], _ =>
      refine ⟨l, rfl, _, SqL.of hl1, V.str q, atI_of (Int.le_refl 0) rfl, q, 6, rfl, ?_, fun n h1 h6 _ en H2 s2 => ?_, fun H2 s2 => kE H2 (s1.trans s2)⟩
      . have := hps q (by simp); omega
      . obtain ⟨m, rfl⟩ := Int.eq_ofNat_of_zero_le (show 0 <= n by omega)
        subst en
        exact k m (by omega) (by omega) e H2 (s1.trans s2)
def roomP (m : Int) (ws : List Int) : List Str := Str.ofString "room" :: (m :: ws).map nt
def hrows (L : Int) (marks : List Int) (ways : List (List Int)) : List (List Str) := [Str.ofString "house", nt L] :: (marks.zip ways).map fun p => roomP p.1 p.2
def sp_rroomX (K : PySem.W.Frag) (C : Addr) : Sp := fun vs H Q E => ∃ (L : Nat) (r : Str), vs = [.int L, .str r] /\ L <= 6 /\ r.length <= 900000 /\ (∀ ns : List Int, ns.length = L + 1 -> (∀ n ∈ ns, 0 <= n /\ n < 10 ^ 10) -> r = rowS (Str.ofString "room" :: ns.map nt) -> ∀ l H', Same H H' -> H l = none -> H' l = some (.lst (ns.map V.int)) -> Q (.ref l) H') /\ (∀ H', Same H H' -> E (.ref C) none H')
theorem ok_read_room {f : Addr} {fd : FuncData} (F : Fun K "read_room" "read_room" s_read_room f fd) (T : Txt mg)
    (W : Own K mg)
    (Z : Exs K mg C_AskError C_BadHouse C_NoText)
    {f_read_number : Addr} {fd_read_number : FuncData} (g_read_number : FnOk P w K mg base (CXe P w) 1 f_read_number fd_read_number ["text"] (sp_rnumX C_NoText)) (F_read_number : Fun K "read_number" "read_number" s_read_number f_read_number fd_read_number) (b_read_number : Binds K fd_read_number ["text"] []) (m_read_number : mg "read_number" = some (.ref f_read_number))
    {f_parts_behind : Addr} {fd_parts_behind : FuncData} (g_parts_behind : FnOk P w K mg base (CXe P w) 1 f_parts_behind fd_parts_behind ["first", "count", "row"] (sp_partsX C_NoText)) (F_parts_behind : Fun K "parts_behind" "parts_behind" s_parts_behind f_parts_behind fd_parts_behind) (b_parts_behind : Binds K fd_parts_behind ["first", "count", "row"] []) (m_parts_behind : mg "parts_behind" = some (.ref f_parts_behind))
    : FnOk P w K mg base (CXe P w) 2 f fd ["letters", "row"] (sp_rroomX K C_NoText) := by
  refine F.okE sc_read_room (fun vs H Q E h => ?_) (fun cdv A outer s H vs Q E hr h => ?_)
  . obtain ⟨L, r, rfl, _⟩ := h; rfl
  . obtain ⟨L, r, rfl, hL, hr9, k, kE⟩ := h
    have hl := line1000
    refine ⟨_, (pss_one (ps_ret (pe_compE rfl rfl rfl (fun _ _ h => h) rfl (blk_mk rfl) (cp := c_read_room_0) True.intro (pi_list (pe_call g_parts_behind (hr.mono (by decide)) rfl m_parts_behind F_parts_behind.kp b_parts_behind .nil (passE fun _ _ _ h => h) (pa_cons pe_str (pa_cons (pe_op op_add (pv 0) pe_int) (pa_cons (pv 1) pa_nil))))) (fun _ _ _ _ _ hx => (pg_name (i := 0) nd_c_read_room_0 rfl (Or.inl rfl))) (fun _ _ _ _ _ hx => pf_nil) (fun _ _ _ _ _ hx => (pe_call g_read_number (hr.mono (by decide)) rfl m_read_number F_read_number.kp b_read_number .nil hx (pa_cons (pv 0) pa_nil)))))), ?_⟩
    walk_at "rd"
    refine ⟨Str.ofString "room", r, L + 1, by push_cast; rfl, hr9, fun ps hpl er hps l H1 s1 hlN hl1 => ?_, fun H1 s1 => kE H1 s1⟩
    refine ⟨l, rfl, ⟨_, SqL.of hl1⟩, ?_⟩
    refine compL (xs := ps.map V.str) (fun i zs σ' H2 => Same H1 H2 /\ (∃ ns : List Int, ns.length = i /\ (∀ n ∈ ns, 0 <= n /\ n < 10 ^ 10) /\ ps.take i = ns.map nt /\ zs = ns.map V.int) /\ ∃ o, σ' = [o]) ⟨Same.refl _, ⟨[], rfl, by simp, by simp, rfl⟩, none, rfl⟩ (by rw [List.length_map]; omega) (fun i zs σ' H2 hi h' => ⟨SqL.of (h'.1 _ _ hl1), by obtain ⟨_, ⟨ns, e1, _, _, rfl⟩, _⟩ := h'; rw [List.length_map]; omega⟩) (fun i x zs σ' H2 hx h' => ?_) (fun zs σ' H2 h' D hD => ?_)
    . obtain ⟨s2, ⟨ns, n1, n2, n3, rfl⟩, o, rfl⟩ := h'
      rw [List.getElem?_map] at hx
      cases hpi : ps[i]? with
      | none => rw [hpi] at hx; cases hx
      | some q =>
        rw [hpi] at hx
        cases hx
        have hq := hps q (List.mem_of_getElem? hpi)
        walk_at "rd"
        refine ⟨q, rfl, by omega, fun n m0 m1 en H3 s3 => ⟨s2.trans s3, ⟨ns ++ [n], by simp [n1], fun y hy => ?_, ?_, by simp⟩, _, rfl⟩, fun H3 s3 => kE H3 ((s1.trans s2).trans s3)⟩
        . rcases List.mem_append.mp hy with hy | hy
          . exact n2 y hy
          . rw [List.mem_singleton.mp hy]; exact ⟨m0, m1⟩
        . rw [List.take_add_one, hpi, n3, List.map_append, en]; rfl
    . obtain ⟨s2, ⟨ns, n1, n2, n3, rfl⟩, o, rfl⟩ := h'
      rw [List.length_map] at n1 n3
      rw [List.take_length] at n3
      exact k ns (by omega) n2 (by rw [er, n3]) D _ ((s1.trans s2).newT hD) ((s1.trans s2).none hD) upd_same
theorem Wf_of {L : Int} {marks : List Int} {ways : List (List Int)} (h : okH L marks ways = true) : Wf L marks ways := by
  unfold okH at h
  simp only [Bool.and_eq_true, decide_eq_true_eq] at h
  obtain ⟨⟨h1, h2⟩, ⟨h3, h4⟩, h5, h6, h7⟩ := h
  unfold okM at h5
  rw [List.all_eq_true] at h5 h7
  refine ⟨h1, h2, h3, h4, h6, fun r hr => ?_, fun m hm => ?_⟩
  rotate_left
  . have := h5 m hm
    unfold mkB at this
    simpa using this
  . have := h7 r hr
    unfold okR at this
    rw [Bool.and_eq_true, decide_eq_true_eq, List.all_eq_true] at this
    refine ⟨this.1, fun g hg => ?_⟩
    have := this.2 g hg
    unfold goB at this
    simpa using this
theorem WordsL.mono' {K : PySem.W.Frag} {H H' : Hp} {xs : List V} {ws : List (List Int)} (h : WordsL K H xs ws) (s : Same H H') : WordsL K H' xs ws := ⟨h.1, fun i w hi => by
  obtain ⟨t, a, b⟩ := h.2 i w hi
  exact ⟨t, a, s _ _ b⟩⟩
theorem WordsL.snoc' {K : PySem.W.Frag} {H : Hp} {xs : List V} {ws : List (List Int)} (h : WordsL K H xs ws) {t : Addr} {w : List Int} (ht : H t = some (.lst (w.map V.int))) : WordsL K H (xs ++ [.ref t]) (ws ++ [w]) := by
  refine ⟨by rw [List.length_append, List.length_append, h.1]; rfl, fun i r hi => ?_⟩
  by_cases hil : i < ws.length
  . rw [List.getElem?_append_left hil] at hi
    rw [List.getElem?_append_left (by rw [h.1]; exact hil)]
    exact h.2 i r hi
  . have := (List.getElem?_eq_some_iff.mp hi).1
    rw [List.length_append, List.length_singleton] at this
    have ei : i = ws.length := by omega
    subst ei
    rw [List.getElem?_append_right (Nat.le_refl _), Nat.sub_self] at hi
    simp at hi
    subst hi
    exact ⟨t, by rw [<- h.1]; simp, ht⟩
theorem RowsT.R45 {K : PySem.W.Frag} {H : Hp} {w : Addr} {zs : List V} {ws : List (List Int)} (h : RowsT K H zs ws) (hz : SqT K H w zs) : Rows K H w ws := by
  refine ⟨zs.map (fun v => match v with | .ref t => t | _ => 0), ?_, by rw [List.length_map]; exact h.1, fun i t r hi hr => ?_⟩
  . have e : (zs.map (fun v => match v with | .ref t => t | _ => 0)).map V.ref = zs := by
      rw [List.map_map]
      refine List.ext_getElem? fun i => ?_
      rw [List.getElem?_map]
      by_cases hi : i < ws.length
      . obtain ⟨t, a, _⟩ := h.2 i ws[i] (by simp [hi])
        rw [a]; rfl
      . rw [List.getElem?_eq_none (by rw [h.1]; omega)]; rfl
    rw [e]; exact hz
  . obtain ⟨t', a, b⟩ := h.2 i r hr
    rw [List.getElem?_map, a] at hi
    cases hi
    exact b
theorem tL_rows (rows : List (List Str)) : tL rows = ((rows.map rowS).map fun r : Str => r.cps.toList ++ [10]).flatten := by
  unfold tL
  rw [List.map_map]
  congr 1
  refine List.map_congr_left fun r _ => ?_
  show rowL r = (rowS r).cps.toList ++ [10]
  rw [rowS_cps]; rfl
def sp_rhouse46 (K : PySem.W.Frag) (C : Addr) : Sp := fun vs H Q E => ∃ (z : Str), vs = [.str z] /\ z.length <= 400000 /\ (∀ (L : Int) (marks : List Int) (ways : List (List Int)), Wf L marks ways -> z.cps.toList = tL (hrows L marks ways) -> ∀ h H', Same H H' -> House K H' h L marks ways -> Q (.ref h) H') /\ (∀ H', Same H H' -> E (.ref C) none H')
theorem ok_read_house {f : Addr} {fd : FuncData} (F : Fun K "read_house" "read_house" s_read_house f fd) (T : Txt mg)
    (W : Own K mg)
    (Z : Exs K mg C_AskError C_BadHouse C_NoText)
    {f_made : Addr} {fd_made : FuncData} (g_made : FnOk P w K mg base (CXq P w) 3 f_made fd_made ["letters", "marks", "ways"] (sp_made K C_BadHouse)) (F_made : Fun K "made" "made" s_made f_made fd_made) (b_made : Binds K fd_made ["letters", "marks", "ways"] []) (m_made : mg "made" = some (.ref f_made))
    {f_rows_in : Addr} {fd_rows_in : FuncData} (g_rows_in : FnOk P w K mg base (CXe P w) 1 f_rows_in fd_rows_in ["text"] (sp_rowsinX C_NoText)) (F_rows_in : Fun K "rows_in" "rows_in" s_rows_in f_rows_in fd_rows_in) (b_rows_in : Binds K fd_rows_in ["text"] []) (m_rows_in : mg "rows_in" = some (.ref f_rows_in))
    {f_read_letters : Addr} {fd_read_letters : FuncData} (g_read_letters : FnOk P w K mg base (CXe P w) 3 f_read_letters fd_read_letters ["first", "row"] (sp_rlettersX C_NoText)) (F_read_letters : Fun K "read_letters" "read_letters" s_read_letters f_read_letters fd_read_letters) (b_read_letters : Binds K fd_read_letters ["first", "row"] []) (m_read_letters : mg "read_letters" = some (.ref f_read_letters))
    {f_read_room : Addr} {fd_read_room : FuncData} (g_read_room : FnOk P w K mg base (CXe P w) 2 f_read_room fd_read_room ["letters", "row"] (sp_rroomX K C_NoText)) (F_read_room : Fun K "read_room" "read_room" s_read_room f_read_room fd_read_room) (b_read_room : Binds K fd_read_room ["letters", "row"] []) (m_read_room : mg "read_room" = some (.ref f_read_room))
    : FnOk P w K mg base (CXe P w) 4 f fd ["text"] (sp_rhouse46 K C_NoText) := by
  refine F.okE sc_read_house (fun vs H Q E h => ?_) (fun cdv A outer s H vs Q E hr h => ?_)
  . obtain ⟨z, rfl, _⟩ := h; rfl
  . obtain ⟨z, rfl, hz, k, kE⟩ := h
    have hl := line1000
    refine ⟨_, (pss_cons (ps_set (i := 1) sc_read_house.nd rfl (Or.inl rfl) (pe_call g_rows_in (hr.mono (by decide)) rfl m_rows_in F_rows_in.kp b_rows_in .nil (passE fun _ _ _ h => h) (pa_cons (pv 0) pa_nil)))
      (pss_cons (ps_set (i := 2) sc_read_house.nd rfl (Or.inr rfl) (pe_call g_read_letters (hr.mono (by decide)) rfl m_read_letters F_read_letters.kp b_read_letters .nil (passE fun _ _ _ h => h) (pa_cons pe_str (pa_cons (pe_ix ix_list (pv 1) pe_int (fun _ _ => rfl)) pa_nil))))
      (pss_cons (ps_setCE (i := 3) sc_read_house.nd rfl rfl rfl rfl rfl (fun _ _ h => h) rfl (blk_mk rfl) (cp := c_read_house_0) ⟨⟨rfl, rfl⟩, True.intro⟩ (pi_list (pe_slice sl_list (pv 1) (po_some pe_int) po_none)) (fun _ _ _ _ _ hx => (pg_name (i := 0) nd_c_read_house_0 rfl (Or.inl rfl))) (fun _ _ _ _ _ hx => pf_nil) (fun _ _ _ _ _ hx => (pe_call g_read_room (hr.mono (by decide)) rfl m_read_room F_read_room.kp b_read_room .nil hx (pa_cons (pv 1) (pa_cons (pv 0) pa_nil)))))
      (pss_one (ps_tryR (E := (fun _ cls _ H1 => cls = .ref C_BadHouse /\ Same H H1)) rfl rfl Z.m_BadHouse rfl Z.m_NoText Z.x_NoText rfl (fun xe pn hx => (pss_one (ps_ret (pe_callE g_made (hr.mono (by decide)) rfl m_made F_made.kp b_made .nil hx (pa_cons (pv 2) (pa_cons (pe_comp rfl (blk_mk rfl) (cp := c_read_house_2) True.intro (pi_listK (K := K) rfl (pv 3)) (fun _ _ _ _ => (pg_name (i := 0) nd_c_read_house_2 rfl (Or.inl rfl))) (fun _ _ _ _ => pf_nil) (fun _ _ _ _ => (pe_ix (ix_listK (K := K) rfl) (pv 0) pe_int (fun _ _ => rfl)))) (pa_cons (pe_comp rfl (blk_mk rfl) (cp := c_read_house_1) True.intro (pi_listK (K := K) rfl (pv 3)) (fun _ _ _ _ => (pg_name (i := 0) nd_c_read_house_1 rfl (Or.inl rfl))) (fun _ _ _ _ => pf_nil) (fun _ _ _ _ => (pe_slice (sl_listK (K := K) rfl) (pv 0) (po_some pe_int) po_none))) pa_nil)))))))))))), ?_⟩
    walk_at "rd"
    refine ⟨z, rfl, by omega, fun rs hne ez hrl hrn pl H1 s1 hplN hpl => ?_, fun H1 s1 => kE H1 s1⟩
    obtain ⟨r0, rt, rfl⟩ : ∃ r0 rt, rs = r0 :: rt := by
      cases rs with
      | nil => exact absurd rfl hne
      | cons r0 rt => exact ⟨_, _, rfl⟩
    have hr0 := hrl r0 (by simp)
    have hrt : rt.length < z.length := by rw [List.length_cons] at hrn; omega
    refine ⟨pl, rfl, _, SqL.of hpl, V.str r0, atI_of (Int.le_refl 0) rfl, Str.ofString "house", r0, rfl, by omega, fun L hL1 hL6 er0 H2 s2 => ?_, fun H2 s2 => kE H2 (s1.trans s2)⟩
    refine ⟨pl, rfl, _, SqL.of (s2 _ _ hpl), fun pc hpc => ?_⟩
    rw [List.map_cons, cut1]
    have s13 := (s1.trans s2).newT hpc (o := .lst (rt.map V.str))
    have hpc3 : upd H2 pc (.lst (rt.map V.str)) pc = some (.lst (rt.map V.str)) := upd_same
    generalize upd H2 pc (.lst (rt.map V.str)) = H3 at s13 hpc3 ⊢
    refine ⟨⟨_, SqL.of hpc3⟩, compL (xs := rt.map V.str) (fun i zs σ' H' => Same H3 H' /\ (∃ nss : List (List Int), (∀ ns ∈ nss, ns.length = L + 1) /\ rt.take i = nss.map (fun ns => rowS (Str.ofString "room" :: ns.map nt)) /\ WordsL K H' zs nss) /\ ∃ o, σ' = [o, some (.int L)]) ⟨Same.refl _, ⟨[], by simp, by simp, ⟨rfl, fun i v hi => by simp at hi⟩⟩, none, rfl⟩ (by rw [List.length_map]; omega) (fun i zs σ' H' hi h' => ⟨SqL.of (h'.1 _ _ hpc3), ?_⟩) (fun i x zs σ' H' hx h' => ?_) (fun zs σ' H' h' D hD => ?_)⟩
    . obtain ⟨_, ⟨nss, _, e, hW⟩, _⟩ := h'
      have := congrArg List.length e
      rw [List.length_take, List.length_map] at this
      rw [hW.1]; omega
    . obtain ⟨s', ⟨nss, n1, n2, hW⟩, o, rfl⟩ := h'
      rw [List.getElem?_map] at hx
      cases hri : rt[i]? with
      | none => rw [hri] at hx; cases hx
      | some r =>
        rw [hri] at hx
        cases hx
        have hr := hrl r (List.mem_cons_of_mem _ (List.mem_of_getElem? hri))
        walk_at "rd"
        refine ⟨L, r, rfl, hL6, by omega, fun ns nl nb er l H4 s4 hlN hl4 => ⟨s'.trans s4, ⟨nss ++ [ns], fun u hu => ?_, ?_, WordsL.snoc' (WordsL.mono' hW s4) hl4⟩, _, rfl⟩, fun H4 s4 => kE H4 ((s13.trans s').trans s4)⟩
        . rcases List.mem_append.mp hu with hu | hu
          . exact n1 u hu
          . rw [List.mem_singleton.mp hu]; exact nl
        . rw [List.take_add_one, hri, n2, List.map_append, er]; rfl
    . obtain ⟨s', ⟨nss, n1, n2, hW⟩, o, rfl⟩ := h'
      rw [List.length_map, List.take_length] at n2
      have hnl : nss.length = rt.length := by rw [n2, List.length_map]
      have sD := (s13.trans s').newT hD (o := .lst zs)
      have hWD := WordsL.mono' hW (Same.new hD (o := .lst zs))
      have hDD : upd H' D (.lst zs) D = some (.lst zs) := upd_same
      generalize upd H' D (.lst zs) = HD at sD hWD hDD ⊢
      have hzz : zs.length = nss.length := hWD.1
      refine ⟨⟨D, rfl, ⟨_, SqL.of hDD⟩, compL (xs := zs) (fun i ys σ2 H2 => H2 = HD /\ ys = ((nss.map fun ns => ns.headD 0).take i).map V.int /\ ∃ o, σ2 = [o]) ⟨rfl, rfl, none, rfl⟩ (by omega) (fun i ys σ2 H2 hi h2 => ⟨by rw [h2.1]; exact SqL.of hDD, by rw [h2.2.1, List.length_map, List.length_take]; omega⟩) (fun i x ys σ2 H2 hx h2 => ?_) (fun ys σ2 H2 h2 D2 hD2 => ?_)⟩, fun σ' cls H5 h5 => ⟨C_BadHouse, h5.1, Z.ee_BadHouse, kE H5 h5.2⟩⟩
      . obtain ⟨rfl, rfl, o, rfl⟩ := h2
        obtain ⟨t, r, hr, rfl, ht⟩ := WordsL.at hWD hx
        have hrl' := n1 r (List.mem_of_getElem? hr)
        obtain ⟨m, row, rfl⟩ : ∃ m row, r = m :: row := by
          cases r with
          | nil => simp at hrl'
          | cons m row => exact ⟨_, _, rfl⟩
        have etk : ((nss.map fun ns => ns.headD 0).take (i + 1)) = (nss.map fun ns => ns.headD 0).take i ++ [m] := by rw [List.take_add_one, List.getElem?_map, hr]; rfl
        walk_at "rd"
        refine ⟨_, SqL.of ht, _, atI_of (Int.le_refl 0) rfl, ?_⟩
        first
          | (refine ⟨rfl, ?_, _, rfl⟩; rw [etk, List.map_append]; rfl)
          | (refine ⟨?_, _, rfl⟩; rw [etk, List.map_append]; rfl)
      . obtain ⟨rfl, rfl, o, rfl⟩ := h2
        rw [List.take_of_length_le (by rw [List.length_map]; omega)]
        obtain ⟨marks, hmk⟩ : ∃ marks, marks = nss.map fun ns => ns.headD 0 := ⟨_, rfl⟩
        obtain ⟨ways, hwy⟩ : ∃ ways, ways = nss.map List.tail := ⟨_, rfl⟩
        rw [<- hmk]
        have sE := Same.new hD2 (o := .lst (marks.map V.int))
        have hDE := sE _ _ hDD
        have hWE := WordsL.mono' hWD sE
        have hME : upd H2 D2 (.lst (marks.map V.int)) D2 = some (.lst (marks.map V.int)) := upd_same
        have sF' := sD.trans sE
        generalize upd H2 D2 (.lst (marks.map V.int)) = HE at sE hDE hWE hME sF' ⊢
        refine ⟨D, rfl, ⟨_, SqL.of hDE⟩, compL (xs := zs) (fun i ys σ3 H3' => Same HE H3' /\ WordsL K H3' ys (ways.take i) /\ ∃ o, σ3 = [o]) ⟨Same.refl _, ⟨rfl, fun i w hi => by simp at hi⟩, none, rfl⟩ (by omega) (fun i ys σ3 H3' hi h3 => ⟨SqL.of (h3.1 _ _ hDE), by rw [h3.2.1.1, List.length_take]; omega⟩) (fun i x ys σ3 H3' hx h3 => ?_) (fun ys σ3 H3' h3 D3 hD3 => ?_)⟩
        . obtain ⟨s3, hY, o, rfl⟩ := h3
          obtain ⟨t, r, hr, rfl, ht⟩ := WordsL.at hWE hx
          have hrl' := n1 r (List.mem_of_getElem? hr)
          obtain ⟨m, row, rfl⟩ : ∃ m row, r = m :: row := by
            cases r with
            | nil => simp at hrl'
            | cons m row => exact ⟨_, _, rfl⟩
          have etk : ways.take (i + 1) = ways.take i ++ [row] := by rw [List.take_add_one, hwy, List.getElem?_map, hr]; rfl
          walk_at "rd"
          refine ⟨_, SqL.of (s3 _ _ ht), fun p hp => ?_⟩
          rw [List.map_cons, cut1]
          refine ⟨s3.newT hp, ?_, _, rfl⟩
          rw [etk]
          exact WordsL.snoc' (WordsL.mono' hY (Same.new hp)) upd_same
        . obtain ⟨s3, hY, o, rfl⟩ := h3
          rw [List.take_of_length_le (by rw [hwy, List.length_map]; omega)] at hY
          have sG := s3.newT hD3 (o := .lst ys)
          have hYG := WordsL.mono' hY (Same.new hD3 (o := .lst ys))
          have hYs : upd H3' D3 (.lst ys) D3 = some (.lst ys) := upd_same
          generalize upd H3' D3 (.lst ys) = HG at sG hYG hYs ⊢
          have hml : marks.length = nss.length := by rw [hmk, List.length_map]
          have hwl : ways.length = nss.length := by rw [hwy, List.length_map]
          have sAll := sF'.trans sG
          refine ⟨false, false, D2, D3, L, marks, ys, ways, rfl, SqL.of (sG _ _ hME), SqL.of hYs, ⟨hYG.1, fun i r hi => ?_⟩, by omega, by omega, fun r hr => ?_, fun hok hh m y us H5 s5 h1 h2 h3 h4 => ?_, fun _ H5 s5 => ⟨rfl, sAll.trans s5⟩⟩
          . obtain ⟨t, a1, a2⟩ := hYG.2 i r hi
            exact ⟨false, t, a1, SqL.of a2⟩
          . rw [hwy] at hr
            obtain ⟨ns, hns, rfl⟩ := List.mem_map.mp hr
            have := n1 ns hns
            rw [List.length_tail]; omega
          . refine k L marks ways (Wf_of hok) ?_ hh H5 (sAll.trans s5) ⟨m, y, SqT.of h1, h2, RowsT.R45 h4 (SqT.of h3)⟩
            rw [ez, tL_rows]
            congr 1
            congr 1
            unfold hrows
            rw [List.map_cons, er0, n2, hmk, hwy, List.zip_map', List.map_map, List.map_map]
            congr 1
            refine List.map_congr_left fun ns hns => ?_
            have hrl' := n1 ns hns
            cases ns with
            | nil => simp at hrl'
            | cons m row => rfl
def cell (ns : List Int) (k : Nat) : Int := ns.getD k 0
def sp_cell (K : PySem.W.Frag) : Sp := fun vs H Q _ => ∃ (a : Addr) (ns : List Int) (k : Nat), vs = [.ref a, .int k] /\ SqL K H a (ns.map V.int) /\ Q (.int (cell ns k)) H
theorem ok__law_cell_at {f : Addr} {fd : FuncData} (F : Fun K "_law_cell_at" "_law_cell_at" s__law_cell_at f fd) (T : Txt mg)
    (W : Own K mg)
    (Z : Exs K mg C_AskError C_BadHouse C_NoText)
    : FnOk P w K mg base CX0 1 f fd ["script", "k"] (sp_cell K) := by
  refine F.ok sc__law_cell_at (fun vs H Q E h => ?_) (fun cdv A outer s H vs Q E hr h => ?_)
  . obtain ⟨a, ns, k, rfl, _⟩ := h; rfl
  . obtain ⟨a, ns, k, rfl, hs, q⟩ := h
    refine ⟨_, (pss_cons (ps_if (pt_cmpR op_lt (pv 1) (pe_callB call_len_seq (by rfl) T.len PySem.boot_len (pa_cons (pv 0) pa_nil)) (nomark _))
      (pss_one (ps_ret (pe_ix ix_list (pv 0) (pv 1) (fun _ _ => rfl))))
      pss_nil)
      (pss_one (ps_ret pe_int))), ?_⟩
    walk_at "rd"
    refine ⟨_, .inl hs, ?_⟩
    rw [List.length_map]
    refine ite2 (fun hk => ?_) (fun hk => ?_)
    . have hk' : k < ns.length := by simpa using hk
      refine ⟨_, hs, V.int (cell ns k), ?_, q⟩
      refine atI_nat ?_
      rw [List.getElem?_map]
      unfold cell
      rw [List.getD_eq_getElem?_getD]
      simp [hk']
    . have hk' : ¬ k < ns.length := by simpa using hk
      have : cell ns k = 0 := by
        unfold cell
        rw [List.getD_eq_getElem?_getD, List.getElem?_eq_none (by omega)]; rfl
      rw [<- this]
      exact q
def sp_whole : Sp := fun vs H Q _ => ∃ n : Int, vs = [.int n] /\ Q (.bl true) H
theorem ok__law_whole {f : Addr} {fd : FuncData} (F : Fun K "_law_whole" "_law_whole" s__law_whole f fd) (T : Txt mg)
    (W : Own K mg)
    (Z : Exs K mg C_AskError C_BadHouse C_NoText)
    : FnOk P w K mg base CX0 1 f fd ["found"] (sp_whole) := by
  refine F.ok sc__law_whole (fun vs H Q E h => ?_) (fun cdv A outer s H vs Q E hr h => ?_)
  . obtain ⟨n, rfl, _⟩ := h; rfl
  . obtain ⟨n, rfl, q⟩ := h
    refine ⟨_, (pss_one (ps_ret (pe_and (pe_callB call_isinstW rfl T.isinstance PyProof.Rows.boot_isinstance (pa_cons (pv 0) (pa_cons (pe_bltn (v := .ty "int") rfl T.int PyProof.Rows.boot_int rfl) pa_nil))) (pe_one (pe_not (pe_callB call_isinstW rfl T.isinstance PyProof.Rows.boot_isinstance (pa_cons (pv 0) (pa_cons (pe_bltn (v := .ty "bool") rfl T.bool PyProof.Rows.boot_bool rfl) pa_nil)))))))), ?_⟩
    walk_at "rd"
    refine ⟨_, _, .int _, rel_ty, _, kit_self, ?_⟩
    rw [if_pos rfl]
    refine ⟨_, _, .int _, rel_ty, _, kit_int_bool, ?_⟩
    exact q
def sp_draw (K : PySem.W.Frag) : Sp := fun vs H Q _ => ∃ (a : Addr) (ns : List Int) (k m : Int), vs = [.ref a, .int k, .int m] /\ SqL K H a (ns.map V.int) /\ 0 <= k /\ k <= 1000000 /\ 0 < m /\ ∀ x, 0 <= x -> x < m -> Q (.int x) H
theorem ok__law_draw {f : Addr} {fd : FuncData} (F : Fun K "_law_draw" "_law_draw" s__law_draw f fd) (T : Txt mg)
    (W : Own K mg)
    (Z : Exs K mg C_AskError C_BadHouse C_NoText)
    : FnOk P w K mg base CX0 1 f fd ["flow", "k", "many"] (sp_draw K) := by
  refine F.ok sc__law_draw (fun vs H Q E h => ?_) (fun cdv A outer s H vs Q E hr h => ?_)
  . obtain ⟨a, ns, k, m, rfl, _⟩ := h; rfl
  . obtain ⟨a, ns, k, m, rfl, hs, hk0, hk1, hm, q⟩ := h
    have hl := line1000
    refine ⟨_, (pss_cons (ps_if (pt_cmpR op_lt (pv 1) (pe_callB call_len_seq (by rfl) T.len PySem.boot_len (pa_cons (pv 0) pa_nil)) (nomark _))
      (pss_one (ps_ret (pe_op op_mod (pe_ix ix_list (pv 0) (pv 1) (fun _ _ => rfl)) (pv 2))))
      pss_nil)
      (pss_cons (ps_if (pt_cmpR op_eq (pe_callB call_len_seq (by rfl) T.len PySem.boot_len (pa_cons (pv 0) pa_nil)) pe_int (nomark _))
      (pss_one (ps_ret pe_int))
      pss_nil)
      (pss_cons (ps_set (i := 3) sc__law_draw.nd rfl (Or.inl rfl) (pe_op op_mod (pe_ix ix_list (pv 0) (pe_op op_mod (pv 1) (pe_callB call_len_seq (by rfl) T.len PySem.boot_len (pa_cons (pv 0) pa_nil))) (fun _ _ => rfl)) pe_int))
      (pss_cons (ps_set (i := 4) sc__law_draw.nd rfl (Or.inl rfl) (pe_op op_mod (pe_op op_mul (pe_op op_add (pe_op op_add (pv 3) (pe_op op_mul (pv 1) (pv 1))) pe_int) pe_int) pe_int))
      (pss_one (ps_ret (pe_op op_mod (pe_op op_mod (pe_op op_mul (pv 4) (pv 4)) pe_int) (pv 2)))))))), ?_⟩
    walk_at "rd"
    refine ⟨_, .inl hs, ?_⟩
    rw [List.length_map]
    refine ite2 (fun hlt => ?_) (fun hge => ?_)
    . have hk' : k.toNat < ns.length := by omega
      refine ⟨_, hs, _, atI_int hk0 (v := ns[k.toNat]) (by simp [hk']), ?_⟩
      walk_at "rd"
      exact ⟨hm, q _ (Int.emod_nonneg _ (by omega)) (Int.emod_lt_of_pos _ hm)⟩
    . refine ⟨_, .inl hs, ?_⟩
      rw [List.length_map]
      refine ite2 (fun h0 => q 0 (by omega) hm) (fun h0 => ?_)
      have hpos : 0 < (ns.length : Int) := by omega
      have e0 := Int.emod_nonneg k (show (ns.length : Int) ≠ 0 by omega)
      have e1 := Int.emod_lt_of_pos k hpos
      have hk' : (k % (ns.length : Int)).toNat < ns.length := by omega
      refine ⟨_, .inl hs, by rw [List.length_map]; exact hpos, _, hs, _, by rw [List.length_map]; exact atI_int e0 (v := ns[(k % (ns.length : Int)).toNat]) (by simp [hk']), ?_⟩
      walk_at "rd"
      refine ⟨by decide, .inl ⟨by omega, by omega⟩, ?_⟩
      generalize ns[(k % (ns.length : Int)).toNat] % 2147483647 + k * k + 1 = z
      have m0 := Int.emod_nonneg (z * 48271) (show (2147483647 : Int) ≠ 0 by decide)
      have m1 := Int.emod_lt_of_pos (z * 48271) (show (0 : Int) < 2147483647 by decide)
      refine ⟨.inr ⟨by decide, by decide⟩, by decide, .inl ⟨by omega, by omega⟩, by decide, hm, ?_⟩
      exact q _ (Int.emod_nonneg _ (by omega)) (Int.emod_lt_of_pos _ hm)
def sp_house (K : PySem.W.Frag) : Sp := fun vs H Q _ => ∃ (a : Addr) (ns : List Int) (L c : Int), vs = [.ref a, .int L, .int c] /\ SqL K H a (ns.map V.int) /\ ns.length <= 63 /\ 1 <= L /\ L <= 6 /\ ∀ h marks ways H', Same H H' -> House K H' h L marks ways -> Wf L marks ways -> Q (.ref h) H'
theorem ok__law_house_by {f : Addr} {fd : FuncData} (F : Fun K "_law_house_by" "_law_house_by" s__law_house_by f fd) (T : Txt mg)
    (W : Own K mg)
    (Z : Exs K mg C_AskError C_BadHouse C_NoText)
    {f__law_draw : Addr} {fd__law_draw : FuncData} (g__law_draw : FnOk P w K mg base CX0 1 f__law_draw fd__law_draw ["flow", "k", "many"] (sp_draw K)) (F__law_draw : Fun K "_law_draw" "_law_draw" s__law_draw f__law_draw fd__law_draw) (b__law_draw : Binds K fd__law_draw ["flow", "k", "many"] []) (m__law_draw : mg "_law_draw" = some (.ref f__law_draw))
    : FnOk P w K mg base CX0 2 f fd ["flow", "letters", "cell"] (sp_house K) := by
  refine F.ok sc__law_house_by (fun vs H Q E h => ?_) (fun cdv A outer s H vs Q E hr h => ?_)
  . obtain ⟨a, ns, L, c, rfl, _⟩ := h; rfl
  . obtain ⟨a, ns, L, c, rfl, hs, hz, hL1, hL6, k⟩ := h
    have hl := line1000
    refine ⟨_, (pss_cons (ps_set (i := 3) sc__law_house_by.nd rfl (Or.inr rfl) (pe_callB (call_max2 rfl) rfl T.max PyProof.Rows.boot_max (pa_cons pe_int (pa_cons (pe_callB (call_min2 rfl) rfl T.min PyProof.Rows.boot_min (pa_cons pe_int (pa_cons (pe_op op_fdiv (pe_callB call_len_seq (by rfl) T.len PySem.boot_len (pa_cons (pv 0) pa_nil)) (pe_op op_add (pv 1) pe_int)) pa_nil))) pa_nil))))
      (pss_cut (ps_if (pt_cmpR op_eq (pe_op op_mod (pv 2) pe_int) pe_int (nomark _))
      (pss_one (ps_set (i := 3) sc__law_house_by.nd rfl (Or.inr rfl) (pe_op op_add pe_int (pe_op op_mod (pe_op op_fdiv (pv 2) pe_int) pe_int))))
      pss_nil)
      (pss_cons (ps_set (i := 4) sc__law_house_by.nd rfl (Or.inl rfl) (pe_lst pa_nil))
      (pss_cons (ps_set (i := 5) sc__law_house_by.nd rfl (Or.inl rfl) (pe_lst pa_nil))
      (pss_cons (ps_for PassesOwn.never rfl (pi_range1 rfl T.range (pa_cons (pv 3) pa_nil)) (pg_name (i := 6) sc__law_house_by.nd rfl (Or.inl rfl))
      (pss_cons (ps_set (i := 7) sc__law_house_by.nd rfl (Or.inr rfl) (pe_op op_mul (pv 6) (pe_op op_add (pv 1) pe_int)))
      (pss_cut (ps_if (pt_cmpR op_eq (pe_op op_mod (pe_op op_fdiv (pv 2) pe_int) pe_int) pe_int (nomark _))
      (pss_one (ps_expr (pe_bm PySem.F.plainAttrs_list PySem.F.slot_list_append PySem.F.type_list_append mt_append (pv 4) (pa_cons (pe_ix ix_list (pe_lst (pa_cons pe_int (pa_cons pe_int (pa_cons pe_int pa_nil)))) (pe_call g__law_draw (hr.mono (by decide)) rfl m__law_draw F__law_draw.kp b__law_draw .nil pass0 (pa_cons (pv 0) (pa_cons (pv 7) (pa_cons pe_int pa_nil)))) (fun _ _ => rfl)) pa_nil))))
      (pss_one (ps_expr (pe_bm PySem.F.plainAttrs_list PySem.F.slot_list_append PySem.F.type_list_append mt_append (pv 4) (pa_cons (pe_call g__law_draw (hr.mono (by decide)) rfl m__law_draw F__law_draw.kp b__law_draw .nil pass0 (pa_cons (pv 0) (pa_cons (pv 7) (pa_cons pe_int pa_nil)))) pa_nil)))))
      (pss_one (ps_expr (pe_bm PySem.F.plainAttrs_list PySem.F.slot_list_append PySem.F.type_list_append mt_append (pv 5) (pa_cons (pe_callTy call_tuple_of rfl T.tuple PyProof.Rows.boot_tuple (pa_cons (pe_comp rfl (blk_mk rfl) (cp := c__law_house_by_0) ⟨⟨rfl, rfl⟩, ⟨⟨rfl, rfl⟩, ⟨⟨rfl, rfl⟩, True.intro⟩⟩⟩ (pi_range1 rfl T.range (pa_cons (pv 1) pa_nil)) (fun _ _ _ _ => (pg_name (i := 0) nd_c__law_house_by_0 rfl (Or.inl rfl))) (fun _ _ _ _ => pf_nil) (fun _ _ _ _ => (pe_call g__law_draw (hr.mono (by decide)) rfl m__law_draw F__law_draw.kp b__law_draw .nil pass0 (pa_cons (pv 1) (pa_cons (pe_op op_add (pe_op op_add (pv 3) pe_int) (pv 0)) (pa_cons (pv 2) pa_nil)))))) pa_nil)) pa_nil)))))))
      (pss_one (ps_ret (pe_tup (pa_cons (pv 1) (pa_cons (pe_callTy call_tuple_of rfl T.tuple PyProof.Rows.boot_tuple (pa_cons (pv 4) pa_nil)) (pa_cons (pe_callTy call_tuple_of rfl T.tuple PyProof.Rows.boot_tuple (pa_cons (pv 5) pa_nil)) pa_nil))))))))))), ?_⟩
    walk_at "rd"
    refine ⟨_, .inl hs, ⟨by omega, by omega⟩, ?_⟩
    rw [List.length_map]
    have hq0 : 0 <= (ns.length : Int) / (L + 1) := Int.ediv_nonneg (by omega) (by omega)
    generalize (ns.length : Int) / (L + 1) = q at hq0 ⊢
    obtain ⟨R, hR⟩ : ∃ R : St -> Hp -> Prop, ∀ σ' H', R σ' H' ↔ (H' = H /\ ∃ n : Nat, 1 <= n /\ n <= 40 /\ σ' = [some (.ref a), some (.int L), some (.int c), some (.int n), none, none, none, none]) := ⟨_, fun _ _ => Iff.rfl⟩
    refine ⟨R, ?_, ?_⟩
    . walk_at "rd"
      refine ⟨by decide, ite2 (fun _ => ?_) (fun _ => ?_)⟩
      . refine ⟨⟨by decide, by decide⟩, by decide, (hR _ _).mpr ⟨rfl, (1 + c / 3 % 40).toNat, by omega, by omega, ?_⟩⟩
        rw [show (((1 + c / 3 % 40).toNat : Nat) : Int) = 1 + c / 3 % 40 by omega]
      . obtain ⟨n, hn, h1, h2⟩ : ∃ n : Nat, (if (if q < 40 then q else 40) > 1 then if q < 40 then q else 40 else 1) = (n : Int) /\ 1 <= n /\ n <= 40 := by
          refine ⟨(if (if q < 40 then q else 40) > 1 then if q < 40 then q else 40 else 1).toNat, ?_, ?_, ?_⟩ <;> (by_cases h1 : q < 40 <;> simp only [h1, if_true, if_false] <;> split <;> omega)
        rw [hn]
        exact (hR _ _).mpr ⟨rfl, n, h1, h2, rfl⟩
    . intro σ' H' h'
      obtain ⟨rfl, n, hn1, hn40, rfl⟩ := (hR _ _).mp h'
      walk_at "rd"
      refine ⟨by omega, fun pm hpm => ⟨by omega, fun pw hpw => ⟨by omega, by omega, ?_⟩⟩⟩
      rw [Int.toNat_natCast]
      have hne : pm ≠ pw := Ne.symm (none_of_upd hpw).2
      have hnw : H' pw = none := (none_of_upd hpw).1
      have s0 : Same H' (upd (upd H' pm (.lst [])) pw (.lst [])) := (Same.new hpm).newT hpw
      have hm0 : upd (upd H' pm (.lst [])) pw (.lst []) pm = some (.lst (([] : List Int).map V.int)) := Same.new hpw _ _ upd_same
      have hw0 : upd (upd H' pm (.lst [])) pw (.lst []) pw = some (.lst []) := upd_same
      generalize upd (upd H' pm (.lst [])) pw (.lst []) = H0 at s0 hm0 hw0 ⊢
      obtain ⟨Pv, hPv⟩ : ∃ Pv : Nat -> St -> Hp -> Prop, ∀ i σ2 H2, Pv i σ2 H2 ↔ (∃ (marks : List Int) (ways : List (List Int)) (o1 o2 : Option V), Same H' H2 /\ Made K H2 pm pw L n i i marks ways /\ σ2 = [some (.ref a), some (.int L), some (.int c), some (.int n), some (.ref pm), some (.ref pw), o1, o2]) := ⟨_, fun _ _ _ => Iff.rfl⟩
      refine forR Pv ((hPv _ _ _).mpr ⟨[], [], none, none, s0, ⟨hm0, rfl, (fun x hx => by cases hx), TupsL.nil hw0, rfl, (fun x hx => by cases hx)⟩, rfl⟩) (fun i σ2 H2 hi h2 => ?_) (fun σ2 H2 h2 => ?_)
      . obtain ⟨marks, ways, o1, o2, s2, mk, rfl⟩ := (hPv _ _ _).mp h2
        walk_at "rd"
        refine ⟨.inl ⟨by omega, by omega⟩, ?_⟩
        have hat0 : 0 <= (0 + (i : Int)) * (L + 1) := Int.mul_nonneg (by omega) (by omega)
        have hat1 : (0 + (i : Int)) * (L + 1) <= 40 * 7 := by
          have := Int.mul_le_mul (show (0 + (i : Int)) <= 40 by omega) (show L + 1 <= 7 by omega) (by omega) (by omega)
          exact this
        generalize (0 + (i : Int)) * (L + 1) = at' at hat0 hat1 ⊢
        obtain ⟨R2, hR2⟩ : ∃ R : St -> Hp -> Prop, ∀ σ3 H3, R σ3 H3 ↔ (∃ (marks : List Int) (ways : List (List Int)), Same H' H3 /\ Made K H3 pm pw L n (i + 1) i marks ways /\ σ3 = [some (.ref a), some (.int L), some (.int c), some (.int n), some (.ref pm), some (.ref pw), some (.int (0 + (i : Int))), some (.int at')]) := ⟨_, fun _ _ => Iff.rfl⟩
        refine ⟨R2, ?_, ?_⟩
        . walk_at "rd"
          refine ⟨⟨by decide, by decide⟩, by decide, ite2 (fun _ => ?_) (fun _ => ?_)⟩
          . refine ⟨.inl ⟨rfl, _, SqL.of mk.m⟩, by omega, fun q1 hq1 => ?_⟩
            have s3 := Same.new hq1 (o := .lst [V.int 0, V.int 1, V.int 1000000000])
            have mk3 := mk.mono s3
            refine ⟨a, ns, at', 3, rfl, s3.seq (s2.seq hs), hat0, by omega, by decide, fun x hx0 hx1 => ?_⟩
            walk_at "rd"
            obtain ⟨v, hv1, hv2⟩ : ∃ v : Int, atI [V.int 0, V.int 1, V.int 1000000000] x = some (V.int v) /\ (0 <= v /\ v <= 1000000000) := by
              have : x = 0 \/ x = 1 \/ x = 2 := by omega
              rcases this with rfl | rfl | rfl
              . exact ⟨0, rfl, by decide, by decide⟩
              . exact ⟨1, rfl, by decide, by decide⟩
              . exact ⟨1000000000, rfl, by decide, by decide⟩
            refine ⟨_, SqL.of upd_same, _, hv1, _, mk3.m, by rw [List.length_map, mk.ml]; omega, (hR2 _ _).mpr ⟨_, ways, (s2.trans s3).over hpm, mk3.mark hne hv2, rfl⟩⟩
          . refine ⟨.inl ⟨rfl, _, SqL.of mk.m⟩, a, ns, at', 1000000001, rfl, s2.seq hs, hat0, by omega, by decide, fun x hx0 hx1 => ?_⟩
            walk_at "rd"
            refine ⟨_, mk.m, by rw [List.length_map, mk.ml]; omega, (hR2 _ _).mpr ⟨_, ways, s2.over hpm, mk.mark hne ⟨hx0, by omega⟩, rfl⟩⟩
        . intro σ3 H3 h3
          obtain ⟨marks, ways, s3, mk, rfl⟩ := (hR2 _ _).mp h3
          walk_at "rd"
          obtain ⟨ts, hw1, _⟩ := id mk.w
          refine ⟨.inl ⟨rfl, _, SqL.of hw1⟩, by omega, by omega, ?_⟩
          obtain ⟨Pc, hPc⟩ : ∃ Pc : Nat -> List V -> St -> Hp -> Prop, ∀ j ys σ4 H4, Pc j ys σ4 H4 ↔ (H4 = H3 /\ ∃ (row : List Int) (o : Option V), ys = row.map V.int /\ row.length = j /\ (∀ x ∈ row, 0 <= x /\ x < (n : Int)) /\ σ4 = [o, some (.ref a), some (.int n), some (.int at')]) := ⟨_, fun _ _ _ _ => Iff.rfl⟩
          refine compR Pc ((hPc _ _ _ _).mpr ⟨rfl, [], none, rfl, rfl, (fun x hx => by cases hx), rfl⟩) (by omega) (fun j ys σ4 H4 _ h4 => ?_) (fun j ys σ4 H4 hj h4 => ?_) (fun ys σ4 H4 h4 D hD => ?_)
          . obtain ⟨_, row, o, rfl, hrl, _⟩ := (hPc _ _ _ _).mp h4
            rw [List.length_map]; omega
          . obtain ⟨rfl, row, o, rfl, hrl, hrr, rfl⟩ := (hPc _ _ _ _).mp h4
            walk_at "rd"
            refine ⟨a, ns, _, n, rfl, s3.seq hs, by omega, by omega, by omega, fun x hx0 hx1 => ?_⟩
            refine (hPc _ _ _ _).mpr ⟨rfl, row ++ [x], _, by simp, by simp [hrl], fun y hy => ?_, rfl⟩
            rcases List.mem_append.mp hy with hy | hy
            . exact hrr y hy
            . rw [List.mem_singleton.mp hy]; exact ⟨hx0, hx1⟩
          . obtain ⟨rfl, row, o, rfl, hrl, hrr, rfl⟩ := (hPc _ _ _ _).mp h4
            refine ⟨D, rfl, _, .inl ⟨SqL.of upd_same, fun t ht => ?_⟩⟩
            obtain ⟨xs, e1, e2, mk3⟩ := (mk.mono ((Same.new hD (o := .lst (row.map V.int))).newT ht (o := .tup (row.map V.int)))).row hne (row := row) ⟨by omega, hrr⟩ (SqT.of upd_same)
            exact ⟨xs, e1, by omega, (hPv _ _ _).mpr ⟨marks, ways ++ [row], _, _, ((s3.newT hD).newT ht).over hnw, mk3, rfl⟩⟩
      . obtain ⟨marks, ways, o1, o2, s2, mk, rfl⟩ := (hPv _ _ _).mp h2
        walk_at "rd"
        refine ⟨_, .inl ⟨SqL.of mk.m, fun t1 ht1 => ?_⟩⟩
        obtain ⟨xs, hx1, hrows⟩ := (mk.w.mono (Same.new ht1 (o := .tup (marks.map V.int)))).rows
        refine ⟨xs, .inl ⟨SqL.of hx1, fun t2 ht2 => ⟨by omega, fun hh hhh => ?_⟩⟩⟩
        exact k hh marks ways _ (((s2.newT ht1).newT ht2).newT hhh) ⟨t1, t2, SqT.of upd_same, ((Same.new ht2).newT hhh).seqT (SqT.of upd_same), (hrows t2 ht2).mono (Same.new hhh)⟩ (mk.wf hL1 hL6 hn1 hn40)
def sp_sound45 (K : PySem.W.Frag) : Sp := fun vs H Q _ => ∃ (a : Addr) (L : Int) (marks : List Int) (ways : List (List Int)), vs = [.ref a] /\ House K H a L marks ways /\ Wf L marks ways /\ Q (.bl true) H
theorem ok__law_sound {f : Addr} {fd : FuncData} (F : Fun K "_law_sound" "_law_sound" s__law_sound f fd) (T : Txt mg)
    (W : Own K mg)
    (Z : Exs K mg C_AskError C_BadHouse C_NoText)
    {f__law_whole : Addr} {fd__law_whole : FuncData} (g__law_whole : FnOk P w K mg base CX0 1 f__law_whole fd__law_whole ["found"] (sp_whole)) (F__law_whole : Fun K "_law_whole" "_law_whole" s__law_whole f__law_whole fd__law_whole) (b__law_whole : Binds K fd__law_whole ["found"] []) (m__law_whole : mg "_law_whole" = some (.ref f__law_whole))
    : FnOk P w K mg base CX0 2 f fd ["found"] (sp_sound45 K) := by
  refine F.ok sc__law_sound (fun vs H Q E h => ?_) (fun cdv A outer s H vs Q E hr h => ?_)
  . obtain ⟨a, L, marks, ways, rfl, _⟩ := h; rfl
  . obtain ⟨a, L, marks, ways, rfl, ⟨m, wv, h1, h2, ts, h3, h4, h5⟩, wf, k⟩ := h
    have hl := line1000
    have hL1 := wf.l1
    have hL6 := wf.l6
    have hn40 := wf.n40
    have hn1 := wf.n1
    have hwl := wf.len
    refine ⟨_, (pss_cons (ps_if (PW.pt (pw_or (pt_not (pt_val (pe_callB call_isinstW rfl T.isinstance PyProof.Rows.boot_isinstance (pa_cons (pv 0) (pa_cons (pe_bltn (v := .ty "tuple") rfl T.tuple PyProof.Rows.boot_tuple rfl) pa_nil))))) (pw_or (pt_cmpR op_ne (pe_callB call_len_seq (by rfl) T.len PySem.boot_len (pa_cons (pv 0) pa_nil)) pe_int (nomark _)) (pw_or1 (pt_not (pt_val (pe_call g__law_whole (hr.mono (by decide)) rfl m__law_whole F__law_whole.kp b__law_whole .nil pass0 (pa_cons (pe_ix ix_tup (pv 0) pe_int (fun _ _ => rfl)) pa_nil))))))))
      (pss_one (ps_ret pe_bl))
      pss_nil)
      (pss_cons (ps_if (PW.pt (pw_or (pt_not (pt_val (pe_callB call_isinstW rfl T.isinstance PyProof.Rows.boot_isinstance (pa_cons (pe_ix ix_tup (pv 0) pe_int (fun _ _ => rfl)) (pa_cons (pe_bltn (v := .ty "tuple") rfl T.tuple PyProof.Rows.boot_tuple rfl) pa_nil))))) (pw_or (pt_not (pt_val (pe_callB call_isinstW rfl T.isinstance PyProof.Rows.boot_isinstance (pa_cons (pe_ix ix_tup (pv 0) pe_int (fun _ _ => rfl)) (pa_cons (pe_bltn (v := .ty "tuple") rfl T.tuple PyProof.Rows.boot_tuple rfl) pa_nil))))) (pw_or1 (pt_cmpR op_ne (pe_callB call_len_seq (by rfl) T.len PySem.boot_len (pa_cons (pe_ix ix_tup (pv 0) pe_int (fun _ _ => rfl)) pa_nil)) (pe_callB call_len_seq (by rfl) T.len PySem.boot_len (pa_cons (pe_ix ix_tup (pv 0) pe_int (fun _ _ => rfl)) pa_nil)) (nomark _))))))
      (pss_one (ps_ret pe_bl))
      pss_nil)
      (pss_cons (ps_if (PW.pt (pw_or (pt_cmpR op_lt (pe_ix ix_tup (pv 0) pe_int (fun _ _ => rfl)) pe_int (nomark _)) (pw_or (pt_cmpR op_gt (pe_ix ix_tup (pv 0) pe_int (fun _ _ => rfl)) pe_int (nomark _)) (pw_or (pt_cmpR op_lt (pe_callB call_len_seq (by rfl) T.len PySem.boot_len (pa_cons (pe_ix ix_tup (pv 0) pe_int (fun _ _ => rfl)) pa_nil)) pe_int (nomark _)) (pw_or1 (pt_cmpR op_gt (pe_callB call_len_seq (by rfl) T.len PySem.boot_len (pa_cons (pe_ix ix_tup (pv 0) pe_int (fun _ _ => rfl)) pa_nil)) pe_int (nomark _)))))))
      (pss_one (ps_ret pe_bl))
      pss_nil)
      (pss_cons (ps_for PassesOwn.never rfl (pi_tup (pe_ix ix_tup (pv 0) pe_int (fun _ _ => rfl))) (pg_name (i := 1) sc__law_sound.nd rfl (Or.inl rfl))
      (pss_one (ps_if (PW.pt (pw_or (pt_not (pt_val (pe_call g__law_whole (hr.mono (by decide)) rfl m__law_whole F__law_whole.kp b__law_whole .nil pass0 (pa_cons (pv 1) pa_nil)))) (pw_or (pt_cmpR op_lt (pv 1) pe_int (nomark _)) (pw_or1 (pt_cmpR op_gt (pv 1) pe_int (nomark _))))))
      (pss_one (ps_ret pe_bl))
      pss_nil)))
      (pss_cons (ps_for PassesOwn.never rfl (pi_tup (pe_ix ix_tup (pv 0) pe_int (fun _ _ => rfl))) (pg_name (i := 2) sc__law_sound.nd rfl (Or.inl rfl))
      (pss_cons (ps_if (PW.pt (pw_or (pt_not (pt_val (pe_callB call_isinstW rfl T.isinstance PyProof.Rows.boot_isinstance (pa_cons (pv 2) (pa_cons (pe_bltn (v := .ty "tuple") rfl T.tuple PyProof.Rows.boot_tuple rfl) pa_nil))))) (pw_or1 (pt_cmpR op_ne (pe_callB call_len_seq (by rfl) T.len PySem.boot_len (pa_cons (pv 2) pa_nil)) (pe_ix ix_tup (pv 0) pe_int (fun _ _ => rfl)) (nomark _)))))
      (pss_one (ps_ret pe_bl))
      pss_nil)
      (pss_one (ps_for PassesOwn.never rfl (pi_tup (pv 2)) (pg_name (i := 3) sc__law_sound.nd rfl (Or.inl rfl))
      (pss_one (ps_if (PW.pt (pw_or (pt_not (pt_val (pe_call g__law_whole (hr.mono (by decide)) rfl m__law_whole F__law_whole.kp b__law_whole .nil pass0 (pa_cons (pv 3) pa_nil)))) (pw_or (pt_cmpR op_lt (pv 3) pe_int (nomark _)) (pw_or1 (pt_cmpR op_ge (pv 3) (pe_callB call_len_seq (by rfl) T.len PySem.boot_len (pa_cons (pe_ix ix_tup (pv 0) pe_int (fun _ _ => rfl)) pa_nil)) (nomark _))))))
      (pss_one (ps_ret pe_bl))
      pss_nil))))))
      (pss_one (ps_ret pe_bl))))))), ?_⟩
    walk_at "rd"
    refine ⟨_, _, .tup h1, rel_ty, _, kit_self, ?_⟩
    rw [if_neg (by decide)]
    refine ⟨_, .inr h1, ?_⟩
    rw [if_neg (by simp)]
    refine ⟨_, h1, _, rfl, L, rfl, _, rfl, ?_⟩
    rw [if_neg (by decide)]
    refine ⟨_, h1, _, rfl, _, _, .tup h2, rel_ty, _, kit_self, ?_⟩
    rw [if_neg (by decide)]
    refine ⟨_, h1, _, rfl, _, _, .tup h3, rel_ty, _, kit_self, ?_⟩
    rw [if_neg (by decide)]
    refine ⟨_, h1, _, rfl, m, rfl, _, .inr h2, _, h1, _, rfl, wv, rfl, _, .inr h3, ?_⟩
    rw [if_neg (by rw [List.length_map, List.length_map, h4, hwl]; simp)]
    refine ⟨_, h1, _, rfl, _, rfl, ?_⟩
    rw [if_neg (by omega)]
    refine ⟨_, h1, _, rfl, _, rfl, ?_⟩
    rw [if_neg (by omega)]
    refine ⟨_, h1, _, rfl, m, rfl, _, .inr h2, ?_⟩
    rw [if_neg (by rw [List.length_map]; omega)]
    refine ⟨_, h1, _, rfl, m, rfl, _, .inr h2, ?_⟩
    rw [if_neg (by rw [List.length_map]; omega)]
    refine ⟨_, h1, _, rfl, m, rfl, ⟨_, h2⟩, ?_⟩
    obtain ⟨Pv, hPv⟩ : ∃ Pv : Nat -> St -> Hp -> Prop, ∀ i σ' H', Pv i σ' H' ↔ (H' = H /\ ∃ o, σ' = [some (.ref a), o, none, none]) := ⟨_, fun _ _ _ => Iff.rfl⟩
    refine forT (xs := marks.map V.int) Pv ((hPv _ _ _).mpr ⟨rfl, none, rfl⟩) (fun i σ' H' _ h' => by obtain ⟨rfl, _⟩ := (hPv _ _ _).mp h'; exact h2) (fun i x σ' H' hx h' => ?_) (fun σ' H' h' => ?_)
    . obtain ⟨rfl, o, rfl⟩ := (hPv _ _ _).mp h'
      obtain ⟨mk, hmk, rfl⟩ := get_mapI hx
      have hmb := wf.mks mk (List.mem_of_getElem? hmk)
      walk_at "rd"
      refine ⟨mk, rfl, _, rfl, ?_⟩
      rw [if_neg (by decide), if_neg (by omega), if_neg (by omega)]
      exact (hPv _ _ _).mpr ⟨rfl, _, rfl⟩
    . obtain ⟨rfl, o, rfl⟩ := (hPv _ _ _).mp h'
      walk_at "rd"
      refine ⟨_, h1, _, rfl, wv, rfl, ⟨_, h3⟩, ?_⟩
      obtain ⟨Pw, hPw⟩ : ∃ Pv : Nat -> St -> Hp -> Prop, ∀ i σ2 H2, Pv i σ2 H2 ↔ (H2 = H' /\ ∃ o1 o2 o3, σ2 = [some (.ref a), o1, o2, o3]) := ⟨_, fun _ _ _ => Iff.rfl⟩
      refine forT (xs := ts.map V.ref) Pw ((hPw _ _ _).mpr ⟨rfl, _, _, _, rfl⟩) (fun i σ' H2 _ h2' => by obtain ⟨rfl, _⟩ := (hPw _ _ _).mp h2'; exact h3) (fun i x σ2 H2 hx h2' => ?_) (fun σ2 H2 h2' => ?_)
      . obtain ⟨rfl, o1, o2, o3, rfl⟩ := (hPw _ _ _).mp h2'
        rw [List.getElem?_map] at hx
        cases hti : ts[i]? with
        | none => rw [hti] at hx; cases hx
        | some ti =>
          rw [hti] at hx
          cases hx
          have hil : i < ways.length := by rw [<- h4]; exact (List.getElem?_eq_some_iff.mp hti).1
          have hrow := h5 i ti _ hti (show ways[i]? = some ways[i] by simp [hil])
          have hrw := wf.rows _ (List.getElem_mem hil)
          generalize ways[i] = row at hrow hrw
          walk_at "rd"
          refine ⟨_, _, .tup hrow, rel_ty, _, kit_self, ?_⟩
          rw [if_neg (by decide)]
          refine ⟨_, .inr hrow, _, h1, _, rfl, rfl, ?_⟩
          rw [if_neg (by rw [List.length_map]; simp; omega)]
          refine ⟨⟨_, hrow⟩, ?_⟩
          obtain ⟨Pz, hPz⟩ : ∃ Pv : Nat -> St -> Hp -> Prop, ∀ i σ3 H3, Pv i σ3 H3 ↔ (H3 = H2 /\ ∃ o3, σ3 = [some (.ref a), o1, some (.ref ti), o3]) := ⟨_, fun _ _ _ => Iff.rfl⟩
          refine forT (xs := row.map V.int) Pz ((hPz _ _ _).mpr ⟨rfl, _, rfl⟩) (fun i σ' H2 _ h2' => by obtain ⟨rfl, _⟩ := (hPz _ _ _).mp h2'; exact hrow) (fun i x σ3 H3 hx h3' => ?_) (fun σ3 H3 h3' => ?_)
          . obtain ⟨rfl, o3, rfl⟩ := (hPz _ _ _).mp h3'
            obtain ⟨g, hg, rfl⟩ := get_mapI hx
            have hgb := hrw.2 g (List.mem_of_getElem? hg)
            walk_at "rd"
            refine ⟨g, rfl, _, rfl, ?_⟩
            rw [if_neg (by decide), if_neg (by omega)]
            refine ⟨_, h1, _, rfl, m, rfl, _, .inr h2, ?_⟩
            rw [if_neg (by rw [List.length_map]; omega)]
            exact (hPz _ _ _).mpr ⟨rfl, _, rfl⟩
          . obtain ⟨rfl, o3, rfl⟩ := (hPz _ _ _).mp h3'
            exact (hPw _ _ _).mpr ⟨rfl, _, _, _, rfl⟩
      . obtain ⟨rfl, o1, o2, o3, rfl⟩ := (hPw _ _ _).mp h2'
        walk_at "rd"
        exact k
theorem jn_flat (c : Nat) (p : List Nat) : ∀ r : List (List Nat), jn c (p :: r) = p ++ (r.map (c :: ·)).flatten
  | [] => by simp [jn]
  | q :: r => by
    show p ++ c :: jn c (q :: r) = _
    rw [jn_flat c q r]
    simp
theorem hrows_take {L : Int} {marks : List Int} {ways : List (List Int)} {i : Nat} {m : Int} {row : List Int} (hm : marks[i]? = some m) (hw : ways[i]? = some row) : tL ((hrows L marks ways).take (i + 1 + 1)) = tL ((hrows L marks ways).take (i + 1)) ++ (jn 32 ((Str.ofString "room").cps.toList :: (nt m).cps.toList :: row.map fun g => (nt g).cps.toList) ++ [10]) := by
  have hnext : (hrows L marks ways)[i + 1]? = some (roomP m row) := by
    unfold hrows
    rw [List.getElem?_cons_succ, List.getElem?_map, show (marks.zip ways)[i]? = some (m, row) from List.getElem?_zip_eq_some.mpr ⟨hm, hw⟩]; rfl
  unfold tL
  rw [List.take_add_one (i := i + 1), hnext, List.map_append, List.flatten_append]
  congr 1
  unfold rowL roomP
  simp [Function.comp_def]
def sp_ltext (K : PySem.W.Frag) : Sp := fun vs H Q _ => ∃ (h : Addr) (L : Int) (marks : List Int) (ways : List (List Int)), vs = [.ref h] /\ House K H h L marks ways /\ Wf L marks ways /\ ∀ z, z.cps.toList = tL (hrows L marks ways) -> z.length <= 4100 -> Q (.str z) H
theorem ok__law_house_text {f : Addr} {fd : FuncData} (F : Fun K "_law_house_text" "_law_house_text" s__law_house_text f fd) (T : Txt mg)
    (W : Own K mg)
    (Z : Exs K mg C_AskError C_BadHouse C_NoText)
    : FnOk P w K mg base CX0 1 f fd ["house"] (sp_ltext K) := by
  refine F.ok sc__law_house_text (fun vs H Q E h => ?_) (fun cdv A outer s H vs Q E hr h => ?_)
  . obtain ⟨h, L, marks, ways, rfl, _⟩ := h; rfl
  . obtain ⟨h, L, marks, ways, rfl, hh, wf, k⟩ := h
    have hl := line1000
    have hL1 := wf.l1
    have hL6 := wf.l6
    have hn40 := wf.n40
    have hwl := wf.len
    obtain ⟨mm, wv, q1, q2, q3⟩ := id hh
    have hnl := (nt_len (show 0 <= L by omega) (show L < 10 ^ 10 by omega)).2
    have e1 : (Str.ofString "house ").length = 6 := by decide +kernel
    have e2 : (Str.ofString "\n").length = 1 := by decide +kernel
    have e3 : (Str.ofString "room ").length = 5 := by decide +kernel
    have e4 : (Str.ofString " ").length = 1 := by decide +kernel
    have c1 : (Str.ofString "house ").cps.toList = (Str.ofString "house").cps.toList ++ [32] := by decide +kernel
    have c3 : (Str.ofString "room ").cps.toList = (Str.ofString "room").cps.toList ++ [32] := by decide +kernel
    refine ⟨_, (pss_cons (ps_set (i := 1) sc__law_house_text.nd rfl (Or.inl rfl) (pe_op op_add_str (pe_op op_add_str pe_str (pe_callTy call_strI rfl T.str PyProof.Rows.boot_str (pa_cons (pe_ix ix_tup (pv 0) pe_int (fun _ _ => rfl)) pa_nil))) pe_str))
      (pss_cons (ps_for PassesOwn.never rfl (pi_range1 rfl T.range (pa_cons (pe_callB call_len_seq (by rfl) T.len PySem.boot_len (pa_cons (pe_ix ix_tup (pv 0) pe_int (fun _ _ => rfl)) pa_nil)) pa_nil)) (pg_name (i := 2) sc__law_house_text.nd rfl (Or.inl rfl))
      (pss_cons (ps_set (i := 1) sc__law_house_text.nd rfl (Or.inl rfl) (pe_op op_add_str (pe_op op_add_str (pv 1) pe_str) (pe_callTy call_strI rfl T.str PyProof.Rows.boot_str (pa_cons (pe_ix ix_tup (pe_ix ix_tup (pv 0) pe_int (fun _ _ => rfl)) (pv 2) (fun _ _ => rfl)) pa_nil))))
      (pss_cons (ps_for PassesOwn.never rfl (pi_tup (pe_ix ix_tup (pe_ix ix_tup (pv 0) pe_int (fun _ _ => rfl)) (pv 2) (fun _ _ => rfl))) (pg_name (i := 3) sc__law_house_text.nd rfl (Or.inl rfl))
      (pss_one (ps_set (i := 1) sc__law_house_text.nd rfl (Or.inl rfl) (pe_op op_add_str (pe_op op_add_str (pv 1) pe_str) (pe_callTy call_strI rfl T.str PyProof.Rows.boot_str (pa_cons (pv 3) pa_nil))))))
      (pss_one (ps_set (i := 1) sc__law_house_text.nd rfl (Or.inl rfl) (pe_op op_add_str (pv 1) pe_str))))))
      (pss_one (ps_ret (pv 1))))), ?_⟩
    walk_at "rd"
    refine ⟨_, q1, _, rfl, L, rfl, by omega, by omega, ?_⟩
    have al : ∀ x y : Str, (x ++ y).length = x.length + y.length := fun x y => Str.length_append x y
    refine ⟨by omega, by rw [al]; omega, _, q1, _, rfl, mm, rfl, _, .inr q2, by omega, by rw [List.length_map]; omega, ?_⟩
    rw [List.length_map, Int.toNat_natCast]
    obtain ⟨Pv, hPv⟩ : ∃ Pv : Nat -> St -> Hp -> Prop, ∀ i σ' H', Pv i σ' H' ↔ (∃ (z : Str) (o2 o3 : Option V), H' = H /\ z.cps.toList = tL ((hrows L marks ways).take (i + 1)) /\ z.length <= 100 * (i + 1) /\ σ' = [some (.ref h), some (.str z), o2, o3]) := ⟨_, fun _ _ _ => Iff.rfl⟩
    refine forR Pv ((hPv _ _ _).mpr ⟨_, none, none, rfl, ?_, ?_, rfl⟩) (fun i σ' H' hi h' => ?_) (fun σ' H' h' => ?_)
    . rw [Str.cps_append, Str.cps_append, Array.toList_append, Array.toList_append, c1, nwl]
      unfold hrows tL rowL
      simp [jn]
    . rw [al, al]; omega
    . obtain ⟨z, o2, o3, rfl, hz, hzl, rfl⟩ := (hPv _ _ _).mp h'
      rw [Int.zero_add]
      have hmi : marks[i]? = some marks[i] := by simp [hi]
      have hwi : ways[i]? = some ways[i] := by simp [show i < ways.length by omega]
      have hrb := wf.rows _ (List.mem_of_getElem? hwi)
      have hmb := wf.mks _ (List.mem_of_getElem? hmi)
      generalize marks[i] = m at hmi hmb
      generalize ways[i] = row at hwi hrb
      have hrl : (row.length : Int) = L := hrb.1
      have hml := (nt_len hmb.1 (show m < 10 ^ 10 by omega)).2
      obtain ⟨xs, t, y1, y2, y3⟩ := q3.at hwi
      walk_at "rd"
      refine ⟨by omega, _, q1, _, rfl, mm, rfl, _, q2, _, atI_nat (by rw [List.getElem?_map, hmi]; rfl), m, rfl, hmb.1, by omega, by rw [al]; omega, ?_⟩
      refine ⟨_, q1, _, rfl, wv, rfl, _, y1, _, y2, t, rfl, ⟨_, y3⟩, ?_⟩
      obtain ⟨Pz, hPz⟩ : ∃ Pv : Nat -> St -> Hp -> Prop, ∀ j σ3 H3, Pv j σ3 H3 ↔ (∃ (z' : Str) (o3 : Option V), H3 = H' /\ z'.cps.toList = tL ((hrows L marks ways).take (i + 1)) ++ (jn 32 ((Str.ofString "room").cps.toList :: (nt m).cps.toList :: (row.take j).map fun g => (nt g).cps.toList)) /\ z'.length <= z.length + 15 + 11 * j /\ σ3 = [some (.ref h), some (.str z'), some (.int i), o3]) := ⟨_, fun _ _ _ => Iff.rfl⟩
      refine forT (xs := row.map V.int) Pz ((hPz _ _ _).mpr ⟨_, o3, rfl, ?_, ?_, rfl⟩) (fun j σ3 H3 _ h3 => by obtain ⟨_, _, rfl, _⟩ := (hPz _ _ _).mp h3; exact y3) (fun j x σ3 H3 hx h3 => ?_) (fun σ3 H3 h3 => ?_)
      . rw [Str.cps_append, Str.cps_append, Array.toList_append, Array.toList_append, c3, hz]
        simp [jn]
      . rw [al, al]; omega
      . obtain ⟨z', o3', rfl, hz', hzl', rfl⟩ := (hPz _ _ _).mp h3
        obtain ⟨g, hg, rfl⟩ := get_mapI hx
        have hgb := hrb.2 g (List.mem_of_getElem? hg)
        have hgl := (nt_len hgb.1 (show g < 10 ^ 10 by omega)).2
        have hjl := (List.getElem?_eq_some_iff.mp hg).1
        walk_at "rd"
        refine ⟨by omega, hgb.1, by omega, by rw [al]; omega, (hPz _ _ _).mpr ⟨_, _, rfl, ?_, ?_, rfl⟩⟩
        . rw [Str.cps_append, Str.cps_append, Array.toList_append, Array.toList_append, hz', spc, List.take_add_one (l := row) (i := j), hg, List.map_append, jn_flat, jn_flat]
          simp
        . rw [al, al]; omega
      . obtain ⟨z', o3', rfl, hz', hzl', rfl⟩ := (hPz _ _ _).mp h3
        rw [List.length_map, List.take_length] at hz'
        rw [List.length_map] at hzl'
        walk_at "rd"
        refine ⟨by omega, (hPv _ _ _).mpr ⟨_, _, _, rfl, ?_, ?_, rfl⟩⟩
        . rw [Str.cps_append, Array.toList_append, hz', nwl, hrows_take hmi hwi, List.append_assoc]
        . rw [al]; omega
    . obtain ⟨z, o2, o3, rfl, hz, hzl, rfl⟩ := (hPv _ _ _).mp h'
      walk_at "rd"
      refine k z ?_ (by omega)
      rw [hz, List.take_of_length_le]
      unfold hrows
      rw [List.length_cons, List.length_map, List.length_zip]; omega
def sp_sign44 : Sp := fun vs H Q _ => ∃ (n : Int), vs = [.int n] /\ ∀ c, Q (.str ⟨#[c]⟩) H
theorem ok__law_sign_by {f : Addr} {fd : FuncData} (F : Fun K "_law_sign_by" "_law_sign_by" s__law_sign_by f fd) (T : Txt mg)
    (W : Own K mg)
    (Z : Exs K mg C_AskError C_BadHouse C_NoText)
    : FnOk P w K mg base CX0 1 f fd ["cell"] (sp_sign44) := by
  refine F.ok sc__law_sign_by (fun vs H Q E h => ?_) (fun cdv A outer s H vs Q E hr h => ?_)
  . obtain ⟨n, rfl, _⟩ := h; rfl
  . obtain ⟨n, rfl, k⟩ := h
    have hl := line1000
    refine ⟨_, (pss_cons (ps_set (i := 1) sc__law_sign_by.nd rfl (Or.inl rfl) pe_str)
      (pss_cons (ps_set (i := 1) sc__law_sign_by.nd rfl (Or.inl rfl) (pe_op op_add_str (pv 1) pe_str))
      (pss_one (ps_ret (pe_ix ix_str (pv 1) (pe_op op_mod (pv 0) pe_int) (fun _ _ => rfl)))))), ?_⟩
    walk_at "rd"
    have e1 : (Str.ofString " !\"#$&'()*+,-./0123456789:;<=>?@ABCDEFGHIJKLMNOPQRSTUVWXYZ[\\]^_`").length + (Str.ofString "abcdefghijklmnopqrstuvwxyz{|}~\n").length = 95 := by decide +kernel
    have e2 : (Str.ofString " !\"#$&'()*+,-./0123456789:;<=>?@ABCDEFGHIJKLMNOPQRSTUVWXYZ[\\]^_`" ++ Str.ofString "abcdefghijklmnopqrstuvwxyz{|}~\n").length = 95 := by decide +kernel
    generalize Str.ofString " !\"#$&'()*+,-./0123456789:;<=>?@ABCDEFGHIJKLMNOPQRSTUVWXYZ[\\]^_`" ++ Str.ofString "abcdefghijklmnopqrstuvwxyz{|}~\n" = z at e2 ⊢
    have g0 := Int.emod_nonneg n (show (95 : Int) ≠ 0 by decide)
    have g1 := Int.emod_lt_of_pos n (show (0 : Int) < 95 by decide)
    have e3 : z.cps.toList.length = 95 := by rw [Array.length_toList]; exact e2
    have hlt : (n % 95).toNat < z.cps.toList.length := by omega
    exact ⟨by omega, by decide, by omega, _, atI_of g0 (List.getElem?_eq_getElem hlt), k _⟩
def sp_spoilX : Sp := fun vs H Q _ => ∃ (z often : Str) (n : Int), vs = [.str z, .int n, .str often] /\ z.length <= 400000 /\ 1 <= often.length /\ often.length <= 450 /\ ∀ z' : Str, z'.length <= 2 * z.length + 20 -> Q (.str z') H
theorem ok__law_spoiled {f : Addr} {fd : FuncData} (F : Fun K "_law_spoiled" "_law_spoiled" s__law_spoiled f fd) (T : Txt mg)
    (W : Own K mg)
    (Z : Exs K mg C_AskError C_BadHouse C_NoText)
    {f__law_sign_by : Addr} {fd__law_sign_by : FuncData} (g__law_sign_by : FnOk P w K mg base CX0 1 f__law_sign_by fd__law_sign_by ["cell"] (sp_sign44)) (F__law_sign_by : Fun K "_law_sign_by" "_law_sign_by" s__law_sign_by f__law_sign_by fd__law_sign_by) (b__law_sign_by : Binds K fd__law_sign_by ["cell"] []) (m__law_sign_by : mg "_law_sign_by" = some (.ref f__law_sign_by))
    : FnOk P w K mg base CX0 2 f fd ["text", "cell", "often"] (sp_spoilX) := by
  refine F.ok sc__law_spoiled (fun vs H Q E h => ?_) (fun cdv A outer s H vs Q E hr h => ?_)
  . obtain ⟨z, often, n, rfl, _⟩ := h; rfl
  . obtain ⟨z, often, n, rfl, hz, ho1, ho, k⟩ := h
    have hl := line1000
    refine ⟨_, (pss_cons (ps_set (i := 3) sc__law_spoiled.nd rfl (Or.inl rfl) (pe_op op_mod (pe_op op_fdiv (pv 1) pe_int) (pe_op op_add (pe_callB call_len_str (by rfl) T.len PySem.boot_len (pa_cons (pv 0) pa_nil)) pe_int)))
      (pss_cons (ps_set (i := 4) sc__law_spoiled.nd rfl (Or.inl rfl) (pe_ix ix_str (pv 2) (pe_op op_mod (pe_op op_fdiv (pv 1) pe_int) (pe_callB call_len_str (by rfl) T.len PySem.boot_len (pa_cons (pv 2) pa_nil))) (fun _ _ => rfl)))
      (pss_cut (ps_if (pt_cmpR op_eq (pe_op op_mod (pe_op op_fdiv (pv 1) pe_int) pe_int) pe_int (nomark _))
      (pss_one (ps_set (i := 4) sc__law_spoiled.nd rfl (Or.inl rfl) (pe_call g__law_sign_by (hr.mono (by decide)) rfl m__law_sign_by F__law_sign_by.kp b__law_sign_by .nil pass0 (pa_cons (pe_op op_fdiv (pv 1) pe_int) pa_nil))))
      pss_nil)
      (pss_cons (ps_if (pt_cmpR op_eq (pe_op op_mod (pv 1) pe_int) pe_int (nomark _))
      (pss_one (ps_ret (pe_op op_add_str (pe_op op_add_str (pe_slice sl_str (pv 0) po_none (po_some (pv 3))) (pv 4)) (pe_slice sl_str (pv 0) (po_some (pv 3)) po_none))))
      pss_nil)
      (pss_cons (ps_if (pt_cmpR op_eq (pe_op op_mod (pv 1) pe_int) pe_int (nomark _))
      (pss_one (ps_ret (pe_op op_add_str (pe_op op_add_str (pe_slice sl_str (pv 0) po_none (po_some (pv 3))) (pv 4)) (pe_slice sl_str (pv 0) (po_some (pe_op op_add (pv 3) pe_int)) po_none))))
      pss_nil)
      (pss_one (ps_ret (pe_op op_add_str (pe_slice sl_str (pv 0) po_none (po_some (pv 3))) (pe_slice sl_str (pv 0) (po_some (pe_op op_add (pv 3) pe_int)) po_none))))))))), ?_⟩
    walk_at "rd"
    have g0 := Int.emod_nonneg (n / 1009) (show (often.length : Int) ≠ 0 by omega)
    have g1 := Int.emod_lt_of_pos (n / 1009) (show (0 : Int) < (often.length : Int) by omega)
    have e3 : often.cps.toList.length = often.length := by rw [Array.length_toList]; rfl
    have hlt : (n / 1009 % (often.length : Int)).toNat < often.cps.toList.length := by omega
    refine ⟨⟨by decide, by decide⟩, by omega, by omega, ⟨by decide, by decide⟩, by omega, by omega, by omega, _, atI_of g0 (List.getElem?_eq_getElem hlt), ?_⟩
    generalize n / 3 % ((z.length : Int) + 1) = sp
    obtain ⟨R, hR⟩ : ∃ R : St -> Hp -> Prop, ∀ σ' H', R σ' H' ↔ (∃ c : Nat, H' = H /\ σ' = [some (.str z), some (.int n), some (.str often), some (.int sp), some (.str ⟨#[c]⟩)]) := ⟨_, fun _ _ => Iff.rfl⟩
    refine ⟨R, ?_, fun σ2 H2 h2 => ?_⟩
    . walk_at "rd"
      refine ⟨⟨by decide, by decide⟩, by decide, ite2 (fun _ => ?_) (fun _ => (hR _ _).mpr ⟨_, rfl, rfl⟩)⟩
      exact ⟨⟨by decide, by decide⟩, n / 1009, rfl, fun c => (hR _ _).mpr ⟨c, rfl, rfl⟩⟩
    . obtain ⟨c, rfl, rfl⟩ := (hR _ _).mp h2
      walk_at "rd"
      have l1 := slice_len z none (some sp)
      have l2 := slice_len z (some sp) none
      have l3 := slice_len z (some (sp + 1)) none
      have lc : (⟨#[c]⟩ : Str).length = 1 := rfl
      refine ⟨by decide, ite2 (fun _ => ?_) (fun _ => ⟨by decide, ite2 (fun _ => ?_) (fun _ => ?_)⟩)⟩
      . exact ⟨by omega, by rw [lc]; omega, by omega, by rw [Str.length_append, lc]; omega, k _ (by rw [Str.length_append, Str.length_append, lc]; omega)⟩
      . exact ⟨by omega, by rw [lc]; omega, by omega, by rw [Str.length_append, lc]; omega, k _ (by rw [Str.length_append, Str.length_append, lc]; omega)⟩
      . exact ⟨by omega, by omega, by omega, k _ (by rw [Str.length_append]; omega)⟩
theorem sum_set {ps : List Str} {i : Nat} {q : Str} : ((ps.set i q).map fun p : Str => p.length + 1).sum <= (ps.map fun p : Str => p.length + 1).sum + (q.length + 1) := by
  induction ps generalizing i with
  | nil => simp
  | cons p ps ih =>
    cases i with
    | zero => simp; omega
    | succ i => have := ih (i := i); simp at this ⊢; omega
theorem sum_erase {ps : List Str} {i : Nat} : ((ps.eraseIdx i).map fun p : Str => p.length + 1).sum <= (ps.map fun p : Str => p.length + 1).sum := by
  induction ps generalizing i with
  | nil => simp
  | cons p ps ih =>
    cases i with
    | zero => simp
    | succ i => have := ih (i := i); simp at this ⊢; omega
theorem sum_split {ps : List Str} {i : Nat} {q : Str} : ((ps.take i ++ q :: ps.drop i).map fun p : Str => p.length + 1).sum = (ps.map fun p : Str => p.length + 1).sum + (q.length + 1) := by
  have := congrArg (fun l : List Str => (l.map fun p : Str => p.length + 1).sum) (List.take_append_drop i ps)
  simp only [List.map_append, List.sum_append, List.map_cons, List.sum_cons] at this ⊢
  omega
theorem sum_plain (ps : List Str) : (ps.map (·.length)).sum + ps.length = (ps.map fun p : Str => p.length + 1).sum := by
  induction ps with
  | nil => rfl
  | cons p ps ih => simp at ih ⊢; omega
theorem er_map {α β : Type} (f : α -> β) : ∀ (l : List α) (i : Nat), (l.map f).eraseIdx i = (l.eraseIdx i).map f
  | [], _ => rfl
  | a :: l, 0 => rfl
  | a :: l, i + 1 => by show f a :: (l.map f).eraseIdx i = f a :: (l.eraseIdx i).map f; rw [er_map f l i]
theorem seqI_natX {i n : Nat} (h : i < n) : seqIndex? (i : Int) n = some i := by
  unfold seqIndex?
  simp [show ¬ (i : Int) < 0 by omega, h]
theorem ixN_natX {n j : Nat} (h : j < n) : ixN n (j : Int) = some j := by
  rw [ixN_of (by omega) (by omega)]; simp
theorem joinX_len {s : Str} (hs : s.length = 1) (ps : List Str) : (Txt.join s ps).length <= (ps.map fun p : Str => p.length + 1).sum := by
  have h1 := StrLaws.join_length_le s ps
  rw [hs] at h1
  show (Builtin.Str.glued s ps).length <= _
  rw [StrLaws.glued_eq_join]
  refine Nat.le_trans h1 ?_
  clear h1
  induction ps with
  | nil => simp
  | cons p ps ih => simp at ih ⊢; omega
def sp_rspoilX : Sp := fun vs H Q _ => ∃ (z : Str) (n : Int), vs = [.str z, .int n] /\ z.length <= 240000 /\ ∀ (z' : Str) H', Same H H' -> z'.length <= 2 * z.length + 20 -> Q (.str z') H'
theorem ok__law_rows_spoiled {f : Addr} {fd : FuncData} (F : Fun K "_law_rows_spoiled" "_law_rows_spoiled" s__law_rows_spoiled f fd) (T : Txt mg)
    (W : Own K mg)
    (Z : Exs K mg C_AskError C_BadHouse C_NoText)
    : FnOk P w K mg base CX0 1 f fd ["text", "cell"] (sp_rspoilX) := by
  refine F.ok sc__law_rows_spoiled (fun vs H Q E h => ?_) (fun cdv A outer s H vs Q E hr h => ?_)
  . obtain ⟨z, n, rfl, _⟩ := h; rfl
  . obtain ⟨z, n, rfl, hz, k⟩ := h
    have hl := line1000
    refine ⟨_, (pss_cons (ps_set (i := 2) sc__law_rows_spoiled.nd rfl (Or.inl rfl) (pe_bm PySem.F.plainAttrs_str PySem.F.slot_str_split PySem.F.type_str_split mt_ssplit (pv 0) (pa_cons pe_str pa_nil)))
      (pss_cons (ps_set (i := 3) sc__law_rows_spoiled.nd rfl (Or.inl rfl) (pe_op op_mod (pe_op op_fdiv (pv 1) pe_int) (pe_callB call_len_seq (by rfl) T.len PySem.boot_len (pa_cons (pv 2) pa_nil))))
      (pss_cons (ps_set (i := 4) sc__law_rows_spoiled.nd rfl (Or.inl rfl) (pe_op op_mod (pe_op op_fdiv (pv 1) pe_int) (pe_callB call_len_seq (by rfl) T.len PySem.boot_len (pa_cons (pv 2) pa_nil))))
      (pss_cons (ps_set (i := 5) sc__law_rows_spoiled.nd rfl (Or.inl rfl) (pe_ix ix_list (pv 2) (pv 3) (fun _ _ => rfl)))
      (pss_cut (ps_if (pt_cmpR op_eq (pe_op op_mod (pv 1) pe_int) pe_int (nomark _))
      (pss_one (ps_expr (pe_bm PySem.F.plainAttrs_list PySem.F.slot_list_pop PySem.F.type_list_pop mt_popAt (pv 2) (pa_cons (pv 3) pa_nil))))
      pss_nil)
      (pss_cut (ps_if (pt_cmpR op_eq (pe_op op_mod (pv 1) pe_int) pe_int (nomark _))
      (pss_one (ps_expr (pe_bm PySem.F.plainAttrs_list PySem.F.slot_list_insert PySem.F.type_list_insert mt_insert (pv 2) (pa_cons (pv 3) (pa_cons (pv 5) pa_nil)))))
      pss_nil)
      (pss_cut (ps_if (pt_cmpR op_eq (pe_op op_mod (pv 1) pe_int) pe_int (nomark _))
      (pss_cons (ps_expr (pe_bm PySem.F.plainAttrs_list PySem.F.slot_list_pop PySem.F.type_list_pop mt_popAt (pv 2) (pa_cons (pv 3) pa_nil)))
      (pss_one (ps_expr (pe_bm PySem.F.plainAttrs_list PySem.F.slot_list_insert PySem.F.type_list_insert mt_insert (pv 2) (pa_cons (pv 4) (pa_cons (pv 5) pa_nil))))))
      pss_nil)
      (pss_cut (ps_if (pt_cmpR op_eq (pe_op op_mod (pv 1) pe_int) pe_int (nomark _))
      (pss_one (ps_asg (pe_ix ix_list (pv 2) (pv 4) (fun _ _ => rfl)) (pg_sub (pv 2) (pv 3) set_list)))
      pss_nil)
      (pss_one (ps_ret (pe_bm PySem.F.plainAttrs_str PySem.F.slot_str_join PySem.F.type_str_join mt_sjoin pe_str (pa_cons (pv 2) pa_nil)))))))))))), ?_⟩
    walk_at "rd"
    obtain ⟨h1, h2, h3, h4⟩ := splitX (show 10 < 128 by decide) z
    rw [nwl]
    refine ⟨rfl, rfl, by omega, fun l hl' => ?_⟩
    have s1 := Same.new hl' (o := .lst ((Txt.split z ⟨#[10]⟩).map V.str))
    have u1 : upd H l (.lst ((Txt.split z ⟨#[10]⟩).map V.str)) l = some (.lst ((Txt.split z ⟨#[10]⟩).map V.str)) := upd_same
    generalize upd H l (.lst ((Txt.split z ⟨#[10]⟩).map V.str)) = H1 at s1 u1 ⊢
    generalize Txt.split z ⟨#[10]⟩ = ps at h1 h2 h3 h4 u1
    have hp0 : 0 < ps.length := List.length_pos_iff.mpr h1
    have hsl := sum_len ps
    refine ⟨⟨by decide, by decide⟩, _, .inl (SqL.of u1), by rw [List.length_map]; omega, ⟨by decide, by decide⟩, _, .inl (SqL.of u1), by rw [List.length_map]; omega, _, SqL.of u1, ?_⟩
    rw [List.length_map]
    have a0 := Int.emod_nonneg (n / 4) (show (ps.length : Int) ≠ 0 by omega)
    have a1 := Int.emod_lt_of_pos (n / 4) (show (0 : Int) < (ps.length : Int) by omega)
    have b0 := Int.emod_nonneg (n / 1009) (show (ps.length : Int) ≠ 0 by omega)
    have b1 := Int.emod_lt_of_pos (n / 1009) (show (0 : Int) < (ps.length : Int) by omega)
    obtain ⟨sp, hsp⟩ : ∃ sp : Nat, n / 4 % (ps.length : Int) = sp := ⟨_, (Int.toNat_of_nonneg a0).symm⟩
    obtain ⟨ot, hot⟩ : ∃ ot : Nat, n / 1009 % (ps.length : Int) = ot := ⟨_, (Int.toNat_of_nonneg b0).symm⟩
    rw [hsp] at a1 ⊢
    rw [hot] at b1 ⊢
    have hgs : ps[sp]? = some ps[sp] := by simp
    have hgo : ps[ot]? = some ps[ot] := by simp
    have hrl := sum_mem (List.mem_of_getElem? hgs)
    have hol := sum_mem (List.mem_of_getElem? hgo)
    generalize ps[sp] = row at hgs hrl
    generalize ps[ot] = ro at hgo hol
    refine ⟨V.str row, atI_nat (by rw [List.getElem?_map, hgs]; rfl), ?_⟩
    have m0 := Int.emod_nonneg n (show (4 : Int) ≠ 0 by decide)
    have m1 := Int.emod_lt_of_pos n (show (0 : Int) < 4 by decide)
    obtain ⟨R, hR⟩ : ∃ R : Int -> St -> Hp -> Prop, ∀ j σ' H', R j σ' H' ↔ (∃ qs : List Str, Same H H' /\ H' l = some (.lst (qs.map V.str)) /\ (j <= n % 4 -> qs = ps) /\ (qs.map fun p : Str => p.length + 1).sum <= 2 * (z.length + 1) /\ σ' = [some (.str z), some (.int n), some (.ref l), some (.int sp), some (.int ot), some (.str row)]) := ⟨_, fun _ _ _ => Iff.rfl⟩
    have r0 : R 0 [some (.str z), some (.int n), some (.ref l), some (.int sp), some (.int ot), some (.str row)] H1 := (hR _ _ _).mpr ⟨ps, s1, u1, fun _ => rfl, by omega, rfl⟩
    have skip : ∀ {j : Int} {σ' : St} {H' : Hp}, R j σ' H' -> R (j + 1) σ' H' := fun {j σ' H'} h => by
      obtain ⟨qs, x1, x2, x3, x4, x5⟩ := (hR _ _ _).mp h
      exact (hR _ _ _).mpr ⟨qs, x1, x2, fun z => x3 (by omega), x4, x5⟩
    refine ⟨R 1, ?_, fun σ2 H2 h2 => ?_⟩
    . walk_at "rd"
      refine ⟨by decide, ite2 (fun g => ?_) (fun g => skip r0)⟩
      refine ⟨.inl ⟨rfl, _, SqL.of u1⟩, _, u1, by omega, by omega, sp, seqI_natX (by rw [List.length_map]; omega), _, by rw [List.getElem?_map, hgs]; rfl, (hR _ _ _).mpr ⟨ps.eraseIdx sp, s1.over hl', by rw [upd_same, er_map], fun z => by omega, Nat.le_trans sum_erase (by omega), rfl⟩⟩
    obtain ⟨qs, x1, x2, x3, x4, rfl⟩ := (hR _ _ _).mp h2
    refine ⟨R 2, ?_, fun σ3 H3 h3 => ?_⟩
    . walk_at "rd"
      refine ⟨by decide, ite2 (fun g => ?_) (fun g => skip h2)⟩
      have := x3 (by omega)
      subst this
      refine ⟨.inl ⟨rfl, _, SqL.of x2⟩, _, x2, by omega, by rw [List.length_map]; omega, by rw [List.length_map]; omega, (hR _ _ _).mpr ⟨qs.take sp ++ row :: qs.drop sp, x1.over hl', by rw [upd_same, List.map_append, List.map_cons, List.map_take, List.map_drop]; rfl, fun z => by omega, by rw [sum_split]; omega, rfl⟩⟩
    clear x1 x2 x3 x4 h2 qs r0
    obtain ⟨qs, x1, x2, x3, x4, rfl⟩ := (hR _ _ _).mp h3
    refine ⟨R 3, ?_, fun σ4 H4 h4 => ?_⟩
    . walk_at "rd"
      refine ⟨by decide, ite2 (fun g => ?_) (fun g => skip h3)⟩
      have := x3 (by omega)
      subst this
      refine ⟨.inl ⟨rfl, _, SqL.of x2⟩, _, x2, by omega, by omega, sp, seqI_natX (by rw [List.length_map]; omega), _, by rw [List.getElem?_map, hgs]; rfl, ?_⟩
      have hel : (qs.eraseIdx sp).length = qs.length - 1 := by rw [List.length_eraseIdx]; simp; omega
      refine ⟨.inl ⟨rfl, _, SqL.of upd_same⟩, _, upd_same, by omega, by rw [er_map, List.length_map, hel]; omega, by rw [er_map, List.length_map, hel]; omega, (hR _ _ _).mpr ⟨(qs.eraseIdx sp).take ot ++ row :: (qs.eraseIdx sp).drop ot, (x1.over hl').over hl', by rw [upd_same, er_map, List.map_append, List.map_cons, List.map_take, List.map_drop]; rfl, fun z => by omega, ?_, rfl⟩⟩
      rw [sum_split]
      have := sum_erase (ps := qs) (i := sp)
      omega
    clear x1 x2 x3 x4 h3 qs
    obtain ⟨qs, x1, x2, x3, x4, rfl⟩ := (hR _ _ _).mp h4
    refine ⟨R 4, ?_, fun σ5 H5 h5 => ?_⟩
    . walk_at "rd"
      refine ⟨by decide, ite2 (fun g => ?_) (fun g => skip h4)⟩
      have := x3 (by omega)
      subst this
      refine ⟨_, SqL.of x2, V.str ro, atI_nat (by rw [List.getElem?_map, hgo]; rfl), _, x2, sp, ixN_natX (by rw [List.length_map]; omega), (hR _ _ _).mpr ⟨qs.set sp ro, x1.over hl', by rw [upd_same, List.map_set], fun z => by omega, Nat.le_trans sum_set (by omega), rfl⟩⟩
    clear x1 x2 x3 x4 h4 qs
    obtain ⟨qs, x1, x2, x3, x4, rfl⟩ := (hR _ _ _).mp h5
    walk_at "rd"
    have hj := joinX_len (s := ⟨#[10]⟩) rfl qs
    have hp := sum_plain qs
    exact ⟨rfl, qs, SqL.of x2, by decide, by omega, k _ _ x1 (by omega)⟩
theorem ok__law_thing_spoiled {f : Addr} {fd : FuncData} (F : Fun K "_law_thing_spoiled" "_law_thing_spoiled" s__law_thing_spoiled f fd) (T : Txt mg)
    (W : Own K mg)
    (Z : Exs K mg C_AskError C_BadHouse C_NoText)
    : FnOk P w K mg base CX0 1 f fd ["text", "cell"] (sp_rspoilX) := by
  refine F.ok sc__law_thing_spoiled (fun vs H Q E h => ?_) (fun cdv A outer s H vs Q E hr h => ?_)
  . obtain ⟨z, n, rfl, _⟩ := h; rfl
  . obtain ⟨z, n, rfl, hz, k⟩ := h
    have hl := line1000
    refine ⟨_, (@pss_cons _ _ _ _ _ (@ps_set _ _ 2 _ _ _ _ sc__law_thing_spoiled.nd rfl (Or.inl rfl) (@pe_lst _ _ _ _ (@pa_consS _ _ _ _ _ _ (@pa_consS _ _ _ _ _ _ (@pa_consS _ _ _ _ _ _ (@pa_consS _ _ _ _ _ _ (@pa_consS _ _ _ _ _ _ (@pa_consS _ _ _ _ _ _ (@pa_consS _ _ _ _ _ _ (@pa_consS _ _ _ _ _ _ (@pa_consS _ _ _ _ _ _ (@pa_consS _ _ _ _ _ _ (@pa_consS _ _ _ _ _ _ (@pa_consS _ _ _ _ _ _ (@pa_consS _ _ _ _ _ _ pa_nil)))))))))))))) rfl (Or.inl rfl))
      (pss_cons (ps_set (i := 3) sc__law_thing_spoiled.nd rfl (Or.inl rfl) (pe_bm PySem.F.plainAttrs_str PySem.F.slot_str_split PySem.F.type_str_split mt_ssplit (pv 0) (pa_cons pe_str pa_nil)))
      (pss_cons (ps_set (i := 4) sc__law_thing_spoiled.nd rfl (Or.inl rfl) (pe_op op_mod (pe_op op_fdiv (pv 1) pe_int) (pe_callB call_len_seq (by rfl) T.len PySem.boot_len (pa_cons (pv 3) pa_nil))))
      (pss_cut (ps_if (pt_cmpR op_eq (pe_op op_mod (pe_op op_fdiv (pv 1) pe_int) pe_int) pe_int (nomark _))
      (pss_one (ps_set (i := 4) sc__law_thing_spoiled.nd rfl (Or.inl rfl) pe_int))
      pss_nil)
      (pss_cons (ps_set (i := 5) sc__law_thing_spoiled.nd rfl (Or.inl rfl) (pe_bm PySem.F.plainAttrs_str PySem.F.slot_str_split PySem.F.type_str_split mt_ssplit (pe_ix ix_list (pv 3) (pv 4) (fun _ _ => rfl)) (pa_cons pe_str pa_nil)))
      (pss_cons (ps_asg (pe_ix ix_list (pv 2) (pe_op op_mod (pv 1) (pe_callB call_len_seq (by rfl) T.len PySem.boot_len (pa_cons (pv 2) pa_nil))) (fun _ _ => rfl)) (pg_sub (pv 5) (pe_op op_mod (pe_op op_fdiv (pv 1) pe_int) (pe_callB call_len_seq (by rfl) T.len PySem.boot_len (pa_cons (pv 5) pa_nil))) set_list))
      (pss_cons (ps_asg (pe_bm PySem.F.plainAttrs_str PySem.F.slot_str_join PySem.F.type_str_join mt_sjoin pe_str (pa_cons (pv 5) pa_nil)) (pg_sub (pv 3) (pv 4) set_list))
      (pss_one (ps_ret (pe_bm PySem.F.plainAttrs_str PySem.F.slot_str_join PySem.F.type_str_join mt_sjoin pe_str (pa_cons (pv 3) pa_nil))))))))))), ?_⟩
    walk_at "rd"
    obtain ⟨h1, h2, h3, h4⟩ := splitX (show 10 < 128 by decide) z
    rw [nwl]
    refine ⟨by omega, fun p hp => ⟨rfl, rfl, by omega, fun l hl' => ?_⟩⟩
    have hod : ∃ od : List Str, [V.str (Str.ofString "0"), V.str (Str.ofString "7"), V.str (Str.ofString "00"), V.str (Str.ofString "01"), V.str (Str.ofString "+1"), V.str (Str.ofString "1_0"), V.str (Str.ofString "1000000000"), V.str (Str.ofString "1000000001"), V.str (Str.ofString "9999999999"), V.str (Str.ofString "10000000000"), V.str (Str.ofString "-1"), V.str (Str.ofString ""), V.str (Str.ofString "6")] = od.map V.str /\ od.length = 13 /\ ∀ q ∈ od, q.length <= 11 := ⟨[Str.ofString "0", Str.ofString "7", Str.ofString "00", Str.ofString "01", Str.ofString "+1", Str.ofString "1_0", Str.ofString "1000000000", Str.ofString "1000000001", Str.ofString "9999999999", Str.ofString "10000000000", Str.ofString "-1", Str.ofString "", Str.ofString "6"], rfl, rfl, by decide +kernel⟩
    obtain ⟨od, eod, lod, bod⟩ := hod
    rw [eod] at hl' ⊢
    have s0 := Same.new hp (o := .lst (od.map V.str))
    have hlN : H l = none := s0.none hl'
    have s1 := s0.newT hl' (o := .lst ((Txt.split z ⟨#[10]⟩).map V.str))
    have u1 : upd (upd H p (.lst (od.map V.str))) l (.lst ((Txt.split z ⟨#[10]⟩).map V.str)) l = some (.lst ((Txt.split z ⟨#[10]⟩).map V.str)) := upd_same
    have v1 : upd (upd H p (.lst (od.map V.str))) l (.lst ((Txt.split z ⟨#[10]⟩).map V.str)) p = some (.lst (od.map V.str)) := Same.new hl' _ _ upd_same
    generalize upd (upd H p (.lst (od.map V.str))) l (.lst ((Txt.split z ⟨#[10]⟩).map V.str)) = H1 at s1 u1 v1 ⊢
    clear s0 hl'
    generalize Txt.split z ⟨#[10]⟩ = ps at h1 h2 h3 h4 u1
    have hp0 : 0 < ps.length := List.length_pos_iff.mpr h1
    have hsl := sum_len ps
    refine ⟨⟨by decide, by decide⟩, _, .inl (SqL.of u1), by rw [List.length_map]; omega, ?_⟩
    rw [List.length_map]
    have a0 := Int.emod_nonneg (n / 13) (show (ps.length : Int) ≠ 0 by omega)
    have a1 := Int.emod_lt_of_pos (n / 13) (show (0 : Int) < (ps.length : Int) by omega)
    obtain ⟨sp, hsp⟩ : ∃ sp : Nat, n / 13 % (ps.length : Int) = sp := ⟨_, (Int.toNat_of_nonneg a0).symm⟩
    rw [hsp] at a1 ⊢
    obtain ⟨R, hR⟩ : ∃ R : St -> Hp -> Prop, ∀ σ' H', R σ' H' ↔ (∃ s : Nat, s < ps.length /\ H' = H1 /\ σ' = [some (.str z), some (.int n), some (.ref p), some (.ref l), some (.int s), none]) := ⟨_, fun _ _ => Iff.rfl⟩
    refine ⟨R, ?_, fun σ2 H2 h2 => ?_⟩
    . walk_at "rd"
      exact ⟨⟨by decide, by decide⟩, by decide, ite2 (fun g => (hR _ _).mpr ⟨0, hp0, rfl, rfl⟩) (fun g => (hR _ _).mpr ⟨sp, by omega, rfl, rfl⟩)⟩
    obtain ⟨s, hs, rfl, rfl⟩ := (hR _ _).mp h2
    have hgs : ps[s]? = some ps[s] := by simp
    have hrl := sum_mem (List.mem_of_getElem? hgs)
    generalize ps[s] = row at hgs hrl
    walk_at "rd"
    obtain ⟨t1, t2, t3, t4⟩ := splitX (show 32 < 128 by decide) row
    refine ⟨_, SqL.of u1, V.str row, atI_nat (by rw [List.getElem?_map, hgs]; rfl), rfl, row, rfl, rfl, by omega, fun q hq => ?_⟩
    rw [spc]
    have s2 := Same.new hq (o := .lst ((Txt.split row ⟨#[32]⟩).map V.str))
    have uq : upd H2 q (.lst ((Txt.split row ⟨#[32]⟩).map V.str)) q = some (.lst ((Txt.split row ⟨#[32]⟩).map V.str)) := upd_same
    generalize upd H2 q (.lst ((Txt.split row ⟨#[32]⟩).map V.str)) = H3 at s2 uq ⊢
    generalize Txt.split row ⟨#[32]⟩ = ts at t1 t2 t3 t4 uq
    have hq0 : 0 < ts.length := List.length_pos_iff.mpr t1
    have htl := sum_len ts
    have v3 := s2 _ _ v1
    have u3 := s2 _ _ u1
    have hqN : H q = none := s1.none hq
    have c0 := Int.emod_nonneg n (show (13 : Int) ≠ 0 by decide)
    have c1 := Int.emod_lt_of_pos n (show (0 : Int) < 13 by decide)
    have d0 := Int.emod_nonneg (n / 1009) (show (ts.length : Int) ≠ 0 by omega)
    have d1 := Int.emod_lt_of_pos (n / 1009) (show (0 : Int) < (ts.length : Int) by omega)
    obtain ⟨io, hio⟩ : ∃ i : Nat, n % 13 = i := ⟨_, (Int.toNat_of_nonneg c0).symm⟩
    obtain ⟨it, hit⟩ : ∃ i : Nat, n / 1009 % (ts.length : Int) = i := ⟨_, (Int.toNat_of_nonneg d0).symm⟩
    have hlo : io < od.length := by omega
    have hgo : od[io]? = some od[io] := by simp
    have hbo := bod _ (List.mem_of_getElem? hgo)
    generalize od[io] = o at hgo hbo
    have ht := sum_set (ps := ts) (i := it) (q := o)
    have hj1 := joinX_len (s := ⟨#[32]⟩) rfl (ts.set it o)
    have hp1 := sum_plain (ts.set it o)
    have ht2 := sum_set (ps := ps) (i := s) (q := Txt.join ⟨#[32]⟩ (ts.set it o))
    have hj2 := joinX_len (s := ⟨#[10]⟩) rfl (ps.set s (Txt.join ⟨#[32]⟩ (ts.set it o)))
    have hp2 := sum_plain (ps.set s (Txt.join ⟨#[32]⟩ (ts.set it o)))
    have hlq : l ≠ q := fun z => by rw [z, hq] at u1; cases u1
    refine ⟨_, .inl (SqL.of v3), by rw [List.length_map]; omega, _, SqL.of v3, V.str o, ?_, ⟨by decide, by decide⟩, _, .inl (SqL.of uq), by rw [List.length_map]; omega, _, uq, it, ?_, rfl, ts.set it o, ?_, by decide, by omega, _, by rw [upd_ne hlq]; exact u3, s, ixN_natX (by rw [List.length_map]; omega), rfl, ps.set s (Txt.join ⟨#[32]⟩ (ts.set it o)), ?_, by decide, by omega, k _ _ (((s1.trans s2).over hqN).over hlN) (by omega)⟩
    . rw [List.length_map, lod, show ((13 : Nat) : Int) = 13 from rfl, hio]
      exact atI_nat (by rw [List.getElem?_map, hgo]; rfl)
    . rw [List.length_map, hit]
      exact ixN_natX (by omega)
    . exact SqL.of (by rw [upd_same, List.map_set])
    . exact SqL.of (by rw [upd_same, List.map_set])
def sp_readl46 : Sp := fun vs H Q _ => ∃ (z : Str), vs = [.str z] /\ z.length <= 400000 /\ ∀ H', Q (.bl true) H'
theorem ok__law_read {f : Addr} {fd : FuncData} (F : Fun K "_law_read" "_law_read" s__law_read f fd) (T : Txt mg)
    (W : Own K mg)
    (Z : Exs K mg C_AskError C_BadHouse C_NoText)
    {f_read_house : Addr} {fd_read_house : FuncData} (g_read_house : FnOk P w K mg base (CXe P w) 4 f_read_house fd_read_house ["text"] (sp_rhouse46 K C_NoText)) (F_read_house : Fun K "read_house" "read_house" s_read_house f_read_house fd_read_house) (b_read_house : Binds K fd_read_house ["text"] []) (m_read_house : mg "read_house" = some (.ref f_read_house))
    {f__law_sound : Addr} {fd__law_sound : FuncData} (g__law_sound : FnOk P w K mg base CX0 2 f__law_sound fd__law_sound ["found"] (sp_sound45 K)) (F__law_sound : Fun K "_law_sound" "_law_sound" s__law_sound f__law_sound fd__law_sound) (b__law_sound : Binds K fd__law_sound ["found"] []) (m__law_sound : mg "_law_sound" = some (.ref f__law_sound))
    {f__law_house_text : Addr} {fd__law_house_text : FuncData} (g__law_house_text : FnOk P w K mg base CX0 1 f__law_house_text fd__law_house_text ["house"] (sp_ltext K)) (F__law_house_text : Fun K "_law_house_text" "_law_house_text" s__law_house_text f__law_house_text fd__law_house_text) (b__law_house_text : Binds K fd__law_house_text ["house"] []) (m__law_house_text : mg "_law_house_text" = some (.ref f__law_house_text))
    : FnOk P w K mg base CX0 5 f fd ["text"] (sp_readl46) := by
  refine F.ok sc__law_read (fun vs H Q E h => ?_) (fun cdv A outer s H vs Q E hr h => ?_)
  . obtain ⟨z, rfl, _⟩ := h; rfl
  . obtain ⟨z, rfl, hz, k⟩ := h
    have hl := line1000
    refine ⟨_, (pss_cons (ps_set (i := 1) sc__law_read.nd rfl (Or.inl rfl) (pe_lst pa_nil))
      (pss_cons (ps_set (i := 2) sc__law_read.nd rfl (Or.inl rfl) pe_non)
      (pss_cut (ps_try (i := 3) (E := (fun σ cls _ H1 => cls = .ref C_NoText /\ Same H H1 /\ ∃ pp, H pp = none /\ σ = [some (.str z), some (.ref pp), some .non, none])) sc__law_read.nd rfl rfl rfl Z.m_AskError rfl rfl rfl (fun xe pn hx => (pss_one (ps_set (i := 2) sc__law_read.nd rfl (Or.inl rfl) (pe_callE g_read_house (hr.mono (by decide)) rfl m_read_house F_read_house.kp b_read_house .nil hx (pa_cons (pv 0) pa_nil)))))
      (fun ea pn => (pss_one (ps_set (i := 1) sc__law_read.nd rfl (Or.inl rfl) (pe_lst (pa_cons (pe_callB (call_isinstK (K := K) rfl) rfl T.isinstance PyProof.Rows.boot_isinstance (pa_cons (pv 3) (pa_cons (pe_glob (v := .ref C_NoText) rfl Z.m_NoText rfl) pa_nil))) (pa_cons (pe_callB (call_isinstK (K := K) rfl) rfl T.isinstance PyProof.Rows.boot_isinstance (pa_cons (pv 3) (pa_cons (pe_bltn (v := .ty "ValueError") rfl T.ValueError L2.boot_ValueError rfl) pa_nil))) (pa_cons (pe_callB (call_isinstK (K := K) rfl) rfl T.isinstance PyProof.Rows.boot_isinstance (pa_cons (pv 3) (pa_cons (pe_glob (v := .ref C_BadHouse) rfl Z.m_BadHouse rfl) pa_nil))) pa_nil))))))))
      (pss_cons (ps_if (pt_cmpR op_isN (pv 2) pe_non (nomark _))
      (pss_one (ps_ret (pe_cmpR (op_eqD 8 (hu9 hr)) (pv 1) (pe_lst (pa_cons pe_bl (pa_cons pe_bl (pa_cons pe_bl pa_nil)))) (nomark _))))
      pss_nil)
      (pss_one (ps_ret (pe_and (pe_call g__law_sound (hr.mono (by decide)) rfl m__law_sound F__law_sound.kp b__law_sound .nil pass0 (pa_cons (pv 2) pa_nil)) (pe_one (pe_cmpR op_eq (pe_call g__law_house_text (hr.mono (by decide)) rfl m__law_house_text F__law_house_text.kp b__law_house_text .nil pass0 (pa_cons (pv 2) pa_nil)) (pv 0) (nomark _)))))))))), ?_⟩
    walk_at "rd"
    refine ⟨by omega, fun p hp => ?_⟩
    obtain ⟨R, hR⟩ : ∃ R : St -> Hp -> Prop, ∀ σ' H', R σ' H' ↔ ((∃ (a p : Addr) (L : Int) (marks : List Int) (ways : List (List Int)), Wf L marks ways /\ z.cps.toList = tL (hrows L marks ways) /\ House K H' a L marks ways /\ σ' = [some (.str z), some (.ref p), some (.ref a), none]) \/ (∃ (p : Addr), H' p = some (.lst ([true, true, false].map V.bl)) /\ σ' = [some (.str z), some (.ref p), some .non, none])) := ⟨_, fun _ _ => Iff.rfl⟩
    refine ⟨R, ?_, fun σ2 H2 h2 => ?_⟩
    . walk_at "rd"
      refine ⟨⟨z, rfl, by omega, fun L marks ways wf ez a H1 s1 pa => (hR _ _).mpr (.inl ⟨a, p, L, marks, ways, wf, ez, pa, rfl⟩), fun H1 s1 => ⟨rfl, (Same.new hp).trans s1, p, hp, rfl⟩⟩, fun σ1 cls H1 h1 => ?_⟩
      obtain ⟨rfl, s1, pp, hpp, rfl⟩ := h1
      refine ⟨C_NoText, rfl, Z.e_NoText, fun ea hea => ?_⟩
      walk_at "rd"
      refine ⟨_, _, .exc upd_same Z.c_NoText, rel_ref, _, Z.k_NoText_NoText, _, _, .exc upd_same Z.c_NoText, rel_ty, _, Z.v_NoText, _, _, .exc upd_same Z.c_NoText, rel_ref, _, Z.k_NoText_BadHouse, by omega, fun p1 hp1 => (hR _ _).mpr (.inr ⟨p1, upd_same, rfl⟩)⟩
    . rcases (hR _ _).mp h2 with ⟨a, p', L, marks, ways, wf, ez, pa, rfl⟩ | ⟨p', hp', rfl⟩
      . walk_at "rd"
        refine ⟨a, L, marks, ways, rfl, pa, wf, _, rfl, ?_⟩
        rw [if_pos rfl]
        refine ⟨a, L, marks, ways, rfl, pa, wf, fun z2 hz2 _ => ?_⟩
        have ez2 : z2 = z := Str.ext' (Array.toList_inj.mp (by rw [hz2, ez]))
        subst ez2
        exact ⟨rfl, by rw [decide_eq_true rfl]; exact k _⟩
      . walk_at "rd"
        refine ⟨by omega, fun p1 hp1 => ⟨_, EqD.bools (xs := [true, true, false]) (ys := [true, true, false]) (.inl ⟨SqL.of (Same.new hp1 _ _ hp'), SqL.of upd_same⟩) 7, ?_⟩⟩
        rw [decide_eq_true rfl]
        exact k _
def spLaw (K : PySem.W.Frag) : Sp := fun vs H Q _ => ∃ (a : Addr) (ns : List Int), vs = [.ref a] /\ SqL K H a (ns.map V.int) /\ ns.length <= 63 /\ ∀ H', Q (.bl true) H'
theorem ok_law {f : Addr} {fd : FuncData} (F : Fun K "law" "law" s_law f fd) (T : Txt mg)
    (W : Own K mg)
    (Z : Exs K mg C_AskError C_BadHouse C_NoText)
    {f__law_cell_at : Addr} {fd__law_cell_at : FuncData} (g__law_cell_at : FnOk P w K mg base CX0 1 f__law_cell_at fd__law_cell_at ["script", "k"] (sp_cell K)) (F__law_cell_at : Fun K "_law_cell_at" "_law_cell_at" s__law_cell_at f__law_cell_at fd__law_cell_at) (b__law_cell_at : Binds K fd__law_cell_at ["script", "k"] []) (m__law_cell_at : mg "_law_cell_at" = some (.ref f__law_cell_at))
    {f__law_house_by : Addr} {fd__law_house_by : FuncData} (g__law_house_by : FnOk P w K mg base CX0 2 f__law_house_by fd__law_house_by ["flow", "letters", "cell"] (sp_house K)) (F__law_house_by : Fun K "_law_house_by" "_law_house_by" s__law_house_by f__law_house_by fd__law_house_by) (b__law_house_by : Binds K fd__law_house_by ["flow", "letters", "cell"] []) (m__law_house_by : mg "_law_house_by" = some (.ref f__law_house_by))
    {f__law_house_text : Addr} {fd__law_house_text : FuncData} (g__law_house_text : FnOk P w K mg base CX0 1 f__law_house_text fd__law_house_text ["house"] (sp_ltext K)) (F__law_house_text : Fun K "_law_house_text" "_law_house_text" s__law_house_text f__law_house_text fd__law_house_text) (b__law_house_text : Binds K fd__law_house_text ["house"] []) (m__law_house_text : mg "_law_house_text" = some (.ref f__law_house_text))
    {f__law_spoiled : Addr} {fd__law_spoiled : FuncData} (g__law_spoiled : FnOk P w K mg base CX0 2 f__law_spoiled fd__law_spoiled ["text", "cell", "often"] (sp_spoilX)) (F__law_spoiled : Fun K "_law_spoiled" "_law_spoiled" s__law_spoiled f__law_spoiled fd__law_spoiled) (b__law_spoiled : Binds K fd__law_spoiled ["text", "cell", "often"] []) (m__law_spoiled : mg "_law_spoiled" = some (.ref f__law_spoiled))
    {f__law_rows_spoiled : Addr} {fd__law_rows_spoiled : FuncData} (g__law_rows_spoiled : FnOk P w K mg base CX0 1 f__law_rows_spoiled fd__law_rows_spoiled ["text", "cell"] (sp_rspoilX)) (F__law_rows_spoiled : Fun K "_law_rows_spoiled" "_law_rows_spoiled" s__law_rows_spoiled f__law_rows_spoiled fd__law_rows_spoiled) (b__law_rows_spoiled : Binds K fd__law_rows_spoiled ["text", "cell"] []) (m__law_rows_spoiled : mg "_law_rows_spoiled" = some (.ref f__law_rows_spoiled))
    {f__law_thing_spoiled : Addr} {fd__law_thing_spoiled : FuncData} (g__law_thing_spoiled : FnOk P w K mg base CX0 1 f__law_thing_spoiled fd__law_thing_spoiled ["text", "cell"] (sp_rspoilX)) (F__law_thing_spoiled : Fun K "_law_thing_spoiled" "_law_thing_spoiled" s__law_thing_spoiled f__law_thing_spoiled fd__law_thing_spoiled) (b__law_thing_spoiled : Binds K fd__law_thing_spoiled ["text", "cell"] []) (m__law_thing_spoiled : mg "_law_thing_spoiled" = some (.ref f__law_thing_spoiled))
    {f__law_read : Addr} {fd__law_read : FuncData} (g__law_read : FnOk P w K mg base CX0 5 f__law_read fd__law_read ["text"] (sp_readl46)) (F__law_read : Fun K "_law_read" "_law_read" s__law_read f__law_read fd__law_read) (b__law_read : Binds K fd__law_read ["text"] []) (m__law_read : mg "_law_read" = some (.ref f__law_read))
    : FnOk P w K mg base CX0 6 f fd ["script"] (spLaw K) := by
  refine F.ok sc_law (fun vs H Q E h => ?_) (fun cdv A outer s H vs Q E hr h => ?_)
  . obtain ⟨a, ns, rfl, _⟩ := h; rfl
  . obtain ⟨a, ns, rfl, hs, hz, k⟩ := h
    have hl := line1000
    refine ⟨_, (pss_cons (ps_set (i := 1) sc_law.nd rfl (Or.inl rfl) (pe_op op_add pe_int (pe_op op_mod (pe_call g__law_cell_at (hr.mono (by decide)) rfl m__law_cell_at F__law_cell_at.kp b__law_cell_at .nil pass0 (pa_cons (pv 0) (pa_cons pe_int pa_nil))) pe_int)))
      (pss_cons (ps_set (i := 2) sc_law.nd rfl (Or.inl rfl) (pe_call g__law_house_text (hr.mono (by decide)) rfl m__law_house_text F__law_house_text.kp b__law_house_text .nil pass0 (pa_cons (pe_call g__law_house_by (hr.mono (by decide)) rfl m__law_house_by F__law_house_by.kp b__law_house_by .nil pass0 (pa_cons (pe_slice sl_list (pv 0) (po_some pe_int) po_none) (pa_cons (pv 1) (pa_cons (pe_call g__law_cell_at (hr.mono (by decide)) rfl m__law_cell_at F__law_cell_at.kp b__law_cell_at .nil pass0 (pa_cons (pv 0) (pa_cons pe_int pa_nil))) pa_nil)))) pa_nil)))
      (pss_cons (ps_for PassesOwn.never rfl (pi_range1 rfl T.range (pa_cons (pe_op op_add pe_int (pe_op op_mod (pe_op op_fdiv (pe_call g__law_cell_at (hr.mono (by decide)) rfl m__law_cell_at F__law_cell_at.kp b__law_cell_at .nil pass0 (pa_cons (pv 0) (pa_cons pe_int pa_nil))) pe_int) pe_int)) pa_nil)) (pg_name (i := 3) sc_law.nd rfl (Or.inl rfl))
      (pss_cons (ps_set (i := 4) sc_law.nd rfl (Or.inl rfl) (pe_op op_mod (pe_op op_mul (pe_op op_mod (pe_call g__law_cell_at (hr.mono (by decide)) rfl m__law_cell_at F__law_cell_at.kp b__law_cell_at .nil pass0 (pa_cons (pv 0) (pa_cons (pe_op op_add pe_int (pv 3)) pa_nil))) pe_int) pe_int) pe_int))
      (pss_one (ps_if (pt_cmpR op_eq (pe_op op_mod (pv 4) pe_int) pe_int (nomark _))
      (pss_one (ps_set (i := 2) sc_law.nd rfl (Or.inl rfl) (pe_call g__law_rows_spoiled (hr.mono (by decide)) rfl m__law_rows_spoiled F__law_rows_spoiled.kp b__law_rows_spoiled .nil pass0 (pa_cons (pv 2) (pa_cons (pe_op op_fdiv (pv 4) pe_int) pa_nil)))))
      (pss_one (ps_if (pt_cmpR op_eq (pe_op op_mod (pv 4) pe_int) pe_int (nomark _))
      (pss_one (ps_set (i := 2) sc_law.nd rfl (Or.inl rfl) (pe_call g__law_thing_spoiled (hr.mono (by decide)) rfl m__law_thing_spoiled F__law_thing_spoiled.kp b__law_thing_spoiled .nil pass0 (pa_cons (pv 2) (pa_cons (pe_op op_fdiv (pv 4) pe_int) pa_nil)))))
      (pss_one (ps_set (i := 2) sc_law.nd rfl (Or.inl rfl) (pe_call g__law_spoiled (hr.mono (by decide)) rfl m__law_spoiled F__law_spoiled.kp b__law_spoiled .nil pass0 (pa_cons (pv 2) (pa_cons (pe_op op_fdiv (pv 4) pe_int) (pa_cons pe_str pa_nil))))))))))))
      (pss_one (ps_ret (pe_call g__law_read (hr.mono (by decide)) rfl m__law_read F__law_read.kp b__law_read .nil pass0 (pa_cons (pv 2) pa_nil))))))), ?_⟩
    walk_at "rd"
    refine ⟨a, ns, 0, rfl, hs, _, rfl, by decide, _, hs, fun pc hpc => ?_⟩
    obtain ⟨c0, hc0⟩ : ∃ c, c = cell ns 0 := ⟨_, rfl⟩
    rw [<- hc0, cut_ints]
    have s1 := Same.new hpc (o := .lst ((cutI ns (some 2) none).map V.int))
    have hp1 : upd H pc (.lst ((cutI ns (some 2) none).map V.int)) pc = some (.lst ((cutI ns (some 2) none).map V.int)) := upd_same
    have hcl := cutI_length ns (some 2) none
    have hm1 := Int.emod_nonneg c0 (show (6 : Int) ≠ 0 by decide)
    have hm2 := Int.emod_lt_of_pos c0 (show (0 : Int) < 6 by decide)
    refine ⟨a, ns, 1, rfl, s1.seq hs, pc, _, 1 + c0 % 6, _, rfl, SqL.of hp1, by omega, by omega, by omega, fun h marks ways H2 s2 hh wf => ?_⟩
    refine ⟨h, _, marks, ways, rfl, hh, wf, fun z hz3 hzl => ?_⟩
    walk_at "rd"
    have s03 := s1.trans s2
    refine ⟨a, ns, 0, rfl, s03.seq hs, _, rfl, ⟨by decide, by decide⟩, by decide, ?_⟩
    generalize hq : cell ns 0 / 6 % 3 = q
    have q0 := Int.emod_nonneg (cell ns 0 / 6) (show (3 : Int) ≠ 0 by decide)
    have q1 := Int.emod_lt_of_pos (cell ns 0 / 6) (show (0 : Int) < 3 by decide)
    rw [hq] at q0 q1
    refine ⟨by omega, by omega, ?_⟩
    obtain ⟨Pv, hPv⟩ : ∃ Pv : Nat -> St -> Hp -> Prop, ∀ i σ' H', Pv i σ' H' ↔ (∃ (z : Str) (o3 o4 : Option V), Same H H' /\ z.length + 20 <= 4120 * 2 ^ i /\ σ' = [some (.ref a), some (.int (1 + c0 % 6)), some (.str z), o3, o4]) := ⟨_, fun _ _ _ => Iff.rfl⟩
    refine forR Pv ((hPv _ _ _).mpr ⟨z, none, none, s03, by omega, rfl⟩) (fun i σ' H' hi h' => ?_) (fun σ' H' h' => ?_)
    . obtain ⟨z, o3, o4, s', hzb, rfl⟩ := (hPv _ _ _).mp h'
      have hi2 : (2 : Nat) ^ i <= 4 := by
        have : i = 0 \/ i = 1 \/ i = 2 := by omega
        rcases this with rfl | rfl | rfl <;> decide
      have hi3 : (2 : Nat) ^ (i + 1) = 2 * 2 ^ i := by rw [Nat.pow_succ]; omega
      rw [Int.zero_add]
      walk_at "rd"
      refine ⟨a, ns, 2 + i, by rw [show ((2 + i : Nat) : Int) = 2 + (i : Int) by omega], s'.seq hs, _, rfl, by decide, ?_⟩
      generalize hmg : cell ns (2 + i) % 1000000007 = m
      have m0 : 0 <= m := hmg ▸ Int.emod_nonneg _ (by decide)
      have m1 : m < 1000000007 := hmg ▸ Int.emod_lt_of_pos _ (by decide)
      have go : ∀ (z' : Str) (H1 : Hp) (o3 o4 : Option V), Same H H1 -> z'.length <= 2 * z.length + 20 -> Pv (i + 1) [some (.ref a), some (.int (1 + c0 % 6)), some (.str z'), o3, o4] H1 := fun z' H1 o3 o4 s1 h1 => (hPv _ _ _).mpr ⟨z', o3, o4, s1, by omega, rfl⟩
      have hoft : (Str.ofString " \n0123456789housermo_+-").length = 23 := by decide +kernel
      refine ⟨.inr ⟨by decide, by decide⟩, by decide, by decide, ite2 (fun _ => ?_) (fun _ => ⟨by decide, ite2 (fun _ => ?_) (fun _ => ?_)⟩)⟩
      . exact ⟨⟨by decide, by decide⟩, z, _, rfl, by omega, fun z' H1 s1 h1 => go z' H1 _ _ (s'.trans s1) h1⟩
      . exact ⟨⟨by decide, by decide⟩, z, _, rfl, by omega, fun z' H1 s1 h1 => go z' H1 _ _ (s'.trans s1) h1⟩
      . exact ⟨⟨by decide, by decide⟩, z, _, _, rfl, by omega, by omega, by omega, fun z' h1 => go z' H' _ _ s' h1⟩
    . obtain ⟨z, o3, o4, s', hzb, rfl⟩ := (hPv _ _ _).mp h'
      have hi2 : (2 : Nat) ^ (1 + q).toNat <= 8 := by
        have : (1 + q).toNat = 1 \/ (1 + q).toNat = 2 \/ (1 + q).toNat = 3 := by omega
        rcases this with h | h | h <;> (rw [h]; decide)
      walk_at "rd"
      exact ⟨z, rfl, by omega, k⟩
end
theorem all_mk {l : PySem.W.OpenLaw} {w : World} {K : PySem.W.Frag} {h : Heap} {mg : Str -> Option Value} {fa f_is_mark f_check_letters f_check_marks f_check_rooms f_check_ways f_made f_read_number f_rows_in f_parts_behind f_read_count f_read_letters f_read_room f_read_house f__law_cell_at f__law_whole f__law_draw f__law_house_by f__law_sound f__law_house_text f__law_sign_by f__law_spoiled f__law_rows_spoiled f__law_thing_spoiled f__law_read f_law : Addr} (X : K.In h) (G : h.Ns mainGlobals mg) (hfa : mg "law" = some (.ref fa))
    {C_AskError C_BadHouse C_NoText : Addr}
    {od_is_mark an_is_mark : Option Addr} {sl_is_mark : Array (Option Value)} {oc_is_mark kV_is_mark dc_is_mark pm_is_mark cd_is_mark ct_is_mark : Value}
    {od_check_letters an_check_letters : Option Addr} {sl_check_letters : Array (Option Value)} {oc_check_letters kV_check_letters dc_check_letters pm_check_letters cd_check_letters ct_check_letters : Value}
    {od_check_marks an_check_marks : Option Addr} {sl_check_marks : Array (Option Value)} {oc_check_marks kV_check_marks dc_check_marks pm_check_marks cd_check_marks ct_check_marks : Value}
    {od_check_rooms an_check_rooms : Option Addr} {sl_check_rooms : Array (Option Value)} {oc_check_rooms kV_check_rooms dc_check_rooms pm_check_rooms cd_check_rooms ct_check_rooms : Value}
    {od_check_ways an_check_ways : Option Addr} {sl_check_ways : Array (Option Value)} {oc_check_ways kV_check_ways dc_check_ways pm_check_ways cd_check_ways ct_check_ways : Value}
    {od_made an_made : Option Addr} {sl_made : Array (Option Value)} {oc_made kV_made dc_made pm_made cd_made ct_made : Value}
    {od_read_number an_read_number : Option Addr} {sl_read_number : Array (Option Value)} {oc_read_number kV_read_number dc_read_number pm_read_number cd_read_number ct_read_number : Value}
    {od_rows_in an_rows_in : Option Addr} {sl_rows_in : Array (Option Value)} {oc_rows_in kV_rows_in dc_rows_in pm_rows_in cd_rows_in ct_rows_in : Value}
    {od_parts_behind an_parts_behind : Option Addr} {sl_parts_behind : Array (Option Value)} {oc_parts_behind kV_parts_behind dc_parts_behind pm_parts_behind cd_parts_behind ct_parts_behind : Value}
    {od_read_count an_read_count : Option Addr} {sl_read_count : Array (Option Value)} {oc_read_count kV_read_count dc_read_count pm_read_count cd_read_count ct_read_count : Value}
    {od_read_letters an_read_letters : Option Addr} {sl_read_letters : Array (Option Value)} {oc_read_letters kV_read_letters dc_read_letters pm_read_letters cd_read_letters ct_read_letters : Value}
    {od_read_room an_read_room : Option Addr} {sl_read_room : Array (Option Value)} {oc_read_room kV_read_room dc_read_room pm_read_room cd_read_room ct_read_room : Value}
    {od_read_house an_read_house : Option Addr} {sl_read_house : Array (Option Value)} {oc_read_house kV_read_house dc_read_house pm_read_house cd_read_house ct_read_house : Value}
    {od__law_cell_at an__law_cell_at : Option Addr} {sl__law_cell_at : Array (Option Value)} {oc__law_cell_at kV__law_cell_at dc__law_cell_at pm__law_cell_at cd__law_cell_at ct__law_cell_at : Value}
    {od__law_whole an__law_whole : Option Addr} {sl__law_whole : Array (Option Value)} {oc__law_whole kV__law_whole dc__law_whole pm__law_whole cd__law_whole ct__law_whole : Value}
    {od__law_draw an__law_draw : Option Addr} {sl__law_draw : Array (Option Value)} {oc__law_draw kV__law_draw dc__law_draw pm__law_draw cd__law_draw ct__law_draw : Value}
    {od__law_house_by an__law_house_by : Option Addr} {sl__law_house_by : Array (Option Value)} {oc__law_house_by kV__law_house_by dc__law_house_by pm__law_house_by cd__law_house_by ct__law_house_by : Value}
    {od__law_sound an__law_sound : Option Addr} {sl__law_sound : Array (Option Value)} {oc__law_sound kV__law_sound dc__law_sound pm__law_sound cd__law_sound ct__law_sound : Value}
    {od__law_house_text an__law_house_text : Option Addr} {sl__law_house_text : Array (Option Value)} {oc__law_house_text kV__law_house_text dc__law_house_text pm__law_house_text cd__law_house_text ct__law_house_text : Value}
    {od__law_sign_by an__law_sign_by : Option Addr} {sl__law_sign_by : Array (Option Value)} {oc__law_sign_by kV__law_sign_by dc__law_sign_by pm__law_sign_by cd__law_sign_by ct__law_sign_by : Value}
    {od__law_spoiled an__law_spoiled : Option Addr} {sl__law_spoiled : Array (Option Value)} {oc__law_spoiled kV__law_spoiled dc__law_spoiled pm__law_spoiled cd__law_spoiled ct__law_spoiled : Value}
    {od__law_rows_spoiled an__law_rows_spoiled : Option Addr} {sl__law_rows_spoiled : Array (Option Value)} {oc__law_rows_spoiled kV__law_rows_spoiled dc__law_rows_spoiled pm__law_rows_spoiled cd__law_rows_spoiled ct__law_rows_spoiled : Value}
    {od__law_thing_spoiled an__law_thing_spoiled : Option Addr} {sl__law_thing_spoiled : Array (Option Value)} {oc__law_thing_spoiled kV__law_thing_spoiled dc__law_thing_spoiled pm__law_thing_spoiled cd__law_thing_spoiled ct__law_thing_spoiled : Value}
    {od__law_read an__law_read : Option Addr} {sl__law_read : Array (Option Value)} {oc__law_read kV__law_read dc__law_read pm__law_read cd__law_read ct__law_read : Value}
    {od_law an_law : Option Addr} {sl_law : Array (Option Value)} {oc_law kV_law dc_law pm_law cd_law ct_law : Value}
    {tk_FIGURES : Tok} (q_FIGURES : PySem.W.nsIn K mainGlobals "FIGURES" = some (some (.str "0123456789" tk_FIGURES)))
    {tk_MOST_FIGURES : Tok} (q_MOST_FIGURES : PySem.W.nsIn K mainGlobals "MOST_FIGURES" = some (some (.int 10 tk_MOST_FIGURES)))
    {tk_MOST_LETTERS : Tok} (q_MOST_LETTERS : PySem.W.nsIn K mainGlobals "MOST_LETTERS" = some (some (.int 6 tk_MOST_LETTERS)))
    {tk_MOST_MARK : Tok} (q_MOST_MARK : PySem.W.nsIn K mainGlobals "MOST_MARK" = some (some (.int 1000000000 tk_MOST_MARK)))
    {tk_MOST_ROOMS : Tok} (q_MOST_ROOMS : PySem.W.nsIn K mainGlobals "MOST_ROOMS" = some (some (.int 40 tk_MOST_ROOMS)))
    (a_is_mark : PySem.W.nsIn K mainGlobals "is_mark" = some (some (.ref f_is_mark)))
    (l_is_mark : K.lookup f_is_mark = some ⟨oc_is_mark, od_is_mark, .func (PySem.W.fnOf "is_mark" "is_mark" (defArgs s_is_mark) (defBody s_is_mark) (defScope s_is_mark) .none kV_is_mark dc_is_mark pm_is_mark an_is_mark cd_is_mark ct_is_mark), sl_is_mark⟩)
    (c_is_mark : PySem.W.codeIn K cd_is_mark "is_mark" = true)
    (k_is_mark : PySem.W.keepIn K (.ref f_is_mark) = true)
    (a_check_letters : PySem.W.nsIn K mainGlobals "check_letters" = some (some (.ref f_check_letters)))
    (l_check_letters : K.lookup f_check_letters = some ⟨oc_check_letters, od_check_letters, .func (PySem.W.fnOf "check_letters" "check_letters" (defArgs s_check_letters) (defBody s_check_letters) (defScope s_check_letters) .none kV_check_letters dc_check_letters pm_check_letters an_check_letters cd_check_letters ct_check_letters), sl_check_letters⟩)
    (c_check_letters : PySem.W.codeIn K cd_check_letters "check_letters" = true)
    (k_check_letters : PySem.W.keepIn K (.ref f_check_letters) = true)
    (a_check_marks : PySem.W.nsIn K mainGlobals "check_marks" = some (some (.ref f_check_marks)))
    (l_check_marks : K.lookup f_check_marks = some ⟨oc_check_marks, od_check_marks, .func (PySem.W.fnOf "check_marks" "check_marks" (defArgs s_check_marks) (defBody s_check_marks) (defScope s_check_marks) .none kV_check_marks dc_check_marks pm_check_marks an_check_marks cd_check_marks ct_check_marks), sl_check_marks⟩)
    (c_check_marks : PySem.W.codeIn K cd_check_marks "check_marks" = true)
    (k_check_marks : PySem.W.keepIn K (.ref f_check_marks) = true)
    (a_check_rooms : PySem.W.nsIn K mainGlobals "check_rooms" = some (some (.ref f_check_rooms)))
    (l_check_rooms : K.lookup f_check_rooms = some ⟨oc_check_rooms, od_check_rooms, .func (PySem.W.fnOf "check_rooms" "check_rooms" (defArgs s_check_rooms) (defBody s_check_rooms) (defScope s_check_rooms) .none kV_check_rooms dc_check_rooms pm_check_rooms an_check_rooms cd_check_rooms ct_check_rooms), sl_check_rooms⟩)
    (c_check_rooms : PySem.W.codeIn K cd_check_rooms "check_rooms" = true)
    (k_check_rooms : PySem.W.keepIn K (.ref f_check_rooms) = true)
    (a_check_ways : PySem.W.nsIn K mainGlobals "check_ways" = some (some (.ref f_check_ways)))
    (l_check_ways : K.lookup f_check_ways = some ⟨oc_check_ways, od_check_ways, .func (PySem.W.fnOf "check_ways" "check_ways" (defArgs s_check_ways) (defBody s_check_ways) (defScope s_check_ways) .none kV_check_ways dc_check_ways pm_check_ways an_check_ways cd_check_ways ct_check_ways), sl_check_ways⟩)
    (c_check_ways : PySem.W.codeIn K cd_check_ways "check_ways" = true)
    (k_check_ways : PySem.W.keepIn K (.ref f_check_ways) = true)
    (a_made : PySem.W.nsIn K mainGlobals "made" = some (some (.ref f_made)))
    (l_made : K.lookup f_made = some ⟨oc_made, od_made, .func (PySem.W.fnOf "made" "made" (defArgs s_made) (defBody s_made) (defScope s_made) .none kV_made dc_made pm_made an_made cd_made ct_made), sl_made⟩)
    (c_made : PySem.W.codeIn K cd_made "made" = true)
    (k_made : PySem.W.keepIn K (.ref f_made) = true)
    (a_read_number : PySem.W.nsIn K mainGlobals "read_number" = some (some (.ref f_read_number)))
    (l_read_number : K.lookup f_read_number = some ⟨oc_read_number, od_read_number, .func (PySem.W.fnOf "read_number" "read_number" (defArgs s_read_number) (defBody s_read_number) (defScope s_read_number) .none kV_read_number dc_read_number pm_read_number an_read_number cd_read_number ct_read_number), sl_read_number⟩)
    (c_read_number : PySem.W.codeIn K cd_read_number "read_number" = true)
    (k_read_number : PySem.W.keepIn K (.ref f_read_number) = true)
    (a_rows_in : PySem.W.nsIn K mainGlobals "rows_in" = some (some (.ref f_rows_in)))
    (l_rows_in : K.lookup f_rows_in = some ⟨oc_rows_in, od_rows_in, .func (PySem.W.fnOf "rows_in" "rows_in" (defArgs s_rows_in) (defBody s_rows_in) (defScope s_rows_in) .none kV_rows_in dc_rows_in pm_rows_in an_rows_in cd_rows_in ct_rows_in), sl_rows_in⟩)
    (c_rows_in : PySem.W.codeIn K cd_rows_in "rows_in" = true)
    (k_rows_in : PySem.W.keepIn K (.ref f_rows_in) = true)
    (a_parts_behind : PySem.W.nsIn K mainGlobals "parts_behind" = some (some (.ref f_parts_behind)))
    (l_parts_behind : K.lookup f_parts_behind = some ⟨oc_parts_behind, od_parts_behind, .func (PySem.W.fnOf "parts_behind" "parts_behind" (defArgs s_parts_behind) (defBody s_parts_behind) (defScope s_parts_behind) .none kV_parts_behind dc_parts_behind pm_parts_behind an_parts_behind cd_parts_behind ct_parts_behind), sl_parts_behind⟩)
    (c_parts_behind : PySem.W.codeIn K cd_parts_behind "parts_behind" = true)
    (k_parts_behind : PySem.W.keepIn K (.ref f_parts_behind) = true)
    (a_read_count : PySem.W.nsIn K mainGlobals "read_count" = some (some (.ref f_read_count)))
    (l_read_count : K.lookup f_read_count = some ⟨oc_read_count, od_read_count, .func (PySem.W.fnOf "read_count" "read_count" (defArgs s_read_count) (defBody s_read_count) (defScope s_read_count) .none kV_read_count dc_read_count pm_read_count an_read_count cd_read_count ct_read_count), sl_read_count⟩)
    (c_read_count : PySem.W.codeIn K cd_read_count "read_count" = true)
    (k_read_count : PySem.W.keepIn K (.ref f_read_count) = true)
    (a_read_letters : PySem.W.nsIn K mainGlobals "read_letters" = some (some (.ref f_read_letters)))
    (l_read_letters : K.lookup f_read_letters = some ⟨oc_read_letters, od_read_letters, .func (PySem.W.fnOf "read_letters" "read_letters" (defArgs s_read_letters) (defBody s_read_letters) (defScope s_read_letters) .none kV_read_letters dc_read_letters pm_read_letters an_read_letters cd_read_letters ct_read_letters), sl_read_letters⟩)
    (c_read_letters : PySem.W.codeIn K cd_read_letters "read_letters" = true)
    (k_read_letters : PySem.W.keepIn K (.ref f_read_letters) = true)
    (a_read_room : PySem.W.nsIn K mainGlobals "read_room" = some (some (.ref f_read_room)))
    (l_read_room : K.lookup f_read_room = some ⟨oc_read_room, od_read_room, .func (PySem.W.fnOf "read_room" "read_room" (defArgs s_read_room) (defBody s_read_room) (defScope s_read_room) .none kV_read_room dc_read_room pm_read_room an_read_room cd_read_room ct_read_room), sl_read_room⟩)
    (c_read_room : PySem.W.codeIn K cd_read_room "read_room" = true)
    (k_read_room : PySem.W.keepIn K (.ref f_read_room) = true)
    (a_read_house : PySem.W.nsIn K mainGlobals "read_house" = some (some (.ref f_read_house)))
    (l_read_house : K.lookup f_read_house = some ⟨oc_read_house, od_read_house, .func (PySem.W.fnOf "read_house" "read_house" (defArgs s_read_house) (defBody s_read_house) (defScope s_read_house) .none kV_read_house dc_read_house pm_read_house an_read_house cd_read_house ct_read_house), sl_read_house⟩)
    (c_read_house : PySem.W.codeIn K cd_read_house "read_house" = true)
    (k_read_house : PySem.W.keepIn K (.ref f_read_house) = true)
    (a__law_cell_at : PySem.W.nsIn K mainGlobals "_law_cell_at" = some (some (.ref f__law_cell_at)))
    (l__law_cell_at : K.lookup f__law_cell_at = some ⟨oc__law_cell_at, od__law_cell_at, .func (PySem.W.fnOf "_law_cell_at" "_law_cell_at" (defArgs s__law_cell_at) (defBody s__law_cell_at) (defScope s__law_cell_at) .none kV__law_cell_at dc__law_cell_at pm__law_cell_at an__law_cell_at cd__law_cell_at ct__law_cell_at), sl__law_cell_at⟩)
    (c__law_cell_at : PySem.W.codeIn K cd__law_cell_at "_law_cell_at" = true)
    (k__law_cell_at : PySem.W.keepIn K (.ref f__law_cell_at) = true)
    (a__law_whole : PySem.W.nsIn K mainGlobals "_law_whole" = some (some (.ref f__law_whole)))
    (l__law_whole : K.lookup f__law_whole = some ⟨oc__law_whole, od__law_whole, .func (PySem.W.fnOf "_law_whole" "_law_whole" (defArgs s__law_whole) (defBody s__law_whole) (defScope s__law_whole) .none kV__law_whole dc__law_whole pm__law_whole an__law_whole cd__law_whole ct__law_whole), sl__law_whole⟩)
    (c__law_whole : PySem.W.codeIn K cd__law_whole "_law_whole" = true)
    (k__law_whole : PySem.W.keepIn K (.ref f__law_whole) = true)
    (a__law_draw : PySem.W.nsIn K mainGlobals "_law_draw" = some (some (.ref f__law_draw)))
    (l__law_draw : K.lookup f__law_draw = some ⟨oc__law_draw, od__law_draw, .func (PySem.W.fnOf "_law_draw" "_law_draw" (defArgs s__law_draw) (defBody s__law_draw) (defScope s__law_draw) .none kV__law_draw dc__law_draw pm__law_draw an__law_draw cd__law_draw ct__law_draw), sl__law_draw⟩)
    (c__law_draw : PySem.W.codeIn K cd__law_draw "_law_draw" = true)
    (k__law_draw : PySem.W.keepIn K (.ref f__law_draw) = true)
    (a__law_house_by : PySem.W.nsIn K mainGlobals "_law_house_by" = some (some (.ref f__law_house_by)))
    (l__law_house_by : K.lookup f__law_house_by = some ⟨oc__law_house_by, od__law_house_by, .func (PySem.W.fnOf "_law_house_by" "_law_house_by" (defArgs s__law_house_by) (defBody s__law_house_by) (defScope s__law_house_by) .none kV__law_house_by dc__law_house_by pm__law_house_by an__law_house_by cd__law_house_by ct__law_house_by), sl__law_house_by⟩)
    (c__law_house_by : PySem.W.codeIn K cd__law_house_by "_law_house_by" = true)
    (k__law_house_by : PySem.W.keepIn K (.ref f__law_house_by) = true)
    (a__law_sound : PySem.W.nsIn K mainGlobals "_law_sound" = some (some (.ref f__law_sound)))
    (l__law_sound : K.lookup f__law_sound = some ⟨oc__law_sound, od__law_sound, .func (PySem.W.fnOf "_law_sound" "_law_sound" (defArgs s__law_sound) (defBody s__law_sound) (defScope s__law_sound) .none kV__law_sound dc__law_sound pm__law_sound an__law_sound cd__law_sound ct__law_sound), sl__law_sound⟩)
    (c__law_sound : PySem.W.codeIn K cd__law_sound "_law_sound" = true)
    (k__law_sound : PySem.W.keepIn K (.ref f__law_sound) = true)
    (a__law_house_text : PySem.W.nsIn K mainGlobals "_law_house_text" = some (some (.ref f__law_house_text)))
    (l__law_house_text : K.lookup f__law_house_text = some ⟨oc__law_house_text, od__law_house_text, .func (PySem.W.fnOf "_law_house_text" "_law_house_text" (defArgs s__law_house_text) (defBody s__law_house_text) (defScope s__law_house_text) .none kV__law_house_text dc__law_house_text pm__law_house_text an__law_house_text cd__law_house_text ct__law_house_text), sl__law_house_text⟩)
    (c__law_house_text : PySem.W.codeIn K cd__law_house_text "_law_house_text" = true)
    (k__law_house_text : PySem.W.keepIn K (.ref f__law_house_text) = true)
    (a__law_sign_by : PySem.W.nsIn K mainGlobals "_law_sign_by" = some (some (.ref f__law_sign_by)))
    (l__law_sign_by : K.lookup f__law_sign_by = some ⟨oc__law_sign_by, od__law_sign_by, .func (PySem.W.fnOf "_law_sign_by" "_law_sign_by" (defArgs s__law_sign_by) (defBody s__law_sign_by) (defScope s__law_sign_by) .none kV__law_sign_by dc__law_sign_by pm__law_sign_by an__law_sign_by cd__law_sign_by ct__law_sign_by), sl__law_sign_by⟩)
    (c__law_sign_by : PySem.W.codeIn K cd__law_sign_by "_law_sign_by" = true)
    (k__law_sign_by : PySem.W.keepIn K (.ref f__law_sign_by) = true)
    (a__law_spoiled : PySem.W.nsIn K mainGlobals "_law_spoiled" = some (some (.ref f__law_spoiled)))
    (l__law_spoiled : K.lookup f__law_spoiled = some ⟨oc__law_spoiled, od__law_spoiled, .func (PySem.W.fnOf "_law_spoiled" "_law_spoiled" (defArgs s__law_spoiled) (defBody s__law_spoiled) (defScope s__law_spoiled) .none kV__law_spoiled dc__law_spoiled pm__law_spoiled an__law_spoiled cd__law_spoiled ct__law_spoiled), sl__law_spoiled⟩)
    (c__law_spoiled : PySem.W.codeIn K cd__law_spoiled "_law_spoiled" = true)
    (k__law_spoiled : PySem.W.keepIn K (.ref f__law_spoiled) = true)
    (a__law_rows_spoiled : PySem.W.nsIn K mainGlobals "_law_rows_spoiled" = some (some (.ref f__law_rows_spoiled)))
    (l__law_rows_spoiled : K.lookup f__law_rows_spoiled = some ⟨oc__law_rows_spoiled, od__law_rows_spoiled, .func (PySem.W.fnOf "_law_rows_spoiled" "_law_rows_spoiled" (defArgs s__law_rows_spoiled) (defBody s__law_rows_spoiled) (defScope s__law_rows_spoiled) .none kV__law_rows_spoiled dc__law_rows_spoiled pm__law_rows_spoiled an__law_rows_spoiled cd__law_rows_spoiled ct__law_rows_spoiled), sl__law_rows_spoiled⟩)
    (c__law_rows_spoiled : PySem.W.codeIn K cd__law_rows_spoiled "_law_rows_spoiled" = true)
    (k__law_rows_spoiled : PySem.W.keepIn K (.ref f__law_rows_spoiled) = true)
    (a__law_thing_spoiled : PySem.W.nsIn K mainGlobals "_law_thing_spoiled" = some (some (.ref f__law_thing_spoiled)))
    (l__law_thing_spoiled : K.lookup f__law_thing_spoiled = some ⟨oc__law_thing_spoiled, od__law_thing_spoiled, .func (PySem.W.fnOf "_law_thing_spoiled" "_law_thing_spoiled" (defArgs s__law_thing_spoiled) (defBody s__law_thing_spoiled) (defScope s__law_thing_spoiled) .none kV__law_thing_spoiled dc__law_thing_spoiled pm__law_thing_spoiled an__law_thing_spoiled cd__law_thing_spoiled ct__law_thing_spoiled), sl__law_thing_spoiled⟩)
    (c__law_thing_spoiled : PySem.W.codeIn K cd__law_thing_spoiled "_law_thing_spoiled" = true)
    (k__law_thing_spoiled : PySem.W.keepIn K (.ref f__law_thing_spoiled) = true)
    (a__law_read : PySem.W.nsIn K mainGlobals "_law_read" = some (some (.ref f__law_read)))
    (l__law_read : K.lookup f__law_read = some ⟨oc__law_read, od__law_read, .func (PySem.W.fnOf "_law_read" "_law_read" (defArgs s__law_read) (defBody s__law_read) (defScope s__law_read) .none kV__law_read dc__law_read pm__law_read an__law_read cd__law_read ct__law_read), sl__law_read⟩)
    (c__law_read : PySem.W.codeIn K cd__law_read "_law_read" = true)
    (k__law_read : PySem.W.keepIn K (.ref f__law_read) = true)
    (a_law : PySem.W.nsIn K mainGlobals "law" = some (some (.ref f_law)))
    (l_law : K.lookup f_law = some ⟨oc_law, od_law, .func (PySem.W.fnOf "law" "law" (defArgs s_law) (defBody s_law) (defScope s_law) .none kV_law dc_law pm_law an_law cd_law ct_law), sl_law⟩)
    (c_law : PySem.W.codeIn K cd_law "law" = true)
    (k_law : PySem.W.keepIn K (.ref f_law) = true)
    (z_ValueError : PySem.W.nsIn K mainGlobals "ValueError" = some none)
    (z_all : PySem.W.nsIn K mainGlobals "all" = some none)
    (z_bool : PySem.W.nsIn K mainGlobals "bool" = some none)
    (z_int : PySem.W.nsIn K mainGlobals "int" = some none)
    (z_isinstance : PySem.W.nsIn K mainGlobals "isinstance" = some none)
    (z_len : PySem.W.nsIn K mainGlobals "len" = some none)
    (z_max : PySem.W.nsIn K mainGlobals "max" = some none)
    (z_min : PySem.W.nsIn K mainGlobals "min" = some none)
    (z_range : PySem.W.nsIn K mainGlobals "range" = some none)
    (z_str : PySem.W.nsIn K mainGlobals "str" = some none)
    (z_tuple : PySem.W.nsIn K mainGlobals "tuple" = some none)
    (m_AskError : PySem.W.nsIn K mainGlobals "AskError" = some (some (.ref C_AskError)))
    (m_BadHouse : PySem.W.nsIn K mainGlobals "BadHouse" = some (some (.ref C_BadHouse)))
    (m_NoText : PySem.W.nsIn K mainGlobals "NoText" = some (some (.ref C_NoText)))
    (x_BadHouse : PySem.W.excIn K C_BadHouse bmV "ValueError.__new__" = true)
    (ga_BadHouse : PySem.W.findIn K (.ref C_BadHouse) "__getattribute__" = some (some (.builtin "BaseException.__getattribute__")))
    (hk_BadHouse : PySem.W.findIn K (.ref C_BadHouse) "__getattr__" = some none)
    {cd_BadHouse : ClassData}
    (cl_BadHouse : PySem.W.clsIn K C_BadHouse = some cd_BadHouse)
    (ca_BadHouse : PySem.W.findIn K (.ref C_BadHouse) "__class__" = some (some (.builtin "object.__class__")))
    (mo_BadHouse : PySem.W.mroIn K C_BadHouse (.type "object") = some true)
    (mb_BadHouse : PySem.W.mroIn K C_BadHouse (.type "BaseException") = some true)
    (e_BadHouse : PySem.W.exmOne K (.ref C_BadHouse) (.ref C_AskError) = some true)
    (v_BadHouse : PySem.W.kitOne K (.ref C_BadHouse) (.type "ValueError") = some true)
    (ee_BadHouse : PySem.W.exmOne K (.ref C_BadHouse) (.ref C_BadHouse) = some true)
    (k_BadHouse_AskError : PySem.W.kitOne K (.ref C_BadHouse) (.ref C_AskError) = some true)
    (k_BadHouse_BadHouse : PySem.W.kitOne K (.ref C_BadHouse) (.ref C_BadHouse) = some true)
    (k_BadHouse_NoText : PySem.W.kitOne K (.ref C_BadHouse) (.ref C_NoText) = some false)
    (x_NoText : PySem.W.excIn K C_NoText bmV "ValueError.__new__" = true)
    (ga_NoText : PySem.W.findIn K (.ref C_NoText) "__getattribute__" = some (some (.builtin "BaseException.__getattribute__")))
    (hk_NoText : PySem.W.findIn K (.ref C_NoText) "__getattr__" = some none)
    {cd_NoText : ClassData}
    (cl_NoText : PySem.W.clsIn K C_NoText = some cd_NoText)
    (ca_NoText : PySem.W.findIn K (.ref C_NoText) "__class__" = some (some (.builtin "object.__class__")))
    (mo_NoText : PySem.W.mroIn K C_NoText (.type "object") = some true)
    (mb_NoText : PySem.W.mroIn K C_NoText (.type "BaseException") = some true)
    (e_NoText : PySem.W.exmOne K (.ref C_NoText) (.ref C_AskError) = some true)
    (v_NoText : PySem.W.kitOne K (.ref C_NoText) (.type "ValueError") = some true)
    (ee_NoText : PySem.W.exmOne K (.ref C_NoText) (.ref C_NoText) = some true)
    (k_NoText_AskError : PySem.W.kitOne K (.ref C_NoText) (.ref C_AskError) = some true)
    (k_NoText_BadHouse : PySem.W.kitOne K (.ref C_NoText) (.ref C_BadHouse) = some false)
    (k_NoText_NoText : PySem.W.kitOne K (.ref C_NoText) (.ref C_NoText) = some true)
    (gs : PySem.W.specialIn K (.builtin "object.__class__") "__get__" = some (some (.builtin "getset_descriptor.__get__")))
    (tk : PySem.W.takesIn K (.builtin "object.__class__") = some true)
    : ∃ fd : FuncData, (∀ (s : Shared) (v : Value), BindsTo s fd ⟨[v], []⟩ [("script", v)]) /\ ∀ base : Heap, K.In base -> base.Ns mainGlobals mg -> FnOk l.prog w K mg base CX0 6 fa fd ["script"] (spLaw K) := by
  have e := hfa.symm.trans (PySem.W.mg_of X G a_law)
  cases e
  have T : Txt mg := ⟨PySem.W.mg_none_of X G z_ValueError, PySem.W.mg_none_of X G z_all, PySem.W.mg_none_of X G z_bool, PySem.W.mg_none_of X G z_int, PySem.W.mg_none_of X G z_isinstance, PySem.W.mg_none_of X G z_len, PySem.W.mg_none_of X G z_max, PySem.W.mg_none_of X G z_min, PySem.W.mg_none_of X G z_range, PySem.W.mg_none_of X G z_str, PySem.W.mg_none_of X G z_tuple⟩
  have Z : Exs K mg C_AskError C_BadHouse C_NoText := ⟨PySem.W.mg_of X G m_AskError, PySem.W.mg_of X G m_BadHouse, PySem.W.mg_of X G m_NoText, x_BadHouse, ⟨ga_BadHouse, hk_BadHouse, by rw [cl_BadHouse]; rfl, ca_BadHouse, gs, tk, mo_BadHouse, mb_BadHouse⟩, e_BadHouse, v_BadHouse, ee_BadHouse, k_BadHouse_AskError, k_BadHouse_BadHouse, k_BadHouse_NoText, x_NoText, ⟨ga_NoText, hk_NoText, by rw [cl_NoText]; rfl, ca_NoText, gs, tk, mo_NoText, mb_NoText⟩, e_NoText, v_NoText, ee_NoText, k_NoText_AskError, k_NoText_BadHouse, k_NoText_NoText⟩
  have W : Own K mg := ⟨⟨_, PySem.W.mg_of X G q_FIGURES⟩, ⟨_, PySem.W.mg_of X G q_MOST_FIGURES⟩, ⟨_, PySem.W.mg_of X G q_MOST_LETTERS⟩, ⟨_, PySem.W.mg_of X G q_MOST_MARK⟩, ⟨_, PySem.W.mg_of X G q_MOST_ROOMS⟩⟩
  have F_is_mark := fun_mk (st := s_is_mark) l_is_mark c_is_mark k_is_mark
  have b_is_mark := F_is_mark.binds (ps := ["number"]) fun _ _ _ _ _ _ us hl => match us, hl with | [_], _ => rfl
  have m_is_mark := PySem.W.mg_of X G a_is_mark
  have F_check_letters := fun_mk (st := s_check_letters) l_check_letters c_check_letters k_check_letters
  have b_check_letters := F_check_letters.binds (ps := ["letters"]) fun _ _ _ _ _ _ us hl => match us, hl with | [_], _ => rfl
  have m_check_letters := PySem.W.mg_of X G a_check_letters
  have F_check_marks := fun_mk (st := s_check_marks) l_check_marks c_check_marks k_check_marks
  have b_check_marks := F_check_marks.binds (ps := ["marks"]) fun _ _ _ _ _ _ us hl => match us, hl with | [_], _ => rfl
  have m_check_marks := PySem.W.mg_of X G a_check_marks
  have F_check_rooms := fun_mk (st := s_check_rooms) l_check_rooms c_check_rooms k_check_rooms
  have b_check_rooms := F_check_rooms.binds (ps := ["rooms"]) fun _ _ _ _ _ _ us hl => match us, hl with | [_], _ => rfl
  have m_check_rooms := PySem.W.mg_of X G a_check_rooms
  have F_check_ways := fun_mk (st := s_check_ways) l_check_ways c_check_ways k_check_ways
  have b_check_ways := F_check_ways.binds (ps := ["letters", "rooms", "ways"]) fun _ _ _ _ _ _ us hl => match us, hl with | [_, _, _], _ => rfl
  have m_check_ways := PySem.W.mg_of X G a_check_ways
  have F_made := fun_mk (st := s_made) l_made c_made k_made
  have b_made := F_made.binds (ps := ["letters", "marks", "ways"]) fun _ _ _ _ _ _ us hl => match us, hl with | [_, _, _], _ => rfl
  have m_made := PySem.W.mg_of X G a_made
  have F_read_number := fun_mk (st := s_read_number) l_read_number c_read_number k_read_number
  have b_read_number := F_read_number.binds (ps := ["text"]) fun _ _ _ _ _ _ us hl => match us, hl with | [_], _ => rfl
  have m_read_number := PySem.W.mg_of X G a_read_number
  have F_rows_in := fun_mk (st := s_rows_in) l_rows_in c_rows_in k_rows_in
  have b_rows_in := F_rows_in.binds (ps := ["text"]) fun _ _ _ _ _ _ us hl => match us, hl with | [_], _ => rfl
  have m_rows_in := PySem.W.mg_of X G a_rows_in
  have F_parts_behind := fun_mk (st := s_parts_behind) l_parts_behind c_parts_behind k_parts_behind
  have b_parts_behind := F_parts_behind.binds (ps := ["first", "count", "row"]) fun _ _ _ _ _ _ us hl => match us, hl with | [_, _, _], _ => rfl
  have m_parts_behind := PySem.W.mg_of X G a_parts_behind
  have F_read_count := fun_mk (st := s_read_count) l_read_count c_read_count k_read_count
  have b_read_count := F_read_count.binds (ps := ["text", "most"]) fun _ _ _ _ _ _ us hl => match us, hl with | [_, _], _ => rfl
  have m_read_count := PySem.W.mg_of X G a_read_count
  have F_read_letters := fun_mk (st := s_read_letters) l_read_letters c_read_letters k_read_letters
  have b_read_letters := F_read_letters.binds (ps := ["first", "row"]) fun _ _ _ _ _ _ us hl => match us, hl with | [_, _], _ => rfl
  have m_read_letters := PySem.W.mg_of X G a_read_letters
  have F_read_room := fun_mk (st := s_read_room) l_read_room c_read_room k_read_room
  have b_read_room := F_read_room.binds (ps := ["letters", "row"]) fun _ _ _ _ _ _ us hl => match us, hl with | [_, _], _ => rfl
  have m_read_room := PySem.W.mg_of X G a_read_room
  have F_read_house := fun_mk (st := s_read_house) l_read_house c_read_house k_read_house
  have b_read_house := F_read_house.binds (ps := ["text"]) fun _ _ _ _ _ _ us hl => match us, hl with | [_], _ => rfl
  have m_read_house := PySem.W.mg_of X G a_read_house
  have F__law_cell_at := fun_mk (st := s__law_cell_at) l__law_cell_at c__law_cell_at k__law_cell_at
  have b__law_cell_at := F__law_cell_at.binds (ps := ["script", "k"]) fun _ _ _ _ _ _ us hl => match us, hl with | [_, _], _ => rfl
  have m__law_cell_at := PySem.W.mg_of X G a__law_cell_at
  have F__law_whole := fun_mk (st := s__law_whole) l__law_whole c__law_whole k__law_whole
  have b__law_whole := F__law_whole.binds (ps := ["found"]) fun _ _ _ _ _ _ us hl => match us, hl with | [_], _ => rfl
  have m__law_whole := PySem.W.mg_of X G a__law_whole
  have F__law_draw := fun_mk (st := s__law_draw) l__law_draw c__law_draw k__law_draw
  have b__law_draw := F__law_draw.binds (ps := ["flow", "k", "many"]) fun _ _ _ _ _ _ us hl => match us, hl with | [_, _, _], _ => rfl
  have m__law_draw := PySem.W.mg_of X G a__law_draw
  have F__law_house_by := fun_mk (st := s__law_house_by) l__law_house_by c__law_house_by k__law_house_by
  have b__law_house_by := F__law_house_by.binds (ps := ["flow", "letters", "cell"]) fun _ _ _ _ _ _ us hl => match us, hl with | [_, _, _], _ => rfl
  have m__law_house_by := PySem.W.mg_of X G a__law_house_by
  have F__law_sound := fun_mk (st := s__law_sound) l__law_sound c__law_sound k__law_sound
  have b__law_sound := F__law_sound.binds (ps := ["found"]) fun _ _ _ _ _ _ us hl => match us, hl with | [_], _ => rfl
  have m__law_sound := PySem.W.mg_of X G a__law_sound
  have F__law_house_text := fun_mk (st := s__law_house_text) l__law_house_text c__law_house_text k__law_house_text
  have b__law_house_text := F__law_house_text.binds (ps := ["house"]) fun _ _ _ _ _ _ us hl => match us, hl with | [_], _ => rfl
  have m__law_house_text := PySem.W.mg_of X G a__law_house_text
  have F__law_sign_by := fun_mk (st := s__law_sign_by) l__law_sign_by c__law_sign_by k__law_sign_by
  have b__law_sign_by := F__law_sign_by.binds (ps := ["cell"]) fun _ _ _ _ _ _ us hl => match us, hl with | [_], _ => rfl
  have m__law_sign_by := PySem.W.mg_of X G a__law_sign_by
  have F__law_spoiled := fun_mk (st := s__law_spoiled) l__law_spoiled c__law_spoiled k__law_spoiled
  have b__law_spoiled := F__law_spoiled.binds (ps := ["text", "cell", "often"]) fun _ _ _ _ _ _ us hl => match us, hl with | [_, _, _], _ => rfl
  have m__law_spoiled := PySem.W.mg_of X G a__law_spoiled
  have F__law_rows_spoiled := fun_mk (st := s__law_rows_spoiled) l__law_rows_spoiled c__law_rows_spoiled k__law_rows_spoiled
  have b__law_rows_spoiled := F__law_rows_spoiled.binds (ps := ["text", "cell"]) fun _ _ _ _ _ _ us hl => match us, hl with | [_, _], _ => rfl
  have m__law_rows_spoiled := PySem.W.mg_of X G a__law_rows_spoiled
  have F__law_thing_spoiled := fun_mk (st := s__law_thing_spoiled) l__law_thing_spoiled c__law_thing_spoiled k__law_thing_spoiled
  have b__law_thing_spoiled := F__law_thing_spoiled.binds (ps := ["text", "cell"]) fun _ _ _ _ _ _ us hl => match us, hl with | [_, _], _ => rfl
  have m__law_thing_spoiled := PySem.W.mg_of X G a__law_thing_spoiled
  have F__law_read := fun_mk (st := s__law_read) l__law_read c__law_read k__law_read
  have b__law_read := F__law_read.binds (ps := ["text"]) fun _ _ _ _ _ _ us hl => match us, hl with | [_], _ => rfl
  have m__law_read := PySem.W.mg_of X G a__law_read
  have F_law := fun_mk (st := s_law) l_law c_law k_law
  have b_law := F_law.binds (ps := ["script"]) fun _ _ _ _ _ _ us hl => match us, hl with | [_], _ => rfl
  have m_law := PySem.W.mg_of X G a_law
  refine ⟨PySem.W.fnOf "law" "law" (defArgs s_law) (defBody s_law) (defScope s_law) .none kV_law dc_law pm_law an_law cd_law ct_law, fun s v => .of_eq rfl, fun base _ _ => ?_⟩
  have g_is_mark := ok_is_mark (P := l.prog) (w := w) (base := base) F_is_mark T W Z 
  have g_check_letters := ok_check_letters (P := l.prog) (w := w) (base := base) F_check_letters T W Z 
  have g_check_marks := ok_check_marks (P := l.prog) (w := w) (base := base) F_check_marks T W Z g_is_mark F_is_mark b_is_mark m_is_mark
  have g_check_rooms := ok_check_rooms (P := l.prog) (w := w) (base := base) F_check_rooms T W Z 
  have g_check_ways := ok_check_ways (P := l.prog) (w := w) (base := base) F_check_ways T W Z 
  have g_made := ok_made (P := l.prog) (w := w) (base := base) F_made T W Z g_check_letters F_check_letters b_check_letters m_check_letters g_check_marks F_check_marks b_check_marks m_check_marks g_check_rooms F_check_rooms b_check_rooms m_check_rooms g_check_ways F_check_ways b_check_ways m_check_ways
  have g_read_number := ok_read_number (P := l.prog) (w := w) (base := base) F_read_number T W Z 
  have g_rows_in := ok_rows_in (P := l.prog) (w := w) (base := base) F_rows_in T W Z 
  have g_parts_behind := ok_parts_behind (P := l.prog) (w := w) (base := base) F_parts_behind T W Z 
  have g_read_count := ok_read_count (P := l.prog) (w := w) (base := base) F_read_count T W Z g_read_number F_read_number b_read_number m_read_number
  have g_read_letters := ok_read_letters (P := l.prog) (w := w) (base := base) F_read_letters T W Z g_parts_behind F_parts_behind b_parts_behind m_parts_behind g_read_count F_read_count b_read_count m_read_count
  have g_read_room := ok_read_room (P := l.prog) (w := w) (base := base) F_read_room T W Z g_read_number F_read_number b_read_number m_read_number g_parts_behind F_parts_behind b_parts_behind m_parts_behind
  have g_read_house := ok_read_house (P := l.prog) (w := w) (base := base) F_read_house T W Z g_made F_made b_made m_made g_rows_in F_rows_in b_rows_in m_rows_in g_read_letters F_read_letters b_read_letters m_read_letters g_read_room F_read_room b_read_room m_read_room
  have g__law_cell_at := ok__law_cell_at (P := l.prog) (w := w) (base := base) F__law_cell_at T W Z 
  have g__law_whole := ok__law_whole (P := l.prog) (w := w) (base := base) F__law_whole T W Z 
  have g__law_draw := ok__law_draw (P := l.prog) (w := w) (base := base) F__law_draw T W Z 
  have g__law_house_by := ok__law_house_by (P := l.prog) (w := w) (base := base) F__law_house_by T W Z g__law_draw F__law_draw b__law_draw m__law_draw
  have g__law_sound := ok__law_sound (P := l.prog) (w := w) (base := base) F__law_sound T W Z g__law_whole F__law_whole b__law_whole m__law_whole
  have g__law_house_text := ok__law_house_text (P := l.prog) (w := w) (base := base) F__law_house_text T W Z 
  have g__law_sign_by := ok__law_sign_by (P := l.prog) (w := w) (base := base) F__law_sign_by T W Z 
  have g__law_spoiled := ok__law_spoiled (P := l.prog) (w := w) (base := base) F__law_spoiled T W Z g__law_sign_by F__law_sign_by b__law_sign_by m__law_sign_by
  have g__law_rows_spoiled := ok__law_rows_spoiled (P := l.prog) (w := w) (base := base) F__law_rows_spoiled T W Z 
  have g__law_thing_spoiled := ok__law_thing_spoiled (P := l.prog) (w := w) (base := base) F__law_thing_spoiled T W Z 
  have g__law_read := ok__law_read (P := l.prog) (w := w) (base := base) F__law_read T W Z g_read_house F_read_house b_read_house m_read_house g__law_sound F__law_sound b__law_sound m__law_sound g__law_house_text F__law_house_text b__law_house_text m__law_house_text
  have g_law := ok_law (P := l.prog) (w := w) (base := base) F_law T W Z g__law_cell_at F__law_cell_at b__law_cell_at m__law_cell_at g__law_house_by F__law_house_by b__law_house_by m__law_house_by g__law_house_text F__law_house_text b__law_house_text m__law_house_text g__law_spoiled F__law_spoiled b__law_spoiled m__law_spoiled g__law_rows_spoiled F__law_rows_spoiled b__law_rows_spoiled m__law_rows_spoiled g__law_thing_spoiled F__law_thing_spoiled b__law_thing_spoiled m__law_thing_spoiled g__law_read F__law_read b__law_read m__law_read
  exact g_law
theorem walk {l : PySem.W.OpenLaw} {q : Program} {loose : List Str} {XP : (Str -> Option Value) -> Heap -> Prop} {YP : World -> Heap -> Prop} {d : DefRec} {K : Params -> PySem.W.Frag} (hn : l.most = some 63) (hdf : d.params.defaults = [])
    (hY : ∀ (w : World) (h : Heap), YP w h -> (K w.params).In h)
    (F : ∀ (w : World) (mg : Str -> Option Value) (fa : Addr) (h : Heap), (K w.params).In h -> h.Ns mainGlobals mg -> mg d.name = some (.ref fa) ->
      ∃ fd : FuncData, (∀ (s : Shared) (u : Value), BindsTo s fd ⟨[u], []⟩ [("script", u)]) /\ ∀ base : Heap, (K w.params).In base -> base.Ns mainGlobals mg -> FnOk l.prog w (K w.params) mg base CX0 6 fa fd ["script"] (spLaw (K w.params))) :
    PySem.W.WalkO q loose XP YP l.row.toRowW d [] (fun f vs => PySem.call f vs) :=
  L2.walk_of (n := 63) (k := 6) (x := "script") (CX := fun _ => CX0) (sp := fun w => spLaw (K w.params)) hn (by decide) hdf ⟨rfl, by decide, by decide⟩ hY F (fun _ _ a ns hl _ hS => ⟨a, ns, rfl, hS, hl, fun _ => rfl⟩) fun _ _ _ _ _ z => z
end Mine
open PySem PySem.W PyProof.Rows
set_option maxRecDepth 100000 in
set_option maxHeartbeats 0 in
theorem PySem.Challenge.cw_guessroom_k46_whole_texts_of_houses_holds : PySem.Challenge.rw_guessroom_k46_whole_texts_of_houses.Holds := by
  w_on; o_law; k_head; (case hw => w_witness2)
  k_fill
  refine Mine.walk (l := PySem.Challenge.rw_guessroom_k46_whole_texts_of_houses) rfl rfl (fun w h Y => PySem.W.kIn_of Y) ?F
  case F =>
    intro w mg fa h KX G hmg
    refine' Mine.all_mk KX G hmg ?q_FIGURES ?q_MOST_FIGURES ?q_MOST_LETTERS ?q_MOST_MARK ?q_MOST_ROOMS ?a_is_mark ?l_is_mark ?c_is_mark ?k_is_mark ?a_check_letters ?l_check_letters ?c_check_letters ?k_check_letters ?a_check_marks ?l_check_marks ?c_check_marks ?k_check_marks ?a_check_rooms ?l_check_rooms ?c_check_rooms ?k_check_rooms ?a_check_ways ?l_check_ways ?c_check_ways ?k_check_ways ?a_made ?l_made ?c_made ?k_made ?a_read_number ?l_read_number ?c_read_number ?k_read_number ?a_rows_in ?l_rows_in ?c_rows_in ?k_rows_in ?a_parts_behind ?l_parts_behind ?c_parts_behind ?k_parts_behind ?a_read_count ?l_read_count ?c_read_count ?k_read_count ?a_read_letters ?l_read_letters ?c_read_letters ?k_read_letters ?a_read_room ?l_read_room ?c_read_room ?k_read_room ?a_read_house ?l_read_house ?c_read_house ?k_read_house ?a__law_cell_at ?l__law_cell_at ?c__law_cell_at ?k__law_cell_at ?a__law_whole ?l__law_whole ?c__law_whole ?k__law_whole ?a__law_draw ?l__law_draw ?c__law_draw ?k__law_draw ?a__law_house_by ?l__law_house_by ?c__law_house_by ?k__law_house_by ?a__law_sound ?l__law_sound ?c__law_sound ?k__law_sound ?a__law_house_text ?l__law_house_text ?c__law_house_text ?k__law_house_text ?a__law_sign_by ?l__law_sign_by ?c__law_sign_by ?k__law_sign_by ?a__law_spoiled ?l__law_spoiled ?c__law_spoiled ?k__law_spoiled ?a__law_rows_spoiled ?l__law_rows_spoiled ?c__law_rows_spoiled ?k__law_rows_spoiled ?a__law_thing_spoiled ?l__law_thing_spoiled ?c__law_thing_spoiled ?k__law_thing_spoiled ?a__law_read ?l__law_read ?c__law_read ?k__law_read ?a_law ?l_law ?c_law ?k_law ?z_ValueError ?z_all ?z_bool ?z_int ?z_isinstance ?z_len ?z_max ?z_min ?z_range ?z_str ?z_tuple ?m_AskError ?m_BadHouse ?m_NoText ?x_BadHouse ?ga_BadHouse ?hk_BadHouse ?cl_BadHouse ?ca_BadHouse ?mo_BadHouse ?mb_BadHouse ?e_BadHouse ?v_BadHouse ?ee_BadHouse ?k_BadHouse_AskError ?k_BadHouse_BadHouse ?k_BadHouse_NoText ?x_NoText ?ga_NoText ?hk_NoText ?cl_NoText ?ca_NoText ?mo_NoText ?mb_NoText ?e_NoText ?v_NoText ?ee_NoText ?k_NoText_AskError ?k_NoText_BadHouse ?k_NoText_NoText ?gs ?tk
    (case q_FIGURES => k_is)
    (case q_MOST_FIGURES => k_is)
    (case q_MOST_LETTERS => k_is)
    (case q_MOST_MARK => k_is)
    (case q_MOST_ROOMS => k_is)
    (case a_is_mark => k_is)
    (case l_is_mark => k_is)
    (case c_is_mark => k_is)
    (case k_is_mark => k_is)
    (case a_check_letters => k_is)
    (case l_check_letters => k_is)
    (case c_check_letters => k_is)
    (case k_check_letters => k_is)
    (case a_check_marks => k_is)
    (case l_check_marks => k_is)
    (case c_check_marks => k_is)
    (case k_check_marks => k_is)
    (case a_check_rooms => k_is)
    (case l_check_rooms => k_is)
    (case c_check_rooms => k_is)
    (case k_check_rooms => k_is)
    (case a_check_ways => k_is)
    (case l_check_ways => k_is)
    (case c_check_ways => k_is)
    (case k_check_ways => k_is)
    (case a_made => k_is)
    (case l_made => k_is)
    (case c_made => k_is)
    (case k_made => k_is)
    (case a_read_number => k_is)
    (case l_read_number => k_is)
    (case c_read_number => k_is)
    (case k_read_number => k_is)
    (case a_rows_in => k_is)
    (case l_rows_in => k_is)
    (case c_rows_in => k_is)
    (case k_rows_in => k_is)
    (case a_parts_behind => k_is)
    (case l_parts_behind => k_is)
    (case c_parts_behind => k_is)
    (case k_parts_behind => k_is)
    (case a_read_count => k_is)
    (case l_read_count => k_is)
    (case c_read_count => k_is)
    (case k_read_count => k_is)
    (case a_read_letters => k_is)
    (case l_read_letters => k_is)
    (case c_read_letters => k_is)
    (case k_read_letters => k_is)
    (case a_read_room => k_is)
    (case l_read_room => k_is)
    (case c_read_room => k_is)
    (case k_read_room => k_is)
    (case a_read_house => k_is)
    (case l_read_house => k_is)
    (case c_read_house => k_is)
    (case k_read_house => k_is)
    (case a__law_cell_at => k_is)
    (case l__law_cell_at => k_is)
    (case c__law_cell_at => k_is)
    (case k__law_cell_at => k_is)
    (case a__law_whole => k_is)
    (case l__law_whole => k_is)
    (case c__law_whole => k_is)
    (case k__law_whole => k_is)
    (case a__law_draw => k_is)
    (case l__law_draw => k_is)
    (case c__law_draw => k_is)
    (case k__law_draw => k_is)
    (case a__law_house_by => k_is)
    (case l__law_house_by => k_is)
    (case c__law_house_by => k_is)
    (case k__law_house_by => k_is)
    (case a__law_sound => k_is)
    (case l__law_sound => k_is)
    (case c__law_sound => k_is)
    (case k__law_sound => k_is)
    (case a__law_house_text => k_is)
    (case l__law_house_text => k_is)
    (case c__law_house_text => k_is)
    (case k__law_house_text => k_is)
    (case a__law_sign_by => k_is)
    (case l__law_sign_by => k_is)
    (case c__law_sign_by => k_is)
    (case k__law_sign_by => k_is)
    (case a__law_spoiled => k_is)
    (case l__law_spoiled => k_is)
    (case c__law_spoiled => k_is)
    (case k__law_spoiled => k_is)
    (case a__law_rows_spoiled => k_is)
    (case l__law_rows_spoiled => k_is)
    (case c__law_rows_spoiled => k_is)
    (case k__law_rows_spoiled => k_is)
    (case a__law_thing_spoiled => k_is)
    (case l__law_thing_spoiled => k_is)
    (case c__law_thing_spoiled => k_is)
    (case k__law_thing_spoiled => k_is)
    (case a__law_read => k_is)
    (case l__law_read => k_is)
    (case c__law_read => k_is)
    (case k__law_read => k_is)
    (case a_law => k_is)
    (case l_law => k_is)
    (case c_law => k_is)
    (case k_law => k_is)
    (case z_ValueError => k_is)
    (case z_all => k_is)
    (case z_bool => k_is)
    (case z_int => k_is)
    (case z_isinstance => k_is)
    (case z_len => k_is)
    (case z_max => k_is)
    (case z_min => k_is)
    (case z_range => k_is)
    (case z_str => k_is)
    (case z_tuple => k_is)
    (case m_AskError => k_is)
    (case m_BadHouse => k_is)
    (case m_NoText => k_is)
    (case x_BadHouse => k_exc)
    (case ga_BadHouse => k_is)
    (case hk_BadHouse => k_is)
    (case cl_BadHouse => k_is)
    (case ca_BadHouse => k_is)
    (case mo_BadHouse => k_is)
    (case mb_BadHouse => k_is)
    (case e_BadHouse => kts_exm)
    (case v_BadHouse => kit_is)
    (case ee_BadHouse => kts_exm)
    (case k_BadHouse_AskError => kit_is)
    (case k_BadHouse_BadHouse => kit_is)
    (case k_BadHouse_NoText => kit_is)
    (case x_NoText => k_exc)
    (case ga_NoText => k_is)
    (case hk_NoText => k_is)
    (case cl_NoText => k_is)
    (case ca_NoText => k_is)
    (case mo_NoText => k_is)
    (case mb_NoText => k_is)
    (case e_NoText => kts_exm)
    (case v_NoText => kit_is)
    (case ee_NoText => kts_exm)
    (case k_NoText_AskError => kit_is)
    (case k_NoText_BadHouse => kit_is)
    (case k_NoText_NoText => kit_is)
    (case gs => k_is)
    (case tk => k_is)
